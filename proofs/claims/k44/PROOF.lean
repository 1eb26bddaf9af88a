import PyProof.Rows.All
import Wide.All
import OpenK.KLine
import Wide.FinOn
import Lean
import PyProof.EqAt
import PyProof.EqKinds
import PyProof.TupleCall
import PyProof.NeKinds
import PyProof.Rows.Range3
import KE.KItem
import KE.KxBytes
import KE.KFromBytes
import PyProof.FitsBits
import PyProof.StationsW
import PyProof.NsDelKeeps
import PyProof.Rows.CatchOwn
import KE.KTryMore
import PyProof.ExcArgsOwn
import PyProof.ExcAttrAll.ValueError
import OpenK.KOwn
import PyProof.ZipIter
import PyProof.WalksEnum
import PyProof.EnumMake
import KE.KIntText
import PyProof.Conv_int
import PyProof.StrWalks
import PyProof.StrLawsFirst
import KE.KLam
import KE.KNestM
import KE.KRevIter
import PyProof.ListRange
import PyProof.Rows.SortWalk
import PyProof.Rows.SetFrom
import PyProof.FactsAll.set
import PyProof.Rows.SeqMore
import PyProof.FString
import PyProof.ExcClass3
import PyProof.ExcInit
import OpenK.KCls
import PyProof.InstStoreFacts
import PySem.Challenge.RW_mendfield_k44_whole_distance
open Array renaming length_toList→wL,append_assoc→yw,toList_append→WK
open Bool renaming and_eq_true→cK,or_true→e6,false_ne_true→iA,and_true→ky,true_and→kZ,false_and→qG,eq_iff_iff→qP,or_false→uu,false_eq_true→uF,not_false→xg,not_true→xh,true_or→xi,false_or→xj,eq_false_iff→Eu,and_false→JN,and_eq_true_iff→Kl
open Classical renaming byContradiction→qO
open Decidable renaming byContradiction→Kj
open Eq renaming trans→BI
open False renaming elim→gP
open ForInStep renaming yield→Ee
open Int renaming toNat_natCast→iC,emod_nonneg→jv,emod_lt_of_pos→jw,natAbs_natCast→jV,natCast_emod→qS,natCast_mul→qT,toNat_of_nonneg→wZ,natCast_add→yL,emod_eq_of_lt→BD,natCast_nonneg→JK,zero_add→JZ,fdiv_eq_ediv_of_nonneg→Wy
open List renaming range→aH,getD_eq_getElem?_getD→aL,getElem?_eq_getElem→aM,length_map→aW,replicate→aX,mem_map→bw,map_map→bx,all_cons→bA,getElem?_map→bM,length_range→bN,mem_range→bT,mem_cons→cw,map_cons→cI,all_eq_true→cJ,mem_append→cM,getElem_mem→cN,append_assoc→da,length_append→du,zipWith→dv,set_cons_zero→dw,size_toArray→dF,getElem?_eq_none→eE,length_replicate→eQ,map_append→eR,all_nil→eU,mem_cons_of_mem→e5,getElem_of_mem→fh,mem_append_right→fq,length_cons→ft,mem_singleton→fu,length_take→fZ,set_cons_succ→f7,append_nil→gu,mem_cons_self→gD,not_mem_nil→gE,map_nil→gR,getElem?_range→h9,mem_append_left→iz,length_drop→iD,lookup_cons→iE,cons_append→iF,nodup_cons→iZ,nil_append→ju,getElem?_eq_some_iff→kr,take_add_one→ku,length_zipWith→kA,mem_replicate→k6,range'→k7,mem_filter→mj,take_length→mq,map_congr_left→mv,length_eq_zero_iff→mw,getElem?_replicate→nC,cons.inj→nE,all_map→nF,mem_of_mem_drop→nG,getElem?_zipWith→oE,getElem?_set_ne→qF,getElem?_append_right→qJ,length_set→qK,length_singleton→qM,perm_append_comm→qQ,mem_of_mem_take→qR,getElem_map→qU,getElem?_cons_zero→qV,getElem?_cons_succ→qW,getElem?_set_self→um,of_mem_zip→uo,getElem?_append_left→uq,mem_of_getElem?→ur,replicate_succ→uv,getElem?_mapIdx→uz,pairwise_cons→uB,cons.injEq→uE,lookup→wN,flatten_cons→wR,foldl_cons→wU,take_of_length_le→wW,mem_map_of_mem→w9,length_nil→xb,length→yx,append_inj→yD,set_set→yE,ext_getElem?→yF,map→yG,length_zip→yM,foldl_append→yN,getElem_range→yO,nodup_range→yP,take_append_drop→yQ,map_replicate→yS,append_eq_nil_iff→Bu,getElem?_take→BA,zipWith_map→BB,ext_getElem→BC,contains_iff_mem→BE,pairwise_append→BG,pairwise_lt_range→BH,Pairwise.nil→Ea,any_eq_true→Ef,getElem?_drop→Ej,drop_eq_nil_of_le→Ek,map_zipWith→El,mem_or_eq_of_mem_set→Em,zip→Eo,pairwise_iff_getElem→Es,range'_succ→Et,flatMap_cons→Ew,flatMap_append→Ex,filterMap_cons→JI,getElem_inj→JJ,Sublist.refl→JR,Perm.swap→JS,eq_nil_iff_forall_not_mem→JT,mem_of_find?_eq_some→JV,map_drop→JW,map_take→JX,sum_cons→J1,zipWith_cons_cons→J2,sublist_cons_self→J3,filter_congr→J4,findIdx_lt_length_of_exists→J5,find?_eq_none→J6,range_succ→J7,Pairwise.filter→Ka,range_eq_range'→Ke,pairwise_singleton→Kf,mem_flatMap→Kg,drop_eq_getElem_cons→Kh,map_eq_nil_iff→Ki,map_fst_zip→Kk,flatMap_singleton→Km,mem_filterMap→Wx,getElem?_take_of_lt→WA,set_eq_of_length_le→WH,filter_eq_self→WI,range_succ_eq_map→WJ,zip_cons_cons→WL,findIdx_getElem→WM,findIdx?_eq_some_iff_getElem→WN,findIdx?_eq_none_iff→WO,countP_eq_length_filter→WQ,find?_eq_some_iff_append→WR,length_eraseIdx_of_lt→WS,length_pos_of_mem→WT,length_filter_le→WU,filter_eq_nil_iff→WV
open Nat renaming le_refl→cg,lt_of_lt_of_le→dE,ne_of_lt→fN,le_trans→fY,lt_irrefl→h7,zero_le→h8,xor_zero→mm,shiftLeft_eq→mn,pow_le_pow_right→nD,mul_comm→ow,pow_succ→oy,testBit_xor→oA,zero_xor→qN,xor_assoc→uw,lt_or_ge→uA,mul_assoc→wV,mod_lt→wY,add_comm→yA,two_pow_pos→yB,lt_of_le_of_lt→yC,not_lt→yH,mul_mod→yI,mod_eq_of_lt→yJ,mod_add_mod→yK,succ.inj→yR,le_of_lt→Bk,le_of_eq→Bl,lt_succ_self→Bo,eq_of_testBit_eq→Bq,testBit_zero→Br,xor_self→Bt,add_assoc→Bv,min_self→Bw,le_of_succ_le→BF,le_of_not_lt→D9,testBit_lt_two_pow→Eb,testBit_succ→Ec,strongRecOn→Ed,zero_add→Ep,one_shiftLeft→Ey,succ_mul→JO,xor_comm→JP,testBit_and→JQ,lt_succ_of_lt→JY,mod_mod→J0,lt_trichotomy→J8,sub_self→J9,add_sub_cancel_left→Kb,succ_pos→Kn,mul_le_mul→Ko,testBit_eq_decide_div_mod_eq→WB,shiftLeft_xor_distrib→WC,mul_lt_mul_right→WD,testBit_shiftLeft→WE,shiftRight_eq_div_pow→WG
open Ne renaming symm→iy
open Option renaming some.inj→cT,getD_some→oB,getD_none→qL,map_some→uC,some.injEq→uD,map_eq_some_iff→wX,map_none→xa,toList_some→JU,isSome_iff_exists→Wz
open Or renaming inl→aq,inr→bu
open PyProof renaming Rows.callWith_type1→wM
open PySem renaming Heap.lt_size→cu,PassesOwn.never→eG,Heap.get?_push_of_some→gQ,Value.ref→ix,Heap.get?_push_size→iB,Value.int→ou,Builtin.bitAnd→qH,Builtin.bitXor→qI,Heap.size_push→wQ,Obj.mapSeq→Bp,Value.none→D4,Value.bool→D6,SeqAt.EqAt→D7,Builtin.List.listTooLong→D8,Walks.list→Eg,Value.type.inj→Eh,Builtin.Str.strSliceIndices→Ei,NameKind.cell→Er,Calls.spliced_nil→JL,Calls.spliced_cons→JM,Calls.Name_function_global→Ww
open Sum renaming inl→wJ,inr→wK
open True renaming intro→wO
set_option Elab.async false
set_option linter.all false
set_option maxRecDepth 100000
local macro_rules | `(tactic| omega)=>`(tactic| lia)
noncomputable section
namespace L2
open PySem PySem.Spec PyProof.Rows
abbrev Key:=Sum Int Str
def Kp:Key->Value->Bool
 | .inl k,v=>Value.isInt k v
 | .inr x,v=>Value.isStrOf x v
def WW(w:World):Key->Int
 | .inl k=>hashInt k
 | .inr x=>hashStr w x
theorem oF:∀{k:Key} {v:Value},Kp k v=true->(∃i t,k=wJ i/\v=ou i t)\/(∃x t,k=wK x/\v=Value.str x t)
 | .inl i,v,h=>by
  obtain⟨t,e⟩:=Value.isInt_shape (k:=i) (v:=v) h
  exact .inl ⟨i,t,rfl,e⟩
 | .inr x,v,h=>by
  obtain⟨t,e⟩:=Value.isStrOf_shape (x:=x) (v:=v) h
  exact .inr ⟨x,t,rfl,e⟩
theorem WX(a b:Int):decide ((wJ a:Key)=wJ b)=(a==b):=by
 by_cases e:a=b
 ·subst e;simp
 ·have h:¬ (wJ a:Key)=wJ b:=λq=>e (Sum.inl.inj q)
  rw[decide_eq_false h]
  exact(beq_eq_false_iff_ne.mpr e).symm
theorem WY(a b:Str):decide ((wK a:Key)=wK b)=decide (a=b):=by
 by_cases e:a=b
 ·subst e;simp
 ·have h:¬ (wK a:Key)=wK b:=λq=>e (Sum.inr.inj q)
  rw[decide_eq_false h,decide_eq_false e]
theorem WZ(a:Int)(b:Str):decide ((wJ a:Key)=wK b)=false:=decide_eq_false (λq=>nomatch q)
theorem W0(a:Str)(b:Int):decide ((wK a:Key)=wJ b)=false:=decide_eq_false (λq=>nomatch q)
def Kq(prog:Program)(w:World):PySem.KeyKind prog w Key where
 is:=Kp
 hash:=WW w
 inj:=λv a b ha hb=>by
  rcases oF ha with⟨i,t,rfl,rfl⟩ | ⟨x,t,rfl,rfl⟩
  ·rcases oF hb with⟨j,u,rfl,e⟩ | ⟨y,u,rfl,e⟩
   ·injection e with e1 _;rw[e1]
   ·exact nomatch e
  ·rcases oF hb with⟨j,u,rfl,e⟩ | ⟨y,u,rfl,e⟩
   ·exact nomatch e
   ·injection e with e1 _;rw[e1]
 byValue:=λk v h=>by
  rcases oF h with⟨i,t,rfl,rfl⟩ | ⟨x,t,rfl,rfl⟩<;>rfl
 pyHash:=λhv h=>by
  rcases oF hv with⟨i,t,rfl,rfl⟩ | ⟨x,t,rfl,rfl⟩
  ·exact wpAny_pyHash_int h
  ·exact wpAny_pyHash_str h
 eqBool:=λhu hv h=>by
  rcases oF hu with⟨i,t,rfl,rfl⟩ | ⟨x,t,rfl,rfl⟩
  ·rcases oF hv with⟨j,u,rfl,rfl⟩ | ⟨y,u,rfl,rfl⟩
   ·rw[WX]at h;exact wpAny_eqBool_int h
   ·rw[WZ]at h;exact SeqAt.EqAt.int_str i t y u _ _ _ _ h
  ·rcases oF hv with⟨j,u,rfl,rfl⟩ | ⟨y,u,rfl,rfl⟩
   ·rw[W0]at h;exact SeqAt.EqAt.str_int x t j u _ _ _ _ h
   ·rw[WY]at h;exact wpAny_eqBool_str h
 «strs»:=λk x t v h=>by
  rcases oF h with⟨i,u,rfl,e⟩ | ⟨y,u,rfl,e⟩
  ·exact nomatch e
  ·injection e with e1 _
   subst e1
   cases v<;>rfl
end L2
namespace L2
open PySem PySem.Spec PyProof.Rows
inductive V where
 | az | bl (b:Bool) | int (i:Int) | str (x:Str) | BJ (b:Array UInt8) | uG (b:UInt64) | ref (a:Addr) | ty (n:String)
 deriving DecidableEq
def RelV:V->Value->Prop
 | .az,u=>u=D4
 | .bl b,u=>u=D6 b
 | .int i,u=>∃t,u=ou i t
 | .str x,u=>∃t,u=Value.str x t
 | .BJ b,u=>∃t,u=Value.bytes b t
 | .uG b,u=>∃t,u=Value.float b t
 | .ref a,u=>u=ix a
 | .ty n,u=>u=Value.type n
abbrev Vals:List V->List Value->Prop:=Paired RelV
theorem Vals.length{xs:List V}{us:List Value}(r:Vals xs us):xs.length=us.length:=Paired.length r
theorem Vals.get:∀{xs:List V} {us:List Value} {i:Nat} {x:V},Vals xs us->xs[i]?=some x->∃u,us[i]?=some u/\RelV x u
 | _,_,_,_,.nil,e=>by simp at e
 | _,_,0,_,.cons r _,e=>by simp at e;subst e;exact⟨_,rfl,r⟩
 | _,_,i+1,x,.cons _ t,e=>by
  obtain⟨u,h1,h2⟩:=Vals.get (i:=i) (x:=x) t (by simpa using e)
  exact⟨u,by simpa using h1,h2⟩
theorem Vals.set{x:V}{u:Value}(r:RelV x u):∀{xs:List V} {us:List Value} (i:Nat),Vals xs us->Vals (xs.set i x) (us.set i u)
 | _,_,_,.nil=>.nil
 | _,_,0,.cons _ t=>.cons r t
 | _,_,i+1,.cons q t=>.cons q (Vals.set r i t)
theorem Vals.append:∀{xs ys:List V} {us ws:List Value},Vals xs us->Vals ys ws->Vals (xs++ys) (us++ws)
 | _,_,_,_,.nil,s=>s
 | _,_,_,_,.cons r t,s=>.cons r (Vals.append t s)
theorem Vals.take:∀{xs:List V} {us:List Value} (n:Nat),Vals xs us->Vals (xs.take n) (us.take n)
 | _,_,0,_=>.nil
 | _,_,_+1,.nil=>.nil
 | _,_,n+1,.cons r t=>.cons r (Vals.take n t)
theorem Vals.drop:∀{xs:List V} {us:List Value} (n:Nat),Vals xs us->Vals (xs.drop n) (us.drop n)
 | _,_,0,r=>r
 | _,_,_+1,.nil=>.nil
 | _,_,n+1,.cons _ t=>Vals.drop n t
def nH:Option V->Option Value->Prop
 | some v,some u=>RelV v u
 | none,none=>True
 | _,_=>False
def KV{κ:Type}:List (κ × V)->List (κ × Value)->Prop:=Paired λ(p:κ × V) (q:κ × Value)=>p.1=q.1/\RelV p.2 q.2
def kV:Key->V
 | .inl i=>.int i
 | .inr x=>.str x
inductive HO where
 | lst (xs:List V)
 | tup (xs:List V)
 | dK (eX:List (Key × V)) | dT (eX:List (List Key × V))
 | set (S:Int->Bool) (n:Nat)
 | ins (C dx:Addr) (fs:List (Str × V))
 | own (x:Addr)
 | xd (fs:List (Str × V))
 | met (f x:Addr)
 | BK (lo hi:Int)
 | cU (o:Obj) (u:HO)
 | dG (ps:Array Value)
 | ext (φ:Heap->Prop)
abbrev Hp:=Addr->Option HO
def upd(H:Hp)(a:Addr)(o:HO):Hp:=λb=>if b=a then some o else H b
theorem de{H:Hp}{a:Addr}{o:HO}:upd H a o a=some o:=by unfold upd;rw[if_pos rfl]
theorem bt{H:Hp}{a b:Addr}{o:HO}(h:b≠a):upd H a o b=H b:=by unfold upd;rw[if_neg h]
theorem eH{H:Hp}{a b:Addr}{o:HO}(h:H a=some o)(h':H b=none):a≠b:=by
 intro e;subst e;rw[h]at h';cases h'
section
variable(P:Program)(w:World)
def fi(H:Hp)(h:Heap)(a:Addr):HO->Prop
 | .lst xs=>xs.length<=sizeLine/\∃(its:List Value) (n:Nat),Vals xs its/\h.get? a=some { cls:=.type "list",data:=.seq its.toArray n }
 | .tup xs=>xs.length<=sizeLine/\∃its:List Value,Vals xs its/\IsTup h a its.toArray
 | .dK eX=>eX.length<=sizeLine/\(a==sysModules)=false/\∃vs,KV eX vs/\h.DictOf (Kq P w) a vs
 | .dT eX=>eX.length<=sizeLine/\(a==sysModules)=false/\∃xs:List (List Key × Addr × Value),
   Paired (λ(p:List Key × V) (q:List Key × Addr × Value)=>p.1=q.1/\H q.2.1=some (.tup (p.1.map kV))/\RelV p.2 q.2.2) eX xs /\
   ∃o es ep,h.get? a=some o/\o.ExactDict/\o.data=.dict es ep/\es.toList=xs.map (entryOfKey (tupleKind (Kq P w)))/\(xs.map (·.1)).Nodup
 | .set S n=>h.SetOf (intKind P w) a S n
 | .ins C dx fs=>H dx=some (.own a)/\fs.length<=1000/\dx≠a/\h.get? a=some (PySem.W.instObj C dx) /\
   ∃mA,h.Ns1 dx mA/\(∀f,nH (fs.lookup f) (mA f))/\PySem.Within mA (fs.map (·.1))
 | .own _=>∃o,h.get? a=some o
 | .xd fs=>∃mA,h.Ns1 a mA/\∀f,nH (fs.lookup f) (mA f)
 | .BK lo hi=>∃t u v,h.get? a=some { cls:=.type "range",data:=.fields #[.int lo t,.int hi u,.int 1 v] }
 | .cU o u=>h.get? a=some o/\fi H h a u
 | .dG ps=>h.get? a=some { cls:=.none,data:=.fields ps }/\TriplesOk ps.toList/\∀pos cv,codeAmong pos ps.toList=some cv->∃c φ,cv=.ref c/\H c=some (.ext φ)/\∀h',φ h'->∃q,h'.CodeRec (.ref c) q
 | .met f x=>h.get? a=some (PySem.W.methodObj (.ref f) (.ref x))
 | .ext φ=>φ h/\(∃o,h.get? a=some o)/\∀h1 h2:Heap,φ h1->(∀b o,(b=a\/H b=some (.own a))->h1.get? b=some o->h2.get? b=some o)->φ h2
def dO(H:Hp)(h:Heap):Prop:=∀a o,H a=some o->fi P w H h a o
end
section
variable{P:Program}{w:World}{H H':Hp}{h h':Heap}{a:Addr}{o:HO}
theorem fi.lt(x:fi P w H h a o):a<h.objs.size:=by
 cases o with
 | lst xs=>obtain⟨_,_,_,_,e⟩:=x;exact cu e
 | tup xs=>obtain⟨_,_,_,p⟩:=x;exact p.lt
 | dK eX=>obtain⟨_,_,_,_,o,_,_,e,_⟩:=x;exact cu e
 | dT eX=>obtain⟨_,_,_,_,o,_,_,e,_⟩:=x;exact cu e
 | set S n=>obtain⟨o,_,_,_,e,_⟩:=x;exact cu e
 | ins C dx fs=>obtain⟨_,_,_,e,_⟩:=x;exact cu e
 | own y=>obtain⟨_,e⟩:=x;exact cu e
 | xd fs=>obtain⟨_,⟨_,_,_,e,_⟩,_⟩:=x;exact cu e
 | BK lo hi=>obtain⟨_,_,_,e⟩:=x;exact cu e
 | cU ob u=>obtain⟨e,_⟩:=x;exact cu e
 | dG ps=>exact cu (show h.get? a=some _ from x.1)
 | met f y=>exact cu (show h.get? a=some _ from x)
 | ext φ=>obtain⟨_,⟨_,e⟩,_⟩:=x;exact cu e
theorem Paired.Ez{α β:Type}{F G:α->β->Prop}:∀{l₁:List α} {l₂:List β},Paired F l₁ l₂->(∀a b,F a b->G a b)->Paired G l₁ l₂
 | _,_,.nil,_=>.nil
 | _,_,.cons r t,f=>.cons (f _ _ r) (Paired.Ez t f)
theorem fi.nI(x:fi P w H h a o)(k:∀b u,(b=a\/H b=some (.own a))->h.get? b=some u->h'.get? b=some u)
  (ho:∀b,H b=some (.own a)->H' b=some (.own a)) (ht:∀b xs,H b=some (.tup xs)->H' b=some (.tup xs)) (hx:∀b φ,H b=some (.ext φ)->H' b=some (.ext φ)):fi P w H' h' a o:=by
 induction o with
 | lst xs=>obtain⟨z,its,n,r,e⟩:=x;exact⟨z,its,n,r,k _ _ (.inl rfl) e⟩
 | tup xs=>obtain⟨z,its,r,ob,e,c⟩:=x;exact⟨z,its,r,ob,k _ _ (.inl rfl) e,c⟩
 | dK eX=>obtain⟨z,y,vs,r,ob,es,ep,e,c⟩:=x;exact⟨z,y,vs,r,ob,es,ep,k _ _ (.inl rfl) e,c⟩
 | dT eX =>
  obtain⟨z,y,xs,r,ob,es,ep,e,c⟩:=x
  exact⟨z,y,xs,Paired.Ez r λp q z=>⟨z.1,ht _ _ z.2.1,z.2.2⟩,ob,es,ep,k _ _ (.inl rfl) e,c⟩
 | set S n=>obtain⟨ob,es,ep,t,e,c⟩:=x;exact⟨ob,es,ep,t,k _ _ (.inl rfl) e,c⟩
 | ins C dx fs =>
  obtain⟨d,z,ne,e,mA,⟨od,es,ep,e2,c⟩,r⟩:=x
  exact⟨ho _ d,z,ne,k _ _ (.inl rfl) e,mA,⟨od,es,ep,k _ _ (.inr d) e2,c⟩,r⟩
 | own y=>obtain⟨ob,e⟩:=x;exact⟨ob,k _ _ (.inl rfl) e⟩
 | xd fs=>obtain⟨mA,⟨od,es,ep,e,c⟩,r⟩:=x;exact⟨mA,⟨od,es,ep,k _ _ (.inl rfl) e,c⟩,r⟩
 | BK lo hi=>obtain⟨t,u,v,e⟩:=x;exact⟨t,u,v,k _ _ (.inl rfl) e⟩
 | cU ob u ih=>obtain⟨e,q⟩:=x;exact⟨k _ _ (.inl rfl) e,ih q⟩
 | dG ps =>
  obtain⟨e,t,c⟩:=x
  refine⟨k a _ (.inl rfl) e,t,λpos cv q=>?_⟩
  obtain⟨d,φ,e1,e2,e3⟩:=c pos cv q
  exact⟨d,φ,e1,hx _ _ e2,e3⟩
 | met f y =>
  have e:h.get? a=some (PySem.W.methodObj (.ref f) (.ref y)):=x
  show h'.get? a=some (PySem.W.methodObj (.ref f) (.ref y))
  exact k a _ (.inl rfl) e
 | ext φ=>obtain⟨p,⟨o,e⟩,st⟩:=x;exact⟨st _ _ p λb o hb q=>k _ _ hb q,⟨o,k _ _ (.inl rfl) e⟩,λh1 h2 p1 kk=>st h1 h2 p1 λb o hb q=>kk b o (hb.imp id (ho b)) q⟩
theorem dO.lt(x:dO P w H h)(e:H a=some o):a<h.objs.size:=(x a o e).lt
theorem dO.fresh(x:dO P w H h)(e:h.objs.size<=a):H a=none:=by
 cases q:H a with
 | none=>rfl
 | some u=>exact absurd (dE (x.lt q) e) (h7 _)
theorem dO.kept(x:dO P w H h)(k:∀b u,h.get? b=some u->h'.get? b=some u):dO P w H h':=λa o e =>
 (x a o e).nI (λb u _ q=>k b u q) (λ_ q=>q) (λ_ _ q=>q) λ_ _ q=>q
theorem dO.laid(x:dO P w H h)(k:∀b u,h.get? b=some u->h'.get? b=some u)(hp:h.objs.size<=a)(new:fi P w (upd H a o) h' a o):dO P w (upd H a o) h':=λb u e=>by
 have hn:=x.fresh hp
 by_cases hb:b=a
 ·subst hb;rw[de]at e;cases e;exact new
 ·rw[bt hb]at e
  exact(x b u e).nI (λc v _ q=>k c v q) (λc q=>by rw[bt (eH q hn)];exact q) (λc xs q=>by rw[bt (eH q hn)];exact q) λc xs q=>by rw[bt (eH q hn)];exact q
end
def Rd(H:Hp)(a:Addr)(u:HO):Prop:=H a=some u\/∃o,H a=some (.cU o u)
theorem Rd.ok{P:Program}{w:World}{H:Hp}{h:Heap}{a:Addr}{u:HO}(r:Rd H a u)(x:dO P w H h):fi P w H h a u:=by
 rcases r with r | ⟨o,r⟩
 ·exact x a u r
 ·obtain⟨_,q⟩:=x a _ r
  exact q
def BL:Option HO->Prop
 | some (.lst _)=>True
 | some (.dK _)=>True
 | some (.dT _)=>True
 | some (.set _ _)=>True
 | some (.ins _ _ _)=>True
 | _=>False
section
variable{P:Program}{w:World}{H:Hp}{h h':Heap}{x e:Addr}{o':HO}
theorem dO.write(ok:dO P w H h)(mu:BL (H x))(he:e=x\/H e=some (.own x))(k:∀b u,b≠e->h.get? b=some u->h'.get? b=some u)(xk:∃u,h'.get? e=some u)
  (new:fi P w (upd H x o') h' x o'):dO P w (upd H x o') h':=λb u q=>by
 have Kr:∀c y,H c=some (.own y)->c≠x:=λc y r z=>by subst z;rw[r]at mu;exact mu
 have W2:∀c xs,H c=some (.tup xs)->c≠x:=λc xs r z=>by subst z;rw[r]at mu;exact mu
 by_cases hb:b=x
 ·subst hb;rw[de]at q;cases q;exact new
 ·rw[bt hb]at q
  by_cases uH:b=e
  ·have q':H b=some (.own x):=by
    rcases he with z | z
    ·exact absurd (uH.trans z) hb
    ·rw[uH];exact z
   rw[q]at q';cases q'
   obtain⟨v,hv⟩:=xk
   exact⟨v,by rw[uH];exact hv⟩
  ·refine(ok b u q).nI (λc v hc r=>k c v ?_ r) (λc r=>by rw[bt (Kr c b r)];exact r) (λc xs r=>by rw[bt (W2 c xs r)];exact r) λc φ r=>by rw[bt (λz=>by rw[z]at r;rw[r]at mu;exact mu)];exact r
   rcases hc with rfl | hc
   ·exact uH
   ·rintro rfl
    rcases he with z | z
    ·exact Kr c b hc z
    ·rw[hc]at z;cases z;exact hb rfl
end
structure Un(fs ex:List Addr)(H H':Hp)(h h':Heap):Prop where
 keep:∀b o,h.get? b=some o->H b=none->b ∉ fs->b ∉ ex->h'.get? b=some o
 slot:∀b o,h.get? b=some o->H b=none->b∈fs->b ∉ ex->∃sl,h'.get? b=some { o with slots:=sl }
 free:∀b o,h.get? b=some o->H b=none->b ∉ ex->H' b=none
 there:∀b o,h.get? b=some o->b ∉ ex->∃o',h'.get? b=some o'
 mx:∀b xs,H b=some (.tup xs)->H' b=some (.tup xs)
 k8:∀b o u,H b=some (.cU o u)->H' b=some (.cU o u)
 jW:∀b ps,H b=some (.dG ps)->∃more,H' b=some (.dG (ps++more))
section
variable{fs W3 ex ex':List Addr}{H H1 H2:Hp}{h h1 h2 h':Heap}{a x e:Addr}{o:HO}
theorem Un.any(u:Un fs ex H H1 h h1){b:Addr}{ob:Obj}(q:h.get? b=some ob)(n:H b=none)(hx:b ∉ ex):∃sl,h1.get? b=some { ob with slots:=sl }:=by
 by_cases hb:b∈fs
 ·exact u.slot b ob q n hb hx
 ·exact⟨ob.slots,u.keep b ob q n hb hx⟩
theorem Un.kept(k:∀b u,h.get? b=some u->h'.get? b=some u):Un fs ex H H h h' :=
 ⟨λb ob q _ _ _=>k b ob q,λb ob q _ _ _=>⟨ob.slots,k b ob q⟩,λ_ _ _ n _=>n,λb ob q _=>⟨ob,k b ob q⟩,λ_ _ q=>q,λ_ _ _ q=>q,λ_ ps q=>⟨#[],by rw[q];simp⟩⟩
theorem Un.refl:Un fs ex H H h h:=Un.kept λ_ _ q=>q
theorem Un.laid(k:∀b u,h.get? b=some u->h'.get? b=some u)(hp:h.objs.size<=a)(hn:H a=none):Un fs ex H (upd H a o) h h' where
 keep:=λb u q _ _ _=>k b u q
 slot:=λb u q _ _ _=>⟨u.slots,k b u q⟩
 free:=λb u q n _=>by rw[bt (fN (dE (cu q) hp))];exact n
 there:=λb u q _=>⟨u,k b u q⟩
 mx:=λb xs q=>by rw[bt (eH q hn)];exact q
 k8:=λb u xs q=>by rw[bt (eH q hn)];exact q
 jW:=λb ps q=>⟨#[],by rw[bt (eH q hn),q];simp⟩
theorem Un.write(mu:BL (H x))(he:e=x\/H e=some (.own x))(k:∀b u,b≠e->h.get? b=some u->h'.get? b=some u)(xk:∃u,h'.get? e=some u):Un fs ex H (upd H x o) h h':=by
 have hx:∀b,H b=none->b≠x:=λb n z=>by subst z;rw[n]at mu;exact mu
 have hb:∀b,H b=none->b≠e:=λb n z=>by
  subst z
  rcases he with r | r
  ·exact hx b n r
  ·rw[n]at r;cases r
 have hm:∀b u,H b=some u->¬ BL (some u)->b≠x:=λb u q nm z=>by subst z;rw[q]at mu;exact nm mu
 refine⟨λb u q n _ _=>k b u (hb b n) q,λb u q n _ _=>⟨u.slots,k b u (hb b n) q⟩,λb u q n _=>by rw[bt (hx b n)];exact n,λb u q _=>?_,
  λb xs q=>by rw[bt (hm b _ q λz=>z)];exact q,λb u xs q=>by rw[bt (hm b _ q λz=>z)];exact q,λb ps q=>⟨#[],by rw[bt (hm b _ q λz=>z),q];simp⟩⟩
 by_cases uH:b=e
 ·subst uH;exact xk
 ·exact⟨u,k b u uH q⟩
end
def BM(h:Heap)(H:Hp):List Addr:=(aH h.objs.size).filter λa=>(H a).isSome
def nJ(h:Heap)(H:Hp):Heap:=PySem.W.hideAll h (BM h H)
theorem W4(h:Heap)(H:Hp):(nJ h H).objs.size=h.objs.size:=PySem.W.hideAll_size _ _
theorem W5{h:Heap}{H:Hp}{b:Addr}{o:Obj}(e:h.get? b=some o)(n:H b=none):(nJ h H).get? b=some o :=
 PySem.W.hideAll_get _ e λhm=>by
  have q:(H b).isSome=true:=(mj.mp hm).2
  rw[n]at q;simp at q
theorem W6{h:Heap}{H:Hp}{b:Addr}{o:Obj}(e:(nJ h H).get? b=some o):h.get? b=some o/\H b=none:=by
 have e':h.get? b=some o:=PySem.W.of_hideAll (BM h H) e
 refine⟨e',?_⟩
 cases q:H b with
 | none=>rfl
 | some x =>
  have hm:b∈BM h H:=mj.mpr ⟨bT.mpr (cu e'),by simp[q]⟩
  have z:(nJ h H).get? b=none:=PySem.W.hideAll_none (BM h H) hm
  rw[z]at e;cases e
end L2
namespace L2
open PySem PySem.Spec PyProof.Rows
structure Mod(K:PySem.W.Frag)(mg:Str->Option Value)(base:Heap):Prop where
 xm:K.In base
 glob:base.Ns mainGlobals mg
 blt:∃mb,base.Ns builtinsNs mb/\∀x:Str,x≠"__name__"->mb x=bootBuiltins x
 nolimit:base.NoLimit
structure Cx where
 prog:Program
 w:World
 K:PySem.W.Frag
 mg:Str->Option Value
 base:Heap
 A:Around
 N:List Str
 e7:Shared
 oG:Hp
 env:Env
 outer:List Env
 stack:List Env
 ex:List Addr
 fn:Str->Bool
 calm:Bool
 pn:List (Addr × Obj)
 xe:Value->Shared->Prop
def jX(l:List Env):List Addr:=l.filterMap (·.frame)
abbrev Cx.fs(X:Cx):List Addr:=jX X.outer
def jY(sc:Scope)(x:Str):Prop:=sc.names.lookup x=some .local\/sc.names.lookup x=some .cell\/sc.names.lookup x=some .free
def Loc(sc:Scope)(x:Str):Prop:=sc.names.lookup x=some .local\/sc.names.lookup x=some .cell
def W7(env:Env)(h:Heap)(m:Str->Option Value)(x:Str)(u:Value):Prop :=
 (env.kindOf x=some .local/\m x=some u)\/((env.kindOf x=some .cell\/env.kindOf x=some .free)/\∃c,env.cells.lookup x=some c/\h.IsCell c (some u))
structure Cx.Ok(X:Cx):Prop where
 mod:Mod X.K X.mg X.base
 kind:X.env.scope.kind=.function
 glob:X.env.globals=mainGlobals
 blt:X.env.builtins=builtinsNs
 above:X.e7.heap.objs.size<=X.env.locals
 inj:∀x y c,X.env.cells.lookup x=some c->X.env.cells.lookup y=some c->x=y
 has:∀x,(X.env.kindOf x=some .cell\/X.env.kindOf x=some .free)->∃c,X.env.cells.lookup x=some c
 uI:∀x c,X.fn x=true->X.env.cells.lookup x=some c->X.e7.heap.objs.size<=c
 hd:X.calm=true->X.A.handled=none
 frames:X.A.frames=some X.stack
 yT:X.stack=X.outer\/(X.stack=X.env::X.outer/\X.env.frame=some X.env.locals)
 yU:∀b∈X.ex,b≠X.env.locals/\∀x c,X.env.cells.lookup x=some c->c≠b
 bs:∀b o,X.base.get? b=some o->X.e7.heap.get? b=some o/\X.oG b=none
 k9:X.base.objs.size<=X.e7.heap.objs.size
 xn:∀b o,X.base.get? b=some o->b ∉ X.ex
 xo:∀b∈X.ex,b ∉ X.fs
 iG:X.e7.heap.FunFrames X.base X.outer
 lh:∀b∈X.fs,X.oG b=none
structure Inv(X:Cx)(pins:List (Addr × Obj))(σ:List (Option V))(H:Hp)(s:Shared):Prop where
 ok:X.Ok
 os:s.os=X.e7.os
 bare:AllBare s.gens
 base:Un X.fs X.ex X.oG H X.e7.heap s.heap
 loc:∃m,s.heap.Ns X.env.locals m/\∀(i:Nat) (x:Str) (v:V),X.N[i]?=some x->σ[i]?=some (some v)->jY X.env.scope x->∃u,RelV v u/\W7 X.env s.heap m x u
 cell:∀x c,X.env.cells.lookup x=some c->∃v,s.heap.IsCell c v
 free:H X.env.locals=none
 kB:∀x c,X.env.cells.lookup x=some c->H c=none
 pin:∀p∈X.pn++pins,s.heap.get? p.1=some p.2/\H p.1=none/\p.1≠X.env.locals/\p.1 ∉ X.fs/\∀v,p.2.data≠.cell v
 aZ:dO X.prog X.w H s.heap
 len:σ.length=X.N.length
section
variable{X:Cx}{pins:List (Addr × Obj)}{σ:List (Option V)}{H H':Hp}{s:Shared}{h':Heap}
theorem Cx.Ok.W8(ok:X.Ok){b:Addr}{o:Obj}(e:X.base.get? b=some o):b ∉ X.fs:=λhb=>by
 have:=(ok.iG.mem hb).1
 rw[e]at this;cases this
theorem Inv.bs(I:Inv X pins σ H s):∀b o,X.base.get? b=some o->s.heap.get? b=some o/\H b=none:=λb o e =>
 ⟨I.base.keep b o (I.ok.bs b o e).1 (I.ok.bs b o e).2 (I.ok.W8 e) (I.ok.xn b o e),I.base.free b o (I.ok.bs b o e).1 (I.ok.bs b o e).2 (I.ok.xn b o e)⟩
theorem Inv.bk(I:Inv X pins σ H s):∀b o,X.base.get? b=some o->s.heap.get? b=some o:=λb o e=>(I.bs b o e).1
theorem Inv.mod(I:Inv X pins σ H s):Mod X.K X.mg X.base:=I.ok.mod
theorem Inv.dU(I:Inv X pins σ H s):X.K.In s.heap:=I.ok.mod.xm.keeps I.bk
theorem Inv.lt(I:Inv X pins σ H s):X.env.locals<s.heap.objs.size:=let⟨_,hn,_⟩:=I.loc;hn.lt
theorem Inv.sz(I:Inv X pins σ H s):X.e7.heap.objs.size<=s.heap.objs.size:=fY I.ok.above (Bk I.lt)
theorem Inv.Ks(I:Inv X pins σ H s){a:Addr}(h:s.heap.objs.size<=a):a ∉ X.fs:=λhb=>by
 obtain⟨_,o,ho,_⟩:=I.ok.iG.mem hb
 exact absurd (dE (cu ho) (fY I.sz h)) (h7 _)
theorem Inv.qX(I:Inv X pins σ H s):∀x c,X.env.cells.lookup x=some c->c≠X.env.locals:=λx c e z=>by
 obtain⟨v,o,ho,hd⟩:=I.cell x c e
 obtain⟨m,⟨o',es,ep,my,yV,_⟩,_⟩:=I.loc
 rw[z,my]at ho;cases ho;rw[yV]at hd;cases hd
theorem Inv.iG(I:Inv X pins σ H s):s.heap.FunFrames X.base X.outer:=by
 have all:∀(l:List Env),(∀b∈jX l,b∈X.fs)->X.e7.heap.FunFrames X.base l->s.heap.FunFrames X.base l:=by
  intro l
  induction l with
  | nil=>intro _ _;trivial
  | cons env r ih =>
   intro hs hl
   obtain⟨hk,⟨L,o,hf,hn,ho,hd⟩,hr⟩:=hl
   have hL:L∈X.fs:=hs L (by unfold jX;rw[JI,hf];exact gD)
   obtain⟨sl,e⟩:=I.base.slot L o ho (I.ok.lh L hL) hL λz=>I.ok.xo L z hL
   exact⟨hk,⟨L,_,hf,hn,e,hd⟩,ih (λb hb=>hs b (by unfold jX;rw[JI,hf];exact e5 _ hb)) hr⟩
 exact all X.outer (λ_ hb=>hb) I.ok.iG
theorem Inv.stack(I:Inv X pins σ H s):s.heap.FunFrames X.base X.stack:=by
 rcases I.ok.yT with e | ⟨e,hf⟩
 ·rw[e];exact I.iG
 ·rw[e]
  obtain⟨m,hn,_⟩:=I.loc
  refine .cons (by rw[I.ok.kind];decide) hf hn ?_ I.iG
  exact Heap.get?_none_of_le (fY I.ok.k9 I.ok.above)
theorem Inv.BN(I:Inv X pins σ H s):∀b∈jX X.stack,b∈X.env.locals::X.fs:=λb hb=>by
 rcases I.ok.yT with e | ⟨e,hf⟩
 ·rw[e]at hb;exact e5 _ hb
 ·rw[e]at hb
  unfold jX at hb
  rw[JI,hf]at hb
  exact hb
theorem Inv.Kt(I:Inv X pins σ H s):∀b∈jX X.stack,H b=none:=λb hb=>by
 rcases cw.mp (I.BN b hb)with e | hb
 ·rw[e];exact I.free
 ·obtain⟨_,o,ho,_⟩:=I.ok.iG.mem hb
  exact I.base.free b o ho (I.ok.lh b hb) λz=>I.ok.xo b z hb
theorem Inv.step{g':Array GenState}{t':Nat}{d':Drawn}{ch:List Addr}(I:Inv X pins σ H s)
  (nK:∀b∈ch,(b∈X.ex\/X.e7.heap.objs.size<=b)/\b≠X.env.locals/\(∀x c,X.env.cells.lookup x=some c->c≠b)/\∀p∈X.pn++pins,p.1≠b)
  (keep:∀b o,b≠X.env.locals->b ∉ X.fs->b ∉ ch->s.heap.get? b=some o->H b=none->h'.get? b=some o)
  (slot:∀b o,b≠X.env.locals->b∈X.fs->b ∉ ch->s.heap.get? b=some o->H b=none->∃sl,h'.get? b=some { o with slots:=sl }) (free:∀b o,b ∉ ch->s.heap.get? b=some o->H b=none->H' b=none)
  (there:∀b o,b ∉ ch->s.heap.get? b=some o->∃o',h'.get? b=some o')
  (mx:∀b xs,H b=some (.tup xs)->H' b=some (.tup xs)) (k8:∀b o u,H b=some (.cU o u)->H' b=some (.cU o u)) (jW:∀b ps,H b=some (.dG ps)->∃more,H' b=some (.dG (ps++more)))
  (ns:∀m,s.heap.Ns X.env.locals m->h'.Ns X.env.locals m) (aZ:dO X.prog X.w H' h') (hg:AllBare g') :
  Inv X pins σ H' { s with heap:=h',gens:=g',drawn:=d',toks:=t' }:=by
 have Ku:∀b o,X.e7.heap.get? b=some o->b≠X.env.locals:=λb o e=>fN (dE (cu e) I.ok.above)
 have xp:∀b o,X.e7.heap.get? b=some o->b ∉ X.ex->b ∉ ch:=λb o e hx hb=>by
  rcases(nK b hb).1 with z | z
  ·exact hx z
  ·exact absurd (dE (cu e) z) (h7 _)
 have cellK:∀x c,X.env.cells.lookup x=some c->∀v,s.heap.IsCell c v->h'.IsCell c v:=λx c e v ⟨o,ho,hd⟩=>by
  have yW:c ∉ ch:=λz=>(nK c z).2.2.1 x c e rfl
  by_cases hc:c∈X.fs
  ·obtain⟨sl,q⟩:=slot c o (I.qX x c e) hc yW ho (I.kB x c e)
   exact⟨_,q,hd⟩
  ·exact⟨o,keep c o (I.qX x c e) hc yW ho (I.kB x c e),hd⟩
 refine⟨I.ok,I.os,hg,⟨λb o e n hb hx=>?_,λb o e n hb hx=>?_,λb o e n hx=>?_,λb o e hx=>?_,λb xs e=>mx b xs (I.base.mx b xs e),λb o xs e=>k8 b o xs (I.base.k8 b o xs e),λb ps e=>?_⟩,?_,λx c e=>?_,?_,λx c e=>?_,λp hp=>?_,aZ,I.len⟩
 ·exact keep b o (Ku b o e) hb (xp b o e hx) (I.base.keep b o e n hb hx) (I.base.free b o e n hx)
 ·obtain⟨sl,e1⟩:=I.base.slot b o e n hb hx
  obtain⟨W9,e2⟩:=slot b _ (Ku b o e) hb (xp b o e hx) e1 (I.base.free b o e n hx)
  exact⟨W9,e2⟩
 ·obtain⟨o',e1⟩:=I.base.there b o e hx
  exact free b o' (xp b o e hx) e1 (I.base.free b o e n hx)
 ·obtain⟨o',e1⟩:=I.base.there b o e hx
  exact there b o' (xp b o e hx) e1
 ·obtain⟨m1,e1⟩:=I.base.jW b ps e
  obtain⟨m2,e2⟩:=jW b _ e1
  exact⟨m1++m2,by rw[e2,yw]⟩
 ·obtain⟨m,hn,hl⟩:=I.loc
  refine⟨m,ns m hn,λi x v e1 e2 e3=>?_⟩
  obtain⟨u,r,l⟩:=hl i x v e1 e2 e3
  refine⟨u,r,?_⟩
  rcases l with l | ⟨k,c,e,z⟩
  ·exact .inl l
  ·exact .inr ⟨k,c,e,cellK x c e _ z⟩
 ·obtain⟨v,z⟩:=I.cell x c e
  exact⟨v,cellK x c e v z⟩
 ·obtain⟨m,⟨o,_,_,ho,_⟩,_⟩:=I.loc
  exact free _ o (λz=>(nK _ z).2.1 rfl) ho I.free
 ·obtain⟨v,o,ho,hd⟩:=I.cell x c e
  exact free c o (λz=>(nK c z).2.2.1 x c e rfl) ho (I.kB x c e)
 ·obtain⟨e,n,ne,nf,d⟩:=I.pin p hp
  have yW:p.1 ∉ ch:=λz=>(nK p.1 z).2.2.2 p hp rfl
  exact⟨keep p.1 p.2 ne nf yW e n,free p.1 p.2 yW e n,ne,nf,d⟩
theorem Inv.un{t':Nat}(I:Inv X pins σ H s)(u:Un X.fs [] H H' s.heap h')(aZ:dO X.prog X.w H' h'):Inv X pins σ H' { s with heap:=h',toks:=t' }:=by
 obtain⟨m,⟨o,es,ep,ho,r⟩,_⟩:=id I.loc
 obtain⟨sl,hL⟩:=u.any ho I.free (by simp)
 exact I.step (g':=s.gens) (d':=s.drawn) (ch:=[]) (λ_ z=>nomatch z) (λb o _ hb _ e n=>u.keep b o e n hb (by simp)) (λb o _ hb _ e n=>u.slot b o e n hb (by simp)) (λb o _ e n=>u.free b o e n (by simp)) (λb o _ e=>u.there b o e (by simp)) u.mx u.k8 u.jW (λm' hm=>by
  obtain⟨o',EA,EB,my,r'⟩:=hm
  rw[ho]at my;cases my
  exact⟨_,EA,EB,hL,r'⟩) aZ I.bare
theorem Inv.call{g':Array GenState}{t':Nat}{d':Drawn}{ch:List Addr}(I:Inv X pins σ H s)(u:Un (jX X.stack) ch H H' s.heap h')(aZ:dO X.prog X.w H' h')(hg:AllBare g')
  (nK:∀b∈ch,(b∈X.ex\/X.e7.heap.objs.size<=b)/\b≠X.env.locals/\(∀x c,X.env.cells.lookup x=some c->c≠b)/\∀p∈X.pn++pins,p.1≠b) :
  Inv X pins σ H' { s with heap:=h',gens:=g',drawn:=d',toks:=t' }:=by
 obtain⟨m,⟨o,es,ep,ho,r⟩,_⟩:=id I.loc
 obtain⟨sl,hL⟩:=u.any ho I.free λz=>(nK _ z).2.1 rfl
 exact I.step (ch:=ch) nK (λb o hL hb hc e n=>u.keep b o e n (λz=>(cw.mp (I.BN b z)).elim hL hb) hc) (λb o _ _ hc e n=>u.any e n hc) (λb o hc e n=>u.free b o e n hc) (λb o hc e=>u.there b o e hc) u.mx u.k8 u.jW (λm' hm=>by
  obtain⟨o',EA,EB,my,r'⟩:=hm
  rw[ho]at my;cases my
  exact⟨_,EA,EB,hL,r'⟩) aZ hg
theorem Inv.turned{t':Nat}{it:Addr}(I:Inv X pins σ H s)(k:∀b o,b≠it->s.heap.get? b=some o->h'.get? b=some o)(hn:H it=none)(hL:it≠X.env.locals)
  (h1:it∈X.ex\/X.e7.heap.objs.size<=it) (h2:∀x c,X.env.cells.lookup x=some c->c≠it) (h3:∀p∈X.pn++pins,p.1≠it):Inv X pins σ H { s with heap:=h',toks:=t' }:=by
 have qY:∀b u,H b=some u->b≠it:=λb u e z=>by rw[z,hn]at e;cases e
 refine I.step (g':=s.gens) (d':=s.drawn) (ch:=[it]) (λb hb=>?_) (λb o _ _ hc e _=>k b o (λz=>hc (by simp[z])) e) (λb o _ _ hc e _=>⟨o.slots,k b o (λz=>hc (by simp[z])) e⟩) (λ_ _ _ _ n=>n)
  (λb o hc e=>⟨o,k b o (λz=>hc (by simp[z])) e⟩) (λ_ _ e=>e) (λ_ _ _ e=>e) (λb ps e=>⟨#[],by rw[e];simp⟩) (λm hm=>?_) (λb u e=>?_) I.bare
 ·have e:b=it:=by simpa using hb
  subst e
  exact⟨h1,hL,h2,h3⟩
 ·obtain⟨o,es,ep,ho,r⟩:=hm
  exact⟨o,es,ep,k _ o (iy hL) ho,r⟩
 ·refine(I.aZ b u e).nI (λc v hc q=>k c v ?_ q) (λ_ q=>q) (λ_ _ q=>q) λ_ _ q=>q
  rcases hc with z | z
  ·rw[z];exact qY b u e
  ·exact qY c _ z
theorem Inv.tok(I:Inv X pins σ H s)(t:Nat):Inv X pins σ H { s with toks:=t }:=I.un (h':=s.heap) (t':=t) Un.refl I.aZ
theorem Inv.kept{t':Nat}(I:Inv X pins σ H s)(k:∀b u,s.heap.get? b=some u->h'.get? b=some u):Inv X pins σ H { s with heap:=h',toks:=t' }:=I.un (Un.kept k) (I.aZ.kept k)
theorem Inv.laid{a:Addr}{o:HO}{t':Nat}(I:Inv X pins σ H s)(k:∀b u,s.heap.get? b=some u->h'.get? b=some u)(hp:s.heap.objs.size<=a)(new:fi X.prog X.w (upd H a o) h' a o) :
  Inv X pins σ (upd H a o) { s with heap:=h',toks:=t' }:=I.un (Un.laid k hp (I.aZ.fresh hp)) (I.aZ.laid k hp new)
theorem Inv.write{x e:Addr}{o:HO}{t':Nat}(I:Inv X pins σ H s)(mu:BL (H x))(he:e=x\/H e=some (.own x))(k:∀b u,b≠e->s.heap.get? b=some u->h'.get? b=some u)(xk:∃u,h'.get? e=some u)
  (new:fi X.prog X.w (upd H x o) h' x o):Inv X pins σ (upd H x o) { s with heap:=h',toks:=t' }:=I.un (Un.write mu he k xk) (I.aZ.write mu he k xk new)
theorem Inv.weak{aN:List (Option V)}(I:Inv X pins σ H s)(hl:aN.length=σ.length)(w:∀(i:Nat) v,aN[i]?=some (some v)->σ[i]?=some (some v)):Inv X pins aN H s :=
 ⟨I.ok,I.os,I.bare,I.base,let⟨m,hn,jZ⟩:=I.loc;⟨m,hn,λi x v e1 e2 e3=>jZ i x v e1 (w i v e2) e3⟩,I.cell,I.free,I.kB,I.pin,I.aZ,hl.trans I.len⟩
theorem Inv.Kv{EC:List (Addr × Obj)}(I:Inv X pins σ H s)(h:∀p∈EC,s.heap.get? p.1=some p.2/\H p.1=none/\p.1≠X.env.locals/\p.1 ∉ X.fs/\∀v,p.2.data≠.cell v):Inv X EC σ H s :=
 ⟨I.ok,I.os,I.bare,I.base,I.loc,I.cell,I.free,I.kB,λp hp=>(cM.mp hp).elim (λz=>I.pin p (iz _ z)) (h p),I.aZ,I.len⟩
theorem Kw{N:List Str}(hN:N.Nodup){i j:Nat}{x:Str}(a:N[i]?=some x)(b:N[j]?=some x):i=j:=by
 obtain⟨h1,e1⟩:=kr.mp a
 obtain⟨h2,e2⟩:=kr.mp b
 exact(JJ hN).mp (e1.trans e2.symm)
theorem Xa{M:Model}{A:Around}{E:Value->Shared->Prop}{i:Nat}{x:Str}{v:V}{u:Value}{Q:Unit->Shared->Prop}(I:Inv X pins σ H s)(hN:X.N.Nodup)(hi:X.N[i]?=some x)(hx:Loc X.env.scope x)(r:RelV v u)
  (h:∀s',Inv X pins (σ.set i (some v)) H s'->(∃a,Heap.SameBut a s.heap s'.heap/\(a=X.env.locals\/X.env.cells.lookup x=some a))->Q () s') (hf:X.fn x=true\/X.env.scope.names.lookup x=some .local:=by first | exact .inl rfl | exact .inr rfl | assumption):wpAny M A (storeName X.env x u) Q E s:=by
 obtain⟨m,hn,hl⟩:=id I.loc
 have Xb:(X.env.scope.kind==.class||(X.env.scope.kind==.module&&X.env.locals != X.env.globals))=false:=by rw[I.ok.kind];rfl
 have Kx:i<σ.length:=by rw[I.len];exact(kr.mp hi).1
 have qX:=I.qX
 have tracked:∀{a:Addr} {h':Heap},(∃o,s.heap.get? a=some o/\H a=none)->Heap.SameBut a s.heap h'->dO X.prog X.w H h':=λ{a h'} ha hs b ob e=>by
  obtain⟨_,_,Ky⟩:=ha
  refine(I.aZ b ob e).nI (λc w' hc q=>(hs.2 c ?_).trans q) (λ_ q=>q) (λ_ _ q=>q) λ_ _ q=>q
  rintro rfl
  rcases hc with rfl | hc
  ·rw[Ky]at e;cases e
  ·rw[Ky]at hc;cases hc
 rcases hx with hk | hk
 ·refine wpAny_storeName_local hk hn (λh' Xc hs=>?_) Xb
  obtain⟨oL,_,_,Xd,_⟩:=id hn
  refine h _ ⟨I.ok,I.os,I.bare,⟨λb o e n hb hx=>?_,λb o e n hb hx=>?_,I.base.free,λb o e hx=>?_,I.base.mx,I.base.k8,I.base.jW⟩,⟨_,Xc,λj y v' e1 e2 e3=>?_⟩,λy c e=>?_,I.free,I.kB,λp hp=>?_,tracked ⟨oL,Xd,I.free⟩ hs,by simpa using I.len⟩ ⟨_,hs,.inl rfl⟩
  ·exact(hs.2 b (fN (dE (cu e) I.ok.above))).trans (I.base.keep b o e n hb hx)
  ·obtain⟨sl,e1⟩:=I.base.slot b o e n hb hx
   exact⟨sl,(hs.2 b (fN (dE (cu e) I.ok.above))).trans e1⟩
  ·obtain⟨o',e1⟩:=I.base.there b o e hx
   exact⟨o',(hs.2 b (fN (dE (cu e) I.ok.above))).trans e1⟩
  ·by_cases hj:j=i
   ·subst hj
    rw[hi]at e1;cases e1
    rw[um Kx]at e2
    cases e2
    exact⟨u,r,.inl ⟨hk,by simp⟩⟩
   ·rw[qF (iy hj)]at e2
    obtain⟨u',r',q⟩:=hl j y v' e1 e2 e3
    refine⟨u',r',?_⟩
    rcases q with⟨k,e⟩ | ⟨k,c,e,z⟩
    ·refine .inl ⟨k,?_⟩
     have:y≠x:=λe=>hj (Kw hN e1 (e ▸ hi))
     simp[this,e]
    ·exact .inr ⟨k,c,e,z.sameBut hs (qX y c e)⟩
  ·obtain⟨w',z⟩:=I.cell y c e
   exact⟨w',z.sameBut hs (qX y c e)⟩
  ·obtain⟨e,n,ne,nf,d⟩:=I.pin p hp
   exact⟨(hs.2 p.1 ne).trans e,n,ne,nf,d⟩
 ·have uJ:X.fn x=true:=by
   rcases hf with z | z
   ·exact z
   ·rw[z]at hk;cases hk
  obtain⟨c,hc⟩:=I.ok.has x (.inl hk)
  obtain⟨w',z⟩:=I.cell x c hc
  refine wpAny_storeName_cell I.ok.kind hk hc z (λh' qZ hs=>?_)
  obtain⟨oc,i5,Xe⟩:=id z
  refine h { s with heap:=h' } ⟨I.ok,I.os,I.bare,⟨λb o e n hb hx=>?_,λb o e n hb hx=>?_,I.base.free,λb o e hx=>?_,I.base.mx,I.base.k8,I.base.jW⟩,⟨m,hn.sameBut hs (iy (qX x c hc)),λj y v' e1 e2 e3=>?_⟩,λy c' e=>?_,I.free,I.kB,λp hp=>?_,tracked ⟨oc,i5,I.kB x c hc⟩ hs,by simpa using I.len⟩ ⟨c,hs,.inr hc⟩
  ·exact(hs.2 b (fN (dE (cu e) (I.ok.uI x c uJ hc)))).trans (I.base.keep b o e n hb hx)
  ·obtain⟨sl,e1⟩:=I.base.slot b o e n hb hx
   exact⟨sl,(hs.2 b (fN (dE (cu e) (I.ok.uI x c uJ hc)))).trans e1⟩
  ·obtain⟨o',e1⟩:=I.base.there b o e hx
   exact⟨o',(hs.2 b (fN (dE (cu e) (I.ok.uI x c uJ hc)))).trans e1⟩
  ·by_cases hj:j=i
   ·subst hj
    rw[hi]at e1;cases e1
    rw[um Kx]at e2
    cases e2
    exact⟨u,r,.inr ⟨.inl hk,c,hc,qZ⟩⟩
   ·rw[qF (iy hj)]at e2
    obtain⟨u',r',q⟩:=hl j y v' e1 e2 e3
    refine⟨u',r',?_⟩
    rcases q with q | ⟨k,c',e,z'⟩
    ·exact .inl q
    ·refine .inr ⟨k,c',e,z'.sameBut hs ?_⟩
     rintro rfl
     exact hj (Kw hN e1 (I.ok.inj _ _ _ e hc ▸ hi))
  ·by_cases Kz:c'=c
   ·subst Kz;exact⟨_,qZ⟩
   ·obtain⟨w2,z2⟩:=I.cell y c' e
    exact⟨w2,z2.sameBut hs Kz⟩
  ·obtain⟨e,n,ne,nf,d⟩:=I.pin p hp
   refine⟨(hs.2 p.1 ?_).trans e,n,ne,nf,d⟩
   intro q
   rw[q,i5]at e
   have q':oc=p.2:=cT e
   exact d w' (by rw[<-q'];exact Xe)
theorem ED{M:Model}{A:Around}{E:Value->Shared->Prop}{i:Nat}{x:Str}{v:V}{u:Value}{Q:Unit->Shared->Prop}(I:Inv X pins σ H s)(hN:X.N.Nodup)(hi:X.N[i]?=some x)(hx:Loc X.env.scope x)(r:RelV v u)
  (h:∀s',Inv X pins (σ.set i (some v)) H s'->Q () s') (hf:X.fn x=true\/X.env.scope.names.lookup x=some .local:=by first | exact .inl rfl | exact .inr rfl | assumption):wpAny M A (storeName X.env x u) Q E s :=
 Xa I hN hi hx r (λs' I' _=>h s' I') hf
theorem Inv.Xf{s':Shared}{ch:List Addr}(I:Inv X pins σ H s)(ho:s'.os=s.os)(u:Un (jX X.stack) ch H H' s.heap s'.heap)(aZ:dO X.prog X.w H' s'.heap)(hg:AllBare s'.gens)
  (nK:∀b∈ch,(b∈X.ex\/X.e7.heap.objs.size<=b)/\b≠X.env.locals/\(∀x c,X.env.cells.lookup x=some c->c≠b)/\∀p∈X.pn++pins,p.1≠b):Inv X pins σ H' s':=by
 obtain⟨h',g',d',t',o'⟩:=s'
 have e:o'=s.os:=ho
 subst e
 exact I.call (g':=g') (t':=t') (d':=d') u aZ hg nK
end
abbrev XK:=Value->Option Addr->Hp->Prop
abbrev St:=List (Option V)
abbrev VK:=V->Hp->Prop
abbrev TE:=St->Hp->VK->Prop
abbrev TT:=St->Hp->(Bool->Hp->Prop)->Prop
abbrev TA:=St->Hp->(List V->Hp->Prop)->Prop
structure Ends where
 nx:St->Hp->Prop
 rt:VK
 bk:St->Hp->Prop:=λ_ _=>False
 ct:St->Hp->Prop:=λ_ _=>False
abbrev TS:=Ends->St->Hp->Prop
inductive EP(X:Cx)(pins:List (Addr × Obj))(σ:St)(Q:VK)(u:Value)(s':Shared):Prop
 | mk (v H') (I:Inv X pins σ H' s') (r:RelV v u) (q:Q v H')
def TP(X:Cx)(pins:List (Addr × Obj))(σ:St)(Q:Bool->Hp->Prop)(b:Bool)(s':Shared):Prop:=∃H',Inv X pins σ H' s'/\Q b H'
inductive AP(X:Cx)(pins:List (Addr × Obj))(σ:St)(Q:List V->Hp->Prop)(us:List Value)(s':Shared):Prop
 | mk (vs H') (I:Inv X pins σ H' s') (r:Vals vs us) (q:Q vs H')
def SP(X:Cx)(pins:List (Addr × Obj))(D:Ends)(f:Flow)(s':Shared):Prop :=
 match f with
 | .next=>∃aN H',Inv X pins aN H' s'/\D.nx aN H'
 | .brk=>∃aN H',Inv X pins aN H' s'/\D.bk aN H'
 | .cont=>∃aN H',Inv X pins aN H' s'/\D.ct aN H'
 | .ret u=>∃v aN H',Inv X pins aN H' s'/\RelV v u/\D.rt v H'
def PE(X:Cx)(e:Expr)(t:TE):Prop :=
 ∀(pins:List (Addr × Obj)) (s:Shared) (σ:St) (H:Hp) (Q:VK),Inv X pins σ H s->t σ H Q->wpAny (model X.prog X.w) X.A (eval e X.env) (EP X pins σ Q) X.xe s
def PT(X:Cx)(e:Expr)(t:TT):Prop :=
 ∀(pins:List (Addr × Obj)) (s:Shared) (σ:St) (H:Hp) (Q:Bool->Hp->Prop),Inv X pins σ H s->t σ H Q->wpAny (model X.prog X.w) X.A (isTrue e X.env (eval e X.env)) (TP X pins σ Q) X.xe s
def PW(X:Cx)(e:Expr)(t:TT):Prop :=
 ∀(whole:Sem Value) (pins:List (Addr × Obj)) (s:Shared) (σ:St) (H:Hp) (Q:Bool->Hp->Prop),Inv X pins σ H s->t σ H Q->wpAny (model X.prog X.w) X.A (isTrue e X.env whole) (TP X pins σ Q) X.xe s
theorem PW.pt{X:Cx}{e:Expr}{t:TT}(h:PW X e t):PT X e t:=h _
def PA(X:Cx)(es:List Expr)(t:TA):Prop :=
 ∀(pos:Pos) (pins:List (Addr × Obj)) (s:Shared) (σ:St) (H:Hp) (Q:List V->Hp->Prop),Inv X pins σ H s->t σ H Q->wpAny (model X.prog X.w) X.A (spliced (backTo pos (starEach es X.env))) (AP X pins σ Q) X.xe s
def PS(X:Cx)(st:Stmt)(t:TS):Prop :=
 ∀(pins:List (Addr × Obj)) (s:Shared) (σ:St) (H:Hp) (D:Ends),Inv X pins σ H s->t D σ H->wpAny (model X.prog X.w) X.A (exec st X.env) (SP X pins D) X.xe s
def PSs(X:Cx)(st:List Stmt)(t:TS):Prop :=
 ∀(pins:List (Addr × Obj)) (s:Shared) (σ:St) (H:Hp) (D:Ends),Inv X pins σ H s->t D σ H->wpAny (model X.prog X.w) X.A (execs st X.env) (SP X pins D) X.xe s
theorem a7{α:Type}{t:Sem α}{Q Q':α->Shared->Prop}{M:Model}{A:Around}{E:Value->Shared->Prop}{s:Shared}(h:wpAny M A t Q E s)(hQ:∀a s,Q a s->Q' a s):wpAny M A t Q' E s:=wpAny_mono h hQ λ_ _ x=>x
end L2
namespace L2
open PySem PySem.Spec PyProof.Rows
section
variable{X:Cx}
def EE(i:Nat):TE:=λσ H Q=>∃v,σ[i]?=some (some v)/\Q v H
def tC(v:V):TE:=λ_ H Q=>Q v H
theorem mB{i:Nat}{x:Str}{pos:Pos}(hN:X.N[i]?=some x)(hv:jY X.env.scope x)(hd:(x==("__debug__":Str))=false:=by decide)(cC:(x==("__classdict__":Str))=false:=by decide):PE X (.Name x pos) (EE i):=by
 intro pins s σ H Q I h
 obtain⟨v,e,h⟩:=h
 obtain⟨m,hn,hl⟩:=I.loc
 obtain⟨u,r,l⟩:=hl i x v hN e hv
 have fin:EP X pins σ Q u s:=⟨v,H,I,r,h⟩
 rcases l with⟨hk,hm⟩ | ⟨hk,c,hc,BO⟩
 ·exact wpAny_Name (wpAny_loadName_local I.ok.kind hk hn hm fin) hd
 ·rcases hk with hk | hk
  ·exact wpAny_Name (wpAny_loadName_cell I.ok.kind hk hc BO fin) hd
  ·exact wpAny_Name (wpAny_loadName_free I.ok.kind hk hc BO fin cC) hd
theorem KA{i j pos}:PE X (.Constant (.int i) j pos) (tC (.int i)):=λ_ _ _ H _ I h=>wpAny_Constant_int ⟨.int i,H,I.tok _,⟨_,rfl⟩,h⟩
theorem Xg{b j pos}:PE X (.Constant (.bool b) j pos) (tC (.bl b)):=λ_ _ _ H _ I h=>Constant_bool ⟨.bl b,H,I,rfl,h⟩
theorem Xh{j pos}:PE X (.Constant .none j pos) (tC .az):=λ_ _ _ H _ I h=>Constant_none ⟨.az,H,I,rfl,h⟩
def Gl(X:Cx)(x:Str):Prop:=X.env.kindOf x=some .globalImplicit
theorem EF{E:Value->Shared->Prop}{pins:List (Addr × Obj)}{s:Shared}{σ:St}{H:Hp}{x:Str}{u:Value}{pos:Pos}{Q:Value->Shared->Prop}(I:Inv X pins σ H s)(hg:Gl X x)(hm:X.mg x=some u)(h:Q u s)
  (hd:(x==("__debug__":Str))=false:=by decide):wpAny (model X.prog X.w) X.A (eval (.Name x pos) X.env) Q E s :=
 Ww I.ok.kind hg (Calls.loadGlobal_global (by rw[I.ok.glob];exact I.mod.glob.keeps I.bk) hm h) hd
theorem oH{E:Value->Shared->Prop}{pins:List (Addr × Obj)}{s:Shared}{σ:St}{H:Hp}{x:Str}{u:Value}{pos:Pos}{Q:Value->Shared->Prop}(I:Inv X pins σ H s)(hg:Gl X x)(hm:X.mg x=none)(hv:bootBuiltins x=some u)(h:Q u s)
  (hn:x≠"__name__":=by decide) (hd:(x==("__debug__":Str))=false:=by decide):wpAny (model X.prog X.w) X.A (eval (.Name x pos) X.env) Q E s:=by
 obtain⟨mb,h1,h2⟩:=I.mod.blt
 exact Ww I.ok.kind hg (Calls.loadGlobal_builtin (by rw[I.ok.glob];exact I.mod.glob.keeps I.bk) hm (by rw[I.ok.blt];exact h1.keeps I.bk) ((h2 x hn).trans hv) h) hd
theorem Xi{x:Str}{v:V}{u:Value}{pos:Pos}(hg:Gl X x)(hm:X.mg x=none)(hv:bootBuiltins x=some u)(r:RelV v u)(hn:x≠"__name__":=by decide)(hd:(x==("__debug__":Str))=false:=by decide):PE X (.Name x pos) (tC v) :=
 λ_ _ _ H _ I h=>oH I hg hm hv ⟨v,H,I,r,h⟩ hn hd
variable{a b:Expr}{ta tb:TE}{pos:Pos}
def tB(t:TE):TT:=λσ H Q=>t σ H λx H1=>∃c,x=.bl c/\Q c H1
theorem Xj{e:Expr}{t:TE}(h:PE X e t)(he:∀whole,isTrue e X.env whole=(do let v<-whole;standAt e.pos;holding [v] (truthy v)):=by intro _;rfl):PT X e (tB t):=by
 intro pins s σ H Q I hw
 refine isTrue_plain (a7 (h pins s σ H _ I hw) λv s1 ⟨x,H1,I1,r1,q1⟩=>?_) (he _)
 obtain⟨d,rfl,q⟩:=q1
 cases r1
 exact wpAny_truthy_bool ⟨H1,I1,q⟩
variable{tA BP:TT}{rest:List Expr}
def Xk(t u:TT):TT:=λσ H Q=>t σ H λc H1=>if c=true then u σ H1 Q else Q false H1
def Xl(t u:TT):TT:=λσ H Q=>t σ H λc H1=>if c=true then Q true H1 else u σ H1 Q
def Xm(t:TT):TT:=λσ H Q=>t σ H λc H1=>Q (!c) H1
theorem KC(ha:PT X a tA):PW X (.BoolOp .And [a] pos) tA:=by
 intro wh pins s σ H Q I h
 refine isTrue_and (a7 (ha pins s σ H Q I h) λc s1 e=>?_)
 cases c with
 | true=>exact isTrue_and_nil e
 | false=>exact e
theorem nL(ha:PT X a tA):PW X (.BoolOp .Or [a] pos) tA:=by
 intro wh pins s σ H Q I h
 refine isTrue_or (a7 (ha pins s σ H Q I h) λc s1 e=>?_)
 cases c with
 | false=>exact isTrue_or_nil e
 | true=>exact e
theorem Xn(ha:PT X a tA)(hb:PW X (.BoolOp .And (b::rest) pos) BP):PW X (.BoolOp .And (a::b::rest) pos) (Xk tA BP):=by
 intro wh pins s σ H Q I h
 refine isTrue_and (a7 (ha pins s σ H _ I h) λc s1 ⟨H1,I1,q1⟩=>?_)
 cases c with
 | true=>exact hb wh pins s1 σ H1 Q I1 q1
 | false=>exact⟨H1,I1,q1⟩
theorem Xo(ha:PT X a tA)(hb:PW X (.BoolOp .Or (b::rest) pos) BP):PW X (.BoolOp .Or (a::b::rest) pos) (Xl tA BP):=by
 intro wh pins s σ H Q I h
 refine isTrue_or (a7 (ha pins s σ H _ I h) λc s1 ⟨H1,I1,q1⟩=>?_)
 cases c with
 | true=>exact⟨H1,I1,q1⟩
 | false=>exact hb wh pins s1 σ H1 Q I1 q1
theorem Xp(ha:PT X a tA):PT X (.UnaryOp .Not a pos) (Xm tA):=by
 intro pins s σ H Q I h
 exact isTrue_not (ha pins s σ H (λc H1=>Q (!c) H1) I h)
def Xq(ta tb:TE):TE:=λσ H Q=>ta σ H λx H1=>∃c,x=.bl c/\if c=true then tb σ H1 Q else Q (.bl false) H1
def Xr(ta:TE):TE:=λσ H Q=>ta σ H λx H1=>∃c,x=.bl c/\Q (.bl (!c)) H1
theorem uK{op}{t:TE}(h:PE X a t):PE X (.BoolOp op [a] pos) t:=λpins s σ H Q I hw=>BoolOp_one (h pins s σ H Q I hw)
theorem Xs(ha:PE X a ta)(hb:PE X (.BoolOp .And (b::rest) pos) tb):PE X (.BoolOp .And (a::b::rest) pos) (Xq ta tb):=by
 intro pins s σ H Q I h
 refine BoolOp_and (a7 (ha pins s σ H _ I h) λv s1 ⟨x,H1,I1,r1,q1⟩=>?_)
 obtain⟨c,rfl,q1⟩:=q1
 cases r1
 refine wpAny_truthy_bool ?_
 cases c with
 | true=>exact hb pins s1 σ H1 Q I1 q1
 | false=>exact⟨.bl false,H1,I1,rfl,q1⟩
theorem Xt(ha:PE X a ta):PE X (.UnaryOp .Not a pos) (Xr ta):=by
 intro pins s σ H Q I h
 refine UnaryOp_ (a7 (ha pins s σ H _ I h) λv s1 ⟨x,H1,I1,r1,q1⟩=>?_)
 obtain⟨c,rfl,q1⟩:=q1
 cases r1
 exact not_of (wpAny_truthy_bool ⟨.bl (!c),H1,I1,rfl,q1⟩)
def Xu(t:TT)(ta tb:TE):TE:=λσ H Q=>t σ H λc H1=>if c=true then ta σ H1 Q else tb σ H1 Q
theorem Xv{c:Expr}(hc:PT X c tA)(ha:PE X a ta)(hb:PE X b tb):PE X (.IfExp c a b pos) (Xu tA ta tb):=by
 intro pins s σ H Q I h
 refine wpAny_IfExp (a7 (hc pins s σ H _ I h) λd s1 ⟨H1,I1,q1⟩=>?_)
 cases d with
 | true=>exact ha pins s1 σ H1 Q I1 q1
 | false=>exact hb pins s1 σ H1 Q I1 q1
end
end L2
namespace L2
open PySem PySem.Spec PyProof.Rows
def bL(K:PySem.W.Frag)(H:Hp)(a:Addr)(xs:List V):Prop :=
 Rd H a (.lst xs) \/
  ∃(o:Obj) (its:Array Value) (n:Nat),K.lookup a=some o/\o.cls=.type "list"/\o.dict=none/\o.data=.seq its n/\its.size<=sizeLine/\Vals xs its.toList
def i6(K:PySem.W.Frag)(H:Hp)(a:Addr)(xs:List V):Prop :=
 Rd H a (.tup xs) \/
  ∃(o:Obj) (its:Array Value) (n:Nat),K.lookup a=some o/\o.cls=.type "tuple"/\o.data=.seq its n/\its.size<=sizeLine/\Vals xs its.toList
def Xw:Value->Option V
 | .none=>some .az
 | .bool b=>some (.bl b)
 | .int i _=>some (.int i)
 | .str x _=>some (.str x)
 | .bytes b _=>some (.BJ b)
 | .float b _=>some (.uG b)
 | .ref a=>some (.ref a)
 | .type n=>some (.ty n)
 | _=>none
theorem RelV.abs{x:V}{u:Value}(r:RelV x u):Xw u=some x:=by
 cases x with
 | az=>cases r;rfl
 | bl _=>cases r;rfl
 | int _=>obtain⟨t,rfl⟩:=r;rfl
 | str _=>obtain⟨t,rfl⟩:=r;rfl
 | BJ _=>obtain⟨t,rfl⟩:=r;rfl
 | uG _=>obtain⟨t,rfl⟩:=r;rfl
 | ref _=>cases r;rfl
 | ty _=>cases r;rfl
theorem RelV.inj{x y:V}{u:Value}(r:RelV x u)(q:RelV y u):x=y:=cT (r.abs.symm.trans q.abs)
theorem Vals.inj:∀{xs ys:List V} {us:List Value},Vals xs us->Vals ys us->xs=ys
 | _,_,_,.nil,.nil=>rfl
 | _,_,_,.cons r t,.cons r' t'=>by rw[r.inj r',Vals.inj t t']
section
variable{X:Cx}{pins:List (Addr × Obj)}{σ:St}{H:Hp}{s:Shared}{a:Addr}{xs ys:List V}
theorem bL.of{K:PySem.W.Frag}(h:H a=some (.lst xs)):bL K H a xs:=.inl (.inl h)
theorem i6.of{K:PySem.W.Frag}(h:H a=some (.tup xs)):i6 K H a xs:=.inl (.inl h)
theorem Inv.list(I:Inv X pins σ H s)(h:bL X.K H a xs):∃its:List Value,Vals xs its/\PlainL s.heap a its.toArray/\xs.length<=sizeLine:=by
 rcases h with h | ⟨o,its,n,hk,hc,hd,hs,hz,r⟩
 ·obtain⟨z,its,n,r,e⟩:=h.ok I.aZ
  exact⟨its,r,⟨_,n,e,rfl,rfl,rfl⟩,z⟩
 ·refine⟨its.toList,r,⟨o,n,I.dU a o hk,hc,hd,by simpa using hs⟩,?_⟩
  have e:=r.length
  simp only[wL]at e
  omega
theorem Inv.tuple(I:Inv X pins σ H s)(h:i6 X.K H a xs):∃its:List Value,Vals xs its/\IsTup s.heap a its.toArray/\xs.length<=sizeLine:=by
 rcases h with h | ⟨o,its,n,hk,hc,hs,hz,r⟩
 ·obtain⟨z,its,r,p⟩:=h.ok I.aZ
  exact⟨its,r,p,z⟩
 ·refine⟨its.toList,r,⟨o,I.dU a o hk,hc,n,by simpa using hs⟩,?_⟩
  have e:=r.length
  simp only[wL]at e
  omega
theorem Inv.BQ(I:Inv X pins σ H s)(h:bL X.K H a xs)(h':bL X.K H a ys):xs=ys:=by
 obtain⟨its,r,⟨o,n,e,_,_,d⟩,_⟩:=I.list h
 obtain⟨its',r',⟨o',n',e',_,_,d'⟩,_⟩:=I.list h'
 rw[e]at e';cases e'
 rw[d]at d'
 injection d' with d1 _
 have:its=its':=by simpa using congrArg Array.toList d1
 subst this
 exact r.inj r'
end
abbrev Cx.mC(X:Cx)(E:Value->Shared->Prop):Cx:={ X with xe:=E }
abbrev Cx.gF(X:Cx):Cx:=X.mC λ_ _=>False
theorem Cx.Ok.mC{X:Cx}(ok:X.Ok)(E:Value->Shared->Prop):(X.mC E).Ok :=
 ⟨ok.mod,ok.kind,ok.glob,ok.blt,ok.above,ok.inj,ok.has,ok.uI,ok.hd,ok.frames,ok.yT,ok.yU,ok.bs,ok.k9,ok.xn,ok.xo,ok.iG,ok.lh⟩
theorem Cx.Ok.oI{X:Cx}{E:Value->Shared->Prop}(ok:(X.mC E).Ok):X.Ok :=
 ⟨ok.mod,ok.kind,ok.glob,ok.blt,ok.above,ok.inj,ok.has,ok.uI,ok.hd,ok.frames,ok.yT,ok.yU,ok.bs,ok.k9,ok.xn,ok.xo,ok.iG,ok.lh⟩
section
variable{X:Cx}{pins:List (Addr × Obj)}{σ:St}{H:Hp}{s:Shared}{E:Value->Shared->Prop}
theorem Inv.mC(I:Inv X pins σ H s)(E:Value->Shared->Prop):Inv (X.mC E) pins σ H s:=⟨I.ok.mC E,I.os,I.bare,I.base,I.loc,I.cell,I.free,I.kB,I.pin,I.aZ,I.len⟩
theorem Inv.oI(I:Inv (X.mC E) pins σ H s):Inv X pins σ H s:=⟨I.ok.oI,I.os,I.bare,I.base,I.loc,I.cell,I.free,I.kB,I.pin,I.aZ,I.len⟩
theorem SP.oI{D:Ends}{f:Flow}{s':Shared}(h:SP (X.mC E) pins D f s'):SP X pins D f s':=by
 cases f with
 | next=>obtain⟨aN,H',I,q⟩:=h;exact⟨aN,H',I.oI,q⟩
 | brk=>obtain⟨aN,H',I,q⟩:=h;exact⟨aN,H',I.oI,q⟩
 | cont=>obtain⟨aN,H',I,q⟩:=h;exact⟨aN,H',I.oI,q⟩
 | ret u=>obtain⟨v,aN,H',I,r,q⟩:=h;exact⟨v,aN,H',I.oI,r,q⟩
theorem PE.gF{e:Expr}{t:TE}(h:PE X.gF e t):PE X e t:=λpins s σ H Q I hw =>
 wpAny_mono (h pins s σ H Q (I.mC _) hw) (λ_ _ ⟨v,H',I',r,q⟩=>⟨v,H',I'.oI,r,q⟩) λ_ _ z=>gP z
theorem PSs.gF{st:List Stmt}{t:TS}(h:PSs X.gF st t):PSs X st t:=λpins s σ H D I hw =>
 wpAny_mono (h pins s σ H D (I.mC _) hw) (λ_ _ q=>q.oI) λ_ _ z=>gP z
end
section
variable{X:Cx}{st:Stmt}{rest:List Stmt}{t u:TS}{e:Expr}{te:TE}{pos:Pos}
def Xx:TS:=λD σ H=>D.nx σ H
def Xy(t u:TS):TS:=λD σ H=>t { D with nx:=u D } σ H
theorem KD:PSs X [] Xx:=λ_ _ σ H _ I h=>wpAny_execs_nil ⟨σ,H,I,h⟩
theorem KG(h1:PS X st t)(h2:PSs X rest u):PSs X (st::rest) (Xy t u):=by
 intro pins s σ H D I h
 refine wpAny_execs_cons (a7 (h1 pins s σ H { D with nx:=u D } I h) λf s1 q=>?_)
 cases f with
 | next =>
  obtain⟨aN,H',I',q⟩:=q
  exact h2 pins s1 aN H' D I' q
 | ret v=>exact q
 | brk=>exact q
 | cont=>exact q
theorem KH(h1:PS X st t):PSs X [st] t:=by
 intro pins s σ H D I h
 refine wpAny_execs_cons (a7 (h1 pins s σ H D I h) λf s1 q=>?_)
 cases f with
 | next=>exact wpAny_execs_nil q
 | ret v=>exact q
 | brk=>exact q
 | cont=>exact q
theorem Inv.quiet{pins:List (Addr × Obj)}{σ:St}{H:Hp}{s:Shared}(I:Inv X pins σ H s):interactive X.env=false:=by simp[interactive,I.ok.kind]
def Xz(te:TE):TS:=λD σ H=>te σ H λ_ H1=>D.nx σ H1
theorem yX(he:PE X e te)(hs:swapsWith e none pos.line X.env=pure false:=by rfl):PS X (.Expr e pos) (Xz te):=by
 intro pins s σ H D I h
 exact wpAny_Expr_any (a7 (he pins s σ H _ I h) λv s1 ⟨x,H1,I1,r1,q1⟩=>⟨σ,H1,I1,q1⟩) I.quiet hs
def XA(te:TE):TS:=λD σ H=>te σ H D.rt
theorem XB(he:PE X e te):PS X (.Return (some e) pos) (XA te):=by
 intro pins s σ H D I h
 exact wpAny_Return_some (a7 (he pins s σ H _ I h) λv s1 ⟨x,H1,I1,r1,q1⟩=>⟨x,σ,H1,I1,r1,q1⟩)
def XE(c:TT)(t u:TS):TS:=λD σ H=>c σ H λb H1=>if b=true then t D σ H1 else u D σ H1
theorem KI{c:Expr}{a b:List Stmt}{tc:TT}(hc:PT X c tc)(ha:PSs X a t)(hb:PSs X b u):PS X (.If c a b pos) (XE tc t u):=by
 intro pins s σ H D I h
 refine wpAny_If (a7 (hc pins s σ H _ I h) λd s1 ⟨H1,I1,q1⟩=>?_)
 cases d with
 | true=>exact ha pins s1 σ H1 D I1 q1
 | false=>exact hb pins s1 σ H1 D I1 q1
def KJ:TS:=λ_ _ _=>False
theorem XF:PS X st KJ:=λ_ _ _ _ _ _ h=>h.elim
theorem XG{kC:List Stmt}:PSs X kC KJ:=λ_ _ _ _ _ _ h=>h.elim
end
abbrev TG:=V->St->Hp->(St->Hp->Prop)->Prop
abbrev uL:=List V->St->Hp->(St->Hp->Prop)->Prop
def PG(X:Cx)(target:Expr)(t:TG):Prop :=
 ∀(pins:List (Addr × Obj)) (s:Shared) (σ:St) (H:Hp) (v:V) (u:Value) (Q:St->Hp->Prop),Inv X pins σ H s->RelV v u->t v σ H Q ->
  wpAny (model X.prog X.w) X.A (assign target X.env u) (λ_ s'=>∃aN H',Inv X pins aN H' s'/\Q aN H') X.xe s
def BR(X:Cx)(ts:List Expr)(t:uL):Prop :=
 ∀(pins:List (Addr × Obj)) (s:Shared) (σ:St) (H:Hp) (vs:List V) (us:List Value) (Q:St->Hp->Prop),Inv X pins σ H s->Vals vs us->t vs σ H Q ->
  wpAny (model X.prog X.w) X.A (assignInOrder ((assignEach ts X.env).map (·.2)) us) (λ_ s'=>∃aN H',Inv X pins aN H' s'/\Q aN H') X.xe s
abbrev EG:=V->V->V->Hp->(Hp->Prop)->Prop
def KL(X:Cx)(t:EG):Prop :=
 ∀(pins:List (Addr × Obj)) (s:Shared) (σ:St) (H:Hp) (o i v:V) (ov iv u:Value) (Q:Hp->Prop),Inv X pins σ H s->RelV o ov->RelV i iv->RelV v u->t o i v H Q ->
  wpAny (model X.prog X.w) X.A (setItem ov iv u) (λ_ s'=>∃H',Inv X pins σ H' s'/\Q H') X.xe s
abbrev EH:=V->V->Hp->VK->Prop
def XH(X:Cx)(op:Operator)(t:EH):Prop :=
 ∀(pins:List (Addr × Obj)) (s:Shared) (σ:St) (H:Hp) (x y:V) (v u:Value) (Q:VK),Inv X pins σ H s->RelV x v->RelV y u->t x y H Q ->
  wpAny (model X.prog X.w) X.A (inplaceOp op v u) (EP X pins σ Q) X.xe s
section
variable{X:Cx}{pos:Pos}
def xq(i:Nat):TG:=λv σ H Q=>Q (σ.set i (some v)) H
theorem yY{i:Nat}{x:Str}(hN:X.N.Nodup)(hi:X.N[i]?=some x)(hx:Loc X.env.scope x)(hf:X.fn x=true\/X.env.scope.names.lookup x=some .local:=by first | exact .inl rfl | exact .inr rfl | assumption):PG X (.Name x pos) (xq i):=by
 intro pins s σ H v u Q I r h
 exact wpAny_assign_Name (ED I hN hi hx r (λs' I'=>⟨_,H,I',h⟩) hf)
def XI:uL:=λvs σ H Q=>vs=[]/\Q σ H
def XJ(t:TG)(u:uL):uL:=λvs σ H Q=>∃v r,vs=v::r/\t v σ H λaN H'=>u r aN H' Q
theorem XM:BR X [] XI:=by
 intro pins s σ H vs us Q I r h
 obtain⟨e,h⟩:=h
 subst e
 cases r
 exact assignInOrder_nil ⟨σ,H,I,h⟩
theorem KN{e:Expr}{es:List Expr}{t:TG}{u:uL}(h1:PG X e t)(h2:BR X es u)
  (hs:(assignEach (e::es) X.env).map (·.2)=assign e X.env::(assignEach es X.env).map (·.2):=by rfl):BR X (e::es) (XJ t u):=by
 intro pins s σ H vs us Q I r h
 obtain⟨v,vr,e1,h⟩:=h
 subst e1
 cases r with
 | cons r rr =>
  rw[hs]
  refine assignInOrder_cons (a7 (h1 pins s σ H _ _ _ I r h) λ_ s1 ⟨iH,H1,I1,q1⟩=>?_)
  exact h2 pins s1 iH H1 _ _ Q I1 rr q1
def XN(K:PySem.W.Frag)(n:Nat)(t:uL):TG:=λv σ H Q=>∃a xs,v=.ref a/\i6 K H a xs/\xs.length=n/\t xs σ H Q
theorem XO{es:List Expr}{k:Nat}{t:uL}{n:Nat}(hc:X.calm=true)(h:BR X es t)
  (hn:(assignEach es X.env).length=n:=by rfl) (gw:(assignEach es X.env).findIdx? (·.1)=none:=by rfl):PG X (.Tuple es k pos) (XN X.K n t):=by
 intro pins s σ H v u Q I r hw
 obtain⟨a,xs,e1,hq,hl,hw⟩:=hw
 subst e1
 cases r
 obtain⟨its,rv,ht,hz⟩:=I.tuple hq
 refine assign_Tuple_tuple (I.ok.hd hc) ht (by simp[hn,<- hl,rv.length]) gw λh' hx=>?_
 have I1:Inv X pins σ H { s with heap:=h' }:=I.kept (t':=s.toks) λb o e=>hx b o (fN (cu e)) e
 exact h pins _ σ H xs _ Q I1 (by simpa using rv) hw
def XQ(to ti:TE)(t:EG):TG:=λv σ H Q=>to σ H λo H1=>ti σ H1 λi H2=>t o i v H2 λH3=>Q σ H3
theorem XR{o i:Expr}{to ti:TE}{t:EG}(ho:PE X o to)(hi:PE X i ti)(hs:KL X t)
  (ha:∀v,assign (.Subscript o i pos) X.env v=(do
   let ov<-holding [v] (eval o X.env)
   let iv<-holding [v,ov] (eval i X.env)
   standAt pos
   holding [v,ov,iv] (setItem ov iv v)
   release [v,ov,iv] []):=by intro _;rfl):PG X (.Subscript o i pos) (XQ to ti t):=by
 intro pins s σ H v u Q I r h
 rw[ha]
 refine wpAny_bind (wpAny_holding (a7 (ho pins s σ H _ I h) λov s1 ⟨x,H1,I1,r1,q1⟩=>?_))
 refine wpAny_bind (wpAny_holding (a7 (hi pins s1 σ H1 _ I1 q1) λiv s2 ⟨y,H2,I2,r2,q2⟩=>?_))
 refine wpAny_bind (wpAny_standAt (wpAny_bind (wpAny_holding (a7 (hs pins s2 σ H2 x y v ov iv u _ I2 r1 r2 r q2) λ_ s3 ⟨H3,I3,q3⟩=>?_))))
 exact wpAny_release ⟨σ,H3,I3,q3⟩
def BS(te:TE)(g:TG):TS:=λD σ H=>te σ H λx H1=>g x σ H1 D.nx
theorem XS{tg e:Expr}{te:TE}{g:TG}(he:PE X e te)(hg:PG X tg g)(hs:swapsWithSole [tg] e pos.line X.env=pure false:=by rfl)(hw:swappedStores [tg] e X.env=pure none:=by rfl)
  (h1:(assignEach [tg] X.env).map (·.2)=[assign tg X.env]:=by rfl):PS X (.Assign [tg] e pos) (BS te g):=by
 intro pins s σ H D I h
 refine wpAny_Assign_stores (a7 (he pins s σ H _ I h) λv s1 ⟨x,H1,I1,r1,q1⟩=>?_) hs hw
 rw[h1]
 exact a7 (hg pins s1 σ H1 x v _ I1 r1 q1) λ_ s2 q=>q
theorem EI{i:Nat}{x:Str}{e:Expr}{te:TE}{pos':Pos}(hN:X.N.Nodup)(hi:X.N[i]?=some x)(hx:Loc X.env.scope x)(he:PE X e te)(hs:swapsWith e (some (.Name x pos')) pos.line X.env=pure false:=by rfl)(hf:X.fn x=true\/X.env.scope.names.lookup x=some .local:=by first | exact .inl rfl | exact .inr rfl | assumption) :
  PS X (.Assign [.Name x pos'] e pos) (BS te (xq i)):=by
 intro pins s σ H D I h
 refine wpAny_Assign_Name (a7 (he pins s σ H _ I h) λv s1 ⟨y,H1,I1,r1,q1⟩=>?_) hs
 exact ED I1 hN hi hx r1 (λs2 I2=>⟨_,H1,I2,q1⟩) hf
def XT(i:Nat)(te:TE)(ti:EH):TS:=λD σ H=>∃x,σ[i]?=some (some x)/\te σ H λy H1=>ti x y H1 λz H2=>D.nx (σ.set i (some z)) H2
theorem XU{i:Nat}{x:Str}{e:Expr}{te:TE}{op:Operator}{ti:EH}{pos':Pos}(hN:X.N.Nodup)(hi:X.N[i]?=some x)(hx:Loc X.env.scope x)(he:PE X e te)(ho:XH X op ti)(hf:X.fn x=true\/X.env.scope.names.lookup x=some .local:=by first | exact .inl rfl | exact .inr rfl | assumption) :
  PS X (.AugAssign (.Name x pos') op e pos) (XT i te ti):=by
 intro pins s σ H D I h
 obtain⟨v,e1,h⟩:=h
 obtain⟨m,hn,hl⟩:=I.loc
 have XW:jY X.env.scope x:=by rcases hx with k | k;exact .inl k;exact .inr (.inl k)
 obtain⟨u,r,l⟩:=hl i x v hi e1 XW
 refine wpAny_AugAssign_Name ?_
 have go:wpAny (model X.prog X.w) X.A (eval e X.env) (λw uM=>wpAny (model X.prog X.w) X.A (inplaceOp op u w) (λr XX=>wpAny (model X.prog X.w) X.A (storeName X.env x r) (λ_=>SP X pins D .next) X.xe XX) X.xe uM) X.xe s:=by
  refine a7 (he pins s σ H _ I h) λw s1 ⟨y,H1,I1,r1,q1⟩=>?_
  refine a7 (ho pins s1 σ H1 v y u w _ I1 r r1 q1) λz s2 ⟨zv,H2,I2,r2,q2⟩=>?_
  exact ED I2 hN hi hx r2 (λs3 I3=>⟨_,H2,I3,q2⟩) hf
 rcases l with⟨hk,hm⟩ | ⟨hk,c,hc,BO⟩
 ·exact wpAny_loadName_local I.ok.kind hk hn hm go
 ·rcases hk with hk | hk
  ·exact wpAny_loadName_cell I.ok.kind hk hc BO go
  ·rcases hx with k | k
   ·have:X.env.scope.names.lookup x=some .free:=hk
    rw[k]at this;cases this
   ·have:X.env.scope.names.lookup x=some .free:=hk
    rw[k]at this;cases this
end
section
variable{X:Cx}{pos:Pos}
def XY(c:TT)(tb:TS):TS:=λD σ H=>∃W:Nat->St->Hp->Prop,(∃m,W m σ H)/\∀m σ H,W m σ H ->
 c σ H λb H1=>if b=true then ∃N:St->Hp->Prop,(∀aN H',N aN H'->∃m',m'<m/\W m' aN H')/\tb { D with nx:=N,ct:=N,bk:=D.nx } σ H1 else D.nx σ H1
theorem XZ{c:Expr}{body:List Stmt}{tc:TT}{tb:TS}(hp:PassesOwn (model X.prog X.w) X.A X.env X.xe)(hc:PT X c tc)(hb:PSs X body tb):PS X (.While c body [] pos) (XY tc tb):=by
 intro pins s σ H D I h
 obtain⟨W,⟨m0,w0⟩,turn⟩:=h
 refine wpAny_While (codeAny_whileLoop (λn s'=>∃aN H',Inv X pins aN H' s'/\W n aN H') ?_ m0 ⟨σ,H,I,w0⟩)
 rintro n s1 ⟨iH,H1,I1,w1⟩
 refine wpAny_passesOwn hp (a7 (hc pins s1 iH H1 _ I1 (turn n iH H1 w1)) λb s2 ⟨H2,I2,q2⟩=>?_)
 cases b with
 | true =>
  obtain⟨N,hN,q2⟩:=q2
  rw[if_pos rfl]
  refine wpAny_passesOwn hp (a7 (hb pins s2 iH H2 _ I2 q2) λf s3 q3=>?_)
  cases f with
  | next =>
   obtain⟨mD,H3,I3,n3⟩:=q3
   obtain⟨m',hm,w3⟩:=hN mD H3 n3
   exact⟨m',hm,mD,H3,I3,w3⟩
  | cont =>
   obtain⟨mD,H3,I3,n3⟩:=q3
   obtain⟨m',hm,w3⟩:=hN mD H3 n3
   exact⟨m',hm,mD,H3,I3,w3⟩
  | brk=>exact q3
  | ret v=>exact q3
 | false =>
  rw[if_neg iA]
  exact wpAny_execs_nil ⟨iH,H2,I2,q2⟩
end
structure It where
 go:Nat->Hp->Prop
 lj:Nat->Hp->V->Hp->Prop
 stop:Nat->Hp->Prop
def j3(X:Cx)(pins:List (Addr × Obj))(H:Hp)(b:Addr):Prop :=
 H b=none/\b≠X.env.locals/\b ∉ X.fs/\(b∈X.ex\/X.e7.heap.objs.size<=b)/\(∀x c,X.env.cells.lookup x=some c->c≠b)/\∀p∈X.pn++pins,p.1≠b
theorem Inv.BU{X:Cx}{pins:List (Addr × Obj)}{σ:St}{H H':Hp}{s:Shared}{b:Addr}(I:Inv X pins σ H s)(hb:s.heap.objs.size<=b)(hn:H' b=none):j3 X pins H' b:=by
 refine⟨hn,Nat.ne_of_gt (dE I.lt hb),I.Ks hb,.inr (fY I.sz hb),λx c e z=>?_,λp hp z=>?_⟩
 ·obtain⟨v,q⟩:=I.cell x c e
  exact absurd (dE q.lt (by rw[z];exact hb)) (h7 _)
 ·exact absurd (dE (cu (I.pin p hp).1) (by rw[z];exact hb)) (h7 _)
structure Turn(P:Program)(w:World)(K:PySem.W.Frag)(tg:Expr)(J:It)(fp:List Addr)(it:Addr)(tn:Nat->Heap->Prop):Prop where
 mem:it∈fp
 obj:∀i h,tn i h->∀b∈fp,∃o,h.get? b=some o/\∀v,o.data≠.cell v
 keep:∀i h h',tn i h->(∀b∈fp,∀o,h.get? b=some o->h'.get? b=some o)->tn i h'
 item:∀(X:Cx),X.prog=P->X.w=w->X.K=K->X.calm=true->∀(i:Nat) (pins:List (Addr × Obj)) (s:Shared) (σ:St) (H:Hp) (E:Value->Shared->Prop),Inv X pins σ H s->(∀b∈fp,j3 X pins H b)->tn i s.heap->J.go i H ->
  wpAny (model P w) X.A (pyNext (.ref it)) (λr s1=>∃u,r=some u /\
   wpAny (model P w) X.A (letOwnedTupleGo tg (.ref it) u) (λ_ s2=>∃x H',Inv X pins σ H' s2/\RelV x u/\J.lj i H x H'/\tn (i+1) s2.heap/\∀b∈fp,H' b=none) E s1) E s
 done:∀(X:Cx),X.prog=P->X.w=w->X.K=K->X.calm=true->∀(i:Nat) (pins:List (Addr × Obj)) (s:Shared) (σ:St) (H:Hp) (E:Value->Shared->Prop),Inv X pins σ H s->(∀b∈fp,j3 X pins H b)->tn i s.heap->J.stop i H ->
  wpAny (model P w) X.A (pyNext (.ref it)) (λr s1=>r=none/\Inv X pins σ H s1) E s
 self:∀(A:Around) (i:Nat) (s:Shared) (Q:Value->Shared->Prop) (E:Value->Shared->Prop),tn i s.heap->Q (.ref it) s->wpAny (model P w) A (pyIter (.ref it)) Q E s
abbrev TI:=St->Hp->(It->Hp->Prop)->Prop
def KO(X:Cx)(pins:List (Addr × Obj))(σ:St)(tg:Expr)(R:It->Hp->Prop)(EJ:Value)(s2:Shared):Prop :=
 ∃(it:Addr) (fp:List Addr) (tn:Nat->Heap->Prop) (J:It) (H':Hp),EJ=.ref it/\Inv X pins σ H' s2/\Turn X.prog X.w X.K tg J fp it tn/\tn 0 s2.heap/\(∀b∈fp,j3 X pins H' b)/\R J H'
def PI(X:Cx)(tg iter:Expr)(wi:TI):Prop :=
 ∀(pins:List (Addr × Obj)) (s:Shared) (σ:St) (H:Hp) (R:It->Hp->Prop),Inv X pins σ H s->wi σ H R ->
  wpAny (model X.prog X.w) X.A (eval iter X.env) (λv s1=>wpAny (model X.prog X.w) X.A (pyIter v) (KO X pins σ tg R) X.xe s1) X.xe s
theorem KP{M:Model}{A:Around}{E:Value->Shared->Prop}{s:Shared}{tg:Expr}{it:Addr}{u:Value}{o:Obj}{n:String}{vs:Array Value}{Q:Unit->Shared->Prop}(ho:s.heap.get? it=some o)(hc:o.cls=.type n)(hd:o.data=.fields vs)
  (hn:["enumerate","zip","dict_itemiterator","dict_reverseitemiterator","odict_iterator","itertools.zip_longest","itertools.pairwise"].contains n=false) (hQ:Q () s):wpAny M A (letOwnedTupleGo tg (.ref it) u) Q E s:=by
 unfold letOwnedTupleGo
 cases tg<;>first
  | exact wpAny_pure hQ
  | (cases u<;>first
    | exact wpAny_pure hQ
    | (refine wpAny_bind (wpAny_load ho ?_)
       rw[hc,hd]
       show wpAny M A (if(["enumerate","zip","dict_itemiterator","dict_reverseitemiterator","odict_iterator","itertools.zip_longest","itertools.pairwise"].contains n&&vs[0]?==some (rawInt _))=true then _ else _) Q E s
       rw[if_neg (by intro h;rw[hn,qG]at h;cases h)]
       exact wpAny_pure hQ))
def EK(K:PySem.W.Frag)(a:Addr):It :=
 ⟨λi H=>∃xs x,bL K H a xs/\xs[i]?=some x,λi H x H'=>H'=H/\∀xs,bL K H a xs->xs[i]?=some x,λi H=>∃xs,bL K H a xs/\xs.length<=i⟩
def yZ(lo:Int)(n:Nat):It:=⟨λi _=>i<n,λi H x H'=>H'=H/\x=.int (lo+i),λi _=>n<=i⟩
theorem X0{P:Program}{w:World}{K:PySem.W.Frag}{tg:Expr}(a it:Addr):Turn P w K tg (EK K a) [it] it (λi h=>h.IsListIter it a i) where
 mem:=by simp
 obj:=λi h st b hb=>by
  have e:b=it:=by simpa using hb
  subst e
  obtain⟨o,e,c,d⟩:=st
  exact⟨o,e,λv z=>by rw[d]at z;cases z⟩
 keep:=λi h h' st k=>st.at λo e=>k it (by simp) o e
 item:=by
  intro X hP hw hK hc i pins s σ H E I hf st hg
  subst hP hw hK
  obtain⟨xs,x,hq,hx⟩:=hg
  obtain⟨its,rv,p,hz⟩:=I.list hq
  obtain⟨u,hu,ru⟩:=rv.get hx
  obtain⟨f0,f1,f2,f3,f4,f5⟩:=hf it (by simp)
  refine wpAny_pyNext_list_item st p.isList (x:=u) (by simpa using hu) λh' q0 sb=>?_
  have I1:Inv X pins σ H { s with heap:=h' }:=I.turned (t':=s.toks) (λb o hb e=>(sb.2 b hb).trans e) f0 f1 f3 f4 f5
  obtain⟨o,e,c,d⟩:=id q0
  exact⟨u,rfl,KP (s:={ s with heap:=h' }) e c d (by decide) ⟨x,H,I1,ru,⟨rfl,λys hy=>by rw[I.BQ hy hq];exact hx⟩,q0,λb hb=>(hf b hb).1⟩⟩
 done:=by
  intro X hP hw hK hc i pins s σ H E I hf st hg
  subst hP hw hK
  obtain⟨xs,hq,hx⟩:=hg
  obtain⟨its,rv,p,hz⟩:=I.list hq
  obtain⟨f0,f1,f2,f3,f4,f5⟩:=hf it (by simp)
  have hl:=rv.length
  exact wpAny_pyNext_list_end (I.ok.hd hc) st p.isList (by simp;omega) λh' eb=>⟨rfl,I.turned (t':=s.toks) (λb o hb e=>eb b o hb e) f0 f1 f3 f4 f5⟩
 self:=λ_ _ _ _ _ st h=>wpAny_pyIter_listiter st h
theorem X1{P:Program}{w:World}{K:PySem.W.Frag}{tg:Expr}(it:Addr)(lo:Int)(n:Nat):Turn P w K tg (yZ lo n) [it] it (λi h=>IsRangeIter h it (lo+(i:Nat)*1) ((n:Int)-(i:Nat)) 1) where
 mem:=by simp
 obj:=λi h st b hb=>by
  have e:b=it:=by simpa using hb
  subst e
  exact⟨_,st,λv z=>by
   have z':Data.fields _=Data.cell v:=z
   cases z'⟩
 keep:=λi h h' st k=>k it (by simp) _ st
 item:=by
  intro X hP hw hK hc i pins s σ H E I hf st hg
  subst hP hw hK
  obtain⟨f0,f1,f2,f3,f4,f5⟩:=hf it (by simp)
  have W:=Walks.range (prog:=X.prog) (w:=X.w) (I.ok.hd hc) it lo 1 n
  refine W.item i s _ _ hg st λv h' tk hv q0 kk=>?_
  obtain⟨t,rfl⟩:=hv
  have I1:Inv X pins σ H { s with heap:=h',toks:=tk }:=I.turned (λb o hb e=>kk b o (by simpa using hb) e) f0 f1 f3 f4 f5
  refine⟨_,rfl,KP (s:={ s with heap:=h',toks:=tk }) (n:="range_iterator") q0 rfl rfl (by decide) ⟨.int (lo+i),H,I1,⟨t,?_⟩,⟨rfl,rfl⟩,q0,λb hb=>(hf b hb).1⟩⟩
  rw[Int.mul_one]
 done:=by
  intro X hP hw hK hc i pins s σ H E I hf st hg
  subst hP hw hK
  obtain⟨f0,f1,f2,f3,f4,f5⟩:=hf it (by simp)
  exact wpAny_pyNext_range_end (I.ok.hd hc) st (by have:n<=i:=hg;omega) λh' eb=>⟨rfl,I.turned (t':=s.toks) (λb o hb e=>eb b o hb e) f0 f1 f3 f4 f5⟩
 self:=λ_ _ _ _ _ st h=>wpAny_pyIter_rangeiter st h
end L2
namespace L2
open PySem PySem.Spec PyProof.Rows
section
variable{X:Cx}{tg:Expr}
def X2(K:PySem.W.Frag)(tl:TE):TI:=λσ H R=>tl σ H λx H1=>∃a,x=.ref a/\(∃xs,bL K H1 a xs)/\R (EK K a) H1
theorem EL{l:Expr}{tl:TE}(hl:PE X l tl):PI X tg l (X2 X.K tl):=by
 intro pins s σ H R I h
 refine a7 (hl pins s σ H _ I h) λv s1 ⟨x,H1,I1,r1,q1⟩=>?_
 obtain⟨a,e,⟨xs,hq⟩,q⟩:=q1
 subst e
 cases r1
 obtain⟨its,rv,p,hz⟩:=I1.list hq
 refine wpAny_pyIter_list p.isList ?_
 refine⟨s1.heap.objs.size,[s1.heap.objs.size],_,_,H1,rfl,I1.kept (t':=s1.toks) λb o e=>gQ _ e,X0 a _,⟨_,iB _ rfl,rfl,rfl⟩,λb hb=>?_,q⟩
 have e:b=s1.heap.objs.size:=by simpa using hb
 subst e
 exact I1.BU (cg _) (I1.aZ.fresh (cg _))
theorem KQ{pins:List (Addr × Obj)}{σ:St}{H:Hp}{s:Shared}{R:It->Hp->Prop}{E:Value->Shared->Prop}{lo hi:Int}{t u v:Tok}{tk:Nat}(I:Inv X pins σ H s)(h1:-(2 ^ 62)<=lo)(h2:lo<2 ^ 62)(h3:-(2 ^ 62)<=hi)(h4:hi<2 ^ 62)
  (q:R (yZ lo (hi-lo).toNat) H):wpAny (model X.prog X.w) X.A (pyIter (.ref s.heap.objs.size)) (KO X pins σ tg R) E { s with heap:=s.heap.push { cls:=.type "range",data:=.fields #[.int lo t,.int hi u,.int 1 v] },toks:=tk }:=by
 refine wpAny_pyIter_range (IsRange.new ..) (small_one h1 h2 h3 h4) ?_
 have I1:Inv X pins σ H { s with heap:=s.heap.push { cls:=.type "range",data:=.fields #[.int lo t,.int hi u,.int 1 v] },toks:=tk }:=I.kept λb o e=>gQ _ e
 refine⟨(s.heap.push { cls:=.type "range",data:=.fields #[.int lo t,.int hi u,.int 1 v] }).objs.size,[(s.heap.push { cls:=.type "range",data:=.fields #[.int lo t,.int hi u,.int 1 v] }).objs.size],_,_,H,rfl,
  I1.kept (t':=tk) λb o e=>gQ _ e,X1 _ lo (hi-lo).toNat,?_,λb hb=>?_,q⟩
 ·have e1:lo+((0:Nat):Int)*1=lo:=by simp
  have e2:(((hi-lo).toNat:Nat):Int)-((0:Nat):Int)=Builtin.Range.rangeSize lo hi 1:=by rw[rangeSize_one];split<;>omega
  show IsRangeIter _ _ (lo+((0:Nat):Int)*1) ((((hi-lo).toNat:Nat):Int)-((0:Nat):Int)) 1
  rw[e1,e2]
  exact iB _ rfl
 ·have e:b=(s.heap.push { cls:=.type "range",data:=.fields #[.int lo t,.int hi u,.int 1 v] }).objs.size:=by simpa using hb
  subst e
  exact I1.BU (cg _) (I1.aZ.fresh (cg _))
def X3(ta:TA):TI:=λσ H R=>ta σ H λvs H1=>∃j:Int,vs=[.int j]/\-(2 ^ 62)<=j/\j<2 ^ 62/\R (yZ 0 j.toNat) H1
def X4(ta:TA):TI:=λσ H R=>ta σ H λvs H1=>∃i j:Int,vs=[.int i,.int j]/\(-(2 ^ 62)<=i/\i<2 ^ 62/\-(2 ^ 62)<=j/\j<2 ^ 62)/\R (yZ i (j-i).toNat) H1
theorem X5{a:Expr}{ta:TA}{p pos:Pos}(hg:Gl X "range")(hm:X.mg "range"=none)(ha:PA X [a] ta)(hs:starEach [a] X.env=[(false,eval a X.env)]:=by rfl):PI X tg (.Call (.Name "range" p) [a] [] pos) (X3 ta):=by
 intro pins s σ H R I h
 refine Call_ (oH I hg hm boot_range (wM (a7 (ha pos pins s σ H _ I h) λus s1 ⟨vs,H1,I1,r1,q1⟩=>?_) hs rfl))
 obtain⟨j,e,q1,q2,q⟩:=q1
 subst e
 cases r1 with
 | cons r rr =>
  cases rr
  obtain⟨t,rfl⟩:=r
  exact call_range_1 (KQ I1 (by omega) (by omega) q1 q2 (by simpa using q))
theorem X6{a b:Expr}{ta:TA}{p pos:Pos}(hg:Gl X "range")(hm:X.mg "range"=none)(ha:PA X [a,b] ta)(hs:starEach [a,b] X.env=[(false,eval a X.env),(false,eval b X.env)]:=by rfl)(gx:starEach [b] X.env=[(false,eval b X.env)]:=by rfl) :
  PI X tg (.Call (.Name "range" p) [a,b] [] pos) (X4 ta):=by
 intro pins s σ H R I h
 refine Call_ (oH I hg hm boot_range (wM (a7 (ha pos pins s σ H _ I h) λus s1 ⟨vs,H1,I1,r1,q1⟩=>?_) (by rw[hs,gx]) (by rw[gx];rfl)))
 obtain⟨i,j,e,⟨q1,q2,q3,q4⟩,q⟩:=q1
 subst e
 cases r1 with
 | cons r rr =>
  cases rr with
  | cons r' rr =>
   cases rr
   obtain⟨t,rfl⟩:=r
   obtain⟨t',rfl⟩:=r'
   exact call_range_2 (KQ I1 q1 q2 q3 q4 q)
def X7(wi:TI)(g:TG)(tb:TS):TS:=λD σ H=>wi σ H λJ H1=>∃W:Nat->Nat->St->Hp->Prop,(∃m,W 0 m σ H1)/\∀i m σ H,W i m σ H ->
 (J.stop i H/\D.nx σ H)\/(J.go i H/\∃N:St->Hp->Prop,(∀aN H',N aN H'->∃m',m'<m/\W (i+1) m' aN H')/\∀x H',J.lj i H x H'->g x σ H' λnM H2=>tb { D with nx:=N,ct:=N,bk:=D.nx } nM H2)
def y6(fp:List Addr)(h:Heap):List (Addr × Obj):=fp.filterMap λb=>(h.get? b).map λo=>(b,o)
theorem BV{fp:List Addr}{h:Heap}{b:Addr}{o:Obj}(hb:b∈fp)(e:h.get? b=some o):(b,o)∈y6 fp h:=Wx.mpr ⟨b,hb,by rw[e];rfl⟩
theorem X8{fp:List Addr}{h:Heap}{p:Addr × Obj}(hp:p∈y6 fp h):p.1∈fp/\h.get? p.1=some p.2:=by
 obtain⟨b,hb,e⟩:=Wx.mp hp
 cases q:h.get? b with
 | none=>rw[q]at e;cases e
 | some o =>
  rw[q]at e
  have e':(b,o)=p:=cT e
  subst e'
  exact⟨hb,q⟩
theorem Inv.pinned{pins:List (Addr × Obj)}{σ:St}{H:Hp}{s:Shared}{fp:List Addr}(I:Inv X pins σ H s)(hf:∀b∈fp,j3 X pins H b)(ho:∀b∈fp,∃o,s.heap.get? b=some o/\∀v,o.data≠.cell v):Inv X (pins++y6 fp s.heap) σ H s :=
 I.Kv λp hp=>(cM.mp hp).elim (λz=>I.pin p (fq _ z)) λz=>by
  obtain⟨hb,e⟩:=X8 z
  obtain⟨f0,f1,f2,_⟩:=hf p.1 hb
  obtain⟨o,e',d⟩:=ho p.1 hb
  rw[e]at e';cases e'
  exact⟨e,f0,f1,f2,d⟩
theorem Inv.y7{pins pl:List (Addr × Obj)}{σ:St}{H:Hp}{s:Shared}(I:Inv X (pins++pl) σ H s):Inv X pins σ H s:=I.Kv λp hp=>I.pin p (fq _ (iz _ hp))
theorem X9{iter:Expr}{body:List Stmt}{wi:TI}{g:TG}{tb:TS}{pos:Pos}(hp:PassesOwn (model X.prog X.w) X.A X.env X.xe)(hc:X.calm=true)(hi:PI X tg iter wi)(hg:PG X tg g)(hb:PSs X body tb)
  (hs:∀x,foldedSetIterable iter X.env x=pure x:=by intro _;rfl):PS X (.For tg iter body [] pos) (X7 wi g tb):=by
 intro pins s σ H D I h
 refine wpAny_For (a7 (hi pins s σ H _ I h) λv s1 h1=>a7 h1 λEJ s2 h2=>?_) hs
 obtain⟨it,fp,tn,J,H2,e,I2,T,y8,f2,W,⟨m0,w0⟩,turn⟩:=h2
 subst e
 have EM:∀{H':Hp},(∀b∈fp,H' b=none)->∀b∈fp,j3 X pins H' b:=λhn b hb=>⟨hn b hb,(f2 b hb).2⟩
 refine codeAny_forLoop_any (λn s'=>∃i aN H',Inv X pins aN H' s'/\tn i s'.heap/\(∀b∈fp,H' b=none)/\W i n aN H') ?_ m0 ⟨0,σ,H2,I2,y8,λb hb=>(f2 b hb).1,w0⟩
 rintro n s3 ⟨i,mD,H3,I3,KR,KS,w3⟩
 rcases turn i n mD H3 w3 with⟨stop,qn⟩ | ⟨go,N,hN,step⟩
 ·refine wpAny_passesOwn hp (a7 (T.done X rfl rfl rfl hc i pins s3 mD H3 X.xe I3 (EM KS) KR stop) λr s4 ⟨hr,I4⟩=>?_)
  subst hr
  exact wpAny_execs_nil ⟨mD,H3,I4,qn⟩
 ·refine wpAny_passesOwn hp (a7 (T.item X rfl rfl rfl hc i pins s3 mD H3 X.xe I3 (EM KS) KR go) λr s4 ⟨u,hr,h4⟩=>?_)
  subst hr
  refine wpAny_passesOwn hp (a7 h4 λ_ s5 ⟨x,H5,I5,r5,y5,uN,EN⟩=>?_)
  have EO:=I5.pinned (EM EN) (T.obj _ _ uN)
  refine wpAny_passesOwn hp (a7 (hg _ s5 mD H5 x u _ EO r5 (step x H5 y5)) λ_ s6 ⟨ER,H6,I6,q6⟩=>?_)
  refine wpAny_passesOwn hp (a7 (hb _ s6 ER H6 _ I6 q6) λf s7 q7=>?_)
  have again:∀{mE:St} {H7:Hp},Inv X (pins++y6 fp s5.heap) mE H7 s7->N mE H7->∃m,m<n/\∃i aN H',Inv X pins aN H' s7/\tn i s7.heap/\(∀b∈fp,H' b=none)/\W i m aN H':=λ{mE H7} I7 n7=>by
   obtain⟨m',hm,w7⟩:=hN mE H7 n7
   refine⟨m',hm,i+1,mE,H7,I7.y7,T.keep _ _ _ uN λb hb o e=>(I7.pin (b,o) (fq _ (fq _ (BV hb e)))).1,λb hb=>?_,w7⟩
   obtain⟨o,e,d⟩:=T.obj _ _ uN b hb
   exact(I7.pin (b,o) (fq _ (fq _ (BV hb e)))).2.1
  cases f with
  | next=>obtain⟨mE,H7,I7,n7⟩:=q7;exact again I7 n7
  | cont=>obtain⟨mE,H7,I7,n7⟩:=q7;exact again I7 n7
  | brk=>obtain⟨mE,H7,I7,q7⟩:=q7;exact⟨mE,H7,I7.y7,q7⟩
  | ret v=>obtain⟨x7,mE,H7,I7,r7,q7⟩:=q7;exact⟨x7,mE,H7,I7.y7,r7,q7⟩
end
end L2
namespace L2
open PySem PySem.Spec PyProof.Rows
abbrev R2:=V->V->Hp->VK->Prop
def cV(X:Cx)(f:Value->Value->Sem Value)(r:R2):Prop :=
 ∀(pins:List (Addr × Obj)) (s:Shared) (σ:St) (H:Hp) (x y:V) (v u:Value) (Q:VK),Inv X pins σ H s->RelV x v->RelV y u->r x y H Q ->
  wpAny (model X.prog X.w) X.A (f v u) (EP X pins σ Q) X.xe s
def ES(X:Cx)(f:Value->Sem Value)(r:V->Hp->VK->Prop):Prop :=
 ∀(pins:List (Addr × Obj)) (s:Shared) (σ:St) (H:Hp) (x:V) (v:Value) (Q:VK),Inv X pins σ H s->RelV x v->r x H Q ->
  wpAny (model X.prog X.w) X.A (f v) (EP X pins σ Q) X.xe s
def ia(X:Cx)(f:Value)(r:List V->Hp->VK->Prop):Prop :=
 ∀(pins:List (Addr × Obj)) (s:Shared) (σ:St) (H:Hp) (xs:List V) (us:List Value) (Q:VK),Inv X pins σ H s->Vals xs us->r xs H Q ->
  wpAny (model X.prog X.w) X.A (call f us) (EP X pins σ Q) X.xe s
def y9(r:R2)(ta tb:TE):TE:=λσ H Q=>ta σ H λx H1=>tb σ H1 λy H2=>r x y H2 Q
def Ya(r:V->Hp->VK->Prop)(ta:TE):TE:=λσ H Q=>ta σ H λx H1=>r x H1 Q
def rI(C:Int->Int->Prop)(g:Int->Int->V):R2:=λx y H Q=>∃i j,x=.int i/\y=.int j/\C i j/\Q (g i j) H
def kD(g:Int->Int->V):R2:=λx y H Q=>∃i j,x=.int i/\y=.int j/\Q (g i j) H
def rU(g:Int->V):V->Hp->VK->Prop:=λx H Q=>∃i,x=.int i/\Q (g i) H
section
variable{X:Cx}{a b c:Expr}{ta tb tc:TE}{pos:Pos}
theorem ET(ha:PE X a ta)(hb:PE X b tb){pins:List (Addr × Obj)}{s:Shared}{σ:St}{H:Hp}{R:V->V->Hp->Prop}(I:Inv X pins σ H s)
  (h:ta σ H λx H1=>tb σ H1 λy H2=>R x y H2) {Q:Value->Shared->Prop} {f:Value->Value->Sem Value}
  (hf:∀v u s2 x y H2,Inv X pins σ H2 s2->RelV x v->RelV y u->R x y H2->wpAny (model X.prog X.w) X.A (f v u) Q X.xe s2) :
  wpAny (model X.prog X.w) X.A (eval a X.env) (λv bJ=>wpAny (model X.prog X.w) X.A (eval b X.env) (λu uM=>wpAny (model X.prog X.w) X.A (f v u) Q X.xe uM) X.xe bJ) X.xe s:=by
 refine a7 (ha pins s σ H _ I h) λv s1 ⟨x,H1,I1,r1,q1⟩=>?_
 refine a7 (hb pins s1 σ H1 _ I1 q1) λu s2 ⟨y,H2,I2,r2,q2⟩=>?_
 exact hf v u s2 x y H2 I2 r1 r2 q2
theorem KU{op:Operator}{r:R2}(ho:cV X (binaryOp op) r)(ha:PE X a ta)(hb:PE X b tb):PE X (.BinOp a op b pos) (y9 r ta tb):=by
 intro pins s σ H Q I h
 exact wpAny_BinOp (ET ha hb I h λv u s2 x y H2 I2 rx ry q=>ho pins s2 σ H2 x y v u Q I2 rx ry q)
theorem Yb{op:UnaryOp}{r:V->Hp->VK->Prop}(ho:ES X (unaryOp op) r)(ha:PE X a ta):PE X (.UnaryOp op a pos) (Ya r ta):=by
 intro pins s σ H Q I h
 exact UnaryOp_ (a7 (ha pins s σ H _ I h) λv s1 ⟨x,H1,I1,r1,q1⟩=>ho pins s1 σ H1 x v Q I1 r1 q1)
theorem za{f:Value->Value->Sem Value}{C:Int->Int->Prop}{g:Int->Int->Int}
  (rule:∀(i j:Int) (t u:Tok) (s:Shared) (Q:Value->Shared->Prop) (E:Value->Shared->Prop),C i j->Q (.int (g i j) s.toks) { s with toks:=s.toks+1 }->wpAny (model X.prog X.w) X.A (f (.int i t) (.int j u)) Q E s) :
  cV X f (rI C λi j=>.int (g i j)):=by
 intro pins s σ H x y v u Q I rx ry h
 obtain⟨i,j,rfl,rfl,hc,q⟩:=h
 obtain⟨t,rfl⟩:=rx
 obtain⟨t',rfl⟩:=ry
 exact rule i j t t' s _ _ hc ⟨.int (g i j),H,I.tok _,⟨_,rfl⟩,q⟩
theorem xt{f:Value->Value->Sem Value}{g:Int->Int->Int}
  (rule:∀(i j:Int) (t u:Tok) (s:Shared) (Q:Value->Shared->Prop) (E:Value->Shared->Prop),Q (.int (g i j) s.toks) { s with toks:=s.toks+1 }->wpAny (model X.prog X.w) X.A (f (.int i t) (.int j u)) Q E s) :
  cV X f (kD λi j=>.int (g i j)):=by
 intro pins s σ H x y v u Q I rx ry h
 obtain⟨i,j,rfl,rfl,q⟩:=h
 obtain⟨t,rfl⟩:=rx
 obtain⟨t',rfl⟩:=ry
 exact rule i j t t' s _ _ ⟨.int (g i j),H,I.tok _,⟨_,rfl⟩,q⟩
theorem BW{f:Value->Value->Sem Value}{g:Int->Int->Bool}
  (rule:∀(i j:Int) (t u:Tok) (s:Shared) (Q:Value->Shared->Prop) (E:Value->Shared->Prop),Q (.bool (g i j)) s->wpAny (model X.prog X.w) X.A (f (.int i t) (.int j u)) Q E s) :
  cV X f (kD λi j=>.bl (g i j)):=by
 intro pins s σ H x y v u Q I rx ry h
 obtain⟨i,j,rfl,rfl,q⟩:=h
 obtain⟨t,rfl⟩:=rx
 obtain⟨t',rfl⟩:=ry
 exact rule i j t t' s _ _ ⟨.bl (g i j),H,I,rfl,q⟩
def iJ(i j:Int):Prop:=(-(2 ^ 64)<i/\i<2 ^ 64)\/(-(2 ^ 64)<j/\j<2 ^ 64)
theorem iJ.ok{i j:Int}(h:iJ i j):IntMulOk i j:=by
 rcases h with⟨h1,h2⟩ | ⟨h1,h2⟩
 ·exact .of_left (intBits_le_64 h1 h2)
 ·exact .of_right (intBits_le_64 h1 h2)
theorem Yc(k:Nat):(0:Int)<=2 ^ k:=by
 rw[two_pow_cast]
 exact JK _
theorem Yd:cV X (binaryOp .Add) (kD λi j=>.int (i+j)):=xt λ_ _ _ _ _ _ _ q=>add_int q
theorem Ye:cV X (binaryOp .Sub) (kD λi j=>.int (i-j)):=xt λ_ _ _ _ _ _ _ q=>sub_int q
theorem Yf:cV X (binaryOp .Mod) (rI (λ_ j=>0<j) λi j=>.int (i%j)):=za λi j _ _ _ _ _ hc q=>by
 have h1:(0:Int)<j:=hc
 exact mod_int' (by omega) (by rw[Int.fmod_eq_emod_of_nonneg i (by omega)];exact q)
theorem Yg:cV X (binaryOp .RShift) (rI (λ_ j=>0<=j) λi j=>.int (i/2 ^ j.toNat)):=za λi j _ _ _ _ _ hc q =>
 rshift_int hc (by rw[Wy i (Yc _)];exact q)
theorem Yh:cV X (binaryOp .BitAnd) (kD λi j=>.int (qH i j)):=xt λ_ _ _ _ _ _ _ q=>and_int q
theorem Yi:cV X (binaryOp .BitXor) (kD λi j=>.int (qI i j)):=xt λ_ _ _ _ _ _ _ q=>xor_int q
theorem Yj:cV X (inplaceOp .Add) (kD λi j=>.int (i+j)):=xt λ_ _ _ _ _ _ _ q=>iadd_int q
theorem Yk:cV X (inplaceOp .BitXor) (kD λi j=>.int (qI i j)):=xt λ_ _ _ _ _ _ _ q=>ixor_int q
theorem Yl{f:Value->Sem Value}{g:Int->Int}
  (rule:∀(i:Int) (t:Tok) (s:Shared) (Q:Value->Shared->Prop) (E:Value->Shared->Prop),Q (.int (g i) s.toks) { s with toks:=s.toks+1 }->wpAny (model X.prog X.w) X.A (f (.int i t)) Q E s) :
  ES X f (rU λi=>.int (g i)):=by
 intro pins s σ H x v Q I rx h
 obtain⟨i,rfl,q⟩:=h
 obtain⟨t,rfl⟩:=rx
 exact rule i t s _ _ ⟨.int (g i),H,I.tok _,⟨_,rfl⟩,q⟩
theorem Ym:ES X (unaryOp .USub) (rU λi=>.int (-i)):=Yl λ_ _ _ _ _ q=>neg_int q
end
section
variable{X:Cx}{a b c:Expr}{ta tb tc:TE}{pos:Pos}
theorem KW{pins:List (Addr × Obj)}{σ:St}{H:Hp}{s:Shared}{Q:VK}{k k':Bool}(I:Inv X pins σ H s)(q:Q (.bl k) H)(e:k=k'):EP X pins σ Q (.bool k') s:=by
 subst e
 exact⟨.bl k,H,I,rfl,q⟩
theorem Yn:cV X (compareOp .Lt) (kD λi j=>.bl (decide (i<j))):=BW λ_ _ _ _ _ _ _ q=>lt_int q
theorem Yo:cV X (compareOp .LtE) (kD λi j=>.bl (decide (i<=j))):=BW λ_ _ _ _ _ _ _ q=>le_int q
theorem Yp:cV X (compareOp .Gt) (kD λi j=>.bl (decide (j<i))):=BW λ_ _ _ _ _ _ _ q=>gt_int q
theorem Yq:cV X (compareOp .GtE) (kD λi j=>.bl (decide (j<=i))):=BW λ_ _ _ _ _ _ _ q=>ge_int q
theorem Yr:cV X (compareOp .Is) (λx y H Q=>y=.az/\Q (.bl (decide (x=.az))) H):=by
 intro pins s σ H x y v u Q I rx ry h
 obtain⟨rfl,q⟩:=h
 cases ry
 refine is_none_gen (KW I q ?_)
 cases x<;>first
  | (cases rx;rfl)
  | (obtain⟨t,rfl⟩:=rx;rfl)
theorem Ys:cV X (compareOp .IsNot) (λx y H Q=>y=.az/\Q (.bl (!decide (x=.az))) H):=by
 intro pins s σ H x y v u Q I rx ry h
 obtain⟨rfl,q⟩:=h
 cases ry
 refine isnot_none_gen (KW I q ?_)
 cases x<;>first
  | (cases rx;rfl)
  | (obtain⟨t,rfl⟩:=rx;rfl)
theorem cV.or{f:Value->Value->Sem Value}{r r':R2}(h:cV X f r)(h':cV X f r'):cV X f (λx y H Q=>r x y H Q\/r' x y H Q):=by
 intro pins s σ H x y v u Q I rx ry q
 rcases q with q | q
 ·exact h pins s σ H x y v u Q I rx ry q
 ·exact h' pins s σ H x y v u Q I rx ry q
theorem bC(b:Expr){op:CmpOp}(h:op≠.In:=by decide)(h2:op≠.NotIn:=by decide):behindInMarks op b=false:=by
 have e1:(op==CmpOp.In)=false:=by cases op<;>first | rfl | exact absurd rfl h
 have e2:(op==CmpOp.NotIn)=false:=by cases op<;>first | rfl | exact absurd rfl h2
 cases b<;>simp[behindInMarks,e1,e2]
theorem Yt{op:CmpOp}{r:R2}(ho:cV X (compareOp op) r)(ha:PE X a ta)(hb:PE X b tb)(hm:behindInMarks op b=false):PE X (.Compare a [op] [b] pos) (y9 r ta tb):=by
 intro pins s σ H Q I h
 exact wpAny_Compare1 (ET ha hb I h λv u s2 x y H2 I2 rx ry q=>ho pins s2 σ H2 x y v u Q I2 rx ry q) hm
def KY(t:TE):TT:=λσ H Q=>t σ H λx H'=>∃k,x=.bl k/\Q k H'
theorem Yu{op:CmpOp}{r:R2}(ho:cV X (compareOp op) r)(ha:PE X a ta)(hb:PE X b tb)(hm:behindInMarks op b=false):PT X (.Compare a [op] [b] pos) (KY (y9 r ta tb)):=by
 intro pins s σ H Q I h
 refine wpAny_isTrue_Compare1 (a7 (ha pins s σ H _ I h) λv s1 ⟨x,H1,I1,r1,q1⟩=>a7 (hb pins s1 σ H1 _ I1 q1) λu s2 ⟨y,H2,I2,r2,q2⟩ =>
  a7 (ho pins s2 σ H2 x y v u _ I2 r1 r2 q2) λc s3 ⟨z,H3,I3,r3,k,e,q3⟩=>?_) hm
 subst e
 cases r3
 exact wpAny_truthy_bool ⟨H3,I3,q3⟩
def KZ(r r':R2)(ta tb tc:TE):TE:=λσ H Q=>ta σ H λx H1=>tb σ H1 λy H2=>r x y H2 λz H3=>∃k,z=.bl k /\
 (if k=true then tc σ H3 λw' H4=>r' y w' H4 Q else Q (.bl false) H3)
theorem Yv{op uO:CmpOp}{r r':R2}(ho:cV X (compareOp op) r)(my:cV X (compareOp uO) r')(ha:PE X a ta)(hb:PE X b tb)(hc:PE X c tc)
  (hm:lastMarks [op,uO] [b,c]=false:=by with_unfolding_all rfl):PE X (.Compare a [op,uO] [b,c] pos) (KZ r r' ta tb tc):=by
 intro pins s σ H Q I h
 refine Compare_chain (a7 (ha pins s σ H _ I h) λv s1 ⟨x,H1,I1,r1,q1⟩=>chain_link (a7 (hb pins s1 σ H1 _ I1 q1) λu s2 ⟨y,H2,I2,r2,q2⟩ =>
  a7 (ho pins s2 σ H2 x y v u _ I2 r1 r2 q2) λd s3 ⟨z,H3,I3,r3,k,e,q3⟩=>?_)) hm
 subst e
 cases r3
 refine wpAny_truthy_bool ?_
 cases k with
 | false=>exact ite_ff ⟨.bl false,H3,I3,rfl,q3⟩
 | true=>exact ite_tt (chain_last (a7 (hc pins s3 σ H3 _ I3 q3) λw' s4 ⟨z',H4,I4,r4,q4⟩=>my pins s4 σ H4 y z' u w' Q I4 r2 r4 q4))
theorem uP:(sizeLine:Nat)<2 ^ 63:=by rw[sizeLine_eq];decide
theorem Yw:cV X (binaryOp .Add) (λx y H Q=>∃i j,x=.str i/\y=.str j/\i.length+j.length<=sizeLine/\Q (.str (i++j)) H):=by
 intro pins s σ H x y v u Q I rx ry h
 obtain⟨i,j,rfl,rfl,hz,q⟩:=h
 obtain⟨t,rfl⟩:=rx
 obtain⟨t',rfl⟩:=ry
 exact add_str (λt' tk=>⟨.str (i++j),H,I.tok _,⟨_,rfl⟩,q⟩) hz
theorem EU{x:V}{us:List Value}(r:Vals [x] us):∃u,us=[u]/\RelV x u:=by
 cases r with
 | cons r1 r2=>cases r2;exact⟨_,rfl,r1⟩
theorem Yx{x y:V}{us:List Value}(r:Vals [x,y] us):∃u w',us=[u,w']/\RelV x u/\RelV y w':=by
 cases r with
 | cons r1 r2 =>
  cases r2 with
  | cons r3 r4=>cases r4;exact⟨_,_,rfl,r1,r3⟩
theorem Yy(hc:X.calm=true):ia X (.builtin "min") (λxs H Q=>∃i j,xs=[.int i,.int j]/\Q (.int (if j<i then j else i)) H):=by
 intro pins s σ H xs us Q I r h
 obtain⟨i,j,rfl,q⟩:=h
 obtain⟨u,w',rfl,⟨t,rfl⟩,⟨t',rfl⟩⟩:=Yx r
 refine min_two_ints (I.ok.hd hc) λh' tk k=>⟨_,H,I.kept k,?_,q⟩
 by_cases hj:j<i
 ·rw[if_pos hj,if_pos hj];exact⟨_,rfl⟩
 ·rw[if_neg hj,if_neg hj];exact⟨_,rfl⟩
end
end L2
namespace L2
open PySem PySem.Spec PyProof.Rows
structure uQ(h:Heap)(x dx C:Addr)(mA:Str->Option Value):Prop where
 obj:h.get? x=some (PySem.W.instObj C dx)
 ns:h.Ns1 dx mA
 ne:dx≠x
theorem Yz{h:Heap}{dx:Addr}{mA:Str->Option Value}(n:h.Ns1 dx mA):∃od,h.get? dx=some od/\∀name,PySem.W.lookIn name od=some (mA name):=by
 obtain⟨o,es,ep,ho,hd,hk,_,hm⟩:=n
 refine⟨o,ho,λname=>?_⟩
 have e:=hm name
 unfold nsFind findBy at e
 rw[<-Array.find?_toList]at e
 unfold PySem.W.lookIn
 rw[hd]
 dsimp only
 split
 ·rename_i y q
  rw[q]at e
  exact congrArg some e
 ·rename_i q
  rw[q]at e
  have a:es.toList.any (·.refKey)=false:=by
   rw[List.any_eq_false]
   intro y hy
   obtain⟨z,t,YA⟩:=hk y (Array.mem_toList_iff.mp hy)
   simp[DictEntry.refKey,YA]
  have a':¬ es.toList.any (·.refKey)=true:=by rw[a];exact iA
  rw[if_neg a']
  exact congrArg some e
theorem uQ.look{h:Heap}{x dx C:Addr}{mA:Str->Option Value}(I:uQ h x dx C mA):∃od,PySem.W.InstAt h x (PySem.W.instObj C dx) C (some od)/\∀name,PySem.W.lookIn name od=some (mA name) :=
 let⟨od,ho,hl⟩:=Yz I.ns
 ⟨od,⟨I.obj,rfl,rfl,ho⟩,hl⟩
section
variable{prog:Program}{w:World}{A:Around}{E:Value->Shared->Prop}{s:Shared}{K:PySem.W.Frag}{x dx C f:Addr}{mA:Str->Option Value}{name:Str}{v:Value}
theorem YB{expr:Bool}{Q:Value->Shared->Prop}(X:K.In s.heap)(I:uQ s.heap x dx C mA)(hg:PySem.W.plainGet K C name=true)(hh:PySem.W.hasDictIn K C=true)
  (ha:PySem.W.findIn K (.ref C) name=some none) (hv:mA name=some v) (YC:PySem.W.handedIn v=true) (h:Q v { s with toks:=s.toks+1 }) :
  wpAny (model prog w) A (getAttr (.ref x) name expr) Q E s:=by
 obtain⟨od,J,hl⟩:=I.look
 exact PySem.W.get_value X J (PySem.W.plainGet_of hg).1 (PySem.W.findObj_own hh ha rfl (by rw[hl,hv])) YC h
theorem YD{pl:Sem Bool}{Q:Value × List Value->Shared->Prop}(X:K.In s.heap)(I:uQ s.heap x dx C mA)(hg:PySem.W.plainGet K C name=true)
  (hf:PySem.W.findIn K (.ref C) name=some (some (.ref f))) (ht:PySem.W.isFn K (.ref f)=true) (hv:mA name=none) (h:Q (.ref f,[.ref x]) s) :
  wpAny (model prog w) A (getMethod (.ref x) name pl) Q E s:=by
 obtain⟨od,J,hl⟩:=I.look
 exact PySem.W.method_fn X J (PySem.W.plainGet_of hg).1 (PySem.W.plainGet_of hg).2 hf (beq_iff_eq.mp ht) (by show(PySem.W.lookIn name od).map (·.isSome)=some false;rw[hl,hv];rfl) h
theorem YE{ns:List Str}{Q:Unit->Shared->Prop}(X:K.In s.heap)(I:uQ s.heap x dx C mA)
  (hs:PySem.W.findIn K (.ref C) "__setattr__"=some (some (.builtin "object.__setattr__"))) (hp:PySem.W.plainOver K C=true) (ht:PySem.W.takerIn K C name=some none) (hh:PySem.W.hasDictIn K C=true)
  (hw:PySem.Within mA ns) (q5:ns.length<=sizeLine)
  (h:∀h',uQ h' x dx C (λy=>if y=name then some v else mA y)->Heap.SameBut dx s.heap h'->Q () { s with heap:=h',toks:=s.toks+2 }) :
  wpAny (model prog w) A (setAttr (.ref x) name v) Q E s:=by
 obtain⟨od,J,hl⟩:=I.look
 refine PySem.W.set_plain X J hs (PySem.W.osa_open (s:={ s with toks:=s.toks+1 }) (r:=none) X J hp ht λb=>?_)
 obtain⟨cd,hc,yV⟩:=PySem.W.any_some hh
 have hx:s.heap.get? x=some ⟨.ref C,some dx,.plain,#[]⟩:=I.obj
 refine wpAny_bind (wpAny_pure (wpAny_bind (wpAny_bind (wpAny_loadPart hx (wpAny_bind (PySem.W.Looks.here (s:={ s with toks:=s.toks+1 }) (PySem.W.looks_clsIn X hc) ?_))))))
 rw[yV]
 refine wpAny_pure (a:=some dx) (wpAny_bind (wpAny_pure (wpAny_bind ?_)))
 refine wpAny_nsSet1 (s:={ s with toks:=s.toks+1 }) I.ns λh' zb gx=>?_
 obtain⟨oD,esD,epD,YF,YG,YH⟩:=zb.count (PySem.Within.cons name v hw)
 refine wpAny_bind (wpAny_lookBehind YF (by rw[YG];exact pastItsLine_dict (fY YH (by rw[ft];omega))) ?_)
 exact wpAny_pure (h _ ⟨(gx.2 _ (iy I.ne)).trans I.obj,zb,I.ne⟩ gx)
theorem YI{R:Result->Shared->Prop}{vs:List Value}{kw:List (Str × Value)}(X:K.In s.heap)(hm:PySem.W.makesIn K C=true)
  (hi:PySem.W.findIn K (.ref C) "__init__"=some (some (.ref f))) (hf:PySem.W.typeIn K (.ref f)=some (.type "function"))
  (h:codeAny (model prog w) (A.under (.builtin "type.__call__" ⟨.ref C::vs,kw⟩)) (.call (.ref f) ⟨.ref (s.heap.objs.size+1)::vs,kw⟩) (PySem.W.InitBack (s.heap.objs.size+1) R)
   { s with heap:=(s.heap.push PySem.W.emptyDict).push (PySem.W.instObj C s.heap.objs.size) }) :
  codeAny (model prog w) A (.call (.ref C) ⟨vs,kw⟩) R s:=by
 obtain⟨hh,g,d,t,os⟩:=s
 exact PySem.W.make_core (PySem.W.makes_of X hm) (PySem.W.looks_findIn X hi) (λself=>PySem.W.bind_fn X self hf) (.inl rfl) h
end
def gT(f:Str)(v:V):List (Str × V)->List (Str × V)
 | []=>[(f,v)]
 | (g,x)::r=>if g=f then(g,v)::r else(g,x)::gT f v r
theorem K0(f g:Str)(v:V):∀fs:List (Str × V),(gT f v fs).lookup g=if g=f then some v else fs.lookup g
 | []=>by
  show wN g [(f,v)]=_
  by_cases h:g=f
  ·have hb:(g==f)=true:=beq_iff_eq.mpr h
   simp only[wN,hb,if_pos h]
  ·have hb:(g==f)=false:=beq_eq_false_iff_ne.mpr h
   simp only[wN,hb,if_neg h]
 | (k,x)::r=>by
  have ih:=K0 f g v r
  rw[show gT f v ((k,x)::r)=(if k=f then(k,v)::r else(k,x)::gT f v r) from rfl]
  by_cases hk:k=f
  ·rw[if_pos hk]
   by_cases h:g=k
   ·have hb:(g==k)=true:=beq_iff_eq.mpr h
    simp only[wN,hb,if_pos (h.trans hk)]
   ·have hb:(g==k)=false:=beq_eq_false_iff_ne.mpr h
    simp only[wN,hb,if_neg (λe:g=f=>h (e.trans hk.symm))]
  ·rw[if_neg hk]
   by_cases h:g=k
   ·have hb:(g==k)=true:=beq_iff_eq.mpr h
    simp only[wN,hb,if_neg (λe:g=f=>hk (h.symm.trans e))]
   ·have hb:(g==k)=false:=beq_eq_false_iff_ne.mpr h
    simp only[wN,hb]
    exact ih
theorem EV(f:Str)(v:V):∀fs:List (Str × V),f∈(gT f v fs).map (·.1)/\∀g,g∈fs.map (·.1)->g∈(gT f v fs).map (·.1)
 | []=>⟨by simp[gT],λg h=>by simp at h⟩
 | (k,x)::r=>by
  obtain⟨i1,i2⟩:=EV f v r
  rw[show gT f v ((k,x)::r)=(if k=f then(k,v)::r else(k,x)::gT f v r) from rfl]
  by_cases hk:k=f
  ·rw[if_pos hk]
   subst hk
   exact⟨by simp,λg h=>by simpa using h⟩
  ·rw[if_neg hk]
   refine⟨?_,λg h=>?_⟩
   ·rw[cI]
    exact e5 _ i1
   ·rw[cI]at h ⊢
    rcases cw.mp h with e | e
    ·exact cw.mpr (.inl e)
    ·exact e5 _ (i2 g e)
theorem K1(f:Str)(v:V):∀fs:List (Str × V),(gT f v fs).length<=fs.length+1
 | []=>by simp[gT]
 | (k,x)::r=>by
  have ih:=K1 f v r
  rw[show gT f v ((k,x)::r)=(if k=f then(k,v)::r else(k,x)::gT f v r) from rfl]
  by_cases hk:k=f
  ·rw[if_pos hk,ft,ft];omega
  ·rw[if_neg hk,ft,ft];omega
theorem nH.some_of{v:V}{o:Option Value}(r:nH (some v) o):∃u,o=some u/\RelV v u:=by
 cases o with
 | none=>exact(show False from r).elim
 | some u=>exact⟨u,rfl,r⟩
theorem nH.none_of{o:Option Value}(r:nH none o):o=none:=by
 cases o with
 | none=>rfl
 | some u=>exact(show False from r).elim
theorem YJ{v:V}{u:Value}(r:RelV v u):PySem.W.handedIn u=true:=by
 cases v with
 | az=>cases(show u=D4 from r);rfl
 | bl b=>cases(show u=D6 b from r);rfl
 | int i=>obtain⟨t,e⟩:=(show ∃t,u=ou i t from r);cases e;rfl
 | str x=>obtain⟨t,e⟩:=(show ∃t,u=Value.str x t from r);cases e;rfl
 | BJ b=>obtain⟨t,e⟩:=(show ∃t,u=Value.bytes b t from r);cases e;rfl
 | uG b=>obtain⟨t,e⟩:=(show ∃t,u=Value.float b t from r);cases e;rfl
 | ref a=>cases(show u=ix a from r);rfl
 | ty n=>cases(show u=Value.type n from r);rfl
section
variable{P:Program}{w:World}{H H':Hp}{h h':Heap}{a C dx:Addr}{fs W3:List (Str × V)}
theorem BX(aZ:dO P w H h)(e:H a=some (.ins C dx fs)):∃mA,uQ h a dx C mA/\(∀f,nH (fs.lookup f) (mA f))/\PySem.Within mA (fs.map (·.1))/\fs.length<=1000/\H dx=some (.own a):=by
 obtain⟨d,z,ne,ob,mA,n,r,q⟩:=(show fi P w H h a (.ins C dx fs) from aZ a _ e)
 exact⟨mA,⟨ob,n,ne⟩,r,q,z,d⟩
end
structure cW(K:PySem.W.Frag)(C:Addr):Prop where
 pg:PySem.W.plainGet K C Str.empty=true
 hd:PySem.W.hasDictIn K C=true
 po:PySem.W.plainOver K C=true
 sa:PySem.W.findIn K (.ref C) "__setattr__"=some (some (.builtin "object.__setattr__"))
theorem cW.get{K:PySem.W.Frag}{C:Addr}(c:cW K C)(f:Str):PySem.W.plainGet K C f=true:=c.pg
def bq(K:PySem.W.Frag)(C:Addr)(f:Str):Prop:=PySem.W.findIn K (.ref C) f=some none
theorem bq.YK{K:PySem.W.Frag}{C:Addr}{f:Str}(n:bq K C f):PySem.W.takerIn K C f=some none:=by
 unfold PySem.W.takerIn
 rw[show PySem.W.findIn K (.ref C) f=some none from n]
 rfl
structure Meth(K:PySem.W.Frag)(C:Addr)(m:Str)(f:Addr):Prop where
 at_:PySem.W.findIn K (.ref C) m=some (some (.ref f))
 fn:PySem.W.isFn K (.ref f)=true
 kp:PySem.W.keepIn K (.ref f)=true
section
variable{X:Cx}{pins:List (Addr × Obj)}{σ:St}{H:Hp}{s:Shared}{a C dx:Addr}{fs:List (Str × V)}{f:Str}{v:V}{A:Around}{E:Value->Shared->Prop}
theorem YL{b:Bool}{Q:Value->Shared->Prop}(I:Inv X pins σ H s)(e:H a=some (.ins C dx fs))(c:cW X.K C)(n:bq X.K C f)(l:fs.lookup f=some v)
  (h:∀u s',Inv X pins σ H s'->RelV v u->Q u s'):wpAny (model X.prog X.w) A (getAttr (.ref a) f b) Q E s:=by
 obtain⟨mA,O,r,_,_,_⟩:=BX I.aZ e
 obtain⟨u,hu,ru⟩:=nH.some_of (v:=v) (o:=mA f) (by rw[<-l];exact r f)
 exact YB I.dU O (c.get f) c.hd n hu (YJ ru) (h u _ (I.tok _) ru)
theorem K2{m:Str}{g:Addr}{pl:Sem Bool}{Q:Value × List Value->Shared->Prop}(I:Inv X pins σ H s)(e:H a=some (.ins C dx fs))(c:cW X.K C)(k:Meth X.K C m g)(l:fs.lookup m=none)
  (h:Q (.ref g,[.ref a]) s):wpAny (model X.prog X.w) A (getMethod (.ref a) m pl) Q E s:=by
 obtain⟨mA,O,r,_,_,_⟩:=BX I.aZ e
 have hn:mA m=none:=nH.none_of (by rw[<-l];exact r m)
 exact YD I.dU O (c.get m) k.at_ k.fn hn h
theorem YM{y:V}{u:Value}{Q:Unit->Shared->Prop}(I:Inv X pins σ H s)(e:H a=some (.ins C dx fs))(c:cW X.K C)(n:bq X.K C f)(hl:fs.length<1000)(ry:RelV y u)
  (h:∀s',Inv X pins σ (upd H a (.ins C dx (gT f y fs))) s'->Q () s'):wpAny (model X.prog X.w) A (setAttr (.ref a) f u) Q E s:=by
 obtain⟨mA,O,r,wi,_,ho⟩:=BX I.aZ e
 have hz:(fs.map (·.1)).length<=sizeLine:=by rw[aW,sizeLine_eq];omega
 refine YE I.dU O c.sa c.po n.YK c.hd wi hz λh' O' sb=>h _ ?_
 have hd:∃o,h'.get? dx=some o:=let⟨o,_,_,e',_⟩:=O'.ns;⟨o,e'⟩
 refine I.write (x:=a) (e:=dx) (by rw[e];exact wO) (.inr ho) (λb q hb z=>(sb.2 b hb).trans z) hd ?_
 refine⟨by rw[bt O.ne];exact ho,?_,O.ne,O'.obj,_,O'.ns,λg=>?_,λg hg=>?_⟩
 ·have:=K1 f y fs;omega
 ·show nH ((gT f y fs).lookup g) (if g=f then some u else mA g)
  rw[K0]
  by_cases q:g=f
  ·rw[if_pos q,if_pos q];exact ry
  ·rw[if_neg q,if_neg q];exact r g
 ·by_cases q:g=f
  ·rw[q];exact(EV f y fs).1
  ·refine(EV f y fs).2 g (wi g λz=>hg ?_)
   show(if g=f then some u else mA g)=none
   rw[if_neg q];exact z
theorem Inv.made(I:Inv X pins σ H s):Inv X pins σ (upd (upd H s.heap.objs.size (.own (s.heap.objs.size+1))) (s.heap.objs.size+1) (.ins C s.heap.objs.size []))
  { s with heap:=(s.heap.push PySem.W.emptyDict).push (PySem.W.instObj C s.heap.objs.size) }:=by
 have e1:(s.heap.push PySem.W.emptyDict).get? s.heap.objs.size=some PySem.W.emptyDict:=iB s.heap rfl
 have e2:((s.heap.push PySem.W.emptyDict).push (PySem.W.instObj C s.heap.objs.size)).get? (s.heap.objs.size+1)=some (PySem.W.instObj C s.heap.objs.size):=by
  have:=iB (s.heap.push PySem.W.emptyDict) (o:=PySem.W.instObj C s.heap.objs.size) rfl
  rwa [wQ]at this
 have e3:(s.heap.push PySem.W.emptyDict).Ns s.heap.objs.size (λ_=>none):=⟨PySem.W.emptyDict,#[],_,e1,rfl,(λe he=>absurd he (by simp)),λ_=>rfl⟩
 have I1:=I.laid (a:=s.heap.objs.size) (o:=.own (s.heap.objs.size+1)) (h':=s.heap.push PySem.W.emptyDict) (t':=s.toks) (λb u q=>gQ _ q) (cg _) ⟨_,e1⟩
 refine I1.laid (a:=s.heap.objs.size+1) (o:=.ins C s.heap.objs.size []) (t':=s.toks) (λb u q=>gQ _ q) (Bl (wQ _ _)) ?_
 have ne:s.heap.objs.size≠s.heap.objs.size+1:=fN (Bo _)
 refine⟨by rw[bt ne,de],h8 _,ne,e2,λ_=>none,(Heap.Ns1.of_empty e3).at λo q=>gQ _ q,λ_=>wO,λy hy=>absurd rfl hy⟩
theorem YN{prog:Program}{w:World}{env:Env}{e:Expr}{f:Str}{pos:Pos}{s:Shared}{Q:Value->Shared->Prop}(hb:attributeBase e f env (eval e env)=eval e env)
  (h:wpAny (model prog w) A (eval e env) (λo bJ=>wpAny (model prog w) A (getAttr o f true) Q E bJ) E s):wpAny (model prog w) A (eval (.Attribute e f pos) env) Q E s :=
 Attribute_any_ h (by rw[arm_eval_Attribute,hb])
end
def YO(K:PySem.W.Frag)(ta:TE)(f:Str):TE:=λσ H Q=>ta σ H λx H1=>∃a C dx fs v,x=.ref a/\H1 a=some (.ins C dx fs)/\cW K C/\bq K C f/\fs.lookup f=some v/\Q v H1
def YQ(K:PySem.W.Frag)(ta tv:TE)(f:Str):TS:=λD σ H=>tv σ H λy H1=>ta σ H1 λx H2=>∃a C dx fs,x=.ref a/\H2 a=some (.ins C dx fs)/\cW K C/\bq K C f/\fs.length<1000 /\
 D.nx σ (upd H2 a (.ins C dx (gT f y fs)))
section
variable{X:Cx}{o e value:Expr}{f:Str}{pos pos' mF:Pos}{ta tv:TE}
theorem YR(he:PE X e ta)(hb:attributeBase e f X.env (eval e X.env)=eval e X.env):PE X (.Attribute e f pos) (YO X.K ta f):=by
 intro pins s σ H Q I h
 refine YN hb (a7 (he pins s σ H _ I h) λu s1 ⟨x,H1,I1,rx,a,C,dx,fs,v,ex,ea,c,n,l,q⟩=>?_)
 subst ex
 obtain rfl:u=ix a:=rx
 exact YL I1 ea c n l λu' s2 I2 ru=>⟨v,H1,I2,ru,q⟩
theorem YS(ha:PE X o ta)(hv:PE X value tv)(hs:swapsWith value (some (.Attribute o f pos')) pos.line X.env=pure false):PS X (.Assign [.Attribute o f pos'] value pos) (YQ X.K ta tv f):=by
 intro pins s σ H D I h
 refine plainObj_wpAny_Assign_Attribute (a7 (hv pins s σ H _ I h) λu s1 ⟨y,H1,I1,ry,q⟩=>a7 (ha pins s1 σ H1 _ I1 q) λov s2 ⟨x,H2,I2,rx,a,C,dx,fs,ex,ea,c,n,l,q2⟩=>?_) hs
 subst ex
 obtain rfl:ov=ix a:=rx
 exact YM I2 ea c n l ry λs3 I3=>⟨σ,_,I3,q2⟩
end
section
variable{X:Cx}{pins:List (Addr × Obj)}{σ:St}{H:Hp}{s:Shared}{A:Around}{E:Value->Shared->Prop}{Q:Value->Shared->Prop}{c:Value}{b:Bool}
inductive jx(K:PySem.W.Frag)(H:Hp):V->Value->Prop where
 | az:jx K H .az (.type "NoneType")
 | bl (x:Bool):jx K H (.bl x) (.type "bool")
 | int (i:Int):jx K H (.int i) (.type "int")
 | str (x:Str):jx K H (.str x) (.type "str")
 | uG (x:UInt64):jx K H (.uG x) (.type "float")
 | lst {a:Addr} {xs:List V} (e:H a=some (.lst xs)):jx K H (.ref a) (.type "list")
 | cU {a:Addr} {o:Obj} {xs:List V} (e:H a=some (.cU o (.lst xs))):jx K H (.ref a) (.type "list")
 | tup {a:Addr} {xs:List V} (e:H a=some (.tup xs)):jx K H (.ref a) (.type "tuple")
 | dK {a:Addr} {eX:List (Key × V)} (e:H a=some (.dK eX)):jx K H (.ref a) (.type "dict")
 | dT {a:Addr} {eX:List (List Key × V)} (e:H a=some (.dT eX)):jx K H (.ref a) (.type "dict")
 | ins {a C dx:Addr} {fs:List (Str × V)} (e:H a=some (.ins C dx fs)) (cl:cW K C) (ha:PySem.W.findIn K (.ref C) "__class__"=some (some (.builtin "object.__class__")))
   (hn:PySem.W.specialIn K (.builtin "object.__class__") "__get__"=some (some (.builtin "getset_descriptor.__get__"))) (K3:PySem.W.takesIn K (.builtin "object.__class__")=some true)
   (hm:PySem.W.mroIn K C (.type "object")=some true):jx K H (.ref a) (.ref C)
theorem YT{x:V}{u t:Value}(I:Inv X pins σ H s)(rx:RelV x u)(ty:jx X.K H x t)(e:PySem.W.kitOne X.K t c=some b)(h:∀tk,Q (.bool b) { s with toks:=tk }) :
  wpAny (model X.prog X.w) A (call (.builtin "isinstance") [u,c]) Q E s:=by
 cases ty with
 | az=>cases(show u=D4 from rx);exact PySem.W.kia_one PySem.W.kitx_none I.dU wO e (λz=>nomatch z) h
 | bl y=>cases(show u=D6 y from rx);exact PySem.W.kia_one PySem.W.kitx_bool I.dU wO e (λz=>nomatch z) h
 | int i=>obtain⟨t,q⟩:=(show ∃t,u=ou i t from rx);cases q;exact PySem.W.kia_one PySem.W.kitx_int I.dU wO e (λz=>nomatch z) h
 | str y=>obtain⟨t,q⟩:=(show ∃t,u=Value.str y t from rx);cases q;exact PySem.W.kia_one PySem.W.kitx_str I.dU wO e (λz=>nomatch z) h
 | uG y=>obtain⟨t,q⟩:=(show ∃t,u=Value.float y t from rx);cases q;exact PySem.W.kia_one PySem.W.kitx_float I.dU wO e (λz=>nomatch z) h
 | @lst a xs ea =>
  cases(show u=ix a from rx)
  obtain⟨_,_,n,_,h1⟩:=(show fi X.prog X.w H s.heap a (.lst xs) from I.aZ a _ ea)
  exact PySem.W.kia_one PySem.W.kitx_list I.dU ⟨_,h1,rfl⟩ e (λz=>nomatch z) h
 | @cU a ob xs ea =>
  cases(show u=ix a from rx)
  obtain⟨_,_,_,n,_,h1⟩:=(show fi X.prog X.w H s.heap a (.cU ob (.lst xs)) from I.aZ a _ ea)
  exact PySem.W.kia_one PySem.W.kitx_list I.dU ⟨_,h1,rfl⟩ e (λz=>nomatch z) h
 | @tup a xs ea =>
  cases(show u=ix a from rx)
  obtain⟨_,_,_,p⟩:=(show fi X.prog X.w H s.heap a (.tup xs) from I.aZ a _ ea)
  obtain⟨o,h1,h2,_⟩:=p
  exact PySem.W.kia_one PySem.W.kitx_tuple I.dU ⟨o,h1,h2⟩ e (λz=>nomatch z) h
 | @dK a eX ea =>
  cases(show u=ix a from rx)
  obtain⟨_,_,vs,_,p⟩:=(show fi X.prog X.w H s.heap a (.dK eX) from I.aZ a _ ea)
  obtain⟨o,es,ep,h1,h2,_⟩:=p
  exact PySem.W.kia_one PySem.W.kitx_dict I.dU ⟨o,h1,h2.1⟩ e (λz=>nomatch z) h
 | @dT a eX ea =>
  cases(show u=ix a from rx)
  obtain⟨_,_,xs,_,o,es,ep,h1,h2,_⟩:=(show fi X.prog X.w H s.heap a (.dT eX) from I.aZ a _ ea)
  exact PySem.W.kia_one PySem.W.kitx_dict I.dU ⟨o,h1,h2.1⟩ e (λz=>nomatch z) h
 | @ins a C dx fs ea cl ha hn K3 hm =>
  cases(show u=ix a from rx)
  obtain⟨mA,O,_⟩:=BX I.aZ ea
  obtain⟨od,J,_⟩:=O.look
  exact PySem.W.kia_one (PySem.W.kitx_own (cl.get _) cl.hd ha hn K3 hm) I.dU J e (λz=>nomatch z) h
end
end L2
namespace L2
open PySem PySem.Spec PyProof.Rows
structure cy(k:Nat)(A:Around):Prop where
 hd:A.handled=none
 dp:A.depth+3*k+5<recursionLimit
 un:A.units+16*k+200<cLine
theorem cy.mono{j k:Nat}{A:Around}(r:cy k A)(h:j<=k):cy j A:=⟨r.hd,by have:=r.dp;omega,by have:=r.un;omega⟩
theorem cy.deeper{k:Nat}{A:Around}(r:cy (k+1) A)(env:Env):cy k (A.deeper env) :=
 ⟨r.hd,by have:=r.dp;show A.depth+1+3*k+5<_;omega,by have:=r.un;show A.units+3+16*k+200<_;omega⟩
theorem YU{A:Around}{C:Addr}{us:List Value}{kw:List (Str × Value)}:(A.under (.builtin "type.__call__" ⟨.ref C::us,kw⟩)).depth=A.depth+1:=by
 first | rfl | simp[Around.under,Code.weight,Code.isCreation,Code.isGuard,Code.isCaller,Code.frames,Code.isFrame,guardIds]
theorem YV{A:Around}{C:Addr}{us:List Value}{kw:List (Str × Value)}:(A.under (.builtin "type.__call__" ⟨.ref C::us,kw⟩)).units=A.units+1:=by
 first | rfl | simp[Around.under,Code.cUnits,Code.frames,Code.isFrame]
theorem cy.make{k:Nat}{A:Around}(r:cy (k+1) A)(C:Addr)(us:List Value)(kw:List (Str × Value)):cy k (A.under (.builtin "type.__call__" ⟨.ref C::us,kw⟩)) :=
 ⟨r.hd,by have:=r.dp;rw[YU];omega,by have:=r.un;rw[YV];omega⟩
theorem cy.depth{k:Nat}{A:Around}(r:cy k A):A.depth<recursionLimit:=by have:=r.dp;omega
def K4:TA:=λ_ H Q=>Q [] H
def EW(ta:TE)(tr:TA):TA:=λσ H Q=>ta σ H λx H1=>tr σ H1 λxs H2=>Q (x::xs) H2
section
variable{X:Cx}{e:Expr}{es:List Expr}{te:TE}{t:TA}{pos:Pos}
theorem oJ:PA X [] K4:=λ_ _ _ _ H Q I h=>JL ⟨[],H,I,.nil,h⟩
theorem jy(ha:PE X e te)(hr:PA X es t)(hs:starEach (e::es) X.env=(false,eval e X.env)::starEach es X.env:=by rfl):PA X (e::es) (EW te t):=by
 intro pos pins s σ H Q I h
 rw[hs]
 show wpAny _ _ (spliced ((false,eval e X.env)::backTo pos (starEach es X.env))) _ _ s
 refine JM (a7 (ha pins s σ H _ I h) λu s1 ⟨x,H1,I1,r1,q1⟩=>?_)
 exact a7 (hr pos pins s1 σ H1 _ I1 q1) λus s2 ⟨xs,H2,I2,r2,q2⟩=>⟨x::xs,H2,I2,.cons r1 r2,q2⟩
def YW(t:TA):TE:=λσ H Q=>t σ H λxs H1=>xs.length<=sizeLine/\∀p,H1 p=none->Q (.ref p) (upd H1 p (.tup xs))
def YX(t:TA):TE:=λσ H Q=>t σ H λxs H1=>xs.length<=sizeLine/\∀p,H1 p=none->Q (.ref p) (upd H1 p (.lst xs))
theorem K5{x1}(h:PA X es t):PE X (.Tuple es x1 pos) (YW t):=by
 intro pins s σ H Q I hq
 refine wpAny_Tuple_spliced (a7 (h pos pins s σ H _ I hq) λus s1 ⟨xs,H1,I1,r,z,q⟩=>⟨by rw[<-r.length];exact z,?_⟩)
 have hf:H1 s1.heap.objs.size=none:=I1.aZ.fresh (cg _)
 refine⟨.ref s1.heap.objs.size,upd H1 s1.heap.objs.size (.tup xs),I1.laid (t':=s1.toks) (λb u e=>gQ _ e) (cg _) ?_,rfl,q _ hf⟩
 exact⟨z,us,r,⟨_,iB _ rfl,rfl,_,rfl⟩⟩
theorem K6(h:PA X es t):PE X (.List es pos) (YX t):=by
 intro pins s σ H Q I hq
 refine wpAny_List_spliced (a7 (h pos pins s σ H _ I hq) λus s1 ⟨xs,H1,I1,r,z,q⟩=>⟨by rw[<-r.length];exact z,?_⟩)
 have hf:H1 s1.heap.objs.size=none:=I1.aZ.fresh (cg _)
 refine⟨.ref s1.heap.objs.size,upd H1 s1.heap.objs.size (.lst xs),I1.laid (t':=s1.toks) (λb u e=>gQ _ e) (cg _) ?_,rfl,q _ hf⟩
 exact⟨z,us,0,r,iB _ rfl⟩
end
abbrev Sp:=List V->Hp->VK->XK->Prop
abbrev e8:=List Env->Hp->Shared->XK->Value->Shared->Prop
structure j4(P:Program)(w:World)(K:PySem.W.Frag)(mg:Str->Option Value)(base:Heap)(A:Around)(outer:List Env)(s:Shared)(H:Hp):Prop where
 frames:A.frames=some outer
 mod:Mod K mg base
 bs:∀b o,base.get? b=some o->s.heap.get? b=some o/\H b=none
 k9:base.objs.size<=s.heap.objs.size
 iG:s.heap.FunFrames base outer
 lh:∀b∈jX outer,H b=none
 aZ:dO P w H s.heap
 bare:AllBare s.gens
def CE(outer:List Env)(P:Program)(w:World)(H:Hp)(s:Shared)(Q:VK)(u:Value)(s':Shared):Prop :=
 ∃v H',s'.os=s.os/\AllBare s'.gens/\Un (jX outer) [] H H' s.heap s'.heap/\dO P w H' s'.heap/\RelV v u/\Q v H'
def CR(CX:e8)(outer:List Env)(P:Program)(w:World)(H:Hp)(s:Shared)(Q:VK)(E:XK)(r:Result)(s':Shared):Prop :=
 match r with
 | .ok (.ret u)=>CE outer P w H s Q u s'
 | .ok _=>False
 | .error e=>CX outer H s E e s'
structure aF(P:Program)(w:World)(K:PySem.W.Frag)(mg:Str->Option Value)(base:Heap)(CX:e8)(k:Nat)(f:Addr)(fd:FuncData)(ps:List Str)(sp:Sp):Prop where
 len:∀vs H Q E,sp vs H Q E->vs.length=ps.length
 run:∀(A:Around) (outer:List Env) (s:Shared) (H:Hp) (args:Args) (us:List Value) (vs:List V) (Q:VK) (E:XK),cy k A->j4 P w K mg base A outer s H->BindsTo s fd args (ps.zip us)->Vals vs us->sp vs H Q E ->
  codeAny (model P w) A (.call (.ref f) args) (CR CX outer P w H s Q E) s
theorem aF.mono{P:Program}{w:World}{K:PySem.W.Frag}{mg:Str->Option Value}{base:Heap}{CX:e8}{j k:Nat}{f:Addr}{fd:FuncData}{ps:List Str}{sp:Sp}(F:aF P w K mg base CX j f fd ps sp)(h:j<=k) :
  aF P w K mg base CX k f fd ps sp:=⟨F.len,λA outer s H args us vs Q E hr=>F.run A outer s H args us vs Q E (hr.mono h)⟩
theorem aF.imp{P:Program}{w:World}{K:PySem.W.Frag}{mg:Str->Option Value}{base:Heap}{CX:e8}{k:Nat}{f:Addr}{fd:FuncData}{ps:List Str}{sp uR:Sp}(F:aF P w K mg base CX k f fd ps sp)
  (h:∀vs H Q E,uR vs H Q E->sp vs H Q E):aF P w K mg base CX k f fd ps uR :=
 ⟨λvs H Q E q=>F.len vs H Q E (h _ _ _ _ q),λA outer s H args us vs Q E hr he hb hv hs=>F.run A outer s H args us vs Q E hr he hb hv (h _ _ _ _ hs)⟩
theorem j4.make{P:Program}{w:World}{K:PySem.W.Frag}{mg:Str->Option Value}{base:Heap}{A:Around}{outer:List Env}{s:Shared}{H:Hp}(e:j4 P w K mg base A outer s H)(C:Addr)(us:List Value)(kw:List (Str × Value)) :
  j4 P w K mg base (A.under (.builtin "type.__call__" ⟨.ref C::us,kw⟩)) outer s H:=⟨by first | exact e.frames | (simpa[Around.under,Code.envs,Code.isFrame,pushEnvs]using e.frames),e.mod,e.bs,e.k9,e.iG,e.lh,e.aZ,e.bare⟩
section
variable{X:Cx}{pins:List (Addr × Obj)}{σ:St}{H:Hp}{s s':Shared}
theorem Inv.zc(I:Inv X pins σ H s):j4 X.prog X.w X.K X.mg X.base X.A X.stack s H :=
 ⟨I.ok.frames,I.ok.mod,I.bs,fY I.ok.k9 I.sz,I.stack,I.Kt,I.aZ,I.bare⟩
theorem Inv.after{Q:VK}{u:Value}(I:Inv X pins σ H s)(h:CE X.stack X.prog X.w H s Q u s'):EP X pins σ Q u s':=by
 obtain⟨v,H',os,bare,un,aZ,r,q⟩:=h
 obtain⟨hh,g,d,t,YY⟩:=s'
 obtain rfl:YY=s.os:=os
 exact⟨v,H',I.call (h':=hh) (g':=g) (d':=d) (t':=t) (ch:=[]) un aZ bare (λb z=>absurd z (by simp)),r,q⟩
end
def YZ(sp:Sp)(ib:List V)(E:XK)(t:TA):TE:=λσ H Q=>t σ H λvs H1=>sp (vs++ib) H1 Q E
def Y0(C:Addr)(sp:Sp)(ib:List V)(E:XK)(t:TA):TE:=λσ H Q=>t σ H λvs H1=>∀x dx,H1 x=none->H1 dx=none->dx≠x ->
 sp (.ref x::(vs++ib)) (upd (upd H1 dx (.own x)) x (.ins C dx [])) (λv H2=>v=.az/\Q (.ref x) H2) E
def Binds(K:PySem.W.Frag)(fd:FuncData)(ps:List Str)(ds:List Value):Prop :=
 ∀(s:Shared) (us:List Value),K.In s.heap->(us++ds).length=ps.length->BindsTo s fd ⟨us,[]⟩ (ps.zip (us++ds))
theorem Binds.all{K:PySem.W.Frag}{fd:FuncData}{ps:List Str}(h:∀us:List Value,us.length=ps.length->bindArgs fd ⟨us,[]⟩=pure (ps.zip us)):Binds K fd ps []:=λs us _ hl=>by
 rw[gu]at hl ⊢
 exact .of_eq (h us hl)
def oK(CX:e8)(X:Cx)(E:XK):Prop:=∀(pins:List (Addr × Obj)) (σ:St) (H:Hp) (s:Shared) (e:Value) (s':Shared),Inv X pins σ H s->CX X.stack H s E e s'->X.xe e s'
section
variable{X:Cx}{CX:e8}{k:Nat}{f C:Addr}{fd:FuncData}{ps:List Str}{sp:Sp}{ib:List V}{ds:List Value}{E:XK}{x m:Str}{p pos apos:Pos}{e o:Expr}{es:List Expr}{ta:TE}{t:TA}
theorem BY{pins:List (Addr × Obj)}{σ:St}{H:Hp}{s:Shared}{Q:VK}{us:List Value}{vs:List V}(F:aF X.prog X.w X.K X.mg X.base CX k f fd ps sp)(hr:cy k X.A)(hb:Binds X.K fd ps ds)(hd:Vals ib ds)(hx:oK CX X E)
  (I:Inv X pins σ H s) (r:Vals vs us) (h:sp (vs++ib) H Q E):wpAny (model X.prog X.w) X.A (call (.ref f) us) (EP X pins σ Q) X.xe s:=by
 have r2:Vals (vs++ib) (us++ds):=r.append hd
 have hl:(us++ds).length=ps.length:=by rw[<-r2.length];exact F.len _ _ _ _ h
 refine wpAny_call (codeAny_mono (F.run X.A X.stack s H ⟨us,[]⟩ (us++ds) (vs++ib) Q E hr I.zc (hb s us I.dU hl) r2 h) λr s' hq=>?_)
 cases r with
 | error e=>exact hx pins σ H s e s' I hq
 | ok fl =>
  cases fl with
  | ret u=>exact I.after hq
  | next=>exact gP hq
  | brk=>exact gP hq
  | cont=>exact gP hq
theorem K7(F:aF X.prog X.w X.K X.mg X.base CX k f fd ps sp)(hr:cy k X.A)(hg:Gl X x)(hm:X.mg x=some (.ref f))(hk:PySem.W.keepIn X.K (.ref f)=true)(hb:Binds X.K fd ps ds)(hd:Vals ib ds)(hx:oK CX X E)
  (ha:PA X (e::es) t) (dZ:(x==("__debug__":Str))=false:=by decide) (he:starEach (e::es) X.env=(false,eval e X.env)::starEach es X.env:=by rfl) (bU:(backTo pos (starEach es X.env)).any (·.1)=false:=by rfl) :
  PE X (.Call (.Name x p) (e::es) [] pos) (YZ sp ib E t):=by
 intro pins s σ H Q I h
 refine wpAny_Call_Name_kw (EF I hg hm ?_ dZ)
 refine PySem.W.callWith_K (h₀:=X.base) I.ok.mod.xm hk (a7 (ha pos pins s σ H _ I h) λus s1 ⟨vs,H1,I1,r,q⟩=>⟨I1.dU,?_⟩) he bU
 exact BY F hr hb hd hx I1 r q
structure Mk(K:PySem.W.Frag)(C f:Addr):Prop where
 makes:PySem.W.makesIn K C=true
 init:PySem.W.findIn K (.ref C) "__init__"=some (some (.ref f))
 fn:PySem.W.isFn K (.ref f)=true
 kp:PySem.W.keepIn K (.ref C)=true
theorem Y1{pins:List (Addr × Obj)}{σ:St}{H:Hp}{s:Shared}{Q:VK}{us:List Value}{vs:List V}(M:Mk X.K C f)(F:aF X.prog X.w X.K X.mg X.base CX k f fd ps sp)(hr:cy (k+1) X.A)(hb:Binds X.K fd ps ds)(hd:Vals ib ds)
  (hx:oK CX X E) (I:Inv X pins σ H s) (r:Vals vs us)
  (h:∀x dx,H x=none->H dx=none->dx≠x->sp (.ref x::(vs++ib)) (upd (upd H dx (.own x)) x (.ins C dx [])) (λv H2=>v=.az/\Q (.ref x) H2) E) :
  wpAny (model X.prog X.w) X.A (call (.ref C) us) (EP X pins σ Q) X.xe s:=by
 have hq:=h (s.heap.objs.size+1) s.heap.objs.size (I.aZ.fresh (Nat.le_succ _)) (I.aZ.fresh (cg _)) (fN (Bo _))
 have I2:=Inv.made (C:=C) I
 have r2:Vals (V.ref (s.heap.objs.size+1)::(vs++ib)) (ix (s.heap.objs.size+1)::(us++ds)):=.cons rfl (r.append hd)
 have hl:(ix (s.heap.objs.size+1)::us++ds).length=ps.length:=by
  have e:=r2.length
  rw[F.len _ _ _ _ hq]at e
  exact e.symm
 refine wpAny_call (YI (f:=f) I.dU M.makes M.init (beq_iff_eq.mp M.fn) (codeAny_mono (F.run _ X.stack _ _ ⟨ix (s.heap.objs.size+1)::us,[]⟩ (ix (s.heap.objs.size+1)::(us++ds)) _ _ E (hr.make C us [])
  (I2.zc.make C us []) (hb _ (ix (s.heap.objs.size+1)::us) I2.dU hl) r2 hq) λr s' oM=>?_))
 cases r with
 | error e=>exact hx pins σ _ _ e s' I2 oM
 | ok fl =>
  cases fl with
  | ret u =>
   obtain⟨v,H',I3,rv,ev,q3⟩:=I2.after oM
   subst ev
   exact⟨rv,⟨V.ref (s.heap.objs.size+1),H',I3,rfl,q3⟩⟩
  | next=>exact gP oM
  | brk=>exact gP oM
  | cont=>exact gP oM
theorem Y2(M:Mk X.K C f)(F:aF X.prog X.w X.K X.mg X.base CX k f fd ps sp)(hr:cy (k+1) X.A)(hg:Gl X x)(hm:X.mg x=some (.ref C))(hb:Binds X.K fd ps ds)(hd:Vals ib ds)(hx:oK CX X E)
  (ha:PA X (e::es) t) (dZ:(x==("__debug__":Str))=false:=by decide) (he:starEach (e::es) X.env=(false,eval e X.env)::starEach es X.env:=by rfl) (bU:(backTo pos (starEach es X.env)).any (·.1)=false:=by rfl) :
  PE X (.Call (.Name x p) (e::es) [] pos) (Y0 C sp ib E t):=by
 intro pins s σ H Q I h
 refine wpAny_Call_Name_kw (EF I hg hm ?_ dZ)
 refine PySem.W.callWith_K (h₀:=X.base) I.ok.mod.xm M.kp (a7 (ha pos pins s σ H _ I h) λus s1 ⟨vs,H1,I1,r,q⟩=>⟨I1.dU,?_⟩) he bU
 exact Y1 M F hr hb hd hx I1 r q
end
section
variable{X:Cx}{CX:e8}{k:Nat}{f C:Addr}{fd:FuncData}{ps ks:List Str}{sp:Sp}{E:XK}{x m:Str}{p pos apos dK8:Pos}{e o:Expr}{es:List Expr}{kws:List Keyword}{te ta:TE}{t tk:TA}{nm:Option Str}
variable{g:List Value->List Value->List Value}{gV:List V->List V->List V}
end
structure aT(N P:List Str)(sc:Scope):Prop where
 kind:sc.kind=.function
 co:sc.isCoroutine=false
 gen:sc.isGenerator=false
 nd:N.Nodup
 pre:N.take P.length=P
 par:∀x∈P,sc.names.lookup x=some .local\/sc.names.lookup x=some .cell
 Y3:∀y∈sc.names,y.2≠.free
theorem K8{kindOf:Str->Option NameKind}{x:Str}:∀{binds:List (Str × Value)} {m:Str->Option Value},(∀v,(x,v) ∉ binds)->bindL kindOf binds m x=m x
 | [],_,_=>rfl
 | (n,v)::r,m,h=>by
  unfold bindL
  rw[K8 λw hw=>h w (e5 _ hw)]
  split
  ·have:x≠n:=by rintro rfl;exact h v gD
   simp[this]
  ·rfl
theorem K9{kindOf:Str->Option NameKind}{x:Str}:∀{binds:List (Str × Value)} {m:Str->Option Value},(∀v,(x,v) ∉ binds)->bindC kindOf binds m x=m x
 | [],_,_=>rfl
 | (n,v)::r,m,h=>by
  unfold bindC
  rw[K9 λw hw=>h w (e5 _ hw)]
  split
  ·rfl
  ·have:x≠n:=by rintro rfl;exact h v gD
   simp[this]
theorem La{kindOf:Str->Option NameKind}{x:Str}{v:Value}:∀{P:List Str} {vs:List Value} {i:Nat} {m:Str->Option Value},P.Nodup->P[i]?=some x->vs[i]?=some v->kindOf x=some .local ->
  bindL kindOf (P.zip vs) m x=some v
 | [],_,_,_,_,h,_,_=>by simp at h
 | _::_,[],_,_,_,_,h,_=>by simp at h
 | p::P,w::vs,0,m,nd,h1,h2,hk=>by
  simp at h1 h2;subst h1;subst h2
  show bindL kindOf ((p,w)::P.zip vs) m p=_
  unfold bindL
  rw[K8 λv hv=>(iZ.mp nd).1 (uo hv).1,if_pos hk]
  simp
 | p::P,w::vs,i+1,m,nd,h1,h2,hk=>by
  show bindL kindOf ((p,w)::P.zip vs) m x=_
  unfold bindL
  exact La (i:=i) (iZ.mp nd).2 (by simpa using h1) (by simpa using h2) hk
theorem Lb{kindOf:Str->Option NameKind}{x:Str}{v:Value}:∀{P:List Str} {vs:List Value} {i:Nat} {m:Str->Option Value},P.Nodup->P[i]?=some x->vs[i]?=some v->kindOf x≠some .local ->
  bindC kindOf (P.zip vs) m x=some v
 | [],_,_,_,_,h,_,_=>by simp at h
 | _::_,[],_,_,_,_,h,_=>by simp at h
 | p::P,w::vs,0,m,nd,h1,h2,hk=>by
  simp at h1 h2;subst h1;subst h2
  show bindC kindOf ((p,w)::P.zip vs) m p=_
  unfold bindC
  rw[K9 λv hv=>(iZ.mp nd).1 (uo hv).1,if_neg hk]
  simp
 | p::P,w::vs,i+1,m,nd,h1,h2,hk=>by
  show bindC kindOf ((p,w)::P.zip vs) m x=_
  unfold bindC
  exact Lb (i:=i) (iZ.mp nd).2 (by simpa using h1) (by simpa using h2) hk
def start(N:List Str)(vs:List V):St:=vs.map some++aX (N.length-vs.length) none
def i7(CX:e8)(P:Program)(w:World)(K:PySem.W.Frag)(mg:Str->Option Value)(base:Heap)(N:List Str)(qual:Str)(scope:Scope)(f:Addr)(cd:Value)(A:Around)(outer:List Env)(s:Shared)(H:Hp)(E:XK):Cx where
 prog:=P
 w:=w
 K:=K
 mg:=mg
 base:=base
 A:=A.deeper (envOfC qual scope s.heap.objs.size f cd)
 N:=N
 e7:=s
 oG:=H
 env:=envOfC qual scope s.heap.objs.size f cd
 outer:=outer
 stack:=envOfC qual scope s.heap.objs.size f cd::outer
 ex:=[]
 calm:=true
 fn:=λ_=>true
 pn:=[]
 xe:=λe s'=>wpAny (model P w) (A.deeper (envOfC qual scope s.heap.objs.size f cd)) (leaving (envOfC qual scope s.heap.objs.size f cd) e) (λ_ uS=>CX outer H s E e uS) (λe' uS=>CX outer H s E e' uS) s'
theorem Lc{sc:Scope}{n:Nat}{x:Str}(h:sc.names.lookup x=some .cell):∃c,(cellsFrom n sc.names []).lookup x=some c:=by
 have q:=PySem.W.cellsFrom_some sc.names n [] (.inl h)
 exact Wz.mp q
theorem Y4{CX:e8}{P:Program}{w:World}{K:PySem.W.Frag}{mg:Str->Option Value}{base:Heap}{N ps:List Str}{qual:Str}{scope:Scope}{f:Addr}{cd:Value}{A:Around}{outer:List Env}{s s1:Shared}{H:Hp}{E:XK}{us:List Value}{vs:List V}
  (S:aT N ps scope) (hd:A.handled=none) (e0:j4 P w K mg base A outer s H) (hl:vs.length=ps.length) (r:Vals vs us)
  (x:InCallC s s.heap.objs.size (bindL (envOfC qual scope s.heap.objs.size f cd).kindOf (ps.zip us) λ_=>none) (cellsFrom (s.heap.objs.size+1) scope.names []) (bindC (envOfC qual scope s.heap.objs.size f cd).kindOf (ps.zip us) λ_=>none) s1) :
  Inv (i7 CX P w K mg base N qual scope f cd A outer s H E) [] (start N vs) H s1:=by
 have bU:ps.length<=N.length:=by have:=congrArg yx S.pre;rw[fZ]at this;omega
 obtain⟨h1,tk,rfl,hk⟩:=x.done
 have zd:∀b:Addr,b ∉ (i7 CX P w K mg base N qual scope f cd A outer s H E).ex:=λb z=>absurd (show b∈([]:List Addr) from z) (by simp)
 refine⟨⟨e0.mod,S.kind,rfl,rfl,cg _,λy z c h1 h2=>?_,λy hy=>?_,λy c _ h=>?_,λ_=>hd,Around.frames_deeper e0.frames,.inr ⟨rfl,rfl⟩,λb z=>absurd z (zd b),e0.bs,e0.k9,λb _ _=>zd b,λb z=>absurd z (zd b),e0.iG,e0.lh⟩,
  rfl,e0.bare,Un.kept hk,⟨_,x.toInCall.ns,λi y v h1 h2 h3=>?_⟩,λy c h=>⟨_,x.cell y c h⟩,e0.aZ.fresh (cg _),λy c h=>?_,λp hp=>absurd (show p∈([]:List (Addr × Obj)) from hp) (by simp),e0.aZ.kept hk,?_⟩
 ·exact name_of_addr x.apart (PySem.mem_of_lookup h1) (PySem.mem_of_lookup h2)
 ·have hy:scope.names.lookup y=some .cell\/scope.names.lookup y=some .free:=hy
  rcases hy with hy | hy
  ·exact Lc hy
  ·exact absurd rfl (S.Y3 _ (PySem.mem_of_lookup hy))
 ·exact Bk (x.above y c (PySem.mem_of_lookup h))
 ·have hi:i<vs.length:=by
   unfold start at h2
   by_cases hi:i<vs.length
   ·exact hi
   ·rw[qJ (by simpa using hi)]at h2
    rw[nC]at h2
    split at h2<;>cases h2
  have ha:vs[i]?=some v:=by
   unfold start at h2
   rw[uq (by simpa using hi),bM]at h2
   cases e:vs[i]? with
   | none=>rw[e]at h2;cases h2
   | some a=>rw[e]at h2;cases h2;rfl
  obtain⟨u,hu,rv⟩:=r.get ha
  have hp:ps[i]?=some y:=by
   rw[<-S.pre,WA (by omega)];exact h1
  have Ld:ps.Nodup:=by rw[<-S.pre];exact S.nd.sublist (List.take_sublist _ _)
  refine⟨u,rv,?_⟩
  rcases S.par y (ur hp)with k | k
  ·exact .inl ⟨k,La Ld hp hu k⟩
  ·obtain⟨c,e⟩:=Lc (n:=s.heap.objs.size+1) k
   refine .inr ⟨.inl k,c,e,?_⟩
   have q:=x.cell y c e
   rw[Lb Ld hp hu (by show scope.names.lookup y≠_;rw[k];decide)]at q
   exact q
 ·exact e0.aZ.fresh (Bk (x.above y c (PySem.mem_of_lookup h)))
 ·unfold start
  show _=N.length
  rw[du,aW,eQ]
  omega
theorem EX{CX:e8}{P:Program}{w:World}{K:PySem.W.Frag}{mg:Str->Option Value}{base:Heap}{k:Nat}{f:Addr}{name qual:Str}{params:Arguments}{body:List Stmt}{scope:Scope}{dV kV doc pm aD ct oc:Value}{an od:Option Addr}
  {jz:Array (Option Value)} {N ps:List Str} {sp:Sp} (lk:K.lookup f=some ⟨oc,od,.func (PySem.W.fnOf name qual params body scope dV kV doc pm an aD ct),jz⟩) (cC:PySem.W.codeIn K aD qual=true) (S:aT N ps scope)
  (len:∀vs H Q E,sp vs H Q E->vs.length=ps.length)
  (fO:∀(A:Around) (outer:List Env) (s:Shared) (H:Hp) (vs:List V) (Q:VK) (E:XK),cy k (A.deeper (envOfC qual scope s.heap.objs.size f aD))->sp vs H Q E ->
   ∃t,PSs (i7 CX P w K mg base N qual scope f aD A outer s H E) body t/\t { nx:=λ_ H'=>Q .az H',rt:=Q } (start N vs) H) :
  aF P w K mg base CX (k+1) f (PySem.W.fnOf name qual params body scope dV kV doc pm an aD ct) ps sp:=by
 refine⟨len,λA outer s H args us vs Q E hr e0 hb r f9=>?_⟩
 have hl:=len _ _ _ _ f9
 have KX:K.In s.heap:=e0.mod.xm.keeps λb o e=>(e0.bs b o e).1
 have lim:s.heap.NoLimit:=e0.mod.nolimit.keeps λb o e=>(e0.bs b o e).1
 have gG:∀y∈ps.zip us,scope.names.lookup y.1=some .local\/(scope.names.lookup y.1=some .cell/\((cellsFrom (s.heap.objs.size+1) scope.names []).lookup y.1).isSome=true):=λ⟨n,v⟩ hy=>by
  rcases S.par n (uo hy).1 with q | q
  ·exact .inl q
  ·exact .inr ⟨q,PySem.W.cellsFrom_some _ _ _ (.inl q)⟩
 refine codeAny_call_function hr.depth (KX _ _ lk) rfl S.co S.gen rfl (PySem.W.codeRec_of KX cC) (hb _ _ _ _ ?_)
 refine wpAny_newFunctionEnv_cells S.kind gG λenv he s1 x=>?_
 subst he
 refine⟨lim.keeps x.toInCall.keep,codeAny_func ?_⟩
 obtain⟨t,ht,hq⟩:=fO A outer s H vs Q E (hr.deeper _) f9
 have I:Inv (i7 CX P w K mg base N qual scope f aD A outer s H E) [] (start N vs) H s1:=Y4 S hr.hd e0 hl r x
 refine wpAny_mono (ht [] s1 (start N vs) H _ I hq) (λfl s' hs=>?_) λe s' hs=>hs
 have fin:∀{aN:St} {H':Hp} {v:V} {u:Value},Inv (i7 CX P w K mg base N qual scope f aD A outer s H E) [] aN H' s'->RelV v u->Q v H'->CE outer P w H s Q u s' :=
  λ{aN H' v u} J rv q=>⟨v,H',J.os,J.bare,J.base,J.aZ,rv,q⟩
 cases fl with
 | ret u =>
  obtain⟨v,aN,H',J,rv,q⟩:=hs
  exact fin J rv q
 | next =>
  obtain⟨aN,H',J,q⟩:=hs
  exact fin (v:=V.az) (u:=D4) J rfl q
 | brk =>
  obtain⟨_,_,_,q⟩:=hs
  exact gP q
 | cont =>
  obtain⟨_,_,_,q⟩:=hs
  exact gP q
end L2
namespace L2
open PySem PySem.Spec PyProof.Rows
section
variable{X:Cx}{x:Str}{p pos:Pos}{e:Expr}{es:List Expr}{t:TA}{id T:String}{r:List V->Hp->VK->Prop}
def EY(r:List V->Hp->VK->Prop)(t:TA):TE:=λσ H Q=>t σ H λvs H1=>r vs H1 Q
theorem Le(hc:ia X (.builtin id) r)(hg:Gl X x)(hm:X.mg x=none)(hv:bootBuiltins x=some (.builtin id))(ha:PA X (e::es) t)(hn:x≠"__name__":=by decide)(dZ:(x==("__debug__":Str))=false:=by decide)
  (he:starEach (e::es) X.env=(false,eval e X.env)::starEach es X.env:=by rfl) (bU:(backTo pos (starEach es X.env)).any (·.1)=false:=by rfl):PE X (.Call (.Name x p) (e::es) [] pos) (EY r t):=by
 intro pins s σ H Q I h
 refine wpAny_Call_Name_kw (oH I hg hm hv ?_ hn dZ)
 exact PyProof.Rows.callWith_builtin1 (a7 (ha pos pins s σ H _ I h) λus s1 ⟨vs,H1,I1,r1,q1⟩=>hc pins s1 σ H1 vs us Q I1 r1 q1) he bU
theorem Y5(hc:ia X (.type T) r)(hg:Gl X x)(hm:X.mg x=none)(hv:bootBuiltins x=some (.type T))(ha:PA X (e::es) t)(hn:x≠"__name__":=by decide)(dZ:(x==("__debug__":Str))=false:=by decide)
  (he:starEach (e::es) X.env=(false,eval e X.env)::starEach es X.env:=by rfl) (bU:(backTo pos (starEach es X.env)).any (·.1)=false:=by rfl):PE X (.Call (.Name x p) (e::es) [] pos) (EY r t):=by
 intro pins s σ H Q I h
 refine wpAny_Call_Name_kw (oH I hg hm hv ?_ hn dZ)
 exact wM (a7 (ha pos pins s σ H _ I h) λus s1 ⟨vs,H1,I1,r1,q1⟩=>hc pins s1 σ H1 vs us Q I1 r1 q1) he bU
end
end L2
namespace HT
open PySem PyProof.Rows
section
open PySem.SeqAt
open PySem.AutoSeq1 (wpAny_loadPart')
open PySem.MeetsSeq PySem.MeetsSeq2 PySem.MeetsSeq3
end
section
variable{prog:Program}{w:World}{A:Around}{E:Value->Shared->Prop}{s:Shared}
def df(n d:Nat):Option Int->Nat
 | none=>d
 | some v=>if v<0 then(v+(n:Int)).toNat else min v.toNat n
theorem EZ(n d k:Nat):df n d (some (k:Int))=min k n:=by
 show(if(k:Int)<0 then((k:Int)+(n:Int)).toNat else min (k:Int).toNat n)=min k n
 rw[if_neg (by omega),iC]
end
end HT
namespace L2
open PySem PySem.Spec PyProof.Rows
abbrev TO:=St->Hp->(Option Int->Hp->Prop)->Prop
def PO(X:Cx)(e:Option Expr)(t:TO):Prop :=
 ∀(pins:List (Addr × Obj)) (s:Shared) (σ:St) (H:Hp) (Q:Option Int->Hp->Prop),Inv X pins σ H s->t σ H Q ->
  wpAny (model X.prog X.w) X.A (evalPart e X.env) (λu s'=>∃o H',Inv X pins σ H' s'/\IsPart u o/\Q o H') X.xe s
def Y6:TO:=λ_ H Q=>Q none H
def Y7(t:TE):TO:=λσ H Q=>t σ H λx H1=>∃i,x=.int i/\Q (some i) H1
theorem Lf{ns:List Int}:∀{us:List Value},Vals (ns.map V.int) us->IntsAre us ns:=by
 induction ns with
 | nil=>intro us r;rw[gR]at r;cases r;exact .nil
 | cons n ns ih =>
  intro us r
  rw[cI]at r
  cases r with
  | cons r1 r2 =>
   obtain⟨t,e⟩:=r1
   subst e
   exact .cons n t (ih r2)
section
variable{X:Cx}{e:Expr}{te:TE}{lo hi:Option Expr}{tl th:TO}{pos p2:Pos}
theorem Y8:PO X none Y6:=by
 intro pins s σ H Q I h
 rw[evalPart_none]
 exact wpAny_pure ⟨none,H,I,.none,h⟩
theorem Y9(h:PE X e te):PO X (some e) (Y7 te):=by
 intro pins s σ H Q I hw
 rw[evalPart_some]
 refine a7 (h pins s σ H _ I hw) λu s1 ⟨x,H1,I1,r1,q1⟩=>?_
 obtain⟨i,rfl,q⟩:=q1
 obtain⟨t,rfl⟩:=r1
 exact⟨some i,H1,I1,.int i t,q⟩
def uT(X:Cx)(r:V->Option Int->Option Int->Hp->VK->Prop):Prop :=
 ∀(pins:List (Addr × Obj)) (s:Shared) (σ:St) (H:Hp) (x:V) (v vl vu:Value) (lo hi:Option Int) (sl:Addr) (Q:VK),Inv X pins σ H s->RelV x v->s.heap.IsSliceOf sl vl vu .none->IsPart vl lo->IsPart vu hi->r x lo hi H Q ->
  ∃T id,typeLookup (.type T) "__getitem__"=pure (some (.builtin id))/\s.TypeIs v T/\wpAny (model X.prog X.w) X.A (getItem v (.ref sl)) (EP X pins σ Q) X.xe s
theorem uT.or{r r':V->Option Int->Option Int->Hp->VK->Prop}(h:uT X r)(h':uT X r'):uT X (λx lo hi H Q=>r x lo hi H Q\/r' x lo hi H Q):=by
 intro pins s σ H x v vl vu lo hi sl Q I rx hs pl pu q
 rcases q with q | q
 ·exact h pins s σ H x v vl vu lo hi sl Q I rx hs pl pu q
 ·exact h' pins s σ H x v vl vu lo hi sl Q I rx hs pl pu q
def Za(r:V->Option Int->Option Int->Hp->VK->Prop)(te:TE)(tl th:TO):TE:=λσ H Q=>te σ H λx H1=>tl σ H1 λl H2=>th σ H2 λu H3=>r x l u H3 Q
theorem Lg{r:V->Option Int->Option Int->Hp->VK->Prop}(hr:uT X r)(he:PE X e te)(hl:PO X lo tl)(hu:PO X hi th):PE X (.Subscript e (.Slice lo hi none p2) pos) (Za r te tl th):=by
 intro pins s σ H Q I h
 refine Subscript_ (a7 (he pins s σ H _ I h) λv s1 ⟨x,H1,I1,r1,q1⟩=>?_)
 refine wpAny_Slice (a7 (hl pins s1 σ H1 _ I1 q1) λvl s2 ⟨l,H2,I2,pl,q2⟩=>a7 (hu pins s2 σ H2 _ I2 q2) λvu s3 ⟨u,H3,I3,pu,q3⟩=>?_)
 rw[evalPart_none]
 refine wpAny_pure ?_
 have I4:Inv X pins σ H3 { s3 with heap:=s3.heap.push { cls:=.type "slice",data:=.fields #[vl,vu,.none] } }:=I3.kept (t':=s3.toks) λb ob q=>gQ _ q
 obtain⟨T,id,hT,ht,hg⟩:=hr pins { s3 with heap:=s3.heap.push { cls:=.type "slice",data:=.fields #[vl,vu,.none] } } σ H3 x v vl vu l u s3.heap.objs.size Q I4 r1 (Heap.IsSliceOf.new ..) pl pu q3
 show wpAny (model X.prog X.w) X.A (subscriptTail e (.Slice lo hi none p2) v (.ref s3.heap.objs.size)) (EP X pins σ Q) X.xe { s3 with heap:=s3.heap.push { cls:=.type "slice",data:=.fields #[vl,vu,.none] } }
 exact tail_any (ops:=[.ref s3.heap.objs.size,v]) ht hT hg (by with_unfolding_all rfl)
def mG(xs:List V)(lo hi:Option Int):List V:=(xs.drop (HT.df xs.length 0 lo)).take (HT.df xs.length xs.length hi-HT.df xs.length 0 lo)
theorem Zb(xs:List V)(lo hi:Option Int):(mG xs lo hi).length<=xs.length:=by
 unfold mG
 rw[fZ,iD]
 omega
end
end L2
namespace L2
open PySem PySem.Spec PyProof.Rows
def j5(n:Nat)(i:Int):Option Nat:=if 0<=i then(if i<n then some i.toNat else none)else if -(n:Int)<=i then some (i+n).toNat else none
def fc{α:Type}(xs:List α)(i:Int):Option α:=(j5 xs.length i).bind λj=>xs[j]?
theorem Lh{n:Nat}{i:Int}{j:Nat}(h:j5 n i=some j):seqIndex? i n=some j/\j<n/\-(n:Int)<=i/\i<n:=by
 unfold j5 at h
 by_cases h0:0<=i
 ·rw[if_pos h0]at h
  by_cases h1:i<n
  ·rw[if_pos h1]at h
   have e:i.toNat=j:=cT h
   exact⟨by rw[seqIndex_of h0 h1,e],by omega,by omega,h1⟩
  ·rw[if_neg h1]at h;cases h
 ·rw[if_neg h0]at h
  by_cases h1:-(n:Int)<=i
  ·rw[if_pos h1]at h
   have e:(i+n).toNat=j:=cT h
   exact⟨by rw[seqIndex_neg (by omega) h1,e],by omega,h1,by omega⟩
  ·rw[if_neg h1]at h;cases h
theorem q8{α:Type}{xs:List α}{i:Int}{v:α}(h:fc xs i=some v):∃j,seqIndex? i xs.length=some j/\xs[j]?=some v/\j<xs.length/\-(xs.length:Int)<=i/\i<xs.length:=by
 unfold fc at h
 cases e:j5 xs.length i with
 | none=>rw[e]at h;cases h
 | some j =>
  rw[e]at h
  obtain⟨h1,h2,h3,h4⟩:=Lh e
  exact⟨j,h1,h,h2,h3,h4⟩
def E1(b:Expr):Prop:=∀o i,subscripted b false o i=operate [o,i] (getItem o i)
def oN(X:Cx)(r:R2):Prop :=
 ∀(value slice:Expr) (pins:List (Addr × Obj)) (s:Shared) (σ:St) (H:Hp) (x y:V) (v u:Value) (Q:VK),Inv X pins σ H s->RelV x v->RelV y u->r x y H Q ->
  subscripted slice false v u=operate [v,u] (getItem v u)->wpAny (model X.prog X.w) X.A (subscriptTail value slice v u) (EP X pins σ Q) X.xe s
def ze(X:Cx)(id:String)(r:V->List V->Hp->VK->Prop):Prop :=
 ∀(pins:List (Addr × Obj)) (s:Shared) (σ:St) (H:Hp) (x:V) (xs:List V) (v:Value) (us:List Value) (Q:VK),Inv X pins σ H s->RelV x v->Vals xs us->r x xs H Q ->
  wpAny (model X.prog X.w) X.A (call (.builtin id) (v::us)) (EP X pins σ Q) X.xe s
section
variable{X:Cx}{a b:Expr}{ta tb:TE}{pos:Pos}
theorem oN.or{r r':R2}(h:oN X r)(h':oN X r'):oN X (λx y H Q=>r x y H Q\/r' x y H Q):=by
 intro value slice pins s σ H x y v u Q I rx ry q hs
 rcases q with q | q
 ·exact h value slice pins s σ H x y v u Q I rx ry q hs
 ·exact h' value slice pins s σ H x y v u Q I rx ry q hs
theorem Li{r:R2}(hr:oN X r)(ha:PE X a ta)(hb:PE X b tb)(hs:E1 b):PE X (.Subscript a b pos) (y9 r ta tb):=by
 intro pins s σ H Q I h
 exact Subscript_ (ET ha hb I h λv u s2 x y H2 I2 rx ry q=>hr a b pins s2 σ H2 x y v u Q I2 rx ry q (hs _ _))
def Lj(K:PySem.W.Frag):R2:=λx y H Q=>∃p xs i v,x=.ref p/\y=.int i/\bL K H p xs/\fc xs i=some v/\Q v H
def Lk(K:PySem.W.Frag):R2:=λx y H Q=>∃p xs i v,x=.ref p/\y=.int i/\i6 K H p xs/\fc xs i=some v/\Q v H
def Ll:R2:=λx y H Q=>∃z i c,x=.str z/\y=.int i/\z.length<=sizeLine/\fc z.cps.toList i=some c/\Q (.str ⟨#[c]⟩) H
theorem Lm:oN X (Lj X.K):=by
 intro value slice pins s σ H x y v u Q I rx ry h hs
 obtain⟨p,xs,i,z,rfl,rfl,hq,he,q⟩:=h
 cases rx
 obtain⟨t,rfl⟩:=ry
 obtain⟨its,r,pl,hz⟩:=I.list hq
 obtain⟨j,h1,h2,h3,h4,h5⟩:=q8 he
 obtain⟨w,ew,gU⟩:=r.get h2
 have hl:=r.length
 have hn:=uP
 have fin:EP X pins σ Q w s:=⟨z,H,I,gU,q⟩
 by_cases h0:0<=i
 ·have hj:i.toNat=j:=by
   rw[seqIndex_of h0 h5]at h1
   exact cT h1
  exact item_listR pl.isList h0 (by omega) (by rw[hj];simpa using ew) fin hs
 ·have hj:(i+(its.toArray.size:Int)).toNat=j:=by
   rw[seqIndex_neg (by omega) h4]at h1
   rw[dF,<- hl]
   exact cT h1
  exact subscriptTail_builtinR (x:=w) pl.isList.typeIs slot_list_getitem.lookup
   (wpAny_getItem_list_neg (Q:=λr s'=>r=w/\EP X pins σ Q r s') pl.isList (by omega) (by rw[dF]<;>omega) (by omega) (by rw[hj];simpa using ew) ⟨rfl,fin⟩) hs
theorem Zc:oN X (Lk X.K):=by
 intro value slice pins s σ H x y v u Q I rx ry h hs
 obtain⟨p,xs,i,z,rfl,rfl,hq,he,q⟩:=h
 cases rx
 obtain⟨t,rfl⟩:=ry
 obtain⟨its,r,pl,hz⟩:=I.tuple hq
 obtain⟨j,h1,h2,h3,h4,h5⟩:=q8 he
 obtain⟨w,ew,gU⟩:=r.get h2
 have hl:=r.length
 have hn:=uP
 have fin:EP X pins σ Q w s:=⟨z,H,I,gU,q⟩
 exact subscriptTail_builtinR (x:=w) pl.typeIs slot_tuple_getitem.lookup
  (getItem_tuple (j:=j) (Q:=λr s'=>r=w/\EP X pins σ Q r s') pl (by omega) (by omega) (by rw[dF,<- hl];exact h1) (by simpa using ew) ⟨rfl,fin⟩) hs
theorem Zd:oN X Ll:=by
 intro value slice pins s σ H x y v u Q I rx ry h hs
 obtain⟨z,i,c,rfl,rfl,hz,he,q⟩:=h
 obtain⟨t,rfl⟩:=rx
 obtain⟨t',rfl⟩:=ry
 obtain⟨j,h1,h2,h3,h4,h5⟩:=q8 he
 have hl:z.cps.toList.length=z.length:=by simp[Str.length]
 rw[hl]at h1 h4 h5
 have hn:=uP
 exact tail_any (typeIs_str s z t) slot_str_getitem.lookup (getItem_str (c:=c) (by
  have e1:decide (i < -(2 ^ 63:Int))=false:=decide_eq_false (by omega)
  have e2:decide (i ≥ 2 ^ 63)=false:=decide_eq_false (by omega)
  rw[e1,e2,uu]) (by rw[h1];simpa using h2) ⟨.str ⟨#[c]⟩,H,I.tok _,⟨_,rfl⟩,q⟩) hs
def Ze(K:PySem.W.Frag):R2:=λx y H Q=>Lj K x y H Q\/Lk K x y H Q\/Ll x y H Q
theorem Zf:oN X (Ze X.K):=Lm.or (Zc.or Zd)
theorem Zg(its:List Value)(n j:Nat)(u:Value):Bp (·.setIfInBounds j u) { cls:=.type "list",data:=.seq its.toArray n }={ cls:=.type "list",data:=.seq (its.set j u).toArray n }:=by
 simp[Bp]
theorem Inv.lst{pins:List (Addr × Obj)}{σ:St}{H:Hp}{s:Shared}{p:Addr}{xs:List V}(I:Inv X pins σ H s)(h:H p=some (.lst xs)) :
  ∃(its:List Value) (n:Nat),Vals xs its/\s.heap.get? p=some { cls:=.type "list",data:=.seq its.toArray n }/\xs.length<=sizeLine:=by
 obtain⟨z,its,n,r,e⟩:=I.aZ p _ h
 exact⟨its,n,r,e,z⟩
theorem Inv.Zh{pins:List (Addr × Obj)}{σ:St}{H:Hp}{s:Shared}{p:Addr}{xs ys:List V}{its its':List Value}{n n':Nat}{f:Obj->Obj}(I:Inv X pins σ H s)(h:H p=some (.lst xs))
  (ho:s.heap.get? p=some { cls:=.type "list",data:=.seq its.toArray n }) (hf:f { cls:=.type "list",data:=.seq its.toArray n }={ cls:=.type "list",data:=.seq its'.toArray n' }) (r:Vals ys its') (hz:ys.length<=sizeLine) (t:Nat) :
  Inv X pins σ (upd H p (.lst ys)) { s with heap:=s.heap.update p f,toks:=t }:=by
 have e:(s.heap.update p f).get? p=some { cls:=.type "list",data:=.seq its'.toArray n' }:=by
  rw[Heap.get?_update_self f ho (by rw[hf]<;>rfl),hf]
 refine I.write (x:=p) (e:=p) (by rw[h];trivial) (.inl rfl) (λb u hb q=>(Heap.get?_update_other _ _ (iy hb)).trans q) ⟨_,e⟩ ?_
 exact⟨hz,its',n',r,e⟩
def Zi:V->V->V->Hp->(Hp->Prop)->Prop:=λo i v H Q=>∃p xs k j,o=.ref p/\i=.int k/\H p=some (.lst xs)/\j5 xs.length k=some j/\Q (upd H p (.lst (xs.set j v)))
theorem Zj:KL X Zi:=by
 intro pins s σ H o i v ov iv u Q I ro ri rv h
 obtain⟨p,xs,k,j,rfl,rfl,hp,hj,q⟩:=h
 cases ro
 obtain⟨t,rfl⟩:=ri
 obtain⟨its,n,r,ho,hz⟩:=I.lst hp
 obtain⟨h1,h2,h3,h4⟩:=Lh hj
 have hl:=r.length
 have hn:=uP
 have I':Inv X pins σ (upd H p (.lst (xs.set j v))) { s with heap:=s.heap.update p (Bp (·.setIfInBounds j u)) } :=
  I.Zh hp ho (Zg its n j u) (r.set rv j) (by rw[qK];exact hz) s.toks
 by_cases h0:0<=k
 ·have hk:k.toNat=j:=by
   rw[seqIndex_of h0 h4]at h1
   exact cT h1
  exact PySem.W.ki_setAt ho h0 (by omega) (by rw[dF,<- hl];exact h4) (by rw[hk];exact⟨_,I',q⟩)
 ·have hk:(k+(its.toArray.size:Int)).toNat=j:=by
   rw[seqIndex_neg (by omega) h3]at h1
   rw[dF,<- hl]
   exact cT h1
  exact PySem.W.ki_setBack ho (by omega) (by rw[dF,<- hl];exact h3) (by omega) (by rw[hk];exact⟨_,I',q⟩)
theorem E2(lo hi:Option Int)(n:Nat):(sliceBounds lo hi none n).1=((HT.df n 0 lo:Nat):Int)/\(sliceBounds lo hi none n).2.1=((HT.df n n hi:Nat):Int)/\(sliceBounds lo hi none n).2.2=1:=by
 refine⟨?_,?_,rfl⟩
 ·cases lo with
  | none=>simp[sliceBounds,HT.df]
  | some i =>
   simp only[sliceBounds,HT.df,qL,show(1:Int)>0 by decide,if_true]
   by_cases h:i<0
   ·simp only[h,if_true]<;>omega
   ·simp only[h,if_false]<;>omega
 ·cases hi with
  | none=>simp[sliceBounds,HT.df]
  | some i =>
   simp only[sliceBounds,HT.df,qL,show(1:Int)>0 by decide,if_true]
   by_cases h:i<0
   ·simp only[h,if_true]<;>omega
   ·simp only[h,if_false]<;>omega
theorem Zk(its:List Value)(lo hi:Option Int):slicePick its.toArray lo hi none=((its.drop (HT.df its.length 0 lo)).take (HT.df its.length its.length hi-HT.df its.length 0 lo)).toArray:=by
 obtain⟨h1,h2,h3⟩:=E2 lo hi its.toArray.size
 unfold slicePick
 rw[h1,h2,h3]
 simp only[sliceRange_one,pick_run,dF]<;>rfl
def Zl(K:PySem.W.Frag):V->Option Int->Option Int->Hp->VK->Prop:=λx lo hi H Q=>∃a xs,x=.ref a/\bL K H a xs/\∀p,H p=none->Q (.ref p) (upd H p (.lst (mG xs lo hi)))
theorem Ln:uT X (Zl X.K):=by
 intro pins s σ H x v vl vu lo hi sl Q I rx hs pl pu h
 obtain⟨a,xs,rfl,hx,q⟩:=h
 cases rx
 obtain⟨its,r,ht,hz⟩:=I.list hx
 have hlen:=r.length
 refine⟨"list",_,slot_list_getitem.lookup,ht.isList.typeIs,?_⟩
 refine wpAny_getItem_list_slice ht.isList hs pl pu .none (by simp) ?_ (by rw[dF]<;>omega)
 rw[Zk,<- hlen]
 refine⟨.ref s.heap.objs.size,_,I.laid (t':=s.toks) (o:=.lst (mG xs lo hi)) (λb ob q=>gQ _ q) (cg _) ?_,rfl,q _ (I.aZ.fresh (cg _))⟩
 exact⟨fY (Zb xs lo hi) hz,_,0,(r.drop (HT.df xs.length 0 lo)).take (HT.df xs.length xs.length hi-HT.df xs.length 0 lo),iB _ rfl⟩
def oO:V->Bool
 | .az=>true
 | .bl _=>true
 | .int _=>true
 | .str _=>true
 | _=>false
def nN:V->V->Bool
 | .az,.az=>true
 | .bl a,.bl b=>a==b
 | .bl a,.int b=>(if a then 1 else 0)==b
 | .int a,.bl b=>a==(if b then 1 else 0)
 | .int a,.int b=>a==b
 | .str a,.str b=>a==b
 | _,_=>false
theorem Zm{A:Around}{s:Shared}{y x:V}{u v:Value}(ry:RelV y u)(rx:RelV x v)(fy:oO y=true)(fx:oO x=true):D7 A s u v (nN y x):=by
 cases y with
 | az =>
  cases ry
  cases x with
  | az=>cases rx;exact SeqAt.EqAt.same _
  | bl b=>cases rx;exact SeqAt.EqAt.none_bool b
  | int b=>obtain⟨t,rfl⟩:=rx;exact SeqAt.EqAt.none_int b t
  | str b=>obtain⟨t,rfl⟩:=rx;exact SeqAt.EqAt.none_str b t
  | _=>exact absurd (show false=true from fx) iA
 | bl a =>
  cases ry
  cases x with
  | az=>cases rx;exact SeqAt.EqAt.bool_none a
  | bl b=>cases rx;exact SeqAt.EqAt.bool_bool a b
  | int b=>obtain⟨t,rfl⟩:=rx;exact SeqAt.EqAt.bool_int a b t
  | str b=>obtain⟨t,rfl⟩:=rx;exact SeqAt.EqAt.bool_str a b t
  | _=>exact absurd (show false=true from fx) iA
 | int a =>
  obtain⟨t',rfl⟩:=ry
  cases x with
  | az=>cases rx;exact SeqAt.EqAt.int_none a t'
  | bl b=>cases rx;exact SeqAt.EqAt.int_bool a t' b
  | int b=>obtain⟨t,rfl⟩:=rx;exact SeqAt.EqAt.int_int a t' b t
  | str b=>obtain⟨t,rfl⟩:=rx;exact SeqAt.EqAt.int_str a t' b t
  | _=>exact absurd (show false=true from fx) iA
 | str a =>
  obtain⟨t',rfl⟩:=ry
  cases x with
  | az=>cases rx;exact SeqAt.EqAt.str_none a t'
  | bl b=>cases rx;exact SeqAt.EqAt.str_bool a t' b
  | int b=>obtain⟨t,rfl⟩:=rx;exact SeqAt.EqAt.str_int a t' b t
  | str b=>obtain⟨t,rfl⟩:=rx;exact SeqAt.EqAt.str_str a t' b t
  | _=>exact absurd (show false=true from fx) iA
 | _=>exact absurd (show false=true from fy) iA
def oQ(x:V)(u:Value):Bool:=match u with
 | .none=>nN .az x
 | .bool b=>nN (.bl b) x
 | .int i _=>nN (.int i) x
 | .str z _=>nN (.str z) x
 | _=>false
theorem Lo{x y:V}{u:Value}(r:RelV y u)(f:oO y=true):oQ x u=nN y x:=by
 cases y with
 | az=>cases r;rfl
 | bl b=>cases r;rfl
 | int i=>obtain⟨t,rfl⟩:=r;rfl
 | str z=>obtain⟨t,rfl⟩:=r;rfl
 | _=>exact absurd (show false=true from f) iA
theorem E3{x:V}:∀{xs:List V} {us:List Value},Vals xs us->xs.all oO=true->us.any (oQ x)=xs.any λy=>nN y x
 | _,_,.nil,_=>rfl
 | y::xs,u::us,.cons r t,f=>by
  rw[bA,cK]at f
  rw[List.any_cons,List.any_cons,Lo r f.1,E3 t f.2]
theorem E4{A:Around}{s:Shared}{x:V}{v:Value}(rx:RelV x v)(fx:oO x=true):∀{xs:List V} {us:List Value},Vals xs us->xs.all oO=true->∀u∈us,D7 A s u v (oQ x u)
 | _,_,.nil,_=>λu hu=>by cases hu
 | y::xs,u::us,.cons r t,f=>λu' hu=>by
  rw[bA,cK]at f
  rcases cw.mp hu with rfl | hu
  ·rw[Lo r f.1];exact Zm r rx f.1 fx
  ·exact E4 rx fx t f.2 u' hu
def BZ(x:V)(xs:List V):Bool:=xs.any λy=>nN y x
def Zn(K:PySem.W.Frag)(neg:Bool):R2:=λx y H Q=>∃p xs,y=.ref p/\(bL K H p xs\/i6 K H p xs)/\oO x=true/\xs.all oO=true/\Q (.bl (if neg then !BZ x xs else BZ x xs)) H
theorem Zo:cV X (compareOp .NotIn) (Zn X.K true):=by
 intro pins s σ H x y v u Q I rx ry h
 obtain⟨p,xs,rfl,hq,fx,fs,q⟩:=h
 cases ry
 rcases hq with hq | hq
 ·obtain⟨its,r,pl,hz⟩:=I.list hq
  refine SeqAt.notIn_listAt (oQ x) pl.isList (λw hw=>E4 rx fx r fs w (by simpa using hw)) ⟨.bl _,H,I,rfl,?_⟩
  rw[show its.toArray.any (oQ x)=its.any (oQ x) by simp,E3 r fs]
  exact q
 ·obtain⟨its,r,pl,hz⟩:=I.tuple hq
  refine SeqAt.notIn_tupleAt (oQ x) pl (λw hw=>E4 rx fx r fs w (by simpa using hw)) ⟨.bl _,H,I,rfl,?_⟩
  rw[show its.toArray.any (oQ x)=its.any (oQ x) by simp,E3 r fs]
  exact q
theorem Zp:ia X (.builtin "len") (λxs H Q=>∃p ys,xs=[.ref p]/\(bL X.K H p ys\/i6 X.K H p ys)/\Q (.int ys.length) H):=by
 intro pins s σ H xs us Q I r h
 obtain⟨p,ys,rfl,hq,q⟩:=h
 obtain⟨u,rfl,rx⟩:=EU r
 cases rx
 have hn:=uP
 rcases hq with hq | hq
 ·obtain⟨its,r',pl,hz⟩:=I.list hq
  have hlen:=r'.length
  exact Calls.call_len_list pl.isList (by simp only[dF]<;>omega) ⟨.int ys.length,H,I.tok _,⟨s.toks+1,by rw[dF,hlen]⟩,q⟩
 ·obtain⟨its,r',pl,hz⟩:=I.tuple hq
  have hlen:=r'.length
  exact len_tuple pl (by simp only[dF]<;>omega) ⟨.int ys.length,H,I.tok _,⟨s.toks+1,by rw[dF,hlen]⟩,q⟩
theorem Zq:ia X (.builtin "len") (λxs H Q=>∃z,xs=[.str z]/\z.length<=sizeLine/\Q (.int z.length) H):=by
 intro pins s σ H xs us Q I r h
 obtain⟨z,rfl,hz,q⟩:=h
 obtain⟨u,rfl,t,rfl⟩:=EU r
 have hn:=uP
 exact len_str (by omega) ⟨.int z.length,H,I.tok _,⟨_,rfl⟩,q⟩
theorem ia.or{f:Value}{r r':List V->Hp->VK->Prop}(h:ia X f r)(h':ia X f r'):ia X f (λxs H Q=>r xs H Q\/r' xs H Q):=by
 intro pins s σ H xs us Q I rs q
 rcases q with q | q
 ·exact h pins s σ H xs us Q I rs q
 ·exact h' pins s σ H xs us Q I rs q
theorem Zr:ia X (.type "list") (λxs H Q=>∃p ys,xs=[.ref p]/\(bL X.K H p ys\/i6 X.K H p ys)/\∀l,H l=none->Q (.ref l) (upd H l (.lst ys))):=by
 intro pins s σ H xs us Q I r h
 obtain⟨p,ys,rfl,hq,q⟩:=h
 obtain⟨u,rfl,rx⟩:=EU r
 cases rx
 have fin:∀(its:List Value),Vals ys its->ys.length<=sizeLine->∀(h':Heap) (c':Nat),(∀b o',s.heap.get? b=some o'->h'.get? b=some o') ->
   h'.get? s.heap.objs.size=some { cls:=.type "list",dict:=none,data:=.seq its.toArray c',slots:=#[] }->EP X pins σ Q (.ref s.heap.objs.size) { s with heap:=h' }:=λits r' hz h' c' kp e =>
  ⟨.ref s.heap.objs.size,_,I.laid (t':=s.toks) kp (cg _) (show fi X.prog X.w _ h' _ (.lst ys) from⟨hz,its,c',r',e⟩),rfl,q _ (I.aZ.fresh (cg _))⟩
 rcases hq with hq | hq
 ·obtain⟨its,r',pl,hz⟩:=I.list hq
  have hlen:=r'.length
  obtain⟨o,ho,hc,n,hd⟩:=pl.isList
  exact call_list_seq p (.inl rfl) ho hc hd (λh' c' kp e=>fin its r' hz h' c' kp e) (by simp only[dF]<;>omega)
 ·obtain⟨its,r',pl,hz⟩:=I.tuple hq
  have hlen:=r'.length
  obtain⟨o,ho,hc,n,hd⟩:=pl
  exact call_list_seq p (.inr rfl) ho hc hd (λh' c' kp e=>fin its r' hz h' c' kp e) (by simp only[dF]<;>omega)
def E5(K:PySem.W.Frag)(T:String)(x:V)(H:Hp):Prop:=match x with
 | .str _=>T="str"
 | .int _=>T="int"
 | .ref p=>(T="list"/\∃xs,bL K H p xs)\/(T="tuple"/\∃o,K.lookup p=some o/\o.cls=.type "tuple"/\o.dict=none) \/
   (T="dict"/\((∃eX,H p=some (.dK eX))\/∃eX,H p=some (.dT eX)))\/(T="set"/\∃S n,H p=some (.set S n))
 | _=>False
theorem Lp{pins:List (Addr × Obj)}{σ:St}{H:Hp}{s:Shared}{T:String}{x:V}{v:Value}(I:Inv X pins σ H s)(r:RelV x v)(ty:E5 X.K T x H) :
  s.TypeIs v T/\∀a,v=.ref a->∃ob,s.heap.get? a=some ob/\ob.dict=none:=by
 cases x with
 | str z =>
  obtain⟨t,rfl⟩:=r
  cases(show T="str" from ty)
  exact⟨typeIs_str s z t,λ_ e=>nomatch e⟩
 | int i =>
  obtain⟨t,rfl⟩:=r
  cases(show T="int" from ty)
  exact⟨typeIs_int s i t,λ_ e=>nomatch e⟩
 | ref p =>
  cases r
  rcases ty with⟨rfl,xs,hq⟩ | ⟨rfl,o,hk,hc,hd⟩ | ⟨rfl,hk⟩ | ⟨rfl,S,n,hk⟩
  ·obtain⟨its,_,pl,_⟩:=I.list hq
   refine⟨pl.isList.typeIs,λa e=>?_⟩
   cases e
   obtain⟨o,n,e,c,hd,_⟩:=pl
   exact⟨o,e,hd⟩
  ·refine⟨⟨o,I.dU p o hk,hc⟩,λa e=>?_⟩
   cases e
   exact⟨o,I.dU _ o hk,hd⟩
  ·have z:∃o,s.heap.get? p=some o/\o.ExactDict:=by
    rcases hk with⟨eX,hk⟩ | ⟨eX,hk⟩
    ·obtain⟨_,_,_,_,o,_,_,e,ex,_⟩:=I.aZ p _ hk
     exact⟨o,e,ex⟩
    ·obtain⟨_,_,_,_,o,_,_,e,ex,_⟩:=I.aZ p _ hk
     exact⟨o,e,ex⟩
   obtain⟨o,e,ex⟩:=z
   refine⟨⟨o,e,ex.1⟩,λa e2=>?_⟩
   cases e2
   exact⟨o,e,ex.2.1⟩
  ·obtain⟨o,_,_,_,e,ex,_⟩:=I.aZ p _ hk
   refine⟨⟨o,e,ex.1⟩,λa e2=>?_⟩
   cases e2
   exact⟨o,e,ex.2.1⟩
 | _=>exact gP ty
def Lq(K:PySem.W.Frag)(T:String)(r:V->List V->Hp->VK->Prop)(to:TE):TE:=λσ H Q=>to σ H λx H1=>E5 K T x H1/\r x [] H1 Q
def Zs(K:PySem.W.Frag)(T:String)(r:V->List V->Hp->VK->Prop)(to:TE)(t:TA):TE:=λσ H Q=>to σ H λx H1=>E5 K T x H1/\t σ H1 λxs H2=>r x xs H2 Q
variable{o e:Expr}{es:List Expr}{to:TE}{t:TA}{name:Str}{apos bR:Pos}{T id:String}{r:V->List V->Hp->VK->Prop}
theorem Zt(pa:PlainAttrs T)(slot:Slot T name id)(E6:typeOf (.builtin id)=pure (.type "method_descriptor"))(hm:ze X id r)(ho:PE X o to)
  (kE:attributeBase o name X.env (eval o X.env)=eval o X.env:=by rfl) (kF:(apos.endLine==bR.line)=true:=by rfl):PE X (.Call (.Attribute o name apos) [] [] bR) (Lq X.K T r to):=by
 intro pins s σ H Q I h
 refine wpAny_Call_method0_late kE kF (a7 (ho pins s σ H _ I h) λv s1 ⟨x,H1,I1,r1,ty,q1⟩=>?_)
 obtain⟨h1,h2⟩:=Lp I1 r1 ty
 exact⟨T,id,pa,slot,E6,h1,h2,Calls.callWith_builtin rfl (PySem.evalArgs_none (hm pins s1 σ H1 x [] v [] Q I1 r1 .nil q1))⟩
theorem E7(pa:PlainAttrs T)(slot:Slot T name id)(E6:typeOf (.builtin id)=pure (.type "method_descriptor"))(hm:ze X id r)(ho:PE X o to)(ha:PA X (e::es) t)
  (kE:attributeBase o name X.env (eval o X.env)=eval o X.env:=by rfl)
  (uU:((backTo bR (starEach (e::es) X.env)).all (λx=>!x.1)&&(backToKw bR (keywordEach [] X.env)).all (λx=>x.1.isSome)
   && decide ((e::es).length+([]:List Keyword).length+(if([]:List Keyword).isEmpty then 0 else 1)<30))=true:=by rfl)
  (kF:(apos.endLine==bR.line)=true:=by rfl) (hs:starEach (e::es) X.env=(false,eval e X.env)::starEach es X.env:=by rfl) (uV:(backTo bR (starEach es X.env)).any (·.1)=false:=by rfl) :
  PE X (.Call (.Attribute o name apos) (e::es) [] bR) (Zs X.K T r to t):=by
 intro pins s σ H Q I h
 refine wpAny_Call_method_late kE uU kF rfl (a7 (ho pins s σ H _ I h) λv s1 ⟨x,H1,I1,r1,ty,q1⟩=>?_)
 obtain⟨h1,h2⟩:=Lp I1 r1 ty
 refine⟨T,id,pa,slot,E6,h1,h2,?_⟩
 have hA:=ha bR pins s1 σ H1 _ I1 q1
 rw[hs]at hA ⊢
 refine Calls.callWith_builtin (by show(false||(backTo bR (starEach es X.env)).any (·.1))=false;rw[uV]<;>rfl) (Calls.evalArgs_plain ?_)
 exact a7 hA λus s2 ⟨vs,H2,I2,r2,q2⟩=>hm pins s2 σ H2 x vs v us Q I2 r1 r2 q2
/- xs.append(e),list.index on a dL0 tuple .. are ze facts of 06m -/
end
end L2
namespace L2
open PySem PySem.Spec PyProof.Rows
def Lr(X:Cx)(id:String)(r:V->List V->Hp->VK->Prop):Prop :=
 ∀(pins:List (Addr × Obj)) (s:Shared) (σ:St) (H:Hp) (x:V) (xs:List V) (v:Value) (us:List Value) (Q:VK),Inv X pins σ H s->RelV x v->Vals xs us->r x xs H Q ->
  wpAny (model X.prog X.w) X.A (call (.builtin id) (v::us)) (EP X pins σ Q) X.xe s
theorem Vals.one:∀{x:V} {us:List Value},Vals [x] us->∃u,us=[u]/\RelV x u
 | _,_,h=>by cases h with | cons r h=>cases h;exact⟨_,rfl,r⟩
theorem Vals.two:∀{x y:V} {us:List Value},Vals [x,y] us->∃u v,us=[u,v]/\RelV x u/\RelV y v
 | _,_,_,h=>by cases h with | cons r h=>cases h with | cons q h=>cases h;exact⟨_,_,rfl,r,q⟩
theorem Vals.rep{xs:List V}{us:List Value}(h:Vals xs us):∀k:Nat,Vals (aX k xs).flatten (aX k us).flatten
 | 0=>.nil
 | k+1=>by
  rw[uv,uv,wR,wR]
  exact Vals.append h (Vals.rep h k)
theorem Lu(its:List Value):∀(k:Nat) (acc:List Value),
  List.foldl (λx1 x2=>x1++x2) acc.toArray (aX k its.toArray)=(acc++(aX k its).flatten).toArray
 | 0,acc=>by simp
 | k+1,acc=>by
  have e:acc.toArray++its.toArray=(acc++its).toArray:=by simp
  have e2:(acc++its)++(aX k its).flatten=acc++(aX (k+1) its).flatten:=by
   rw[uv,wR,da]
  rw[<-e2,<- Lu its k (acc++its),<- e,uv,wU]
section
variable{X:Cx}{pins:List (Addr × Obj)}{σ:St}{H:Hp}{s:Shared}{l b:Addr}{xs ys zs:List V}
theorem Inv.Lw{its its':List Value}{n:Nat}{f:Array Value->Array Value}{t':Nat}(I:Inv X pins σ H s)(hH:H l=some (.lst xs))
  (e:s.heap.get? l=some { cls:=.type "list",data:=.seq its.toArray n }) (hf:f its.toArray=its'.toArray) (hv:Vals ys its') (hz:ys.length<=sizeLine) :
  Inv X pins σ (upd H l (.lst ys)) { s with heap:=s.heap.update l (Bp f),toks:=t' }:=by
 have q:=PySem.IsL.update e f
 rw[hf]at q
 refine I.write (x:=l) (e:=l) (by rw[hH];exact trivial) (.inl rfl) (λb' u hb hu=>(Heap.get?_update_other s.heap (Bp f) (iy hb)).trans hu) ⟨_,q⟩ ?_
 exact⟨hz,its',_,hv,q⟩
theorem Inv.Lx{its:List Value}{t':Nat}(I:Inv X pins σ H s)(hv:Vals ys its)(hz:ys.length<=sizeLine) :
  Inv X pins σ (upd H s.heap.objs.size (.lst ys)) { s with heap:=s.heap.push { cls:=.type "list",data:=.seq its.toArray },toks:=t' } :=
 I.laid (λ_ _ q=>gQ _ q) (cg _) ⟨hz,its,0,hv,iB _ rfl⟩
theorem Inv.fresh(I:Inv X pins σ H s):H s.heap.objs.size=none:=I.aZ.fresh (cg _)
theorem Inv.xu(I:Inv X pins σ H s)(hH:H l=some (.lst xs)):xs.length<=sizeLine/\∃(its:List Value) (n:Nat),Vals xs its/\xs.length=its.length/\s.heap.get? l=some { cls:=.type "list",data:=.seq its.toArray n }:=by
 obtain⟨z,its,n,r,e⟩:=I.aZ l _ hH
 exact⟨z,its,n,r,r.length,e⟩
theorem Ly{n:Nat}(h:n<=sizeLine):D8 n=false:=by
 unfold D8
 exact decide_eq_false (by omega)
end
section
variable{X:Cx}
def Zu:V->List V->Hp->VK->Prop:=λx vs H Q=>∃l xs y,x=.ref l/\vs=[y]/\H l=some (.lst xs)/\xs.length<sizeLine/\Q .az (upd H l (.lst (xs++[y])))
theorem Lz:Lr X "list.append" Zu:=by
 intro pins s σ H x vs v us Q I rx rv h
 obtain⟨l,xs,y,rfl,rfl,hH,hz,q⟩:=h
 cases rx
 obtain⟨u,rfl,ru⟩:=rv.one
 obtain⟨z,its,n,r,hl,e⟩:=I.xu hH
 refine call_meets F.slot_list_append ⟨_,e,rfl⟩ F.entry_list_append (F.args_list_append_2 _ _) (PySem.list_append l its.toArray n u (by rw[dF];omega)) ⟨e,?_⟩
 refine⟨.az,_,I.Lw (its':=its++[u]) hH e (by simp) (r.append (.cons ru .nil)) ?_,rfl,q⟩
 rw[du,qM]
 omega
def Zv:V->List V->Hp->VK->Prop:=λx vs H Q=>∃l b xs zs,x=.ref l/\vs=[.ref b]/\H l=some (.lst xs)/\H b=some (.lst zs)/\xs.length+zs.length<=sizeLine/\Q .az (upd H l (.lst (xs++zs)))
theorem Zw:Lr X "list.extend" Zv:=by
 intro pins s σ H x vs v us Q I rx rv h
 obtain⟨l,b,xs,zs,rfl,rfl,hH,hB,hz,q⟩:=h
 cases rx
 obtain⟨u,rfl,ru⟩:=rv.one
 cases ru
 obtain⟨z,its,n,r,hl,e⟩:=I.xu hH
 obtain⟨z2,uW,n2,r2,Zx,e2⟩:=I.xu hB
 have q5:its.toArray.size+uW.toArray.size<=sizeLine:=by rw[dF,dF];omega
 have E8:¬ (!its.toArray.isEmpty&&D8 (its.toArray.size+uW.toArray.size))=true:=by
  rw[Ly q5,JN]
  exact iA
 refine call_meets F.slot_list_extend ⟨_,e,rfl⟩ F.entry_list_extend (F.args_list_extend_2 _ _)
  (AutoSeq1.list_extend_list_list_0 l its.toArray n b uW.toArray n2 E8 (by rw[dF];omega) (by omega)) ⟨e,e2,?_⟩
 refine⟨.az,_,I.Lw (its':=its++uW) hH e (by simp) (r.append r2) ?_,rfl,q⟩
 rw[du]
 omega
def Zy:R2:=λx y H Q=>∃l b xs zs,x=.ref l/\y=.ref b/\H l=some (.lst xs)/\H b=some (.lst zs)/\xs.length+zs.length<=sizeLine/\∀p,H p=none->Q (.ref p) (upd H p (.lst (xs++zs)))
theorem LA:cV X (binaryOp .Add) Zy:=by
 intro pins s σ H x y v u Q I rx ry h
 obtain⟨l,b,xs,zs,rfl,rfl,hH,hB,hz,q⟩:=h
 cases rx
 cases ry
 obtain⟨z,its,n,r,hl,e⟩:=I.xu hH
 obtain⟨z2,uW,n2,r2,Zx,e2⟩:=I.xu hB
 refine PySem.P.add_list e e2 ?_ (by rw[dF,dF];omega)
 have ea:its.toArray++uW.toArray=(its++uW).toArray:=by simp
 rw[ea]
 exact⟨.ref _,_,I.Lx (t':=s.toks) (r.append r2) (by rw[du];omega),rfl,q _ I.fresh⟩
def Zz:R2:=λx y H Q=>∃l k xs,x=.ref l/\y=.int k/\H l=some (.lst xs)/\-(2 ^ 63)<=k/\k<2 ^ 63/\xs.length*k.toNat<=sizeLine /\
 ∀p,H p=none->Q (.ref p) (upd H p (.lst (aX k.toNat xs).flatten))
theorem ZA{α:Type}(xs:List α)(k:Nat):(aX k xs).flatten.length=k*xs.length:=by
 induction k with
 | zero=>simp
 | succ k ih=>rw[uv,wR,du,ih,JO,yA]
theorem ZC:cV X (binaryOp .Mult) Zz:=by
 intro pins s σ H x y v u Q I rx ry h
 obtain⟨l,k,xs,rfl,rfl,hH,h1,h2,hz,q⟩:=h
 cases rx
 obtain⟨t,rfl⟩:=ry
 obtain⟨z,its,n,r,hl,e⟩:=I.xu hH
 have hlen:its.toArray.size*k.toNat<=sizeLine:=by rw[dF,<- hl];exact hz
 have ZD:¬ its.toArray.size*k.toNat>(2 ^ 63-1)/8:=by
  have:(sizeLine:Nat)<=(2 ^ 63-1)/8:=by decide
  omega
 have ZE:¬ (!Builtin.List.listFitsIndex k)=true:=by
  rw[fitsIndex_both h1 h2]
  exact iA
 have E8:¬ D8 (its.toArray.size*k.toNat)=true:=by
  rw[Ly hlen]
  exact iA
 have ZF:List.foldl (λx1 x2=>x1++x2) #[] (aX (if its.toArray.isEmpty=true then 0 else k.toNat) its.toArray)=(aX k.toNat its).flatten.toArray:=by
  have f0:∀m:Nat,List.foldl (λx1 x2=>x1++x2) #[] (aX m its.toArray)=(aX m its).flatten.toArray:=λm=>by
   have:=Lu its m []
   rw[ju]at this
   exact this
  rw[f0]
  cases its with
  | nil=>simp
  | cons a r'=>rw[if_neg (by simp)]
 refine wpAny_binaryOp_repeat_ref (T:="list") (U:="int") (by decide) ⟨_,e,rfl⟩ (λs'=>typeIs_int s' k t) noFill_list_mul F.fills_int_mul F.slot_int_rmul repeat_list F.slot_int_index.lookup
  (call_meets F.slot_int_rmul (typeIs_int s k t) F.entry_int_rmul (F.args_int_rmul_2 _ _) (int___rmul___int_list k t l its.toArray n)
   ⟨e,rfl,⟨_,e,rfl⟩,call_meets F.slot_list_mul ⟨_,e,rfl⟩ F.entry_list_mul (F.args_list_mul_2 _ _) (AutoListH.list___mul___list_int_3 l its.toArray n k t ZE ZD E8) ⟨e,?_⟩⟩)
 rw[ZF]
 exact⟨.ref _,_,I.Lx (t':=s.toks) (r.rep k.toNat) (by rw[ZA,ow];exact hz),rfl,q _ I.fresh⟩
end
section
variable{prog:Program}{w:World}{A:Around}{E:Value->Shared->Prop}{s:Shared}
end
section
variable{X:Cx}
end
end L2
namespace Att
open PySem PySem.W PySem.Calls PyProof.Rows
theorem ZG{P:Params}{h:Heap}:∀(ns:List Int) (vs:List Value),WellAll P h vs (ns.map WData.int)->IntsAre vs ns:=by
 intro ns
 induction ns with
 | nil =>
  intro vs w
  rw[gR]at w
  cases w
  exact .nil
 | cons n ns ih =>
  intro vs w
  rw[cI]at w
  cases w with
  | cons a b =>
   cases a
   exact .cons _ _ (ih _ b)
theorem ZH{l:OpenLaw}{n:Nat}(hn:l.most=some n){P:Params}{h:Heap}{args:List WData}{vals:List Value}
  (B0:l.row.toRowW.claim.pre args=true) (E9:WellAll P h vals args) :
  ∃a vs ns,vals=[ix a]/\args=[WData.list (ns.map WData.int)]/\h.get? a=some { cls:=.type "list",data:=.seq vs.toArray }/\IntsAre vs ns/\ns.length<=n:=by
 have zh:WShape.hasAll [] args [.list .int]=true:=(pre_splitW B0).1
 have hc:l.pre.holds [] { args:=args }=true:=(pre_splitW B0).2
 obtain⟨d,r,rfl,h1,h2⟩:=hasAllW_cons zh
 obtain rfl:=hasAllW_nil h2
 obtain⟨xs,rfl,h3⟩:=hasW_list h1
 obtain⟨ns,rfl⟩:=items_int h3
 have hlen:ns.length<=n:=by
  unfold OpenLaw.pre at hc
  have h4:(WTm.not (.lt (.lit (.int (n:Int))) (.len (.arg 0)))).holds [] { args:=[.list (ns.map .int)] }=true:=by
   have h4:=(holds_andW hc).1
   rw[hn]at h4
   exact h4
  have h5:=condW_of h4 (w_not (w_lt w_lit (w_len_list (w_arg rfl))))
  rw[aW]at h5
  refine D9 λq=>?_
  have q':(n:Int)<((ns.length:Nat):Int):=by omega
  first
   | (rw[decide_eq_true q']at h5;exact absurd h5 (by decide))
   | (simp at h5;omega)
 cases E9 with
 | cons w1 w2 =>
  cases w2
  cases w1 with
  | list ho ZI=>exact⟨_,_,ns,rfl,rfl,ho,ZG ns _ ZI,hlen⟩
theorem ZJ(l:OpenLaw)(args:List WData):l.row.toRowW.claim.post args (.bool true) args=true :=
 postW_of (r:=l.row.toRowW) (X:=(true==true))
  (show WShape.has [] (.bool true) .bool=true by first | rfl | decide | simp[WShape.has,WShape.arms,WShape.armsAll])
  (show(WTm.eq .res (.lit (.bool true))).value [] { args:=args,res:=some (.bool true),after:=args }=some (.bool (true==true)) from w_eq_bool (w_res rfl) w_lit) rfl
theorem ZK{l:OpenLaw}{n:Nat}{q:Program}{loose:List Str}{XP:(Str->Option Value)->Heap->Prop}{YP:World->Heap->Prop}{d:DefRec}
  (hn:l.most=some n) (zi:d.params.defaults=[])
  (call:∀(w:World) (e7 bJ:Shared) (mg mb:Str->Option Value) (fa:Addr) (o:Obj) (pm cd doc:Value) (a:Addr) (vs:List Value) (ns:List Int),
   Ground q loose [] XP w e7 mg mb bJ.heap->YP w bJ.heap ->
   bJ.heap.get? fa=some o->o.data=.func (docDef d.name d.params d.body d.scope pm cd doc)->bJ.heap.CodeRec cd d.name->mg d.name=some (.ref fa) ->
   bJ.heap.get? a=some { cls:=.type "list",data:=.seq vs.toArray }->IntsAre vs ns->ns.length<=n->bJ.gens=#[] ->
   codeAny (model l.prog w) callerA (.call (.ref fa) ⟨[.ref a],[]⟩) (λr s'=>r=.ok (.ret (.bool true))/\OldK bJ.heap s'.heap/\s'.os=bJ.os/\AllBare s'.gens) bJ) :
  WalkO q loose XP YP l.row.toRowW d [] (λf vs=>PySem.call f vs):=by
 intro w e7 bJ mg mb G Y fa o pm cd doc dV kV ho hd cC hD zj hg args vals as B0 dL1 hrd E9 cO
 obtain rfl:dV=.none:=Dflts.none hD zi
 obtain rfl:kV=.none:=Dflts.noKw hD
 obtain⟨a,vs,ns,rfl,rfl,Fc,hints,hlen⟩:=ZH hn B0 E9
 refine enter_call (codeAny_mono (call w e7 bJ mg mb fa o pm cd doc a vs ns G Y ho (fd_plain hd) cC zj Fc hints hlen hg) λr s' hq=>?_)
 obtain⟨rfl,h2,h3,h4⟩:=hq
 exact⟨.inl ⟨.bool true,.bool true,[],rfl,λ_=>rfl,.bool true,ZJ l _,λ_=>⟨Ea,λ_ hm=>(nomatch hm)⟩⟩,h2,h3,h4⟩
section
variable{prog:Program}{w:World}{A:Around}{E:Value->Shared->Prop}{s:Shared}{K:Frag}
end
end Att
namespace L2
open PySem PySem.Spec PyProof.Rows
theorem LB:∀{vs:List Value} {ns:List Int},IntsAre vs ns->Vals (ns.map V.int) vs
 | _,_,.nil=>.nil
 | _,_,.cons n t h=>.cons ⟨t,rfl⟩ (LB h)
end L2
namespace L2
open PySem PySem.Spec PyProof.Rows
end L2
/- THE dL4 dL5 (shape;LID,My.* are dL7):
   My.cR: a structure of LC addresses dL8 dL9 dM0 names (classes,dM1);My.Txt K t: a structure (Prop) of LC equations over K;
   My.dM2:{K} {implicit addresses ..} (e1:nsIn K mainGlobals "law"=some (some (.ref f))) (e2:K.lookup f=some ⟨oc,od,.func (fnOf "law" "law" params body scope dV kV doc pm an aD ct),sl⟩) (e3:codeIn K aD "law"=true) ..:∃t,My.Txt K t
(LC tactic k_is has no namespace: write k_is) -/
namespace L2
open PySem PySem.Spec PyProof.Rows
def ff(s:Stmt)(j:Nat):Stmt:=match s with
 | .ClassDef _ _ _ body _ _ _ _ _ _ _=>body.getD j (.Pass ⟨0,0,0,0⟩)
 | _=>.Pass ⟨0,0,0,0⟩
def nO(s:Stmt):Arguments:=match s with
 | .FunctionDef _ a _ _ _ _ _ _ _ _=>a
 | _=>{ posonlyargs:=[],args:=[],vararg:=none,kwonlyargs:=[],kw_defaults:=[],kwarg:=none,defaults:=[] }
def ie(s:Stmt):List Stmt:=match s with
 | .FunctionDef _ _ b _ _ _ _ _ _ _=>b
 | _=>[]
def aI(s:Stmt):Scope:=match s with
 | .FunctionDef _ _ _ _ _ _ sc _ _ _=>sc
 | _=>{ kind:=.function,names:=[],isGenerator:=false,isCoroutine:=false }
abbrev aK:e8:=λ_ _ _ _ _ _=>False
abbrev E0:XK:=λ_ _ _=>False
theorem jA{X:Cx}:oK aK X E0:=λ_ _ _ _ _ _ _ h=>h.elim
structure j6(K:PySem.W.Frag)(x qual:Str)(st:Stmt)(f:Addr)(fd:FuncData):Prop where
 ex:∃(oc:Value) (od:Option Addr) (kV doc pm:Value) (an:Option Addr) (aD ct:Value) (jz:Array (Option Value)),
  fd=PySem.W.fnOf x qual (nO st) (ie st) (aI st) .none kV doc pm an aD ct/\K.lookup f=some ⟨oc,od,.func fd,jz⟩/\PySem.W.codeIn K aD qual=true
 kp:PySem.W.keepIn K (.ref f)=true
section
variable{P:Program}{w:World}{K:PySem.W.Frag}{mg:Str->Option Value}{base:Heap}
theorem j6.ok{x qual:Str}{st:Stmt}{f:Addr}{fd:FuncData}{N ps:List Str}{k:Nat}{sp:Sp}(F:j6 K x qual st f fd)(S:aT N ps (aI st))(len:∀vs H Q E,sp vs H Q E->vs.length=ps.length)
  (fO:∀(aD:Value) (A:Around) (outer:List Env) (s:Shared) (H:Hp) (vs:List V) (Q:VK) (E:XK),cy k (A.deeper (envOfC qual (aI st) s.heap.objs.size f aD))->sp vs H Q E ->
   ∃t,PSs (i7 aK P w K mg base N qual (aI st) f aD A outer s H E).gF (ie st) t/\t { nx:=λ_ H'=>Q .az H',rt:=Q } (start N vs) H):aF P w K mg base aK (k+1) f fd ps sp:=by
 obtain⟨oc,od,kV,doc,pm,an,aD,ct,jz,rfl,lk,cC⟩:=F.ex
 refine EX lk cC S len λA outer s H vs Q E hr f9=>?_
 obtain⟨t,h,q⟩:=fO aD A outer s H vs Q E hr f9
 exact⟨t,h.gF,q⟩
theorem j6.binds{x qual:Str}{st:Stmt}{f:Addr}{fd:FuncData}{ps:List Str}(F:j6 K x qual st f fd)
  (h:∀(kV doc pm:Value) (an:Option Addr) (aD ct:Value) (us:List Value),us.length=ps.length->bindArgs (PySem.W.fnOf x qual (nO st) (ie st) (aI st) .none kV doc pm an aD ct) ⟨us,[]⟩=pure (ps.zip us)):Binds K fd ps []:=by
 obtain⟨oc,od,kV,doc,pm,an,aD,ct,jz,rfl,lk,cC⟩:=F.ex
 exact .all (h kV doc pm an aD ct)
theorem LD{x qual:Str}{st:Stmt}{f:Addr}{oc:Value}{od an:Option Addr}{jz:Array (Option Value)}{kV doc pm aD ct:Value}(l:K.lookup f=some ⟨oc,od,.func (PySem.W.fnOf x qual (nO st) (ie st) (aI st) .none kV doc pm an aD ct),jz⟩)
  (c:PySem.W.codeIn K aD qual=true) (k:PySem.W.keepIn K (.ref f)=true):j6 K x qual st f (PySem.W.fnOf x qual (nO st) (ie st) (aI st) .none kV doc pm an aD ct):=⟨⟨oc,od,kV,doc,pm,an,aD,ct,jz,rfl,l,c⟩,k⟩
end
section
variable{X:Cx}
theorem pv(i:Nat){x:Str}{pos:Pos}(hN:X.N[i]?=some x:=by rfl)(hv:jY X.env.scope x:=by first | exact aq rfl | exact bu (aq rfl) | exact bu (bu rfl))(hd:(x==("__debug__":Str))=false:=by decide)
  (cC:(x==("__classdict__":Str))=false:=by decide):PE X (.Name x pos) (EE i):=mB hN hv hd cC
end
theorem oR{A B:Prop}(h:B):if false=true then A else B:=by
 rw[if_neg iA]
 exact h
theorem oS{A B:Prop}(h:A):if true=true then A else B:=by
 rw[if_pos rfl]
 exact h
end L2
namespace Mf
def bl(n:Nat):Nat:=if n=0 then 0 else n.log2+1
theorem fv{n m:Nat}:bl n<=m↔n<2 ^ m:=by
 unfold bl
 by_cases h:n=0
 ·simp[h,yB]
 ·rw[if_neg h]
  rw[<-Nat.log2_lt h]
  omega
theorem Fd{n m:Nat}:m<bl n↔2 ^ m<=n:=by
 have:=@fv n m
 omega
theorem j7(n:Nat):n<2 ^ bl n:=fv.mp (cg _)
theorem LF{n:Nat}(h:n≠0):2 ^ (bl n-1)<=n:=by
 have:0<bl n:=by unfold bl;rw[if_neg h];omega
 exact Fd.mp (by omega)
theorem i8{n:Nat}(h:n≠0):0<bl n:=by
 unfold bl;rw[if_neg h];omega
theorem oU:bl 0=0:=rfl
theorem xv{n:Nat}(h:n≠0):n.testBit (bl n-1)=true:=by
 have h1:=LF h
 have h2:=j7 n
 have hp:=i8 h
 have e:bl n=(bl n-1)+1:=by omega
 rw[e,oy]at h2
 rw[WB]
 have:n/2 ^ (bl n-1)=1:=by
  apply Nat.div_eq_of_lt_le
  ·omega
  ·omega
 rw[this];rfl
theorem ZL{x n:Nat}(h:∀i,n<=i->x.testBit i=false):x<2 ^ n:=by
 apply Nat.lt_pow_two_of_testBit
 intro i hi
 exact h i hi
theorem LG{x y n:Nat}(hx:x<2 ^ (n+1))(hy:y<2 ^ (n+1))(tx:x.testBit n=true)(ty:y.testBit n=true):x ^^^ y<2 ^ n:=by
 apply ZL
 intro i hi
 rw[oA]
 by_cases e:i=n
 ·rw[e,tx,ty];rfl
 ·have fA:n+1<=i:=by omega
  have p:2 ^ (n+1)<=2 ^ i:=nD (by decide) fA
  rw[Eb (dE hx p),Eb (dE hy p)]
  rfl
theorem LH(x y z:Nat):(x ^^^ y) ^^^ (z ^^^ y)=x ^^^ z:=by
 apply Bq;intro i;simp only[oA]
 cases x.testBit i<;>cases y.testBit i<;>cases z.testBit i<;>rfl
theorem LI(x y z t:Nat):(x ^^^ y) ^^^ (z ^^^ t)=(x ^^^ z) ^^^ (y ^^^ t):=by
 apply Bq;intro i;simp only[oA]
 cases x.testBit i<;>cases y.testBit i<;>cases z.testBit i<;>cases t.testBit i<;>rfl
def P(a b:Nat):Nat->Nat
 | 0=>0
 | k+1=>P a b k ^^^ (if b.testBit k then a <<< k else 0)
def cl(a b:Nat):Nat:=P a b (bl b)
theorem LJ{a b k:Nat}(h:b<2 ^ k):∀j,P a b (k+j)=P a b k
 | 0=>rfl
 | j+1=>by
  show P a b (k+j) ^^^ (if b.testBit (k+j)then a <<< (k+j)else 0)=_
  rw[LJ h j]
  have p:2 ^ k<=2 ^ (k+j):=nD (by decide) (by omega)
  rw[Eb (dE h p)]
  simp
theorem xw{a b k:Nat}(h:b<2 ^ k):P a b k=cl a b:=by
 have h1:=fv.mpr h
 have e:k=bl b+(k-bl b):=by omega
 rw[e,LJ (j7 b)]
 rfl
theorem LL(a a' b:Nat):∀k,P (a ^^^ a') b k=P a b k ^^^ P a' b k
 | 0=>(mm 0).symm
 | k+1=>by
  show P (a ^^^ a') b k ^^^ _=(P a b k ^^^ _) ^^^ (P a' b k ^^^ _)
  rw[LL a a' b k]
  by_cases t:b.testBit k=true
  ·rw[if_pos t,if_pos t,if_pos t,WC]
   ac_rfl
  ·rw[if_neg t,if_neg t,if_neg t]
   simp
theorem LM(a b b':Nat):∀k,P a (b ^^^ b') k=P a b k ^^^ P a b' k
 | 0=>(mm 0).symm
 | k+1=>by
  show P a (b ^^^ b') k ^^^ _=(P a b k ^^^ _) ^^^ (P a b' k ^^^ _)
  rw[LM a b b' k,oA]
  cases b.testBit k<;>cases b'.testBit k<;>simp
  ·ac_rfl
  ·ac_rfl
  ·exact(LH _ _ _).symm
theorem q9(a a' b:Nat):cl (a ^^^ a') b=cl a b ^^^ cl a' b:=LL a a' b _
theorem xx{x y n:Nat}(hx:x<2 ^ n)(hy:y<2 ^ n):x ^^^ y<2 ^ n:=Nat.xor_lt_two_pow hx hy
theorem ZM(a b b':Nat):cl a (b ^^^ b')=cl a b ^^^ cl a b':=by
 let k:=bl b+bl b'
 have h1:b<2 ^ k:=fv.mp (by omega)
 have h2:b'<2 ^ k:=fv.mp (by omega)
 rw[<-xw (xx h1 h2),<- xw h1,<- xw h2,LM]
theorem ZN(a:Nat):cl a 0=0:=rfl
theorem LN(b:Nat):∀k,P 0 b k=0
 | 0=>rfl
 | k+1=>by
  show P 0 b k ^^^ _=0
  rw[LN b k];simp
theorem rf(b:Nat):cl 0 b=0:=LN b _
theorem ZO(b k:Nat):(b/2).testBit k=b.testBit (k+1):=by
 rw[Ec]
theorem LO(a b:Nat):∀k,P a b (k+1)=(if b%2=1 then a else 0) ^^^ P (2*a) (b/2) k
 | 0=>by
  show 0 ^^^ _=_ ^^^ 0
  rw[qN,mm,Br]
  simp
 | k+1=>by
  show P a b (k+1) ^^^ _=_ ^^^ (P (2*a) (b/2) k ^^^ _)
  rw[LO a b k,ZO,uw]
  have e:a <<< (k+1)=(2*a) <<< k:=by
   rw[mn,mn,oy]
   rw[ow 2 a,wV,ow 2]
  rw[e]
theorem LP{b k:Nat}(h:b<2 ^ (k+1)):b/2<2 ^ k:=by
 rw[oy]at h;omega
theorem LQ(a b:Nat):cl a b=(if b%2=1 then a else 0) ^^^ cl (2*a) (b/2):=by
 have h:b<2 ^ (bl b+1):=Nat.lt_trans (j7 b) (by rw[oy];have:=yB (bl b);omega)
 rw[<-xw h,LO,xw (LP h)]
theorem LR(a b:Nat):∀k,P (2*a) b k=2*P a b k
 | 0=>rfl
 | k+1=>by
  show P (2*a) b k ^^^ _=2*(P a b k ^^^ _)
  rw[LR a b k]
  have d:∀x y:Nat,2*(x ^^^ y)=2*x ^^^ 2*y:=by
   intro x y
   have h:=@WC 1 x y
   rw[mn,mn,mn,Nat.pow_one]at h
   rw[ow 2 (x ^^^ y),ow 2 x,ow 2 y]
   exact h
  rw[d]
  by_cases t:b.testBit k=true
  ·rw[if_pos t,if_pos t,mn,mn,wV]
  ·rw[if_neg t,if_neg t]
theorem Fe(a b:Nat):cl (2*a) b=2*cl a b:=LR a b _
theorem zk(a c t:Nat)(ht:t<2):cl a (2*c+t)=2*cl a c ^^^ (if t=1 then a else 0):=by
 rw[LQ,Fe,JP]
 have e1:(2*c+t)/2=c:=by omega
 have e2:(2*c+t)%2=t:=by omega
 rw[e1,e2]
theorem ZP(a c:Nat):cl a (2*c)=2*cl a c:=by
 have h:=zk a c 0 (by decide)
 simpa using h
theorem LS(c t:Nat)(ht:t<2):2*c ^^^ t=2*c+t:=by
 apply Bq
 intro i
 cases i with
 | zero =>
  rw[oA,Br,Br,Br]
  have:t=0\/t=1:=by omega
  rcases this with h | h<;>subst h<;>simp<;>omega
 | succ i =>
  rw[oA,Ec,Ec,Ec]
  have e1:2*c/2=c:=by omega
  have e2:t/2=0:=by omega
  have e3:(2*c+t)/2=c:=by omega
  rw[e1,e2,e3];simp
theorem Ff:∀b:Nat,cl 1 b=b:=by
 intro b
 induction b using Ed with
 | ind b ih =>
  by_cases h:b=0
  ·subst h;rfl
  ·have e:b=2*(b/2)+b%2:=by omega
   rw[e,zk 1 (b/2) (b%2) (by omega),ih (b/2) (by omega)]
   have:b%2=0\/b%2=1:=by omega
   rcases this with h | h
   ·rw[h];simp
   ·rw[h];rw[if_pos rfl];exact LS _ _ (by decide)
theorem zo:∀b a:Nat,cl a b=cl b a:=by
 intro b
 induction b using Ed with
 | ind b ih =>
  intro a
  by_cases h:b=0
  ·subst h;rw[rf];rfl
  ·have e:b=2*(b/2)+b%2:=by omega
   have lt:b%2<2:=by omega
   have e':cl b a=cl (2*(b/2) ^^^ b%2) a:=by rw[LS _ _ lt,<- e]
   rw[e',q9,Fe,<- ih (b/2) (by omega) a]
   have ZQ:cl a b=cl a (2*(b/2)+b%2):=by rw[<-e]
   rw[ZQ,zk _ _ _ lt]
   have:b%2=0\/b%2=1:=by omega
   rcases this with h | h
   ·rw[h,rf];rfl
   ·rw[h,Ff];rfl
theorem Fg{a m:Nat}(h:a<2 ^ m)(b:Nat):∀k,P a b (k+1)<2 ^ (m+k)
 | 0=>by
  show 0 ^^^ _<_
  rw[qN,Nat.add_zero]
  by_cases t:b.testBit 0=true
  ·rw[if_pos t];simpa using h
  ·rw[if_neg t];exact yB m
 | k+1=>by
  show P a b (k+1) ^^^ _<_
  have i:=Fg h b k
  have p:2 ^ (m+k)<=2 ^ (m+(k+1)):=nD (by decide) (by omega)
  apply xx (dE i p)
  by_cases t:b.testBit (k+1)=true
  ·rw[if_pos t,mn,Nat.pow_add 2 m]
   exact(WD (yB _)).mpr h
  ·rw[if_neg t];exact yB _
theorem ZR{a b m n:Nat}(h:a<2 ^ m)(h':b<2 ^ (n+1)):cl a b<2 ^ (m+n):=by
 rw[<-xw h'];exact Fg h b n
theorem ZS{a b:Nat}(ha:a≠0)(hb:b≠0):2 ^ (bl a-1+(bl b-1))<=cl a b:=by
 have e:bl b=(bl b-1)+1:=by have:=i8 hb;omega
 have ta:=xv ha
 have tb:=xv hb
 apply Nat.ge_two_pow_of_testBit
 unfold cl
 rw[e]
 show(P a b (bl b-1) ^^^ _).testBit _=true
 have e2:bl b-1+1-1=bl b-1:=by omega
 rw[e2,oA,if_pos tb]
 have f:(P a b (bl b-1)).testBit (bl a-1+(bl b-1))=false:=by
  cases q:bl b-1 with
  | zero=>show Nat.testBit 0 _=false;exact Nat.zero_testBit _
  | succ k =>
   apply Eb
   have l:=Fg (j7 a) b k
   have p:=i8 ha
   have e3:bl a-1+(k+1)=bl a+k:=by omega
   rw[e3];exact l
 rw[f,WE]
 have e4:bl a-1+(bl b-1)-(bl b-1)=bl a-1:=by omega
 rw[e4,ta]
 simp
theorem LU{a b:Nat}(ha:a≠0)(hb:b≠0):bl (cl a b)=bl a+bl b-1:=by
 have p1:=i8 ha
 have p2:=i8 hb
 have h1:bl (cl a b)<=bl a+(bl b-1):=fv.mpr (ZR (j7 a) (by
  have e:bl b-1+1=bl b:=by omega
  rw[e];exact j7 b))
 have h2:=Fd.mpr (ZS ha hb)
 omega
theorem LV(s b:Nat):cl (2 ^ s) b=b <<< s:=by
 induction s with
 | zero=>rw[Nat.pow_zero,Ff];rfl
 | succ s ih =>
  rw[oy,ow,Fe,ih,mn,mn,oy]
  rw[<-wV,ow 2,wV,ow 2,<- wV,wV]
theorem ZT{a q b r s:Nat}(h:a=cl q b ^^^ r):a=cl (q ^^^ 2 ^ s) b ^^^ (r ^^^ b <<< s):=by
 rw[q9,LV,h,LH]
theorem LW{b r:Nat}(hb:b≠0)(h:bl b<=bl r):bl (r ^^^ b <<< (bl r-bl b))<bl r:=by
 have p:=i8 hb
 have hr:r≠0:=by
  intro z;rw[z,oU]at h;omega
 have:r ^^^ b <<< (bl r-bl b)<2 ^ (bl r-1):=by
  apply LG
  ·have e:bl r-1+1=bl r:=by omega
   rw[e];exact j7 r
  ·have e:bl r-1+1=bl b+(bl r-bl b):=by omega
   rw[e,mn,Nat.pow_add]
   exact(WD (yB _)).mpr (j7 b)
  ·exact xv hr
  ·rw[WE]
   have e:bl r-1-(bl r-bl b)=bl b-1:=by omega
   rw[e,xv hb]
   simp;omega
 have:=fv.mpr this
 omega
theorem ZU{x y z:Nat}(h:x ^^^ y=z):x=z ^^^ y:=by
 rw[<-h,uw,Bt,mm]
theorem Fh{x y:Nat}(h:x ^^^ y=0):x=y:=by
 have:=ZU h
 rwa [qN]at this
theorem ZV{b q r q' r':Nat}(h:cl q b ^^^ r=cl q' b ^^^ r')(hr:bl r<bl b)(aP:bl r'<bl b):q=q'/\r=r':=by
 have hb:b≠0:=by intro z;rw[z,oU]at hr;omega
 have e:cl (q ^^^ q') b=r ^^^ r':=by
  rw[q9]
  have z:(cl q b ^^^ r) ^^^ (cl q' b ^^^ r')=0:=by rw[h,Bt]
  rw[LI]at z
  exact Fh z
 have lt:bl (r ^^^ r')<bl b:=by
  have h1:r<2 ^ (bl b-1):=fv.mp (by omega)
  have h2:r'<2 ^ (bl b-1):=fv.mp (by omega)
  have:=fv.mpr (xx h1 h2)
  have:=i8 hb
  omega
 have z:q ^^^ q'=0:=by
  apply qO
  intro hq
  have h1:=LU hq hb
  have h2:=i8 hq
  rw[e]at h1
  omega
 have zq:=Fh z
 subst zq
 rw[z,rf]at e
 exact⟨rfl,Fh e.symm⟩
end Mf
namespace Mf
open PySem PySem.Builtin.Int
theorem ZW(x y:Nat):(x ^^^ y)+2*(x &&& y)=x+y:=by
 induction x using Ed generalizing y with
 | ind x ih =>
  by_cases h:x=0
  ·subst h;simp
  ·have h1:=ih (x/2) (by omega) (y/2)
   have e1:(x ^^^ y)/2=x/2 ^^^ y/2:=Nat.xor_div_two
   have e2:(x &&& y)/2=x/2 &&& y/2:=Nat.and_div_two
   have t:∀n:Nat,n%2=if n.testBit 0=true then 1 else 0:=by
    intro n
    rw[Br]
    by_cases h:n%2=1
    ·simp[h]
    ·simp[h];omega
   have m1:(x ^^^ y)%2=(x%2+y%2)%2:=by
    rw[t (x ^^^ y),t x,t y,oA]
    cases x.testBit 0<;>cases y.testBit 0<;>rfl
   have m2:(x &&& y)%2=x%2*(y%2):=by
    rw[t (x &&& y),t x,t y,JQ]
    cases x.testBit 0<;>cases y.testBit 0<;>rfl
   have d1:=Nat.div_add_mod (x ^^^ y) 2
   have d2:=Nat.div_add_mod (x &&& y) 2
   rw[e1]at d1
   rw[e2]at d2
   have hx:x%2=0\/x%2=1:=by omega
   have hy:y%2=0\/y%2=1:=by omega
   rcases hx with hx | hx<;>rcases hy with hy | hy<;>rw[hx,hy]at m1 m2<;>omega
theorem LX{x y:Int}(hx:0<=x)(hy:0<=y):qH x y=((x.toNat &&& y.toNat:Nat):Int):=by
 unfold qH
 rw[decide_eq_true hx,decide_eq_true hy]
theorem ZX{x y:Int}(hx:0<=x)(hy:0<=y):Builtin.bitOr x y=((x.toNat ||| y.toNat:Nat):Int):=by
 unfold Builtin.bitOr qH Builtin.bitNot
 rw[decide_eq_false (by omega),decide_eq_false (by omega)]
 show-(-((((- (-x-1)-1).toNat ||| (-(-y-1)-1).toNat:Nat):Int))-1)-1=_
 have e1:(- (-x-1)-1).toNat=x.toNat:=by omega
 have e2:(- (-y-1)-1).toNat=y.toNat:=by omega
 rw[e1,e2]
 omega
theorem ZY(x y:Nat):(x ||| y)=(x ^^^ y)+(x &&& y):=by
 have d:(x ^^^ y) &&& (x &&& y)=0:=by
  apply Bq;intro i
  simp only[oA,JQ,Nat.zero_testBit]
  cases x.testBit i<;>cases y.testBit i<;>rfl
 have e:(x ||| y)=(x ^^^ y) ^^^ (x &&& y):=by
  apply Bq;intro i
  simp only[oA,JQ,Nat.testBit_or]
  cases x.testBit i<;>cases y.testBit i<;>rfl
 have h:=ZW (x ^^^ y) (x &&& y)
 rw[d]at h
 rw[e];omega
theorem ZZ{x y:Int}(hx:0<=x)(hy:0<=y):qI x y=((x.toNat ^^^ y.toNat:Nat):Int):=by
 unfold qI
 rw[ZX hx hy,LX hx hy,ZY]
 omega
theorem oV(x y:Nat):qI (x:Int) (y:Int)=((x ^^^ y:Nat):Int):=by
 rw[ZZ (by omega) (by omega)];rfl
theorem LY(x y:Nat):qH (x:Int) (y:Int)=((x &&& y:Nat):Int):=by
 rw[LX (by omega) (by omega)];rfl
theorem xy(x k:Nat):(x:Int)*2 ^ ((k:Int)).toNat=((x <<< k:Nat):Int):=by
 rw[mn]
 simp
theorem Z0(x k:Nat):(x:Int)/2 ^ ((k:Int)).toNat=((x >>> k:Nat):Int):=by
 rw[WG]
 simp
theorem Z1(x k:Nat):((x >>> k) &&& 1=1)↔x.testBit k=true:=by
 rw[WB,WG]
 have:(x/2 ^ k) &&& 1=(x/2 ^ k)%2:=Nat.and_two_pow_sub_one_eq_mod _ 1
 rw[this]
 simp
end Mf
namespace Mf
end Mf
namespace Mf
theorem LZ(a b:Nat):∀c,cl (cl a b) c=cl a (cl b c):=by
 intro c
 induction c using Ed with
 | ind c ih =>
  by_cases h:c=0
  ·subst h;rfl
  ·have e:c=2*(c/2)+c%2:=by omega
   have lt:c%2<2:=by omega
   have i:=ih (c/2) (by omega)
   rw[e,zk _ _ _ lt,zk _ _ _ lt,i,ZM,ZP]
   have:c%2=0\/c%2=1:=by omega
   rcases this with h | h
   ·rw[h];rfl
   ·rw[h];rfl
def xA:Nat->Nat->Nat->Nat
 | 0,a,_=>a
 | n+1,a,b=>if bl a<bl b then a else xA n (a ^^^ b <<< (bl a-bl b)) b
def md(a b:Nat):Nat:=xA (bl a+1) a b
theorem L0{b:Nat}(hb:b≠0):∀n a,bl a<n->(∃q,a=cl q b ^^^ xA n a b)/\bl (xA n a b)<bl b
 | 0,_,h=>absurd h (by omega)
 | n+1,a,h=>by
  unfold xA
  by_cases l:bl a<bl b
  ·rw[if_pos l]
   exact⟨⟨0,by rw[rf,qN]⟩,l⟩
  ·rw[if_neg l]
   have less:=LW hb (show bl b<=bl a by omega)
   obtain⟨⟨q,e⟩,l2⟩:=L0 hb n (a ^^^ b <<< (bl a-bl b)) (by omega)
   refine⟨⟨q ^^^ 2 ^ (bl a-bl b),?_⟩,l2⟩
   rw[q9,LV]
   have e2:a=(a ^^^ b <<< (bl a-bl b)) ^^^ b <<< (bl a-bl b):=by rw[uw,Bt,mm]
   rw[e]at e2
   refine e2.trans ?_
   generalize xA n _ b=r
   rw[uw,JP r,<- uw]
theorem zr{b:Nat}(hb:b≠0)(a:Nat):(∃q,a=cl q b ^^^ md a b)/\bl (md a b)<bl b:=L0 hb _ a (by omega)
theorem zt{a b q r:Nat}(h:a=cl q b ^^^ r)(hr:bl r<bl b):md a b=r:=by
 have hb:b≠0:=by intro z;rw[z,oU]at hr;omega
 obtain⟨⟨q',e⟩,l⟩:=zr hb a
 exact(ZV (e.symm.trans h) l hr).2
theorem Z2(q:Nat){b:Nat}(hb:b≠0):md (cl q b) b=0 :=
 zt (q:=q) (by rw[mm]) (by rw[oU];exact i8 hb)
end Mf
namespace Mf
theorem Z3(y:Nat):bl (y/2)=bl y-1:=by
 by_cases h:y=0
 ·subst h;rfl
 ·have p:=i8 h
  have h1:bl (y/2)<=bl y-1:=fv.mpr (LP (by
   have e:bl y-1+1=bl y:=by omega
   rw[e];exact j7 y))
  have h2:bl y<=bl (y/2)+1:=fv.mpr (by
   have:=j7 (y/2)
   rw[oy];omega)
  omega
theorem Z4(x:Nat):bl (2*x)<=bl x+1:=fv.mpr (by
 have:=j7 x
 rw[oy];omega)
theorem Fj{x y:Nat}(h:x<=y):bl x<=bl y:=fv.mpr (yC h (j7 y))
end Mf
namespace Mf
def al(a:Nat):Bool:=decide (2<=a)&&(aH (2 ^ ((bl a-1)/2+1)-2)).all λi=>md a (2+i) != 0
theorem Z5{a:Nat}(h:a<2):al a=false:=by
 unfold al;rw[decide_eq_false (by omega)];rfl
theorem Z6{a:Nat}(h:2<=a)(k:∀i,i<2 ^ ((bl a-1)/2+1)-2->md a (2+i)≠0):al a=true:=by
 unfold al
 rw[decide_eq_true h,kZ,cJ]
 intro i hi
 have:=k i (bT.mp hi)
 simpa using this
theorem Z7{a i:Nat}(k:i<2 ^ ((bl a-1)/2+1)-2)(z:md a (2+i)=0):al a=false:=by
 unfold al
 rw[Bool.and_eq_false_iff]
 right
 rw[List.all_eq_false]
 exact⟨i,bT.mpr k,by simp[z]⟩
theorem Z8{a:Nat}(h:2<=a){b:Nat}(hb:b<2 ^ ((bl a-1)/2+1)):b<a/\2*bl b<=bl a+1:=by
 have h2:2<=bl a:=by
  have:=Fd.mpr (show 2 ^ 1<=a by omega)
  omega
 have l:=fv.mpr hb
 refine⟨dE hb (fY (nD (by decide) ?_) (LF (by omega))),by omega⟩
 omega
end Mf
namespace L2
open PySem PySem.Spec PyProof.Rows Mf
theorem fB:bootBuiltins "len"=some (.builtin "len"):=by decide +kernel
theorem Z9:bootBuiltins "isinstance"=some (.builtin "isinstance"):=by decide +kernel
theorem γ:bootBuiltins "min"=some (.builtin "min"):=by decide +kernel
theorem rh:bootBuiltins "all"=some (.builtin "all"):=by decide +kernel
theorem L1:bootBuiltins "any"=some (.builtin "any"):=by decide +kernel
theorem ε:bootBuiltins "sum"=some (.builtin "sum"):=by decide +kernel
theorem L4:bootBuiltins "int"=some (.type "int"):=by decide +kernel
theorem Fl:bootBuiltins "bool"=some (.type "bool"):=by decide +kernel
theorem rj:bootBuiltins "list"=some (.type "list"):=by decide +kernel
theorem ζ:bootBuiltins "range"=some (.type "range"):=by decide +kernel
section
variable{X:Cx}{a b o:Expr}{ta tb to:TE}{pos apos bR:Pos}
theorem L5(i:Int):Builtin.Int.intBits i=bl i.natAbs:=by
 unfold Builtin.Int.intBits bl
 by_cases h:i=0
 ·subst h;rfl
 ·have h':¬ i.natAbs=0:=by omega
  rw[if_neg h',if_neg (by simpa using h)]
def L6:V->List V->Hp->VK->Prop:=λx vs H Q=>∃i,x=.int i/\vs=[]/\Q (.int (bl i.natAbs:Nat)) H
theorem η:ze X "int.bit_length" L6:=by
 intro pins s σ H x xs v us Q I rx rs h
 obtain⟨i,rfl,rfl,q⟩:=h
 obtain⟨t,rfl⟩:=rx
 cases rs
 refine call_int_bit_length ?_
 rw[L5]
 exact⟨.int _,H,I.tok _,⟨_,rfl⟩,q⟩
theorem θ(ho:PE X o to)(kE:attributeBase o "bit_length" X.env (eval o X.env)=eval o X.env:=by rfl)(kF:(apos.endLine==bR.line)=true:=by rfl) :
  PE X (.Call (.Attribute o "bit_length" apos) [] [] bR) (Lq X.K "int" L6 to) :=
 Zt PySem.F.plainAttrs_int PySem.F.slot_int_bit_length PySem.F.type_int_bit_length η ho kE kF
def L7(i j:Int):Prop:=0<=j/\((bl i.natAbs:Nat):Int)+j<=134217728
theorem ι:cV X (binaryOp .LShift) (rI L7 λi j=>.int (i*2 ^ j.toNat)):=za λi j _ _ _ _ _ hc q =>
 lshift_int hc.1 (by rw[L5];exact Int.le_trans hc.2 (by decide)) q
theorem μ{x:Str}{n:String}(hg:Gl X x)(hm:X.mg x=none)(hv:bootBuiltins x=some (.type n))(hn:x≠"__name__":=by decide)(hd:(x==("__debug__":Str))=false:=by decide):PE X (.Name x pos) (tC (.ty n)) :=
 Xi hg hm hv rfl hn hd
def ν(K:PySem.W.Frag):List V->Hp->VK->Prop:=λxs H Q=>∃x n t b,xs=[x,.ty n]/\jx K H x t/\PySem.W.kitOne K t (.type n)=some b/\Q (.bl b) H
theorem ξ:ia X (.builtin "isinstance") (ν X.K):=by
 intro pins s σ H xs us Q I r h
 obtain⟨x,n,t,b,rfl,ty,e,q⟩:=h
 obtain⟨u,v,rfl,ru,rv⟩:=r.two
 cases(show v=Value.type n from rv)
 exact YT I ru ty e λtk=>⟨.bl b,H,I.tok _,rfl,q⟩
end
theorem ο(b i:Nat):decide (V.int (qH ((b:Int)/2 ^ ((0:Int)+(i:Int)).toNat) 1)=V.int 1)=b.testBit i:=by
 have e:((0:Int)+(i:Int)).toNat=((i:Int)).toNat:=by omega
 rw[e,Z0,show(1:Int)=((1:Nat):Int) from rfl,LY,qP,decide_eq_true_iff,<- Z1]
 constructor
 ·intro h;injection h with h;omega
 ·intro h;rw[h]
theorem π{a b i:Nat}(h:b.testBit i=true):qI ((P a b i:Nat):Int) ((a:Int)*2 ^ ((0:Int)+(i:Int)).toNat)=((P a b (i+1):Nat):Int):=by
 have e:((0:Int)+(i:Int)).toNat=((i:Int)).toNat:=by omega
 rw[e,xy,oV]
 show _=((P a b i ^^^ (if b.testBit i then a <<< i else 0):Nat):Int)
 rw[if_pos h]
theorem ρ{a b i:Nat}(h:¬ b.testBit i=true):P a b (i+1)=P a b i:=by
 show P a b i ^^^ (if b.testBit i then a <<< i else 0)=_
 rw[if_neg h,mm]
theorem dI{i j:Int}:decide (V.int i=V.int j)=true↔i=j:=by
 rw[decide_eq_true_iff]
 exact⟨λh=>by injection h,λh=>by rw[h]⟩
end L2
namespace L2
open PySem PySem.Spec PyProof.Rows
section
variable{X:Cx}
end
end L2
namespace L2
open PySem PySem.Spec PyProof.Rows
def B3(X:Cx)(scope:Scope)(N:List Str)(cl:List (Str × Addr))(C:Addr)(s:Shared)(H:Hp)(fp:List Addr):Cx where
 prog:=X.prog
 w:=X.w
 K:=X.K
 mg:=X.mg
 base:=X.base
 A:=X.A
 N:=N
 e7:=s
 oG:=H
 env:=compEnvC scope cl C X.env
 outer:=X.stack
 stack:=X.stack
 ex:=fp
 fn:=λ_=>false
 calm:=X.calm
 pn:=[]
 xe:=λ_ _=>False
def ly(X:Cx)(scope:Scope)(cl:List (Str × Addr)):List (Str × Nat)->Prop
 | []=>True
 | (y,i)::r=>(X.N[i]?=some y/\(X.env.scope.names.lookup y=some .cell\/X.env.scope.names.lookup y=some .free)/\((relabel scope X.env).names.lookup y=some .cell\/(relabel scope X.env).names.lookup y=some .free)/\∃c,cl.lookup y=some c/\X.env.cells.lookup y=some c)/\ly X scope cl r
theorem ly.at{X:Cx}{scope:Scope}{cl:List (Str × Addr)}:∀{ay:List (Str × Nat)},ly X scope cl ay->∀p∈ay,X.N[p.2]?=some p.1/\(X.env.scope.names.lookup p.1=some .cell\/X.env.scope.names.lookup p.1=some .free)/\((relabel scope X.env).names.lookup p.1=some .cell\/(relabel scope X.env).names.lookup p.1=some .free)/\∃c,cl.lookup p.1=some c/\X.env.cells.lookup p.1=some c
 | [],_,p,hp=>absurd hp (by simp)
 | (y,i)::r,h,p,hp=>by
  rcases cw.mp hp with e | e
  ·subst e;exact h.1
  ·exact ly.at h.2 p e
def mH(Y:Cx)(ifs:List Expr)(t:TT):Prop :=
 ∀(pins:List (Addr × Obj)) (s:Shared) (σ:St) (H:Hp) (Q:Bool->Hp->Prop),Inv Y pins σ H s->t σ H Q ->
  wpAny (model Y.prog Y.w) Y.A (forIn ifs true λc r=>if r=true then do let ok<-isTrue c Y.env (eval c Y.env);pure (Ee ok)else pure (Ee r)) (TP Y pins σ Q) Y.xe s
def τ:TT:=λ_ H Q=>Q true H
theorem υ{Y:Cx}:mH Y [] τ:=λ_ _ _ H _ I h=>wpAny_tests_nil ⟨H,I,h⟩
theorem χ{Y:Cx}{c:Expr}{t:TT}(h:PT Y c t):mH Y [c] t:=λpins s σ H Q I q=>wpAny_tests_one (h pins s σ H Q I q)
section
variable{X:Cx}{elt iter:Expr}{x:Str}{px pos:Pos}{ifs:List Expr}{scope:Scope}{cl:List (Str × Addr)}{ay:List (Str × Nat)}{wi:TI}{tt:TT}{te:TE}
end
section
variable{prog:Program}{w:World}{A:Around}{R:Result->Shared->Prop}{s:Shared}
theorem ω{elt target iter:Expr}{ifs:List Expr}{scope:Scope}{pos:Pos}{it acc:Value}{env:Env}(Iv:Nat->Shared->Prop)
  (turn:∀n s,Iv n s->wpAny (model prog w) A (pyNext it) (λr s1=>match r with
   | none=>R (.ok .next) s1
   | some v=>wpAny (model prog w) A (letOwnedTupleGo target it v) (λ_ t1=>wpAny (model prog w) A (assign target env v) (λ_ s2 =>
     wpAny (model prog w) A (forIn ifs true λc r=>if r=true then do let ok<-isTrue c env (eval c env);pure (Ee ok)else pure (Ee r)) (λok s3 =>
      if ok=true then wpAny (model prog w) A (eval elt env) (λy s4=>wpAny (model prog w) A (call (.builtin "list.append") [acc,y]) (λ_ s5=>∃m,m<n/\Iv m s5) (λ_ _=>False) s4) (λ_ _=>False) s3
      else ∃m,m<n/\Iv m s3) (λ_ _=>False) s2) (λ_ _=>False) t1) (λ_ _=>False) s1) (λ_ _=>False) s)
  (n:Nat) (h:Iv n s):codeAny (model prog w) A (.compLoop (.ListComp elt [⟨target,iter,ifs,0⟩] scope pos) 0 it acc env) R s:=by
 refine codeAny_loop rfl Iv (λn s hI=>?_) n h
 change wpAny _ A (Sem.onRaise (compTurn (.ListComp elt [⟨target,iter,ifs,0⟩] scope pos) 0 it acc env) λx=>do noteFrame x env;theTreesLotGoes x) _ _ s
 refine wpAny_noted (wpAny_mono (E:=λ_ _=>False) ?_ (λ_ _ q=>q) λ_ _ z=>z.elim)
 rw[compTurn_list]
 refine wpAny_bind (wpAny_standAt (wpAny_bind (a7 (turn n s hI) λr s1 h1=>?_)))
 cases r with
 | none=>exact wpAny_pure h1
 | some v =>
  refine wpAny_bind (a7 h1 λ_ t1 k1=>wpAny_bind (a7 k1 λ_ s2 h2=>wpAny_bind (a7 h2 λok s3 h3=>?_)))
  cases ok with
  | false=>exact wpAny_pure ⟨rfl,h3⟩
  | true=>exact wpAny_bind (wpAny_bind (a7 h3 λy s4 h4=>wpAny_bind (a7 h4 λ_ s5 h5=>wpAny_pure (wpAny_pure ⟨rfl,h5⟩))))
end
section
variable{X:Cx}{elt iter:Expr}{x:Str}{px pos:Pos}{ifs:List Expr}{scope:Scope}{cl:List (Str × Addr)}{ay:List (Str × Nat)}{wi:TI}{tt:TT}{te:TE}
end
end L2
namespace L2
open PySem PySem.Spec PyProof.Rows
section
variable{X:Cx}
theorem L8{bs:List Bool}{us:List Value}(r:Vals (bs.map V.bl) us):bs.length=us.length/\∀(i:Nat) (v:Value),us[i]?=some v->∃b,bs[i]?=some b/\v=.bool b:=by
 have l:=r.length
 rw[aW]at l
 refine⟨l,λi v e=>?_⟩
 have hi:i<us.length:=(kr.mp e).1
 have hb:i<bs.length:=by omega
 obtain⟨u,e2,q⟩:=r.get (i:=i) (x:=V.bl bs[i]) (by rw[bM,aM hb];rfl)
 rw[e]at e2
 cases e2
 exact⟨bs[i],aM hb,q⟩
theorem B4{s:Shared}{h':Heap}{o:Obj}(hk:∀b x,b ∉ [s.heap.objs.size]->(s.heap.push o).get? b=some x->h'.get? b=some x)(b:Addr)(x:Obj)(e:s.heap.get? b=some x):h'.get? b=some x :=
 hk b x (λhm=>h7 _ (by have:=cu e;rw[fu.mp hm]at this;exact this)) (gQ _ e)
theorem Γ(bs:List Bool):((aH bs.length).all λi=>(bs[i]?).getD true)=bs.all id:=by
 rw[qP,cJ,cJ]
 constructor
 ·intro h b hb
  obtain⟨i,hi,rfl⟩:=fh hb
  have:=h i (bT.mpr hi)
  rwa [aM hi]at this
 ·intro h i hi
  have fA:=bT.mp hi
  rw[aM fA]
  exact h _ (cN fA)
theorem L9(bs:List Bool):((aH bs.length).any λi=>(bs[i]?).getD false)=bs.any id:=by
 rw[qP,Ef,Ef]
 constructor
 ·rintro⟨i,hi,h⟩
  have fA:=bT.mp hi
  rw[aM fA]at h
  exact⟨_,cN fA,h⟩
 ·rintro⟨b,hb,h⟩
  obtain⟨i,hi,rfl⟩:=fh hb
  exact⟨i,bT.mpr hi,by rw[aM hi];exact h⟩
theorem Δ(hc:X.calm=true):ia X (.builtin "all") (λxs H Q=>∃(p:Addr) (bs:List Bool),xs=[.ref p]/\bL X.K H p (bs.map V.bl)/\Q (.bl (bs.all id)) H):=by
 intro pins s σ H xs us Q I r h
 obtain⟨p,bs,rfl,hS,q⟩:=h
 obtain⟨u,rfl,ru⟩:=r.one
 cases ru
 obtain⟨its,rv,pl,hz⟩:=I.list hS
 obtain⟨hlen,zu⟩:=L8 rv
 have hl:=pl.isList
 have dW:p<s.heap.objs.size:=by obtain⟨_,e,_⟩:=hl;exact cu e
 refine call_all_walk (wpAny_pyIter_list hl ?_)
 refine⟨s.heap.objs.size,[s.heap.objs.size,p],[s.heap.objs.size],its.toArray.size,_,_,λi=>(bs[i]?).getD true,rfl,Eg (A:=X.A.in1) (I.ok.hd hc) _ p (fN dW) its.toArray,
  ⟨⟨_,iB _ rfl,rfl,rfl⟩,hl.push _⟩,λi v s' Q' E' hP hQ=>?_,λh' tk hk=>?_⟩
 ·obtain⟨b,e,rfl⟩:=zu i v (by simpa using hP)
  simp only[e,oB]at hQ
  exact wpAny_truthy_bool hQ
 ·have e:((aH its.toArray.size).all λi=>(bs[i]?).getD true)=bs.all id:=by
   rw[dF,<- hlen];exact Γ bs
  rw[e]
  exact⟨.bl _,H,I.kept (h':=h') (t':=tk) (B4 hk),rfl,q⟩
theorem Θ(hc:X.calm=true):ia X (.builtin "any") (λxs H Q=>∃(p:Addr) (bs:List Bool),xs=[.ref p]/\bL X.K H p (bs.map V.bl)/\Q (.bl (bs.any id)) H):=by
 intro pins s σ H xs us Q I r h
 obtain⟨p,bs,rfl,hS,q⟩:=h
 obtain⟨u,rfl,ru⟩:=r.one
 cases ru
 obtain⟨its,rv,pl,hz⟩:=I.list hS
 obtain⟨hlen,zu⟩:=L8 rv
 have hl:=pl.isList
 have dW:p<s.heap.objs.size:=by obtain⟨_,e,_⟩:=hl;exact cu e
 refine call_any_walk (wpAny_pyIter_list hl ?_)
 refine⟨s.heap.objs.size,[s.heap.objs.size,p],[s.heap.objs.size],its.toArray.size,_,_,λi=>(bs[i]?).getD false,rfl,Eg (A:=X.A.in1) (I.ok.hd hc) _ p (fN dW) its.toArray,
  ⟨⟨_,iB _ rfl,rfl,rfl⟩,hl.push _⟩,λi v s' Q' E' hP hQ=>?_,λh' tk hk=>?_⟩
 ·obtain⟨b,e,rfl⟩:=zu i v (by simpa using hP)
  simp only[e,oB]at hQ
  exact wpAny_truthy_bool hQ
 ·have e:((aH its.toArray.size).any λi=>(bs[i]?).getD false)=bs.any id:=by
   rw[dF,<- hlen];exact L9 bs
  rw[e]
  exact⟨.bl _,H,I.kept (h':=h') (t':=tk) (B4 hk),rfl,q⟩
end
def lC(X:Cx):List (Str × Addr)->Prop
 | []=>True
 | (y,c)::r=>X.env.cells.lookup y=some c/\lC X r
theorem lC.all{X:Cx}:∀{cl:List (Str × Addr)},lC X cl->∀y c,cl.lookup y=some c->X.env.cells.lookup y=some c
 | [],_,y,c,h=>by simp at h
 | (z,d)::r,h,y,c,e=>by
  rw[iE]at e
  cases q:y==z with
  | true =>
   rw[q]at e
   cases e
   rw[eq_of_beq q]
   exact h.1
  | false =>
   rw[q]at e
   exact lC.all h.2 y c e
def lD(cl:List (Str × Addr)):List (Str × NameKind)->Prop
 | []=>True
 | (y,k)::r=>(k=.local\/k=.globalImplicit\/∃c,cl.lookup y=some c)/\lD cl r
theorem lD.all{cl:List (Str × Addr)}:∀{ns:List (Str × NameKind)},lD cl ns->∀y,(ns.lookup y=some .cell\/ns.lookup y=some .free)->∃c,cl.lookup y=some c
 | [],_,y,h=>by simp at h
 | (z,k)::r,h,y,e=>by
  rw[iE]at e
  cases q:y==z with
  | true =>
   rw[q]at e
   rw[eq_of_beq q]
   rcases h.1 with g | g | g
   ·rw[g]at e;rcases e with e | e<;>cases e
   ·rw[g]at e;rcases e with e | e<;>cases e
   ·exact g
  | false =>
   rw[q]at e
   exact lD.all h.2 y e
section
variable{X:Cx}{elt iter:Expr}{x:Str}{px pos:Pos}{ifs:List Expr}{scope:Scope}{cl:List (Str × Addr)}{wi:TI}{tt:TT}{te:TE}
end
end L2
namespace L2
open PySem PySem.Spec PyProof.Rows Mf
end L2
namespace L2
end L2
namespace L2
open PySem PySem.Spec PyProof.Rows
def gH(ay:List (Str × Nat))(n:Nat)(σ:L2.St):St:=(ay.map λp=>(σ[p.2]?).getD none)++aX n none
def Ma(J:It)(ay:List (Str × Nat))(n:Nat)(g:TG)(tt:TT)(te:TE)(σ:L2.St)(H1:Hp)(Q:VK):Prop:=∀D,H1 D=none->∃W:Nat->Nat->List V->Hp->Prop,(∃m,W 0 m [] (upd H1 D (.lst []))) /\
 ∀i m acc H2,W i m acc H2->H2 D=some (.lst acc)/\((J.stop i H2/\Q (.ref D) H2)\/(J.go i H2/\∀x H3,J.lj i H2 x H3->H3 D=some (.lst acc)/\g x (gH ay n σ) H3 λiH H4 =>
  (iH.length=(gH ay n σ).length/\∀j,j<ay.length->iH[j]?=(gH ay n σ)[j]?)/\tt iH H4 λb H5=>H5 D=some (.lst acc) /\
  if b=true then te iH H5 λy H6=>H6 D=some (.lst acc)/\acc.length<sizeLine/\∃m',m'<m/\W (i+1) m' (acc++[y]) (upd H6 D (.lst (acc++[y])))else ∃m',m'<m/\W (i+1) m' acc H5))
def B5(wi:TI)(ay:List (Str × Nat))(n:Nat)(g:TG)(tt:TT)(te:TE):TE:=λσ H Q=>wi σ H λJ H1=>Ma J ay n g tt te σ H1 Q
section
variable{X:Cx}{elt iter tg:Expr}{pos:Pos}{ifs:List Expr}{scope:Scope}{cl:List (Str × Addr)}{wi:TI}{tt:TT}{te:TE}{g:TG}
end
end L2
namespace L2
open PySem PySem.Spec PyProof.Rows
section
variable{X:Cx}{tg:Expr}
end
end L2
namespace L2
open PySem PySem.Spec PyProof.Rows
def Λ(h:Heap)(a T:Addr)(cls fl:Value)(dc:Option Addr):Prop :=
 ∃oe vs oT ts,h.get? a=some oe/\oe.cls=cls/\oe.dict=dc/\oe.data=.fields vs/\vs[1]?=some (.ref T)/\T≠a/\h.get? T=some oT/\oT.data=.fields ts/\ts[3]?=some fl
abbrev Ξ(h:Heap)(a T:Addr)(cls:Value)(dc:Option Addr):Prop:=Λ h a T cls .none dc
def Φ(h:Heap)(a:Addr)(cls:Value)(dc:Option Addr):Prop :=
 ∃oe vs,h.get? a=some oe/\oe.cls=cls/\oe.dict=dc/\oe.data=.fields vs/\vs[1]?=some .none
section
variable{M:Model}{A:Around}{E:Value->Shared->Prop}{s:Shared}{base:Heap}{env:Env}{outer:List Env}{L a T:Addr}{cls:Value}{dc:Option Addr}{oe:Obj}{vs:Array Value}{Q:Unit->Shared->Prop}
end
end L2
namespace L2
open PySem PySem.Spec PyProof.Rows
structure Apart(X:Cx)(pins:List (Addr × Obj))(H:Hp)(b:Addr):Prop where
 old:X.e7.heap.get? b=none
 free:H b=none
 loc:b≠X.env.locals
 cell:∀x c,X.env.cells.lookup x=some c->c≠b
 pin:∀p∈X.pn++pins,p.1≠b
 fr:b ∉ jX X.stack
section
variable{X:Cx}{pins:List (Addr × Obj)}{σ:St}{H H':Hp}{s:Shared}{a T b:Addr}{cls:Value}{dc:Option Addr}{M:Model}{Q:Unit->Shared->Prop}{E:Value->Shared->Prop}{h':Heap}
end
section
variable{X:Cx}{pins:List (Addr × Obj)}{σ:St}{H H':Hp}{s:Shared}{a T b:Addr}{cls:Value}{dc:Option Addr}{M:Model}{Q:Unit->Shared->Prop}{E:Value->Shared->Prop}{h':Heap}
end
end L2
namespace L2
open PySem PySem.W PySem.Spec PySem.Calls PyProof.Rows
section
variable{prog:Program}{w:World}{A:Around}{E:Value->Shared->Prop}{s:Shared}{K:Frag}{x D:Addr}{ox:Obj}{Mb:Option Obj}
end
end L2
namespace L2
open PySem PySem.W PySem.Spec PySem.Calls PyProof.Rows
section
variable{prog:Program}{w:World}{A:Around}{E:Value->Shared->Prop}{s:Shared}{K:Frag}{x D:Addr}{ox:Obj}{Mb:Option Obj}
end
end L2
namespace L2
open PySem PySem.Spec PyProof.Rows
section
variable{X:Cx}{pins:List (Addr × Obj)}{σ:St}{H:Hp}{s:Shared}{h':Heap}{its:List Addr}{T:Addr}{o:HO}{t':Nat}
theorem Inv.B6(I:Inv X pins σ H s)(k:∀b o,b ∉ its->s.heap.get? b=some o->h'.get? b=some o)(hf:∀b∈its,j3 X pins H b):Inv X pins σ H { s with heap:=h',toks:=t' }:=by
 have qY:∀b u,H b=some u->b ∉ its:=λb u e z=>by have:=(hf b z).1;rw[this]at e;cases e
 refine I.step (g':=s.gens) (d':=s.drawn) (ch:=its) (λb hb=>?_) (λb o _ _ hc e _=>k b o hc e) (λb o _ _ hc e _=>⟨o.slots,k b o hc e⟩) (λ_ _ _ _ n=>n)
  (λb o hc e=>⟨o,k b o hc e⟩) (λ_ _ e=>e) (λ_ _ _ e=>e) (λb ps e=>⟨#[],by rw[e];simp⟩) (λm hm=>?_) (λb u e=>?_) I.bare
 ·obtain⟨_,h1,_,h2,h3,h4⟩:=hf b hb
  exact⟨h2,h1,h3,h4⟩
 ·obtain⟨o,es,ep,ho,r⟩:=hm
  exact⟨o,es,ep,k _ o (λz=>(hf _ z).2.1 rfl) ho,r⟩
 ·refine(I.aZ b u e).nI (λc v hc q=>k c v ?_ q) (λ_ q=>q) (λ_ _ q=>q) λ_ _ q=>q
  rcases hc with z | z
  ·rw[z];exact qY b u e
  ·exact qY c _ z
theorem Inv.Mc(I:Inv X pins σ H s)(k:∀b o,b ∉ its->s.heap.get? b=some o->h'.get? b=some o)(hf:∀b∈its,j3 X pins H b)(hT:s.heap.objs.size<=T)(new:fi X.prog X.w (upd H T o) h' T o) :
  Inv X pins σ (upd H T o) { s with heap:=h',toks:=t' }:=by
 have qY:∀b u,H b=some u->b ∉ its:=λb u e z=>by have:=(hf b z).1;rw[this]at e;cases e
 have fT:H T=none:=I.aZ.fresh hT
 have neT:∀b u,H b=some u->b≠T:=λb u e z=>by rw[z,fT]at e;cases e
 have Ψ:∀b u,s.heap.get? b=some u->b≠T:=λb u e z=>absurd (dE (cu e) hT) (by rw[z];exact h7 _)
 refine I.step (g':=s.gens) (d':=s.drawn) (ch:=its) (λb hb=>?_) (λb o _ _ hc e _=>k b o hc e) (λb o _ _ hc e _=>⟨o.slots,k b o hc e⟩) (λb u _ e n=>by rw[bt (Ψ b u e)];exact n)
  (λb o hc e=>⟨o,k b o hc e⟩) (λb _ e=>by rw[bt (neT b _ e)];exact e) (λb _ _ e=>by rw[bt (neT b _ e)];exact e) (λb ps e=>⟨#[],by rw[bt (neT b _ e),e];simp⟩) (λm hm=>?_) (λb u e=>?_) I.bare
 ·obtain⟨_,h1,_,h2,h3,h4⟩:=hf b hb
  exact⟨h2,h1,h3,h4⟩
 ·obtain⟨o,es,ep,ho,r⟩:=hm
  exact⟨o,es,ep,k _ o (λz=>(hf _ z).2.1 rfl) ho,r⟩
 ·by_cases hb:b=T
  ·subst hb;rw[de]at e;cases e;exact new
  ·rw[bt hb]at e
   refine(I.aZ b u e).nI (λc v hc q=>k c v ?_ q) (λc q=>by rw[bt (neT c _ q)];exact q) (λc _ q=>by rw[bt (neT c _ q)];exact q) λc _ q=>by rw[bt (neT c _ q)];exact q
   rcases hc with z | z
   ·rw[z];exact qY b u e
   ·exact qY c _ z
def Fn(K:PySem.W.Frag)(a b:Addr):It :=
 ⟨λi H=>∃xs ys x y,bL K H a xs/\bL K H b ys/\xs[i]?=some x/\ys[i]?=some y,
  λi H v H'=>∃T x y,v=.ref T/\H T=none/\H'=upd H T (.tup [x,y])/\(∀xs,bL K H a xs->xs[i]?=some x)/\∀ys,bL K H b ys->ys[i]?=some y,
  λi H=>∃xs ys,bL K H a xs/\bL K H b ys/\(xs.length<=i\/ys.length<=i)⟩
theorem rk{K:PySem.W.Frag}{a c:Addr}{xs:List V}(hk:X.K=K)(I:Inv X pins σ H s)(h:bL K H a xs)(hf:j3 X pins H c)(ho:∃o,s.heap.get? c=some o/\o.cls≠.type "list"):a≠c:=by
 subst hk
 obtain⟨its,rv,p,hz⟩:=I.list h
 obtain⟨o,e,d⟩:=ho
 obtain⟨o',e',c',_⟩:=p.isList
 intro z
 subst z
 rw[e]at e';cases e'
 exact d c'
theorem Ω{P:Program}{w:World}{K:PySem.W.Frag}{elts:List Expr}{k:Nat}{pos:Pos}(a b z TI TO i1 i2:Addr)(D5:[z,TI,TO,i1,i2].Nodup) :
  Turn P w K (.Tuple elts k pos) (Fn K a b) [z,TI,TO,i1,i2] z (λi h=>IsZip h z TI TO .none/\IsPair h TI (.ref i1) (.ref i2)/\(∃u v,IsPair h TO u v)/\h.IsListIter i1 a i/\h.IsListIter i2 b i):=by
 have ap:∀(X:Cx) (pins:List (Addr × Obj)) (s:Shared) (σ:St) (H:Hp) (i:Nat) (xs ys:List V),X.K=K->Inv X pins σ H s->(∀b∈[z,TI,TO,i1,i2],j3 X pins H b)->IsZip s.heap z TI TO .none->(∃u v,IsPair s.heap TO u v)->s.heap.IsListIter i1 a i->s.heap.IsListIter i2 b i ->
   bL K H a xs->bL K H b ys->ZipApart z TI TO i1 i2 a b:=by
  intro X pins s σ H i xs ys hK I hf hz j8 h1 h2 hx hy
  simp only[iZ,cw,not_or,gE,not_false_eq_true,and_true]at D5
  obtain⟨⟨d1,d2,d3,d4⟩,⟨d5,d6,d7⟩,⟨d8,d9⟩,d10,_⟩:=D5
  have oz:∃o,s.heap.get? z=some o/\o.cls≠.type "list":=⟨_,hz,by intro q;exact absurd (Eh q) (by decide)⟩
  have Md:∃o,s.heap.get? TO=some o/\o.cls≠.type "list":=by obtain⟨u,v,e⟩:=j8;exact⟨_,e,by intro q;exact absurd (Eh q) (by decide)⟩
  have o1:∃o,s.heap.get? i1=some o/\o.cls≠.type "list":=by obtain⟨o,e,c,d⟩:=h1;exact⟨_,e,by rw[c];intro q;exact absurd (Eh q) (by decide)⟩
  have o2:∃o,s.heap.get? i2=some o/\o.cls≠.type "list":=by obtain⟨o,e,c,d⟩:=h2;exact⟨_,e,by rw[c];intro q;exact absurd (Eh q) (by decide)⟩
  exact⟨iy d1,iy d2,iy d3,iy d4,d5,d6,d7,d8,d9,d10,
   rk hK I hx (hf z (by simp)) oz,rk hK I hx (hf TO (by simp)) Md,rk hK I hx (hf i1 (by simp)) o1,rk hK I hx (hf i2 (by simp)) o2,
   rk hK I hy (hf z (by simp)) oz,rk hK I hy (hf TO (by simp)) Md,rk hK I hy (hf i1 (by simp)) o1,rk hK I hy (hf i2 (by simp)) o2⟩
 refine⟨by simp,λi h st c hc=>?_,λi h h' st kk=>?_,?_,?_,λ_ _ _ _ _ st h=>wpAny_pyIter_zip st.1 h⟩
 ·obtain⟨hz,mI,⟨u,v,j8⟩,⟨o1,e1,c1,d1⟩,⟨o2,e2,c2,d2⟩⟩:=st
  simp only[cw,gE,or_false]at hc
  rcases hc with rfl | rfl | rfl | rfl | rfl
  ·exact⟨_,hz,λv q=>by cases q⟩
  ·exact⟨_,mI,λv q=>by cases q⟩
  ·exact⟨_,j8,λv q=>by cases q⟩
  ·exact⟨_,e1,λv q=>by rw[d1]at q;cases q⟩
  ·exact⟨_,e2,λv q=>by rw[d2]at q;cases q⟩
 ·obtain⟨hz,mI,⟨u,v,j8⟩,h1,h2⟩:=st
  exact⟨kk _ (by simp) _ hz,kk _ (by simp) _ mI,⟨u,v,kk _ (by simp) _ j8⟩,h1.at λo e=>kk _ (by simp) o e,h2.at λo e=>kk _ (by simp) o e⟩
 ·intro X hP hw hK hc i pins s σ H E I hf st hg
  obtain⟨xs,ys,x,y,hx,hy,ex,ey⟩:=hg
  obtain⟨hz,mI,⟨u,v,j8⟩,h1,h2⟩:=st
  have D:=ap X pins s σ H i xs ys hK I hf hz ⟨u,v,j8⟩ h1 h2 hx hy
  subst hP hw hK
  obtain⟨as,ra,pa,_⟩:=I.list hx
  obtain⟨bs,rb,pb,_⟩:=I.list hy
  obtain⟨ux,Fp,rx⟩:=ra.get ex
  obtain⟨uy,euy,ry⟩:=rb.get ey
  refine wpAny_pyNext_zip_item D hz mI j8 h1 h2 pa.isList pb.isList (x:=ux) (y:=uy) (by simpa using Fp) (by simpa using euy) λh' z' TO' lH kG T' sz kk=>?_
  have fT:H s.heap.objs.size=none:=I.aZ.fresh (cg _)
  have I1:Inv X pins σ (upd H s.heap.objs.size (.tup [x,y])) { s with heap:=h',toks:=s.toks }:=I.Mc (its:=[z,TO,i1,i2]) (λc o hc e=>kk c o (λq=>hc (by simp[q])) (λq=>hc (by simp[q])) (λq=>hc (by simp[q])) (λq=>hc (by simp[q])) e)
   (λc hc=>hf c (by simp only[cw,gE,or_false]at hc ⊢;rcases hc with rfl | rfl | rfl | rfl<;>simp)) (cg _) ⟨by show 2<=sizeLine;decide,[ux,uy],.cons rx (.cons ry .nil),⟨_,T',rfl,_,rfl⟩⟩
  have nT:∀c∈[z,TI,TO,i1,i2],c≠s.heap.objs.size:=λc hc q=>by
   have:∃o,s.heap.get? c=some o:=by
    simp only[cw,gE,or_false]at hc
    rcases hc with rfl | rfl | rfl | rfl | rfl
    ·exact⟨_,hz⟩
    ·exact⟨_,mI⟩
    ·exact⟨_,j8⟩
    ·obtain⟨o,e,_⟩:=h1;exact⟨o,e⟩
    ·obtain⟨o,e,_⟩:=h2;exact⟨o,e⟩
   obtain⟨o,e⟩:=this
   exact absurd (cu e) (by rw[q];exact h7 _)
  refine⟨_,rfl,wpAny_letOwnedTupleGo_zip z' λFq Fs sb=>?_⟩
  have Ft:∀c∈[z],j3 X pins (upd H s.heap.objs.size (.tup [x,y])) c:=λc hc=>by
   have e:c=z:=by simpa using hc
   subst e
   obtain⟨f0,fr⟩:=hf c (by simp)
   exact⟨by rw[bt (nT c (by simp))];exact f0,fr⟩
  have I2:=Inv.B6 (h':=Fq) (its:=[z]) (t':=s.toks) I1 (λc o hc e=>sb.extBut _ _ (λq=>hc (by simp[q])) e) Ft
  refine⟨.ref s.heap.objs.size,_,I2,rfl,⟨_,x,y,rfl,fT,rfl,λbz gb=>by rw[I.BQ gb hx];exact ex,λMg hy'=>by rw[I.BQ hy' hy];exact ey⟩,⟨Fs,sb.extBut _ _ D.TIz (kk _ _ D.TIz D.TITO D.TIi1 D.TIi2 mI),⟨ux,uy,sb.extBut _ _ D.TOz TO'⟩,lH.extBut sb.extBut D.i1z,kG.extBut sb.extBut D.i2z⟩,λc hc=>?_⟩
  rw[bt (nT c hc)]
  exact(hf c hc).1
 ·intro X hP hw hK hc i pins s σ H E I hf st hg
  obtain⟨xs,ys,hx,hy,hl⟩:=hg
  obtain⟨hz,mI,⟨u,v,j8⟩,h1,h2⟩:=st
  have D:=ap X pins s σ H i xs ys hK I hf hz ⟨u,v,j8⟩ h1 h2 hx hy
  subst hP hw hK
  obtain⟨as,ra,pa,_⟩:=I.list hx
  obtain⟨bs,rb,pb,_⟩:=I.list hy
  have la:=ra.length
  have lb:=rb.length
  refine wpAny_pyNext_zip_end (I.ok.hd hc) D hz mI j8 h1 h2 pa.isList pb.isList (hl.imp (λq=>by simp;omega) λq=>by simp;omega) λh' kk=>⟨rfl,?_⟩
  exact I.B6 (its:=[z,TO,i1,i2]) (t':=s.toks) (λc o hc e=>kk c o (λq=>hc (by simp[q])) (λq=>hc (by simp[q])) (λq=>hc (by simp[q])) (λq=>hc (by simp[q])) e)
   (λc hc=>hf c (by simp only[cw,gE,or_false]at hc ⊢;rcases hc with rfl | rfl | rfl | rfl<;>simp))
def Fu(K:PySem.W.Frag)(a:Addr):It :=
 ⟨λi H=>∃xs x,bL K H a xs/\xs[i]?=some x,
  λi H v H'=>∃T x,v=.ref T/\H T=none/\H'=upd H T (.tup [.int i,x])/\∀xs,bL K H a xs->xs[i]?=some x,
  λi H=>∃xs,bL K H a xs/\xs.length<=i⟩
theorem bV3{P:Program}{w:World}{K:PySem.W.Frag}{elts:List Expr}{k:Nat}{pos:Pos}(a z it:Addr)(uX:z≠it) :
  Turn P w K (.Tuple elts k pos) (Fu K a) [z,it] z (λi h=>(∃old,IsEnum h z it i old)/\h.IsListIter it a i):=by
 refine⟨by simp,λi h st c hc=>?_,λi h h' st kk=>?_,?_,?_,λ_ _ _ _ _ st h=>by obtain⟨⟨old,e⟩,_⟩:=st;exact wpAny_pyIter_enum e h⟩
 ·obtain⟨⟨old,hz⟩,⟨o1,e1,c1,d1⟩⟩:=st
  simp only[cw,gE,or_false]at hc
  rcases hc with rfl | rfl
  ·exact⟨_,hz,λv q=>by cases q⟩
  ·exact⟨_,e1,λv q=>by rw[d1]at q;cases q⟩
 ·obtain⟨⟨old,hz⟩,h1⟩:=st
  exact⟨⟨old,kk _ (by simp) _ hz⟩,h1.at λo e=>kk _ (by simp) o e⟩
 ·intro X hP hw hK hc i pins s σ H E I hf st hg
  subst hP hw hK
  obtain⟨xs,x,hx,ex⟩:=hg
  obtain⟨⟨old,hz⟩,h1⟩:=st
  obtain⟨as,ra,pa,_⟩:=I.list hx
  obtain⟨ux,Fp,rx⟩:=ra.get ex
  refine wpAny_pyNext_enum_item hz h1 pa.isList (x:=ux) (by simpa using Fp) uX λh' z' lH T' sz kk=>?_
  have fT:H s.heap.objs.size=none:=I.aZ.fresh (cg _)
  have I1:Inv X pins σ (upd H s.heap.objs.size (.tup [.int i,x])) { s with heap:=h',toks:=s.toks+1 }:=I.Mc (its:=[z,it]) (λc o hc e=>kk c o (λq=>hc (by simp[q])) (λq=>hc (by simp[q])) e)
   (λc hc=>hf c hc) (cg _) ⟨by show 2<=sizeLine;decide,[.int i s.toks,ux],.cons ⟨_,rfl⟩ (.cons rx .nil),⟨_,T',rfl,_,rfl⟩⟩
  have nT:∀c∈[z,it],c≠s.heap.objs.size:=λc hc q=>by
   have:∃o,s.heap.get? c=some o:=by
    simp only[cw,gE,or_false]at hc
    rcases hc with rfl | rfl
    ·exact⟨_,hz⟩
    ·obtain⟨o,e,_⟩:=h1;exact⟨o,e⟩
   obtain⟨o,e⟩:=this
   exact absurd (cu e) (by rw[q];exact h7 _)
  refine⟨_,rfl,wpAny_letOwnedTupleGo_enum z' λFq Fs sb=>?_⟩
  have Ft:∀c∈[z],j3 X pins (upd H s.heap.objs.size (.tup [.int i,x])) c:=λc hc=>by
   have e:c=z:=by simpa using hc
   subst e
   obtain⟨f0,fr⟩:=hf c (by simp)
   exact⟨by rw[bt (nT c (by simp))];exact f0,fr⟩
  have I2:=Inv.B6 (h':=Fq) (its:=[z]) (t':=s.toks+1) I1 (λc o hc e=>sb.extBut _ _ (λq=>hc (by simp[q])) e) Ft
  refine⟨.ref s.heap.objs.size,_,I2,rfl,⟨_,x,rfl,fT,rfl,λbz gb=>by rw[I.BQ gb hx];exact ex⟩,⟨⟨ux,by simpa using Fs⟩,lH.extBut sb.extBut (iy uX)⟩,λc hc=>?_⟩
  rw[bt (nT c hc)]
  exact(hf c hc).1
 ·intro X hP hw hK hc i pins s σ H E I hf st hg
  subst hP hw hK
  obtain⟨xs,hx,hl⟩:=hg
  obtain⟨⟨old,hz⟩,h1⟩:=st
  obtain⟨as,ra,pa,_⟩:=I.list hx
  have la:=ra.length
  refine wpAny_pyNext_enum_end (I.ok.hd hc) hz h1 pa.isList (by simp;omega) λh' kk=>⟨rfl,?_⟩
  exact I.B6 (its:=[it]) (t':=s.toks) (λc o hc e=>kk c o (λq=>hc (by simp[q])) e) (λc hc=>hf c (by simp at hc ⊢;simp[hc]))
end
section
variable{X:Cx}{a b:Expr}{ta:TA}{p pos mF:Pos}{elts:List Expr}{x1:Nat}
def cP7(K:PySem.W.Frag)(ta:TA):TI:=λσ H R=>ta σ H λvs H1=>∃a b,vs=[.ref a,.ref b]/\(∃xs,bL K H1 a xs)/\(∃ys,bL K H1 b ys)/\R (Fn K a b) H1
theorem ca8:bootBuiltins "zip"=some (.type "zip"):=by decide +kernel
theorem Mh(hg:Gl X "zip")(hm:X.mg "zip"=none)(ha:PA X [a,b] ta)(hs:starEach [a,b] X.env=[(false,eval a X.env),(false,eval b X.env)]:=by rfl)(gx:starEach [b] X.env=[(false,eval b X.env)]:=by rfl) :
  PI X (.Tuple elts x1 mF) (.Call (.Name "zip" p) [a,b] [] pos) (cP7 X.K ta):=by
 intro pins s σ H R I h
 refine Call_ (oH I hg hm ca8 (wM (a7 (ha pos pins s σ H _ I h) λus s1 zq=>?_) (by rw[hs,gx]) (by rw[gx];rfl)))
 obtain⟨vs,H1,I1,r1,q1⟩:=zq
 obtain⟨a,b,e,⟨xs,hx⟩,⟨ys,hy⟩,q⟩:=q1
 subst e
 cases r1 with
 | cons r rr =>
  cases rr with
  | cons r2 rr =>
   cases rr
   cases r
   cases r2
   obtain⟨as,ra,pa,_⟩:=I1.list hx
   obtain⟨bs,rb,pb,_⟩:=I1.list hy
   refine call_zip_2 pa.isList pb.isList λh' hz mI j8 h1 h2 sz kk=>wpAny_pyIter_zip hz ?_
   refine⟨_,[s1.heap.objs.size+4,s1.heap.objs.size+2,s1.heap.objs.size+3,s1.heap.objs.size,s1.heap.objs.size+1],_,_,H1,rfl,I1.kept (t':=s1.toks) kk,Ω a b _ _ _ _ _ (by simp),⟨hz,mI,⟨_,_,j8⟩,h1,h2⟩,λc hc=>?_,q⟩
   have hle:s1.heap.objs.size<=c:=by
    simp only[cw,gE,or_false]at hc
    rcases hc with rfl | rfl | rfl | rfl | rfl<;>omega
   exact I1.BU hle (I1.aZ.fresh hle)
def cJ8(K:PySem.W.Frag)(ta:TA):TI:=λσ H R=>ta σ H λvs H1=>∃a,vs=[.ref a]/\(∃xs,bL K H1 a xs)/\R (Fu K a) H1
theorem br2:bootBuiltins "enumerate"=some (.type "enumerate"):=by decide +kernel
theorem cm3(hg:Gl X "enumerate")(hm:X.mg "enumerate"=none)(ha:PA X [a] ta)(hs:starEach [a] X.env=[(false,eval a X.env)]:=by rfl) :
  PI X (.Tuple elts x1 mF) (.Call (.Name "enumerate" p) [a] [] pos) (cJ8 X.K ta):=by
 intro pins s σ H R I h
 refine Call_ (oH I hg hm br2 (wM (a7 (ha pos pins s σ H _ I h) λus s1 zq=>?_) hs rfl))
 obtain⟨vs,H1,I1,r1,q1⟩:=zq
 obtain⟨a,e,⟨xs,hx⟩,q⟩:=q1
 subst e
 cases r1 with
 | cons r rr =>
  cases rr
  cases r
  obtain⟨as,ra,pa,_⟩:=I1.list hx
  refine call_enumerate_list pa.isList λh' hz h1 sz kk=>wpAny_pyIter_enum hz ?_
  refine⟨_,[s1.heap.objs.size+1,s1.heap.objs.size],_,_,H1,rfl,I1.kept (t':=s1.toks) kk,bV3 a (s1.heap.objs.size+1) s1.heap.objs.size (Nat.succ_ne_self _),⟨⟨_,hz⟩,h1⟩,λc hc=>?_,q⟩
  have hle:s1.heap.objs.size<=c:=by
   simp only[cw,gE,or_false]at hc
   rcases hc with rfl | rfl<;>omega
  exact I1.BU hle (I1.aZ.fresh hle)
end
end L2
namespace L2
open PySem PySem.Spec PyProof.Rows PySem.W PySem.Calls
section
variable{X:Cx}
def xB{α:Type}(xs:List α)(lo hi:Option Int):List α:=(xs.drop (HT.df xs.length 0 lo)).take (HT.df xs.length xs.length hi-HT.df xs.length 0 lo)
theorem bW6(x:Str)(lo hi:Option Int):Txt.slice x lo hi=⟨(xB x.cps.toList lo hi).toArray⟩:=by
 have hx:x.length=x.cps.size:=rfl
 have e:(Ei lo hi 1 x.length).filterMap (x.cps[·]?)=xB x.cps.toList lo hi:=by
  obtain⟨h1,h2,h3⟩:=E2 lo hi x.length
  have e0:Ei lo hi 1 x.length=sliceRange (sliceBounds lo hi none x.length).1 (sliceBounds lo hi none x.length).2.1 1:=by
   cases lo<;>cases hi<;>rfl
  rw[e0,h1,h2]
  simp only[sliceRange_one,pick_run]
  unfold xB
  rw[hx,wL]
 unfold Txt.slice
 split
 ·rename_i h
  have hl:(Ei lo hi 1 x.length).length=x.length:=by
   rw[cK]at h;exact eq_of_beq h.2
  have hs:(xB x.cps.toList lo hi)=x.cps.toList:=by
   have e2:HT.df x.cps.toList.length x.cps.toList.length hi-HT.df x.cps.toList.length 0 lo=x.length:=by
    obtain⟨h1,h2,h3⟩:=E2 lo hi x.length
    have e0:Ei lo hi 1 x.length=sliceRange (sliceBounds lo hi none x.length).1 (sliceBounds lo hi none x.length).2.1 1:=by
     cases lo<;>cases hi<;>rfl
    rw[e0,h1,h2]at hl
    simp only[sliceRange_one,aW,bN]at hl
    rw[wL,<- hx]
    omega
   unfold xB
   have le:HT.df x.cps.toList.length x.cps.toList.length hi<=x.cps.toList.length:=by
    cases hi with
    | none=>simp[HT.df]
    | some i=>simp only[HT.df];split<;>omega
   have le2:HT.df x.cps.toList.length 0 lo<=x.cps.toList.length:=by
    cases lo with
    | none=>simp[HT.df]
    | some i=>simp only[HT.df];split<;>omega
   rw[wL,<- hx]at e2 le le2 ⊢
   have z:HT.df x.length 0 lo=0:=by omega
   have z2:HT.df x.length x.length hi=x.length:=by omega
   rw[z,z2,List.drop_zero,Nat.sub_zero,hx,<- wL,mq]
  rw[hs]
 ·rw[e]
theorem cx3:uT X (λx lo hi H Q=>∃z,x=.str z/\z.length<=sizeLine/\Q (.str ⟨(xB z.cps.toList lo hi).toArray⟩) H):=by
 intro pins s σ H x v vl vu lo hi sl Q I rx hs pl pu h
 obtain⟨z,rfl,hz,q⟩:=h
 obtain⟨t,rfl⟩:=rx
 refine⟨"str",_,F.slot_str_getitem.lookup,typeIs_str _ _ _,?_⟩
 have fin:∀(l u:Option (Int × Tok)),l.map (·.1)=lo->u.map (·.1)=hi->partValue l=vl->partValue u=vu->wpAny (model X.prog X.w) X.A (getItem (.str z t) (.ref sl)) (EP X pins σ Q) X.xe s:=by
  intro l u h1 h2 h3 h4
  obtain⟨o,e1,e2,e3⟩:=hs
  refine wpAny_getItem_str_slice (l:=l) (u:=u) (st:=none) ⟨o,e1,e2,by rw[e3,h3,h4];rfl⟩ rfl ?_
  have e:Txt.slice z lo hi=(if(((none:Option (Int × Tok)).map (·.1)).getD 1==1&&(slicePicked z l u none).length==z.length)=true then z else⟨((slicePicked z l u none).filterMap (z.cps[·]?)).toArray⟩):=by
   unfold Txt.slice slicePicked;rw[h1,h2];rfl
  refine post_val_or_str ⟨?_,λt' k=>?_⟩
  ·rw[<-e];exact fY (Txt.slice_le z _ _) hz
  ·rw[<-e,bW6];exact⟨.str _,H,I.tok _,⟨_,rfl⟩,q⟩
 cases pl with
 | none =>
  cases pu with
  | none=>exact fin none none rfl rfl rfl rfl
  | int j tj=>exact fin none (some (j,tj)) rfl rfl rfl rfl
 | int i ti =>
  cases pu with
  | none=>exact fin (some (i,ti)) none rfl rfl rfl rfl
  | int j tj=>exact fin (some (i,ti)) (some (j,tj)) rfl rfl rfl rfl
end
end L2
namespace L3
open PySem L2
def iK:HO->Bool
 | .dG _=>false
 | _=>true
structure ah(H H':Hp):Prop where
 get:∀b o,H b=some o->(h:iK o=true:=by rfl)->H' b=some o
 tb:∀b ps,H b=some (.dG ps)->∃more,H' b=some (.dG (ps++more))
instance {H H':Hp}:CoeFun (ah H H') λ_=>∀b o,H b=some o->(h:iK o=true:=by rfl)->H' b=some o:=⟨λs=>@ah.get _ _ s⟩
theorem zw{o:HO}(h:iK o=false):∃ps,o=.dG ps:=by
 cases o with
 | dG ps=>exact⟨ps,rfl⟩
 | _=>cases h
theorem ah.of{H H':Hp}(h:∀b o,H b=some o->H' b=some o):ah H H':=⟨λb o e _=>h b o e,λb ps e=>⟨#[],by rw[h b _ e];simp⟩⟩
theorem ah.refl(H:Hp):ah H H:=.of λ_ _ h=>h
theorem ah.trans{H H1 H2:Hp}(a:ah H H1)(b:ah H1 H2):ah H H2 :=
 ⟨λc o h n=>b.get c o (a.get c o h n) n,λc ps h=>by
  obtain⟨m1,e1⟩:=a.tb c ps h
  obtain⟨m2,e2⟩:=b.tb c _ e1
  exact⟨m1++m2,by rw[e2,yw]⟩⟩
theorem ah.any{H H':Hp}(e:ah H H'){l:Addr}{o:HO}(h:H l=some o):∃o',H' l=some o':=by
 cases n:iK o with
 | true=>exact⟨o,e.get l o h n⟩
 | false =>
  obtain⟨ps,rfl⟩:=zw n
  obtain⟨m,q⟩:=e.tb l ps h
  exact⟨_,q⟩
theorem ah.free{H H':Hp}(e:ah H H'){l:Addr}(h:H' l=Option.none):H l=Option.none:=by
 cases q:H l with
 | none=>rfl
 | some o =>
  obtain⟨o',z⟩:=e.any q
  rw[z]at h
  cases h
inductive uY where
 | ext (φ:Addr->Heap->Prop)
 | lam (of oc:Obj) (c k:Addr)
 | Fv (C:Addr) (nm:Str) (n:Int)
instance:Coe (Addr->Heap->Prop) uY:=⟨.ext⟩
def Fw(H:Hp)(k:Addr):Prop:=∃ψ,H k=some (.ext ψ)/\∀h,ψ h->∃q,h.CodeRec (.ref k) q
def kH(of oc:Obj)(c p:Addr):Heap->Prop:=λh=>h.get? p=some of/\h.get? c=some oc
structure zx(H:Hp)(p:Addr)(of oc:Obj)(c k:Addr):Prop where
 fn:H p=some (.ext (kH of oc c p))
 cell:H c=some (.own p)
 Mi:Fw H k
def cO3(a C dx:Addr)(h:Heap):Prop:=∃o,h.get? a=some o/\o.cls=.ref C/\PySem.W.notCls o=true/\o.dict=some dx
def Mj(nm:Str)(n:Int)(dx:Addr)(h:Heap):Prop:=∃od tk,h.get? dx=some od/\PySem.W.lookIn nm od=some (some (.int n tk))
def mJ(H:Hp)(p:Addr):uY->Prop
 | .ext φ=>H p=some (.ext (φ p))
 | .lam of oc c k=>zx H p of oc c k
 | .Fv C nm n=>∃dx,H p=some (.ext (cO3 p C dx))/\H dx=some (.ext (Mj nm n dx))
theorem mJ.mono{H H':Hp}{p:Addr}:∀{z:uY},mJ H p z->(∀a o,H a=some o->(∀ws,o≠.lst ws)->iK o=true->H' a=some o)->mJ H' p z
 | .ext φ,x,k=>k _ _ x (λws q=>by cases q) rfl
 | .lam of oc c k',x,k=>⟨k _ _ x.fn (λws q=>by cases q) rfl,k _ _ x.cell (λws q=>by cases q) rfl,let⟨ψ,e,h⟩:=x.Mi;⟨ψ,k _ _ e (λws q=>by cases q) rfl,h⟩⟩
 | .Fv C nm n,⟨dx,x,y⟩,k=>⟨dx,k _ _ x (λws q=>by cases q) rfl,k _ _ y (λws q=>by cases q) rfl⟩
inductive D where
 | az | bl (b:Bool) | int (i:Int) | str (x:Str)
 | lst (o:Bool) (xs:List D)
 | tup (xs:List D)
 | obj (C:Addr) (ns:List Str) (xs:List D)
 | fz (xs:List D)
 | bG (z:uY)
 deriving Inhabited
def D.pl:D->Bool
 | .lst o xs=>!o&&zy xs
 | .tup xs=>zy xs
 | _=>true
where zy:List D->Bool
 | []=>true
 | d::ds=>d.pl&&zy ds
def D.fr:D->Bool
 | .lst o xs=>o&&zA xs
 | .tup xs=>zA xs
 | .obj _ _ _=>false
 | .fz _=>false
 | _=>true
where zA:List D->Bool
 | []=>true
 | d::ds=>d.fr&&zA ds
def D.sh:D->D
 | .lst _ xs=>.lst false (zB xs)
 | .tup xs=>.tup (zB xs)
 | d=>d
where zB:List D->List D
 | []=>[]
 | d::ds=>d.sh::zB ds
theorem Ml(ds:List D):D.pl.zy ds=ds.all D.pl:=by induction ds with | nil=>rfl | cons d ds ih=>simp[D.pl.zy,ih]
theorem Mm(ds:List D):D.fr.zA ds=ds.all D.fr:=by induction ds with | nil=>rfl | cons d ds ih=>simp[D.fr.zA,ih]
theorem Fx(ds:List D):D.sh.zB ds=ds.map D.sh:=by induction ds with | nil=>rfl | cons d ds ih=>simp[D.sh.zB,ih]
theorem eI(o:Bool)(xs:List D):(D.lst o xs).pl=(!o&&xs.all D.pl):=by simp[D.pl,Ml]
theorem j9(xs:List D):(D.tup xs).pl=xs.all D.pl:=by simp[D.pl,Ml]
theorem fP(o:Bool)(xs:List D):(D.lst o xs).fr=(o&&xs.all D.fr):=by simp[D.fr,Mm]
theorem oW(xs:List D):(D.tup xs).fr=xs.all D.fr:=by simp[D.fr,Mm]
theorem bV(o:Bool)(xs:List D):(D.lst o xs).sh=.lst false (xs.map D.sh):=by simp[D.sh,Fx]
theorem i9(xs:List D):(D.tup xs).sh=.tup (xs.map D.sh):=by simp[D.sh,Fx]
inductive R(F H:Hp):List D->List V->List Addr->Prop
 | nil:R F H [] [] []
 | az {ds vs B}:R F H ds vs B->R F H (.az::ds) (.az::vs) B
 | bl {b ds vs B}:R F H ds vs B->R F H (.bl b::ds) (.bl b::vs) B
 | int {i ds vs B}:R F H ds vs B->R F H (.int i::ds) (.int i::vs) B
 | str {x ds vs B}:R F H ds vs B->R F H (.str x::ds) (.str x::vs) B
 | shr {p ws xs ds vs B}:F p=some (.lst ws)->R F H xs ws []->R F H ds vs B->R F H (.lst false xs::ds) (.ref p::vs) B
 | own {p ws xs A ds vs B}:H p=some (.lst ws)->F p=none->R F H xs ws A->R F H ds vs B->R F H (.lst true xs::ds) (.ref p::vs) (p::(A++B))
 | tup {p ws xs A ds vs B}:H p=some (.tup ws)->R F H xs ws A->R F H ds vs B->R F H (.tup xs::ds) (.ref p::vs) (A++B)
 | obj {p C dx ns ws xs ds vs B}:H p=some (.ins C dx (ns.zip ws))->ns.length=ws.length->R F H xs ws []->R F H ds vs B->R F H (.obj C ns xs::ds) (.ref p::vs) B
 | fz {p o ws xs ds vs B}:F p=some (.cU o (.lst ws))->R F H xs ws []->R F H ds vs B->R F H (.fz xs::ds) (.ref p::vs) B
 | bG {p z ds vs B}:mJ H p z->R F H ds vs B->R F H (.bG z::ds) (.ref p::vs) B
inductive S(F H:Hp):List D->List V->Prop
 | nil:S F H [] []
 | az {ds vs}:S F H ds vs->S F H (.az::ds) (.az::vs)
 | bl {b ds vs}:S F H ds vs->S F H (.bl b::ds) (.bl b::vs)
 | int {i ds vs}:S F H ds vs->S F H (.int i::ds) (.int i::vs)
 | str {x ds vs}:S F H ds vs->S F H (.str x::ds) (.str x::vs)
 | shr {p ws xs ds vs}:F p=some (.lst ws)->R F H xs ws []->S F H ds vs->S F H (.lst false xs::ds) (.ref p::vs)
 | own {p ws xs ds vs}:H p=some (.lst ws)->S F H xs ws->S F H ds vs->S F H (.lst true xs::ds) (.ref p::vs)
 | tup {p ws xs ds vs}:H p=some (.tup ws)->S F H xs ws->S F H ds vs->S F H (.tup xs::ds) (.ref p::vs)
 | obj {p C dx ns ws xs ds vs}:H p=some (.ins C dx (ns.zip ws))->ns.length=ws.length->R F H xs ws []->S F H ds vs->S F H (.obj C ns xs::ds) (.ref p::vs)
 | fz {p o ws xs ds vs}:F p=some (.cU o (.lst ws))->R F H xs ws []->S F H ds vs->S F H (.fz xs::ds) (.ref p::vs)
 | bG {p z ds vs}:mJ H p z->S F H ds vs->S F H (.bG z::ds) (.ref p::vs)
section
variable{F F' H H':Hp}{d:D}{ds es:List D}{v:V}{vs ws:List V}{A B:List Addr}
theorem R.length(r:R F H ds vs A):ds.length=vs.length:=by
 induction r<;>simp_all
theorem S.length(r:S F H ds vs):ds.length=vs.length:=by
 induction r<;>simp_all
theorem R.mK{vs:List V}{A:List Addr}(r:R F H [] vs A):vs=[]/\A=[]:=by cases r;exact⟨rfl,rfl⟩
def Rv(F H:Hp)(ds:List D)(v:V)(vs:List V)(B:List Addr):D->Prop
 | .lst true xs=>∃p ws A B',v=.ref p/\H p=some (.lst ws)/\F p=none/\R F H xs ws A/\R F H ds vs B'/\B=p::(A++B')
 | .tup xs=>∃p ws A B',v=.ref p/\H p=some (.tup ws)/\R F H xs ws A/\R F H ds vs B'/\B=A++B'
 | _=>R F H ds vs B
theorem R.rv{d:D}{ds:List D}{v:V}{vs:List V}{B:List Addr}(r:R F H (d::ds) (v::vs) B):Rv F H ds v vs B d:=by
 cases r with
 | az q=>exact q
 | bl q=>exact q
 | int q=>exact q
 | str q=>exact q
 | shr _ _ q=>exact q
 | own h f x q=>exact⟨_,_,_,_,rfl,h,f,x,q,rfl⟩
 | tup h x q=>exact⟨_,_,_,_,rfl,h,x,q,rfl⟩
 | obj _ _ _ q=>exact q
 | fz _ _ q=>exact q
 | bG _ q=>exact q
theorem R.cons(r:R F H [d] [v] A)(q:R F H ds vs B):R F H (d::ds) (v::vs) (A++B):=by
 cases r with
 | az r=>rw[r.mK.2];exact .az q
 | bl r=>rw[r.mK.2];exact .bl q
 | int r=>rw[r.mK.2];exact .int q
 | str r=>rw[r.mK.2];exact .str q
 | shr h x r=>rw[r.mK.2];exact .shr h x q
 | own h f x r=>rw[r.mK.2,gu];exact R.own h f x q
 | tup h x r=>rw[r.mK.2,gu];exact R.tup h x q
 | obj h l x r=>rw[r.mK.2];exact .obj h l x q
 | fz h x r=>rw[r.mK.2];exact .fz h x q
 | bG h r=>rw[r.mK.2];exact .bG h q
theorem R.dq(r:R F H (d::ds) vs A):∃v cX A1 A2,vs=v::cX/\A=A1++A2/\R F H [d] [v] A1/\R F H ds cX A2:=by
 cases r with
 | az r=>exact⟨_,_,[],_,rfl,rfl,.az .nil,r⟩
 | bl r=>exact⟨_,_,[],_,rfl,rfl,.bl .nil,r⟩
 | int r=>exact⟨_,_,[],_,rfl,rfl,.int .nil,r⟩
 | str r=>exact⟨_,_,[],_,rfl,rfl,.str .nil,r⟩
 | shr h x r=>exact⟨_,_,[],_,rfl,rfl,.shr h x .nil,r⟩
 | @own p _ _ A1 _ _ B1 h f x r=>exact⟨_,_,p::A1,B1,rfl,rfl,by simpa using R.own h f x .nil,r⟩
 | @tup p _ _ A1 _ _ B1 h x r=>exact⟨_,_,A1,B1,rfl,rfl,by simpa using R.tup h x .nil,r⟩
 | obj h l x r=>exact⟨_,_,[],_,rfl,rfl,.obj h l x .nil,r⟩
 | fz h x r=>exact⟨_,_,[],_,rfl,rfl,.fz h x .nil,r⟩
 | bG h r=>exact⟨_,_,[],_,rfl,rfl,.bG h .nil,r⟩
theorem S.cons(r:S F H [d] [v])(q:S F H ds vs):S F H (d::ds) (v::vs):=by
 cases r with
 | az r=>exact .az q
 | bl r=>exact .bl q
 | int r=>exact .int q
 | str r=>exact .str q
 | shr h x r=>exact .shr h x q
 | own h x r=>exact .own h x q
 | tup h x r=>exact .tup h x q
 | obj h l x r=>exact .obj h l x q
 | fz h x r=>exact .fz h x q
 | bG h r=>exact .bG h q
theorem S.dq(r:S F H (d::ds) vs):∃v cX,vs=v::cX/\S F H [d] [v]/\S F H ds cX:=by
 cases r with
 | az r=>exact⟨_,_,rfl,.az .nil,r⟩
 | bl r=>exact⟨_,_,rfl,.bl .nil,r⟩
 | int r=>exact⟨_,_,rfl,.int .nil,r⟩
 | str r=>exact⟨_,_,rfl,.str .nil,r⟩
 | shr h x r=>exact⟨_,_,rfl,.shr h x .nil,r⟩
 | own h x r=>exact⟨_,_,rfl,.own h x .nil,r⟩
 | tup h x r=>exact⟨_,_,rfl,.tup h x .nil,r⟩
 | obj h l x r=>exact⟨_,_,rfl,.obj h l x .nil,r⟩
 | fz h x r=>exact⟨_,_,rfl,.fz h x .nil,r⟩
 | bG h r=>exact⟨_,_,rfl,.bG h .nil,r⟩
theorem R.append:∀{ds:List D} {vs:List V} {A:List Addr},R F H ds vs A->R F H es ws B->R F H (ds++es) (vs++ws) (A++B)
 | [],_,_,r,q=>by cases r;exact q
 | d::ds,_,_,r,q=>by
  obtain⟨v,cX,A1,A2,rfl,rfl,h1,h2⟩:=r.dq
  simpa using h1.cons (R.append h2 q)
theorem S.append:∀{ds:List D} {vs:List V},S F H ds vs->S F H es ws->S F H (ds++es) (vs++ws)
 | [],_,r,q=>by cases r;exact q
 | d::ds,_,r,q=>by
  obtain⟨v,cX,rfl,h1,h2⟩:=r.dq
  exact h1.cons (S.append h2 q)
theorem R.split:∀{ds:List D} {vs:List V} {A:List Addr},R F H (ds++es) vs A->∃v1 v2 A1 A2,vs=v1++v2/\A=A1++A2/\R F H ds v1 A1/\R F H es v2 A2
 | [],vs,A,r=>⟨[],vs,[],A,rfl,rfl,.nil,r⟩
 | d::ds,_,_,r=>by
  obtain⟨v,cX,A1,A2,rfl,rfl,h1,h2⟩:=R.dq (ds:=ds++es) r
  obtain⟨v1,v2,B1,B2,rfl,rfl,h3,h4⟩:=R.split (ds:=ds) h2
  exact⟨v::v1,v2,A1++B1,B2,rfl,by simp,h1.cons h3,h4⟩
theorem R.get:∀{ds:List D} {vs:List V} {A:List Addr} {i:Nat},R F H ds vs A->ds[i]?=some d->∃v A1,vs[i]?=some v/\R F H [d] [v] A1/\A1 ⊆ A
 | [],_,_,_,_,e=>by simp at e
 | d'::ds,_,_,i,r,e=>by
  obtain⟨v,cX,A1,A2,rfl,rfl,h1,h2⟩:=r.dq
  cases i with
  | zero=>simp at e;subst e;exact⟨v,A1,rfl,h1,by simp⟩
  | succ i =>
   obtain⟨w,B1,e2,q,sb⟩:=R.get (ds:=ds) (i:=i) h2 (by simpa using e)
   exact⟨w,B1,by simpa using e2,q,λx hx=>fq _ (sb hx)⟩
theorem S.get:∀{ds:List D} {vs:List V} {i:Nat},S F H ds vs->ds[i]?=some d->∃v,vs[i]?=some v/\S F H [d] [v]
 | [],_,_,_,e=>by simp at e
 | d'::ds,_,i,r,e=>by
  obtain⟨v,cX,rfl,h1,h2⟩:=r.dq
  cases i with
  | zero=>simp at e;subst e;exact⟨v,rfl,h1⟩
  | succ i =>
   obtain⟨w,e2,q⟩:=S.get (ds:=ds) (i:=i) h2 (by simpa using e)
   exact⟨w,by simpa using e2,q⟩
theorem S.get':∀{ds:List D} {vs:List V} {i:Nat},S F H ds vs->vs[i]?=some v->∃d,ds[i]?=some d/\S F H [d] [v]
 | [],_,_,r,e=>by cases r;simp at e
 | d'::ds,_,i,r,e=>by
  obtain⟨v,cX,rfl,h1,h2⟩:=r.dq
  cases i with
  | zero=>simp at e;subst e;exact⟨d',rfl,h1⟩
  | succ i =>
   obtain⟨w,e2,q⟩:=S.get' (ds:=ds) (i:=i) h2 (by simpa using e)
   exact⟨w,by simpa using e2,q⟩
theorem S.take:∀{ds:List D} {vs:List V} (n:Nat),S F H ds vs->S F H (ds.take n) (vs.take n)
 | _,_,0,r=>by simpa using S.nil
 | [],_,n+1,r=>by cases r;exact .nil
 | d::ds,_,n+1,r=>by
  obtain⟨v,cX,rfl,h1,h2⟩:=r.dq
  exact h1.cons (S.take n h2)
theorem S.drop:∀{ds:List D} {vs:List V} (n:Nat),S F H ds vs->S F H (ds.drop n) (vs.drop n)
 | _,_,0,r=>by simpa using r
 | [],_,n+1,r=>by cases r;exact .nil
 | d::ds,_,n+1,r=>by
  obtain⟨v,cX,rfl,h1,h2⟩:=r.dq
  exact S.drop n h2
theorem iM{p:Addr}{o:HO}(h:Rd F p o)(s:ah F F')(n:iK o=true:=by rfl):Rd F' p o:=by
 rcases h with h | ⟨u,h⟩
 ·exact .inl (s.get _ _ h n)
 ·exact .inr ⟨u,s _ _ h⟩
theorem R.s(r:R F H ds vs A):S F H ds vs:=by
 induction r with
 | nil=>exact .nil
 | az _ ih=>exact .az ih
 | bl _ ih=>exact .bl ih
 | int _ ih=>exact .int ih
 | str _ ih=>exact .str ih
 | shr h x _ _ ih=>exact .shr h x ih
 | own h f _ _ i1 i2=>exact .own h i1 i2
 | tup h _ _ i1 i2=>exact .tup h i1 i2
 | obj h l x _ _ ih=>exact .obj h l x ih
 | fz h x _ _ ih=>exact .fz h x ih
 | bG h _ ih=>exact .bG h ih
structure ka(W:List Addr)(H H':Hp):Prop where
 get:∀a o,H a=some o->a ∉ W->(h:iK o=true:=by rfl)->H' a=some o
instance {W:List Addr} {H H':Hp}:CoeFun (ka W H H') λ_=>∀a o,H a=some o->a ∉ W->(h:iK o=true:=by rfl)->H' a=some o:=⟨λs=>@ka.get _ _ _ s⟩
def lJ(W:List Addr)(H:Hp):Prop:=∀a∈W,∃ws,H a=some (.lst ws)
theorem R.keep{W:List Addr}(hf:ah F F')(hb:ka W H H')(hl:lJ W H)(r:R F H ds vs A)(hn:∀a∈A,F' a=none)(hd:∀a∈A,a ∉ W):R F' H' ds vs A:=by
 induction r with
 | nil=>exact .nil
 | az _ ih=>exact .az (ih hn hd)
 | bl _ ih=>exact .bl (ih hn hd)
 | int _ ih=>exact .int (ih hn hd)
 | str _ ih=>exact .str (ih hn hd)
 | shr h x _ i1 ih=>exact .shr (hf _ _ h) (i1 (by simp) (by simp)) (ih hn hd)
 | own h f _ _ i1 i2 =>
  refine .own (hb _ _ h (hd _ (by simp))) (hn _ (by simp)) (i1 (λa ha=>hn a ?_) λa ha=>hd a ?_) (i2 (λa ha=>hn a ?_) λa ha=>hd a ?_)<;>simp[ha]
 | @tup p ws _ _ _ _ _ h _ _ i1 i2 =>
  refine .tup (hb _ _ h λz=>?_) (i1 (λa ha=>hn a ?_) λa ha=>hd a ?_) (i2 (λa ha=>hn a ?_) λa ha=>hd a ?_)<;>try simp[ha]
  obtain⟨q,e⟩:=hl _ z
  rw[h]at e;cases e
 | obj h l x _ i1 ih =>
  refine .obj (hb _ _ h λz=>?_) l (i1 (by simp) (by simp)) (ih hn hd)
  obtain⟨q,e⟩:=hl _ z
  rw[h]at e;cases e
 | fz h x _ i1 ih=>exact .fz (hf _ _ h) (i1 (by simp) (by simp)) (ih hn hd)
 | bG h _ ih =>
  exact .bG (h.mono λa o e n t=>hb.get a o e (λz=>by
   obtain⟨q,e'⟩:=hl _ z
   rw[e]at e';cases e';exact n _ rfl) t) (ih hn hd)
theorem ka.same(h:ah H H'):ka [] H H':=⟨λa o e _ n=>h.get a o e n⟩
theorem lJ.nil:lJ [] H:=λa h=>absurd h (by simp)
theorem R.grow(hf:ah F F')(hb:ah H H')(r:R F H ds vs A)(hn:∀a∈A,F' a=none):R F' H' ds vs A :=
 r.keep hf (ka.same hb) lJ.nil hn (by simp)
theorem R.shared(hf:ah F F')(hb:ah H H')(r:R F H ds vs []):R F' H' ds vs []:=r.grow hf hb (by simp)
theorem S.mono(hf:ah F F')(hb:ah H H')(r:S F H ds vs):S F' H' ds vs:=by
 induction r with
 | nil=>exact .nil
 | az _ ih=>exact .az ih
 | bl _ ih=>exact .bl ih
 | int _ ih=>exact .int ih
 | str _ ih=>exact .str ih
 | shr h x _ ih=>exact .shr (hf _ _ h) (x.shared hf hb) ih
 | own h _ _ i1 i2=>exact .own (hb _ _ h) i1 i2
 | tup h _ _ i1 i2=>exact .tup (hb _ _ h) i1 i2
 | obj h l x _ ih=>exact .obj (hb _ _ h) l (x.shared hf hb) ih
 | fz h x _ ih=>exact .fz (hf _ _ h) (x.shared hf hb) ih
 | bG h _ ih=>exact .bG (h.mono λa o e _ t=>hb.get a o e t) ih
theorem S.r(s:S F H ds vs)(p:ds.all D.pl=true):R F H ds vs []:=by
 induction s with
 | nil=>exact .nil
 | az _ ih=>exact .az (ih (by simpa[D.pl]using p))
 | bl _ ih=>exact .bl (ih (by simpa[D.pl]using p))
 | int _ ih=>exact .int (ih (by simpa[D.pl]using p))
 | str _ ih=>exact .str (ih (by simpa[D.pl]using p))
 | shr h x _ ih=>exact .shr h x (ih (by simp[eI]at p;simpa using p.2))
 | own h _ _ i1 i2=>simp[eI]at p
 | tup h _ _ i1 i2 =>
  rw[bA,j9,cK]at p
  simpa using R.tup h (i1 p.1) (i2 p.2)
 | obj h l x _ ih=>exact .obj h l x (ih (by simpa[D.pl]using p))
 | fz h x _ ih=>exact .fz h x (ih (by simpa[D.pl]using p))
 | bG h _ ih=>exact .bG h (ih (by simpa[D.pl]using p))
theorem R.pl(r:R F H ds vs []):ds.all D.pl=true:=by
 generalize e:([]:List Addr)=A at r
 induction r with
 | nil=>rfl
 | az _ ih=>simp[D.pl];simpa using ih e
 | bl _ ih=>simp[D.pl];simpa using ih e
 | int _ ih=>simp[D.pl];simpa using ih e
 | str _ ih=>simp[D.pl];simpa using ih e
 | shr h x _ i1 ih=>simp only[bA,eI,i1 rfl,ih e];rfl
 | own h f _ _ i1 i2=>cases e
 | tup h _ _ i1 i2 =>
  obtain⟨e1,e2⟩:=Bu.mp e.symm
  simp only[bA,j9,i1 e1.symm,i2 e2.symm];rfl
 | obj h l x _ i1 ih=>simp[D.pl];simpa using ih e
 | fz h x _ i1 ih=>simp[D.pl];simpa using ih e
 | bG h _ ih=>simp[D.pl];simpa using ih e
theorem D.B7:∀{d:D},d.pl=true->d.sh=d
 | .az,_=>rfl
 | .bl _,_=>rfl
 | .int _,_=>rfl
 | .str _,_=>rfl
 | .obj _ _ _,_=>rfl
 | .fz _,_=>rfl
 | .bG _,_=>rfl
 | .lst o xs,h=>by
  rw[eI,cK]at h
  have:∀(l:List D),(∀x∈l,x∈xs)->l.all D.pl=true->l.map D.sh=l:=by
   intro l hl hp
   induction l with
   | nil=>rfl
   | cons x l ih =>
    simp only[bA,cK]at hp
    have hx:x∈xs:=hl x (by simp)
    rw[cI,D.B7 hp.1,ih (λy hy=>hl y (by simp[hy])) hp.2]
  rw[bV,this xs (λ_ h=>h) h.2]
  cases o<;>simp_all
 | .tup xs,h=>by
  rw[j9]at h
  have:∀(l:List D),(∀x∈l,x∈xs)->l.all D.pl=true->l.map D.sh=l:=by
   intro l hl hp
   induction l with
   | nil=>rfl
   | cons x l ih =>
    simp only[bA,cK]at hp
    have hx:x∈xs:=hl x (by simp)
    rw[cI,D.B7 hp.1,ih (λy hy=>hl y (by simp[hy])) hp.2]
  rw[i9,this xs (λ_ h=>h) h]
termination_by d=>sizeOf d
theorem mL{l:List D}(h:l.all D.pl=true):l.map D.sh=l:=by
 induction l with
 | nil=>rfl
 | cons x l ih =>
  simp only[bA,cK]at h
  rw[cI,D.B7 h.1,ih h.2]
theorem S.frozen(e:ah F H)(s:S F H ds vs):R H H (ds.map D.sh) vs []:=by
 induction s with
 | nil=>exact .nil
 | az _ ih=>exact .az ih
 | bl _ ih=>exact .bl ih
 | int _ ih=>exact .int ih
 | str _ ih=>exact .str ih
 | shr h x _ ih =>
  rw[cI,bV,mL x.pl]
  exact .shr (e _ _ h) (x.shared e (ah.refl _)) ih
 | own h _ _ i1 i2=>rw[cI,bV];exact .shr h i1 i2
 | tup h _ _ i1 i2=>rw[cI,i9];simpa using R.tup h i1 i2
 | obj h l x _ ih=>exact .obj h l (x.shared e (ah.refl _)) ih
 | fz h x _ ih=>exact .fz (e _ _ h) (x.shared e (ah.refl _)) ih
 | bG h _ ih=>exact .bG h ih
def cU(F H:Hp)(A:List Addr):Hp:=λa=>if a∈A then H a else F a
theorem oX(e:ah F H):ah F (cU F H A):=⟨λa o h n=>by unfold cU;split;exact e.get _ _ h n;exact h,λa ps h=>by unfold cU;split;exact e.tb _ _ h;exact⟨#[],by rw[h];simp⟩⟩
theorem cr2(e:ah F H):ah (cU F H A) H:=⟨λa o h n=>by unfold cU at h;split at h;exact h;exact e.get _ _ h n,λa ps h=>by unfold cU at h;split at h;exact⟨#[],by rw[h];simp⟩;exact e.tb _ _ h⟩
theorem Mn{a:Addr}(h:a ∉ A):cU F H A a=F a:=by unfold cU;rw[if_neg h]
theorem cE7{a:Addr}(h:a∈A):cU F H A a=H a:=by unfold cU;rw[if_pos h]
theorem R.cU(e:ah F H)(r:R F H ds vs A):∀A',A ⊆ A'->R (L3.cU F H A') H (ds.map D.sh) vs []:=by
 induction r with
 | nil=>exact λ_ _=>.nil
 | az _ ih=>exact λA' h=>.az (ih A' h)
 | bl _ ih=>exact λA' h=>.bl (ih A' h)
 | int _ ih=>exact λA' h=>.int (ih A' h)
 | str _ ih=>exact λA' h=>.str (ih A' h)
 | shr h x _ i1 ih =>
  intro A' hA
  rw[cI,bV,mL x.pl]
  exact .shr (oX e _ _ h) (x.shared (oX e) (ah.refl _)) (ih A' hA)
 | own h f _ _ i1 i2 =>
  intro A' hA
  rw[cI,bV]
  exact .shr ((cE7 (hA (by simp))).trans h) (i1 A' λa ha=>hA (by simp[ha])) (i2 A' λa ha=>hA (by simp[ha]))
 | tup h _ _ i1 i2 =>
  intro A' hA
  rw[cI,i9]
  simpa using R.tup h (i1 A' λa ha=>hA (by simp[ha])) (i2 A' λa ha=>hA (by simp[ha]))
 | obj h l x _ i1 ih=>exact λA' hA=>.obj h l (x.shared (oX e) (ah.refl _)) (ih A' hA)
 | fz h x _ i1 ih=>exact λA' hA=>.fz (oX e _ _ h) (x.shared (oX e) (ah.refl _)) (ih A' hA)
 | bG h _ ih=>exact λA' hA=>.bG h (ih A' hA)
theorem R.lists(r:R F H ds vs A):∀a∈A,(∃ws,H a=some (.lst ws))/\F a=none:=by
 induction r with
 | nil=>simp
 | az _ ih=>exact ih
 | bl _ ih=>exact ih
 | int _ ih=>exact ih
 | str _ ih=>exact ih
 | shr h x _ i1 ih=>exact ih
 | own h f _ _ i1 i2 =>
  intro a ha
  rcases cw.mp ha with rfl | ha
  ·exact⟨⟨_,h⟩,f⟩
  ·exact(cM.mp ha).elim (i1 a) (i2 a)
 | tup h _ _ i1 i2=>exact λa ha=>(cM.mp ha).elim (i1 a) (i2 a)
 | obj h l x _ i1 ih=>exact ih
 | fz h x _ i1 ih=>exact ih
 | bG h _ ih=>exact ih
theorem R.Fy(r:R F H ds vs A)(hd:ds.all D.fr=true)(e:ah F' F):R F' H ds vs A:=by
 induction r with
 | nil=>exact .nil
 | az _ ih=>exact .az (ih (by simpa[D.fr]using hd))
 | bl _ ih=>exact .bl (ih (by simpa[D.fr]using hd))
 | int _ ih=>exact .int (ih (by simpa[D.fr]using hd))
 | str _ ih=>exact .str (ih (by simpa[D.fr]using hd))
 | shr h x _ i1 ih=>simp[fP]at hd
 | own h f _ _ i1 i2 =>
  rw[bA,fP,cK,kZ]at hd
  exact .own h (e.free f) (i1 hd.1) (i2 hd.2)
 | tup h _ _ i1 i2 =>
  rw[bA,oW,cK]at hd
  exact .tup h (i1 hd.1) (i2 hd.2)
 | obj h l x _ i1 ih=>simp[D.fr]at hd
 | fz h x _ i1 ih=>simp[D.fr]at hd
 | bG h _ ih=>exact .bG h (ih (by simpa[D.fr]using hd))
theorem R.inj(r:R F H ds vs A):∀{B:List Addr},R F H ds vs B->A=B:=by
 induction r with
 | nil=>exact λq=>q.mK.2.symm
 | az _ ih=>exact λq=>ih q.rv
 | bl _ ih=>exact λq=>ih q.rv
 | int _ ih=>exact λq=>ih q.rv
 | str _ ih=>exact λq=>ih q.rv
 | shr h x _ i1 ih=>exact λq=>ih q.rv
 | own h f _ _ i1 i2 =>
  intro B q
  obtain⟨p,ws,A,B',e,h',f',x',q',rfl⟩:=q.rv
  cases e
  rw[h]at h';cases h'
  rw[i1 x',i2 q']
 | tup h _ _ i1 i2 =>
  intro B q
  obtain⟨p,ws,A,B',e,h',x',q',rfl⟩:=q.rv
  cases e
  rw[h]at h';cases h'
  rw[i1 x',i2 q']
 | obj h l x _ i1 ih=>exact λq=>ih q.rv
 | fz h x _ i1 ih=>exact λq=>ih q.rv
 | bG h _ ih=>exact λq=>ih q.rv
theorem R.perm{ps qs:List (D × V)}(hp:ps.Perm qs):∀{A:List Addr},R F H (ps.map (·.1)) (ps.map (·.2)) A->∃A',R F H (qs.map (·.1)) (qs.map (·.2)) A'/\A.Perm A':=by
 induction hp with
 | nil=>exact λr=>⟨_,r,.refl _⟩
 | cons x _ ih =>
  intro A r
  obtain⟨v,cX,A1,A2,e,rfl,h1,h2⟩:=R.dq r
  obtain⟨rfl,rfl⟩:=nE e
  obtain⟨A',r',p⟩:=ih h2
  exact⟨A1++A',h1.cons r',p.append_left _⟩
 | swap x y l =>
  intro A r
  obtain⟨v,cX,A1,A2,e,rfl,h1,h2⟩:=R.dq r
  obtain⟨rfl,rfl⟩:=nE e
  obtain⟨v2,Mo,B1,B2,e,rfl,h3,h4⟩:=R.dq h2
  obtain⟨rfl,rfl⟩:=nE e
  exact⟨B1++(A1++B2),h3.cons (h1.cons h4),by rw[<-da,<- da];exact qQ.append_right _⟩
 | trans _ _ i1 i2 =>
  intro A r
  obtain⟨A',r',p⟩:=i1 r
  obtain⟨A2,r2,p2⟩:=i2 r'
  exact⟨A2,r2,p.trans p2⟩
def Full(F H:Hp):Prop:=∀a o,H a=some o->(∀ws,o≠.lst ws)->F a=some o
theorem Full.refl(H:Hp):Full H H:=λ_ _ h _=>h
theorem R.full(hF:Full F H)(hs:ah F H')(r:R F H ds vs A)(e:A=[]):R F H' ds vs []:=by
 induction r with
 | nil=>exact .nil
 | az _ ih=>exact .az (ih e)
 | bl _ ih=>exact .bl (ih e)
 | int _ ih=>exact .int (ih e)
 | str _ ih=>exact .str (ih e)
 | shr h x _ i1 ih=>exact .shr h (i1 rfl) (ih e)
 | own h f _ _ i1 i2=>cases e
 | tup h _ _ i1 i2 =>
  obtain⟨e1,e2⟩:=Bu.mp e
  exact R.tup (A:=[]) (B:=[]) (hs _ _ (hF _ _ h (by intro ws z;cases z))) (i1 e1) (i2 e2)
 | obj h l x _ i1 ih=>exact .obj (hs _ _ (hF _ _ h (by intro ws z;cases z))) l (i1 rfl) (ih e)
 | fz h x _ i1 ih=>exact .fz h (i1 rfl) (ih e)
 | bG h _ ih=>exact .bG (h.mono λa o e n t=>hs.get a o (hF a o e n) t) (ih e)
open Classical in
def snap(F H:Hp):Hp:=λa=>if(∃o,H a=some o/\∀ws,o≠.lst ws)then H a else F a
theorem uZ:Full (snap F H) H:=λa o h n=>by unfold snap;rw[if_pos ⟨o,h,n⟩];exact h
theorem rm(e:ah F H):ah F (snap F H):=⟨λa o h n=>by
 unfold snap;split
 ·exact e.get a o h n
 ·exact h,λa ps h=>by
 unfold snap;split
 ·exact e.tb a ps h
 ·exact⟨#[],by rw[h];simp⟩⟩
theorem b57(e:ah F H):ah (snap F H) H:=⟨λa o h n=>by
 unfold snap at h;split at h
 ·exact h
 ·exact e.get a o h n,λa ps h=>by
 unfold snap at h;split at h
 ·exact⟨#[],by rw[h];simp⟩
 ·exact e.tb a ps h⟩
theorem b40(e:ah F H){a:Addr}{ws:List V}(h:snap F H a=some (.lst ws)):F a=some (.lst ws):=by
 unfold snap at h;split at h
 ·rename_i z
  obtain⟨o,h1,h2⟩:=z
  rw[h]at h1;exact absurd (cT h1).symm (h2 ws)
 ·exact h
theorem b14{a:Addr}{ws:List V}(h:H a=some (.lst ws))(n:F a=none):snap F H a=none:=by
 unfold snap;split
 ·rename_i z
  obtain⟨o,h1,h2⟩:=z
  rw[h]at h1;exact absurd (cT h1).symm (h2 ws)
 ·exact n
end
end L3
namespace L3
open PySem L2
abbrev Dl:=List (Option D)
inductive RS(F H:Hp):Dl->St->List Addr->Prop
 | nil:RS F H [] [] []
 | az {δ σ o C}:RS F H δ σ C->RS F H (none::δ) (o::σ) C
 | gW {d v A δ σ C}:R F H [d] [v] A->RS F H δ σ C->RS F H (some d::δ) (some v::σ) (A++C)
theorem jc{A B:List Addr}:(A++B).Nodup↔A.Nodup/\B.Nodup/\∀a∈A,a ∉ B:=by
 rw[List.nodup_append]
 constructor
 ·rintro⟨h1,h2,h3⟩;exact⟨h1,h2,λa ha hb=>h3 a ha a hb rfl⟩
 ·rintro⟨h1,h2,h3⟩;exact⟨h1,h2,λa ha b hb e=>h3 a ha (e ▸ hb)⟩
section
variable{F F' H H':Hp}{d:D}{v:V}{δ:Dl}{σ:St}{A C:List Addr}{i:Nat}
theorem RS.length(r:RS F H δ σ C):δ.length=σ.length:=by induction r<;>simp_all
theorem RS.pick:∀{δ:Dl} {σ:St} {C:List Addr} {i:Nat},RS F H δ σ C->δ[i]?=some (some d)->∃v A C',σ[i]?=some (some v)/\R F H [d] [v] A/\RS F H (δ.set i none) σ C'/\C.Perm (A++C')
 | _,_,_,_,.nil,e=>by simp at e
 | _,_,_,i,.az r,e=>by
  cases i with
  | zero=>simp at e
  | succ i =>
   obtain⟨v,A,C',e1,h1,h2,p⟩:=RS.pick r (by simpa using e)
   exact⟨v,A,C',by simpa using e1,h1,.az h2,p⟩
 | _,_,_,i,.gW (A:=A0) (C:=C0) h r,e=>by
  cases i with
  | zero =>
   simp at e;subst e
   exact⟨_,A0,C0,rfl,h,.az r,.refl _⟩
  | succ i =>
   obtain⟨v,A,C',e1,h1,h2,p⟩:=RS.pick r (by simpa using e)
   refine⟨v,A,A0++C',by simpa using e1,h1,.gW h h2,(p.append_left A0).trans ?_⟩
   rw[<-da,<- da]
   exact qQ.append_right _
theorem RS.fill:∀{δ:Dl} {σ:St} {C:List Addr} {i:Nat},RS F H δ σ C->δ[i]?=some none->σ[i]?=some (some v)->R F H [d] [v] A->∃C',RS F H (δ.set i (some d)) σ C'/\C'.Perm (A++C)
 | _,_,_,_,.nil,e,_,_=>by simp at e
 | _,_,_,i,.az r,e,e2,h=>by
  cases i with
  | zero=>simp at e2;subst e2;exact⟨_,.gW h r,.refl _⟩
  | succ i =>
   obtain⟨C',h1,p⟩:=RS.fill r (by simpa using e) (by simpa using e2) h
   exact⟨C',.az h1,p⟩
 | _,_,_,i,.gW (A:=A0) (C:=C0) h0 r,e,e2,h=>by
  cases i with
  | zero=>simp at e
  | succ i =>
   obtain⟨C',h1,p⟩:=RS.fill r (by simpa using e) (by simpa using e2) h
   refine⟨A0++C',.gW h0 h1,(p.append_left A0).trans ?_⟩
   rw[<-da,<- da]
   exact qQ.append_right _
theorem RS.drop:∀{δ:Dl} {σ:St} {C:List Addr} (i:Nat),RS F H δ σ C->∃C',RS F H (δ.set i none) σ C'/\C'.Sublist C
 | _,_,_,_,.nil=>⟨_,.nil,.refl _⟩
 | _,_,_,i,.az r=>by
  cases i with
  | zero=>exact⟨_,.az r,.refl _⟩
  | succ i=>obtain⟨C',h,s⟩:=RS.drop i r;exact⟨C',.az h,s⟩
 | _,_,_,i,.gW (A:=A0) h0 r=>by
  cases i with
  | zero=>exact⟨_,.az r,List.sublist_append_right _ _⟩
  | succ i=>obtain⟨C',h,s⟩:=RS.drop i r;exact⟨_,.gW h0 h,(JR A0).append s⟩
theorem RS.zC:∀{δ:Dl} {σ:St} {C:List Addr} {i:Nat} (o:Option V),RS F H δ σ C->(δ[i]?=some none\/δ[i]?=none)->RS F H δ (σ.set i o) C
 | _,_,_,_,_,.nil,_=>.nil
 | _,_,_,i,_,.az r,e=>by
  cases i with
  | zero=>exact .az r
  | succ i=>exact .az (RS.zC _ r (by simpa using e))
 | _,_,_,i,_,.gW h0 r,e=>by
  cases i with
  | zero=>simp at e
  | succ i=>exact .gW h0 (RS.zC _ r (by simpa using e))
theorem RS.keep{W:List Addr}(hf:ah F F')(hb:ka W H H')(hl:lJ W H)(r:RS F H δ σ C)(hn:∀a∈C,F' a=none)(hd:∀a∈C,a ∉ W):RS F' H' δ σ C:=by
 induction r with
 | nil=>exact .nil
 | az _ ih=>exact .az (ih hn hd)
 | gW h _ ih=>exact .gW (h.keep hf hb hl (λa ha=>hn a (by simp[ha])) λa ha=>hd a (by simp[ha])) (ih (λa ha=>hn a (by simp[ha])) λa ha=>hd a (by simp[ha]))
theorem RS.lists(r:RS F H δ σ C):∀a∈C,(∃ws,H a=some (.lst ws))/\F a=none:=by
 induction r with
 | nil=>simp
 | az _ ih=>exact ih
 | gW h _ ih=>exact λa ha=>(cM.mp ha).elim (h.lists a) (ih a)
end
structure Bs where
 H0:Hp
 F0:Hp
inductive cS6(H0 F H:Hp)(σ:St)(δ:Dl)(ts:List (D × V)):Prop
 | mk (A C) (r:R F H (ts.map (·.1)) (ts.map (·.2)) A) (s:RS F H δ σ C) (nd:(A++C).Nodup) (fr:∀a∈A++C,H0 a=none)
structure av(B:Bs)(F H:Hp)(σ:St)(δ:Dl)(ts:List (D × V)):Prop where
 ext:ah F H
 b1:ah B.H0 H
 b2:ah B.F0 F
 b3:∀a ws,F a=some (.lst ws)->B.F0 a=some (.lst ws)\/B.H0 a=none
 own:cS6 B.H0 F H σ δ ts
section
variable{B:Bs}{F F' H H':Hp}{d:D}{v:V}{δ:Dl}{σ:St}{ts ps:List (D × V)}{A C W:List Addr}{i:Nat}{p:Addr}{xs ys:List D}{vs ws:List V}
theorem av.look(c:av B F H σ δ ts)(e:δ[i]?=some (some d)):∃v,σ[i]?=some (some v)/\S F H [d] [v]:=by
 obtain⟨A,C,r,s,nd,fr⟩:=c.own
 obtain⟨v,A',C',e1,h1,h2,p⟩:=s.pick e
 exact⟨v,e1,h1.s⟩
theorem av.len(c:av B F H σ δ ts):δ.length=σ.length:=let⟨_,_,_,s,_,_⟩:=c.own;s.length
theorem av.grow(c:av B F H σ δ ts)(h:ah H H'):av B F H' σ δ ts:=by
 obtain⟨A,C,r,s,nd,fr⟩:=c.own
 exact⟨c.ext.trans h,c.b1.trans h,c.b2,c.b3,A,C,r.grow (ah.refl _) h λa ha=>(r.lists a ha).2,s.keep (ah.refl _) (ka.same h) lJ.nil (λa ha=>(s.lists a ha).2) (by simp),nd,fr⟩
theorem av.pop(c:av B F H σ δ ((d,v)::ts)):av B F H σ δ ts:=by
 obtain⟨A,C,r,s,nd,fr⟩:=c.own
 obtain⟨w,cX,A1,A2,e,rfl,h1,h2⟩:=R.dq r
 obtain⟨rfl,rfl⟩:=nE e
 refine⟨c.ext,c.b1,c.b2,c.b3,A2,C,h2,s,?_,λa ha=>fr a (by simp at ha ⊢;exact .inr ha)⟩
 rw[da]at nd
 exact(jc.mp nd).2.1
theorem av.top(c:av B F H σ δ ((d,v)::ts)):S F H [d] [v]:=by
 obtain⟨A,C,r,s,nd,fr⟩:=c.own
 obtain⟨w,cX,A1,A2,e,rfl,h1,h2⟩:=R.dq r
 obtain⟨rfl,rfl⟩:=nE e
 exact h1.s
theorem av.pushS(c:av B F H σ δ ts)(s:S F H [d] [v])(pl:d.pl=true):av B F H σ δ ((d,v)::ts):=by
 obtain⟨A,C,r,q,nd,fr⟩:=c.own
 exact⟨c.ext,c.b1,c.b2,c.b3,A,C,(s.r (by simp[pl])).cons r,q,nd,fr⟩
theorem ah.upd{o:HO}(h:H p=none):ah H (upd H p o):=.of λb u e=>by rw[bt (eH e h)];exact e
theorem av.pack(c:av B F H σ δ (ps++ts))(hs:ah H H')(k:∀A1,R F H' (ps.map (·.1)) (ps.map (·.2)) A1->A1.Nodup->∃A',R F H' [d] [v] A'/\A'.Nodup/\∀a∈A',a∈A1\/H a=none):av B F H' σ δ ((d,v)::ts):=by
 obtain⟨A,C,r,s,nd,fr⟩:=c.own
 rw[eR,eR]at r
 obtain⟨v1,v2,A1,A2,e,rfl,h1,h2⟩:=R.split r
 have l1:(ps.map (·.2)).length=v1.length:=by rw[<-h1.length];simp
 obtain⟨rfl,rfl⟩:=yD e l1
 rw[da]at nd fr
 obtain⟨n1,n2,n3⟩:=jc.mp nd
 have g1:=h1.grow (ah.refl F) hs λa ha=>(h1.lists a ha).2
 have g2:=h2.grow (ah.refl F) hs λa ha=>(h2.lists a ha).2
 have gs:=s.keep (ah.refl F) (ka.same hs) lJ.nil (λa ha=>(s.lists a ha).2) (by simp)
 obtain⟨A',r',zD,sub⟩:=k A1 g1 n1
 refine⟨c.ext.trans hs,c.b1.trans hs,c.b2,c.b3,A'++A2,C,r'.cons g2,gs,?_,?_⟩
 ·rw[da]
  refine jc.mpr ⟨zD,n2,λa ha hb=>?_⟩
  rcases sub a ha with z | z
  ·exact n3 a z hb
  ·rcases cM.mp hb with y | y
   ·obtain⟨⟨_,q⟩,_⟩:=h2.lists a y;rw[z]at q;cases q
   ·obtain⟨⟨_,q⟩,_⟩:=s.lists a y;rw[z]at q;cases q
 ·intro a ha
  rw[da]at ha
  rcases cM.mp ha with y | y
  ·rcases sub a y with z | z
   ·exact fr a (by simp[z])
   ·exact c.b1.free z
  ·exact fr a (fq _ y)
theorem av.B8(c:av B F H σ δ ts)(hs:ah H H')(r:R F H' [d] [v] A)(nd:A.Nodup)(fr:∀a∈A,H a=none):av B F H' σ δ ((d,v)::ts) :=
 av.pack (ps:=[]) c hs λ_ _ _=>⟨A,r,nd,λa ha=>.inr (fr a ha)⟩
theorem av.nQ(c:av B F H σ δ ts)(hp:H p=none)(s:S F H xs vs)(pl:xs.all D.pl=true):av B F (upd H p (.lst vs)) σ δ ((.lst true xs,.ref p)::ts) :=
 c.B8 (ah.upd hp) (A:=[p]) (by simpa using R.own de (c.ext.free hp) ((s.r pl).shared (ah.refl _) (ah.upd hp)) .nil) (by simp) (by simp[hp])
theorem av.cS7(c:av B F H σ δ (ps++ts))(hp:H p=none):av B F (upd H p (.lst (ps.map (·.2)))) σ δ ((.lst true (ps.map (·.1)),.ref p)::ts):=by
 refine c.pack (ah.upd hp) λA1 r nd=>⟨p::A1,by simpa using R.own de (c.ext.free hp) r .nil,iZ.mpr ⟨λh=>?_,nd⟩,λa ha=>?_⟩
 ·obtain⟨A,C,r0,_,_,_⟩:=c.own
  rw[eR,eR]at r0
  obtain⟨v1,v2,B1,B2,e,rfl,h1,h2⟩:=R.split r0
  have l1:(ps.map (·.2)).length=v1.length:=by rw[<-h1.length];simp
  obtain⟨rfl,rfl⟩:=yD e l1
  have g1:=h1.grow (ah.refl F) (ah.upd (o:=.lst (ps.map (·.2))) hp) λa ha=>(h1.lists a ha).2
  have:A1=B1:=R.inj r g1
  subst this
  obtain⟨⟨_,q⟩,_⟩:=h1.lists p h
  rw[hp]at q;cases q
 ·rcases cw.mp ha with rfl | h
  ·exact .inr hp
  ·exact .inl h
theorem av.Mp(c:av B F H σ δ (ps++ts))(hp:H p=none):av B F (upd H p (.tup (ps.map (·.2)))) σ δ ((.tup (ps.map (·.1)),.ref p)::ts) :=
 c.pack (ah.upd hp) λA1 r nd=>⟨A1,by simpa using R.tup (F:=F) de r .nil,nd,λa ha=>.inl ha⟩
theorem av.perm(c:av B F H σ δ ps)(h:ps.Perm ts):av B F H σ δ ts:=by
 obtain⟨A,C,r,s,nd,fr⟩:=c.own
 obtain⟨A',r',p⟩:=r.perm h
 have pp:=p.append_right C
 exact⟨c.ext,c.b1,c.b2,c.b3,A',C,r',s,pp.nodup_iff.mp nd,λa ha=>fr a (pp.mem_iff.mpr ha)⟩
theorem av.move(c:av B F H σ δ ts)(e:δ[i]?=some (some d)):∃v,σ[i]?=some (some v)/\av B F H σ (δ.set i none) ((d,v)::ts):=by
 obtain⟨A,C,r,s,nd,fr⟩:=c.own
 obtain⟨v,A',C',e1,h1,h2,p⟩:=s.pick e
 have pp:(A++C).Perm ((A'++A)++C'):=by
  refine(p.append_left A).trans ?_
  rw[<-da]
  exact qQ.append_right _
 exact⟨v,e1,c.ext,c.b1,c.b2,c.b3,A'++A,C',h1.cons r,h2,pp.nodup_iff.mp nd,λa ha=>fr a (pp.mem_iff.mpr ha)⟩
theorem av.forget(c:av B F H σ δ ts)(i:Nat):av B F H σ (δ.set i none) ts:=by
 obtain⟨A,C,r,s,nd,fr⟩:=c.own
 obtain⟨C',h,sb⟩:=s.drop i
 exact⟨c.ext,c.b1,c.b2,c.b3,A,C',r,h,nd.sublist ((JR A).append sb),λa ha=>fr a (((JR A).append sb).subset ha)⟩
theorem av.fill(c:av B F H σ δ ((d,v)::ts))(e:δ[i]?=some none)(e2:σ[i]?=some (some v)):av B F H σ (δ.set i (some d)) ts:=by
 obtain⟨A,C,r,s,nd,fr⟩:=c.own
 obtain⟨w,cX,A1,A2,e',rfl,h1,h2⟩:=R.dq r
 obtain⟨rfl,rfl⟩:=nE e'
 obtain⟨C',s',p⟩:=s.fill e e2 h1
 have pp:((A1++A2)++C).Perm (A2++C'):=by
  refine((qQ (l₁:=A1) (l₂:=A2)).append_right C).trans ?_
  rw[da]
  exact(p.symm).append_left A2
 exact⟨c.ext,c.b1,c.b2,c.b3,A2,C',h2,s',pp.nodup_iff.mp nd,λa ha=>fr a (pp.mem_iff.mpr ha)⟩
theorem av.zC(c:av B F H σ δ ts)(o:Option V)(e:δ[i]?=some none\/δ[i]?=none):av B F H (σ.set i o) δ ts:=by
 obtain⟨A,C,r,s,nd,fr⟩:=c.own
 exact⟨c.ext,c.b1,c.b2,c.b3,A,C,r,s.zC o e,nd,fr⟩
theorem av.store(c:av B F H σ δ ((d,v)::ts))(i:Nat):av B F H (σ.set i (some v)) (δ.set i (some d)) ts:=by
 by_cases hi:i<δ.length
 ·have c1:=c.forget i
  have hs:i<σ.length:=by rw[<-c.len];exact hi
  have e:(δ.set i none)[i]?=some none:=by simp[hi]
  have c2:=(c1.zC (some v) (.inl e)).fill (i:=i) e (by simp[hs])
  rwa [yE]at c2
 ·have hs:¬ i<σ.length:=by rw[<-c.len];exact hi
  rw[WH (by omega),WH (by omega)]
  exact c.pop
theorem av.mut(c:av B F H σ δ (ps++ts))(e:δ[i]?=some (some (.lst true xs)))(e2:σ[i]?=some (some (.ref p)))
  (k:∀ws A1 A2,H p=some (.lst ws)->R F H xs ws A1->R F H (ps.map (·.1)) (ps.map (·.2)) A2->(A1++A2).Nodup->∃A',R F H ys vs A'/\A'.Nodup/\∀a∈A',a∈A1++A2) :
  av B F (upd H p (.lst vs)) σ (δ.set i (some (.lst true ys))) ts:=by
 have hi:i<δ.length:=(kr.mp e).1
 obtain⟨v,e3,c1⟩:=c.move e
 rw[e2]at e3;cases e3
 obtain⟨A,C,r,s,nd,fr⟩:=c1.own
 have r':R F H (([.lst true xs]++ps.map (·.1))++ts.map (·.1)) ((.ref p::ps.map (·.2))++ts.map (·.2)) A:=by simpa using r
 obtain⟨v1,v2,A1,A2,e4,rfl,h1,h2⟩:=R.split r'
 have l1:(V.ref p::ps.map (·.2)).length=v1.length:=by rw[<-h1.length];simp
 obtain⟨rfl,rfl⟩:=yD e4 l1
 obtain⟨p',B9,B1,B2,ep,hH,hF,hx,hr,rfl⟩:=h1.rv
 cases ep
 ·skip
  rw[da]at nd fr
  obtain⟨n1,n2,n3⟩:=jc.mp nd
  obtain⟨m1,m2⟩:=iZ.mp n1
  obtain⟨A',ra,nda,sub⟩:=k B9 B1 B2 hH hx hr m2
  have pA:p ∉ A':=λz=>m1 (sub _ z)
  have pR:p ∉ A2++C:=λz=>n3 p (by simp) z
  have but:ka [p] H (upd H p (.lst vs)):=⟨λa o q z _=>by rw[bt (by simpa using z)];exact q⟩
  have hl:lJ [p] H:=λa ha=>by rw[fu.mp ha];exact⟨_,hH⟩
  have g1:=ra.keep (ah.refl F) but hl (λa ha=>(ra.lists a ha).2) λa ha z=>pA (by rw[<-fu.mp z];exact ha)
  have g2:=h2.keep (ah.refl F) but hl (λa ha=>(h2.lists a ha).2) λa ha z=>pR (by rw[<-fu.mp z];exact iz _ ha)
  have gs:=s.keep (ah.refl F) but hl (λa ha=>(s.lists a ha).2) λa ha z=>pR (by rw[<-fu.mp z];exact fq _ ha)
  have fp:B.H0 p=none:=fr p (by simp)
  have b1:ah B.H0 (upd H p (.lst vs)):=⟨λa o q n=>by
   rw[bt (λz=>by rw[z,fp]at q;cases q)]
   exact c1.b1.get a o q n,λa ps q=>by
   rw[bt (λz=>by rw[z,fp]at q;cases q)]
   exact c1.b1.tb a ps q⟩
  have ext:ah F (upd H p (.lst vs)):=⟨λa o q n=>by
   rw[bt (λz=>by rw[z,hF]at q;cases q)]
   exact c1.ext.get a o q n,λa ps q=>by
   rw[bt (λz=>by rw[z,hF]at q;cases q)]
   exact c1.ext.tb a ps q⟩
  have c2:av B F (upd H p (.lst vs)) σ (δ.set i none) ((.lst true ys,.ref p)::ts):=by
   refine⟨ext,b1,c1.b2,c1.b3,(p::A')++A2,C,R.cons (by simpa using R.own de hF g1 .nil) g2,gs,?_,?_⟩
   ·rw[da]
    refine jc.mpr ⟨iZ.mpr ⟨pA,nda⟩,n2,λa ha hb=>?_⟩
    rcases cw.mp ha with rfl | ha
    ·exact pR hb
    ·exact n3 a (e5 _ (sub a ha)) hb
   ·intro a ha
    rw[da]at ha
    rcases cM.mp ha with z | z
    ·rcases cw.mp z with rfl | z
     ·exact fp
     ·exact fr a (iz _ (e5 _ (sub a z)))
    ·exact fr a (fq _ z)
  have c3:=c2.fill (i:=i) (by simp[hi]) e2
  rwa [yE]at c3
theorem av.zE(c:av B F H σ δ ((d,v)::ts)):∃F',ah F F'/\av B F' H σ δ ((d.sh,v)::ts):=by
 obtain⟨A,C,r,s,nd,fr⟩:=c.own
 obtain⟨w,cX,A1,A2,e',rfl,h1,h2⟩:=R.dq r
 obtain⟨rfl,rfl⟩:=nE e'
 rw[da]at nd fr
 obtain⟨n1,n2,n3⟩:=jc.mp nd
 have out:∀a∈A2++C,cU F H A1 a=F a:=λa ha=>Mn λz=>n3 a z ha
 have b3:∀a o,cU F H A1 a=some (.lst o)->B.F0 a=some (.lst o)\/B.H0 a=none:=λa o q=>by
  by_cases z:a∈A1
  ·exact .inr (fr a (iz _ z))
  ·rw[Mn z]at q;exact c.b3 a o q
 refine⟨cU F H A1,oX c.ext,cr2 c.ext,c.b1,c.b2.trans (oX c.ext),b3,A2,C,?_,?_,n2,λa ha=>fr a (fq _ ha)⟩
 ·have g1:=h1.cU c.ext A1 (λ_ h=>h)
  exact R.cons (A:=[]) g1 (h2.keep (oX c.ext) (ka.same (ah.refl H)) lJ.nil (λa ha=>by rw[out a (iz _ ha)];exact(h2.lists a ha).2) (by simp))
 ·exact s.keep (oX c.ext) (ka.same (ah.refl H)) lJ.nil (λa ha=>by rw[out a (fq _ ha)];exact(s.lists a ha).2) (by simp)
theorem av.freeze(c:av B F H σ δ ts)(e:δ[i]?=some (some d)):∃F',ah F F'/\av B F' H σ (δ.set i (some d.sh)) ts:=by
 have hi:i<δ.length:=(kr.mp e).1
 obtain⟨v,e2,c1⟩:=c.move e
 obtain⟨F',s,c2⟩:=c1.zE
 refine⟨F',s,?_⟩
 have c3:=c2.fill (i:=i) (by simp[hi]) e2
 rwa [yE]at c3
theorem av.rebase(c:av B F H σ δ ts):av ⟨B.H0,F⟩ F H σ δ ts:=⟨c.ext,c.b1,ah.refl _,λ_ _ q=>.inl q,c.own⟩
theorem av.cS9{F1:Hp}(c:av ⟨B.H0,F1⟩ F H σ δ ts)(h:ah B.F0 F1)(h3:∀a ws,F1 a=some (.lst ws)->B.F0 a=some (.lst ws)\/B.H0 a=none):av B F H σ δ ts :=
 ⟨c.ext,c.b1,h.trans c.b2,λa o q=>(c.b3 a o q).elim (h3 a o) .inr,c.own⟩
theorem av.call(c:av B F H σ δ ts)(hs:ah H H')(hf:ah F F')(he:ah F' H')(h3:∀a ws,F' a=some (.lst ws)->F a=some (.lst ws)\/H a=none)(r:R F' H' [d] [v] A)(nd:A.Nodup)(fr:∀a∈A,H a=none) :
  av B F' H' σ δ ((d,v)::ts):=by
 obtain⟨A0,C,r0,s,nd0,fr0⟩:=c.own
 have no:∀a,(∃ws,H a=some (.lst ws))/\F a=none->F' a=none:=λa zz=>by
  obtain⟨⟨ws,e⟩,n⟩:=zz
  cases q:F' a with
  | none=>rfl
  | some o =>
   have q2:H' a=some o:=by
    cases n:iK o with
    | true=>exact he.get a o q n
    | false =>
     obtain⟨ps,rfl⟩:=zw n
     obtain⟨m,z⟩:=he.tb a ps q
     rw[hs a _ e]at z
     cases z
   rw[hs a _ e]at q2
   cases q2
   rcases h3 a ws q with z | z
   ·rw[n]at z;cases z
   ·rw[e]at z;cases z
 refine⟨he,c.b1.trans hs,c.b2.trans hf,λa o q=>(h3 a o q).elim (c.b3 a o) λz=>.inr (c.b1.free z),A++A0,C,R.cons r (r0.grow hf hs λa ha=>no a (r0.lists a ha)),
  s.keep hf (ka.same hs) lJ.nil (λa ha=>no a (s.lists a ha)) (by simp),?_,?_⟩
 ·rw[da]
  refine jc.mpr ⟨nd,nd0,λa ha hb=>?_⟩
  have z:=fr a ha
  rcases cM.mp hb with y | y
  ·obtain⟨⟨_,q⟩,_⟩:=r0.lists a y;rw[z]at q;cases q
  ·obtain⟨⟨_,q⟩,_⟩:=s.lists a y;rw[z]at q;cases q
 ·intro a ha
  rw[da]at ha
  rcases cM.mp ha with y | y
  ·exact c.b1.free (fr a y)
  ·exact fr0 a y
theorem av.inS(c:av B F H σ δ ((d,v)::ts)):av B F H (some v::σ) (some d::δ) ts:=by
 obtain⟨A,C,r,s,nd,fr⟩:=c.own
 obtain⟨w,cX,A1,A2,e',rfl,h1,h2⟩:=R.dq r
 obtain⟨rfl,rfl⟩:=nE e'
 have pp:((A1++A2)++C).Perm (A2++(A1++C)):=by
  rw[<-da];exact qQ.append_right C
 exact⟨c.ext,c.b1,c.b2,c.b3,A2,A1++C,h2,.gW h1 s,pp.nodup_iff.mp nd,λa ha=>fr a (pp.mem_iff.mpr ha)⟩
theorem av.cT3{w:V}(c:av B F H (some w::σ) (some d::δ) ts):av B F H σ δ ((d,w)::ts):=by
 obtain⟨A,C,r,s,nd,fr⟩:=c.own
 cases s with
 | @gW _ _ A1 _ _ C1 h1 s =>
  have pp:(A++(A1++C1)).Perm ((A1++A)++C1):=by
   rw[<-da];exact qQ.append_right C1
  exact⟨c.ext,c.b1,c.b2,c.b3,A1++A,C1,R.cons h1 r,s,pp.nodup_iff.mp nd,λa ha=>fr a (pp.mem_iff.mpr ha)⟩
theorem av.Mq(c:av B F H σ δ ((d,v)::(.lst true xs,.ref p)::ts))(hp:H p=some (.lst ws)):av B F (upd H p (.lst (ws++[v]))) σ δ ((.lst true (xs++[d]),.ref p)::ts):=by
 have c1:=(c.perm (JS _ _ _)).inS
 refine(av.mut (ps:=[(d,v)]) (i:=0) (ys:=xs++[d]) (vs:=ws++[v]) c1 rfl rfl λeB A1 A2 h r1 r2 nd=>?_).cT3
 rw[hp]at h;cases h
 exact⟨A1++A2,r1.append r2,nd,λa ha=>ha⟩
theorem av.app(c:av B F H σ δ ((d,v)::ts))(e:δ[i]?=some (some (.lst true xs)))(e2:σ[i]?=some (some (.ref p)))(hp:H p=some (.lst ws)) :
  av B F (upd H p (.lst (ws++[v]))) σ (δ.set i (some (.lst true (xs++[d])))) ts :=
 av.mut (ps:=[(d,v)]) c e e2 λeB A1 A2 h r1 r2 nd=>by
  rw[hp]at h;cases h
  exact⟨A1++A2,r1.append r2,nd,λa ha=>ha⟩
theorem R.Mr:∀{xs:List D} {ws:List V} {A1 A2:List Addr} (j:Nat),R F H xs ws A1->R F H [d] [v] A2->(A1++A2).Nodup->∃A',R F H (xs.set j d) (ws.set j v) A'/\A'.Nodup/\∀a∈A',a∈A1++A2
 | [],_,A1,A2,j,r,q,nd=>by cases r;exact⟨[],.nil,by simp,by simp⟩
 | x::xs,_,A1,A2,j,r,q,nd=>by
  obtain⟨w,eB,B1,B2,rfl,rfl,h1,h2⟩:=r.dq
  rw[da]at nd
  obtain⟨n1,n2,n3⟩:=jc.mp nd
  cases j with
  | zero =>
   refine⟨A2++B2,q.cons h2,(qQ (l₁:=B2) (l₂:=A2)).nodup_iff.mp n2,λa ha=>?_⟩
   simp only[cM]at ha ⊢
   rcases ha with z | z
   ·exact .inr z
   ·exact .inl (.inr z)
  | succ j =>
   obtain⟨A',r',zD,sub⟩:=R.Mr j h2 q n2
   refine⟨B1++A',h1.cons r',jc.mpr ⟨n1,zD,λa ha hb=>n3 a ha (sub a hb)⟩,λa ha=>?_⟩
   rcases cM.mp ha with z | z
   ·simp[z]
   ·have:=sub a z
    simp only[cM]at this ⊢
    rcases this with z | z
    ·exact .inl (.inr z)
    ·exact .inr z
theorem av.cT4(c:av B F H σ δ ((d,v)::ts))(e:δ[i]?=some (some (.lst true xs)))(e2:σ[i]?=some (some (.ref p)))(hp:H p=some (.lst ws))(j:Nat) :
  av B F (upd H p (.lst (ws.set j v))) σ (δ.set i (some (.lst true (xs.set j d)))) ts :=
 av.mut (ps:=[(d,v)]) c e e2 λeB A1 A2 h r1 r2 nd=>by
  rw[hp]at h;cases h
  exact r1.Mr j r2 nd
theorem av.ownAt(c:av B F H σ δ ts)(e:δ[i]?=some (some (.lst true xs))):∃p ws,σ[i]?=some (some (.ref p))/\H p=some (.lst ws)/\xs.length=ws.length:=by
 obtain⟨v,e1,s⟩:=c.look e
 cases s with
 | own h x _=>exact⟨_,_,e1,h,x.length⟩
theorem RS.start{ds:List D}{vs:List V}(r:R F H ds vs [])(n:Nat):RS F H (ds.map some++aX n none) (vs.map some++aX n none) []:=by
 have z:∀n,RS F H (aX n none) (aX n none) []:=λn=>by
  induction n with
  | zero=>exact .nil
  | succ n ih=>exact .az ih
 have:∀(ds:List D) (vs:List V),R F H ds vs []->RS F H (ds.map some++aX n none) (vs.map some++aX n none) []:=by
  intro ds
  induction ds with
  | nil=>intro vs r;cases r;exact z n
  | cons d ds ih =>
   intro vs r
   obtain⟨v,cX,A1,A2,rfl,e,h1,h2⟩:=r.dq
   obtain⟨rfl,rfl⟩:=Bu.mp e.symm
   exact .gW (A:=[]) h1 (ih _ h2)
 exact this ds vs r
theorem av.start{ds:List D}{vs:List V}(e:ah F H)(r:R F H ds vs [])(n:Nat):av ⟨H,F⟩ F H (vs.map some++aX n none) (ds.map some++aX n none) [] :=
 ⟨e,ah.refl _,ah.refl _,λ_ _ q=>.inl q,[],[],.nil,RS.start r n,by simp,by simp⟩
theorem av.snap(c:av B F H σ δ ts):av B (L3.snap F H) H σ δ ts:=by
 obtain⟨A,C,r,s,nd,fr⟩:=c.own
 have no:∀a,(∃ws,H a=some (.lst ws))/\F a=none->L3.snap F H a=none:=λa ⟨⟨ws,e⟩,n⟩=>b14 e n
 exact⟨b57 c.ext,c.b1,c.b2.trans (rm c.ext),λa ws q=>c.b3 a ws (b40 c.ext q),A,C,r.grow (rm c.ext) (ah.refl _) λa ha=>no a (r.lists a ha),
  s.keep (rm c.ext) (ka.same (ah.refl _)) lJ.nil (λa ha=>no a (s.lists a ha)) (by simp),nd,fr⟩
end
end L3
namespace L3
open PySem L2 PySem.Spec PyProof.Rows
abbrev aJ:=Dl->(D->Dl->Prop)->Prop
abbrev fj:=Dl->(Bool->Dl->Prop)->Prop
abbrev cP:=Dl->(List D->Dl->Prop)->Prop
structure XC where
 C:Addr
 att:Option (Str × Int)
instance:Coe Addr XC:=⟨λC=>⟨C,none⟩⟩
def XD(H:Hp)(c:XC)(dc:Option Addr):Prop:=match c.att with
 | none=>dc=none
 | some z=>∃dx,dc=some dx/\H dx=some (.ext (Mj z.1 z.2 dx))
structure rn where
 nx:Dl->Prop
 rt:D->Prop
 bk:Dl->Prop:=λ_=>False
 ct:Dl->Prop:=λ_=>False
 xc:XC->Dl->Prop:=λ_ _=>False
 xr:XC->Dl->Prop:=λ_ _=>False
abbrev cE:=rn->Dl->Prop
inductive lE(t:aJ)(σ:L2.St)(H:Hp)(Q:VK):Prop
 | mk (B F δ ts Qd) (c:av B F H σ δ ts) (q:t δ Qd) (k:∀d ai v F' H',Qd d ai->ah F F'->ah H H'->av B F' H' σ ai ((d,v)::ts)->Q v H')
inductive lB(t:aJ)(σ:L2.St)(H:Hp)(Q:VK):Prop
 | mk (B F δ ts Qd) (c:av B F H σ δ ts) (q:t δ Qd) (k:∀d ai v F' H',Qd d ai->ah F F'->ah H H'->av B F' H' σ ai ts->S F' H' [d] [v]->Q v H')
inductive lT(t:fj)(σ:L2.St)(H:Hp)(Q:Bool->Hp->Prop):Prop
 | mk (B F δ ts Qd) (c:av B F H σ δ ts) (q:t δ Qd) (k:∀b ai F' H',Qd b ai->ah F F'->ah H H'->av B F' H' σ ai ts->Q b H')
inductive lA(t:cP)(σ:L2.St)(H:Hp)(Q:List V->Hp->Prop):Prop
 | mk (B F δ ts Qd) (c:av B F H σ δ ts) (q:t δ Qd) (k:∀ds ai vs F' H',Qd ds ai->ah F F'->ah H H'->av B F' H' σ ai ts->S F' H' ds vs->Q vs H')
inductive lO(t:cP)(σ:L2.St)(H:Hp)(Q:List V->Hp->Prop):Prop
 | mk (B F δ ts Qd) (c:av B F H σ δ ts) (q:t δ Qd) (k:∀(ps:List (D × V)) ai F' H',Qd (ps.map (·.1)) ai->ah F F'->ah H H'->av B F' H' σ ai (ps++ts)->Q (ps.map (·.2)) H')
def XL(X:Cx)(B:Bs)(Dd:rn):Prop :=
 (∀c dc ai pins aN F' H' s' a T,Dd.xc c ai->av B F' H' aN ai []->Inv X pins aN H' s'->XD H' c dc->Ξ s'.heap a T (.ref c.C) dc->Apart X pins H' a->Apart X pins H' T->X.xe (.ref a) s') /\
 (∀c dc ai pins aN F' H' s' a,Dd.xr c ai->av B F' H' aN ai []->Inv X pins aN H' s'->XD H' c dc->Φ s'.heap a (.ref c.C) dc->Apart X pins H' a->X.xe (.ref a) s')
theorem XL.none{X:Cx}{B:Bs}{Dd:rn}(h1:∀C δ,¬ Dd.xc C δ)(h2:∀C δ,¬ Dd.xr C δ):XL X B Dd:=⟨λC _ δ _ _ _ _ _ _ _ h=>absurd h (h1 C δ),λC _ δ _ _ _ _ _ _ h=>absurd h (h2 C δ)⟩
structure LK(X:Cx)(B:Bs)(Dd:rn)(D:Ends):Prop where
 k1:∀ai aN F' H',Dd.nx ai->av B F' H' aN ai []->D.nx aN H'
 k2:∀d v ai aN F' H',Dd.rt d->av B F' H' aN ai [(d,v)]->D.rt v H'
 k3:∀ai aN F' H',Dd.bk ai->av B F' H' aN ai []->D.bk aN H'
 k4:(∀ai aN F' H',Dd.ct ai->av B F' H' aN ai []->D.ct aN H')/\XL X B Dd
inductive lS(X:Cx)(t:cE)(D:Ends)(σ:L2.St)(H:Hp):Prop
 | mk (B F δ Dd) (c:av B F H σ δ []) (q:t Dd δ) (k:LK X B Dd D)
section
variable{X:Cx}{e a b c:Expr}{es:List Expr}{pos:Pos}{st:Stmt}{kC:List Stmt}
theorem dr{t t':TE}(h:PE X e t)(m:∀σ H Q,t' σ H Q->t σ H Q):PE X e t':=λpins s σ H Q I q=>h pins s σ H Q I (m σ H Q q)
theorem Fz{t t':TT}(h:PT X e t)(m:∀σ H Q,t' σ H Q->t σ H Q):PT X e t':=λpins s σ H Q I q=>h pins s σ H Q I (m σ H Q q)
theorem Ms{t t':TT}(h:PW X e t)(m:∀σ H Q,t' σ H Q->t σ H Q):PW X e t':=λwh pins s σ H Q I q=>h wh pins s σ H Q I (m σ H Q q)
theorem zF{t t':TA}(h:PA X es t)(m:∀σ H Q,t' σ H Q->t σ H Q):PA X es t':=λp pins s σ H Q I q=>h p pins s σ H Q I (m σ H Q q)
theorem ig{t t':TS}(h:PS X st t)(m:∀D σ H,t' D σ H->t D σ H):PS X st t':=λpins s σ H D I q=>h pins s σ H D I (m D σ H q)
theorem zG{t t':TS}(h:PSs X kC t)(m:∀D σ H,t' D σ H->t D σ H):PSs X kC t':=λpins s σ H D I q=>h pins s σ H D I (m D σ H q)
variable{t u ta tb tc:aJ}
theorem ae(h:PE X e (lE t)):PE X e (lB t):=dr h λσ H Q zq=>by
 obtain⟨B,F,δ,ts,Qd,c,q,k⟩:=zq
 exact⟨B,F,δ,ts,Qd,c,q,λd ai v F' H' hd sf sh c'=>k d ai v F' H' hd sf sh c'.pop c'.top⟩
def oY(t:aJ):aJ:=λδ Q=>t δ λd ai=>d.pl=true/\Q d ai
theorem bX(h:PE X e (lB t)):PE X e (lE (oY t)):=dr h λσ H Q zq=>by
 obtain⟨B,F,δ,ts,Qd,c,q,k⟩:=zq
 exact⟨B,F,δ,ts,_,c,q,λd ai v F' H' hd sf sh c' s=>k d ai v F' H' hd.2 sf sh (c'.pushS s hd.1)⟩
def nR(i:Nat):aJ:=λδ Q=>match δ[i]? with
 | some (some d)=>Q d δ
 | _=>False
def nS(i:Nat):aJ:=λδ Q=>match δ[i]? with
 | some (some d)=>Q d (δ.set i none)
 | _=>False
theorem cv5{i:Nat}{δ:Dl}{Q:D->Dl->Prop}(h:nR i δ Q):∃d,δ[i]?=some (some d)/\Q d δ:=by
 unfold nR at h
 split at h
 ·rename_i d e;exact⟨d,e,h⟩
 ·exact h.elim
theorem cb2{i:Nat}{δ:Dl}{Q:D->Dl->Prop}(h:nS i δ Q):∃d,δ[i]?=some (some d)/\Q d (δ.set i none):=by
 unfold nS at h
 split at h
 ·rename_i d e;exact⟨d,e,h⟩
 ·exact h.elim
def dC(d:D):aJ:=λδ Q=>Q d δ
theorem bv(i:Nat){x:Str}(hN:X.N[i]?=some x:=by rfl)(hv:jY X.env.scope x:=by first | exact aq rfl | exact bu (aq rfl) | exact bu (bu rfl))(hd:(x==("__debug__":Str))=false:=by decide)
  (cC:(x==("__classdict__":Str))=false:=by decide):PE X (.Name x pos) (lB (nR i)):=dr (mB hN hv hd cC) λσ H Q zq=>by
 obtain⟨B,F,δ,ts,Qd,c,q,k⟩:=zq
 obtain⟨d,e,q⟩:=cv5 q
 obtain⟨v,e1,s⟩:=c.look e
 exact⟨v,e1,k d δ v F H q (ah.refl _) (ah.refl _) c s⟩
theorem em(i:Nat){x:Str}(hN:X.N[i]?=some x:=by rfl)(hv:jY X.env.scope x:=by first | exact aq rfl | exact bu (aq rfl) | exact bu (bu rfl))(hd:(x==("__debug__":Str))=false:=by decide)
  (cC:(x==("__classdict__":Str))=false:=by decide):PE X (.Name x pos) (lE (nS i)):=dr (mB hN hv hd cC) λσ H Q zq=>by
 obtain⟨B,F,δ,ts,Qd,c,q,k⟩:=zq
 obtain⟨d,e,q⟩:=cb2 q
 obtain⟨v,e1,c'⟩:=c.move e
 exact⟨v,e1,k d _ v F H q (ah.refl _) (ah.refl _) c'⟩
theorem FA{B:Bs}{F H:Hp}{σ:L2.St}{δ:Dl}{ts:List (D × V)}{Qd:D->Dl->Prop}{Q:VK}{d:D}{v:V}(c:av B F H σ δ ts)(q:Qd d δ)(s:S F H [d] [v])(p:d.pl=true)
  (k:∀d ai v F' H',Qd d ai->ah F F'->ah H H'->av B F' H' σ ai ((d,v)::ts)->Q v H'):Q v H:=k d δ v F H q (ah.refl _) (ah.refl _) (c.pushS s p)
theorem aw{i j}:PE X (.Constant (.int i) j pos) (lE (dC (.int i))):=dr KA λσ H Q ⟨B,F,δ,ts,Qd,c,q,k⟩=>FA c q (.int .nil) rfl k
theorem gg{i j}:PE X (.Constant (.bool i) j pos) (lE (dC (.bl i))):=dr Xg λσ H Q ⟨B,F,δ,ts,Qd,c,q,k⟩=>FA c q (.bl .nil) rfl k
theorem u0{j}:PE X (.Constant .none j pos) (lE (dC .az)):=dr Xh λσ H Q ⟨B,F,δ,ts,Qd,c,q,k⟩=>FA c q (.az .nil) rfl k
abbrev dh:=D->D->(D->Prop)->Prop
def Ca(r:R2)(rd:dh):Prop:=∀{B:Bs} {F H:Hp} {σ:L2.St} {δ:Dl} {ts:List (D × V)} {x y:D} {v w:V} {Q:VK} {Qd:D->Prop},av B F H σ δ ts->S F H [x] [v]->S F H [y] [w]->rd x y Qd ->
 (∀d z H',Qd d->ah H H'->av B F H' σ δ ((d,z)::ts)->Q z H')->r v w H Q
def bY(X:Cx)(f:Value->Value->Sem Value)(rd:dh):Prop:=∃r,cV X f r/\Ca r rd
theorem bY.or{f:Value->Value->Sem Value}{r1 r2:dh}(h1:bY X f r1)(h2:bY X f r2):bY X f λx y Q=>r1 x y Q\/r2 x y Q:=by
 obtain⟨q1,a1,b1⟩:=h1
 obtain⟨q2,a2,b2⟩:=h2
 refine⟨_,a1.or a2,λ{B F H σ δ ts x y v w Q Qd} c sx sy h k=>?_⟩
 rcases h with h | h
 ·exact .inl (b1 c sx sy h k)
 ·exact .inr (b2 c sx sy h k)
theorem bY.imp{f:Value->Value->Sem Value}{r1 r2:dh}(h1:bY X f r1)(h:∀x y Q,r2 x y Q->r1 x y Q):bY X f r2:=by
 obtain⟨q1,a1,b1⟩:=h1
 exact⟨q1,a1,λ{B F H σ δ ts x y v w Q Qd} c sx sy h2 k=>b1 c sx sy (h _ _ _ h2) k⟩
def mM(rd:dh)(ta tb:aJ):aJ:=λδ Q=>ta δ λx ao=>tb ao λy bg=>rd x y λd=>Q d bg
theorem FC{r:R2}{rd:dh}(hl:Ca r rd):∀σ H Q,lE (mM rd ta tb) σ H Q->y9 r (lB ta) (lB tb) σ H Q:=λσ H Q ⟨B,F,δ,ts,Qd,c,q,k⟩ =>
 ⟨B,F,δ,ts,_,c,q,λx ao v F1 H1 q1 f1 h1 c1 s1=>⟨B,F1,ao,ts,_,c1,q1,λy bg w F2 H2 q2 f2 h2 c2 s2 =>
  hl c2 (s1.mono f2 h2) s2 q2 λd z H' hd hs c3=>k d bg z F2 H' hd (f1.trans f2) ((h1.trans h2).trans hs) c3⟩⟩
theorem aE{op:Operator}{rd:dh}(ho:bY X (binaryOp op) rd)(ha:PE X a (lB ta))(hb:PE X b (lB tb)):PE X (.BinOp a op b pos) (lE (mM rd ta tb)):=by
 obtain⟨r,h1,h2⟩:=ho
 exact dr (KU h1 ha hb) (FC h2)
theorem u4{op:CmpOp}{rd:dh}(ho:bY X (compareOp op) rd)(ha:PE X a (lB ta))(hb:PE X b (lB tb))(hm:behindInMarks op b=false):PE X (.Compare a [op] [b] pos) (lE (mM rd ta tb)):=by
 obtain⟨r,h1,h2⟩:=ho
 exact dr (Yt h1 ha hb hm) (FC h2)
def dT(t:aJ):fj:=λδ Q=>t δ λd ai=>∃k,d=.bl k/\Q k ai
theorem cb5{te:TE}(h:∀σ H Q,lE t σ H Q->te σ H Q):∀σ H Q,lT (dT t) σ H Q->KY te σ H Q:=λσ H Q zz=>by
 obtain⟨B,F,δ,ts,Qd,c,q,k⟩:=zz
 refine h σ H _ ⟨B,F,δ,ts,_,c,q,λd ai v F' H' hd sf sh c'=>?_⟩
 obtain⟨b,rfl,qb⟩:=hd
 have s:=c'.top
 cases s with
 | bl _=>exact⟨b,rfl,k b ai F' H' qb sf sh c'.pop⟩
theorem bK{op:CmpOp}{rd:dh}(ho:bY X (compareOp op) rd)(ha:PE X a (lB ta))(hb:PE X b (lB tb))(hm:behindInMarks op b=false):PT X (.Compare a [op] [b] pos) (lT (dT (mM rd ta tb))):=by
 obtain⟨r,h1,h2⟩:=ho
 exact Fz (Yu h1 ha hb hm) (cb5 (FC h2))
def oZ(r r':dh)(ta tb tc:aJ):aJ:=λδ Q=>ta δ λx ao=>tb ao λy bg=>r x y λd=>∃k,d=.bl k/\if k=true then tc bg λz gX=>r' y z λd'=>Q d' gX else Q (.bl false) bg
theorem fQ(h:PE X e (lB t))(he:∀whole,isTrue e X.env whole=(do let v<-whole;standAt e.pos;holding [v] (truthy v)):=by intro _;rfl):PT X e (lT (dT t)) :=
 Fz (Xj h he) λσ H Q zq=>by
 obtain⟨B,F,δ,ts,Qd,c,q,k⟩:=zq
 exact⟨B,F,δ,ts,_,c,q,λd ai v F' H' hd sf sh c' s=>by
  obtain⟨b,rfl,qb⟩:=hd
  cases s with
  | bl _=>exact⟨b,rfl,k b ai F' H' qb sf sh c'⟩⟩
variable{tA tB:fj}{rest:List Expr}
def rp(t u:fj):fj:=λδ Q=>t δ λc ao=>if c=true then u ao Q else Q false ao
def rq(t u:fj):fj:=λδ Q=>t δ λc ao=>if c=true then Q true ao else u ao Q
def rz(t:fj):fj:=λδ Q=>t δ λc ao=>Q (!c) ao
theorem FD(ha:PT X a (lT tA))(hb:PW X (.BoolOp .And (b::rest) pos) (lT tB)):PW X (.BoolOp .And (a::b::rest) pos) (lT (rp tA tB)) :=
 Ms (Xn ha hb) λσ H Q zq=>by
 obtain⟨B,F,δ,ts,Qd,c,q,k⟩:=zq
 exact⟨B,F,δ,ts,_,c,q,λb ao F1 H1 q1 f1 h1 c1=>by
  cases b with
  | true=>exact oS ⟨B,F1,ao,ts,Qd,c1,by simpa using q1,λb ai F' H' hd sf sh c'=>k b ai F' H' hd (f1.trans sf) (h1.trans sh) c'⟩
  | false=>exact oR (k false ao F1 H1 (by simpa using q1) f1 h1 c1)⟩
theorem mN(ha:PT X a (lT tA))(hb:PW X (.BoolOp .Or (b::rest) pos) (lT tB)):PW X (.BoolOp .Or (a::b::rest) pos) (lT (rq tA tB)) :=
 Ms (Xo ha hb) λσ H Q zq=>by
 obtain⟨B,F,δ,ts,Qd,c,q,k⟩:=zq
 exact⟨B,F,δ,ts,_,c,q,λb ao F1 H1 q1 f1 h1 c1=>by
  cases b with
  | true=>exact oS (k true ao F1 H1 (by simpa using q1) f1 h1 c1)
  | false=>exact oR ⟨B,F1,ao,ts,Qd,c1,by simpa using q1,λb ai F' H' hd sf sh c'=>k b ai F' H' hd (f1.trans sf) (h1.trans sh) c'⟩⟩
theorem iN(ha:PT X a (lT tA)):PT X (.UnaryOp .Not a pos) (lT (rz tA)) :=
 Fz (Xp ha) λσ H Q zq=>by
 obtain⟨B,F,δ,ts,Qd,c,q,k⟩:=zq
 exact⟨B,F,δ,ts,_,c,q,λb ao F1 H1 q1 f1 h1 c1=>k _ ao F1 H1 q1 f1 h1 c1⟩
def rA(ta tb:aJ):aJ:=λδ Q=>ta δ λx ao=>∃c,x=.bl c/\if c=true then tb ao Q else Q (.bl false) ao
def rB(ta:aJ):aJ:=λδ Q=>ta δ λx ao=>∃c,x=.bl c/\Q (.bl (!c)) ao
theorem pd(ha:PE X a (lB ta))(hb:PE X (.BoolOp .And (b::rest) pos) (lE tb)):PE X (.BoolOp .And (a::b::rest) pos) (lE (rA ta tb)) :=
 dr (Xs ha hb) λσ H Q zq=>by
 obtain⟨B,F,δ,ts,Qd,c,q,k⟩:=zq
 exact⟨B,F,δ,ts,_,c,q,λd ao v F1 H1 q1 f1 h1 c1 s1=>by
  obtain⟨b,rfl,qb⟩:=q1
  cases s1 with
  | bl _ =>
   refine⟨b,rfl,?_⟩
   cases b with
   | true=>exact oS ⟨B,F1,ao,ts,Qd,c1,by simpa using qb,λd ai v F' H' hd sf sh c'=>k d ai v F' H' hd (f1.trans sf) (h1.trans sh) c'⟩
   | false=>exact oR (k _ ao _ F1 H1 (by simpa using qb) f1 h1 (c1.pushS (.bl .nil) rfl))⟩
theorem FE(ha:PE X a (lB ta)):PE X (.UnaryOp .Not a pos) (lE (rB ta)) :=
 dr (Xt ha) λσ H Q zq=>by
 obtain⟨B,F,δ,ts,Qd,c,q,k⟩:=zq
 exact⟨B,F,δ,ts,_,c,q,λd ao v F1 H1 q1 f1 h1 c1 s1=>by
  obtain⟨b,rfl,qb⟩:=q1
  cases s1 with
  | bl _=>exact⟨b,rfl,k _ ao _ F1 H1 qb f1 h1 (c1.pushS (.bl .nil) rfl)⟩⟩
def rC(t:fj)(ta tb:aJ):aJ:=λδ Q=>t δ λc ao=>if c=true then ta ao Q else tb ao Q
theorem FF(hc:PT X c (lT tA))(ha:PE X a (lE ta))(hb:PE X b (lE tb)):PE X (.IfExp c a b pos) (lE (rC tA ta tb)) :=
 dr (Xv hc ha hb) λσ H Q zq=>by
 obtain⟨B,F,δ,ts,Qd,c,q,k⟩:=zq
 exact⟨B,F,δ,ts,_,c,q,λb ao F1 H1 q1 f1 h1 c1=>by
  cases b with
  | true=>exact oS ⟨B,F1,ao,ts,Qd,c1,by simpa using q1,λd ai v F' H' hd sf sh c'=>k d ai v F' H' hd (f1.trans sf) (h1.trans sh) c'⟩
  | false=>exact oR ⟨B,F1,ao,ts,Qd,c1,by simpa using q1,λd ai v F' H' hd sf sh c'=>k d ai v F' H' hd (f1.trans sf) (h1.trans sh) c'⟩⟩
def pf:cP:=λδ Q=>Q [] δ
def ph(t:aJ)(r:cP):cP:=λδ Q=>t δ λd ao=>r ao λds bg=>Q (d::ds) bg
theorem ak:PA X [] (lA pf):=zF oJ λσ H Q ⟨B,F,δ,ts,Qd,c,q,k⟩=>k [] δ [] F H q (ah.refl _) (ah.refl _) c .nil
variable{tr:cP}
theorem af(ha:PE X e (lB t))(hr:PA X es (lA tr))(hs:starEach (e::es) X.env=(false,eval e X.env)::starEach es X.env:=by rfl):PA X (e::es) (lA (ph t tr)) :=
 zF (jy ha hr hs) λσ H Q zq=>by
 obtain⟨B,F,δ,ts,Qd,c,q,k⟩:=zq
 exact⟨B,F,δ,ts,_,c,q,λd ao v F1 H1 q1 f1 h1 c1 s1=>⟨B,F1,ao,ts,_,c1,q1,λds bg vs F2 H2 q2 f2 h2 c2 s2 =>
  k (d::ds) bg (v::vs) F2 H2 q2 (f1.trans f2) (h1.trans h2) c2 ((s1.mono f2 h2).cons s2)⟩⟩
theorem cQ:PA X [] (lO pf):=zF oJ λσ H Q ⟨B,F,δ,ts,Qd,c,q,k⟩=>k [] δ F H q (ah.refl _) (ah.refl _) c
theorem eJ(ha:PE X e (lE t))(hr:PA X es (lO tr))(hs:starEach (e::es) X.env=(false,eval e X.env)::starEach es X.env:=by rfl):PA X (e::es) (lO (ph t tr)) :=
 zF (jy ha hr hs) λσ H Q zq=>by
 obtain⟨B,F,δ,ts,Qd,c,q,k⟩:=zq
 exact⟨B,F,δ,ts,_,c,q,λd ao v F1 H1 q1 f1 h1 c1=>⟨B,F1,ao,(d,v)::ts,_,c1,q1,λps bg F2 H2 q2 f2 h2 c2 =>
  k ((d,v)::ps) bg F2 H2 q2 (f1.trans f2) (h1.trans h2) (c2.perm (List.perm_middle))⟩⟩
def pj(t:cP):aJ:=λδ Q=>t δ λds ai=>ds.length<=sizeLine/\Q (.lst true ds) ai
def rD(t:cP):aJ:=λδ Q=>t δ λds ai=>ds.length<=sizeLine/\Q (.tup ds) ai
theorem dA(h:PA X es (lO tr)):PE X (.List es pos) (lE (pj tr)) :=
 dr (K6 h) λσ H Q zq=>by
 obtain⟨B,F,δ,ts,Qd,c,q,k⟩:=zq
 exact⟨B,F,δ,ts,_,c,q,λps ao F1 H1 q1 f1 h1 c1=>⟨by simpa using q1.1,λp hp=>k _ ao _ F1 _ q1.2 f1 (h1.trans (ah.upd hp)) (c1.cS7 hp)⟩⟩
theorem xC{x1}(h:PA X es (lO tr)):PE X (.Tuple es x1 pos) (lE (rD tr)) :=
 dr (K5 h) λσ H Q zq=>by
 obtain⟨B,F,δ,ts,Qd,c,q,k⟩:=zq
 exact⟨B,F,δ,ts,_,c,q,λps ao F1 H1 q1 f1 h1 c1=>⟨by simpa using q1.1,λp hp=>k _ ao _ F1 _ q1.2 f1 (h1.trans (ah.upd hp)) (c1.Mp hp)⟩⟩
end
end L3
namespace L3
open PySem L2 PySem.Spec PyProof.Rows
abbrev aU:=List D->(D->Prop)->Prop
inductive aV(sp:aU)(vs:List V)(H:Hp)(Q:VK)(E:XK):Prop
 | mk (F ds Qd) (e:ah F H) (r:R F H ds vs []) (q:sp ds Qd) (k:∀d v F' H' A,Qd d->ah H H'->ah F F'->ah F' H'->(∀a ws,F' a=some (.lst ws)->F a=some (.lst ws)\/H a=none)->R F' H' [d] [v] A->A.Nodup->(∀a∈A,H a=none)->Q v H')
def nU(sp:aU)(t:cP):aJ:=λδ Q=>t δ λds ai=>sp (ds.map D.sh) λd=>(ds.all D.pl||d.fr)=true/\Q d ai
theorem Cc{B:Bs}{F H:Hp}{σ:L2.St}{δ:Dl}{ts:List (D × V)}{Qd:D->Prop}{Q:VK}{E:XK}{ds:List D}{vs:List V}{sp:aU}(c:av B F H σ δ ts)(s:S F H ds vs)(q:sp (ds.map D.sh) λd=>(ds.all D.pl||d.fr)=true/\Qd d)
  (k:∀d v F' H',Qd d->ah F F'->ah H H'->av B F' H' σ δ ((d,v)::ts)->Q v H'):aV sp vs H Q E:=by
 by_cases hp:ds.all D.pl=true
 ·rw[mL hp]at q
  exact⟨F,ds,_,c.ext,s.r hp,q,λd v F' H' A hd hs hf he h3 r nd fr=>k d v F' H' hd.2 hf hs (c.call hs hf he h3 r nd fr)⟩
 ·refine⟨H,ds.map D.sh,_,ah.refl _,s.frozen c.ext,q,λd v F' H' A hd hs hf he h3 r nd fr=>?_⟩
  have eK:d.fr=true:=by
   have:=hd.1
   rw[Bool.or_eq_true]at this
   exact this.resolve_left hp
  exact k d v F H' hd.2 (ah.refl _) hs (c.B8 hs (r.Fy (by simp[eK]) (c.ext.trans hf)) nd fr)
section
variable{X:Cx}{CX:e8}{n:Nat}{f:Addr}{fd:FuncData}{ps:List Str}{sp:aU}{E:XK}{x:Str}{p pos:Pos}{e:Expr}{es:List Expr}{t:cP}
theorem Cd(F:aF X.prog X.w X.K X.mg X.base CX n f fd ps (aV sp))(hr:cy n X.A)(hg:Gl X x)(hm:X.mg x=some (.ref f))(hk:PySem.W.keepIn X.K (.ref f)=true)(hb:Binds X.K fd ps [])(hx:oK CX X E)
  (ha:PA X (e::es) (lA t)) (dZ:(x==("__debug__":Str))=false:=by decide) (he:starEach (e::es) X.env=(false,eval e X.env)::starEach es X.env:=by rfl) (bU:(backTo pos (starEach es X.env)).any (·.1)=false:=by rfl) :
  PE X (.Call (.Name x p) (e::es) [] pos) (lE (nU sp t)) :=
 dr (K7 F hr hg hm hk hb .nil hx ha dZ he bU) λσ H Q zq=>by
 obtain⟨B,F,δ,ts,Qd,c,q,k⟩:=zq
 exact⟨B,F,δ,ts,_,c,q,λds ao vs F1 H1 q1 f1 h1 c1 s1=>by
  show aV sp (vs++[]) H1 Q E
  rw[gu]
  exact Cc c1 s1 q1 λd v F' H' hd hf hs c'=>k d ao v F' H' hd (f1.trans hf) (h1.trans hs) c'⟩
end
def je(N:List Str)(ds:List D):Dl:=ds.map some++aX (N.length-ds.length) none
section
variable{P:Program}{w:World}{K:PySem.W.Frag}{mg:Str->Option Value}{base:Heap}
theorem bh{x qual:Str}{st:Stmt}{f:Addr}{fd:FuncData}{N ps:List Str}{k:Nat}{sp:aU}(F:j6 K x qual st f fd)(S:aT N ps (aI st))(len:∀ds Q,sp ds Q->ds.length=ps.length)
  (fO:∀(aD:Value) (A:Around) (outer:List Env) (s:Shared) (H:Hp) (E:XK),cy k (A.deeper (envOfC qual (aI st) s.heap.objs.size f aD)) ->
   ∃t:cE,PSs (i7 aK P w K mg base N qual (aI st) f aD A outer s H E).gF (ie st) (lS (i7 aK P w K mg base N qual (aI st) f aD A outer s H E).gF t)/\∀ds Q,sp ds Q->t { nx:=λ_=>Q .az,rt:=Q } (je N ds)):aF P w K mg base aK (k+1) f fd ps (aV sp):=by
 refine F.ok S (λvs H Q E ⟨F,ds,Qd,e,r,h,_⟩=>by rw[<-r.length];exact len ds Qd h) λaD A outer s H vs Q E hr zz=>?_
 obtain⟨F,ds,Qd,e,r,h,k⟩:=zz
 obtain⟨t,ht,hq⟩:=fO aD A outer s H E hr
 have fin:∀d v ai aN F' H',Qd d->av ⟨H,F⟩ F' H' aN ai [(d,v)]->Q v H':=λd v ai aN F' H' hd c=>by
  obtain⟨A,C,r',s',nd,fr⟩:=c.own
  exact k d v F' H' A hd c.b1 c.b2 c.ext c.b3 r' (jc.mp nd).1 λa ha=>fr a (iz _ ha)
 have e1:L2.start N vs=vs.map some++aX (N.length-ds.length) none:=by unfold L2.start;rw[r.length]
 refine⟨_,ht,⟨H,F⟩,F,je N ds,_,?_,hq ds Qd h,λai aN F' H' hd c=>fin .az .az ai aN F' H' hd (c.pushS (.az .nil) rfl),fin,λ_ _ _ _ z=>z.elim,λ_ _ _ _ z=>z.elim,XL.none (λ_ _ z=>z) λ_ _ z=>z⟩
 rw[e1]
 exact av.start e r _
end
section
variable{X:Cx}{e a b c:Expr}{es:List Expr}{pos:Pos}{st:Stmt}{kC rest:List Stmt}{t u:cE}{te:aJ}{tt:fj}
def rE:cE:=λD δ=>D.nx δ
def FG(t u:cE):cE:=λD δ=>t { D with nx:=u D } δ
theorem ax{t u:cE}{En:rn}{δ:Dl}(h:∀U:Dl->Prop,(∀ai,u En ai->U ai)->t { En with nx:=U } δ):FG t u En δ:=h (u En) λ_ z=>z
theorem bZ:PSs X [] (lS X rE):=zG KD λD σ H ⟨B,F,δ,Dd,c,q,k⟩=>k.k1 δ σ F H q c
theorem aC(h1:PS X st (lS X t))(h2:PSs X rest (lS X u)):PSs X (st::rest) (lS X (FG t u)) :=
 zG (KG h1 h2) λD σ H zq=>by
 obtain⟨B,F,δ,Dd,c,q,k1,k2,k3,k4⟩:=zq
 exact⟨B,F,δ,{ Dd with nx:=u Dd },c,q,λai aN F' H' hq c'=>⟨B,F',ai,Dd,c',hq,k1,k2,k3,k4⟩,k2,k3,k4⟩
theorem aB(h1:PS X st (lS X t)):PSs X [st] (lS X t):=KH h1
theorem zH:PS X st (lS X λ_ _=>False):=ig XF λD σ H ⟨_,_,_,_,_,q,_⟩=>q.elim
def nV(i:Nat)(t:cE):cE:=λD δ=>∃d,δ[i]?=some (some d)/\t D (δ.set i (some d.sh))
theorem zI(i:Nat)(h:PSs X kC (lS X t)):PSs X kC (lS X (nV i t)):=zG h λD σ H zz=>by
 obtain⟨B,F,δ,Dd,c,⟨d,e,q⟩,k⟩:=zz
 obtain⟨F',s,c'⟩:=c.freeze e
 exact⟨B,F',_,Dd,c',q,k⟩
def mO(i:Nat)(t:aJ):cE:=λD δ=>t δ λd ai=>D.nx (ai.set i (some d))
theorem aY{i:Nat}{x:Str}{pos':Pos}(hN:X.N.Nodup)(hi:X.N[i]?=some x)(hx:Loc X.env.scope x)(he:PE X e (lE te))(hs:swapsWith e (some (.Name x pos')) pos.line X.env=pure false:=by rfl)
  (hf:X.fn x=true\/X.env.scope.names.lookup x=some .local:=by first | exact .inl rfl | exact .inr rfl | assumption):PS X (.Assign [.Name x pos'] e pos) (lS X (mO i te)) :=
 ig (EI hN hi hx he hs hf) λD σ H zq=>by
 obtain⟨B,F,δ,Dd,c,q,k1,k2,k3,k4⟩:=zq
 exact⟨B,F,δ,[],_,c,q,λd ai v F' H' hd sf sh c'=>k1 _ _ F' H' hd (c'.store i)⟩
def rF(t:aJ):cE:=λD δ=>t δ λd _=>D.rt d
theorem aO(he:PE X e (lE te)):PS X (.Return (some e) pos) (lS X (rF te)) :=
 ig (XB he) λD σ H zq=>by
 obtain⟨B,F,δ,Dd,c,q,k1,k2,k3,k4⟩:=zq
 exact⟨B,F,δ,[],_,c,q,λd ai v F' H' hd sf sh c'=>k2 d v ai σ F' H' hd c'⟩
def rG(t:aJ):cE:=λD δ=>t δ λ_ ai=>D.nx ai
theorem zJ(he:PE X e (lB te))(hs:swapsWith e none pos.line X.env=pure false:=by rfl):PS X (.Expr e pos) (lS X (rG te)) :=
 ig (yX he hs) λD σ H zq=>by
 obtain⟨B,F,δ,Dd,c,q,k1,k2,k3,k4⟩:=zq
 exact⟨B,F,δ,[],_,c,q,λd ai v F' H' hd sf sh c' s=>k1 ai σ F' H' hd c'⟩
def pq(tc:fj)(t u:cE):cE:=λD δ=>tc δ λb ai=>if b=true then t D ai else u D ai
theorem b8{l r:List Stmt}(hc:PT X c (lT tt))(ha:PSs X l (lS X t))(hb:PSs X r (lS X u)):PS X (.If c l r pos) (lS X (pq tt t u)) :=
 ig (KI hc ha hb) λD σ H zq=>by
 obtain⟨B,F,δ,Dd,c,q,k⟩:=zq
 exact⟨B,F,δ,[],_,c,q,λb ai F' H' hq sf sh c'=>by
  cases b with
  | true=>exact oS ⟨B,F',ai,Dd,c',by simpa using hq,k⟩
  | false=>exact oR ⟨B,F',ai,Dd,c',by simpa using hq,k⟩⟩
def rH(i:Nat)(rd:dh)(t:aJ):cE:=λD δ=>∃x,δ[i]?=some (some x)/\t δ λy ao=>rd x y λz=>D.nx (ao.set i (some z))
theorem zK{i:Nat}{x:Str}{op:Operator}{rd:dh}{pos':Pos}(hN:X.N.Nodup)(hi:X.N[i]?=some x)(hx:Loc X.env.scope x)(he:PE X e (lB te))(ho:bY X (inplaceOp op) rd)
  (hf:X.fn x=true\/X.env.scope.names.lookup x=some .local:=by first | exact .inl rfl | exact .inr rfl | assumption):PS X (.AugAssign (.Name x pos') op e pos) (lS X (rH i rd te)):=by
 obtain⟨r,h1,h2⟩:=ho
 refine ig (XU hN hi hx he (ti:=r) h1 hf) λD σ H zz=>?_
 obtain⟨B,F,δ,Dd,c,⟨d0,e0,q⟩,k1,k2,k3,k4⟩:=zz
 obtain⟨v0,e1,s0⟩:=c.look e0
 exact⟨v0,e1,B,F,δ,[],_,c,q,λd ai v F' H' hd sf sh c' s=>h2 c' (s0.mono sf sh) s hd λz w H2 hz h3 c3=>k1 _ _ F' H2 hz (c3.store i)⟩
def rJ(tc:fj)(tb:cE):cE:=λD δ=>∃W:Nat->Dl->Prop,(∃m,W m δ)/\∀m δ,W m δ->tc δ λb ai=>if b=true then tb { D with nx:=λai=>∃m',m'<m/\W m' ai,ct:=λai=>∃m',m'<m/\W m' ai,bk:=D.nx } ai else D.nx ai
theorem zL{body:List Stmt}(hp:PassesOwn (model X.prog X.w) X.A X.env X.xe)(hc:PT X c (lT tt))(hb:PSs X body (lS X t)):PS X (.While c body [] pos) (lS X (rJ tt t)) :=
 ig (XZ hp hc hb) λD σ H zz=>by
  obtain⟨B,F,δ,Dd,c,⟨W,⟨m0,w0⟩,hw⟩,k1,k2,k3,k4⟩:=zz
  refine⟨λm σ H=>∃F δ,av B F H σ δ []/\W m δ,⟨m0,F,δ,c,w0⟩,λm σ H ⟨F,δ,c,w⟩=>⟨B,F,δ,[],_,c,hw m δ w,λb ai F' H' hq sf sh c'=>?_⟩⟩
  cases b with
  | true =>
   refine oS ⟨λaN H'=>∃m',m'<m/\∃F δ,av B F H' aN δ []/\W m' δ,λaN H' z=>z,B,F',ai,{ Dd with nx:=λai=>∃m',m'<m/\W m' ai,ct:=λai=>∃m',m'<m/\W m' ai,bk:=Dd.nx },c',by simpa using hq,λbg nM F2 H2 ⟨m',hm,w2⟩ c2=>⟨m',hm,F2,bg,c2,w2⟩,k2,λbg nM F2 H2 z c2=>k1 bg nM F2 H2 z c2,λbg nM F2 H2 ⟨m',hm,w2⟩ c2=>⟨m',hm,F2,bg,c2,w2⟩,k4.2⟩
  | false=>exact oR (k1 ai σ F' H' (by simpa using hq) c')
end
structure JD(J:It)(F:Hp)(xs:List D):Prop where
 go:∀i H,ah F H->i<xs.length->J.go i H
 lj:∀i H x H',ah F H->i<xs.length->J.lj i H x H'->∃d,xs[i]?=some d/\ah H H'/\R F H' [d] [x] []
 stop:∀i H,ah F H->xs.length<=i->J.stop i H
abbrev iO:=Dl->(Bool->List D->Dl->Prop)->Prop
inductive lI(t:iO)(σ:L2.St)(H:Hp)(Rr:It->Hp->Prop):Prop
 | mk (B F δ ts Qd) (c:av B F H σ δ ts) (q:t δ Qd) (k:∀g xs ai J F' H',Qd g xs ai->ah F F'->ah H H'->av B F' H' σ ai ts->JD J H' (xs.map D.sh)->(g=true->xs.all D.pl=true/\JD J F' xs)->Rr J H')
abbrev ij:=D->Dl->(Dl->Prop)->Prop
inductive lG(m:Nat)(t:ij)(v:V)(σ:L2.St)(H:Hp)(Q:L2.St->Hp->Prop):Prop
 | mk (B F δ ts d Qd) (c:av B F H σ δ ((d,v)::ts)) (q:t d δ Qd) (k:∀ai aN,Qd ai->aN.length=σ.length->(∀j,j<m->aN[j]?=σ[j]?)->av B F H aN ai ts->Q aN H)
def jB:D->Option (List D)
 | .lst _ xs=>some xs
 | .fz xs=>some xs
 | _=>none
section
variable{B:Bs}{F H F1:Hp}{σ:L2.St}{δ:Dl}{ts:List (D × V)}
end
section
variable{X:Cx}{e a b c tg l iter:Expr}{es:List Expr}{pos:Pos}{t u:cE}{te:aJ}{tt:fj}{ta:cP}{m:Nat}
theorem u5{w w':TI}(h:PI X tg iter w)(m:∀σ H Q,w' σ H Q->w σ H Q):PI X tg iter w':=λpins s σ H Q I q=>h pins s σ H Q I (m σ H Q q)
theorem Mt{w w':TG}(h:PG X tg w)(m:∀v σ H Q,w' v σ H Q->w v σ H Q):PG X tg w':=λpins s σ H v u Q I r q=>h pins s σ H v u Q I r (m v σ H Q q)
def gN(i:Nat):ij:=λd δ Q=>Q (δ.set i (some d))
theorem jC{i:Nat}{x:Str}(hN:X.N.Nodup)(hi:X.N[i]?=some x)(hx:Loc X.env.scope x)(hm:m<=i:=by decide)(hf:X.fn x=true\/X.env.scope.names.lookup x=some .local:=by first | exact .inl rfl | exact .inr rfl | assumption):PG X (.Name x pos) (lG m (gN i)) :=
 Mt (yY hN hi hx hf) λv σ H Q ⟨B,F,δ,ts,d,Qd,c,q,k⟩=>k _ _ q (by simp) (λj hj=>by rw[qF (by omega)]) (c.store i)
theorem pz{K:PySem.W.Frag}{F H:Hp}{p:Addr}{xs:List D}{ws:List V}(hp:Rd F p (.lst ws))(r:R F H xs ws [])(hF:Full F H):JD (EK K p) F xs where
 go:=λi H' hs hi=>by
  have l:=r.length
  have fA:i<ws.length:=by omega
  exact⟨ws,ws[i],.inl (iM hp hs),aM fA⟩
 lj:=λi H' x H2 hs hi zz=>by
  obtain⟨e,y⟩:=zz
  subst e
  have hx:=y ws (.inl (iM hp hs))
  obtain⟨v,A1,e2,r1,sub⟩:=(r.full hF hs rfl).get (aM hi)
  rw[hx]at e2;cases e2
  have:A1=[]:=JT.mpr λa ha=>by simpa using sub ha
  subst this
  exact⟨_,aM hi,ah.refl _,r1⟩
 stop:=λi H' hs hi=>⟨ws,.inl (iM hp hs),by have:=r.length;omega⟩
theorem Ce{F:Hp}(lo:Int)(n:Nat):JD (yZ lo n) F ((aH n).map λ(k:Nat)=>D.int (lo+(k:Int))) where
 go:=λi H' hs hi=>by
  have fA:i<n:=by simpa using hi
  exact fA
 lj:=λi H' x H2 hs hi zz=>by
  obtain⟨e,y⟩:=zz
  subst e y
  have fA:i<n:=by simpa using hi
  exact⟨.int (lo+i),by simp[h9 fA],ah.refl _,.int .nil⟩
 stop:=λi H' hs hi=>by
  have fA:n<=i:=by simpa using hi
  exact fA
def rK(t:aJ):iO:=λδ Q=>t δ λd ai=>∃xs,jB d=some xs/\Q true (xs.map D.sh) ai
theorem cP4(xs:List D){F H:Hp}{ws:List V}(r:R F H (xs.map D.sh) ws []):(xs.map D.sh).map D.sh=xs.map D.sh:=mL r.pl
theorem rL(h:PE X l (lE te)):PI X tg l (lI (rK te)) :=
 u5 (EL h) λσ H Q zq=>by
 obtain⟨B,F,δ,ts,Qd,c,q,k⟩:=zq
 exact⟨B,F,δ,ts,_,c,q,λd ao v F1 H1 hd f1 h1 c1=>by
  obtain⟨xs,e,hq⟩:=hd
  obtain⟨F2,f2,c2⟩:=c1.zE
  have tp:=c2.top
  have c3:=c2.pop.snap
  have e2:=c2.ext
  have sn:=rm e2
  cases d with
  | lst o ys =>
   obtain rfl:=cT e
   rw[bV]at tp
   cases tp with
   | @shr p ws _ _ _ hp r _ =>
    have r3:=r.shared sn (ah.refl _)
    refine⟨p,rfl,⟨ws,bL.of (e2 _ _ hp)⟩,k true _ ao _ _ H1 hq ((f1.trans f2).trans sn) h1 c3 ?_ λ_=>⟨r.pl,pz (.inl (sn _ _ hp)) r3 uZ⟩⟩
    rw[cP4 _ r]
    exact pz (.inl (e2 _ _ hp)) (r.shared e2 (ah.refl _)) (Full.refl _)
  | fz ys =>
   obtain rfl:=cT e
   cases tp with
   | @fz p o ws _ _ _ hp r _ =>
    have r3:=r.shared sn (ah.refl _)
    have es:=mL r.pl
    rw[es]at hq
    refine⟨p,rfl,⟨ws,.inl (.inr ⟨o,e2 _ _ hp⟩)⟩,k true _ ao _ _ H1 hq ((f1.trans f2).trans sn) h1 c3 ?_ λ_=>⟨r.pl,pz (.inr ⟨o,sn _ _ hp⟩) r3 uZ⟩⟩
    rw[es]
    exact pz (.inr ⟨o,e2 _ _ hp⟩) (r.shared e2 (ah.refl _)) (Full.refl _)
  | az=>cases e
  | bl _=>cases e
  | int _=>cases e
  | str _=>cases e
  | tup _=>cases e
  | obj _ _ _=>cases e
  | bG _=>cases e⟩
def rM(t:aJ):iO:=λδ Q=>t δ λd ai=>∃xs,jB d=some xs/\Q d.pl xs ai
theorem dX(h:PE X l (lB te)):PI X tg l (lI (rM te)) :=
 u5 (EL h) λσ H Q zq=>by
 obtain⟨B,F,δ,ts,Qd,c,q,k⟩:=zq
 exact⟨B,F,δ,ts,_,c,q,λd ao v F1 H1 hd f1 h1 c1 s=>by
  obtain⟨xs,e,hq⟩:=hd
  have c3:=c1.snap
  have e2:=c1.ext
  have sn:=rm e2
  cases s with
  | @shr p ws ys _ _ hp r _ =>
   obtain rfl:=cT e
   refine⟨p,rfl,⟨ws,bL.of (e2 _ _ hp)⟩,k _ _ ao _ _ H1 hq (f1.trans sn) h1 c3 ?_ λ_=>⟨r.pl,pz (.inl (sn _ _ hp)) (r.shared sn (ah.refl _)) uZ⟩⟩
   rw[mL r.pl]
   exact pz (.inl (e2 _ _ hp)) (r.shared e2 (ah.refl _)) (Full.refl _)
  | @own p ws ys _ _ hp r _ =>
   obtain rfl:=cT e
   refine⟨p,rfl,⟨ws,bL.of hp⟩,k _ _ ao _ _ H1 hq (f1.trans sn) h1 c3 (pz (.inl hp) (r.frozen e2) (Full.refl _)) λz=>by simp[eI]at z⟩
  | @fz p o ws ys _ _ hp r _ =>
   obtain rfl:=cT e
   refine⟨p,rfl,⟨ws,.inl (.inr ⟨o,e2 _ _ hp⟩)⟩,k _ _ ao _ _ H1 hq (f1.trans sn) h1 c3 ?_ λ_=>⟨r.pl,pz (.inr ⟨o,sn _ _ hp⟩) (r.shared sn (ah.refl _)) uZ⟩⟩
   rw[mL r.pl]
   exact pz (.inr ⟨o,e2 _ _ hp⟩) (r.shared e2 (ah.refl _)) (Full.refl _)
  | az _=>cases e
  | bl _=>cases e
  | int _=>cases e
  | str _=>cases e
  | tup _ _ _=>cases e
  | obj _ _ _ _=>cases e
  | bG _ _=>cases e⟩
theorem zM(f:Nat->Int)(l:List Nat):(l.map λk=>D.int (f k)).map D.sh=l.map λk=>D.int (f k):=by simp[D.sh]
theorem Mu(f:Nat->Int)(l:List Nat):(l.map λk=>D.int (f k)).all D.pl=true:=by simp[D.pl]
def rN(t:cP):iO:=λδ Q=>t δ λds ai=>∃j:Int,ds=[.int j]/\(-(2 ^ 62)<=j/\j<2 ^ 62)/\Q true ((aH j.toNat).map λ(k:Nat)=>D.int (0+(k:Int))) ai
theorem jf{p:Pos}(hg:Gl X "range")(hm:X.mg "range"=none)(ha:PA X [a] (lA ta))(hs:starEach [a] X.env=[(false,eval a X.env)]:=by rfl):PI X tg (.Call (.Name "range" p) [a] [] pos) (lI (rN ta)) :=
 u5 (X5 hg hm ha hs) λσ H Q zq=>by
 obtain⟨B,F,δ,ts,Qd,c,q,k⟩:=zq
 exact⟨B,F,δ,ts,_,c,q,λds ao vs F1 H1 hd f1 h1 c1 s=>by
  obtain⟨j,rfl,⟨b1,b2⟩,hq⟩:=hd
  cases s with
  | int s =>
   cases s
   refine⟨j,rfl,b1,b2,k true _ ao _ _ H1 hq f1 h1 c1 ?_ λ_=>⟨Mu _ _,Ce 0 _⟩⟩
   rw[zM]
   exact Ce 0 _⟩
def rO(t:cP):iO:=λδ Q=>t δ λds ai=>∃i j:Int,ds=[.int i,.int j]/\(-(2 ^ 62)<=i/\i<2 ^ 62/\-(2 ^ 62)<=j/\j<2 ^ 62)/\Q true ((aH (j-i).toNat).map λ(k:Nat)=>D.int (i+(k:Int))) ai
theorem xD{p:Pos}(hg:Gl X "range")(hm:X.mg "range"=none)(ha:PA X [a,b] (lA ta))(hs:starEach [a,b] X.env=[(false,eval a X.env),(false,eval b X.env)]:=by rfl)(gx:starEach [b] X.env=[(false,eval b X.env)]:=by rfl) :
  PI X tg (.Call (.Name "range" p) [a,b] [] pos) (lI (rO ta)) :=
 u5 (X6 hg hm ha hs gx) λσ H Q zq=>by
 obtain⟨B,F,δ,ts,Qd,c,q,k⟩:=zq
 exact⟨B,F,δ,ts,_,c,q,λds ao vs F1 H1 hd f1 h1 c1 s=>by
  obtain⟨i,j,rfl,bd,hq⟩:=hd
  cases s with
  | int s =>
   cases s with
   | int s =>
    cases s
    refine⟨i,j,rfl,bd,k true _ ao _ _ H1 hq f1 h1 c1 ?_ λ_=>⟨Mu _ _,Ce i _⟩⟩
    rw[zM]
    exact Ce i _⟩
def fC(xs:List D)(g:ij)(tb:cE):cE:=λEn ao=>∃Iv:Nat->Dl->Prop,Iv 0 ao /\
 (∀i d ai,xs[i]?=some d->Iv i ai->g d ai λbg=>tb { En with nx:=Iv (i+1),ct:=Iv (i+1),bk:=En.nx } bg)/\∀ai,Iv xs.length ai->En.nx ai
theorem fC.mk{xs:List D}{g:ij}{tb:cE}{En:rn}{δ:Dl}(Iv:Nat->Dl->Prop)(h0:Iv 0 δ)(ht:∀i d ai,xs[i]?=some d->Iv i ai->g d ai λbg=>tb { En with nx:=Iv (i+1),ct:=Iv (i+1),bk:=En.nx } bg)
  (hf:∀ai,Iv xs.length ai->En.nx ai):fC xs g tb En δ:=⟨Iv,h0,ht,hf⟩
def rP(ti:iO)(g:ij)(tb:cE):cE:=λEn δ=>ti δ λsh xs ao=>sh=true/\fC xs g tb En ao
theorem fE{ti:iO}{g:ij}{body:List Stmt}(hp:PassesOwn (model X.prog X.w) X.A X.env X.xe)(hc:X.calm=true)(hi:PI X tg iter (lI ti))(hg:PG X tg (lG 0 g))(hb:PSs X body (lS X t))
  (hs:∀x,foldedSetIterable iter X.env x=pure x:=by intro _;rfl):PS X (.For tg iter body [] pos) (lS X (rP ti g t)) :=
 ig (X9 hp hc hi hg hb hs) λEn σ H zq=>by
 obtain⟨B,F,δ,Dd,c,q,k1,k2,k3,k4⟩:=zq
 exact⟨B,F,δ,[],_,c,q,λsh xs ao J F1 H1 hq f1 h1 c1 _ jd=>by
  obtain⟨zh,Iv,i0,turn,fin⟩:=hq
  obtain⟨bU,jd⟩:=jd zh
  have un:∀{F' H':Hp} {aN:L2.St} {ai:Dl} {ts:List (D × V)},av ⟨B.H0,F1⟩ F' H' aN ai ts->av B F' H' aN ai ts:=λc'=>c'.cS9 c1.b2 c1.b3
  refine⟨λi m σ H=>m=xs.length-i/\i<=xs.length/\∃F δ,av ⟨B.H0,F1⟩ F H σ δ []/\Iv i δ,⟨_,rfl,h8 _,F1,ao,c1.rebase,i0⟩,?_⟩
  rintro i m nM H2 ⟨rfl,hi,F2,bg,c2,iv⟩
  have s2:ah F1 H2:=c2.b2.trans c2.ext
  by_cases dW:i<xs.length
  ·refine .inr ⟨jd.go i H2 s2 dW,λaN H'=>∃F δ,av ⟨B.H0,F1⟩ F H' aN δ []/\Iv (i+1) δ,λaN H' z=>⟨xs.length-(i+1),by omega,rfl,dW,z⟩,λx H3 y=>?_⟩
   obtain⟨d,e,s3,r⟩:=jd.lj i H2 x H3 s2 dW y
   have c3:=(c2.grow s3).pushS (d:=d) (v:=x) ((r.s).mono c2.b2 (ah.refl _)) (by have:=r.pl;simpa using this)
   refine⟨⟨B.H0,F1⟩,F2,bg,[],d,_,c3,turn i d bg e iv,λai aN hq _ _ c4=>?_⟩
   exact⟨⟨B.H0,F1⟩,F2,ai,_,c4,hq,λjg pB F5 H5 h5 c5=>⟨F5,jg,c5,h5⟩,λd5 v5 jg pB F5 H5 h5 c5=>k2 d5 v5 jg pB F5 H5 h5 (un c5),λjg pB F5 H5 h5 c5=>k1 jg pB F5 H5 h5 (un c5),λjg pB F5 H5 h5 c5=>⟨F5,jg,c5,h5⟩,⟨λC dc jg pins pB F5 H5 s5 a T h5 c5=>k4.2.1 C dc jg pins pB F5 H5 s5 a T h5 (un c5),λC dc jg pins pB F5 H5 s5 a h5 c5=>k4.2.2 C dc jg pins pB F5 H5 s5 a h5 (un c5)⟩⟩
  ·have e:i=xs.length:=by omega
   subst e
   exact .inl ⟨jd.stop _ H2 s2 (cg _),k1 bg nM F2 H2 (fin bg iv) (un c2)⟩⟩
end
end L3
namespace L3
open PySem L2 PySem.Spec PyProof.Rows
def jD(δ:Dl)(q:Str × Nat):Option D:=(δ[q.2]?).getD none
def gY(δ:Dl)(q:Str × Nat):Bool:=match jD δ q with
 | some d=>d.pl
 | none=>true
def eM(ay:List (Str × Nat))(n:Nat)(δ:Dl):Dl:=(ay.map λq=>(jD δ q).map D.sh)++aX n none
def pE(sh:Bool)(xs:List D)(ay:List (Str × Nat))(n:Nat)(g:ij)(tt:fj)(te:aJ)(ao:Dl)(Q:D->Dl->Prop):Prop:=∃(p:D->Bool) (f:D->D),
 (∀x∈xs.map D.sh,g x (eM ay n ao) λbg=>tt bg λb gX=>b=p x/\(p x=true->te gX λd _=>d=f x)) /\
 ((sh&&ay.all (gY ao))=true\/∀x∈xs.map D.sh,p x=true->(f x).fr=true)/\xs.length<=sizeLine/\Q (.lst true (((xs.map D.sh).filter p).map f)) ao
def mP(ti:iO)(ay:List (Str × Nat))(n:Nat)(g:ij)(tt:fj)(te:aJ):aJ:=λδ Q=>ti δ λsh xs ao=>pE sh xs ay n g tt te ao Q
def jE:fj:=λδ Q=>Q true δ
theorem b70{sh:Bool}{xs:List D}{ay:List (Str × Nat)}{n m:Nat}{te:aJ}{ao:Dl}{Q:D->Dl->Prop}(f:D->D)(hx:∀x∈xs.map D.sh,te ((eM ay n ao).set m (some x)) λd _=>d=f x)
  (eK:(sh&&ay.all (gY ao))=true\/∀x∈xs.map D.sh,(f x).fr=true) (hl:xs.length<=sizeLine) (hq:Q (.lst true ((xs.map D.sh).map f)) ao):pE sh xs ay n (gN m) jE te ao Q :=
 ⟨λ_=>true,f,λx h=>⟨rfl,λ_=>hx x h⟩,eK.imp id λh x hx _=>h x hx,hl,by rw[WI.mpr (λ_ _=>rfl)];exact hq⟩
section
variable{B:Bs}{F H:Hp}{σ:L2.St}{δ:Dl}{ts:List (D × V)}
theorem Mv(c:av B F H σ δ ts)(n:Nat):∀(ay:List (Str × Nat)),ay.all (gY δ)=true->RS F H (eM ay n δ) (gH ay n σ) []
 | [],_=>by
  have z:∀n,RS F H (aX n none) (aX n none) []:=λn=>by
   induction n with
   | zero=>exact .nil
   | succ n ih=>exact .az ih
  exact z n
 | q::r,h=>by
  rw[bA,cK]at h
  have ih:=Mv c n r h.2
  show RS F H ((jD δ q).map D.sh::eM r n δ) ((σ[q.2]?).getD none::gH r n σ) []
  cases e:jD δ q with
  | none=>exact .az ih
  | some d =>
   have e2:δ[q.2]?=some (some d):=by
    unfold jD at e
    cases z:δ[q.2]? with
    | none=>rw[z]at e;cases e
    | some o=>rw[z]at e;exact congrArg some e
   have hp:d.pl=true:=by have:=h.1;unfold gY at this;rw[e]at this;exact this
   obtain⟨v,e3,s⟩:=c.look e2
   rw[e3]
   show RS F H (some d.sh::_) (some v::_) []
   rw[D.B7 hp]
   exact .gW (A:=[]) (s.r (by simp[hp])) ih
theorem FH(c:av B F H σ δ ts)(n:Nat):∀(ay:List (Str × Nat)),RS H H (eM ay n δ) (gH ay n σ) []
 | []=>by
  have z:∀n,RS H H (aX n none) (aX n none) []:=λn=>by
   induction n with
   | zero=>exact .nil
   | succ n ih=>exact .az ih
  exact z n
 | q::r=>by
  have ih:=FH c n r
  show RS H H ((jD δ q).map D.sh::eM r n δ) ((σ[q.2]?).getD none::gH r n σ) []
  cases e:jD δ q with
  | none=>exact .az ih
  | some d =>
   have e2:δ[q.2]?=some (some d):=by
    unfold jD at e
    cases z:δ[q.2]? with
    | none=>rw[z]at e;cases e
    | some o=>rw[z]at e;exact congrArg some e
   obtain⟨v,e3,s⟩:=c.look e2
   rw[e3]
   exact .gW (A:=[]) (s.frozen c.ext) ih
theorem cn1(ay:List (Str × Nat))(n:Nat)(σ:L2.St):(gH ay n σ).length=ay.length+n:=by simp[gH]
theorem Mw{α:Type}(xs:List α)(p:α->Bool)(i:Nat)(x:α)(h:xs[i]?=some x):(xs.take (i+1)).filter p=(xs.take i).filter p++(if p x=true then [x]else []):=by
 rw[ku,h,List.filter_append]
 simp only[JU]
 by_cases hp:p x=true<;>simp[hp]
end
section
variable{X:Cx}{elt iter tg:Expr}{pos:Pos}{ifs:List Expr}{scope:Scope}{cl:List (Str × Addr)}{ti:iO}{tt:fj}{te:aJ}{g:ij}
theorem FI{B:Bs}{F1 H1:Hp}{σ:L2.St}{ao:Dl}{ts:List (D × V)}{J:It}{Qd:D->Dl->Prop}{Q:VK}{xs:List D}{sh:Bool}{ay:List (Str × Nat)}{n:Nat}(c1:av B F1 H1 σ ao ts)
  (pG:JD J H1 (xs.map D.sh)) (u6:sh=true->xs.all D.pl=true/\JD J F1 xs) (p:D->Bool) (f:D->D)
  (hx:∀x∈xs.map D.sh,g x (eM ay n ao) λbg=>tt bg λb gX=>b=p x/\(p x=true->te gX λd _=>d=f x))
  (eK:(sh&&ay.all (gY ao))=true\/∀x∈xs.map D.sh,p x=true->(f x).fr=true) (hlen:xs.length<=sizeLine) (hq:Qd (.lst true (((xs.map D.sh).filter p).map f)) ao)
  (k:∀d ai v F' H',Qd d ai->ah F1 F'->ah H1 H'->av B F' H' σ ai ((d,v)::ts)->Q v H'):Ma J ay n (lG ay.length g) (lT tt) (lE te) σ H1 Q:=by
 intro Dp hD
 have cD:av B F1 (upd H1 Dp (.lst [])) σ ao ((.lst true [],.ref Dp)::ts):=c1.nQ hD .nil rfl
 refine⟨λi m acc H2=>m=xs.length-i/\i<=xs.length/\H2 Dp=some (.lst acc)/\ah H1 H2/\acc.length<=i/\∃F2,ah F1 F2 /\
  av B F2 H2 σ ao ((.lst true ((((xs.map D.sh).take i).filter p).map f),.ref Dp)::ts),⟨xs.length,rfl,h8 _,de,ah.upd hD,cg _,F1,ah.refl _,by simpa using cD⟩,?_⟩
 rintro i m acc H2 ⟨rfl,hi,mQ,rQ,FJ,F2,rR,c2⟩
 refine⟨mQ,?_⟩
 by_cases dW:i<xs.length
 case neg =>
  have e:i=xs.length:=by omega
  subst e
  refine .inl ⟨pG.stop _ H2 rQ (by simp),k _ ao _ F2 H2 ?_ rR rQ c2⟩
  have:(xs.map D.sh).take xs.length=xs.map D.sh:=by rw[wW (by simp)]
  rw[this]
  exact hq
 case pos =>
  refine .inr ⟨pG.go i H2 rQ (by simpa using dW),λx H3 y=>?_⟩
  obtain⟨d0,e0,FK,r0⟩:=pG.lj i H2 x H3 rQ (by simpa using dW) y
  have Mx:d0∈xs.map D.sh:=ur e0
  have Mz:H3 Dp=some (.lst acc):=FK _ _ mQ
  have c3:=c2.grow FK
  have FL:=rQ.trans FK
  refine⟨Mz,?_⟩
  have FN:=hx d0 Mx
  have turn:∀Fi,ah Fi H3->RS Fi H3 (eM ay n ao) (gH ay n σ) []->S Fi H3 [d0] [x]->d0.pl=true ->
    (∀d v F' H' A,d=f d0->p d0=true->ah H3 H'->ah Fi F'->ah F' H'->(∀a ws,F' a=some (.lst ws)->Fi a=some (.lst ws)\/H3 a=none)->R F' H' [d] [v] A->A.Nodup->(∀a∈A,H3 a=none) ->
     ∃F4,ah F2 F4/\av B F4 H' σ ao ((d,v)::(.lst true ((((xs.map D.sh).take i).filter p).map f),.ref Dp)::ts)) ->
    lG ay.length g x (gH ay n σ) H3 λiH H4 =>
     (iH.length=(gH ay n σ).length/\∀j,j<ay.length->iH[j]?=(gH ay n σ)[j]?)/\lT tt iH H4 λb H5=>H5 Dp=some (.lst acc) /\
     if b=true then lE te iH H5 λy H6=>H6 Dp=some (.lst acc)/\acc.length<sizeLine/\∃m',m'<xs.length-i /\
      (m'=xs.length-(i+1)/\i+1<=xs.length/\upd H6 Dp (.lst (acc++[y])) Dp=some (.lst (acc++[y]))/\ah H1 (upd H6 Dp (.lst (acc++[y])))/\(acc++[y]).length<=i+1/\∃F2,ah F1 F2 /\
       av B F2 (upd H6 Dp (.lst (acc++[y]))) σ ao ((.lst true ((((xs.map D.sh).take (i+1)).filter p).map f),.ref Dp)::ts))
     else ∃m',m'<xs.length-i/\(m'=xs.length-(i+1)/\i+1<=xs.length/\H5 Dp=some (.lst acc)/\ah H1 H5/\acc.length<=i+1/\∃F2,ah F1 F2 /\
       av B F2 H5 σ ao ((.lst true ((((xs.map D.sh).take (i+1)).filter p).map f),.ref Dp)::ts)):=by
   intro Fi hFi hRS hS bU back
   have ci:av ⟨H3,Fi⟩ Fi H3 (gH ay n σ) (eM ay n ao) []:=⟨hFi,ah.refl _,ah.refl _,λ_ _ q=>.inl q,[],[],.nil,hRS,by simp,by simp⟩
   refine⟨⟨H3,Fi⟩,Fi,eM ay n ao,[],d0,_,ci.pushS hS bU,FN,λai iH hq1 l1 k1 c4=>⟨⟨l1,k1⟩,⟨H3,Fi⟩,Fi,ai,[],_,c4,hq1,λb jg F5 H5 hb f5 h5 c5=>?_⟩⟩
   obtain⟨hb,ht⟩:=hb
   have Cf:H5 Dp=some (.lst acc):=h5 _ _ Mz
   refine⟨Cf,?_⟩
   by_cases hp:p d0=true
   ·rw[hb,hp]
    refine oS ⟨⟨H3,Fi⟩,F5,jg,[],_,c5,ht hp,λd δ6 v F6 H6 hd f6 h6 c6=>?_⟩
    have MA:H6 Dp=some (.lst acc):=h6 _ _ Cf
    obtain⟨A,C,r,s,nd,fr⟩:=c6.own
    obtain⟨F4,f24,c7⟩:=back d v F6 H6 A hd hp c6.b1 c6.b2 c6.ext c6.b3 r (jc.mp nd).1 λa ha=>fr a (iz _ ha)
    have c8:=c7.Mq MA
    refine⟨MA,by omega,xs.length-(i+1),by omega,rfl,dW,de,?_,by simpa using FJ,F4,rR.trans f24,?_⟩
    ·have zN:=FL.trans c6.b1
     exact⟨λa o q n=>by rw[bt (eH q hD)];exact zN.get a o q n,λa ps q=>by rw[bt (eH q hD)];exact zN.tb a ps q⟩
    ·have e9:(((xs.map D.sh).take (i+1)).filter p).map f=(((xs.map D.sh).take i).filter p).map f++[d]:=by
      rw[Mw _ p i d0 e0,hp,hd];simp
     rw[e9]
     exact c8
   ·have rS:p d0=false:=by simpa using hp
    rw[hb,rS]
    refine oR ⟨xs.length-(i+1),by omega,rfl,dW,Cf,FL.trans h5,by omega,F2,rR,?_⟩
    have e9:(((xs.map D.sh).take (i+1)).filter p).map f=(((xs.map D.sh).take i).filter p).map f:=by
     rw[Mw _ p i d0 e0,rS];simp
    rw[e9]
    exact c3.grow h5
  by_cases hA:(sh&&ay.all (gY ao))=true
  ·rw[cK]at hA
   obtain⟨bU,jd⟩:=u6 hA.1
   have zh:=mL bU
   rw[zh]at e0
   obtain⟨d1,e1,_,r1⟩:=jd.lj i H2 x H3 (rR.trans c2.ext) dW y
   rw[e0]at e1;cases e1
   have cU7:d0.pl=true:=by have:=r1.pl;simpa using this
   refine turn F2 c3.ext (Mv c3 n ay hA.2) ((r1.s).mono rR (ah.refl _)) cU7 λd v F' H' A hd hp hs hf he h3 r nd fr=>⟨F',hf,c3.call hs hf he h3 r nd fr⟩
  ·have cU8:=eK.resolve_left hA
   refine turn H3 (ah.refl _) (FH c3 n ay) ((r0.shared FL (ah.refl _)).s) (by have:=r0.pl;simpa using this) λd v F' H' A hd hp hs hf he h3 r nd fr=>⟨F2,ah.refl _,?_⟩
   exact c3.B8 hs (r.Fy (by rw[hd];simp[cU8 d0 Mx hp]) (c3.ext.trans hf)) nd fr
theorem bW{Y:Cx}:mH Y [] (lT jE):=λ_ _ _ H _ I ⟨B,F,δ,ts,Qd,c,q,k⟩=>υ _ _ _ H _ I (k true δ F H q (ah.refl _) (ah.refl _) c)
theorem Cg{Y:Cx}{c:Expr}(h:PT Y c (lT tt)):mH Y [c] (lT tt):=χ h
end
end L3
namespace L3
open PySem L2 PySem.Spec PyProof.Rows
section
variable{X:Cx}{F H:Hp}{v w:V}
def l2(rd:dh):R2:=λv w H Q=>∃B F σ δ ts x y Qd,av B F H σ δ ts/\S F H [x] [v]/\S F H [y] [w]/\rd x y Qd/\∀d z H',Qd d->ah H H'->av B F H' σ δ ((d,z)::ts)->Q z H'
theorem bY.of{f:Value->Value->Sem Value}{rd:dh}(h:cV X f (l2 rd)):bY X f rd:=⟨_,h,λ{B F H σ δ ts x y v w Q Qd} c sx sy q k=>⟨B,F,σ,δ,ts,x,y,Qd,c,sx,sy,q,k⟩⟩
theorem zO{f:Value->Value->Sem Value}{C:Int->Int->Prop}{g:Int->Int->V}{gd:Int->Int->D}(ho:cV X f (rI C g))(hg:∀i j F H,S F H [gd i j] [g i j])(hp:∀i j,(gd i j).pl=true):bY X f λx y Q=>∃i j,x=.int i/\y=.int j/\C i j/\Q (gd i j) :=
 ⟨_,ho,λ{B F H σ δ ts x y v w Q Qd} c sx sy h k=>by
  obtain⟨i,j,rfl,rfl,hc,q⟩:=h
  cases sx;cases sy
  exact⟨i,j,rfl,rfl,hc,k _ _ _ q (ah.refl _) (c.pushS (hg i j F H) (hp i j))⟩⟩
theorem nW{f:Value->Value->Sem Value}{g:Int->Int->V}{gd:Int->Int->D}(ho:cV X f (kD g))(hg:∀i j F H,S F H [gd i j] [g i j])(hp:∀i j,(gd i j).pl=true):bY X f λx y Q=>∃i j,x=.int i/\y=.int j/\Q (gd i j) :=
 ⟨_,ho,λ{B F H σ δ ts x y v w Q Qd} c sx sy h k=>by
  obtain⟨i,j,rfl,rfl,q⟩:=h
  cases sx;cases sy
  exact⟨i,j,rfl,rfl,k _ _ _ q (ah.refl _) (c.pushS (hg i j F H) (hp i j))⟩⟩
theorem iP{o:Bool}{xs:List D}(s:S F H [.lst o xs] [v])(e:ah F H):∃p ws,v=.ref p/\H p=some (.lst ws)/\S F H xs ws:=by
 cases s with
 | shr h r _=>exact⟨_,_,rfl,e _ _ h,r.s⟩
 | own h r _=>exact⟨_,_,rfl,h,r⟩
theorem mR{xs:List D}(s:S F H [.tup xs] [v]):∃p ws,v=.ref p/\H p=some (.tup ws)/\S F H xs ws:=by
 cases s with
 | tup h r _=>exact⟨_,_,rfl,h,r⟩
theorem lK{d:D}{xs:List D}(s:S F H [d] [v])(e:ah F H)(h:jB d=some xs):∃p ws,v=.ref p/\Rd H p (.lst ws)/\S F H xs ws:=by
 cases s with
 | shr h' r _=>cases h;exact⟨_,_,rfl,.inl (e _ _ h'),r.s⟩
 | own h' r _=>cases h;exact⟨_,_,rfl,.inl h',r⟩
 | fz h' r _=>cases h;exact⟨_,_,rfl,.inr ⟨_,e _ _ h'⟩,r.s⟩
 | az _=>cases h
 | bl _=>cases h
 | int _=>cases h
 | str _=>cases h
 | tup _ _ _=>cases h
 | obj _ _ _ _=>cases h
 | bG _ _=>cases h
theorem S.rep{xs:List D}{ws:List V}(s:S F H xs ws):∀k:Nat,S F H (aX k xs).flatten (aX k ws).flatten
 | 0=>by simpa using S.nil
 | k+1=>by
  rw[uv,uv,wR,wR]
  exact s.append (S.rep s k)
def pH:dh:=λx y Q=>match x,y with
 | .int i,.int j=>Q (.int (i+j))
 | .str a,.str b=>a.length+b.length<=sizeLine/\Q (.str (a++b))
 | .lst _ xs,.lst _ ys=>(xs.length+ys.length<=sizeLine/\xs.all D.pl=true/\ys.all D.pl=true)/\Q (.lst true (xs++ys))
 | _,_=>False
theorem cH3:bY X (binaryOp .Add) λx y Q=>∃o xs o' ys,x=.lst o xs/\y=.lst o' ys/\(xs.length+ys.length<=sizeLine/\xs.all D.pl=true/\ys.all D.pl=true)/\Q (.lst true (xs++ys)) :=
 ⟨_,LA,λ{B F H σ δ ts x y v w Q Qd} c sx sy h k=>by
  obtain⟨o,xs,o',ys,rfl,rfl,⟨hz,h1,h2⟩,q⟩:=h
  obtain⟨p,ws,rfl,e1,s1⟩:=iP sx c.ext
  obtain⟨p',eB,rfl,e2,s2⟩:=iP sy c.ext
  refine⟨p,p',ws,eB,rfl,rfl,e1,e2,by rw[<-s1.length,<- s2.length];exact hz,λr hr=>?_⟩
  exact k _ _ _ q (ah.upd hr) (c.nQ hr (s1.append s2) (by simp[h1,h2]))⟩
theorem cV0:bY X (binaryOp .Add) λx y Q=>∃i j,x=.str i/\y=.str j/\i.length+j.length<=sizeLine/\Q (.str (i++j)) :=
 ⟨_,Yw,λ{B F H σ δ ts x y v w Q Qd} c sx sy h k=>by
  obtain⟨i,j,rfl,rfl,hz,q⟩:=h
  cases sx;cases sy
  exact⟨i,j,rfl,rfl,hz,k _ _ _ q (ah.refl _) (c.pushS (.str .nil) rfl)⟩⟩
theorem dH:bY X (binaryOp .Add) pH:=((nW (gd:=λi j=>.int (i+j)) Yd (λ_ _ _ _=>.int .nil) λ_ _=>rfl).or (cV0.or cH3)).imp λx y Q h=>by
 unfold pH at h
 split at h
 ·exact .inl ⟨_,_,rfl,rfl,h⟩
 ·exact .inr (.inl ⟨_,_,rfl,rfl,h.1,h.2⟩)
 ·exact .inr (.inr ⟨_,_,_,_,rfl,rfl,h.1,h.2⟩)
 ·exact h.elim
def iI(C:Int->Int->Prop)(g:Int->Int->D):dh:=λx y Q=>match x,y with
 | .int i,.int j=>C i j/\Q (g i j)
 | _,_=>False
def ik(g:Int->Int->D):dh:=λx y Q=>match x,y with
 | .int i,.int j=>Q (g i j)
 | _,_=>False
theorem Ci{f:Value->Value->Sem Value}{C:Int->Int->Prop}{g:Int->Int->D}(h:bY X f λx y Q=>∃i j,x=.int i/\y=.int j/\C i j/\Q (g i j)):bY X f (iI C g):=h.imp λx y Q h=>by
 unfold iI at h
 split at h
 ·exact⟨_,_,rfl,rfl,h.1,h.2⟩
 ·exact h.elim
theorem pI{f:Value->Value->Sem Value}{g:Int->Int->D}(h:bY X f λx y Q=>∃i j,x=.int i/\y=.int j/\Q (g i j)):bY X f (ik g):=h.imp λx y Q h=>by
 unfold ik at h
 split at h
 ·exact⟨_,_,rfl,rfl,h⟩
 ·exact h.elim
def rT:dh:=ik λi j=>.int (i-j)
theorem eC:bY X (binaryOp .Sub) rT:=pI (nW Ye (λ_ _ _ _=>.int .nil) λ_ _=>rfl)
def FP(_ j:Int):Prop:=0<j/\j.natAbs.log2<9000
theorem mS{i j:Int}(h1:0<j)(h2:j<1073741824):FP i j:=⟨h1,by
 have h:j.natAbs<2 ^ 30:=by omega
 have:=(Nat.log2_lt (show j.natAbs≠0 by omega)).mpr h
 omega⟩
theorem b91:cV X (binaryOp .FloorDiv) (rI FP λi j=>.int (i/j)):=za λi j _ _ _ _ _ hc q =>
 floordiv_int (show j≠0 by have:=hc.1;omega) (by rw[Wy i (by have:=hc.1;omega)];exact q) (.inl (PyProof.noPylong_of_log2 hc.2))
def rW:dh:=iI FP λi j=>.int (i/j)
theorem mT:bY X (binaryOp .FloorDiv) rW:=Ci (zO b91 (λ_ _ _ _=>.int .nil) λ_ _=>rfl)
def rX:dh:=iI (λ_ j=>0<j) λi j=>.int (i%j)
theorem dP:bY X (binaryOp .Mod) rX:=Ci (zO Yf (λ_ _ _ _=>.int .nil) λ_ _=>rfl)
def rY:dh:=iI L7 λi j=>.int (i*2 ^ j.toNat)
theorem u7:bY X (binaryOp .LShift) rY:=Ci (zO ι (λ_ _ _ _=>.int .nil) λ_ _=>rfl)
def rZ:dh:=iI (λ_ j=>0<=j) λi j=>.int (i/2 ^ j.toNat)
theorem MB:bY X (binaryOp .RShift) rZ:=Ci (zO Yg (λ_ _ _ _=>.int .nil) λ_ _=>rfl)
def r6:dh:=ik λi j=>.int (qH i j)
theorem MC:bY X (binaryOp .BitAnd) r6:=pI (nW Yh (λ_ _ _ _=>.int .nil) λ_ _=>rfl)
def r9:dh:=ik λi j=>.int (qI i j)
theorem zP:bY X (binaryOp .BitXor) r9:=pI (nW Yi (λ_ _ _ _=>.int .nil) λ_ _=>rfl)
theorem cc3:cV X (binaryOp .Mult) (rI IntMulOk λi j=>.int (i*j)):=za λ_ _ _ _ _ _ _ hc q=>mul_int q hc
def pJ:dh:=λx y Q=>match x,y with
 | .int i,.int j=>IntMulOk i j/\Q (.int (i*j))
 | .lst _ xs,.int k=>(-(2 ^ 63)<=k/\k<2 ^ 63/\xs.length*k.toNat<=sizeLine/\xs.all D.pl=true)/\Q (.lst true (aX k.toNat xs).flatten)
 | _,_=>False
theorem cJ5:bY X (binaryOp .Mult) λx y Q=>∃o xs k,x=.lst o xs/\y=.int k/\(-(2 ^ 63)<=k/\k<2 ^ 63/\xs.length*k.toNat<=sizeLine/\xs.all D.pl=true)/\Q (.lst true (aX k.toNat xs).flatten) :=
 ⟨_,ZC,λ{B F H σ δ ts x y v w Q Qd} c sx sy h k=>by
  obtain⟨o,xs,n,rfl,rfl,⟨b1,b2,hz,h1⟩,q⟩:=h
  obtain⟨p,ws,rfl,e1,s1⟩:=iP sx c.ext
  cases sy
  refine⟨p,n,ws,rfl,rfl,e1,b1,b2,by rw[<-s1.length];exact hz,λr hr=>?_⟩
  refine k _ _ _ q (ah.upd hr) (c.nQ hr (s1.rep _) ?_)
  rw[cJ]
  intro x hx
  obtain⟨l,hl,se⟩:=List.mem_flatten.mp hx
  rw[(k6.mp hl).2]at se
  exact cJ.mp h1 x se⟩
theorem gy:bY X (binaryOp .Mult) pJ:=((zO (gd:=λi j=>.int (i*j)) cc3 (λ_ _ _ _=>.int .nil) λ_ _=>rfl).or cJ5).imp λx y Q h=>by
 unfold pJ at h
 split at h
 ·exact .inl ⟨_,_,rfl,rfl,h.1,h.2⟩
 ·exact .inr ⟨_,_,_,rfl,rfl,h.1,h.2⟩
 ·exact h.elim
theorem cy7:bY X (inplaceOp .Add) (ik λi j=>.int (i+j)):=pI (nW Yj (λ_ _ _ _=>.int .nil) λ_ _=>rfl)
theorem Cj:bY X (inplaceOp .BitXor) (ik λi j=>.int (qI i j)):=pI (nW Yk (λ_ _ _ _=>.int .nil) λ_ _=>rfl)
def sj:dh:=ik λi j=>.bl (decide (i<j))
def sk:dh:=ik λi j=>.bl (decide (i<=j))
def so:dh:=ik λi j=>.bl (decide (j<i))
def sq:dh:=ik λi j=>.bl (decide (j<=i))
theorem pK:bY X (compareOp .Lt) sj:=pI (nW Yn (λ_ _ _ _=>.bl .nil) λ_ _=>rfl)
theorem lL:bY X (compareOp .LtE) sk:=pI (nW Yo (λ_ _ _ _=>.bl .nil) λ_ _=>rfl)
theorem u9:bY X (compareOp .Gt) so:=pI (nW Yp (λ_ _ _ _=>.bl .nil) λ_ _=>rfl)
theorem cO1:bY X (compareOp .GtE) sq:=pI (nW Yq (λ_ _ _ _=>.bl .nil) λ_ _=>rfl)
def mU:D->Bool
 | .az=>true
 | _=>false
def pL:dh:=λx y Q=>match y with
 | .az=>Q (.bl (mU x))
 | _=>False
def pM:dh:=λx y Q=>match y with
 | .az=>Q (.bl (!mU x))
 | _=>False
theorem MD{d:D}(s:S F H [d] [v]):decide (v=.az)=mU d:=by cases s<;>simp[mU]
theorem ME:bY X (compareOp .Is) pL:=⟨_,Yr,λ{B F H σ δ ts x y v w Q Qd} c sx sy h k=>by
 unfold pL at h
 split at h
 ·cases sy
  refine⟨rfl,?_⟩
  rw[MD sx]
  exact k _ _ _ h (ah.refl _) (c.pushS (.bl .nil) rfl)
 ·exact h.elim⟩
theorem cC1:bY X (compareOp .IsNot) pM:=⟨_,Ys,λ{B F H σ δ ts x y v w Q Qd} c sx sy h k=>by
 unfold pM at h
 split at h
 ·cases sy
  refine⟨rfl,?_⟩
  rw[MD sx]
  exact k _ _ _ h (ah.refl _) (c.pushS (.bl .nil) rfl)
 ·exact h.elim⟩
def bS:D->D->Bool
 | .az,.az=>true
 | .bl a,.bl b=>a==b
 | .bl a,.int b=>(if a then 1 else 0)==b
 | .int a,.bl b=>a==(if b then 1 else 0)
 | .int a,.int b=>a==b
 | .str a,.str b=>a==b
 | .lst _ xs,.lst _ ys=>gI xs ys
 | .tup xs,.tup ys=>gI xs ys
 | _,_=>false
where gI:List D->List D->Bool
 | [],[]=>true
 | x::xs,y::ys=>bS x y&&gI xs ys
 | _,_=>false
def dY:Nat->D->Bool
 | _,.az=>true
 | _,.bl _=>true
 | _,.int _=>true
 | _,.str _=>true
 | n+1,.lst _ xs=>xs.all (dY n)
 | n+1,.tup xs=>xs.all (dY n)
 | _,_=>false
theorem FQ:∀(xs ys:List D),xs.length=ys.length->bS.gI xs ys=(aH xs.length).all λj=>bS (xs.getD j .az) (ys.getD j .az)
 | [],[],_=>rfl
 | x::xs,y::ys,h=>by
  rw[ft,WJ,bA,nF]
  show(bS x y&&bS.gI xs ys)=_
  rw[FQ xs ys (by simpa using h)]
  rfl
theorem FR:∀(xs ys:List D),xs.length≠ys.length->bS.gI xs ys=false
 | [],[],h=>absurd rfl h
 | [],_::_,_=>rfl
 | _::_,[],_=>rfl
 | x::xs,y::ys,h=>by
  show(bS x y&&bS.gI xs ys)=false
  rw[FR xs ys (by simpa using h),JN]
def ofV:V->D
 | .bl b=>.bl b
 | .int i=>.int i
 | .str z=>.str z
 | _=>.az
theorem zQ{x:D}{v:V}(h:dY 0 x=true)(s:S F H [x] [v]):x=ofV v:=by
 cases s with
 | az _=>rfl
 | bl _=>rfl
 | int _=>rfl
 | str _=>rfl
 | _=>cases h
theorem MF{x:D}(h:dY 0 x=true):bS x x=true:=by
 cases x with
 | az=>rfl
 | bl b=>exact beq_self_eq_true b
 | int i=>exact beq_self_eq_true i
 | str z=>exact beq_self_eq_true z
 | _=>cases h
theorem sr{n:Nat}{x:D}(h:dY (n+1) x=true):dY 0 x=true\/(∃o xs,x=.lst o xs/\xs.all (dY n)=true)\/∃xs,x=.tup xs/\xs.all (dY n)=true:=by
 cases x with
 | lst o xs=>exact .inr (.inl ⟨o,xs,rfl,h⟩)
 | tup xs=>exact .inr (.inr ⟨xs,rfl,h⟩)
 | obj _ _ _=>exact absurd h iA
 | fz _=>exact absurd h iA
 | bG _=>exact absurd h iA
 | _=>exact .inl rfl
theorem Ck{x:D}{p:Addr}(h:dY 0 x=true)(s:S F H [x] [.ref p]):False:=by
 rw[zQ h s]at s
 cases s
theorem MG:∀(n:Nat) {xs ys:List D} {vs:List V},xs.all (dY n)=true->ys.all (dY n)=true->S F H xs vs->S F H ys vs->ah F H->bS.gI xs ys=true:=by
 intro n xs
 induction n generalizing xs with
 | zero =>
  induction xs with
  | nil=>intro ys vs _ _ s1 s2 _;cases s1;cases s2;rfl
  | cons x xs ih =>
   intro ys vs h1 h2 s1 s2 e
   obtain⟨v,cX,rfl,q1,r1⟩:=s1.dq
   cases ys with
   | nil=>cases s2
   | cons y ys =>
    obtain⟨v',Mo,ee,q2,r2⟩:=s2.dq
    obtain⟨rfl,rfl⟩:=nE ee
    rw[bA,cK]at h1 h2
    show(bS x y&&bS.gI xs ys)=true
    rw[ih h1.2 h2.2 r1 r2 e,ky,zQ h2.1 q2,<- zQ h1.1 q1]
    exact MF h1.1
 | succ n MH =>
  induction xs with
  | nil=>intro ys vs _ _ s1 s2 _;cases s1;cases s2;rfl
  | cons x xs ih =>
   intro ys vs h1 h2 s1 s2 e
   obtain⟨v,cX,rfl,q1,r1⟩:=s1.dq
   cases ys with
   | nil=>cases s2
   | cons y ys =>
    obtain⟨v',Mo,ee,q2,r2⟩:=s2.dq
    obtain⟨rfl,rfl⟩:=nE ee
    rw[bA,cK]at h1 h2
    show(bS x y&&bS.gI xs ys)=true
    rw[ih h1.2 h2.2 r1 r2 e,ky]
    have h1:=h1.1
    have h2:=h2.1
    clear ih r1 r2 s1 s2
    rcases sr h1 with k1 | ⟨o1,a1,rfl,k1⟩ | ⟨a1,rfl,k1⟩
    ·rcases sr h2 with k2 | ⟨o2,a2,rfl,k2⟩ | ⟨a2,rfl,k2⟩
     ·rw[zQ k2 q2,<- zQ k1 q1]
      exact MF k1
     ·obtain⟨p,ws,rfl,_⟩:=iP q2 e
      exact(Ck k1 q1).elim
     ·obtain⟨p,ws,rfl,_⟩:=mR q2
      exact(Ck k1 q1).elim
    ·obtain⟨p,ws,rfl,e1,t1⟩:=iP q1 e
     rcases sr h2 with k2 | ⟨o2,a2,rfl,k2⟩ | ⟨a2,rfl,k2⟩
     ·exact(Ck k2 q2).elim
     ·obtain⟨p2,Cm,ev,e2,t2⟩:=iP q2 e
      cases ev
      cases e1.symm.trans e2
      exact MH k1 k2 t1 t2 e
     ·obtain⟨p2,Cm,ev,e2,t2⟩:=mR q2
      cases ev
      cases e1.symm.trans e2
    ·obtain⟨p,ws,rfl,e1,t1⟩:=mR q1
     rcases sr h2 with k2 | ⟨o2,a2,rfl,k2⟩ | ⟨a2,rfl,k2⟩
     ·exact(Ck k2 q2).elim
     ·obtain⟨p2,Cm,ev,e2,t2⟩:=iP q2 e
      cases ev
      cases e1.symm.trans e2
     ·obtain⟨p2,Cm,ev,e2,t2⟩:=mR q2
      cases ev
      cases e1.symm.trans e2
      exact MH k1 k2 t1 t2 e
end
end L3
namespace L3
open PySem L2 PySem.Spec PyProof.Rows
structure MI(A:Around)(s:Shared)(u w:Value)(b:Bool):Prop where
 rc:SeqAt.RcAt A s u w b
 ne:SeqAt.RcNeAt A s u w (!b)
 eq:D7 A s u w b
section
variable{X:Cx}{F H:Hp}{v w:V}
theorem MJ{xs:List V}{us:List Value}(r:Vals xs us){j:Nat}(h:j<us.toArray.size):∃x,xs[j]?=some x/\RelV x us.toArray[j]:=by
 have l:=r.length
 have hj:j<xs.length:=by rw[l];simpa using h
 obtain⟨u,e,q⟩:=r.get (aM hj)
 obtain⟨_,z⟩:=kr.mp e
 refine⟨_,aM hj,?_⟩
 have:us.toArray[j]=u:=by simpa using z
 rw[this];exact q
theorem MK{xs:List D}{j:Nat}{d:D}(h:xs[j]?=some d):xs.getD j .az=d:=by rw[aL,h];rfl
theorem xE{x:D}{v:V}{u:Value}(h:dY 0 x=true)(s:S F H [x] [v])(r:RelV v u):(x=.az/\u=.none)\/(∃b,x=.bl b/\u=.bool b)\/(∃i t,x=.int i/\u=.int i t)\/∃z t,x=.str z/\u=.str z t:=by
 cases s with
 | az _=>cases r;exact .inl ⟨rfl,rfl⟩
 | bl _=>cases r;exact .inr (.inl ⟨_,rfl,rfl⟩)
 | int _=>obtain⟨t,rfl⟩:=r;exact .inr (.inr (.inl ⟨_,t,rfl,rfl⟩))
 | str _=>obtain⟨t,rfl⟩:=r;exact .inr (.inr (.inr ⟨_,t,rfl,rfl⟩))
 | _=>exact absurd h iA
theorem ML{x y:D}{u u':Value}{A:Around}{s:Shared}(h1:(x=.az/\u=.none)\/(∃b,x=.bl b/\u=.bool b)\/(∃i t,x=.int i/\u=.int i t)\/∃z t,x=.str z/\u=.str z t)(h2:(y=.az/\u'=.none)\/(∃b,y=.bl b/\u'=.bool b)\/(∃i t,y=.int i/\u'=.int i t)\/∃z t,y=.str z/\u'=.str z t):MI A s u u' (bS x y):=by
 rcases h1 with⟨rfl,rfl⟩ | ⟨a,rfl,rfl⟩ | ⟨a,t,rfl,rfl⟩ | ⟨a,t,rfl,rfl⟩<;>rcases h2 with⟨rfl,rfl⟩ | ⟨b,rfl,rfl⟩ | ⟨b,t',rfl,rfl⟩ | ⟨b,t',rfl,rfl⟩
 ·exact⟨.none_none,.none_none,.same _⟩
 ·exact⟨.none_bool _,.none_bool _,.none_bool _⟩
 ·exact⟨.none_int _ _,.none_int _ _,.none_int _ _⟩
 ·exact⟨.none_str _ _,.none_str _ _,.none_str _ _⟩
 ·exact⟨.bool_none _,.bool_none _,.bool_none _⟩
 ·exact⟨.bool_bool _ _,.bool_bool _ _,.bool_bool _ _⟩
 ·exact⟨.bool_int _ _ _,.bool_int _ _ _,.bool_int _ _ _⟩
 ·exact⟨.bool_str _ _ _,.bool_str _ _ _,.bool_str _ _ _⟩
 ·exact⟨.int_none _ _,.int_none _ _,.int_none _ _⟩
 ·exact⟨.int_bool _ _ _,.int_bool _ _ _,.int_bool _ _ _⟩
 ·exact⟨.int_int _ _ _ _,.int_int _ _ _ _,.int_int _ _ _ _⟩
 ·exact⟨.int_str _ _ _ _,.int_str _ _ _ _,.int_str _ _ _ _⟩
 ·exact⟨.str_none _ _,.str_none _ _,.str_none _ _⟩
 ·exact⟨.str_bool _ _ _,.str_bool _ _ _,.str_bool _ _ _⟩
 ·exact⟨.str_int _ _ _ _,.str_int _ _ _ _,.str_int _ _ _ _⟩
 ·exact⟨.str_str _ _ _ _,.str_str _ _ _ _,.str_str _ _ _ _⟩
theorem MM{pins:List (Addr × Obj)}{σ:L2.St}{s:Shared}(I:Inv X pins σ H s)(e:ah F H):∀(n:Nat) (x y:D) (v w:V) (u u':Value) (A:Around),dY n x=true->dY n y=true->S F H [x] [v]->S F H [y] [w]->RelV v u->RelV w u' ->
  A.units+n<cLine->MI A s u u' (bS x y):=by
 intro n
 induction n with
 | zero =>
  intro x y v w u u' A hx hy sx sy rv gU hu
  exact ML (xE hx sx rv) (xE hy sy gU)
 | succ n ih =>
  intro x y v w u u' A hx hy sx sy rv gU hu
  have bD:A.units<cLine:=yC (Nat.le_add_right ..) hu
  have MN:A.in1.units+n<cLine:=by show A.units+1+n<cLine;rw[Bv,yA 1];exact hu
  have items:∀{xs ys:List D} {vs ws:List V} {us vb:List Value},xs.all (dY n)=true->ys.all (dY n)=true->S F H xs vs->S F H ys ws->Vals vs us->Vals ws vb ->
    ∀j (h1:j<us.toArray.size) (h2:j<vb.toArray.size),D7 A.in1 s us.toArray[j] vb.toArray[j] (bS (xs.getD j .az) (ys.getD j .az)):=by
   intro xs ys vs ws us vb hx hy sx sy r1 r2 j h1 h2
   obtain⟨a,e1,q1⟩:=MJ r1 h1
   obtain⟨b,e2,q2⟩:=MJ r2 h2
   obtain⟨d1,g1,t1⟩:=sx.get' e1
   obtain⟨d2,g2,t2⟩:=sy.get' e2
   rw[MK g1,MK g2]
   exact(ih d1 d2 a b _ _ A.in1 (cJ.mp hx d1 (ur g1)) (cJ.mp hy d2 (ur g2)) t1 t2 q1 q2 MN).eq
  clear ih hu MN
  rcases sr hx with k1 | ⟨o,xs,rfl,k1⟩ | ⟨xs,rfl,k1⟩
  ·have f:=xE k1 sx rv
   rcases sr hy with k2 | ⟨o',ys,rfl,k2⟩ | ⟨ys,rfl,k2⟩
   ·exact ML f (xE k2 sy gU)
   ·obtain⟨p',eB,rfl,e2,t2⟩:=iP sy e
    cases gU
    obtain⟨mV,r2,p2,z2⟩:=I.list (bL.of (K:=X.K) e2)
    have p2:=p2.isList
    rcases f with⟨rfl,rfl⟩ | ⟨a,rfl,rfl⟩ | ⟨a,t,rfl,rfl⟩ | ⟨a,t,rfl,rfl⟩
    ·exact⟨.none_list p2 bD,.none_list p2 bD,.none_list p2 bD⟩
    ·exact⟨.bool_list _ p2 bD,.bool_list _ p2 bD,.bool_list _ p2 bD⟩
    ·exact⟨.int_list _ _ p2 bD,.int_list _ _ p2 bD,.int_list _ _ p2 bD⟩
    ·exact⟨.str_list _ _ p2 bD,.str_list _ _ p2 bD,.str_list _ _ p2 bD⟩
   ·obtain⟨p',eB,rfl,e2,t2⟩:=mR sy
    cases gU
    obtain⟨mV,r2,p2,z2⟩:=I.tuple (i6.of (K:=X.K) e2)
    rcases f with⟨rfl,rfl⟩ | ⟨a,rfl,rfl⟩ | ⟨a,t,rfl,rfl⟩ | ⟨a,t,rfl,rfl⟩
    ·exact⟨.none_tuple p2 bD,.none_tuple p2 bD,.none_tuple p2 bD⟩
    ·exact⟨.bool_tuple _ p2 bD,.bool_tuple _ p2 bD,.bool_tuple _ p2 bD⟩
    ·exact⟨.int_tuple _ _ p2 bD,.int_tuple _ _ p2 bD,.int_tuple _ _ p2 bD⟩
    ·exact⟨.str_tuple _ _ p2 bD,.str_tuple _ _ p2 bD,.str_tuple _ _ p2 bD⟩
  ·obtain⟨p,ws,rfl,e1,t1⟩:=iP sx e
   cases rv
   obtain⟨its,r1,p1,z1⟩:=I.list (bL.of (K:=X.K) e1)
   have p1:=p1.isList
   rcases sr hy with k2 | ⟨o',ys,rfl,k2⟩ | ⟨ys,rfl,k2⟩
   ·rcases xE k2 sy gU with⟨rfl,rfl⟩ | ⟨a,rfl,rfl⟩ | ⟨a,t,rfl,rfl⟩ | ⟨a,t,rfl,rfl⟩
    ·exact⟨.list_none p1 bD,.list_none p1 bD,.list_none p1 bD⟩
    ·exact⟨.list_bool _ p1 bD,.list_bool _ p1 bD,.list_bool _ p1 bD⟩
    ·exact⟨.list_int _ _ p1 bD,.list_int _ _ p1 bD,.list_int _ _ p1 bD⟩
    ·exact⟨.list_str _ _ p1 bD,.list_str _ _ p1 bD,.list_str _ _ p1 bD⟩
   ·obtain⟨p',eB,rfl,e2,t2⟩:=iP sy e
    cases gU
    obtain⟨mV,r2,p2,z2⟩:=I.list (bL.of (K:=X.K) e2)
    have p2:=p2.isList
    have zR:xs.length=its.length:=t1.length.trans r1.length
    have Cn:ys.length=mV.length:=t2.length.trans r2.length
    by_cases hl:xs.length=ys.length
    ·have q5:its.toArray.size=mV.toArray.size:=by rw[dF,dF,<- zR,<- Cn];exact hl
     have ev:(aH its.toArray.size).all (λj=>bS (xs.getD j .az) (ys.getD j .az))=bS (.lst o xs) (.lst o' ys):=by
      show _=bS.gI xs ys
      rw[FQ xs ys hl,dF,<- zR]
     have a:=SeqAt.RcAt.lists (e:=λj=>bS (xs.getD j .az) (ys.getD j .az)) p1 p2 q5 bD (items k1 k2 t1 t2 r1 r2)
     have b:=SeqAt.RcNeAt.lists (e:=λj=>bS (xs.getD j .az) (ys.getD j .az)) p1 p2 q5 bD (items k1 k2 t1 t2 r1 r2)
     rw[ev]at a b
     refine⟨a,b,?_⟩
     by_cases vd:p=p'
     ·subst vd
      cases e1.symm.trans e2
      rw[show bS (.lst o xs) (.lst o' ys)=true from MG n k1 k2 t1 t2 e]
      exact .same _
     ·exact .of_refs vd a
    ·have q5:(its.toArray.size != mV.toArray.size)=true:=bne_iff_ne.mpr (by rw[dF,dF,<- zR,<- Cn];exact hl)
     rw[show bS (.lst o xs) (.lst o' ys)=false from FR xs ys hl]
     have a:=SeqAt.RcAt.lists_lengths p1 p2 q5 bD
     refine⟨a,SeqAt.RcNeAt.lists_lengths p1 p2 q5 bD,.of_refs (λvd=>?_) a⟩
     subst vd
     cases e1.symm.trans e2
     exact hl (t1.length.trans t2.length.symm)
   ·obtain⟨p',eB,rfl,e2,t2⟩:=mR sy
    cases gU
    obtain⟨mV,r2,p2,z2⟩:=I.tuple (i6.of (K:=X.K) e2)
    exact⟨.list_tuple p1 p2 bD,.list_tuple p1 p2 bD,.list_tuple p1 p2 bD⟩
  ·obtain⟨p,ws,rfl,e1,t1⟩:=mR sx
   cases rv
   obtain⟨its,r1,p1,z1⟩:=I.tuple (i6.of (K:=X.K) e1)
   rcases sr hy with k2 | ⟨o',ys,rfl,k2⟩ | ⟨ys,rfl,k2⟩
   ·rcases xE k2 sy gU with⟨rfl,rfl⟩ | ⟨a,rfl,rfl⟩ | ⟨a,t,rfl,rfl⟩ | ⟨a,t,rfl,rfl⟩
    ·exact⟨.tuple_none p1 bD,.tuple_none p1 bD,.tuple_none p1 bD⟩
    ·exact⟨.tuple_bool _ p1 bD,.tuple_bool _ p1 bD,.tuple_bool _ p1 bD⟩
    ·exact⟨.tuple_int _ _ p1 bD,.tuple_int _ _ p1 bD,.tuple_int _ _ p1 bD⟩
    ·exact⟨.tuple_str _ _ p1 bD,.tuple_str _ _ p1 bD,.tuple_str _ _ p1 bD⟩
   ·obtain⟨p',eB,rfl,e2,t2⟩:=iP sy e
    cases gU
    obtain⟨mV,r2,p2,z2⟩:=I.list (bL.of (K:=X.K) e2)
    have p2:=p2.isList
    exact⟨.tuple_list p1 p2 bD,.tuple_list p1 p2 bD,.tuple_list p1 p2 bD⟩
   ·obtain⟨p',eB,rfl,e2,t2⟩:=mR sy
    cases gU
    obtain⟨mV,r2,p2,z2⟩:=I.tuple (i6.of (K:=X.K) e2)
    have zR:xs.length=its.length:=t1.length.trans r1.length
    have Cn:ys.length=mV.length:=t2.length.trans r2.length
    have ev:((aH (min its.toArray.size mV.toArray.size)).all (λj=>bS (xs.getD j .az) (ys.getD j .az))&&its.toArray.size==mV.toArray.size)=bS (.tup xs) (.tup ys):=by
     show _=bS.gI xs ys
     rw[dF,dF,<- zR,<- Cn]
     by_cases hl:xs.length=ys.length
     ·rw[FQ xs ys hl,<- hl,Bw,beq_self_eq_true,ky]
     ·rw[FR xs ys hl,beq_false_of_ne hl,JN]
    have a:=SeqAt.RcAt.tuples (e:=λj=>bS (xs.getD j .az) (ys.getD j .az)) p1 p2 bD (items k1 k2 t1 t2 r1 r2)
    have b:=SeqAt.RcNeAt.tuples (e:=λj=>bS (xs.getD j .az) (ys.getD j .az)) p1 p2 bD (items k1 k2 t1 t2 r1 r2)
    rw[ev]at a b
    refine⟨a,b,?_⟩
    by_cases vd:p=p'
    ·subst vd
     cases e1.symm.trans e2
     rw[show bS (.tup xs) (.tup ys)=true from MG n k1 k2 t1 t2 e]
     exact .same _
    ·exact .of_refs vd a
def sA:dh:=λx y Q=>(dY 6 x=true/\dY 6 y=true)/\Q (.bl (bS x y))
def sC:dh:=λx y Q=>(dY 6 x=true/\dY 6 y=true)/\Q (.bl (!bS x y))
theorem fF(hu:X.A.units+6<cLine):bY X (compareOp .Eq) sA:=bY.of λpins s σ H v w u u' Q I rv gU zz=>by
 obtain⟨B,F,aN,δ,ts,x,y,Qd,c,sx,sy,⟨⟨hx,hy⟩,q⟩,k⟩:=zz
 exact(MM I c.ext 6 x y v w u u' X.A hx hy sx sy rv gU hu).rc _ _ _ _ ⟨.bl _,H,I,rfl,k _ _ _ q (ah.refl _) (c.pushS (.bl .nil) rfl)⟩
theorem gZ(hu:X.A.units+6<cLine):bY X (compareOp .NotEq) sC:=bY.of λpins s σ H v w u u' Q I rv gU zz=>by
 obtain⟨B,F,aN,δ,ts,x,y,Qd,c,sx,sy,⟨⟨hx,hy⟩,q⟩,k⟩:=zz
 exact(MM I c.ext 6 x y v w u u' X.A hx hy sx sy rv gU hu).ne _ _ _ _ ⟨.bl _,H,I,rfl,k _ _ _ q (ah.refl _) (c.pushS (.bl .nil) rfl)⟩
end
end L3
namespace L3
open PySem L2 PySem.Spec PyProof.Rows
section
variable{X:Cx}{F H:Hp}{v w:V}{e a b c o:Expr}{es:List Expr}{pos p p2 apos bR:Pos}{t ta tb tc te:aJ}{tr:cP}{x:Str}
theorem bS8{r r':R2}{rd zS:dh}(hl:Ca r rd)(jZ:Ca r' zS):∀σ H Q,lE (oZ rd zS ta tb tc) σ H Q->KZ r r' (lB ta) (lB tb) (lB tc) σ H Q:=λσ H Q ⟨B,F,δ,ts,Qd,c,q,k⟩ =>
 ⟨B,F,δ,ts,_,c,q,λx ao v F1 H1 q1 f1 h1 c1 s1=>⟨B,F1,ao,ts,_,c1,q1,λy bg w F2 H2 q2 f2 h2 c2 s2=>by
  refine hl c2 (s1.mono f2 h2) s2 q2 λd z H' hd hs c3=>?_
  obtain⟨b,rfl,qb⟩:=hd
  have st:=c3.top
  cases st with
  | bl _ =>
   refine⟨b,rfl,?_⟩
   cases b with
   | true =>
    refine oS ⟨B,F2,bg,ts,_,c3.pop,by simpa using qb,λz gX w3 F3 H3 q3 f3 h3 c4 s3=>?_⟩
    exact jZ c4 (s2.mono f3 (hs.trans h3)) s3 q3 λd z H' hd hs' c5=>k d gX z F3 H' hd ((f1.trans f2).trans f3) ((((h1.trans h2).trans hs).trans h3).trans hs') c5
   | false=>exact oR (k _ bg _ F2 H' (by simpa using qb) (f1.trans f2) ((h1.trans h2).trans hs) (c3.pop.pushS (.bl .nil) rfl))⟩⟩
theorem ve{op uO:CmpOp}{rd zS:dh}(ho:bY X (compareOp op) rd)(my:bY X (compareOp uO) zS)(ha:PE X a (lB ta))(hb:PE X b (lB tb))(hc:PE X c (lB tc))
  (hm:lastMarks [op,uO] [b,c]=false:=by with_unfolding_all rfl):PE X (.Compare a [op,uO] [b,c] pos) (lE (oZ rd zS ta tb tc)):=by
 obtain⟨r,h1,h2⟩:=ho
 obtain⟨r',lH,kG⟩:=my
 exact dr (Yv h1 lH ha hb hc hm) (bS8 h2 kG)
def sD(t:aJ):aJ:=λδ Q=>t δ λd ai=>match d with
 | .int i=>Q (.int (-i)) ai
 | _=>False
theorem cI0(ha:PE X a (lB ta)):PE X (.UnaryOp .USub a pos) (lE (sD ta)):=dr (Yb Ym ha) λσ H Q zq=>by
 obtain⟨B,F,δ,ts,Qd,c,q,k⟩:=zq
 exact⟨B,F,δ,ts,_,c,q,λd ao v F1 H1 q1 f1 h1 c1 s1=>by
 cases s1 with
 | int _=>exact⟨_,rfl,k _ ao _ F1 H1 q1 f1 h1 (c1.pushS (.int .nil) rfl)⟩
 | _=>exact q1.elim⟩
abbrev kb:=List D->(D->Prop)->Prop
def lc(rd:kb):List V->Hp->VK->Prop:=λvs H Q=>∃B F σ δ ts ds Qd,av B F H σ δ ts/\S F H ds vs/\rd ds Qd/\∀d z H',Qd d->ah H H'->av B F H' σ δ ((d,z)::ts)->Q z H'
def g5(X:Cx)(f:Value)(rd:kb):Prop:=ia X f (lc rd)
theorem g5.of{f:Value}{r:List V->Hp->VK->Prop}{rd:kb}(h:ia X f r)(m:∀vs H Q,lc rd vs H Q->r vs H Q):g5 X f rd:=λpins s σ H xs us Q I r q=>h pins s σ H xs us Q I r (m xs H Q q)
def nX(rd:kb)(t:cP):aJ:=λδ Q=>t δ λds ai=>rd ds λd=>Q d ai
theorem MP{rd:kb}:∀σ H Q,lE (nX rd tr) σ H Q->EY (lc rd) (lA tr) σ H Q:=λσ H Q zq=>by
 obtain⟨B,F,δ,ts,Qd,c,q,k⟩:=zq
 exact⟨B,F,δ,ts,_,c,q,λds ao vs F1 H1 q1 f1 h1 c1 s1 =>
 ⟨B,F1,σ,ao,ts,ds,_,c1,s1,q1,λd z H' hd hs c'=>k d ao z F1 H' hd f1 (h1.trans hs) c'⟩⟩
theorem di{id:String}{rd:kb}(hc:g5 X (.builtin id) rd)(hg:Gl X x)(hm:X.mg x=none)(hv:bootBuiltins x=some (.builtin id))(ha:PA X (e::es) (lA tr))(hn:x≠"__name__":=by decide)(dZ:(x==("__debug__":Str))=false:=by decide)
  (he:starEach (e::es) X.env=(false,eval e X.env)::starEach es X.env:=by rfl) (bU:(backTo pos (starEach es X.env)).any (·.1)=false:=by rfl):PE X (.Call (.Name x p) (e::es) [] pos) (lE (nX rd tr)) :=
 dr (Le hc hg hm hv ha hn dZ he bU) MP
theorem xF{T:String}{rd:kb}(hc:g5 X (.type T) rd)(hg:Gl X x)(hm:X.mg x=none)(hv:bootBuiltins x=some (.type T))(ha:PA X (e::es) (lA tr))(hn:x≠"__name__":=by decide)(dZ:(x==("__debug__":Str))=false:=by decide)
  (he:starEach (e::es) X.env=(false,eval e X.env)::starEach es X.env:=by rfl) (bU:(backTo pos (starEach es X.env)).any (·.1)=false:=by rfl):PE X (.Call (.Name x p) (e::es) [] pos) (lE (nX rd tr)) :=
 dr (Y5 hc hg hm hv ha hn dZ he bU) MP
theorem lM{d:D}{vs:List V}(s:S F H [d] vs):∃v,vs=[v]/\S F H [d] [v]:=by
 obtain⟨v,cX,rfl,h1,h2⟩:=s.dq
 cases h2
 exact⟨v,rfl,h1⟩
theorem cM1{d d':D}{vs:List V}(s:S F H [d,d'] vs):∃v v',vs=[v,v']/\S F H [d] [v]/\S F H [d'] [v']:=by
 obtain⟨v,cX,rfl,h1,h2⟩:=s.dq
 obtain⟨v',rfl,h3⟩:=lM h2
 exact⟨v,v',rfl,h1,h3⟩
theorem jh{K:PySem.W.Frag}{p:Addr}{ws:List V}(h:Rd H p (.lst ws)):bL K H p ws:=.inl h
def pO:kb:=λds Q=>match ds with
 | [.lst _ xs]=>Q (.int xs.length)
 | [.fz xs]=>Q (.int xs.length)
 | [.tup xs]=>Q (.int xs.length)
 | [.str z]=>z.length<=sizeLine/\Q (.int z.length)
 | _=>False
theorem fG:g5 X (.builtin "len") pO:=g5.of (Zp.or Zq) λvs H Q zz=>by
 obtain⟨B,F,σ,δ,ts,ds,Qd,c,s,q,k⟩:=zz
 unfold pO at q
 split at q
 ·obtain⟨v,rfl,s1⟩:=lM s
  obtain⟨p,ws,rfl,h,t⟩:=lK s1 c.ext rfl
  refine .inl ⟨p,ws,rfl,.inl (jh h),?_⟩
  rw[<-t.length]
  exact k _ _ _ q (ah.refl _) (c.pushS (.int .nil) rfl)
 ·obtain⟨v,rfl,s1⟩:=lM s
  obtain⟨p,ws,rfl,h,t⟩:=lK s1 c.ext rfl
  refine .inl ⟨p,ws,rfl,.inl (jh h),?_⟩
  rw[<-t.length]
  exact k _ _ _ q (ah.refl _) (c.pushS (.int .nil) rfl)
 ·obtain⟨v,rfl,s1⟩:=lM s
  obtain⟨p,ws,rfl,h,t⟩:=mR s1
  refine .inl ⟨p,ws,rfl,.inr (i6.of h),?_⟩
  rw[<-t.length]
  exact k _ _ _ q (ah.refl _) (c.pushS (.int .nil) rfl)
 ·obtain⟨v,rfl,s1⟩:=lM s
  cases s1
  exact .inr ⟨_,rfl,q.1,k _ _ _ q.2 (ah.refl _) (c.pushS (.int .nil) rfl)⟩
 ·exact q.elim
def pP:kb:=λds Q=>match ds with
 | [.lst _ xs]=>xs.all D.pl=true/\Q (.lst true xs)
 | [.fz xs]=>Q (.lst true xs)
 | [.tup xs]=>xs.all D.pl=true/\Q (.lst true xs)
 | _=>False
theorem xG:g5 X (.type "list") pP:=g5.of Zr λvs H Q zz=>by
 obtain⟨B,F,σ,δ,ts,ds,Qd,c,s,q,k⟩:=zz
 unfold pP at q
 split at q
 ·obtain⟨v,rfl,s1⟩:=lM s
  obtain⟨p,ws,rfl,h,t⟩:=lK s1 c.ext rfl
  exact⟨p,ws,rfl,.inl (jh h),λl hl=>k _ _ _ q.2 (ah.upd hl) (c.nQ hl t q.1)⟩
 ·obtain⟨v,rfl,s1⟩:=lM s
  cases s1 with
  | fz h r _=>exact⟨_,_,rfl,.inl (jh (.inr ⟨_,c.ext _ _ h⟩)),λl hl=>k _ _ _ q (ah.upd hl) (c.nQ hl r.s r.pl)⟩
 ·obtain⟨v,rfl,s1⟩:=lM s
  obtain⟨p,ws,rfl,h,t⟩:=mR s1
  exact⟨p,ws,rfl,.inr (i6.of h),λl hl=>k _ _ _ q.2 (ah.upd hl) (c.nQ hl t q.1)⟩
 ·exact q.elim
def ii(g:Int->Int->Int):kb:=λds Q=>match ds with
 | [.int i,.int j]=>Q (.int (g i j))
 | _=>False
theorem cK2{f:Value}{g:Int->Int->Int}(h:ia X f (λxs H Q=>∃i j,xs=[.int i,.int j]/\Q (.int (g i j)) H)):g5 X f (ii g):=g5.of h λvs H Q zz=>by
 obtain⟨B,F,σ,δ,ts,ds,Qd,c,s,q,k⟩:=zz
 unfold ii at q
 split at q
 ·obtain⟨v,v',rfl,s1,s2⟩:=cM1 s
  cases s1;cases s2
  exact⟨_,_,rfl,k _ _ _ q (ah.refl _) (c.pushS (.int .nil) rfl)⟩
 ·exact q.elim
theorem cK7(hc:X.calm=true):g5 X (.builtin "min") (ii λi j=>if j<i then j else i):=cK2 (Yy hc)
def lQ(bs:List Bool):List D:=bs.map D.bl
theorem FT:∀{bs:List Bool} {ws:List V},S F H (lQ bs) ws->ws=bs.map V.bl
 | [],_,s=>by cases s;rfl
 | b::bs,_,s=>by
  cases s with
  | bl s=>rw[FT s];rfl
def pQ:kb:=λds Q=>match ds with
 | [.lst _ xs]=>∃bs,xs=lQ bs/\Q (.bl (bs.all id))
 | _=>False
def pS:kb:=λds Q=>match ds with
 | [.lst _ xs]=>∃bs,xs=lQ bs/\Q (.bl (bs.any id))
 | _=>False
theorem sE(hc:X.calm=true):g5 X (.builtin "all") pQ:=g5.of (Δ hc) λvs H Q zz=>by
 obtain⟨B,F,σ,δ,ts,ds,Qd,c,s,q,k⟩:=zz
 unfold pQ at q
 split at q
 ·obtain⟨v,rfl,s1⟩:=lM s
  obtain⟨bs,rfl,q⟩:=q
  obtain⟨p,ws,rfl,h,t⟩:=lK s1 c.ext rfl
  rw[FT t]at h
  exact⟨p,bs,rfl,jh h,k _ _ _ q (ah.refl _) (c.pushS (.bl .nil) rfl)⟩
 ·exact q.elim
theorem cG7(hc:X.calm=true):g5 X (.builtin "any") pS:=g5.of (Θ hc) λvs H Q zz=>by
 obtain⟨B,F,σ,δ,ts,ds,Qd,c,s,q,k⟩:=zz
 unfold pS at q
 split at q
 ·obtain⟨v,rfl,s1⟩:=lM s
  obtain⟨bs,rfl,q⟩:=q
  obtain⟨p,ws,rfl,h,t⟩:=lK s1 c.ext rfl
  rw[FT t]at h
  exact⟨p,bs,rfl,jh h,k _ _ _ q (ah.refl _) (c.pushS (.bl .nil) rfl)⟩
 ·exact q.elim
def FU:D->Option String
 | .int _=>some "int"
 | .bl _=>some "bool"
 | .az=>some "NoneType"
 | .str _=>some "str"
 | .lst _ _=>some "list"
 | .fz _=>some "list"
 | .tup _=>some "tuple"
 | _=>none
def FV(k n:String):Option Bool:=([("int","int",true),("int","bool",false),("int","list",false),("int","tuple",false),("int","str",false),("bool","int",true),("bool","bool",true),("bool","list",false),("bool","tuple",false),("bool","str",false),
 ("NoneType","int",false),("NoneType","bool",false),("NoneType","list",false),("NoneType","tuple",false),("NoneType","str",false),("str","int",false),("str","bool",false),("str","list",false),("str","tuple",false),("str","str",true),
 ("list","int",false),("list","bool",false),("list","list",true),("list","tuple",false),("list","str",false),("tuple","int",false),("tuple","bool",false),("tuple","list",false),("tuple","tuple",true),("tuple","str",false)].find? λz=>z.1==k&&z.2.1==n).map (·.2.2)
def nY(n:String)(d:D):Option Bool:=(FU d).bind λk=>FV k n
theorem cE1{K:PySem.W.Frag}{k n:String}{r:Bool}(h:FV k n=some r):PySem.W.kitOne K (.type k) (.type n)=some r:=by
 unfold FV at h
 obtain⟨z,hz,rfl⟩:=wX.mp h
 have hm:=JV hz
 have hp:=List.find?_some hz
 rw[cK,beq_iff_eq,beq_iff_eq]at hp
 obtain⟨rfl,rfl⟩:=hp
 simp only[cw,gE,or_false]at hm
 repeat' (rcases hm with hm | hm)
 all_goals rfl
theorem co8{K:PySem.W.Frag}{d:D}(s:S F H [d] [v])(e:ah F H){k:String}(h:FU d=some k):jx K H v (.type k):=by
 cases s with
 | int _=>cases h;exact .int _
 | bl _=>cases h;exact .bl _
 | az _=>cases h;exact .az
 | str _=>cases h;exact .str _
 | shr h' _ _=>cases h;exact .lst (e _ _ h')
 | own h' _ _=>cases h;exact .lst h'
 | fz h' _ _=>cases h;exact .cU (e _ _ h')
 | tup h' _ _=>cases h;exact .tup h'
 | obj _ _ _ _=>cases h
 | bG _ _=>cases h
theorem cM4{K:PySem.W.Frag}{d:D}(s:S F H [d] [v])(e:ah F H){n:String}{r:Bool}(h:nY n d=some r):∃t,jx K H v t/\PySem.W.kitOne K t (.type n)=some r:=by
 unfold nY at h
 cases hk:FU d with
 | none=>rw[hk]at h;cases h
 | some k=>rw[hk]at h;exact⟨_,co8 s e hk,cE1 h⟩
def sF(n:String)(t:aJ):aJ:=λδ Q=>t δ λd ai=>∃r,nY n d=some r/\Q (.bl r) ai
theorem xH{n:String}{y:Str}{q:Pos}(hg:Gl X "isinstance")(hm:X.mg "isinstance"=none)(zT:Gl X y)(sG:X.mg y=none)(hv2:bootBuiltins y=some (.type n))(ha:PE X a (lB ta))
  (hn:y≠"__name__":=by decide) (hd:(y==("__debug__":Str))=false:=by decide)
  (hs:starEach [a,.Name y q] X.env=(false,eval a X.env)::starEach [.Name y q] X.env:=by rfl) (gx:starEach [.Name y q] X.env=(false,eval (.Name y q) X.env)::starEach [] X.env:=by rfl) (bU:(backTo pos (starEach [.Name y q] X.env)).any (·.1)=false:=by rfl) :
  PE X (.Call (.Name "isinstance" p) [a,.Name y q] [] pos) (lE (sF n ta)) :=
 dr (Le ξ hg hm Z9 (jy ha (jy (μ zT sG hv2 hn hd) oJ gx) hs) (by decide) (by decide) hs bU) λσ H Q zq=>by
 obtain⟨B,F,δ,ts,Qd,c,q,k⟩:=zq
 exact⟨B,F,δ,ts,_,c,q,λd ao v F1 H1 q1 f1 h1 c1 s1=>by
  obtain⟨r,e,qr⟩:=q1
  obtain⟨t,h2,h3⟩:=cM4 (K:=X.K) s1 c1.ext e
  exact⟨v,n,t,r,rfl,h2,h3,k _ ao _ F1 H1 qr f1 h1 (c1.pushS (.bl .nil) rfl)⟩⟩
theorem FW{xs:List D}{ws:List V}{i:Int}{d:D}(s:S F H xs ws)(h:fc xs i=some d):∃v,fc ws i=some v/\S F H [d] [v]:=by
 unfold fc at h ⊢
 rw[<-s.length]
 cases e:j5 xs.length i with
 | none=>rw[e]at h;cases h
 | some j =>
  rw[e]at h
  exact s.get h
def pT(x y:D)(Q:D->Prop):Prop:=match x,y with
 | .lst _ xs,.int i=>∃d,fc xs i=some d/\Q d
 | .fz xs,.int i=>∃d,fc xs i=some d/\Q d
 | .tup xs,.int i=>∃d,fc xs i=some d/\Q d
 | .str z,.int i=>z.length<=sizeLine/\∃ch,fc z.cps.toList i=some ch/\Q (.str ⟨#[ch]⟩)
 | _,_=>False
def sH(ta tb:aJ):aJ:=λδ Q=>ta δ λx ao=>tb ao λy bg=>pT x y λd=>Q d bg
theorem bH(ha:PE X a (lB ta))(hb:PE X b (lB tb))(hs:E1 b):PE X (.Subscript a b pos) (lB (sH ta tb)) :=
 dr (Li Zf ha hb hs) λσ H Q zq=>by
 obtain⟨B,F,δ,ts,Qd,c,q,k⟩:=zq
 exact⟨B,F,δ,ts,_,c,q,λx ao v F1 H1 q1 f1 h1 c1 s1=>⟨B,F1,ao,ts,_,c1,q1,λy bg w F2 H2 q2 f2 h2 c2 s2=>by
  have mW:=s1.mono f2 h2
  have fin:∀d z,Qd d bg->S F2 H2 [d] [z]->Q z H2:=λd z hd s=>k d bg z F2 H2 hd (f1.trans f2) (h1.trans h2) c2 s
  unfold pT at q2
  split at q2
  ·obtain⟨d,ed,qd⟩:=q2
   cases s2
   obtain⟨p,ws,rfl,h,t⟩:=lK mW c2.ext rfl
   obtain⟨z,ez,sz⟩:=FW t ed
   exact .inl ⟨p,ws,_,z,rfl,rfl,jh h,ez,fin d z qd sz⟩
  ·obtain⟨d,ed,qd⟩:=q2
   cases s2
   obtain⟨p,ws,rfl,h,t⟩:=lK mW c2.ext rfl
   obtain⟨z,ez,sz⟩:=FW t ed
   exact .inl ⟨p,ws,_,z,rfl,rfl,jh h,ez,fin d z qd sz⟩
  ·obtain⟨d,ed,qd⟩:=q2
   cases s2
   obtain⟨p,ws,rfl,h,t⟩:=mR mW
   obtain⟨z,ez,sz⟩:=FW t ed
   exact .inr (.inl ⟨p,ws,_,z,rfl,rfl,i6.of h,ez,fin d z qd sz⟩)
  ·obtain⟨hz,ch,ec,qc⟩:=q2
   cases mW
   cases s2
   exact .inr (.inr ⟨_,_,ch,rfl,rfl,hz,ec,fin _ _ qc (.str .nil)⟩)
  ·exact q2.elim⟩⟩
abbrev sI:=Dl->(Option Int->Dl->Prop)->Prop
inductive lP(t:sI)(σ:L2.St)(H:Hp)(Q:Option Int->Hp->Prop):Prop
 | mk (B F δ ts Qd) (c:av B F H σ δ ts) (q:t δ Qd) (k:∀o ai F' H',Qd o ai->ah F F'->ah H H'->av B F' H' σ ai ts->Q o H')
theorem MQ{oe:Option Expr}{u u':TO}(h:PO X oe u)(m:∀σ H Q,u' σ H Q->u σ H Q):PO X oe u':=λpins s σ H Q I q=>h pins s σ H Q I (m σ H Q q)
def sJ:sI:=λδ Q=>Q none δ
def sM(t:aJ):sI:=λδ Q=>t δ λd ai=>match d with
 | .int i=>Q (some i) ai
 | _=>False
theorem vf:PO X none (lP sJ):=MQ Y8 λσ H Q ⟨B,F,δ,ts,Qd,c,q,k⟩=>k none δ F H q (ah.refl _) (ah.refl _) c
theorem pU(h:PE X e (lB t)):PO X (some e) (lP (sM t)):=MQ (Y9 h) λσ H Q zq=>by
 obtain⟨B,F,δ,ts,Qd,c,q,k⟩:=zq
 exact⟨B,F,δ,ts,_,c,q,λd ao v F1 H1 q1 f1 h1 c1 s1=>by
 cases s1 with
 | int _=>exact⟨_,rfl,k _ ao F1 H1 q1 f1 h1 c1⟩
 | _=>exact q1.elim⟩
def fk{α:Type}(xs:List α)(lo hi:Option Int):List α:=(xs.drop (HT.df xs.length 0 lo)).take (HT.df xs.length xs.length hi-HT.df xs.length 0 lo)
theorem S.cut{xs:List D}{ws:List V}(s:S F H xs ws)(lo hi:Option Int):S F H (fk xs lo hi) (mG ws lo hi):=by
 unfold fk mG
 rw[<-s.length]
 exact(s.drop _).take _
theorem MR{xs:List D}{p:D->Bool}(h:xs.all p=true)(lo hi:Option Int):(fk xs lo hi).all p=true:=by
 rw[cJ]at h ⊢
 intro x hx
 exact h x (nG (qR hx))
def sN(t:aJ):aJ:=λδ Q=>t δ λd ai=>match d with
 | .int i=>Q (.int (Mf.bl i.natAbs:Nat)) ai
 | _=>False
theorem mX(ho:PE X o (lB t))(kE:attributeBase o "bit_length" X.env (eval o X.env)=eval o X.env:=by rfl)(kF:(apos.endLine==bR.line)=true:=by rfl):PE X (.Call (.Attribute o "bit_length" apos) [] [] bR) (lE (sN t)) :=
 dr (θ ho kE kF) λσ H Q zq=>by
 obtain⟨B,F,δ,ts,Qd,c,q,k⟩:=zq
 exact⟨B,F,δ,ts,_,c,q,λd ao v F1 H1 q1 f1 h1 c1 s1=>by
  cases s1 with
  | int _=>exact⟨rfl,_,rfl,rfl,k _ ao _ F1 H1 q1 f1 h1 (c1.pushS (.int .nil) rfl)⟩
  | _=>exact q1.elim⟩
end
end L3
namespace L3
open PySem L2 PySem.Spec PyProof.Rows
section
variable{X:Cx}{F H:Hp}{v w:V}{e a b c o tg:Expr}{es:List Expr}{pos p p2 apos bR pos':Pos}{t ta tb tc te ti:aJ}{tr:cP}{x:Str}{i:Nat}
def sO(i:Nat)(t:aJ):cE:=λD δ=>(∃xs,δ[i]?=some (some (.lst true xs)))/\t δ λd ai=>∃xs,ai[i]?=some (some (.lst true xs))/\xs.length<sizeLine/\D.nx (ai.set i (some (.lst true (xs++[d]))))
theorem pV(hN:X.N[i]?=some x)(hv:jY X.env.scope x)(he:PE X e (lE t))(hd:(x==("__debug__":Str))=false:=by decide)(cC:(x==("__classdict__":Str))=false:=by decide)
  (kE:attributeBase (.Name x p) "append" X.env (eval (.Name x p) X.env)=eval (.Name x p) X.env:=by rfl)
  (uU:((backTo bR (starEach [e] X.env)).all (λx=>!x.1)&&(backToKw bR (keywordEach [] X.env)).all (λx=>x.1.isSome)
   && decide ([e].length+([]:List Keyword).length+(if([]:List Keyword).isEmpty then 0 else 1)<30))=true:=by rfl)
  (kF:(apos.endLine==bR.line)=true:=by rfl) (hs:starEach [e] X.env=(false,eval e X.env)::starEach [] X.env:=by rfl) (uV:(backTo bR (starEach [] X.env)).any (·.1)=false:=by rfl)
  (mY:swapsWith (.Call (.Attribute (.Name x p) "append" apos) [e] [] bR) none pos.line X.env=pure false:=by rfl) :
  PS X (.Expr (.Call (.Attribute (.Name x p) "append" apos) [e] [] bR) pos) (lS X (sO i t)) :=
 ig (yX (E7 PySem.F.plainAttrs_list PySem.F.slot_list_append PySem.F.type_list_append Lz (mB hN hv hd cC) (jy he oJ hs) kE uU kF hs uV) mY) λEn σ H zz=>by
  obtain⟨B,F,δ,Dd,c,⟨⟨ys,ey⟩,q⟩,k1,k2,k3,k4⟩:=zz
  obtain⟨p0,B9,g1,g2,g3⟩:=c.ownAt ey
  refine⟨.ref p0,g1,.inl ⟨rfl,_,bL.of g2⟩,B,F,δ,[],_,c,q,λd ai v F' H' hd sf sh c'=>?_⟩
  obtain⟨xs,ex,hl,hn⟩:=hd
  obtain⟨p1,ws,r1,r2,r3⟩:=c'.ownAt ex
  rw[g1]at r1;cases r1
  exact⟨p0,ws,v,rfl,rfl,r2,by omega,k1 _ _ F' _ hn (c'.app ex g1 r2)⟩
def sP(i:Nat)(te ti:aJ):cE:=λD δ=>te δ λd ao=>∃ys,ao[i]?=some (some (.lst true ys))/\oY ti ao λk bg=>match k with
 | .int n=>∃xs j,bg[i]?=some (some (.lst true xs))/\j5 xs.length n=some j/\D.nx (bg.set i (some (.lst true (xs.set j d))))
 | _=>False
theorem Co(hN:X.N[i]?=some x)(hv:jY X.env.scope x)(he:PE X e (lE te))(hi:PE X b (lB ti))(hd:(x==("__debug__":Str))=false:=by decide)(cC:(x==("__classdict__":Str))=false:=by decide)
  (ha:∀v,assign (.Subscript (.Name x p) b pos') X.env v=(do
   let ov<-holding [v] (eval (.Name x p) X.env)
   let iv<-holding [v,ov] (eval b X.env)
   standAt pos'
   holding [v,ov,iv] (setItem ov iv v)
   release [v,ov,iv] []):=by intro _;rfl)
  (hs:swapsWithSole [.Subscript (.Name x p) b pos'] e pos.line X.env=pure false:=by rfl) (hw:swappedStores [.Subscript (.Name x p) b pos'] e X.env=pure none:=by rfl)
  (h1:(assignEach [.Subscript (.Name x p) b pos'] X.env).map (·.2)=[assign (.Subscript (.Name x p) b pos') X.env]:=by rfl) :
  PS X (.Assign [.Subscript (.Name x p) b pos'] e pos) (lS X (sP i te ti)) :=
 ig (XS he (XR (mB hN hv hd cC) (bX hi) Zj ha) hs hw h1) λEn σ H zq=>by
 obtain⟨B,F,δ,Dd,c,q,k1,k2,k3,k4⟩:=zq
 exact⟨B,F,δ,[],_,c,q,λd ao v F1 H1 hq f1 h1 c1=>by
  obtain⟨ys,ey,hq⟩:=hq
  obtain⟨p0,B9,g1,g2,g3⟩:=c1.ownAt ey
  refine⟨.ref p0,g1,B,F1,ao,[(d,v)],_,c1,hq,λkd bg kv F2 H2 hk f2 h2 c2=>?_⟩
  have st:=c2.top
  split at hk
  ·obtain⟨xs,j,ex,ej,hn⟩:=hk
   cases st
   have c3:=c2.pop
   obtain⟨p1,ws,r1,r2,r3⟩:=c3.ownAt ex
   rw[g1]at r1;cases r1
   exact⟨p0,ws,_,j,rfl,rfl,r2,by rw[<-r3];exact ej,k1 _ _ F2 _ hn (c3.cT4 ex g1 r2 j)⟩
  ·exact hk.elim⟩
end
end L3
namespace L3
open PySem L2 PySem.Spec PyProof.Rows
theorem cF{A:Around}{k:Nat}(hr:cy k A):A.units+6<cLine:=by have:=hr.un;omega
def aS(ns:List Int):List D:=ns.map D.int
def FX(o:Obj):Bool:=match o.cls with
 | .type n=>n != "list"
 | _=>true
def MS:aU:=λds Q=>∃ns:List Int,ds=[.fz (aS ns)]/\ns.length<=63/\Q (.bl true)
theorem MT{F H:Hp}:∀ns:List Int,R F H (aS ns) (ns.map V.int) []
 | []=>.nil
 | n::ns=>.int (MT ns)
theorem bI8{K:PySem.W.Frag}{a:Addr}{o:Obj}(h:K.lookup a=some o):(a,o)∈K:=by
 induction K with
 | nil=>cases h
 | cons p K ih =>
  obtain⟨b,u⟩:=p
  rw[iE]at h
  split at h
  ·rename_i z
   have:a=b:=by simpa using z
   cases h;subst this;simp
  ·exact e5 _ (ih h)
end L3
namespace L3
open PySem L2 PySem.Spec PyProof.Rows
section
variable{B:Bs}{F H:Hp}{σ:L2.St}{δ:Dl}{ts ps:List (D × V)}{i k:Nat}{p q:Addr}{l1 l2 ys Mg:List D}{ws vb:List V}
end
section
variable{X:Cx}{F H:Hp}{e b:Expr}{pos p pr apos bR FY:Pos}{t ti te:aJ}{x y:Str}{i j:Nat}
end
end L3
namespace L3
open PySem L2 PySem.Spec PyProof.Rows
theorem vg(i:Int):(D.int i).pl=true:=rfl
theorem vh(i:Bool):(D.bl i).pl=true:=rfl
theorem vj(i:Str):(D.str i).pl=true:=rfl
theorem vk:D.az.pl=true:=rfl
theorem vm(xs:List D):(D.fz xs).pl=true:=rfl
theorem vn(C:Addr)(ns:List Str)(xs:List D):(D.obj C ns xs).pl=true:=rfl
theorem sQ(i:Int):(D.int i).fr=true:=rfl
theorem vo(i:Bool):(D.bl i).fr=true:=rfl
theorem vp(i:Str):(D.str i).fr=true:=rfl
theorem vq:D.az.fr=true:=rfl
theorem lU(i:Int):(D.int i).sh=.int i:=rfl
theorem vt(i:Bool):(D.bl i).sh=.bl i:=rfl
theorem vv(i:Str):(D.str i).sh=.str i:=rfl
theorem vw:D.az.sh=.az:=rfl
theorem vx(xs:List D):(D.fz xs).sh=.fz xs:=rfl
theorem vy(C:Addr)(ns:List Str)(xs:List D):(D.obj C ns xs).sh=.obj C ns xs:=rfl
theorem vz{α:Type}(n:Nat)(x:α):(aX n [x]).flatten=aX n x:=by
 induction n with
 | zero=>rfl
 | succ n ih=>rw[uv,wR,ih];rfl
theorem lW(ns:List Int):(aS ns).length=ns.length:=by simp[aS]
theorem ke(ns:List Int):(aS ns).all D.pl=true:=by simp[aS,D.pl]
theorem sR(ns:List Int):(aS ns).all D.fr=true:=by simp[aS,D.fr]
theorem jF(ns:List Int):(aS ns).map D.sh=aS ns:=by simp[aS,D.sh]
theorem pW(a b:List Int):aS a++aS b=aS (a++b):=by simp[aS]
theorem vA(n:Nat)(i:Int):aX n (D.int i)=aS (aX n i):=by simp[aS]
theorem pX(n:Nat)(i:Int):dY n (.int i)=true:=by cases n<;>rfl
theorem vB(n:Nat)(i:Bool):dY n (.bl i)=true:=by cases n<;>rfl
theorem vC(n:Nat)(i:Str):dY n (.str i)=true:=by cases n<;>rfl
theorem kI(i j:Int):bS (.int i) (.int j)=decide (i=j):=by
 show(i==j)=_
 rw[Bool.beq_eq_decide_eq]
theorem MU:∀(a b:List Int),bS.gI (aS a) (aS b)=decide (a=b)
 | [],[]=>rfl
 | [],_::_=>by simp[aS,bS.gI]
 | _::_,[]=>by simp[aS,bS.gI]
 | x::xs,y::ys=>by
  show(bS (.int x) (.int y)&&bS.gI (aS xs) (aS ys))=_
  rw[MU xs ys,kI,qP];simp
theorem sS(o o':Bool)(a b:List Int):bS (.lst o (aS a)) (.lst o' (aS b))=decide (a=b):=MU a b
theorem MV{ns:List Int}{k:Nat}(h:k<ns.length):(aS ns)[k]?=some (.int ns[k]):=by simp[aS,h]
theorem nZ{ns:List Int}{k:Int}(h0:0<=k)(h:k<ns.length):fc (aS ns) k=some (.int (ns.getD k.toNat 0)):=by
 unfold fc j5
 rw[if_pos h0,lW,if_pos h]
 show(aS ns)[k.toNat]?=_
 have hk:k.toNat<ns.length:=by omega
 rw[MV hk,aL,aM hk];rfl
theorem sT(ns:List Int)(lo hi:Option Int):fk (aS ns) lo hi=aS (fk ns lo hi):=by simp[fk,aS,JW,JX]
theorem vD(i:Int):nY "int" (.int i)=some true:=by rfl
theorem vE(i:Int):nY "bool" (.int i)=some false:=by rfl
theorem vF(i:Int):nY "list" (.int i)=some false:=by rfl
theorem vG(o:Bool)(xs:List D):nY "list" (.lst o xs)=some true:=by rfl
theorem vH:nY "int" .az=some false:=by rfl
theorem vI(x:Str):nY "str" (.str x)=some true:=by rfl
theorem vJ(xs:List D):nY "tuple" (.tup xs)=some true:=by rfl
theorem sL:sizeLine=16777216:=rfl
theorem vK{p:Prop}[Decidable p]:(decide p=true)=p:=by simp
theorem MW{α:Type}(xs:List α)(a b:Nat):fk xs (some (a:Int)) (some (b:Int))=(xs.drop a).take (b-a):=by
 unfold fk
 rw[HT.EZ,HT.EZ]
 by_cases h:a<=xs.length
 ·rw[Nat.min_eq_left h]
  apply yF
  intro i
  rw[BA,BA,Ej]
  by_cases hi:i<b-a
  ·rw[if_pos hi]
   by_cases hb:a+i<xs.length
   ·rw[if_pos (by omega)]
   ·rw[eE (by omega)];simp
  ·rw[if_neg hi,if_neg (by omega)]
 ·rw[Nat.min_eq_right (show xs.length<=a by omega),Ek (cg _),Ek (show xs.length<=a by omega)];simp
end L3
namespace L2
open PySem PySem.Spec PyProof.Rows
section
variable{X:Cx}{e:Expr}{te:TE}{lo hi:Option Expr}{st:Expr}{tl th ts:TO}{pos p2:Pos}
theorem MX(ns:List Int):∀k,k<=ns.length->preSum (λi=>ns.getD i 0) k=(ns.take k).sum
 | 0,_=>rfl
 | k+1,h=>by
  show preSum (λi=>ns.getD i 0) k+ns.getD k 0=_
  rw[MX ns k (by omega),ku,aM (by omega),List.sum_append,aL,aM (by omega)]
  simp
theorem b39(hc:X.calm=true):ia X (.builtin "sum") (λxs H Q=>∃(p:Addr) (ns:List Int),xs=[.ref p]/\bL X.K H p (ns.map V.int)/\Q (.int ns.sum) H):=by
 intro pins s σ H xs us Q I r h
 obtain⟨p,ns,rfl,hS,q⟩:=h
 obtain⟨u,rfl,ru⟩:=r.one
 cases ru
 obtain⟨its,rv,pl,hz⟩:=I.list hS
 have hi:=Lf rv
 have hlen:ns.length=its.length:=by have:=rv.length;simpa using this
 have hl:=pl.isList
 have dW:p<s.heap.objs.size:=by obtain⟨_,e,_⟩:=hl;exact cu e
 refine call_sum_walkG (wpAny_pyIter_list hl ?_)
 refine⟨s.heap.objs.size,[s.heap.objs.size,p],[s.heap.objs.size],its.toArray.size,_,_,λi=>ns.getD i 0,rfl,Eg (A:=X.A.in1) (I.ok.hd hc) _ p (fN dW) its.toArray,
  ⟨⟨_,iB _ rfl,rfl,rfl⟩,hl.push _⟩,λb hb=>?_,λi v hP=>?_,λh' tk t' hk=>?_⟩
 ·simp only[wQ]
  rcases cw.mp hb with rfl | hb
  ·exact Bo _
  ·rw[fu.mp hb];exact JY dW
 ·have e:its[i]?=some v:=by simpa using hP
  obtain⟨x,ex,q2⟩:∃x,(ns.map V.int)[i]?=some x/\RelV x v:=by
   have fA:i<its.length:=(kr.mp e).1
   obtain⟨u,e2,q2⟩:=rv.get (i:=i) (x:=V.int ns[i]) (by rw[bM,aM (by omega)];rfl)
   rw[e]at e2;cases e2
   exact⟨_,by rw[bM,aM (by omega)];rfl,q2⟩
  rw[bM]at ex
  obtain⟨n,en,rfl⟩:=wX.mp ex
  obtain⟨t,rfl⟩:=q2
  exact⟨t,by show ou n t=ou (ns.getD i 0) t;rw[aL,en];rfl⟩
 ·rw[dF,<- hlen,MX ns _ (cg _),mq]
  exact⟨.int _,H,I.kept (h':=h') (t':=tk) (B4 hk),⟨_,rfl⟩,q⟩
end
end L2
namespace L3
open PySem L2 PySem.Spec PyProof.Rows
section
variable{X:Cx}{F H:Hp}{e:Expr}{t:aJ}{lo hi:Option Expr}{st:Expr}{tl th td:sI}{pos p2:Pos}
theorem MY:∀{a:List Int} {ws:List V},S F H (aS a) ws->ws=a.map V.int
 | [],_,s=>by cases s;rfl
 | b::bs,_,s=>by
  cases s with
  | int s=>rw[MY s];rfl
def mZ:kb:=λds Q=>match ds with
 | [.lst _ xs]=>∃a,xs=aS a/\Q (.int a.sum)
 | _=>False
theorem cH1(hc:X.calm=true):g5 X (.builtin "sum") mZ:=g5.of (b39 hc) λvs H Q zz=>by
 obtain⟨B,F,σ,δ,ts,ds,Qd,c,s,q,k⟩:=zz
 unfold mZ at q
 split at q
 ·obtain⟨v,rfl,s1⟩:=lM s
  obtain⟨a,rfl,q⟩:=q
  obtain⟨p,ws,rfl,h,t⟩:=lK s1 c.ext rfl
  rw[MY t]at h
  exact⟨p,a,rfl,jh h,k _ _ _ q (ah.refl _) (c.pushS (.int .nil) rfl)⟩
 ·exact q.elim
def FZ:Expr->Option Int
 | .Constant (.int i) _ _=>some i
 | _=>none
def Cp:List Expr->Option (List Int)
 | []=>some []
 | e::es=>(FZ e).bind λi=>(Cp es).map (i :: ·)
theorem cc9{e:Expr}{i:Int}(h:FZ e=some i):∃a b,e=.Constant (.int i) a b:=by
 cases e with
 | Constant c a b =>
  cases c with
  | int j=>cases h;exact⟨_,_,rfl⟩
  | _=>cases h
 | _=>cases h
def cI4(ns:List Int):cP:=λδ Q=>Q (aS ns) δ
theorem MZ:∀(es:List Expr) (ns:List Int),Cp es=some ns->PA X es (lO (cI4 ns))
 | [],ns,h=>by cases h;exact cQ
 | e::es,ns,h=>by
  obtain⟨i,hi,h2⟩:=Option.bind_eq_some_iff.mp (show(FZ e).bind (λi=>(Cp es).map (i :: ·))=some ns from h)
  obtain⟨ms,hm,rfl⟩:=wX.mp h2
  obtain⟨a,b,rfl⟩:=cc9 hi
  exact zF (eJ (aw (i:=i)) (MZ es ms hm)) λ_ _ _ q=>q
def sU(ns:List Int):aJ:=λδ Q=>ns.length<=sizeLine/\Q (.lst true (aS ns)) δ
theorem M0{es:List Expr}{ns:List Int}(h:Cp es=some ns):PE X (.List es pos) (lE (sU ns)) :=
 dr (dA (MZ es ns h)) λ_ _ _ zq=>by
 obtain⟨B,F,δ,ts,Qd,c,q,k⟩:=zq
 exact⟨B,F,δ,ts,Qd,c,by
  show(aS ns).length<=sizeLine/\_
  rw[lW];exact q,k⟩
theorem bY1{ns:List Int}(h:0<ns.length):fc (aS ns) (-1)=some (.int (ns.getD (ns.length-1) 0)):=by
 unfold fc j5
 rw[if_neg (by decide),lW,if_pos (by omega)]
 have hk:((-1:Int)+ns.length).toNat=ns.length-1:=by omega
 show(aS ns)[((-1:Int)+ns.length).toNat]?=_
 rw[hk,MV (by omega),aL,aM (by omega)];rfl
theorem zU{n:Nat}{g:ij}{tb:cE}{En:rn}{δ:Dl}(Iv:Nat->Dl->Prop)(h0:Iv 0 δ)(ht:∀k ai,k<n->Iv k ai->g (.int k) ai λbg=>tb { En with nx:=Iv (k+1),ct:=Iv (k+1),bk:=En.nx } bg)
  (hf:∀ai,Iv n ai->En.nx ai):fC (yG (λ(k:Nat)=>D.int (0+(k:Int))) (aH (n:Int).toNat)) g tb En δ:=by
 rw[iC]
 refine fC.mk Iv h0 (λi d ai hd iv=>?_) λai iv=>hf ai (by simpa using iv)
 rw[bM]at hd
 obtain⟨k,hk,rfl⟩:=wX.mp hd
 have hi:i<n:=by have:=(kr.mp hk).1;simpa using this
 rw[h9 hi]at hk
 cases hk
 rw[JZ]
 exact ht i ai hi iv
theorem q8{xs:List D}{k:Int}{d:D}(h0:0<=k)(h:xs[k.toNat]?=some d):fc xs k=some d:=by
 unfold fc j5
 have hk:k.toNat<xs.length:=(kr.mp h).1
 rw[if_pos h0,if_pos (by omega)]
 exact h
end
end L3
namespace L3
open PySem L2 PySem.Spec PyProof.Rows
section
variable{P:Program}{w:World}{K:PySem.W.Frag}{mg:Str->Option Value}{base:Heap}
end
section
variable{X:Cx}{n:Nat}{f:Addr}{fd:FuncData}{ps:List Str}{sp:SpX}{x:Str}{p pos:Pos}{e:Expr}{es:List Expr}{t:cP}{tx:dM4}
end
end L3
namespace L3
open PySem L2 PySem.Spec PyProof.Rows
section
variable{X:Cx}{pins EC:List (Addr × Obj)}{σ:L2.St}{H:Hp}{s:Shared}{a:Addr}
end
section
variable{X:Cx}{tb th:cE}{body cX5:List Stmt}{cX6:Stmt}{K n:Str}{Kc:Addr}{i:Nat}{kp cX7 pos:Pos}
end
end L3
namespace L3
open PySem L2 PySem.Spec PyProof.Rows
section
variable{X:Cx}{F H:Hp}{v:V}{a:Expr}{ta:aJ}{p pos:Pos}
end
section
variable{K:PySem.W.Frag}{mg:Str->Option Value}{x:Str}{C:Addr}
end
end L3
namespace L3
open PySem L2 PySem.Spec PyProof.Rows
theorem vL{CX:e8}{P:Program}{w:World}{K:PySem.W.Frag}{mg:Str->Option Value}{base:Heap}{N:List Str}{q:Str}{sc:Scope}{f:Addr}{aD:Value}{A:Around}{outer:List Env}{s:Shared}{H:Hp}{E:XK}:(i7 CX P w K mg base N q sc f aD A outer s H E).K=K:=rfl
theorem vM(φ:uY):(D.bG φ).pl=true:=rfl
theorem vN(φ:uY):(D.bG φ).sh=.bG φ:=rfl
end L3
namespace L3
open PySem L2 PySem.Spec PyProof.Rows
theorem vO{X:Cx}:X.gF.K=X.K:=rfl
end L3
namespace L3
open PySem L2 PySem.Spec PyProof.Rows
def dQ(xs ys:List D):List D:=dv (λx y=>D.tup [x,y]) xs ys
def fR(xs:List D):List D:=xs.mapIdx λi x=>D.tup [.int i,x]
theorem F7(xs ys:List D):(dQ xs ys).map D.sh=dQ (xs.map D.sh) (ys.map D.sh):=by
 unfold dQ
 rw[El,BB]
 congr 1
theorem M1{xs ys:List D}(h1:xs.all D.pl=true)(h2:ys.all D.pl=true):(dQ xs ys).all D.pl=true:=by
 unfold dQ
 rw[cJ]at h1 h2 ⊢
 intro d hd
 obtain⟨i,hi,e⟩:=fh hd
 rw[List.getElem_zipWith]at e
 subst e
 rw[j9]
 simp only[bA,eU,ky,cK]
 exact⟨h1 _ (cN _),h2 _ (cN _)⟩
theorem cc6(xs:List D):(fR xs).map D.sh=fR (xs.map D.sh):=by
 unfold fR
 apply yF
 intro i
 simp only[bM,uz,Option.map_map]
 cases xs[i]? with
 | none=>rfl
 | some x =>
  show some (D.sh (.tup [.int i,x]))=some (D.tup [.int i,x.sh])
  rw[i9];rfl
theorem cc1{xs:List D}(h1:xs.all D.pl=true):(fR xs).all D.pl=true:=by
 unfold fR
 rw[cJ]at h1 ⊢
 intro d hd
 obtain⟨i,hi,e⟩:=fh hd
 rw[List.getElem_mapIdx]at e
 subst e
 rw[j9]
 simp only[bA,eU,ky,cK]
 exact⟨rfl,h1 _ (cN _)⟩
theorem kg(xs:List D):(fR xs).length=xs.length:=by simp[fR]
theorem F8(xs ys:List D):(dQ xs ys).length=min xs.length ys.length:=by simp[dQ]
section
variable{F H:Hp}{d:D}{v:V}{xs ys:List D}{ws us:List V}{p q:Addr}{K:PySem.W.Frag}
theorem zV(s:S F H [d] [v])(e2:ah F H)(e:jB d=some xs):∃p ws,v=.ref p/\Rd H p (.lst ws)/\R H H (xs.map D.sh) ws []/\(d.pl=true->xs.all D.pl=true/\Rd F p (.lst ws)/\R F H xs ws []):=by
 cases s with
 | @shr p ws ys _ _ hp r _ =>
  obtain rfl:=cT e
  refine⟨p,ws,rfl,.inl (e2 _ _ hp),?_,λ_=>⟨r.pl,.inl hp,r⟩⟩
  rw[mL r.pl]
  exact r.shared e2 (ah.refl _)
 | @own p ws ys _ _ hp r _ =>
  obtain rfl:=cT e
  exact⟨p,ws,rfl,.inl hp,r.frozen e2,λz=>by simp[eI]at z⟩
 | @fz p o ws ys _ _ hp r _ =>
  obtain rfl:=cT e
  refine⟨p,ws,rfl,.inr ⟨o,e2 _ _ hp⟩,?_,λ_=>⟨r.pl,.inr ⟨o,hp⟩,r⟩⟩
  rw[mL r.pl]
  exact r.shared e2 (ah.refl _)
 | az _=>cases e
 | bl _=>cases e
 | int _=>cases e
 | str _=>cases e
 | tup _ _ _=>cases e
 | obj _ _ _ _=>cases e
 | bG _ _=>cases e
theorem F9(r:R F H xs ws []){i:Nat}(hi:i<xs.length){x:V}(hx:ws[i]?=some x):R F H [xs[i]] [x] []:=by
 obtain⟨v,A1,e2,r1,sub⟩:=r.get (aM hi)
 rw[hx]at e2;cases e2
 have:A1=[]:=JT.mpr λa ha=>by simpa using sub ha
 subst this
 exact r1
theorem Cq(hp:Rd F p (.lst ws))(r:R F H xs ws [])(hq:Rd F q (.lst us))(t:R F H ys us [])(hF:Full F H):JD (Fn K p q) F (dQ xs ys) where
 go:=λi H' hs hi=>by
  rw[F8]at hi
  have l1:=r.length
  have l2:=t.length
  exact⟨ws,us,_,_,.inl (iM hp hs),.inl (iM hq hs),aM (show i<ws.length by omega),aM (show i<us.length by omega)⟩
 lj:=λi H' v H2 hs hi zz=>by
  obtain⟨T,x,y,e1,e2,e3,hx,hy⟩:=zz
  subst e1 e3
  have Cr:=hi
  rw[F8]at Cr
  have h1:=F9 (r.full hF hs rfl) (show i<xs.length by omega) (hx ws (.inl (iM hp hs)))
  have h2:=F9 (t.full hF hs rfl) (show i<ys.length by omega) (hy us (.inl (iM hq hs)))
  have sm:=ah.upd (o:=.tup [x,y]) e2
  refine⟨_,aM hi,sm,?_⟩
  have eg:(dQ xs ys)[i]=.tup [xs[i]'(by omega),ys[i]'(by omega)]:=by simp[dQ]
  rw[eg]
  exact R.tup (A:=[]) (B:=[]) de ((h1.shared (ah.refl _) sm).cons (h2.shared (ah.refl _) sm)) .nil
 stop:=λi H' hs hi=>by
  rw[F8]at hi
  have l1:=r.length
  have l2:=t.length
  exact⟨ws,us,.inl (iM hp hs),.inl (iM hq hs),by omega⟩
theorem M3(hp:Rd F p (.lst ws))(r:R F H xs ws [])(hF:Full F H):JD (Fu K p) F (fR xs) where
 go:=λi H' hs hi=>by
  rw[kg]at hi
  have l1:=r.length
  exact⟨ws,_,.inl (iM hp hs),aM (show i<ws.length by omega)⟩
 lj:=λi H' v H2 hs hi zz=>by
  obtain⟨T,x,e1,e2,e3,hx⟩:=zz
  subst e1 e3
  have Cr:=hi
  rw[kg]at Cr
  have h1:=F9 (r.full hF hs rfl) Cr (hx ws (.inl (iM hp hs)))
  have sm:=ah.upd (o:=.tup [.int i,x]) e2
  refine⟨_,aM hi,sm,?_⟩
  have eg:(fR xs)[i]=.tup [.int i,xs[i]]:=by simp[fR]
  rw[eg]
  exact R.tup (A:=[]) (B:=[]) de (.int (h1.shared (ah.refl _) sm)) .nil
 stop:=λi H' hs hi=>by
  rw[kg]at hi
  have l1:=r.length
  exact⟨ws,.inl (iM hp hs),by omega⟩
end
section
variable{X:Cx}{a b:Expr}{ta:cP}{p pos mF:Pos}{elts:List Expr}{x1:Nat}
def sV(t:cP):iO:=λδ Q=>t δ λds ai=>match ds with
 | [d1,d2]=>∃xs ys,jB d1=some xs/\jB d2=some ys/\Q (d1.pl&&d2.pl) (dQ xs ys) ai
 | _=>False
theorem xI(hg:Gl X "zip")(hm:X.mg "zip"=none)(ha:PA X [a,b] (lA ta))(hs:starEach [a,b] X.env=[(false,eval a X.env),(false,eval b X.env)]:=by rfl)(gx:starEach [b] X.env=[(false,eval b X.env)]:=by rfl) :
  PI X (.Tuple elts x1 mF) (.Call (.Name "zip" p) [a,b] [] pos) (lI (sV ta)) :=
 u5 (Mh hg hm ha hs gx) λσ H Q zq=>by
 obtain⟨B,F,δ,ts,Qd,c,q,k⟩:=zq
 exact⟨B,F,δ,ts,_,c,q,λds ao vs F1 H1 hd f1 h1 c1 s=>by
  match ds,hd,s with
  | [d1,d2],⟨xs,ys,i1,i2,hq⟩,s =>
   obtain⟨v1,cX,rfl,s1,s2⟩:=s.dq
   obtain⟨v2,dM5,rfl,s2,s3⟩:=s2.dq
   cases s3
   have e2:=c1.ext
   have sn:=rm e2
   obtain⟨p1,w1,rfl,r1,t1,u1⟩:=zV s1 e2 i1
   obtain⟨p2,w2,rfl,r2,t2,u2⟩:=zV s2 e2 i2
   refine⟨p1,p2,rfl,⟨w1,.inl r1⟩,⟨w2,.inl r2⟩,k _ _ ao _ _ H1 hq (f1.trans sn) h1 c1.snap ?_ λz=>?_⟩
   ·rw[F7]
    exact Cq r1 t1 r2 t2 (Full.refl _)
   ·rw[cK]at z
    obtain⟨a1,a2,a3⟩:=u1 z.1
    obtain⟨b1,b2,b3⟩:=u2 z.2
    exact⟨M1 a1 b1,Cq (iM a2 sn) (a3.shared sn (ah.refl _)) (iM b2 sn) (b3.shared sn (ah.refl _)) uZ⟩⟩
def sW(t:cP):iO:=λδ Q=>t δ λds ai=>match ds with
 | [d1]=>∃xs,jB d1=some xs/\Q d1.pl (fR xs) ai
 | _=>False
theorem vP(hg:Gl X "enumerate")(hm:X.mg "enumerate"=none)(ha:PA X [a] (lA ta))(hs:starEach [a] X.env=[(false,eval a X.env)]:=by rfl) :
  PI X (.Tuple elts x1 mF) (.Call (.Name "enumerate" p) [a] [] pos) (lI (sW ta)) :=
 u5 (cm3 hg hm ha hs) λσ H Q zq=>by
 obtain⟨B,F,δ,ts,Qd,c,q,k⟩:=zq
 exact⟨B,F,δ,ts,_,c,q,λds ao vs F1 H1 hd f1 h1 c1 s=>by
  match ds,hd,s with
  | [d1],⟨xs,i1,hq⟩,s =>
   obtain⟨v1,cX,rfl,s1,s2⟩:=s.dq
   cases s2
   have e2:=c1.ext
   have sn:=rm e2
   obtain⟨p1,w1,rfl,r1,t1,u1⟩:=zV s1 e2 i1
   refine⟨p1,rfl,⟨w1,.inl r1⟩,k _ _ ao _ _ H1 hq (f1.trans sn) h1 c1.snap ?_ λz=>?_⟩
   ·rw[cc6]
    exact M3 r1 t1 (Full.refl _)
   ·obtain⟨a1,a2,a3⟩:=u1 z
    exact⟨cc1 a1,M3 (iM a2 sn) (a3.shared sn (ah.refl _)) uZ⟩⟩
end
end L3
namespace L3
open PySem L2 PySem.Spec PyProof.Rows
section
variable{X:Cx}{F H:Hp}{e b:Expr}{pos p p2 p3 pr apos bR FY:Pos}{t ti te:aJ}{x y:Str}{i j:Nat}
theorem Gd{α:Type}{xs:List α}{k:Nat}{v:α}(h:xs[k]?=some v):fc xs (k:Int)=some v:=by
 unfold fc j5
 have hk:k<xs.length:=(kr.mp h).1
 rw[if_pos (by omega),if_pos (by omega)]
 exact h
end
section
variable{X:Cx}{CX:e8}{k:Nat}{f:Addr}{fd:FuncData}{ps:List Str}{sp:aU}{E:XK}{fn x1 x2 y1 y2:Str}{i1 i2 j1 j2:Nat}{tk:Nat}
 {tp t1 t2 zp dM6 q1 q2 fp dM7 a1 a2 cY0 dM8 dM9 cp FY pr apos bR dN0 pos:Pos}
end
end L3
namespace L3
open PySem L2 PySem.Spec PyProof.Rows
theorem av.cY1{B:Bs}{F H:Hp}{σ:L2.St}{δ:Dl}{ts:List (D × V)}{a b:D}{v:V}(c:av B F H σ δ ((.tup [a,b],v)::ts)):∃p u w,v=.ref p/\H p=some (.tup [u,w])/\av B F H σ δ ((a,u)::(b,w)::ts):=by
 obtain⟨A,C,r,s,nd,fr⟩:=c.own
 cases r with
 | @tup p ws xs A1 _ _ B1 hp r1 r2 =>
  obtain⟨u,eB,A2,A3,rfl,rfl,h1,h2⟩:=r1.dq
  obtain⟨w,dN1,A4,A5,rfl,rfl,h3,h4⟩:=h2.dq
  cases h4
  refine⟨p,u,w,rfl,hp,c.ext,c.b1,c.b2,c.b3,A2++(A4++B1),C,h1.cons (h3.cons r2),s,?_,?_⟩
  ·simpa using nd
  ·intro a ha;exact fr a (by simpa using ha)
section
variable{X:Cx}{y1 y2:Str}{i1 i2 tk m:Nat}{t1 t2 tp:Pos}
def iQ(i1 i2:Nat):ij:=λd δ Q=>match d with
 | .tup [a,b]=>Q ((δ.set i1 (some a)).set i2 (some b))
 | _=>False
theorem m6(hc:X.calm=true)(Ct:X.N.Nodup)(m1:X.N[i1]?=some y1)(l1:Loc X.env.scope y1)(m2:X.N[i2]?=some y2)(l2:Loc X.env.scope y2)(M4:m<=i1:=by decide)(sG:m<=i2:=by decide)
  (f1:X.fn y1=true\/X.env.scope.names.lookup y1=some .local:=by first | exact .inl rfl | exact .inr rfl | assumption) (f2:X.fn y2=true\/X.env.scope.names.lookup y2=some .local:=by first | exact .inl rfl | exact .inr rfl | assumption)
  (Ge:(assignEach [.Name y1 t1,.Name y2 t2] X.env).map (·.2)=assign (.Name y1 t1) X.env::(assignEach [.Name y2 t2] X.env).map (·.2):=by rfl) (Gf:(assignEach [.Name y2 t2] X.env).map (·.2)=assign (.Name y2 t2) X.env::(assignEach [] X.env).map (·.2):=by rfl)
  (hn:(assignEach [.Name y1 t1,.Name y2 t2] X.env).length=2:=by rfl) (gw:(assignEach [.Name y1 t1,.Name y2 t2] X.env).findIdx? (·.1)=none:=by rfl) :
  PG X (.Tuple [.Name y1 t1,.Name y2 t2] tk tp) (lG m (iQ i1 i2)) :=
 Mt (XO hc (KN (yY Ct m1 l1 f1) (KN (yY Ct m2 l2 f2) XM Gf) Ge) hn gw) λv σ H Q zz=>by
  obtain⟨B,F,δ,ts,d,Qd,c,q,k⟩:=zz
  obtain⟨a,b,rfl,q⟩:∃a b,d=D.tup [a,b]/\Qd ((δ.set i1 (some a)).set i2 (some b)):=by
   unfold iQ at q
   split at q
   ·exact⟨_,_,rfl,q⟩
   ·exact q.elim
  obtain⟨p,u,w,rfl,hp,c2⟩:=c.cY1
  refine⟨p,[u,w],rfl,i6.of hp,rfl,u,[w],rfl,w,[],rfl,rfl,k _ _ q (by simp) (λj hj=>?_) ((c2.store i1).store i2)⟩
  rw[qF (by omega),qF (by omega)]
end
open Classical in
theorem lX{α:Type}{sh:Bool}{xs:List D}{ay:List (Str × Nat)}{n m:Nat}{te:aJ}{ao:Dl}{Q:D->Dl->Prop}(l:List α)(e g:α->D)(ji:xs.map D.sh=l.map e)(inj:∀a b,e a=e b->a=b)
  (hx:∀a∈l,te ((eM ay n ao).set m (some (e a))) λd _=>d=g a) (eK:(sh&&ay.all (gY ao))=true\/∀a∈l,(g a).fr=true) (hl:l.length<=sizeLine) (hq:Q (.lst true (l.map g)) ao):pE sh xs ay n (gN m) jE te ao Q:=by
 let f:D->D:=λx=>if h:∃a∈l,e a=x then g h.choose else .az
 have hf:∀a∈l,f (e a)=g a:=λa ha=>by
  have h:∃b∈l,e b=e a:=⟨a,ha,rfl⟩
  show(if h:∃b∈l,e b=e a then g h.choose else .az)=g a
  rw[dif_pos h]
  exact congrArg g (inj _ _ h.choose_spec.2)
 refine b70 f (λx h=>?_) (eK.imp id λh x hx=>?_) ?_ ?_
 ·rw[ji]at h
  obtain⟨a,ha,rfl⟩:=bw.mp h
  rw[hf a ha];exact hx a ha
 ·rw[ji]at hx
  obtain⟨a,ha,rfl⟩:=bw.mp hx
  rw[hf a ha];exact h a ha
 ·have:=congrArg yx ji
  simp at this
  omega
 ·rw[ji,bx,show l.map (f ∘ e)=l.map g from mv λa ha=>hf a ha]
  exact hq
end L3
namespace L3
open PySem L2 PySem.Spec PyProof.Rows
end L3
namespace L2
open PySem PySem.Spec PyProof.Rows
section
variable{X:Cx}
end
end L2
namespace L3
open PySem L2 PySem.Spec PyProof.Rows
abbrev tx(l:List Nat):D:=.str ⟨l.toArray⟩
section
variable{X:Cx}{F H:Hp}{e:Expr}{es:List Expr}{t:aJ}{pos p p2 apos bR:Pos}
def pY(x:D)(lo hi:Option Int)(Q:D->Prop):Prop:=match x with
 | .lst _ xs=>xs.all D.pl=true/\Q (.lst true (fk xs lo hi))
 | .fz xs=>Q (.lst true (fk xs lo hi))
 | .str z=>z.length<=sizeLine/\Q (tx (fk z.cps.toList lo hi))
 | _=>False
def sX(t:aJ)(tl th:sI):aJ:=λδ Q=>t δ λx ao=>tl ao λl bg=>th bg λu gX=>pY x l u λd=>Q d gX
theorem vQ{lo hi:Option Expr}{tl th:sI}(he:PE X e (lB t))(hl:PO X lo (lP tl))(hu:PO X hi (lP th)):PE X (.Subscript e (.Slice lo hi none p2) pos) (lE (sX t tl th)) :=
 dr (Lg (Ln.or cx3) he hl hu) λσ H Q zq=>by
 obtain⟨B,F,δ,ts,Qd,c,q,k⟩:=zq
 exact⟨B,F,δ,ts,_,c,q,λx ao v F1 H1 q1 f1 h1 c1 s1=>⟨B,F1,ao,ts,_,c1,q1,λl bg F2 H2 q2 f2 h2 c2=>⟨B,F2,bg,ts,_,c2,q2,λu gX F3 H3 q3 f3 h3 c3=>by
  have mW:=s1.mono (f2.trans f3) (h2.trans h3)
  unfold pY at q3
  split at q3
  ·obtain⟨p,ws,rfl,h,t⟩:=lK mW c3.ext rfl
   exact .inl ⟨p,ws,rfl,jh h,λr hr=>k _ gX _ F3 _ q3.2 ((f1.trans f2).trans f3) (((h1.trans h2).trans h3).trans (ah.upd hr)) (c3.nQ hr (t.cut _ _) (MR q3.1 _ _))⟩
  ·obtain⟨p,ws,rfl,h,t⟩:=lK mW c3.ext rfl
   cases mW with
   | fz h' r _=>exact .inl ⟨_,_,rfl,jh (.inr ⟨_,c3.ext _ _ h'⟩),λr' hr=>k _ gX _ F3 _ q3 ((f1.trans f2).trans f3) (((h1.trans h2).trans h3).trans (ah.upd hr)) (c3.nQ hr (r.s.cut _ _) (MR r.pl _ _))⟩
  ·cases mW with
   | str _=>exact .inr ⟨_,rfl,q3.1,k _ gX _ F3 H3 q3.2 ((f1.trans f2).trans f3) ((h1.trans h2).trans h3) (c3.pushS (.str .nil) rfl)⟩
  ·exact q3.elim⟩⟩⟩
end
theorem vR(a:List Nat):(⟨a.toArray⟩:Str).length=a.length:=by show a.toArray.size=_;simp
end L3
namespace L3
open PySem L2 PySem.Spec PyProof.Rows
def aj(l:List Nat):List D:=aS (l.map λ(n:Nat)=>(n:Int))
theorem eN(l:List Nat):(aj l).length=l.length:=by unfold aj;rw[lW,aW]
theorem cL(l:List Nat):aj l=l.map λ(n:Nat)=>D.int (n:Int):=by unfold aj aS;rw[bx];rfl
theorem Cu(l:List Nat):(aj l).map D.sh=l.map λ(n:Nat)=>D.int (n:Int):=by unfold aj;rw[jF];exact cL l
theorem xJ(a b:Nat)(h:D.int (a:Int)=D.int (b:Int)):a=b:=by injection h with h;omega
theorem jj(l:List Nat):(aj l).all D.pl=true:=ke _
theorem m8(l:List Nat):(aj l).map D.sh=aj l:=jF _
theorem kJ(a b:List Nat):aj a++aj b=aj (a++b):=by unfold aj;rw[pW,eR]
theorem vS(l:List Nat)(lo hi:Option Int):fk (aj l) lo hi=aj (fk l lo hi):=by
 unfold aj
 rw[sT]
 congr 1
 unfold fk
 rw[aW,JX,JW]
theorem Gg{α:Type}(xs:List α)(b:Nat):fk xs none (some (b:Int))=xs.take b:=by
 have:=MW xs 0 b
 unfold fk at this ⊢
 simpa[HT.df]using this
theorem Cv{α:Type}(xs:List α)(a:Nat):fk xs (some (a:Int)) none=xs.drop a:=by
 unfold fk
 rw[HT.EZ]
 show(xs.drop (min a xs.length)).take (xs.length-min a xs.length)=_
 by_cases h:a<=xs.length
 ·rw[Nat.min_eq_left h,wW (by rw[iD];exact cg _)]
 ·rw[Nat.min_eq_right (by omega),List.drop_length,Ek (by omega)];simp
end L3
namespace L2
open PySem PySem.Spec PyProof.Rows
section
variable{X:Cx}{tg l o e:Expr}{tl to te:TE}{apos bR:Pos}
end
end L2
namespace L3
open PySem L2 PySem.Spec PyProof.Rows
section
variable{X:Cx}{F H:Hp}{tg l e:Expr}{te t tb:aJ}{apos bR pos:Pos}
variable{o:Expr}
theorem Cw:∀{ns:List Int} {ws:List V},S F H (aS ns) ws->ws=ns.map V.int
 | [],_,s=>by cases s;rfl
 | n::ns,_,s=>by
  cases s with
  | int s=>rw[Cw s];rfl
end
end L3
namespace L3
open PySem L2 PySem.Spec PyProof.Rows
end L3
namespace L2
open PySem PySem.Spec PyProof.Rows
def Tb(ts:List Addr)(H:Hp):Prop:=∀P∈ts,∃ps,H P=some (.dG ps)
structure xK(ts:List Addr)(H:Hp):Prop where
 any:∀b,H b=none\/(∃o xs,H b=some (.cU o (.lst xs)))\/(b∈ts/\H b=some (.dG #[]))
 tab:∀P∈ts,H P=some (.dG #[])
theorem xK.tb{ts:List Addr}{H:Hp}(h:xK ts H):Tb ts H:=λP hP=>⟨#[],h.tab P hP⟩
def Bm(mg:Str->Option Value)(base:Heap):Prop:=∃bm o,mg "__builtins__"=some (.ref bm)/\bm≠builtinsNs/\bm≠mainGlobals/\base.get? bm=some o/\o.cls=.type "module"/\o.dict=some builtinsNs/\o.data=.plain
theorem bW5{P:Program}{w:World}{K:PySem.W.Frag}{mg mb:Str->Option Value}{CX:e8}{k:Nat}{fa a:Addr}{fd:FuncData}{x:Str}{sp:Sp}{bJ:Shared}{vs:List Value}{ns:List Int}{ts:List Addr}
  (KX:K.In bJ.heap) (Cy:bJ.heap.Ns mainGlobals mg) (hb:bJ.heap.Ns builtinsNs mb) (hbb:∀x:Str,x≠"__name__"->mb x=bootBuiltins x) (cY4:bJ.heap.NoLimit) (hg:bJ.gens=#[])
  (ht:∀P∈ts,bJ.heap.get? P=some (PySem.W.tabObj #[])) (Gh:∀P∈ts,isCodeTable bJ.heap P) (hkt:∀P∈ts,K.lookup P=none)
  (ha:bJ.heap.get? a=some { cls:=.type "list",data:=.seq vs.toArray }) (hi:IntsAre vs ns) (hl:ns.length<=sizeLine) (hr:cy k callerA)
  (vT:Bm mg bJ.heap) (F:∀base:Heap,K.In base->base.Ns mainGlobals mg->Bm mg base->aF P w K mg base CX k fa fd [x] sp) (cY6:∀(s:Shared) (u:Value),BindsTo s fd ⟨[u],[]⟩ [(x,u)])
  (f9:∀H:Hp,xK ts H->bL K H a (ns.map V.int)->sp [.ref a] H (λv _=>v=.bl true) λ_ _ _=>False)
  (Gi:∀H e s',CX [] H bJ (λ_ _ _=>False) e s'->False) :
  codeAny (model P w) callerA (.call (.ref fa) ⟨[.ref a],[]⟩) (λr s'=>r=.ok (.ret (.bool true))/\OldK bJ.heap s'.heap/\s'.os=bJ.os/\AllBare s'.gens) bJ:=by
 have rv:=LB hi
 have cY7:=hi.length
 have nat:a ∉ ts:=λz=>by
  have:=ht a z
  rw[ha]at this
  cases this
 have core:∀H:Hp,xK ts H->bL K H a (ns.map V.int)->dO P w H bJ.heap->(∀b,H b≠none->b=a\/b∈ts)->(H a≠none->K.lookup a=none) ->
   codeAny (model P w) callerA (.call (.ref fa) ⟨[.ref a],[]⟩) (λr s'=>r=.ok (.ret (.bool true))/\OldK bJ.heap s'.heap/\s'.os=bJ.os/\AllBare s'.gens) bJ:=by
  intro H hO hS aZ hA hK
  have Gj:∀{b:Addr} {o:Obj},bJ.heap.get? b=some o->H b=none->(nJ bJ.heap H).get? b=some o:=λe n=>W5 e n
  have zd:∀{b:Addr} {o:Obj} {es:Array DictEntry} {ep:Nat},bJ.heap.get? b=some o->o.data=.dict es ep->H b=none:=λ{b o es ep} e d=>by
   cases q:H b with
   | none=>rfl
   | some u =>
    rcases hA b (by rw[q];simp)with e' | e'
    ·subst e'
     rw[ha]at e;cases e
     have d':Data.seq vs.toArray _=Data.dict es ep:=d
     cases d'
    ·rw[ht b e']at e;cases e
     have d':Data.fields #[]=Data.dict es ep:=d
     cases d'
  have Cz:∀{b:Addr} {m:Str->Option Value},bJ.heap.Ns b m->(nJ bJ.heap H).Ns b m:=λ{b m} ⟨o,es,ep,e,d,r⟩=>⟨o,es,ep,Gj e (zd e d),d,r⟩
  have M5:K.In (nJ bJ.heap H):=λb o e=>Gj (KX b o e) (by
   cases q:H b with
   | none=>rfl
   | some u =>
    rcases hA b (by rw[q];simp)with e' | e'
    ·subst e'
     rw[hK (by rw[q];simp)]at e;cases e
    ·rw[hkt b e']at e;cases e)
  have hBm:Bm mg (nJ bJ.heap H):=by
   obtain⟨bm,o,b1,b2,b3,b4,b5,b6,b7⟩:=vT
   refine⟨bm,o,b1,b2,b3,Gj b4 ?_,b5,b6,b7⟩
   cases q:H bm with
   | none=>rfl
   | some u =>
    rcases hA bm (by rw[q];simp)with e' | e'
    ·rw[e',ha]at b4;cases b4
     have d':Data.seq vs.toArray _=Data.plain:=b7
     cases d'
    ·rw[ht bm e']at b4;cases b4
     have d':Data.fields #[]=Data.plain:=b7
     cases d'
  have hM:Mod K mg (nJ bJ.heap H):=⟨M5,Cz Cy,⟨mb,Cz hb,hbb⟩,let⟨mc,h1,h2⟩:=cY4;⟨mc,Cz h1,h2⟩⟩
  have e0:j4 P w K mg (nJ bJ.heap H) callerA [] bJ H:=⟨rfl,hM,λb o e=>W6 e,Bl (W4 _ _),trivial,λb hb=>absurd (show b∈([]:List Addr) from hb) (by simp),aZ,.of_eq hg⟩
  refine codeAny_mono ((F _ M5 (Cz Cy) hBm).run callerA [] bJ H ⟨[.ref a],[]⟩ [.ref a] [.ref a] _ _ hr e0 (cY6 bJ (.ref a)) (.cons rfl .nil) (f9 H hO hS)) λr s' h=>?_
  cases r with
  | error e=>exact(Gi H e s' h).elim
  | ok fl =>
   cases fl with
   | next=>exact gP h
   | brk=>exact gP h
   | cont=>exact gP h
   | ret u =>
    obtain⟨v,H',os,bare,un,M6,r',q⟩:=h
    have q':v=.bl true:=q
    subst q'
    obtain rfl:u=D6 true:=r'
    have each:∀b o,bJ.heap.get? b=some o->asItWas bJ.heap s'.heap b o/\∃o',s'.heap.get? b=some o':=λb o e=>by
     cases q:H b with
     | none =>
      have z:=un.keep b o e q (by intro z;exact absurd (show b∈([]:List Addr) from z) (by simp)) (by simp)
      exact⟨.inl z,o,z⟩
     | some u =>
      rcases hO.any b with z | ⟨ob,xs,z⟩ | ⟨kK,z⟩
      ·rw[q]at z;cases z
      ·have z2:=un.k8 b ob _ z
       obtain⟨e1,_⟩:=aZ b _ z
       obtain⟨e2,_⟩:=M6 b _ z2
       rw[e]at e1;cases e1
       exact⟨.inl e2,_,e2⟩
      ·obtain⟨more,z2⟩:=un.jW b _ z
       have e2:=(M6 b _ z2).1
       rw[ht b kK]at e;cases e
       exact⟨.inr (.inl ⟨Gh b kK,rfl,#[],more,rfl,e2⟩),_,e2⟩
    exact⟨rfl,⟨λb o e=>(each b o e).1,λb o e=>(each b o e).2⟩,os,bare⟩
 have tok:∀(H:Hp) (b:Addr),b∈ts->fi P w H bJ.heap b (.dG #[]):=λH b hb=>⟨ht b hb,trivial,λpos cv q=>by cases q⟩
 cases hk:K.lookup a with
 | some o =>
  have e:=KX a o hk
  rw[ha]at e
  cases e
  refine core (λb=>if b∈ts then some (.dG #[])else none) ⟨λb=>?_,λb hb=>if_pos hb⟩ (.inr ⟨_,vs.toArray,_,hk,rfl,rfl,rfl,by rw[dF,cY7];exact hl,by simpa using rv⟩) (λb u z=>?_) (λb z=>?_) λz=>absurd (if_neg nat) z
  ·by_cases hb:b∈ts
   ·exact .inr (.inr ⟨hb,if_pos hb⟩)
   ·exact .inl (if_neg hb)
  ·by_cases hb:b∈ts
   ·have z':=(if_pos hb).symm.trans z
    cases z'
    exact tok _ b hb
   ·have z':=(if_neg hb).symm.trans z
    cases z'
  ·by_cases hb:b∈ts
   ·exact .inr hb
   ·exact absurd (if_neg hb) z
 | none =>
  refine core (λb=>if b=a then some (.cU { cls:=.type "list",data:=.seq vs.toArray } (.lst (ns.map V.int)))else if b∈ts then some (.dG #[])else none) ⟨λb=>?_,λb hb=>?_⟩ (.inl (.inr ⟨{ cls:=.type "list",data:=.seq vs.toArray },if_pos rfl⟩)) (λb u z=>?_) (λb z=>?_) λ_=>hk
  ·by_cases hb:b=a
   ·exact .inr (.inl ⟨_,_,if_pos hb⟩)
   ·by_cases kK:b∈ts
    ·exact .inr (.inr ⟨kK,(if_neg hb).trans (if_pos kK)⟩)
    ·exact .inl ((if_neg hb).trans (if_neg kK))
  ·have uX:b≠a:=λz=>nat (z ▸ hb)
   exact(if_neg uX).trans (if_pos hb)
  ·by_cases hb:b=a
   ·have z':=(if_pos hb).symm.trans z
    cases z'
    subst hb
    exact⟨ha,by rw[aW];exact hl,vs,_,rv,ha⟩
   ·by_cases kK:b∈ts
    ·have z':=((if_neg hb).trans (if_pos kK)).symm.trans z
     cases z'
     exact tok _ b kK
    ·have z':=((if_neg hb).trans (if_neg kK)).symm.trans z
     cases z'
  ·by_cases hb:b=a
   ·exact .inl hb
   ·by_cases kK:b∈ts
    ·exact .inr kK
    ·exact absurd ((if_neg hb).trans (if_neg kK)) z
theorem cY9{l:PySem.W.OpenLaw}{n k:Nat}{q:Program}{loose:List Str}{XP:(Str->Option Value)->Heap->Prop}{YP:World->Heap->Prop}{d:DefRec}{K:Params->PySem.W.Frag}{CX:World->e8}{sp:World->Sp}{x:Str}{ts:List Addr}
  (hn:l.most=some n) (zb:n<=sizeLine) (zi:d.params.defaults=[]) (hr:cy k callerA)
  (hY:∀(w:World) (h:Heap),YP w h->(K w.params).In h/\∀P∈ts,h.get? P=some (PySem.W.tabObj #[]))
  (hC:∀(w:World) (h:Heap),(K w.params).In h->∀P∈ts,(K w.params).lookup P=none/\∃c,PySem.W.CodeHd h c P)
  (F:∀(w:World) (mg:Str->Option Value) (fa:Addr) (h:Heap),(K w.params).In h->h.Ns mainGlobals mg->mg d.name=some (.ref fa) ->
   ∃fd:FuncData,(∀(s:Shared) (u:Value),BindsTo s fd ⟨[u],[]⟩ [(x,u)]) /\
    ∀base:Heap,(K w.params).In base->base.Ns mainGlobals mg->Bm mg base->aF l.prog w (K w.params) mg base (CX w) k fa fd [x] (sp w))
  (f9:∀(w:World) (H:Hp) (a:Addr) (ns:List Int),ns.length<=n->xK ts H->bL (K w.params) H a (ns.map V.int)->sp w [.ref a] H (λv _=>v=.bl true) λ_ _ _=>False)
  (Gi:∀(w:World) (H:Hp) (s:Shared) (e:Value) (s':Shared),CX w [] H s (λ_ _ _=>False) e s'->False) :
  PySem.W.WalkO q loose XP YP l.row.toRowW d [] (λf vs=>PySem.call f vs):=by
 refine Att.ZK hn zi λw e7 bJ mg mb fa o pm cd doc a vs ns G Y ho hd cC zj Fc hints hlen hg=>?_
 obtain⟨KX,hT⟩:=hY w _ Y
 obtain⟨fd,hb,hF⟩:=F w mg fa _ KX G.T.g zj
 have Gh:∀P∈ts,isCodeTable bJ.heap P:=λP hP=>by
  obtain⟨_,c,C⟩:=hC w _ KX P hP
  exact(C.tab (hT P hP)).isCodeTable
 have vT:Bm mg bJ.heap:=by
  obtain⟨bm,ob,b1,b2,b3,b4,b5,b6⟩:=G.T.bmain
  refine⟨bm,ob,b1,b2,λq=>?_,b3,b4,b5,b6⟩
  obtain⟨o,es,ep,e,hd,_⟩:=G.T.g
  rw[q,e]at b3;cases b3;rw[hd]at b6;cases b6
 exact bW5 KX G.T.g G.T.b G.T.builtins G.T.nolimit hg hT Gh (λP hP=>(hC w _ KX P hP).1) Fc hints (fY hlen zb) hr vT hF hb (λH hO hS=>f9 w H a ns hlen hO hS) λH e s'=>Gi w H bJ e s'
end L2
namespace L3
open PySem L2 PySem.Spec PyProof.Rows
def xM(ts:List Addr)(sp:Sp):Sp:=λvs H Q E=>Tb ts H/\sp vs H Q E
theorem M7{X:Cx}{pins:List (Addr × Obj)}{σ:L2.St}{H:Hp}{s:Shared}{ts:List Addr}(I:Inv X pins σ H s)(h:Tb ts X.oG):Tb ts H:=λP hP=>by
 obtain⟨ps,e⟩:=h P hP
 obtain⟨m,e2⟩:=I.base.jW P ps e
 exact⟨_,e2⟩
def CA(ts:List Addr)(K:PySem.W.Frag):Sp:=λvs H Q _=>∃(a:Addr) (ns:List Int),vs=[.ref a]/\xK ts H/\bL K H a (ns.map V.int)/\ns.length<=63/\∀H',Q (.bl true) H'
theorem cd1{ts:List Addr}{K:PySem.W.Frag}(nl:K.all (λp=>FX p.2)=true){vs:List V}{H:Hp}{Q:VK}{E:XK}(h:CA ts K vs H Q E):xM ts (aV MS) vs H Q E:=by
 obtain⟨a,ns,rfl,hO,hS,hl,q⟩:=h
 have hz:∃o,H a=some (.cU o (.lst (ns.map V.int))):=by
  rcases hS with (hS | hS) | ⟨o,its,n,hk,hc,_⟩
  ·rcases hO.any a with z | ⟨o,xs,z⟩ | ⟨_,z⟩
   ·rw[hS]at z;cases z
   ·rw[hS]at z;cases z
   ·rw[hS]at z;cases z
  ·exact hS
  ·have hm:=bI8 hk
   have:=cJ.mp nl _ hm
   simp[FX,hc]at this
 obtain⟨o,ho⟩:=hz
 refine⟨hO.tb,H,[.fz (aS ns)],λd=>d=.bl true,ah.refl _,.fz ho (MT ns) .nil,⟨ns,rfl,hl,rfl⟩,λd v F' H' A hd hs hf he h3 r nd fr=>?_⟩
 subst hd
 cases r
 exact q H'
end L3
namespace L2
open PySem PySem.Spec PyProof.Rows
def rem(H:Hp)(f c:Addr):Hp:=λb=>if b=f\/b=c then none else H b
def pZ(H H':Hp)(f c:Addr):Hp:=λb=>if b=f\/b=c then H b else H' b
section
variable{P:Program}{w:World}{H H':Hp}{h:Heap}{a b f c:Addr}{o:HO}{of oc:Obj}
theorem M8:rem H f c f=none:=if_pos (.inl rfl)
theorem CB:rem H f c c=none:=if_pos (.inr rfl)
theorem gJ(h1:b≠f)(h2:b≠c):rem H f c b=H b:=if_neg (by simp[h1,h2])
theorem vU(e:H b=none):rem H f c b=none:=by unfold rem;split;rfl;exact e
theorem zW(e:rem H f c b=some o):b≠f/\b≠c/\H b=some o:=by
 unfold rem at e
 split at e
 ·cases e
 ·rename_i n
  exact⟨λz=>n (.inl z),λz=>n (.inr z),e⟩
theorem sY(h1:b≠f)(h2:b≠c):pZ H H' f c b=H' b:=if_neg (by simp[h1,h2])
theorem M9:pZ H H' f c f=H f:=if_pos (.inl rfl)
theorem Gk:pZ H H' f c c=H c:=if_pos (.inr rfl)
theorem fi.rem{φ:Heap->Prop}(x:fi P w H h a o)(ha:a≠f)(hf:H f=some (.ext φ))(hc:H c=some (.own f)\/H c=none)(Gm:¬ ∀h',φ h'->∃q,h'.CodeRec (.ref f) q):fi P w (rem H f c) h a o:=by
 have own:∀b,H b=some (.own a)->L2.rem H f c b=some (.own a):=λb e=>by
  rw[gJ (λz=>by subst z;rw[hf]at e;cases e) (λz=>by subst z;rcases hc with hc | hc<;>(rw[hc]at e;cases e);exact ha rfl)];exact e
 have tup:∀b xs,H b=some (.tup xs)->L2.rem H f c b=some (.tup xs):=λb xs e=>by
  rw[gJ (λz=>by subst z;rw[hf]at e;cases e) (λz=>by subst z;rcases hc with hc | hc<;>(rw[hc]at e;cases e))];exact e
 induction o with
 | lst xs=>exact x
 | tup xs=>exact x
 | dK eX=>exact x
 | dT eX =>
  obtain⟨z,y,xs,r,ob⟩:=x
  exact⟨z,y,xs,Paired.Ez r λp q z=>⟨z.1,tup _ _ z.2.1,z.2.2⟩,ob⟩
 | set S n=>exact x
 | ins C dx fs =>
  obtain⟨d,r⟩:=x
  exact⟨own _ d,r⟩
 | own y=>exact x
 | xd fs=>exact x
 | BK lo hi=>exact x
 | cU ob u ih=>obtain⟨e,q⟩:=x;exact⟨e,ih q⟩
 | dG ps =>
  obtain⟨e,t,cc⟩:=x
  refine⟨e,t,λpos cv q=>?_⟩
  obtain⟨d,φ,e1,e2,e3⟩:=cc pos cv q
  refine⟨d,φ,e1,?_,e3⟩
  rw[gJ (λz=>?_) (λz=>by subst z;rcases hc with hc | hc<;>(rw[hc]at e2;cases e2))]
  ·exact e2
  ·subst z
   rw[hf]at e2;cases e2
   exact Gm e3
 | met f y=>exact x
 | ext φ=>obtain⟨p,r,st⟩:=x;exact⟨p,r,λh1 h2 p1 kk=>st h1 h2 p1 λb o hb q=>kk b o (hb.imp id (own b)) q⟩
theorem Na{φ:Heap->Prop}{fd:FuncData}(p:φ h)(g:∀h',φ h'->h'.get? f=some of)(hd:of.data=.func fd):¬ ∀h',φ h'->∃q,h'.CodeRec (.ref f) q:=λz=>by
 obtain⟨q,k,ok,vs,t,q1,q2,q3,_⟩:=z h p
 cases q1
 rw[g h p]at q2;cases q2
 rw[hd]at q3;cases q3
theorem dO.lam(ok:dO P w H h)(hf:H f=some (.ext (L3.kH of oc c f))):L3.kH of oc c f h:=(ok f _ hf).1
theorem dO.rem{fd:FuncData}(ok:dO P w H h)(hf:H f=some (.ext (L3.kH of oc c f)))(hc:H c=some (.own f))(hd:of.data=.func fd):dO P w (rem H f c) h:=λb o e =>
 let⟨h1,_,h3⟩:=zW e;(ok b o h3).rem h1 hf (.inl hc) (Na (ok.lam hf) (λ_ p=>p.1) hd)
end
theorem j4.rem{P:Program}{w:World}{K:PySem.W.Frag}{mg:Str->Option Value}{base:Heap}{A:Around}{outer:List Env}{s:Shared}{H:Hp}{f c:Addr}{of oc:Obj}{fd:FuncData}(e:j4 P w K mg base A outer s H)
  (hf:H f=some (.ext (L3.kH of oc c f))) (hc:H c=some (.own f)) (hd:of.data=.func fd):j4 P w K mg base A outer s (rem H f c) :=
 ⟨e.frames,e.mod,λb o q=>⟨(e.bs b o q).1,vU (e.bs b o q).2⟩,e.k9,e.iG,λb hb=>vU (e.lh b hb),e.aZ.rem hf hc hd,e.bare⟩
theorem CE.add{P:Program}{w:World}{K:PySem.W.Frag}{mg:Str->Option Value}{base:Heap}{A:Around}{outer:List Env}{s s':Shared}{H:Hp}{f c:Addr}{of oc:Obj}{Q Q':VK}{u:Value}(e0:j4 P w K mg base A outer s H)
  (hf:H f=some (.ext (L3.kH of oc c f))) (hc:H c=some (.own f)) (h:CE outer P w (rem H f c) s Q u s') (hQ:∀v H',Q v H'->H' f=none->H' c=none->Q' v (pZ H H' f c)):CE outer P w H s Q' u s':=by
 obtain⟨v,H',os,bare,un,aZ,r,q⟩:=h
 obtain⟨gf,gc⟩:=e0.aZ.lam hf
 have Nb:∀{b o},H b=some o->b ∉ jX outer:=λ{b o} e z=>by rw[e0.lh b z]at e;cases e
 have nf:H' f=none:=un.free f _ gf M8 (by simp)
 have nc:H' c=none:=un.free c _ gc CB (by simp)
 have kf:=un.keep f _ gf M8 (Nb hf) (by simp)
 have kc:=un.keep c _ gc CB (Nb hc) (by simp)
 refine⟨v,pZ H H' f c,os,bare,⟨λb o e n=>un.keep b o e (vU n),λb o e n=>un.slot b o e (vU n),λb o e n x=>?_,un.there,λb xs e=>?_,λb ob xs e=>?_,λb ps e=>?_⟩,λb o e=>?_,r,hQ v H' q nf nc⟩
 ·rw[sY (λz=>by subst z;rw[hf]at n;cases n) (λz=>by subst z;rw[hc]at n;cases n)]
  exact un.free b o e (vU n) x
 ·have n1:b≠f:=λz=>by subst z;rw[hf]at e;cases e
  have n2:b≠c:=λz=>by subst z;rw[hc]at e;cases e
  rw[sY n1 n2]
  exact un.mx b xs (by rw[gJ n1 n2];exact e)
 ·have n1:b≠f:=λz=>by subst z;rw[hf]at e;cases e
  have n2:b≠c:=λz=>by subst z;rw[hc]at e;cases e
  rw[sY n1 n2]
  exact un.k8 b ob xs (by rw[gJ n1 n2];exact e)
 ·have n1:b≠f:=λz=>by subst z;rw[hf]at e;cases e
  have n2:b≠c:=λz=>by subst z;rw[hc]at e;cases e
  rw[sY n1 n2]
  exact un.jW b ps (by rw[gJ n1 n2];exact e)
 ·by_cases z:b=f
  ·subst z
   rw[M9,hf]at e;cases e
   refine⟨⟨kf,kc⟩,⟨_,kf⟩,λh1 h2 p kk=>⟨kk b _ (.inl rfl) p.1,kk c _ (.inr ?_) p.2⟩⟩
   rw[Gk];exact hc
  ·by_cases z2:b=c
   ·subst z2
    rw[Gk,hc]at e;cases e
    exact⟨_,kc⟩
   ·rw[sY z z2]at e
    have up:∀{b' o'},H' b'=some o'->pZ H H' f c b'=some o':=λ{b' o'} q=>by
     rw[sY (λz=>by subst z;rw[nf]at q;cases q) (λz=>by subst z;rw[nc]at q;cases q)];exact q
    exact(aZ b o e).nI (λ_ _ _ q=>q) (λ_ q=>up q) (λ_ _ q=>up q) λ_ _ q=>up q
theorem b92{prog:Program}{w:World}{A:Around}{R:Result->Shared->Prop}{s:Shared}{a:Addr}{args:Args}{o:Obj}{fd:FuncData}{body:Expr}{q:Str}(cZ2:A.depth<recursionLimit)
  (ho:s.heap.get? a=some o)
  (yV:o.data=.func fd) (hco:fd.scope.isCoroutine=false) (cZ4:fd.scope.isGenerator=false) (fO:fd.body=.expr body) (cC:s.heap.CodeRec fd.code q)
  (h:wpAny (model prog w) A.in1 (bindArgs fd args) (λbinds bJ =>
   wpAny (model prog w) A.in1 (newFunctionEnv fd.scope fd.globals fd.closure binds (q++".<locals>.") (some a) fd.code none fd.builtins)
    (λenv uM=>uM.heap.NoLimit/\codeAny (model prog w) A (.expr body env) R uM) (λe s'=>R (.error e) s') bJ) (λe s'=>R (.error e) s') s) :
  codeAny (model prog w) A (.call (.ref a) args) R s:=by
 refine codeAny_of_tree ?_
 show wpAny _ A.in1 (callAny (.ref a) args) _ _ s
 simp only[callAny]
 refine wpAny_bind (wpAny_load ho ?_)
 obtain⟨c,oc,vs,tq,hc,i5,Gp,hq⟩:=cC
 simp only[yV,callFunction,hco,cZ4,fO,hc]
 rw[hc]at h
 refine wpAny_bind (m:=field (.ref c) 1) (wpAny_field i5 Gp hq (wpAny_bind (wpAny_pure ?_)))
 exact wpAny_bind (wpAny_mono h (λbinds bJ CC=>wpAny_bind (wpAny_mono CC (λenv uM Nc=>wpAny_bind (wpAny_enterFrame Nc.1 cZ2
  (wpAny_pure (And.intro rfl Nc.2)))) λ_ _ h'=>h')) λ_ _ h'=>h')
structure Nd(p1 p2 x:Str)(sc:Scope):Prop where
 kind:sc.kind=.function
 co:sc.isCoroutine=false
 gen:sc.isGenerator=false
 nd:[p1,p2,x].Nodup
 l1:sc.names.lookup p1=some .local
 l2:sc.names.lookup p2=some .local
 Nf:∀y∈sc.names,y.2≠.cell
 only:∀y∈sc.names,y.2=.free->y.1=x
 lx:sc.names.lookup x=some .free
def vV(CX:e8)(P:Program)(w:World)(K:PySem.W.Frag)(mg:Str->Option Value)(base:Heap)(N:List Str)(qual:Str)(scope:Scope)(f:Addr)(cd:Value)(cl:List (Str × Addr))(A:Around)(outer:List Env)(s:Shared)(H:Hp)(E:XK):Cx where
 prog:=P
 w:=w
 K:=K
 mg:=mg
 base:=base
 A:=A.deeper (PySem.W.envX qual scope s.heap.objs.size f cd cl)
 N:=N
 e7:=s
 oG:=H
 env:=PySem.W.envX qual scope s.heap.objs.size f cd cl
 outer:=outer
 stack:=PySem.W.envX qual scope s.heap.objs.size f cd cl::outer
 ex:=[]
 calm:=true
 fn:=λ_=>false
 pn:=[]
 xe:=λe s'=>wpAny (model P w) (A.deeper (PySem.W.envX qual scope s.heap.objs.size f cd cl)) (leaving (PySem.W.envX qual scope s.heap.objs.size f cd cl) e) (λ_ uS=>CX outer H s E e uS) (λe' uS=>CX outer H s E e' uS) s'
theorem cp6{CX:e8}{P:Program}{w:World}{K:PySem.W.Frag}{mg:Str->Option Value}{base:Heap}{p1 p2 x qn q:Str}{params:Arguments}{body:Expr}{scope:Scope}{pm g7:Value}{f c c':Addr}{k:Nat}{A:Around}{outer:List Env}{s:Shared}{H:Hp}{E:XK}
  {u1 u2 uc:Value} {v1 v2 vc:V} {Q:VK} {t:TE} {args:Args} (S:Nd p1 p2 x scope) (e0:j4 P w K mg base A outer s H) (hr:cy (k+1) A)
  (hf:s.heap.get? f=some (PySem.W.kla_obj "<lambda>" qn params body scope [(x,c)] pm c' g7)) (hc:s.heap.IsCell c (some uc)) (rc:RelV vc uc) (hH:H c=none) (cC:s.heap.CodeRec (.ref c') q)
  (hb:bindArgs (PySem.W.kla_fn "<lambda>" qn params body scope [(x,c)] pm (.ref c') g7) args=pure [(p1,u1),(p2,u2)]) (r1:RelV v1 u1) (r2:RelV v2 u2)
  (ht:PE (vV CX P w K mg base [p1,p2,x] q scope f (.ref c') [(x,c)] A outer s H E) body t) (h:t [some v1,some v2,some vc] H Q) :
  codeAny (model P w) A (.call (.ref f) args) (CR CX outer P w H s Q E) s:=by
 have lim:s.heap.NoLimit:=e0.mod.nolimit.keeps λb o e=>(e0.bs b o e).1
 refine b92 hr.depth hf rfl S.co S.gen rfl cC ?_
 rw[hb]
 have cZ6:∀y∈[(p1,u1),(p2,u2)],scope.names.lookup y.1=some .local:=λy hy=>by
  simp at hy
  rcases hy with rfl | rfl
  ·exact S.l1
  ·exact S.l2
 refine wpAny_pure (wpAny_newFunctionEnv S.Nf cZ6 (λCC Cy Ng=>⟨lim.fresh _ Ng,?_⟩) S.kind)
 show codeAny _ _ (.expr body (PySem.W.envX q scope s.heap.objs.size f (.ref c') [(x,c)])) _ _
 have hk:∀b o,s.heap.get? b=some o->CC.get? b=some o:=λb o e=>Ng.extBut b o (fN (cu e)) (gQ _ e)
 have lY:p1≠p2/\p1≠x/\p2≠x:=by have:=S.nd;simp at this;exact⟨this.1.1,this.1.2,this.2⟩
 have look:∀y d,([(x,c)]:List (Str × Addr)).lookup y=some d->y=x/\d=c:=λy d e=>by
  rw[iE]at e
  split at e
  ·rename_i z;exact⟨beq_iff_eq.mp z,(cT e).symm⟩
  ·cases e
 have I:Inv (vV CX P w K mg base [p1,p2,x] q scope f (.ref c') [(x,c)] A outer s H E) [] [some v1,some v2,some vc] H { s with heap:=CC,toks:=s.toks+[(p1,u1),(p2,u2)].length }:=by
  refine⟨⟨e0.mod,S.kind,rfl,rfl,cg _,λy z d h1 h2=>?_,λy hy=>?_,λy d z _=>absurd z (by simp[vV]),λ_=>hr.hd,Around.frames_deeper e0.frames,.inr ⟨rfl,rfl⟩,λb z=>absurd z (by simp[vV]),e0.bs,e0.k9,λb _ _=>by simp[vV],λb z=>absurd z (by simp[vV]),e0.iG,e0.lh⟩,
   rfl,e0.bare,Un.kept hk,⟨_,Cy,λi y v h1 h2 h3=>?_⟩,λy d h=>?_,e0.aZ.fresh (cg _),λy d h=>?_,λp hp=>absurd (show p∈([]:List (Addr × Obj)) from hp) (by simp),e0.aZ.kept hk,rfl⟩
  ·exact(look y d h1).1.trans (look z d h2).1.symm
  ·have hy:scope.names.lookup y=some .cell\/scope.names.lookup y=some .free:=hy
   rcases hy with hy | hy
   ·exact absurd rfl (S.Nf _ (PySem.mem_of_lookup hy))
   ·obtain rfl:y=x:=S.only _ (PySem.mem_of_lookup hy) rfl
    exact⟨c,by show([(y,c)]:List (Str × Addr)).lookup y=_;rw[iE,beq_self_eq_true]⟩
  ·match i,h1,h2 with
   | 0,h1,h2 =>
    cases h1;cases h2
    exact⟨u1,r1,.inl ⟨S.l1,by
     show([(p1,u1),(p2,u2)]:List (Str × Value)).reverse.lookup p1=_
     simp[iE,beq_eq_false_iff_ne.mpr lY.1]⟩⟩
   | 1,h1,h2 =>
    cases h1;cases h2
    exact⟨u2,r2,.inl ⟨S.l2,by
     show([(p1,u1),(p2,u2)]:List (Str × Value)).reverse.lookup p2=_
     simp[iE]⟩⟩
   | 2,h1,h2 =>
    cases h1;cases h2
    exact⟨uc,rc,.inr ⟨.inr S.lx,c,by show([(x,c)]:List (Str × Addr)).lookup x=_;rw[iE,beq_self_eq_true],hc.keeps hk⟩⟩
   | n+3,h1,h2=>cases h2
  ·obtain⟨rfl,rfl⟩:=look y d h
   exact⟨_,hc.keeps hk⟩
  ·obtain⟨rfl,rfl⟩:=look y d h
   exact hH
 refine PySem.W.kla_codeExpr (wpAny_mono (ht [] _ _ H _ I h) (λu s' hs=>?_) λe s' hs=>hs)
 obtain⟨v,H',J,rv,q⟩:=hs
 exact⟨v,H',J.os,J.bare,J.base,J.aZ,rv,q⟩
end L2
namespace L3
open PySem L2 PySem.Spec PyProof.Rows
theorem ah.pZ{H H':Hp}{f c:Addr}{o1 o2:HO}(h:ah (rem H f c) H')(h1:H f=some o1)(n1:iK o1=true)(h2:H c=some o2)(n2:iK o2=true):ah H (pZ H H' f c) where
 get b o e n:=by
  by_cases z:b=f
  ·rw[z,M9,<- z];exact e
  ·by_cases z2:b=c
   ·rw[z2,Gk,<- z2];exact e
   ·rw[sY z z2];exact h.get b o (by rw[gJ z z2];exact e) n
 tb b ps e:=by
  have z:b≠f:=λz=>by subst z;rw[h1]at e;cases e;cases n1
  have z2:b≠c:=λz=>by subst z;rw[h2]at e;cases e;cases n2
  rw[sY z z2]
  exact h.tb b ps (by rw[gJ z z2];exact e)
abbrev xN:=Int->Int->(Int->Prop)->Prop
structure zX(P:Program)(w:World)(K:PySem.W.Frag)(mg:Str->Option Value)(base:Heap)(n:Nat)(of oc:Obj)(c k:Addr)(sp:xN):Prop where
 fn:∃o1 od fd sl,of=⟨o1,od,.func fd,sl⟩
 run:∀(A:Around) (outer:List Env) (s:Shared) (H:Hp) (f:Addr) (t u:Tok) (i j:Int) (Qd:Int->Prop),cy n A->j4 P w K mg base A outer s H->s.heap.get? f=some of->s.heap.get? c=some oc->H c=none->(∃q,s.heap.CodeRec (.ref k) q)->sp i j Qd ->
  codeAny (model P w) A (.call (.ref f) ⟨[.int i t,.int j u],[]⟩) (CR aK outer P w H s (λv H'=>∃r,v=.int r/\Qd r/\ah H H') (λ_ _ _=>False)) s
def sZ(L:Obj->Obj->Addr->Addr->xN->Prop)(i:Nat)(ta:cP):aJ:=λδ Q=>∃of oc c k sp,δ[i]?=some (some (.bG (.lam of oc c k)))/\L of oc c k sp/\ta δ λds ai=>∃a b,ds=[.int a,.int b]/\sp a b λr=>Q (.int r) ai
theorem Nh{X:Cx}{n i:Nat}{x:Str}{p pos:Pos}{e1 e2:Expr}{ta:cP}(hN:X.N[i]?=some x)(hv:jY X.env.scope x)(hr:cy n X.A)(ha:PA X [e1,e2] (lA ta))
  (hd:(x==("__debug__":Str))=false:=by decide) (cC:(x==("__classdict__":Str))=false:=by decide) (he:starEach [e1,e2] X.env=(false,eval e1 X.env)::starEach [e2] X.env:=by rfl) (bU:(backTo pos (starEach [e2] X.env)).any (·.1)=false:=by rfl) :
  PE X (.Call (.Name x p) [e1,e2] [] pos) (lE (sZ (zX X.prog X.w X.K X.mg X.base n) i ta)):=by
 intro pins s σ H Q I zz
 obtain⟨B,F,δ,ts,Qd,c,⟨of,oc,cc,k,sp,ed,L,q⟩,kk⟩:=zz
 obtain⟨v,ev,sv⟩:=c.look ed
 obtain⟨f,rfl,lam⟩:∃f,v=.ref f/\zx H f of oc cc k:=by
  cases sv with
  | bG h _=>exact⟨_,rfl,h⟩
 refine wpAny_Call_Name_kw (a7 (mB hN hv hd cC pins s σ H (λv' H'=>v'=.ref f/\H'=H) I ⟨_,ev,rfl,rfl⟩) λu s1 zz=>?_)
 obtain⟨v',H',I1,r1,e1,e2⟩:=zz
 subst e1 e2
 obtain rfl:u=.ref f:=r1
 have fnAt:∀{H1:Hp} {s2:Shared},Inv X pins σ H1 s2->zx H1 f of oc cc k->PySem.W.FnAt f s2.heap:=λ{H1 s2} J l=>by
  obtain⟨o1,od,fd,sl,e⟩:=L.fn
  exact⟨o1,od,fd,sl,by rw[<-e];exact(J.aZ.lam l.fn).1⟩
 refine PySem.W.callWith_F (fnAt I1 lam) (a7 (ha pos pins s1 σ H' (λvs H2=>∃a b ai F',vs=[.int a,.int b]/\(sp a b λr=>Qd (.int r) ai)/\ah F F'/\ah H' H2/\av B F' H2 σ ai ts) I1
  ⟨B,F,δ,ts,_,c,q,λds ai vs F' H2 ⟨a,b,eds,q2⟩ f1 h1 c1 s1=>?_⟩) λus s2 ⟨vs,H2,I2,r2,a,b,ai,F',evs,q2,f1,h1,c1⟩=>⟨fnAt I2 ((show mJ H' f (.lam of oc cc k) from lam).mono λa o e _ t=>h1.get a o e t),?_⟩) he bU
 ·subst eds
  refine⟨a,b,ai,F',?_,q2,f1,h1,c1⟩
  cases s1 with
  | int s1=>cases s1 with
   | int s1=>cases s1;rfl
 ·subst evs
  have s8:zx H2 f of oc cc k:=(show mJ H' f (.lam of oc cc k) from lam).mono λa o e _ t=>h1.get a o e t
  obtain⟨o1,od,fd,sl,eof⟩:=L.fn
  have cZ9:of.data=.func fd:=by rw[eof]
  obtain⟨gf,gc⟩:=I2.aZ.lam s8.fn
  obtain⟨ψ,eψ,Gq⟩:=s8.Mi
  obtain⟨u1,u2,t1,t2,rfl⟩:∃(u1 u2:Unit) (t1 t2:Tok),us=[.int a t1,.int b t2]:=by
   cases r2 with
   | cons ra r2=>cases r2 with
    | cons rb r2 =>
     cases r2
     obtain⟨t1,rfl⟩:=ra
     obtain⟨t2,rfl⟩:=rb
     exact⟨(),(),t1,t2,rfl⟩
  refine wpAny_call (codeAny_mono (L.run X.A X.stack s2 (rem H2 f cc) f t1 t2 a b _ hr (I2.zc.rem s8.fn s8.cell cZ9) gf gc CB (Gq _ (I2.aZ k _ eψ).1) q2) λr s' hq=>?_)
  cases r with
  | error e=>exact hq.elim
  | ok fl =>
   cases fl with
   | ret u =>
    refine I2.after (CE.add I2.zc s8.fn s8.cell hq (Q':=Q) ?_)
    rintro v H3 ⟨r,rfl,hqd,hs⟩ nf nc
    have sm:=hs.pZ s8.fn rfl s8.cell rfl
    exact kk _ ai _ F' _ hqd f1 (h1.trans sm) ((c1.grow sm).pushS (.int .nil) rfl)
   | next=>exact gP hq
   | brk=>exact gP hq
   | cont=>exact gP hq
end L3
namespace L2
open PySem PySem.Spec PyProof.Rows
theorem by4{p:Pos}{c:Value}(l:List Value)(h:TriplesOk l):TriplesOk (l++[rawInt p.line,rawInt p.col,c]):=by
 fun_induction TriplesOk l with
 | case1=>simp[TriplesOk,rawInt]
 | case2 a b d e f rest ih=>exact ih h
 | case3=>exact h.elim
theorem bR2{p q:Pos}{c cv:Value}(l:List Value)(h:TriplesOk l)(e:codeAmong q (l++[rawInt p.line,rawInt p.col,c])=some cv):codeAmong q l=some cv\/cv=c:=by
 fun_induction TriplesOk l with
 | case1 =>
  simp only[ju,rawInt,codeAmong]at e
  split at e
  ·exact .inr (cT e).symm
  ·cases e
 | case2 a b d e' f rest ih =>
  simp only[iF,codeAmong]at e ⊢
  split at e
  ·rename_i z;rw[if_pos z];exact .inl e
  ·rename_i z;rw[if_neg z];exact ih h e
 | case3=>exact h.elim
def p9(f:Addr)(o:Obj):Heap->Prop:=λh=>h.get? f=some o
def cO7(P c:Addr)(x:Str)(params:Arguments)(body:Expr)(scope:Scope):TE:=λ_ H Q=>(∃ps,H P=some (.dG ps)) /\
 ∀f k qn pm g7 H',H f=none->H' f=some (.ext (p9 f (PySem.W.kla_obj "<lambda>" qn params body scope [(x,c)] pm k g7)))->L3.Fw H' k->k≠f->L3.ah H H'->(∀a ws,H' a=some (.lst ws)->H a=some (.lst ws))->Q (.ref f) H'
theorem cB7{X:Cx}{P c cc:Addr}{x:Str}{params:Arguments}{body:Expr}{scope:Scope}{pos:Pos}(gh:closureFor scope X.env=pure [(x,c)])(s9:X.env.code=.ref cc)(hK:PySem.W.codeHdIn X.K cc P=true)(vT:Bm X.mg X.base)
  (Gr:defaultsOf params X.env=([],[]):=by rfl):PE X (.Lambda params body scope pos) (cO7 P c x params body scope):=by
 intro pins s σ H Q I zz
 obtain⟨⟨ps,hP⟩,q⟩:=zz
 obtain⟨bm,ob,b1,b2,b3,b4,b5,b6,b7⟩:=vT
 have C:=PySem.W.codeHd_of_K I.dU hK
 obtain⟨oP,CD,codes⟩:=I.aZ P _ hP
 have hg:=I.mod.glob.keeps I.bk
 have Ni:∀{b o},X.base.get? b=some o->b≠P:=λ{b o} e z=>by
  have:=(I.bs b o e).2
  rw[z,hP]at this;cases this
 have hgP:mainGlobals≠P:=by
  obtain⟨o,es,ep,e,_⟩:=I.mod.glob
  exact Ni e
 have Nj:s.heap.BuiltinsAt X.mg P:=⟨bm,ob,b1,b2,b3,Ni b4,I.bk _ _ b4,b5,b6,b7⟩
 refine PySem.W.kla_eval Gr ?_
 have fresh:∀{b:Addr},s.heap.objs.size<=b->H b=none:=λ{b} h=>I.aZ.fresh h
 cases Gu:codeAmong pos ps.toList with
 | none =>
  refine PySem.W.kla_makeFunction (mg:=X.mg) gh I.ok.glob hg s9 C oP CD Gu hgP Nj λk g7 h' tk hx zY dW c06 Nk=>?_
  have Gv:P<s.heap.objs.size:=cu oP
  have hPk:k≠P:=λz=>by rw[z]at zY;exact absurd Gv (yH.mpr zY)
  have vW:s.heap.objs.size<=h'.objs.size:=fY zY (Bk dW)
  have hPf:h'.objs.size≠P:=λz=>by rw[<-z]at Gv;exact absurd Gv (yH.mpr vW)
  have Nl:k≠h'.objs.size:=fN dW
  generalize Nm:PySem.W.kla_obj "<lambda>" (X.env.qual++"<lambda>") params body scope [(x,c)] ((X.mg "__name__").getD .none) k g7=obj
  have eK:obj.isFreed=false:=by rw[<-Nm];rfl
  have zZ:∀b,b≠P->b≠k->b≠h'.objs.size->upd (upd (upd H P (.dG (ps++#[rawInt pos.line,rawInt pos.col,.ref k]))) k (.ext λh=>∃q,h.CodeRec (.ref k) q)) h'.objs.size (.ext (p9 h'.objs.size obj)) b=H b:=λb n1 n2 n3=>by
   rw[bt n3,bt n2,bt n1]
  have CF:upd (upd (upd H P (.dG (ps++#[rawInt pos.line,rawInt pos.col,.ref k]))) k (.ext λh=>∃q,h.CodeRec (.ref k) q)) h'.objs.size (.ext (p9 h'.objs.size obj)) h'.objs.size=some (.ext (p9 h'.objs.size obj)):=de
  have atK:upd (upd (upd H P (.dG (ps++#[rawInt pos.line,rawInt pos.col,.ref k]))) k (.ext λh=>∃q,h.CodeRec (.ref k) q)) h'.objs.size (.ext (p9 h'.objs.size obj)) k=some (.ext λh=>∃q,h.CodeRec (.ref k) q):=by rw[bt Nl,de]
  have CG:upd (upd (upd H P (.dG (ps++#[rawInt pos.line,rawInt pos.col,.ref k]))) k (.ext λh=>∃q,h.CodeRec (.ref k) q)) h'.objs.size (.ext (p9 h'.objs.size obj)) P=some (.dG (ps++#[rawInt pos.line,rawInt pos.col,.ref k])):=by rw[bt hPf.symm,bt hPk.symm,de]
  generalize hHn:upd (upd (upd H P (.dG (ps++#[rawInt pos.line,rawInt pos.col,.ref k]))) k (.ext λh=>∃q,h.CodeRec (.ref k) q)) h'.objs.size (.ext (p9 h'.objs.size obj))=Hn at zZ CF atK CG
  have old:∀{b o},H b=some o->b≠P->Hn b=some o:=λ{b o} e n=>by
   have hb:b<s.heap.objs.size:=I.aZ.lt e
   rw[zZ b n (λz=>absurd hb (yH.mpr (z ▸ zY))) (λz=>absurd hb (yH.mpr (z ▸ vW)))];exact e
  have kept:∀b o,b≠P->s.heap.get? b=some o->(h'.push obj).get? b=some o:=λb o n e=>gQ _ (hx b o n e)
  have un:Un X.fs [] H Hn s.heap (h'.push obj):=by
   refine⟨λb o e n _ _=>kept b o (λz=>by rw[z,hP]at n;cases n) e,λb o e n _ _=>⟨o.slots,kept b o (λz=>by rw[z,hP]at n;cases n) e⟩,λb o e n _=>?_,λb o e _=>?_,λb xs e=>old e (λz=>by rw[z,hP]at e;cases e),λb ob xs e=>old e (λz=>by rw[z,hP]at e;cases e),λb Nn e=>?_⟩
   ·have hb:=cu e
    rw[zZ b (λz=>by rw[z,hP]at n;cases n) (λz=>absurd hb (yH.mpr (z ▸ zY))) (λz=>absurd hb (yH.mpr (z ▸ vW)))];exact n
   ·by_cases z:b=P
    ·rw[z];exact⟨_,gQ _ Nk⟩
    ·exact⟨o,kept b o z e⟩
   ·by_cases z:b=P
    ·subst z
     rw[hP]at e;cases e
     exact⟨_,CG⟩
    ·exact⟨#[],by rw[old e z];simp⟩
  have aZ:dO X.prog X.w Hn (h'.push obj):=λb o e=>by
   by_cases z1:b=h'.objs.size
   ·subst z1
    rw[CF]at e;cases e
    exact⟨iB _ eK,⟨_,iB _ eK⟩,λh1 h2 p kk=>kk _ _ (.inl rfl) p⟩
   ·by_cases z2:b=k
    ·subst z2
     rw[atK]at e;cases e
     have hr:=c06.push obj
     refine⟨⟨_,hr⟩,?_,λh1 h2 ⟨q,c1,o1,vs,t,e1,e2,r⟩ kk=>?_⟩
     ·obtain⟨c1,o1,vs,t,e1,e2,_⟩:=hr
      cases e1
      exact⟨o1,e2⟩
     ·cases e1
      exact⟨q,_,o1,vs,t,rfl,kk _ _ (.inl rfl) e2,r⟩
    ·by_cases z3:b=P
     ·subst z3
      rw[CG]at e;cases e
      refine⟨gQ _ Nk,by rw[WK];exact by4 _ CD,λp' cv e'=>?_⟩
      rw[WK]at e'
      rcases bR2 _ CD e' with e' | e'
      ·obtain⟨d,φ,e1,e2,e3⟩:=codes p' cv e'
       exact⟨d,φ,e1,old e2 (λz=>by rw[z,hP]at e2;cases e2),e3⟩
      ·exact⟨k,_,e',atK,λh' p=>p⟩
     ·rw[zZ b z3 z2 z1]at e
      have nP:∀{b' o'},H b'=some o'->(∀ps,o'≠.dG ps)->b'≠P:=λ{b' o'} e n z=>by rw[z,hP]at e;cases e;exact n _ rfl
      refine(I.aZ b o e).nI (λb' u z4 e'=>kept b' u ?_ e') (λb' e'=>old e' (nP e' (λps z=>by cases z))) (λb' xs e'=>old e' (nP e' (λps z=>by cases z))) λb' φ e'=>old e' (nP e' (λps z=>by cases z))
      rcases z4 with rfl | z4
      ·exact z3
      ·exact nP z4 (λps z=>by cases z)
  refine⟨.ref h'.objs.size,Hn,I.un un aZ,rfl,q _ k _ _ _ _ (fresh vW) (by rw[Nm];exact CF) ⟨_,atK,λh p=>p⟩ Nl ⟨λb o e n=>old e (λz=>by rw[z,hP]at e;cases e;cases n),λb Nn e=>?_⟩ λa ws e=>?_⟩
  ·exact un.jW b Nn e
  ·by_cases z1:a=h'.objs.size
   ·subst z1;rw[CF]at e;cases e
   ·by_cases z2:a=k
    ·subst z2;rw[atK]at e;cases e
    ·by_cases z3:a=P
     ·subst z3;rw[CG]at e;cases e
     ·rw[zZ a z3 z2 z1]at e;exact e
 | some cv =>
  obtain⟨k,φ,rfl,hk,Gm⟩:=codes pos cv Gu
  refine PySem.W.kla_makeFunctionHit (mg:=X.mg) gh I.ok.glob hg s9 C oP CD Gu Nj λg7 h' tk hx vW=>?_
  have hf:=fresh vW
  refine⟨.ref h'.objs.size,upd H h'.objs.size (.ext (p9 h'.objs.size (PySem.W.kla_obj "<lambda>" (X.env.qual++"<lambda>") params body scope [(x,c)] ((X.mg "__name__").getD .none) k g7))),I.laid (λb u e=>gQ _ (hx b u e)) vW ?_,rfl,q _ k (X.env.qual++"<lambda>") ((X.mg "__name__").getD .none) g7 _ hf de ⟨φ,?_,Gm⟩ (eH hk hf) (L3.ah.of λb o e=>?_) λa ws e=>?_⟩
  ·exact⟨iB _ rfl,⟨_,iB _ rfl⟩,λh1 h2 p kk=>kk _ _ (.inl rfl) p⟩
  ·rw[bt (eH hk hf)];exact hk
  ·rw[bt (eH e hf)];exact e
  ·by_cases z:a=h'.objs.size
   ·subst z;rw[de]at e;cases e
   ·rw[bt z]at e;exact e
end L2
namespace L2
open PySem PySem.Spec PyProof.Rows
structure qa(K:PySem.W.Frag)(C:Addr)(m:Str)(f:Addr):Prop where
 ga:PySem.W.specialIn K (.ref C) "__getattribute__"=some (some (.builtin "type.__getattribute__"))
 rd:PySem.W.readsIn K C (.type "type")=true
 at_:PySem.W.findCls K (.ref C) (.type "type") m=some (.val (.ref f))
 kp:PySem.W.keepIn K (.ref f)=true
section
variable{X:Cx}{CX:e8}{k:Nat}{f C:Addr}{fd:FuncData}{ps:List Str}{sp:Sp}{E:XK}{x m:Str}{p pos apos:Pos}{e o:Expr}{es:List Expr}{ta:TE}{t:TA}
theorem cd2{pins:List (Addr × Obj)}{σ:St}{H:Hp}{s:Shared}{pl:Sem Bool}{A:Around}{E':Value->Shared->Prop}{Q:Value × List Value->Shared->Prop}(I:Inv X pins σ H s)(M:qa X.K C m f)(h:∀s',Inv X pins σ H s'->Q (.ref f,[]) s') :
  wpAny (model X.prog X.w) A (getMethod (.ref C) m pl) Q E' s :=
 PySem.W.method_cls I.dU M.ga (PySem.W.cls_value (mc:=.type "type") I.dU M.rd M.at_ rfl (h _ (I.tok _)))
theorem Np{pins:List (Addr × Obj)}{σ:St}{H:Hp}{s:Shared}{pl:Sem Bool}{Q:Value->Shared->Prop}{QA:List V->Hp->Prop}(I:Inv X pins σ H s)(M:qa X.K C m f)(hg:Gl X x)(hm:X.mg x=some (.ref C))(ha:PA X (e::es) t)(h:t σ H QA)
  (hq:∀us s1 vs H1,Inv X pins σ H1 s1->Vals vs us->QA vs H1->wpAny (model X.prog X.w) X.A (call (.ref f) us) Q X.xe s1)
  (dZ:(x==("__debug__":Str))=false:=by decide) (gw:starEach (e::es) X.env=(false,eval e X.env)::starEach es X.env:=by rfl) (bU:(backTo pos (starEach es X.env)).any (·.1)=false:=by rfl)
  (ht:eval (.Call (.Attribute (.Name x p) m apos) (e::es) [] pos) X.env=(do
   let ov<-eval (.Name x p) X.env
   standAt apos.atName
   let (f,first)<-holding [ov] (getMethod ov m pl)
   callWith pos f first (backTo pos (starEach (e::es) X.env)) (backToKw pos (keywordEach [] X.env))):=by rfl) :
  wpAny (model X.prog X.w) X.A (eval (.Call (.Attribute (.Name x p) m apos) (e::es) [] pos) X.env) Q X.xe s:=by
 refine PySem.W.methodCall_KW (pl:=pl) (EF I hg hm ?_ dZ) ht
 refine cd2 I M λs1 I1=>?_
 refine PySem.W.callWith_K (first:=[]) (h₀:=X.base) I.ok.mod.xm M.kp (a7 (ha pos pins s1 σ H _ I1 h) λus s2 ⟨vs,H2,I2,r,q2⟩=>⟨I2.dU,?_⟩) gw bU
 exact hq us s2 vs H2 I2 r q2
def cJ6(sp:Sp)(E:XK)(c:Addr)(i:Nat)(t:TA):TE:=λσ H Q=>t σ H λvs H1=>∃f of fd v,H1 f=some (.ext (p9 f of))/\of.data=.func fd/\σ[i]?=some (some v) /\
 ∀oc u,oc.data=.cell (some u)->RelV v u->H1 c=none->c≠f->sp vs (upd (upd H1 f (.ext (L3.kH of oc c f))) c (.own f)) (λr H2=>H2 f=some (.ext (L3.kH of oc c f))/\H2 c=some (.own f)/\Q r (rem H2 f c)) E
theorem cp4{pl:Sem Bool}{y:Str}{c:Addr}{i:Nat}(M:qa X.K C m f)(F:aF X.prog X.w X.K X.mg X.base aK k f fd ps sp)(hr:cy k X.A)(hb:Binds X.K fd ps [])(hg:Gl X x)(hm:X.mg x=some (.ref C))
  (hN:X.N[i]?=some y) (hy:X.env.scope.names.lookup y=some .cell) (gh:X.env.cells.lookup y=some c) (uJ:X.fn y=true) (ha:PA X (e::es) t)
  (dZ:(x==("__debug__":Str))=false:=by decide) (gw:starEach (e::es) X.env=(false,eval e X.env)::starEach es X.env:=by rfl) (bU:(backTo pos (starEach es X.env)).any (·.1)=false:=by rfl)
  (ht:eval (.Call (.Attribute (.Name x p) m apos) (e::es) [] pos) X.env=(do
   let ov<-eval (.Name x p) X.env
   standAt apos.atName
   let (f,first)<-holding [ov] (getMethod ov m pl)
   callWith pos f first (backTo pos (starEach (e::es) X.env)) (backToKw pos (keywordEach [] X.env))):=by rfl) :
  PE X (.Call (.Attribute (.Name x p) m apos) (e::es) [] pos) (cJ6 sp E c i t):=by
 intro pins s σ H Q I h
 refine Np (pl:=pl) I M hg hm ha h (λus s1 vs H1 I1 r zq=>?_) dZ gw bU ht
 obtain⟨fa,of,fdd,v,hf,hd,hv,hq⟩:=zq
 obtain⟨ml,_,hl⟩:=I1.loc
 obtain⟨u,rv,lk⟩:=hl i y v hN hv (.inr (.inl hy))
 obtain⟨oc,gc,i5⟩:∃oc,s1.heap.get? c=some oc/\oc.data=.cell (some u):=by
  rcases lk with⟨hk,_⟩ | ⟨_,c',qZ,ic⟩
  ·rw[show X.env.kindOf y=some .cell from hy]at hk;cases hk
  ·rw[gh]at qZ;cases qZ;exact ic
 have nc:H1 c=none:=I1.kB y c gh
 have z5:c≠fa:=λz=>by rw[z,hf]at nc;cases nc
 have gf:s1.heap.get? fa=some of:=(I1.aZ fa _ hf).1
 have oM:=hq oc u i5 rv nc z5
 have Nq:=I1.ok.uI y c uJ gh
 generalize hH:upd (upd H1 fa (.ext (L3.kH of oc c fa))) c (.own fa)=Hp at oM
 have Nr:Hp c=some (.own fa):=by rw[<-hH,de]
 have atf:Hp fa=some (.ext (L3.kH of oc c fa)):=by rw[<-hH,bt z5.symm,de]
 have n5:∀b,b≠fa->b≠c->Hp b=H1 b:=λb n1 n2=>by rw[<-hH,bt n2,bt n1]
 have nfs:c ∉ X.fs:=λhb=>by
  obtain⟨_,o,ho,_⟩:=I1.ok.iG.mem hb
  exact absurd (dE (cu ho) Nq) (h7 _)
 have nst:∀b∈jX X.stack,b≠c:=λb hb z=>by
  rcases cw.mp (I1.BN b hb)with e | hb
  ·exact I1.qX y c gh (z ▸ e)
  ·exact nfs (z ▸ hb)
 have c16:dO X.prog X.w Hp s1.heap:=λb ob q=>by
  by_cases z1:b=c
  ·subst z1;rw[Nr]at q;cases q;exact⟨_,gc⟩
  ·by_cases z2:b=fa
   ·subst z2;rw[atf]at q;cases q
    exact⟨⟨gf,gc⟩,⟨_,gf⟩,λh1 h2 p kk=>⟨kk _ _ (.inl rfl) p.1,kk _ _ (.inr Nr) p.2⟩⟩
   ·rw[n5 b z2 z1]at q
    have x1:=(I1.aZ b ob q).rem (f:=fa) (c:=c) z2 hf (.inr nc) (Na gf (λ_ p=>p) hd)
    have up:∀{b' o'},rem H1 fa c b'=some o'->Hp b'=some o':=λ{b' o'} q=>by
     obtain⟨n1,n2,q'⟩:=zW q
     rw[n5 b' n1 n2];exact q'
    exact x1.nI (λ_ _ _ q=>q) (λ_ q=>up q) (λ_ _ q=>up q) λ_ _ q=>up q
 have e0:j4 X.prog X.w X.K X.mg X.base X.A X.stack s1 Hp:=by
  have e1:=I1.zc
  refine⟨e1.frames,e1.mod,λb ob q=>⟨(e1.bs b ob q).1,?_⟩,e1.k9,e1.iG,λb hb=>?_,c16,e1.bare⟩
  ·have Gw:=(I1.ok.bs b ob q).1
   rw[n5 b (λz=>by have:=(e1.bs b ob q).2;rw[z,hf]at this;cases this) (λz=>absurd (dE (cu Gw) (z ▸ Nq)) (h7 _))]
   exact(e1.bs b ob q).2
  ·have nb:=e1.lh b hb
   rw[n5 b (λz=>by rw[z,hf]at nb;cases nb) (nst b hb)];exact nb
 have hlen:us.length=ps.length:=by rw[<-r.length];exact F.len _ _ _ _ oM
 refine wpAny_call (codeAny_mono (F.run X.A X.stack s1 Hp ⟨us,[]⟩ us vs _ E hr e0 (by have:=hb s1 us I1.dU (by rw[gu];exact hlen);rwa [gu]at this) r oM) λrr s' hz=>?_)
 cases rr with
 | error e=>exact hz.elim
 | ok fl =>
  cases fl with
  | next=>exact gP hz
  | brk=>exact gP hz
  | cont=>exact gP hz
  | ret u' =>
   obtain⟨v',H2,os,bare,un,Nt,rv',q1,q2,q3⟩:=hz
   obtain⟨_,Nu⟩:=Nt.lam q1
   refine I1.after ⟨v',rem H2 fa c,os,bare,⟨λb ob g n hb hx=>?_,λb ob g n hb hx=>?_,λb ob g n hx=>?_,un.there,λb xs g=>?_,λb ob xs g=>?_,λb ps g=>?_⟩,Nt.rem q1 q2 hd,rv',q3⟩
   ·by_cases z:b=c
    ·rw[z,gc]at g;cases g;rw[z];exact Nu
    ·exact un.keep b ob g (by rw[n5 b (λz=>by rw[z,hf]at n;cases n) z];exact n) hb hx
   ·by_cases z:b=c
    ·rw[z,gc]at g;cases g;rw[z];exact⟨_,Nu⟩
    ·exact un.slot b ob g (by rw[n5 b (λz=>by rw[z,hf]at n;cases n) z];exact n) hb hx
   ·by_cases z:b=c
    ·rw[z];exact CB
    ·exact vU (un.free b ob g (by rw[n5 b (λz=>by rw[z,hf]at n;cases n) z];exact n) hx)
   ·have n1:b≠fa:=λz=>by rw[z,hf]at g;cases g
    have n2:b≠c:=λz=>by rw[z,nc]at g;cases g
    rw[gJ n1 n2]
    exact un.mx b xs (by rw[n5 b n1 n2];exact g)
   ·have n1:b≠fa:=λz=>by rw[z,hf]at g;cases g
    have n2:b≠c:=λz=>by rw[z,nc]at g;cases g
    rw[gJ n1 n2]
    exact un.k8 b ob xs (by rw[n5 b n1 n2];exact g)
   ·have n1:b≠fa:=λz=>by rw[z,hf]at g;cases g
    have n2:b≠c:=λz=>by rw[z,nc]at g;cases g
    rw[gJ n1 n2]
    exact un.jW b ps (by rw[n5 b n1 n2];exact g)
end
end L2
namespace L3
open PySem L2 PySem.Spec PyProof.Rows
theorem Gx{ts:List Addr}{H H':Hp}(h:Tb ts H)(s:ah H H'):Tb ts H':=λP hP=>by
 obtain⟨ps,e⟩:=h P hP
 obtain⟨m,e2⟩:=s.tb P ps e
 exact⟨_,e2⟩
theorem Nv{P:Program}{w:World}{K:PySem.W.Frag}{mg:Str->Option Value}{base:Heap}{n:Nat}{p1 p2 x qn:Str}{params:Arguments}{body:Expr}{scope:Scope}{pm g7:Value}{oc:Obj}{c k:Addr}{m:Int}{tm:Tok}{sp:xN}(S:Nd p1 p2 x scope)
  (i5:oc.data=.cell (some (.int m tm))) (hb:∀u1 u2:Value,bindArgs (PySem.W.kla_fn "<lambda>" qn params body scope [(x,c)] pm (.ref k) g7) ⟨[u1,u2],[]⟩=pure [(p1,u1),(p2,u2)])
  (fO:∀(q:Str) (f:Addr) (A:Around) (outer:List Env) (s:Shared) (H:Hp) (E:XK),cy n (A.deeper (PySem.W.envX q scope s.heap.objs.size f (.ref k) [(x,c)])) ->
   ∃t:aJ,PE (vV aK P w K mg base [p1,p2,x] q scope f (.ref k) [(x,c)] A outer s H E).gF body (lE t)/\∀i j Qd,sp i j Qd->t [some (.int i),some (.int j),some (.int m)] λd _=>∃r,d=.int r/\Qd r) :
  zX P w K mg base (n+1) (PySem.W.kla_obj "<lambda>" qn params body scope [(x,c)] pm k g7) oc c k sp where
 fn:=⟨_,_,_,_,rfl⟩
 run A outer s H f t u i j Qd hr e0 gf gc hH cC h:=by
  obtain⟨q,cC⟩:=cC
  obtain⟨tt,ht,hq⟩:=fO q f A outer s H (λ_ _ _=>False) (hr.deeper _)
  refine cp6 (v1:=.int i) (v2:=.int j) (vc:=.int m) (E:=λ_ _ _=>False) S e0 hr gf ⟨oc,gc,i5⟩ ⟨tm,rfl⟩ hH cC (hb _ _) ⟨t,rfl⟩ ⟨u,rfl⟩ ht.gF ?_
  refine⟨⟨H,H⟩,H,_,[],_,?_,hq i j Qd h,λd ai v F' H' hd f1 h1 c1=>?_⟩
  ·exact av.start (ds:=[.int i,.int j,.int m]) (vs:=[.int i,.int j,.int m]) (ah.refl H) (.int (.int (.int .nil))) 0
  ·obtain⟨r,rfl,hd⟩:=hd
   have s1:=c1.top
   cases s1
   exact⟨r,rfl,hd,h1⟩
section
variable{X:Cx}{CX:e8}{n:Nat}{f:Addr}{fd:FuncData}{ps:List Str}{sp:aU}{E:XK}{x:Str}{p pos:Pos}{e:Expr}{es:List Expr}{t:cP}{tl:List Addr}
theorem Nw(hT:Tb tl X.oG)(F:aF X.prog X.w X.K X.mg X.base CX n f fd ps (xM tl (aV sp)))(hr:cy n X.A)(hg:Gl X x)(hm:X.mg x=some (.ref f))(hk:PySem.W.keepIn X.K (.ref f)=true)(hb:Binds X.K fd ps [])(hx:oK CX X E)
  (ha:PA X (e::es) (lA t)) (dZ:(x==("__debug__":Str))=false:=by decide) (he:starEach (e::es) X.env=(false,eval e X.env)::starEach es X.env:=by rfl) (bU:(backTo pos (starEach es X.env)).any (·.1)=false:=by rfl) :
  PE X (.Call (.Name x p) (e::es) [] pos) (lE (nU sp t)):=by
 intro pins s σ H Q I zz
 obtain⟨B,F',δ,ts,Qd,c,q,k⟩:=zz
 have tb:=M7 I hT
 refine K7 F hr hg hm hk hb .nil hx ha dZ he bU pins s σ H Q I ⟨B,F',δ,ts,_,c,q,λds ao vs F1 H1 q1 f1 h1 c1 s1=>?_⟩
 refine⟨Gx tb h1,?_⟩
 rw[gu]
 exact Cc c1 s1 q1 λd v F' H' hd hf hs c'=>k d ao v F' H' hd (f1.trans hf) (h1.trans hs) c'
end
section
variable{P:Program}{w:World}{K:PySem.W.Frag}{mg:Str->Option Value}{base:Heap}
theorem Gz{x qual:Str}{st:Stmt}{f:Addr}{fd:FuncData}{N ps:List Str}{k:Nat}{sp:aU}{tl:List Addr}(F:j6 K x qual st f fd)(S:aT N ps (aI st))(len:∀ds Q,sp ds Q->ds.length=ps.length)
  (fO:∀(aD:Value) (A:Around) (outer:List Env) (s:Shared) (H:Hp) (E:XK),Tb tl H->cy k (A.deeper (envOfC qual (aI st) s.heap.objs.size f aD)) ->
   ∃t:cE,PSs (i7 aK P w K mg base N qual (aI st) f aD A outer s H E).gF (ie st) (lS (i7 aK P w K mg base N qual (aI st) f aD A outer s H E).gF t)/\∀ds Q,sp ds Q->t { nx:=λ_=>Q .az,rt:=Q } (je N ds)):aF P w K mg base aK (k+1) f fd ps (xM tl (aV sp)):=by
 refine F.ok S (λvs H Q E ⟨_,F,ds,Qd,e,r,h,_⟩=>by rw[<-r.length];exact len ds Qd h) λaD A outer s H vs Q E hr zz=>?_
 obtain⟨tb,F,ds,Qd,e,r,h,k⟩:=zz
 obtain⟨t,ht,hq⟩:=fO aD A outer s H E tb hr
 have fin:∀d v ai aN F' H',Qd d->av ⟨H,F⟩ F' H' aN ai [(d,v)]->Q v H':=λd v ai aN F' H' hd c=>by
  obtain⟨A,C,r',s',nd,fr⟩:=c.own
  exact k d v F' H' A hd c.b1 c.b2 c.ext c.b3 r' (jc.mp nd).1 λa ha=>fr a (iz _ ha)
 have e1:L2.start N vs=vs.map some++aX (N.length-ds.length) none:=by unfold L2.start;rw[r.length]
 refine⟨_,ht,⟨H,F⟩,F,je N ds,_,?_,hq ds Qd h,λai aN F' H' hd c=>fin .az .az ai aN F' H' hd (c.pushS (.az .nil) rfl),fin,λ_ _ _ _ z=>z.elim,λ_ _ _ _ z=>z.elim,XL.none (λ_ _ z=>z) λ_ _ z=>z⟩
 rw[e1]
 exact av.start e r _
theorem cp5{x qual:Str}{st:Stmt}{f cc:Addr}{fd:FuncData}{N ps:List Str}{k:Nat}{sp:Sp}(F:j6 K x qual st f fd)(s9:fd.code=.ref cc)(S:aT N ps (aI st))(len:∀vs H Q E,sp vs H Q E->vs.length=ps.length)
  (fO:∀(A:Around) (outer:List Env) (s:Shared) (H:Hp) (vs:List V) (Q:VK) (E:XK),cy k (A.deeper (envOfC qual (aI st) s.heap.objs.size f (.ref cc)))->sp vs H Q E ->
   ∃t,PSs (i7 aK P w K mg base N qual (aI st) f (.ref cc) A outer s H E).gF (ie st) t/\t { nx:=λ_ H'=>Q .az H',rt:=Q } (L2.start N vs) H):aF P w K mg base aK (k+1) f fd ps sp:=by
 obtain⟨oc,od,kV,doc,pm,an,aD,ct,jz,rfl,lk,cC⟩:=F.ex
 obtain rfl:aD=.ref cc:=s9
 refine EX lk cC S len λA outer s H vs Q E hr f9=>?_
 obtain⟨t,h,q⟩:=fO A outer s H vs Q E hr f9
 exact⟨t,h.gF,q⟩
end
end L3
namespace L3
open PySem L2 PySem.Spec PyProof.Rows
theorem bR4{ns:List Str}{xs:List D}{ws:List V}{F H:Hp}{f:Str}{d:D}(r:R F H xs ws [])(h:(ns.zip xs).lookup f=some d):∃w,(ns.zip ws).lookup f=some w/\R F H [d] [w] []:=by
 generalize e:([]:List Addr)=A at r
 induction ns generalizing xs ws A with
 | nil=>simp at h
 | cons n ns ih =>
  cases xs with
  | nil=>simp at h
  | cons x xs =>
   obtain⟨v,cX,A1,A2,rfl,rfl,h1,h2⟩:=R.dq r
   obtain⟨rfl,rfl⟩:=Bu.mp e.symm
   rw[WL]at h ⊢
   by_cases z:f=n
   ·subst z
    rw[iE,beq_self_eq_true]at h
    cases h
    refine⟨v,?_,h1⟩
    rw[iE,beq_self_eq_true]
   ·have z':(f==n)=false:=beq_eq_false_iff_ne.mpr z
    rw[iE,z']at h
    obtain⟨w,e1,e2⟩:=ih h [] rfl h2
    refine⟨w,?_,e2⟩
    rw[iE,z']
    exact e1
theorem Nx{ns:List Str}{ws:List V}{f:Str}(h:f ∉ ns):(ns.zip ws).lookup f=none:=by
 induction ns generalizing ws with
 | nil=>simp
 | cons n ns ih =>
  cases ws with
  | nil=>simp
  | cons w ws =>
   rw[WL,iE]
   have hn:(f==n)=false:=beq_eq_false_iff_ne.mpr λz=>h (by rw[z];simp)
   simp only[hn]
   exact ih λz=>h (by simp[z])
theorem vX{F H:Hp}{C:Addr}{ns:List Str}{xs:List D}{v:V}(s:S F H [.obj C ns xs] [v]):∃p dx ws,v=.ref p/\H p=some (.ins C dx (ns.zip ws))/\ns.length=ws.length/\R F H xs ws []:=by
 cases s with
 | obj h l r _=>exact⟨_,_,_,rfl,h,l,r⟩
section
variable{X:Cx}{e o:Expr}{es:List Expr}{f m x:Str}{pos p apos:Pos}{t to:aJ}{ta:cP}{n:Nat}
def qe(K:PySem.W.Frag)(t:aJ)(f:Str):aJ:=λδ Q=>t δ λd ai=>∃C ns xs v,d=.obj C ns xs/\cW K C/\bq K C f/\(ns.zip xs).lookup f=some v/\Q v ai
theorem cL4(he:PE X e (lB t))(hb:attributeBase e f X.env (eval e X.env)=eval e X.env:=by rfl):PE X (.Attribute e f pos) (lB (qe X.K t f)) :=
 dr (YR he hb) λσ H Q zq=>by
 obtain⟨B,F,δ,ts,Qd,c,q,k⟩:=zq
 exact⟨B,F,δ,ts,_,c,q,λd ai v F' H' ⟨C,ns,xs,w,ed,hc,hn,hl,hq⟩ f1 h1 c1 s1=>by
  subst ed
  obtain⟨p,dx,ws,rfl,hp,_,r⟩:=vX s1
  obtain⟨u,hu,ru⟩:=bR4 r hl
  exact⟨p,C,dx,_,u,rfl,hp,hc,hn,hu,k w ai u F' H' hq f1 h1 c1 ru.s⟩⟩
structure jk(P:Program)(w:World)(K:PySem.W.Frag)(mg:Str->Option Value)(base:Heap)(n:Nat)(m:Str)(C:Addr)(sp:aU):Prop where
 cls:cW K C
 ex:∃f fd ps,Meth K C m f/\aF P w K mg base aK n f fd ps (aV sp)/\Binds K fd ps []
def qf(MO:Addr->aU->Prop)(m:Str)(to:aJ)(ta:cP):aJ:=λδ Q=>to δ λd ao=>∃C ns xs sp,d=.obj C ns xs/\MO C sp/\m ∉ ns/\ta ao λds bg=>sp ((D.obj C ns xs::ds).map D.sh) λr=>((D.obj C ns xs::ds).all D.pl||r.fr)=true/\Q r bg
theorem cy6{pl:Sem Bool}(ho:PE X o (lB to))(hr:cy n X.A)(ha:PA X (e::es) (lA ta))
  (gw:starEach (e::es) X.env=(false,eval e X.env)::starEach es X.env:=by rfl) (bU:(backTo pos (starEach es X.env)).any (·.1)=false:=by rfl)
  (ht:eval (.Call (.Attribute o m apos) (e::es) [] pos) X.env=(do
   let ov<-eval o X.env
   standAt apos.atName
   let (f,first)<-holding [ov] (getMethod ov m pl)
   callWith pos f first (backTo pos (starEach (e::es) X.env)) (backToKw pos (keywordEach [] X.env))):=by rfl) :
  PE X (.Call (.Attribute o m apos) (e::es) [] pos) (lE (qf (jk X.prog X.w X.K X.mg X.base n m) m to ta)):=by
 intro pins s σ H Q I zz
 obtain⟨B,F,δ,ts,Qd,c,q,k⟩:=zz
 refine PySem.W.methodCall_KW (pl:=pl) (a7 (ho pins s σ H (λx H1=>∃d ao F1,S F1 H1 [d] [x]/\av B F1 H1 σ ao ts/\ah F F1/\ah H H1/\∃C ns xs sp,d=.obj C ns xs/\jk X.prog X.w X.K X.mg X.base n m C sp/\m ∉ ns/\ta ao λds bg=>sp ((D.obj C ns xs::ds).map D.sh) λr=>((D.obj C ns xs::ds).all D.pl||r.fr)=true/\Qd r bg) I
  ⟨B,F,δ,ts,_,c,q,λd ao v F1 H1 hq f1 h1 c1 s1=>⟨d,ao,F1,s1,c1,f1,h1,hq⟩⟩) λu s1 zq=>?_) ht
 obtain⟨x,H1,I1,rx,d,ao,F1,sd,c1,f1,h1,C,ns,xs,sp,ed,M,hm,hq⟩:=zq
 subst ed
 obtain⟨a,dx,ws,rfl,ea,hl,r0⟩:=vX sd
 obtain rfl:u=ix a:=rx
 obtain⟨f,fd,ps,z6,FO,hb⟩:=M.ex
 refine K2 I1 ea M.cls z6 (Nx hm) ?_
 refine PySem.W.callWith_K (first:=[.ref a]) (h₀:=X.base) I.ok.mod.xm z6.kp (a7 (ha pos pins s1 σ H1 (λvs H2=>∃ds bg F2,S F2 H2 ds vs/\av B F2 H2 σ bg ts/\ah F1 F2/\ah H1 H2/\sp ((D.obj C ns xs::ds).map D.sh) λr=>((D.obj C ns xs::ds).all D.pl||r.fr)=true/\Qd r bg) I1
  ⟨B,F1,ao,ts,_,c1,hq,λds bg vs F2 H2 hq f2 h2 c2 s2=>⟨ds,bg,F2,s2,c2,f2,h2,hq⟩⟩) λus s2 ⟨vs,H2,I2,r,ds,bg,F2,sds,c2,f2,h2,f9⟩=>⟨I2.dU,?_⟩) gw bU
 refine BY (us:=.ref a::us) (vs:=.ref a::vs) (ib:=[]) FO hr hb .nil jA I2 (.cons rfl r) ?_
 rw[gu]
 exact Cc c2 (.obj (h2 _ _ ea) hl (r0.shared f2 h2) sds) f9 λd v F' H' hd hf hs c'=>k d bg v F' H' hd (f1.trans (f2.trans hf)) (h1.trans (h2.trans hs)) c'
def qg(MO:Addr->aU->Prop)(m:Str)(to:aJ):aJ:=λδ Q=>to δ λd ao=>∃C ns xs sp,d=.obj C ns xs/\MO C sp/\m ∉ ns/\sp [D.obj C ns xs] λr=>Q r ao
theorem cm1{pl:Sem Bool}(ho:PE X o (lB to))(hr:cy n X.A)
  (ht:eval (.Call (.Attribute o m apos) [] [] pos) X.env=(do
   let ov<-eval o X.env
   standAt apos.atName
   let (f,first)<-holding [ov] (getMethod ov m pl)
   callWith pos f first (backTo pos (starEach [] X.env)) (backToKw pos (keywordEach [] X.env))):=by rfl) :
  PE X (.Call (.Attribute o m apos) [] [] pos) (lE (qg (jk X.prog X.w X.K X.mg X.base n m) m to)):=by
 intro pins s σ H Q I zz
 obtain⟨B,F,δ,ts,Qd,c,q,k⟩:=zz
 refine PySem.W.methodCall_KW (pl:=pl) (a7 (ho pins s σ H (λx H1=>∃d ao F1,S F1 H1 [d] [x]/\av B F1 H1 σ ao ts/\ah F F1/\ah H H1/\∃C ns xs sp,d=.obj C ns xs/\jk X.prog X.w X.K X.mg X.base n m C sp/\m ∉ ns/\sp [D.obj C ns xs] λr=>Qd r ao) I
  ⟨B,F,δ,ts,_,c,q,λd ao v F1 H1 hq f1 h1 c1 s1=>⟨d,ao,F1,s1,c1,f1,h1,hq⟩⟩) λu s1 zq=>?_) ht
 obtain⟨x,H1,I1,rx,d,ao,F1,sd,c1,f1,h1,C,ns,xs,sp,ed,M,hm,hq⟩:=zq
 subst ed
 obtain⟨a,dx,ws,rfl,ea,hl,r0⟩:=vX sd
 obtain rfl:u=ix a:=rx
 obtain⟨f,fd,ps,z6,FO,hb⟩:=M.ex
 refine K2 I1 ea M.cls z6 (Nx hm) ?_
 refine PySem.W.callWith_K0 (first:=[.ref a]) I1.dU z6.kp (BY (us:=[.ref a]) (vs:=[.ref a]) (ib:=[]) FO hr hb .nil jA I1 (.cons rfl .nil) ?_)
 show aV sp [.ref a] H1 Q E0
 exact Cc (Qd:=λr=>Qd r ao) c1 (.obj ea hl r0 .nil) (by simpa[D.sh,D.pl]using hq) λd v F' H' hd hf hs c'=>k d ao v F' H' hd (f1.trans hf) (h1.trans hs) c'
end
structure fH(x:Addr)(H H':Hp):Prop where
 get:∀b o,b≠x->H b=some o->iK o=true->H' b=some o
 tb:∀b ps,H b=some (.dG ps)->∃more,H' b=some (.dG (ps++more))
theorem fH.upd{x C dx:Addr}{H:Hp}{o o':HO}(h:H x=some o)(n:iK o=true):fH x H (upd H x o') :=
 ⟨λb o z e _=>by rw[bt z];exact e,λb ps e=>⟨#[],by rw[bt (λz=>by rw[z,h]at e;cases e;cases n),e];simp⟩⟩
section
variable{X:Cx}{CX:e8}{n:Nat}{f C:Addr}{fd:FuncData}{ps:List Str}{tf:List D->List Str->List D->Prop}{E:XK}{x:Str}{p pos:Pos}{e:Expr}{es:List Expr}{t:cP}{tl:List Addr}
end
end L3
namespace Mf
open PySem L2 L3
def gm(m:Bool × Nat)(a b:Nat):Nat:=if m.1 then md (cl a b) m.2 else a*b%m.2
def aa(m:Bool × Nat):Nat:=if m.1 then 2 ^ (bl m.2-1)else m.2
def CH(g:Nat->Nat->Nat)(a:Nat):Nat->Nat->List Int->Option (List Int)
 | 0,_,_=>none
 | f+1,p,acc=>if p=1 then some acc else if p<64 then CH g a f (g p a) (acc++[(p:Int)])else none
def GA(g:Nat->Nat->Nat)(a:Nat):Option (List Int):=CH g a 64 (g 1 a) [1]
def CI(g:Nat->Nat->Nat)(many:Nat):Nat->Nat->List Int->Option (List Int)
 | 0,_,_=>none
 | f+1,st,l=>if l.length+1<many then(match GA g (st+1)with | some l'=>CI g many f (st+1) l' | none=>none)else some l
def z7(g:Nat->Nat->Nat)(many:Nat):Option (List Int):=match GA g 1 with | some l=>CI g many 62 1 l | none=>none
def z8(g:Nat->Nat->Nat):xN:=λi j Q=>∃a b:Nat,i=a/\j=b/\a<64/\b<64/\Q (g a b:Nat)
def ip:List Nat:=[7,11,13,19,25,31,37,41,47,55,59,61,67,73,87,91,97,103,109,115,117]
def qh:List Nat:=[2,3,5,7,11,13,17,19,23,29,31,37,41,43,47,53,59,61]
def aA:List (Bool × Nat):=ip.map (λn=>(true,n))++qh.map λn=>(false,n)
def qi(l:List Int):Nat->List Int
 | 0=>aX (l.length+1) 0
 | i+1=>(qi l i).set (l.getD i 0).toNat (i:Int)
def fS(l:List Int):List Int:=qi l l.length
theorem z9(l:List Int):∀i,(qi l i).length=l.length+1
 | 0=>by simp[qi]
 | i+1=>by simp[qi,z9 l i]
def tu(l g:List Int)(a:Nat):List Int:=if a=0 then aX (l.length+1) 0 else 0::(aH l.length).map λ(b:Nat)=>l.getD ((g.getD a 0+g.getD (b+1) 0)%(l.length:Int)).toNat 0
def Aa(l g:List Int)(n:Nat):List D:=(aH n).map λa=>D.lst true (aS (tu l g a))
def Ab(l g:List Int):List D:=Aa l g (l.length+1)
end Mf
namespace L3
open PySem L2 Mf
structure c24(K:PySem.W.Frag)(C f:Addr):Prop where
 cls:cW K C
 many:bq K C "many"
 wide:bq K C "wide"
 GB:bq K C "powers"
 c25:bq K C "logs"
 step:bq K C "step"
 sp:Meth K C "step_power" f
structure Ny(g:Nat->Nat->Nat)(many:Nat)(l:List Int)(st:Int):Prop where
 lo:2<=many
 hi:many<=64
 step:z7 g many=some l
 len:l.length+1=many
 ins:∀x∈l,0<=x/\x.toNat<=l.length
 st:l[((1:Int)%((many:Int)-1)).toNat]?=some st
def jG(b:Str):List Str:=[b,"many","wide","powers","logs","step"]
theorem Nz{f:Str}{v:V}:∀{fs:List (Str × V)},(∀p∈fs,p.1≠f)->gT f v fs=fs++[(f,v)]
 | [],_=>rfl
 | (g,x)::r,h=>by
  unfold gT
  rw[if_neg (h (g,x) (by simp)),Nz λp hp=>h p (by simp[hp])];rfl
section
variable{H2 H3 H':Hp}{x f c p:Addr}{o1 o2:HO}
theorem Ac{b:Addr}{o:HO}(e:H3 b=some o)(nb:b≠f)(nc:H3 c=none):L2.upd (L2.upd H3 f o1) c o2 b=some o:=by
 rw[bt (eH e nc),bt nb];exact e
theorem bU3(hs:ah H2 H3)(nf:H2 f=none)(nc:H3 c=none)(s:fH x (L2.upd (L2.upd H3 f o1) c o2) H'):fH x H2 (rem H' f c) where
 get b o n e t:=by
  have z1:=eH e nf
  have e3:=hs.get b o e t
  rw[gJ z1 (eH e3 nc)]
  exact s.get b o n (Ac e3 z1 nc) t
 tb b ps e:=by
  have z1:=eH e nf
  obtain⟨m,e3⟩:=hs.tb b ps e
  obtain⟨m2,e4⟩:=s.tb b _ (Ac e3 z1 nc)
  exact⟨m++m2,by rw[gJ z1 (eH e3 nc),e4,yw]⟩
theorem b56{of oc:Obj}{k:Addr}(uX:c≠f)(nc:H3 c=none)(hk:Fw H3 k)(kf:k≠f):zx (L2.upd (L2.upd H3 f (.ext (kH of oc c f))) c (.own f)) f of oc c k:=by
 obtain⟨ψ,e,Gq⟩:=hk
 exact⟨by rw[bt uX.symm,de],de,ψ,Ac e kf nc,Gq⟩
end
def fl(m:Bool × Nat):List Int:=(z7 (gm m) (aa m)).getD []
def fst(m:Bool × Nat):Int:=(fl m).getD ((1:Int)%((aa m:Int)-1)).toNat 0
def NA(m:Bool × Nat):Bool:=decide (2<=aa m)&&decide (aa m<=64)&&(z7 (gm m) (aa m)).isSome&&decide ((fl m).length+1=aa m)&&(fl m).all (λx=>decide (0<=x)&&decide (x.toNat<=(fl m).length))&&decide (((1:Int)%((aa m:Int)-1)).toNat<(fl m).length)
theorem cn4:aA.all NA=true:=by decide +kernel
theorem cj{m:Bool × Nat}(h:m∈aA):Ny (gm m) (aa m) (fl m) (fst m):=by
 have h:=cJ.mp cn4 m h
 simp only[NA,cK,decide_eq_true_eq,cJ]at h
 obtain⟨⟨⟨⟨⟨h1,h2⟩,h3⟩,h4⟩,h5⟩,h6⟩:=h
 obtain⟨l,e⟩:=Wz.mp h3
 have el:fl m=l:=by unfold fl;rw[e];rfl
 refine⟨h1,h2,by rw[e,el],h4,λx hx=>h5 x hx,?_⟩
 unfold fst
 rw[aL,aM h6];rfl
theorem cc0:∀p∈qh,(decide (2<=(p:Int))&&decide ((p:Int)<=61)&&(aH ((p:Int).toNat-2)).all λi=>(p:Int)%(2+(i:Int)) != 0)=true:=by decide +kernel
theorem cq3:∀p∈ip,(decide (4<=(p:Int))&&decide ((p:Int)<=127)&&al (p:Int).toNat)=true:=by decide +kernel
theorem NB(l:List Int):∀i,∀x∈qi l i,0<=x
 | 0=>λx hx=>by rw[(k6.mp hx).2];exact Int.le_refl _
 | i+1=>λx hx=>by
  unfold qi at hx
  rcases Em hx with h | h
  ·exact NB l i x h
  ·rw[h];exact JK _
theorem NC:∀p∈ip,bl p<=7:=by decide +kernel
theorem ND:∀p∈ip,1<=bl p:=by decide +kernel
theorem ca2(a b:Nat):bl (cl a b)<=bl a+bl b:=by
 by_cases ha:a=0
 ·subst ha;rw[rf];exact h8 _
 ·by_cases hb:b=0
  ·subst hb
   have:cl a 0=0:=rfl
   rw[this];exact h8 _
  ·rw[LU ha hb];omega
def m9(l g:List Int):List D:=(aH (l.length+1)).map λa=>D.lst false (aS (tu l g a))
theorem NF(l g:List Int):(D.lst true (Ab l g)).sh=.lst false (m9 l g):=by
 rw[bV]
 unfold Ab Aa m9
 rw[bx]
 congr 1
 apply mv
 intro a _
 show D.sh (.lst true (aS _))=_
 rw[bV,jF]
theorem bU6(l g:List Int):(m9 l g).all D.pl=true:=by
 unfold m9
 rw[nF,cJ]
 intro a _
 show(D.lst false (aS _)).pl=true
 rw[eI,ke];rfl
abbrev pD(m:Bool × Nat):List D:=[.int m.2,.int (aa m),.int ((bl (aa m):Nat)-1),.lst false (aS (fl m)),.lst false (aS (fS (fl m))),.int (fst m)]
def vY(C:Addr)(p:Nat):D:=.obj C (jG "prime") (pD (false,p))
def vZ(C:Addr)(p:Nat):D:=.obj C (jG "bits"++[("products":Str)]) (pD (true,p)++[.lst false (m9 (fl (true,p)) (fS (fl (true,p))))])
def fD(cb cp:Addr)(m:Bool × Nat):D:=if m.1 then vZ cb m.2 else vY cp m.2
end L3
namespace L3
open PySem L2 Mf
theorem Ad{u p:Nat}(h:bl u<bl p):md u p=u:=zt (q:=0) (by rw[rf,qN]) h
theorem b33{u v n:Nat}(hu:bl u<n)(hv:bl v<n):bl (u ^^^ v)<n:=by
 have h1:u<2 ^ (n-1):=fv.mp (by omega)
 have h2:v<2 ^ (n-1):=fv.mp (by omega)
 have:=fv.mpr (xx h1 h2)
 omega
theorem CJ{p:Nat}(hp:p≠0)(u v:Nat):md (u ^^^ v) p=md u p ^^^ md v p:=by
 obtain⟨⟨q1,e1⟩,l1⟩:=zr hp u
 obtain⟨⟨q2,e2⟩,l2⟩:=zr hp v
 refine zt (q:=q1 ^^^ q2) ?_ (b33 l1 l2)
 rw[q9,<- LI,<- e1,<- e2]
theorem NG{p:Nat}(hp:p≠0)(w:Nat):md (cl p w) p=0:=by rw[zo];exact Z2 w hp
theorem bO:∀m∈aA,0<m.2:=by decide +kernel
theorem gz(m:Bool × Nat)(a b:Nat):gm m a b=gm m b a:=by
 unfold gm
 split
 ·rw[zo]
 ·rw[ow]
theorem NH{n:Nat}(hn:n≠0)(u c:Nat):md (cl (md u n) c) n=md (cl u c) n:=by
 obtain⟨⟨q,e⟩,_⟩:=zr hn u
 have h:cl u c=cl n (cl q c) ^^^ cl (md u n) c:=by
  conv=>lhs;rw[e]
  rw[q9,zo n q,LZ]
 rw[h,CJ hn,NG hn,qN]
theorem iq{m:Bool × Nat}(h:0<m.2)(a b c:Nat):gm m (gm m a b) c=gm m a (gm m b c):=by
 unfold gm
 split
 ·rw[NH (by omega),zo (md (cl b c) m.2) a,NH (by omega),LZ a b c,zo (cl b c) a]
 ·rw[yI,J0,<- yI,yI a (b*c%m.2),J0,<- yI,wV]
theorem NI{m:Bool × Nat}(h:m.1=true){a:Nat}:a<aa m↔bl a<=bl m.2-1:=by
 unfold aa
 rw[if_pos h];exact fv.symm
theorem n6{m:Bool × Nat}{a:Nat}(ha:a<aa m):gm m 1 a=a:=by
 obtain⟨k,n⟩:=m
 cases k with
 | true =>
  show md (cl 1 a) n=a
  rw[Ff]
  have h1:=(NI (m:=(true,n)) rfl).mp ha
  have h1:bl a<=bl n-1:=h1
  by_cases z:bl n=0
  ·have a0:a=0:=by
    have:=fv (n:=a) (m:=0)
    have:=this.mp (by omega)
    omega
   subst a0
   have n0:n=0:=by
    have:=(fv (n:=n) (m:=0)).mp (by omega)
    omega
   subst n0
   decide
  ·exact Ad (by omega)
 | false=>show 1*a%n=a;rw[Nat.one_mul];exact yJ ha
theorem nh{m:Bool × Nat}{a:Nat}(ha:a<aa m):gm m a 1=a:=by rw[gz];exact n6 ha
def lg(m:Bool × Nat)(a:Nat):Int:=(fS (fl m)).getD a 0
def pw(m:Bool × Nat)(k:Nat):Int:=(fl m).getD k 0
def GC(m:Bool × Nat):Bool:=((aH (aa m-1)).all λk=>decide (1<=pw m k)&&decide (pw m k<aa m)&&decide (lg m (pw m k).toNat=k))&&((aH (aa m-1)).all λa=>decide (0<=lg m (a+1))&&decide (lg m (a+1)<(aa m:Int)-1)&&decide (pw m (lg m (a+1)).toNat=((a+1:Nat):Int)))
theorem NJ:aA.all GC=true:=by decide +kernel
theorem CK{m:Bool × Nat}(hm:m∈aA){k:Nat}(hk:k<aa m-1):1<=pw m k/\pw m k<aa m/\lg m (pw m k).toNat=k:=by
 have h:=cJ.mp NJ m hm
 simp only[GC,cK,cJ,decide_eq_true_eq,bT]at h
 have:=h.1 k hk
 exact⟨this.1.1,this.1.2,this.2⟩
theorem CL{m:Bool × Nat}(hm:m∈aA){a:Nat}(h1:1<=a)(h2:a<aa m):0<=lg m a/\lg m a<(aa m:Int)-1/\pw m (lg m a).toNat=a:=by
 have h:=cJ.mp NJ m hm
 simp only[GC,cK,cJ,decide_eq_true_eq,bT]at h
 have:=h.2 (a-1) (by omega)
 rw[show a-1+1=a by omega]at this
 exact⟨this.1.1,this.1.2,this.2⟩
theorem eO(m:Bool × Nat)(b:Nat)(h:0<m.2):gm m 0 b=0:=by
 unfold gm
 split
 ·rw[rf];exact Ad (by rw[oU];exact i8 (by omega))
 ·rw[Nat.zero_mul,Nat.zero_mod]
theorem gK(m:Bool × Nat)(b:Nat)(h:0<m.2):gm m b 0=0:=by rw[gz];exact eO m b h
def stC(m:Bool × Nat):Bool:=decide (pw m 0=1)&&(aH (aa m-1)).all λk=>decide (gm m (pw m k).toNat (pw m (1%(aa m-1))).toNat=(pw m ((k+1)%(aa m-1))).toNat)
theorem NK:aA.all stC=true:=by decide +kernel
theorem NL(m:Bool × Nat)(hm:m∈aA):pw m 0=1:=by
 have h:=cJ.mp NK m hm
 simp only[stC,cK,decide_eq_true_eq]at h
 exact h.1
def pN(m:Bool × Nat)(k:Nat):Nat:=(pw m (k%(aa m-1))).toNat
theorem cH4{m:Bool × Nat}(hm:m∈aA)(k:Nat):pN m k<aa m:=by
 have cO:=(cj hm).lo
 have:=CK hm (wY k (show 0<aa m-1 by omega))
 unfold pN
 omega
theorem NM{m:Bool × Nat}(hm:m∈aA)(k:Nat):gm m (pN m k) (pN m 1)=pN m (k+1):=by
 have cO:=(cj hm).lo
 have h:=cJ.mp NK m hm
 simp only[stC,cK,decide_eq_true_eq,cJ,bT]at h
 have h2:=h.2 (k%(aa m-1)) (wY k (by omega))
 rw[yK]at h2
 exact h2
theorem NN{m:Bool × Nat}(hm:m∈aA)(i:Nat):∀j,gm m (pN m i) (pN m j)=pN m (i+j)
 | 0=>by
  have e:pN m 0=1:=by unfold pN;rw[Nat.zero_mod,NL m hm];rfl
  rw[e,nh (cH4 hm i)];rfl
 | j+1=>by rw[<-NM hm j,<- iq (bO m hm),NN hm i j,NM hm];rfl
theorem GD{m:Bool × Nat}(hm:m∈aA){a b:Nat}(a1:1<=a)(a2:a<aa m)(b1:1<=b)(b2:b<aa m):((gm m a b:Nat):Int)=pw m ((lg m a+lg m b)%((aa m:Int)-1)).toNat:=by
 have cO:=(cj hm).lo
 obtain⟨g0,g1,g2⟩:=CL hm a1 a2
 obtain⟨f0,f1,f2⟩:=CL hm b1 b2
 have ea:pN m (lg m a).toNat=a:=by unfold pN;rw[yJ (by omega),g2];rfl
 have eb:pN m (lg m b).toNat=b:=by unfold pN;rw[yJ (by omega),f2];rfl
 have e:=NN hm (lg m a).toNat (lg m b).toNat
 rw[ea,eb]at e
 rw[e]
 have ei:((lg m a+lg m b)%((aa m:Int)-1)).toNat=((lg m a).toNat+(lg m b).toNat)%(aa m-1):=by
  have:(((lg m a).toNat+(lg m b).toNat)%(aa m-1):Nat)=((lg m a+lg m b)%((aa m:Int)-1)):=by
   rw[qS,yL,wZ g0,wZ f0,Int.natCast_sub (by omega)];rfl
  omega
 rw[ei]
 have:=CK hm (wY ((lg m a).toNat+(lg m b).toNat) (show 0<aa m-1 by omega))
 unfold pN
 omega
theorem cr4{p a:Nat}(hp:p∈ip)(ha:a<aa (true,p)):tu (fl (true,p)) (fS (fl (true,p))) a=(aH (aa (true,p))).map λb=>((gm (true,p) a b:Nat):Int):=by
 have hm:(true,p)∈aA:=iz _ (w9 hp)
 have h0:=bO _ hm
 have hF:=cj hm
 have hlen:=hF.len
 unfold tu
 split
 ·rename_i h
  subst h
  rw[hlen]
  refine BC (by simp) λi h1 h2=>?_
  simp[eO _ _ h0]
 ·rename_i h
  rw[<-hlen,WJ,cI,bx,gK _ _ h0]
  congr 1
  apply mv
  intro b hb
  have hb:=bT.mp hb
  show(fl (true,p)).getD (((fS (fl (true,p))).getD a 0+(fS (fl (true,p))).getD (b+1) 0)%((fl (true,p)).length:Int)).toNat 0=((gm (true,p) a (b+1):Nat):Int)
  rw[GD hm (by omega) ha (by omega) (by omega),show(((fl (true,p)).length:Nat):Int)=(aa (true,p):Int)-1 by omega]
  rfl
theorem CM{p a b:Nat}(hp:p∈ip)(ha:a<aa (true,p))(hb:b<aa (true,p)):fc (aS (tu (fl (true,p)) (fS (fl (true,p))) a)) (b:Int)=some (.int (gm (true,p) a b:Nat)):=by
 refine q8 (by omega) ?_
 rw[cr4 hp ha]
 unfold aS
 rw[iC,bM,bM,h9 hb];rfl
theorem CN{p a:Nat}(hp:p∈ip)(ha:a<aa (true,p)):fc (m9 (fl (true,p)) (fS (fl (true,p)))) (a:Int)=some (.lst false (aS (tu (fl (true,p)) (fS (fl (true,p))) a))):=by
 have hF:=cj (m:=(true,p)) (iz _ (w9 hp))
 refine q8 (by omega) ?_
 unfold m9
 rw[iC,bM,h9 (by rw[hF.len];exact ha)];rfl
end L3
namespace L3
open PySem L2 Mf
theorem cE5(C:Addr)(p:Nat):D.obj C (jG "bits"++[("products":Str)]) (yG D.sh [.int p,.int (aa (true,p)),.int ((bl (aa (true,p)):Nat)-1),.lst true (aS (fl (true,p))),.lst true (aS (fS (fl (true,p)))),.int (fst (true,p)),.lst true (Ab (fl (true,p)) (fS (fl (true,p))))])=vZ C p:=by
 simp only[cI,gR]
 rw[NF]
 simp only[bV,lU,jF];rfl
theorem ce1(C:Addr)(p:Nat):D.obj C (jG "prime") (yG D.sh [.int p,.int p,.int ((bl p:Nat)-1),.lst true (aS (fl (false,p))),.lst true (aS (fS (fl (false,p)))),.int (fst (false,p))])=vY C p:=by
 simp only[cI,gR,bV,lU,jF];rfl
theorem xO{n:Nat}(h:(true,n)∈aA):n∈ip:=by
 rcases cM.mp h with h | h
 ·obtain⟨x,hx,e⟩:=bw.mp h
  cases e;exact hx
 ·obtain⟨x,hx,e⟩:=bw.mp h
  cases e
theorem bH3{n:Nat}(h:(false,n)∈aA):n∈qh:=by
 rcases cM.mp h with h | h
 ·obtain⟨x,hx,e⟩:=bw.mp h
  cases e
 ·obtain⟨x,hx,e⟩:=bw.mp h
  cases e;exact hx
open Classical in
theorem GF{α:Type}{sh:Bool}{xs:List D}{ay:List (Str × Nat)}{n:Nat}{g0:ij}{te:aJ}{ao:Dl}{Q:D->Dl->Prop}(l:List α)(e g:α->D)(ji:xs.map D.sh=l.map e)(inj:∀a b,e a=e b->a=b)
  (hx:∀a∈l,g0 (e a) (eM ay n ao) λbg=>te bg λd _=>d=g a) (hg:∀d δ (P P':Dl->Prop),(∀ai,P ai->P' ai)->g0 d δ P->g0 d δ P') (eK:(sh&&ay.all (gY ao))=true\/∀a∈l,(g a).fr=true) (hl:l.length<=sizeLine) (hq:Q (.lst true (l.map g)) ao):pE sh xs ay n g0 jE te ao Q:=by
 let f:D->D:=λx=>if h:∃a∈l,e a=x then g h.choose else .az
 have hf:∀a∈l,f (e a)=g a:=λa ha=>by
  have h:∃b∈l,e b=e a:=⟨a,ha,rfl⟩
  show(if h:∃b∈l,e b=e a then g h.choose else .az)=g a
  rw[dif_pos h]
  exact congrArg g (inj _ _ h.choose_spec.2)
 refine⟨λ_=>true,f,λx h=>?_,eK.imp id λh x hx _=>?_,?_,?_⟩
 ·rw[ji]at h
  obtain⟨a,ha,rfl⟩:=bw.mp h
  rw[hf a ha]
  exact hg _ _ _ _ (λai h=>⟨rfl,λ_=>h⟩) (hx a ha)
 ·rw[ji]at hx
  obtain⟨a,ha,rfl⟩:=bw.mp hx
  rw[hf a ha];exact h a ha
 ·have:=congrArg yx ji
  simp at this
  omega
 ·rw[ji,WI.mpr (λ_ _=>rfl),bx,show l.map (f ∘ e)=l.map g from mv λa ha=>hf a ha]
  exact hq
theorem GG{i1 i2:Nat}(d:D)(δ:Dl)(P P':Dl->Prop)(h:∀ai,P ai->P' ai)(q:iQ i1 i2 d δ P):iQ i1 i2 d δ P':=by
 unfold iQ at q ⊢
 split at q
 ·exact h _ q
 ·exact q
theorem NO(xs ys:List Int):(dQ (aS xs) (aS ys)).map D.sh=(xs.zip ys).map λz=>D.tup [.int z.1,.int z.2]:=by
 rw[F7,jF,jF]
 unfold dQ aS
 rw[BB,Eo,El]
theorem cm2{p x y:Nat}(hp:p≠0)(hx:bl x<bl p):md (cl x y) p=(if y%2=1 then x else 0) ^^^ md (cl (if bl (2*x)=bl p then 2*x ^^^ p else 2*x) (y/2)) p:=by
 have e0:md (if y%2=1 then x else 0) p=(if y%2=1 then x else 0):=by
  split
  ·exact Ad hx
  ·exact Ad (by rw[oU];exact i8 hp)
 rw[LQ,CJ hp,e0]
 congr 1
 split
 ·rw[q9,CJ hp,NG hp,mm]
 ·rfl
theorem cm8{p x:Nat}(hp:p≠0)(hx:bl x<bl p):bl (if bl (2*x)=bl p then 2*x ^^^ p else 2*x)<bl p:=by
 have h2:=Z4 x
 have h0:=i8 hp
 split
 ·rename_i h
  have n0:2*x≠0:=λz=>by rw[z,oU]at h;omega
  have a1:=j7 (2*x)
  have a2:=j7 p
  have b1:=xv n0
  have b2:=xv hp
  rw[h]at a1 b1
  obtain⟨k,hk⟩:∃k,bl p=k+1:=⟨bl p-1,by omega⟩
  rw[hk]at a1 a2 b1 b2 ⊢
  have:=fv.mpr (LG a1 a2 b1 b2)
  omega
 ·omega
end L3
namespace L3
open PySem L2 PySem.Spec PyProof.Rows
section
variable{X:Cx}{e o:Expr}{es:List Expr}{f m x:Str}{pos p apos:Pos}{to:aJ}{ta:cP}{n:Nat}
end
section
variable{X:Cx}{tb th:cE}{body cX5:List Stmt}{cX6:Stmt}{K:Str}{Kc:Addr}{kp cX7 pos:Pos}
end
end L3
namespace L3
open PySem L2 Mf
theorem NP{m:Bool × Nat}(hm:m∈aA){a b:Nat}(a1:1<=a)(a2:a<aa m)(b1:1<=b)(b2:b<aa m):∃r:Nat,pw m ((lg m a-lg m b)%((aa m:Int)-1)).toNat=r/\r<aa m/\gm m r b=a:=by
 have hF:=cj hm
 have cO:=hF.lo
 have n0:=jv (lg m a-lg m b) (show(aa m:Int)-1≠0 by omega)
 have n1:=jw (lg m a-lg m b) (show(0:Int)<(aa m:Int)-1 by omega)
 obtain⟨p1,p2,p3⟩:=CK hm (k:=((lg m a-lg m b)%((aa m:Int)-1)).toNat) (by omega)
 obtain⟨g0,g1,g2⟩:=CL hm a1 a2
 refine⟨(pw m ((lg m a-lg m b)%((aa m:Int)-1)).toNat).toNat,by omega,by omega,?_⟩
 have e:=GD hm (a:=(pw m ((lg m a-lg m b)%((aa m:Int)-1)).toNat).toNat) (by omega) (by omega) b1 b2
 rw[p3,wZ n0,Int.emod_add_emod,Int.sub_add_cancel,BD g0 g1,g2]at e
 omega
end L3
namespace L3
open PySem L2 PySem.Spec PyProof.Rows
section
variable{X:Cx}{e o a:Expr}{es:List Expr}{f m y:Str}{pos p apos q:Pos}{t to ta':aJ}{ta:cP}{n:Nat}{P:Program}{w:World}{K:PySem.W.Frag}{mg:Str->Option Value}{base:Heap}
theorem cA(he:PE X e (lB t))(hK:K=X.K:=by rfl)(hb:attributeBase e f X.env (eval e X.env)=eval e X.env:=by rfl):PE X (.Attribute e f pos) (lB (qe K t f)):=by
 subst hK;exact cL4 he hb
theorem gj{pl:Sem Bool}(ho:PE X o (lB to))(hr:cy n X.A)(ha:PA X (e::es) (lA ta))(hP:P=X.prog:=by rfl)(hw:w=X.w:=by rfl)(hK:K=X.K:=by rfl)(hm:mg=X.mg:=by rfl)(hb:base=X.base:=by rfl)
  (gw:starEach (e::es) X.env=(false,eval e X.env)::starEach es X.env:=by rfl) (bU:(backTo pos (starEach es X.env)).any (·.1)=false:=by rfl)
  (ht:eval (.Call (.Attribute o m apos) (e::es) [] pos) X.env=(do
   let ov<-eval o X.env
   standAt apos.atName
   let (f,first)<-holding [ov] (getMethod ov m pl)
   callWith pos f first (backTo pos (starEach (e::es) X.env)) (backToKw pos (keywordEach [] X.env))):=by rfl) :
  PE X (.Call (.Attribute o m apos) (e::es) [] pos) (lE (qf (jk P w K mg base n m) m to ta)):=by
 subst hP hw hK hm hb;exact cy6 ho hr ha gw bU ht
theorem xP{pl:Sem Bool}(ho:PE X o (lB to))(hr:cy n X.A)(hP:P=X.prog:=by rfl)(hw:w=X.w:=by rfl)(hK:K=X.K:=by rfl)(hm:mg=X.mg:=by rfl)(hb:base=X.base:=by rfl)
  (ht:eval (.Call (.Attribute o m apos) [] [] pos) X.env=(do
   let ov<-eval o X.env
   standAt apos.atName
   let (f,first)<-holding [ov] (getMethod ov m pl)
   callWith pos f first (backTo pos (starEach [] X.env)) (backToKw pos (keywordEach [] X.env))):=by rfl) :
  PE X (.Call (.Attribute o m apos) [] [] pos) (lE (qg (jk P w K mg base n m) m to)):=by
 subst hP hw hK hm hb;exact cm1 ho hr ht
end
theorem Ae:∀m∈Mf.aA,1<=Mf.bl m.2/\Mf.bl m.2<=7:=by decide +kernel
end L3
namespace L3
open PySem L2 Mf
def gp(m:Bool × Nat)(a b:Nat):Nat:=if m.1 then a ^^^ b else(a+b)%m.2
def gl(m:Bool × Nat)(a b:Nat):Int:=if m.1 then(a ^^^ b:Nat)else((a:Int)-b)%m.2
def gd(m:Bool × Nat)(xs ys:List Nat):Nat:=(dv (gm m) xs ys).foldl (gp m) 0
def tw(c:Int):Bool × Nat:=if c%2=0 then(true,ip.getD (c/2%21).toNat 0)else(false,qh.getD (c/2%18).toNat 0)
theorem ce0(c:Int):tw c∈aA:=by
 unfold tw
 split
 ·refine iz _ (bw.mpr ⟨_,?_,rfl⟩)
  have h:(c/2%21).toNat<ip.length:=by
   have:=jw (c/2) (show(0:Int)<21 by decide)
   show _<21
   omega
  rw[aL,aM h]
  exact cN _
 ·refine fq _ (bw.mpr ⟨_,?_,rfl⟩)
  have h:(c/2%18).toNat<qh.length:=by
   have:=jw (c/2) (show(0:Int)<18 by decide)
   show _<18
   omega
  rw[aL,aM h]
  exact cN _
def dJ(m:Bool × Nat):D:=.tup [.bl m.1,.int m.2]
theorem tD(cb cp:Addr)(m:Bool × Nat):fD cb cp m=.obj (if m.1 then cb else cp) (if m.1 then jG "bits"++[("products":Str)]else jG "prime") (if m.1 then pD (true,m.2)++[.lst false (m9 (fl (true,m.2)) (fS (fl (true,m.2))))]else pD (false,m.2)):=by
 obtain⟨k,n⟩:=m
 cases k<;>rfl
theorem GH(m:Bool × Nat)(x:Str)(h:x ∉ (["bits","prime","many","wide","powers","logs","step","products"]:List Str)):x ∉ (if m.1 then jG "bits"++[("products":Str)]else jG "prime"):=by
 obtain⟨k,n⟩:=m
 intro z
 apply h
 cases k
 ·have z:x∈jG "prime":=z
  simp[jG]at z
  simp only[cw]
  rcases z with z | z | z | z | z | z<;>simp[z]
 ·have z:x∈jG "bits"++[("products":Str)]:=z
  simp[jG]at z
  simp only[cw]
  rcases z with z | z | z | z | z | z | z<;>simp[z]
theorem fJ(cb cp:Addr)(m:Bool × Nat):(fD cb cp m).sh=fD cb cp m:=by rw[tD];rfl
theorem NQ(cb cp:Addr)(m:Bool × Nat):(fD cb cp m).pl=true:=by rw[tD];rfl
theorem cn5(m:Bool × Nat):(dJ m).sh=dJ m:=rfl
theorem co0(m:Bool × Nat):(dJ m).pl=true:=rfl
def NR(P:Program)(w:World)(K:PySem.W.Frag)(mg:Str->Option Value)(base:Heap)(n:Nat)(cb cp:Addr)(m:Bool × Nat)(x:Str)(ds:List D)(Q:D->Prop):Prop:=∃C ns xs sp,fD cb cp m=.obj C ns xs/\jk P w K mg base n x C sp/\x ∉ ns/\sp (.obj C ns xs::ds) Q
theorem NS{p:Nat}(hp:0<p):∀(l:List Nat) (acc:Nat),acc<p->l.foldl (gp (false,p)) acc=(acc+l.sum)%p
 | [],acc,h=>by simp[yJ h]
 | x::l,acc,h=>by
  rw[wU,show gp (false,p) acc x=(acc+x)%p from rfl,NS hp l _ (wY _ hp),J1]
  show((acc+x)%p+l.sum)%p=_
  rw[yK,Bv]
theorem NT(p:Nat):∀xs ys:List Nat,(dv (gm (false,p)) xs ys).sum%p=(dv (· * ·) xs ys).sum%p
 | [],_=>by simp
 | _::_,[]=>by simp
 | x::xs,y::ys=>by
  simp only[J2,J1]
  show(x*y%p+_)%p=_
  rw[yK,Nat.add_mod,NT p xs ys,<- Nat.add_mod]
theorem NU:∀xs ys:List Nat,(dv (· * ·) (xs.map λ(n:Nat)=>(n:Int)) (ys.map λ(n:Nat)=>(n:Int))).sum=(((dv (· * ·) xs ys).sum:Nat):Int)
 | [],_=>by simp
 | _::_,[]=>by simp
 | x::xs,y::ys=>by
  simp only[cI,J2,J1]
  rw[NU xs ys,yL,qT]
theorem n8(m:Bool × Nat)(a b:Nat):gp m a b=gp m b a:=by
 unfold gp
 split
 ·rw[JP]
 ·rw[yA]
theorem CO(m:Bool × Nat)(a b c:Nat):gp m (gp m a b) c=gp m a (gp m b c):=by
 unfold gp
 split
 ·rw[uw]
 ·rw[yK,Nat.add_mod_mod,Bv]
theorem CP{m:Bool × Nat}(h:0<m.2)(a b c:Nat):gm m (gp m a b) c=gp m (gm m a c) (gm m b c):=by
 unfold gm gp
 split
 ·rw[q9,CJ (by omega)]
 ·rw[yI,J0,<- yI,Nat.add_mul,yK,Nat.add_mod_mod]
theorem Af{m:Bool × Nat}(h:0<m.2)(a b c:Nat):gm m c (gp m a b)=gp m (gm m c a) (gm m c b):=by rw[gz,CP h,gz m a,gz m b]
theorem cb0:∀m∈aA,m.1=true->2<=bl m.2:=by decide +kernel
theorem NV{m:Bool × Nat}(hm:m∈aA){a b:Nat}(ha:a<aa m)(hb:b<aa m):gp m a b<aa m:=by
 have h0:=bO m hm
 obtain⟨k,n⟩:=m
 cases k with
 | true=>exact xx ha hb
 | false=>exact wY _ h0
theorem bI{m:Bool × Nat}(hm:m∈aA)(a b:Nat):gm m a b<aa m:=by
 have h0:=bO m hm
 obtain⟨k,n⟩:=m
 cases k with
 | true =>
  have h2:=cb0 (true,n) hm rfl
  have:=(zr (show n≠0 by have:0<n:=h0;omega) (cl a b)).2
  refine(NI rfl).mpr ?_
  show bl (md (cl a b) n)<=bl n-1
  omega
 | false=>exact wY _ h0
theorem v3{m:Bool × Nat}{a:Nat}(ha:a<aa m):gp m 0 a=a:=by
 obtain⟨k,n⟩:=m
 cases k with
 | true=>exact qN a
 | false=>show(0+a)%n=a;rw[Ep];exact yJ ha
theorem jH{m:Bool × Nat}{a:Nat}(ha:a<aa m):gp m a 0=a:=by rw[n8];exact v3 ha
theorem cL0{m:Bool × Nat}(hm:m∈aA){a b:Nat}(ha:a<aa m)(hb:b<aa m):∃r:Nat,gl m a b=r/\r<aa m/\gp m r b=a:=by
 have h0:=bO m hm
 obtain⟨k,n⟩:=m
 cases k with
 | true=>exact⟨a ^^^ b,rfl,xx ha hb,by show a ^^^ b ^^^ b=a;rw[uw,Bt,mm]⟩
 | false =>
  have h0:0<n:=h0
  have ha:a<n:=ha
  have hb:b<n:=hb
  refine⟨(a+(n-b))%n,?_,wY _ h0,?_⟩
  ·show((a:Int)-b)%n=_
   rw[qS,yL,Int.natCast_sub (by omega),show((a:Int)+((n:Int)-b))=((a:Int)-b)+n by omega,Int.add_emod_right]
  ·show((a+(n-b))%n+b)%n=a
   rw[yK,show a+(n-b)+b=a+n by omega,Nat.add_mod_right,yJ ha]
def eS(m:Bool × Nat)(n:Int):Nat:=(pw m (n%((aa m:Int)-1)).toNat).toNat
theorem qj{m:Bool × Nat}(hm:m∈aA)(n:Int):1<=eS m n/\eS m n<aa m/\lg m (eS m n)=n%((aa m:Int)-1)/\pw m (n%((aa m:Int)-1)).toNat=eS m n:=by
 have cO:=(cj hm).lo
 have n0:=jv n (show(aa m:Int)-1≠0 by omega)
 have n1:=jw n (show(0:Int)<(aa m:Int)-1 by omega)
 obtain⟨p1,p2,p3⟩:=CK hm (k:=(n%((aa m:Int)-1)).toNat) (by omega)
 unfold eS
 rw[p3]
 omega
theorem GI{m:Bool × Nat}(hm:m∈aA)(n:Int):eS m n<aa m:=(qj hm n).2.1
theorem GJ{m:Bool × Nat}(hm:m∈aA)(a b:Int):gm m (eS m a) (eS m b)=eS m (a+b):=by
 obtain⟨a1,a2,a3,_⟩:=qj hm a
 obtain⟨b1,b2,b3,_⟩:=qj hm b
 have e:=GD hm a1 a2 b1 b2
 rw[a3,b3,<- Int.add_emod]at e
 have c:=(qj hm (a+b)).2.2.2
 rw[c]at e
 omega
theorem cD8{m:Bool × Nat}(hm:m∈aA):eS m 0=1:=by
 unfold eS
 rw[Int.zero_emod,show(0:Int).toNat=0 from rfl,NL m hm];rfl
theorem NW{m:Bool × Nat}(hm:m∈aA){a:Nat}(h1:1<=a)(h2:a<aa m):eS m (lg m a)=a:=by
 obtain⟨g0,g1,g2⟩:=CL hm h1 h2
 unfold eS
 rw[BD g0 g1,g2];rfl
theorem cJ4{m:Bool × Nat}(hm:m∈aA)(n:Int):(fl m)[(n%((aa m:Int)-1)).toNat]?=some ((eS m n:Nat):Int):=by
 have hF:=cj hm
 have cO:=hF.lo
 have n0:=jv n (show(aa m:Int)-1≠0 by omega)
 have n1:=jw n (show(0:Int)<(aa m:Int)-1 by omega)
 have hk:(n%((aa m:Int)-1)).toNat<(fl m).length:=by have:=hF.len;omega
 rw[<-(qj hm n).2.2.2]
 unfold pw
 rw[aL,aM hk];rfl
theorem cG8{m:Bool × Nat}(hm:m∈aA){a b:Nat}(a1:1<=a)(a2:a<aa m)(b1:1<=b)(b2:b<aa m):gm m a b≠0:=by
 rw[<-NW hm a1 a2,<- NW hm b1 b2,GJ hm]
 have:=(qj hm (lg m a+lg m b)).1
 omega
end L3
namespace L2
open PySem PySem.Spec PyProof.Rows
section
variable{X:Cx}{a:Expr}{ta:TA}{p pos:Pos}{tg:Expr}
end
end L2
namespace L3
open PySem L2 PySem.Spec PyProof.Rows
section
variable{F H:Hp}{K:PySem.W.Frag}{p:Addr}{ws:List V}{xs:List D}
end
section
variable{X:Cx}{a:Expr}{ta:cP}{p pos:Pos}{tg:Expr}
end
end L3
namespace L3
open PySem L2 Mf
def px(m:Bool × Nat)(x:Nat):Nat->Nat
 | 0=>1
 | k+1=>gm m (px m x k) x
def AllLt(n:Nat)(l:List Nat):Prop:=∀a∈l,a<n
theorem AllLt.getD{n:Nat}{l:List Nat}(h:AllLt n l)(h0:0<n)(k:Nat):l.getD k 0<n:=by
 rw[aL]
 cases e:l[k]? with
 | none=>exact h0
 | some v=>exact h v (ur e)
end L3
namespace L3
open PySem L2 PySem.Spec PyProof.Rows
theorem bY3(n:Nat)(l:List Nat):(aj l).all (dY n)=true:=by
 rw[cL,nF,cJ]
 intro a _
 exact pX n _
theorem CQ(n:Nat)(o:Bool)(l:List Nat):dY (n+1) (.lst o (aj l))=true:=bY3 n l
theorem v7(o o':Bool)(a b:List Nat):bS (.lst o (aj a)) (.lst o' (aj b))=decide (a=b):=by
 unfold aj
 rw[sS]
 congr 1
 apply propext
 constructor
 ·intro h
  have:=congrArg (yG Int.toNat) h
  have e:(Int.toNat ∘ λ(n:Nat)=>(n:Int))=id:=by funext x;rfl
  rw[bx,bx,e,List.map_id,List.map_id]at this
  exact this
 ·intro h;rw[h]
theorem kL{l:List Nat}{k:Int}(h0:0<=k)(h:k.toNat<l.length):fc (aj l) k=some (.int ((l.getD k.toNat 0:Nat):Int)):=by
 refine q8 h0 ?_
 rw[cL,bM,aM h,aL,aM h];rfl
theorem b50{l:List Nat}(h:0<l.length):fc (aj l) (-1)=some (.int ((l.getD (l.length-1) 0:Nat):Int)):=by
 unfold aj
 rw[bY1 (by rw[aW];exact h),aW]
 congr 2
 rw[aL,aL,bM]
 cases l[l.length-1]?<;>rfl
theorem CS{n:Nat}{k:Int}(h0:0<=k)(h:k.toNat<n):j5 n k=some k.toNat:=by
 unfold j5
 rw[if_pos h0,if_pos (by omega)]
theorem GK{n:Nat}(k:Int)(h:k=n):(((aH k.toNat).map λ(k:Nat)=>D.int (0+(k:Int))).map D.sh)=(aH n).map λ(i:Nat)=>D.int (i:Int):=by
 subst h
 rw[zM,iC]
 simp
theorem GL(l:List Nat)(k v:Nat):(aj l).set k (.int (v:Nat))=aj (l.set k v):=by
 rw[cL,cL,List.map_set]
theorem b95(l:List Nat):(aj l).all D.fr=true:=sR _
theorem kM(o:Bool)(l:List Nat):(D.lst o (aj l)).sh=.lst false (aj l):=by rw[bV,m8]
theorem fo(l:List Nat):(D.lst true (aj l)).fr=true:=by rw[fP,b95];rfl
theorem ct7{xs:List D}{i:Nat}{d:D}(h:(fR xs)[i]?=some d):∃hi:i<xs.length,d=.tup [.int i,xs[i]]:=by
 have hi:i<(fR xs).length:=(kr.mp h).1
 rw[kg]at hi
 refine⟨hi,?_⟩
 unfold fR at h
 rw[uz,aM hi]at h
 exact(cT h).symm
theorem b85{l:List Nat}{i:Nat}{d:D}(h:(fR (aj l))[i]?=some d):∃hi:i<l.length,d=.tup [.int i,.int (l[i]:Nat)]:=by
 obtain⟨hi,e⟩:=ct7 h
 rw[eN]at hi
 refine⟨hi,?_⟩
 rw[e]
 simp only[cL,qU]
section
variable{X:Cx}
end
end L3
namespace L3
open PySem L2 Mf
def bB(m:Bool × Nat)(a b:Nat):Nat:=(gl m a b).toNat
theorem jl{m:Bool × Nat}(hm:m∈aA){a b:Nat}(ha:a<aa m)(hb:b<aa m):gl m a b=(bB m a b:Nat)/\bB m a b<aa m/\gp m (bB m a b) b=a:=by
 obtain⟨r,e,h1,h2⟩:=cL0 hm ha hb
 have:bB m a b=r:=by unfold bB;rw[e];rfl
 rw[this]
 exact⟨e,h1,h2⟩
theorem GN{n:Nat}{f:Nat->Nat->Nat}:∀{a b:List Nat},(∀x∈a,∀y∈b,f x y<n)->AllLt n (dv f a b)
 | [],_,_=>by intro x hx;simp at hx
 | _::_,[],_=>by intro x hx;simp at hx
 | x::a,y::b,h=>by
  intro z hz
  rw[J2]at hz
  rcases cw.mp hz with rfl | hz
  ·exact h x (by simp) y (by simp)
  ·exact GN (λx hx y hy=>h x (by simp[hx]) y (by simp[hy])) z hz
theorem bP8(xs ys:List Nat):(dQ (aj xs) (aj ys)).map D.sh=(xs.zip ys).map λz=>D.tup [.int (z.1:Int),.int (z.2:Int)]:=by
 unfold aj
 rw[NO,List.zip_map,bx];rfl
theorem NX{sh:Bool}{ay:List (Str × Nat)}{n i1 i2:Nat}{te:aJ}{ao:Dl}{Q:D->Dl->Prop}(f:Nat->Nat->Nat){A B:List Nat}(hx:∀x∈A,∀y∈B,iQ i1 i2 (.tup [.int (x:Int),.int (y:Int)]) (eM ay n ao) λbg=>te bg λd _=>d=.int ((f x y:Nat):Int))
  (hl:A.length<=100000) (hq:Q (.lst true (aj (dv f A B))) ao):pE sh (dQ (aj A) (aj B)) ay n (iQ i1 i2) jE te ao Q:=by
 refine GF (A.zip B) (λz=>D.tup [.int (z.1:Int),.int (z.2:Int)]) (λz=>D.int ((f z.1 z.2:Nat):Int)) (bP8 A B) (λa b h=>?_) (λz hz=>hx z.1 (uo hz).1 z.2 (uo hz).2) GG (.inr λ_ _=>rfl) (by rw[yM,sL];omega) ?_
 ·injection h with h
  simp at h
  exact Prod.ext (by omega) (by omega)
 ·rw[show((A.zip B).map λz=>D.int ((f z.1 z.2:Nat):Int))=aj (dv f A B) by rw[cL,Eo,El,El]]
  exact hq
end L3
namespace L3
open PySem L2 PySem.Spec PyProof.Rows
theorem av.c55{B:Bs}{F H:Hp}{σ:L2.St}{δ:Dl}{ps ts:List (D × V)}{p:Addr}{o:HO}{A1:List Addr}(c:av B F H σ δ (ps++ts))(hp:H p=none)(r:R F (upd H p o) (ps.map (·.1)) (ps.map (·.2)) A1):p ∉ A1:=λh=>by
 obtain⟨A,C,r0,_,_,_⟩:=c.own
 rw[eR,eR]at r0
 obtain⟨v1,v2,B1,B2,e,rfl,h1,h2⟩:=R.split r0
 have l1:(ps.map (·.2)).length=v1.length:=by rw[<-h1.length];simp
 obtain⟨rfl,rfl⟩:=yD e l1
 have g1:=h1.grow (ah.refl F) (ah.upd (o:=o) hp) λa ha=>(h1.lists a ha).2
 have:A1=B1:=R.inj r g1
 subst this
 obtain⟨ws,e⟩:=(h1.lists p h).1
 rw[hp]at e;cases e
theorem av.join{B:Bs}{F H:Hp}{σ:L2.St}{δ:Dl}{ts:List (D × V)}{p p' r:Addr}{xs ys:List D}{ws eB:List V}(c:av B F H σ δ ((.lst true ys,.ref p')::(.lst true xs,.ref p)::ts))(e1:H p=some (.lst ws))(e2:H p'=some (.lst eB))(hr:H r=none) :
  av B F (upd H r (.lst (ws++eB))) σ δ ((.lst true (xs++ys),.ref r)::ts):=by
 refine av.pack (ps:=[(.lst true ys,.ref p'),(.lst true xs,.ref p)]) c (ah.upd hr) λA1 r1 nd=>?_
 have nin:=av.c55 (ps:=[(.lst true ys,.ref p'),(.lst true xs,.ref p)]) (ts:=ts) c hr r1
 have n1:p≠r:=λz=>by rw[z,hr]at e1;cases e1
 have n2:p'≠r:=λz=>by rw[z,hr]at e2;cases e2
 have r1:R F (upd H r (.lst (ws++eB))) [.lst true ys,.lst true xs] [.ref p',.ref p] A1:=r1
 cases r1 with
 | @own _ wy _ Ay _ _ By hy fy ry rb =>
  cases rb with
  | @own _ wx _ Ax _ _ Bx hx fx rx rc =>
   cases rc
   rw[bt n2,e2]at hy;cases hy
   rw[bt n1,e1]at hx;cases hx
   refine⟨r::(Ax++Ay),by simpa using R.own de (c.ext.free hr) (rx.append ry) .nil,?_,λa ha=>?_⟩
   ·refine iZ.mpr ⟨λz=>nin ?_,?_⟩
    ·rcases cM.mp z with z | z<;>simp[z]
    ·have sl:(Ay++Ax).Sublist (p'::Ay++(p::Ax++[])):=by
      rw[gu]
      exact(((J3 p Ax).append_left Ay).trans (J3 p' _))
     exact qQ.nodup_iff.mp (nd.sublist sl)
   ·simp only[cw,cM]at ha ⊢
    rcases ha with rfl | ha | ha
    ·exact .inr hr
    ·simp[ha]
    ·simp[ha]
section
variable{X:Cx}{a b:Expr}{ta tb:aJ}{pos:Pos}
def tE(ta tb:aJ):aJ:=λδ Q=>ta δ λx ao=>tb ao λy bg=>∃xs ys,x=.lst true xs/\y=.lst true ys/\xs.length+ys.length<=sizeLine/\Q (.lst true (xs++ys)) bg
theorem cC3(ha:PE X a (lE ta))(hb:PE X b (lE tb)):PE X (.BinOp a .Add b pos) (lE (tE ta tb)) :=
 dr (KU LA ha hb) λσ H Q ⟨B,F,δ,ts,Qd,c,q,k⟩ =>
  ⟨B,F,δ,ts,_,c,q,λx ao v F1 H1 q1 f1 h1 c1=>⟨B,F1,ao,(x,v)::ts,_,c1,q1,λy bg w F2 H2 q2 f2 h2 c2=>by
   obtain⟨xs,ys,rfl,rfl,hz,hq⟩:=q2
   obtain⟨p',eB,rfl,e2,s2⟩:=iP c2.top c2.ext
   obtain⟨p,ws,rfl,e1,s1⟩:=iP c2.pop.top c2.ext
   refine⟨p,p',ws,eB,rfl,rfl,e1,e2,by rw[<-s1.length,<- s2.length];exact hz,λr hr=>?_⟩
   exact k _ bg _ F2 _ hq (f1.trans f2) ((h1.trans h2).trans (ah.upd hr)) (c2.join e1 e2 hr)⟩⟩
end
theorem b23{a b:List Nat}(h:aj a=aj b):a=b:=by
 have:=v7 true true a b
 rw[h,show bS (D.lst true (aj b)) (D.lst true (aj b))=true from(v7 _ _ _ _).trans (decide_eq_true rfl)]at this
 exact of_decide_eq_true this.symm
theorem Ag{o:Bool}(a b:List Nat)(h:D.lst o (aj a)=D.lst o (aj b)):a=b:=b23 (by injection h)
end L3
namespace L3
open PySem L2 Mf
theorem NY{m:Bool × Nat}(hm:m∈aA)(k:Int):∀n:Nat,px m (eS m k) n=eS m (k*n)
 | 0=>by
  show 1=eS m (k*((0:Nat):Int))
  rw[show k*((0:Nat):Int)=0 by omega,cD8 hm]
 | n+1=>by
  show gm m (px m (eS m k) n) (eS m k)=_
  rw[NY hm k n,GJ hm,yL,Int.mul_add]
  congr 1
  omega
end L3
namespace L2
open PySem PySem.Spec PyProof.Rows
end L2
namespace L3
open PySem L2 PySem.Spec PyProof.Rows Mf
end L3
namespace L3
open PySem L2 Mf
def cf(l:List Nat)(k:Nat):Nat:=l.getD k 0
theorem lZ{l:List Nat}{k:Nat}(h:l.length<=k):cf l k=0:=by
 unfold cf;rw[aL,eE h];rfl
theorem cS{m:Bool × Nat}(hm:m∈aA){l:List Nat}(h:AllLt (aa m) l)(k:Nat):cf l k<aa m:=h.getD (by have:=(cj hm).lo;omega) k
theorem GO(n k:Nat):cf (aX n 0) k=0:=by
 unfold cf
 rw[aL,nC]
 split<;>rfl
theorem b76{m:Bool × Nat}{x:Nat}(hx:x<aa m):bB m x 0=x:=by
 obtain⟨k,n⟩:=m
 cases k with
 | true=>show(((x ^^^ 0:Nat):Int)).toNat=x;rw[mm];rfl
 | false =>
  have hx:x<n:=hx
  show(((x:Int)-((0:Nat):Int))%(n:Int)).toNat=x
  rw[show(x:Int)-((0:Nat):Int)=x by omega,BD (by omega) (by omega)];rfl
theorem CT(m:Bool × Nat)(x:Nat):bB m x x=0:=by
 obtain⟨k,n⟩:=m
 cases k with
 | true=>show(((x ^^^ x:Nat):Int)).toNat=0;rw[Bt];rfl
 | false=>show(((x:Int)-(x:Int))%(n:Int)).toNat=0;rw[Int.sub_self,Int.zero_emod];rfl
end L3
namespace L3
open PySem L2 PySem.Spec PyProof.Rows
section
variable{B:Bs}{F H:Hp}{σ:L2.St}{δ:Dl}{ts ps:List (D × V)}{i k:Nat}{p q:Addr}{l1 l2 ys Mg:List D}{ws vb:List V}
end
section
variable{X:Cx}{F H:Hp}{e b:Expr}{pos p p2 p3 pr apos bR FY:Pos}{t ti te:aJ}{x y:Str}{i j:Nat}
end
end L3
namespace L3
structure Rg(N:Nat)(p q:Nat->Nat->Nat):Prop where
 pc:∀a b,p a b=p b a
 pa:∀a b c,p (p a b) c=p a (p b c)
 mc:∀a b,q a b=q b a
 ma:∀{a b c},a<N->b<N->c<N->q (q a b) c=q a (q b c)
 dl:∀a b c,q a (p b c)=p (q a b) (q a c)
 z:∀{a},a<N->p 0 a=a
 qz:∀a,q a 0=0
 one:∀{a},a<N->q 1 a=a
 lp:∀{a b},a<N->b<N->p a b<N
 lq:∀a b,q a b<N
 ng:∀{a},a<N->∃b,b<N/\p a b=0
section
variable{N:Nat}{p q:Nat->Nat->Nat}
def sm(p:Nat->Nat->Nat):Nat->(Nat->Nat)->Nat
 | 0,_=>0
 | n+1,f=>p (sm p n f) (f n)
theorem Rg.pos(r:Rg N p q):0<N:=yC (h8 _) (r.lq 0 0)
theorem Rg.z'(r:Rg N p q){a:Nat}(h:a<N):p a 0=a:=by rw[r.pc];exact r.z h
theorem Rg.NZ(r:Rg N p q){a b c:Nat}(ha:a<N)(hb:b<N)(hc:c<N)(h:p a c=p b c):a=b:=by
 obtain⟨d,_,e⟩:=r.ng hc
 have:=congrArg (λx=>p x d) h
 simp only[r.pa,e]at this
 rw[r.z' ha,r.z' hb]at this
 exact this
theorem Rg.cn(r:Rg N p q){a b:Nat}(ha:a<N)(hb:b<N)(h:p a b=b):a=0:=r.NZ ha r.pos hb (by rw[h,r.z hb])
theorem b9{f g:Nat->Nat}:∀{n:Nat},(∀j,j<n->f j=g j)->sm p n f=sm p n g
 | 0,_=>rfl
 | n+1,h=>by rw[sm,sm,b9 λj hj=>h j (by omega),h n (by omega)]
theorem jI(r:Rg N p q){f:Nat->Nat}:∀{n:Nat},(∀j,j<n->f j<N)->sm p n f<N
 | 0,_=>r.pos
 | n+1,h=>r.lp (jI r λj hj=>h j (by omega)) (h n (by omega))
theorem eP(r:Rg N p q){f:Nat->Nat}:∀{n:Nat},(∀j,j<n->f j=0)->sm p n f=0
 | 0,_=>rfl
 | n+1,h=>by rw[sm,eP r λj hj=>h j (by omega),h n (by omega)];exact r.z r.pos
theorem Rg.four(r:Rg N p q)(a b c d:Nat):p (p a b) (p c d)=p (p a c) (p b d):=by
 rw[r.pa,r.pa,<- r.pa b,<- r.pa c,r.pc b c]
theorem nj(r:Rg N p q)(f g:Nat->Nat):∀n,sm p n (λj=>p (f j) (g j))=p (sm p n f) (sm p n g)
 | 0=>(r.z r.pos).symm
 | n+1=>by rw[sm,nj r f g n,sm,sm,r.four]
theorem n9(r:Rg N p q)(c:Nat)(f:Nat->Nat):∀n,sm p n (λj=>q c (f j))=q c (sm p n f)
 | 0=>(r.qz c).symm
 | n+1=>by rw[sm,n9 r c f n,sm,r.dl]
theorem N0(r:Rg N p q)(F:Nat->Nat->Nat)(k:Nat):∀n,sm p n (λi=>sm p k λj=>F i j)=sm p k λj=>sm p n λi=>F i j
 | 0=>(eP r λ_ _=>rfl).symm
 | n+1=>by
  rw[sm,N0 r F k n,<- nj r];rfl
theorem Ah(r:Rg N p q){f:Nat->Nat}(n:Nat):∀k,(∀j,j<n+k->f j<N)->sm p (n+k) f=p (sm p n f) (sm p k λj=>f (n+j))
 | 0,h=>(r.z' (jI r λj hj=>h j (by omega))).symm
 | k+1,h=>by
  rw[<-Bv,sm,Ah r n k λj hj=>h j (by omega),sm,r.pa]
theorem N1(r:Rg N p q){f:Nat->Nat}(n:Nat)(h:∀j,j<n+1->f j<N):sm p (n+1) f=p (f 0) (sm p n λj=>f (j+1)):=by
 rw[yA n 1,Ah r 1 n λj hj=>h j (by omega)]
 show p (p 0 (f 0)) _=_
 rw[r.z (h 0 (by omega))]
 congr 1
 exact b9 λj _=>by rw[yA]
end
end L3
namespace L3
section
variable{N:Nat}{p q:Nat->Nat->Nat}
end
end L3
namespace L3
open PySem L2 Mf
theorem rg{m:Bool × Nat}(hm:m∈aA):Rg (aa m) (gp m) (gm m) where
 pc:=n8 m
 pa:=CO m
 mc:=gz m
 ma:=λ_ _ _=>iq (bO m hm) _ _ _
 dl:=λa b c=>Af (bO m hm) b c a
 z:=v3
 qz:=λa=>gK m a (bO m hm)
 one:=n6
 lp:=NV hm
 lq:=bI hm
 ng:=λ{a} ha=>by
  have g:=jl hm (a:=0) (b:=a) (by omega) ha
  exact⟨_,g.2.1,(n8 m _ _).trans g.2.2⟩
theorem b75(p:Nat->Nat->Nat)(l:List Nat):l.foldl p 0=sm p l.length λj=>l.getD j 0:=by
 have key:∀n,n<=l.length->(l.take n).foldl p 0=sm p n λj=>l.getD j 0:=by
  intro n
  induction n with
  | zero=>intro _;rfl
  | succ n ih =>
   intro h
   rw[ku,aM (by omega),yN,ih (by omega),sm,aL,aM (show n<l.length by omega)]
   rfl
 have:=key l.length (cg _)
 rw[mq]at this
 exact this
theorem CU{m:Bool × Nat}(hm:m∈aA)(f:Nat)(b:List Nat)(j:Nat):cf (b.map (gm m f)) j=gm m f (cf b j):=by
 unfold cf
 rw[aL,bM,aL]
 cases b[j]? with
 | none=>exact(gK m f (bO m hm)).symm
 | some x=>rfl
theorem GP{m:Bool × Nat}(hm:m∈aA){a b:Nat}(ha:a<aa m)(hb:b<aa m)(h0:b≠0):∃r,r<aa m/\gm m r b=a:=by
 by_cases a0:a=0
 ·exact⟨0,by have:=(cj hm).lo;omega,by rw[a0];exact eO m b (bO m hm)⟩
 ·obtain⟨r,_,h1,h2⟩:=NP hm (show 1<=a by omega) ha (show 1<=b by omega) hb
  exact⟨r,h1,h2⟩
end L3
namespace L3
open PySem L2 PySem.Spec PyProof.Rows
section
variable{X:Cx}{i j:Nat}{x y:Str}{p pos pos' apos bR:Pos}
end
section
variable{X:Cx}{e:Expr}{t:aJ}{p pos:Pos}
end
section
variable{X:Cx}
theorem b67(i:Int)(ns:List Int):BZ (.int i) (ns.map V.int)=decide (i∈ns):=by
 unfold BZ
 rw[List.any_map,qP,Ef,decide_eq_true_iff]
 exact⟨λ⟨x,hx,he⟩=>(show x=i by simpa[nN]using he) ▸ hx,λhx=>⟨i,hx,by simp[nN]⟩⟩
def qk:dh:=λx y Q=>match x,y with
 | .int i,.lst _ xs=>∃ns:List Int,xs=aS ns/\Q (.bl (!decide (i∈ns)))
 | _,_=>False
theorem cz2:bY X (compareOp .NotIn) qk :=
 ⟨_,Zo,λ{B F H σ δ ts x y v w Q Qd} c sx sy h k=>by
  unfold qk at h
  split at h
  ·rename_i i o xs
   obtain⟨ns,rfl,q⟩:=h
   obtain⟨p,ws,rfl,e1,s1⟩:=iP sy c.ext
   have e:=Cw s1
   subst e
   cases sx
   refine⟨p,_,rfl,.inl (bL.of e1),rfl,by simp[oO],?_⟩
   rw[if_pos rfl,b67]
   exact k _ _ _ q (ah.refl _) (c.pushS (.bl .nil) rfl)
  ·exact h.elim⟩
end
end L3
namespace L3
open PySem L2 Mf
def au(o:Bool)(T:List (List Nat)):List D:=T.map λr=>.lst o (aj r)
theorem jJ(o:Bool)(T:List (List Nat)):(au o T).length=T.length:=by unfold au;rw[aW]
theorem dM(o:Bool)(T:List (List Nat)):(au o T).map D.sh=au false T:=by
 unfold au
 rw[bx]
 exact mv λr _=>kM o r
theorem og(T:List (List Nat)):(au false T).all D.pl=true:=by
 unfold au
 rw[nF,cJ]
 intro r _
 show(D.lst false (aj r)).pl=true
 rw[eI,jj];rfl
theorem l6(T:List (List Nat)):(au true T).all D.fr=true:=by
 unfold au
 rw[nF,cJ]
 intro r _
 exact fo r
theorem v9(o:Bool)(S T:List (List Nat)):au o S++au o T=au o (S++T):=by unfold au;rw[eR]
theorem tF(o:Bool)(T:List (List Nat))(lo hi:Option Int):fk (au o T) lo hi=au o (fk T lo hi):=by
 unfold au fk
 rw[aW,JX,JW]
theorem tG(o:Bool){T:List (List Nat)}{i:Nat}(h:i<T.length):fc (au o T) (i:Int)=some (.lst o (aj T[i])):=by
 refine L3.Gd ?_
 unfold au
 rw[bM,aM h];rfl
theorem bW2(n:Nat)(o:Bool)(T:List (List Nat)):(au o T).all (dY (n+1))=true:=by
 unfold au
 rw[nF,cJ]
 intro r _
 exact CQ _ _ _
theorem xQ(n:Nat)(o o':Bool)(T:List (List Nat)):dY (n+2) (.lst o (au o' T))=true:=bW2 n o' T
theorem N2(o o':Bool):∀(a b:List (List Nat)),bS.gI (au o a) (au o' b)=decide (a=b)
 | [],[]=>rfl
 | [],_::_=>by simp[au,bS.gI]
 | _::_,[]=>by simp[au,bS.gI]
 | x::xs,y::ys=>by
  show(bS (.lst o (aj x)) (.lst o' (aj y))&&bS.gI (au o xs) (au o' ys))=_
  rw[N2 o o' xs ys,v7,qP];simp
theorem GQ(o o' o1 o2:Bool)(a b:List (List Nat)):bS (.lst o (au o1 a)) (.lst o' (au o2 b))=decide (a=b):=N2 o1 o2 a b
open Classical in
theorem CV{α:Type}{sh:Bool}{xs:List D}{ay:List (Str × Nat)}{n:Nat}{g0:ij}{tt:fj}{te:aJ}{ao:Dl}{Q:D->Dl->Prop}(l:List α)(e g:α->D)(kp:α->Bool)(ji:xs.map D.sh=l.map e)(inj:∀a b,e a=e b->a=b)
  (hx:∀a∈l,g0 (e a) (eM ay n ao) λbg=>tt bg λb gX=>b=kp a/\(kp a=true->te gX λd _=>d=g a)) (eK:(sh&&ay.all (gY ao))=true\/∀a∈l,kp a=true->(g a).fr=true) (hl:l.length<=sizeLine) (hq:Q (.lst true ((l.filter kp).map g)) ao):pE sh xs ay n g0 tt te ao Q:=by
 have pick:∀{β:Type} (h:α->β) (z:β),∃f:D->β,∀a∈l,f (e a)=h a:=λh z=>⟨λx=>if w:∃a∈l,e a=x then h w.choose else z,λa ha=>by
  have w:∃b∈l,e b=e a:=⟨a,ha,rfl⟩
  show(if w:∃b∈l,e b=e a then h w.choose else z)=h a
  rw[dif_pos w]
  exact congrArg h (inj _ _ w.choose_spec.2)⟩
 obtain⟨f,hf⟩:=pick g .az
 obtain⟨p,hp⟩:=pick kp false
 refine⟨p,f,λx h=>?_,eK.imp id λh x gb=>?_,?_,?_⟩
 ·rw[ji]at h
  obtain⟨a,ha,rfl⟩:=bw.mp h
  rw[hp a ha,hf a ha]
  exact hx a ha
 ·rw[ji]at gb
  obtain⟨a,ha,rfl⟩:=bw.mp gb
  rw[hp a ha,hf a ha];exact h a ha
 ·have:=congrArg yx ji
  simp at this
  omega
 ·rw[ji,List.filter_map,bx,show l.filter (p ∘ e)=l.filter kp from J4 λa ha=>hp a ha,show(l.filter kp).map (f ∘ e)=(l.filter kp).map g from mv λa ha=>hf a (mj.mp ha).1]
  exact hq
theorem N3{o:Bool}{G:List (List Nat)}{i:Nat}{d:D}(h:(fR (au o G))[i]?=some d):∃hi:i<G.length,d=.tup [.int i,.lst o (aj G[i])]:=by
 unfold fR au at h
 rw[uz,bM]at h
 by_cases hi:i<G.length
 ·rw[aM hi]at h
  exact⟨hi,(cT h).symm⟩
 ·rw[eE (by omega)]at h;cases h
theorem N4(r:List Nat):(fR (aj r)).map D.sh=(aH r.length).map λ(i:Nat)=>D.tup [.int (i:Int),.int ((r.getD i 0:Nat):Int)]:=by
 apply yF
 intro i
 unfold fR
 rw[cL,bM,uz,bM,bM]
 by_cases hi:i<r.length
 ·have e:r.getD i 0=r[i]:=by rw[aL,aM hi];rfl
  rw[aM hi,h9 hi]
  show _=some (D.tup [D.int (i:Int),D.int ((r.getD i 0:Nat):Int)])
  rw[e];rfl
 ·rw[eE (show r.length<=i by omega),eE (show(aH r.length).length<=i by simpa using hi)];rfl
theorem N5{r:List Nat}(h:∃x∈r,x≠0):((aH r.length).filter λi=>r.getD i 0 != 0)[0]?=some (r.findIdx (· != 0)):=by
 obtain⟨x,hx,h0⟩:=h
 have hl:r.findIdx (· != 0)<r.length:=J5 ⟨x,hx,by simpa using h0⟩
 rw[<-List.head?_eq_getElem?,List.head?_filter,List.find?_range_eq_some]
 refine⟨?_,bT.mpr hl,λj hj=>?_⟩
 ·rw[aL,aM hl]
  exact WM (w:=hl)
 ·have:=List.not_of_lt_findIdx hj
  rw[aL,aM (by omega)]
  simpa using this
def ag(T:List (List Nat)):Nat:=(T.headD []).length
def kN(T:List (List Nat))(j:Nat):Option Nat:=T.findIdx? λr=>r.getD j 0 != 0
def ir(m:Bool × Nat)(T:List (List Nat))(l:List Nat)(j:Nat):List (List Nat):=T.map λr=>dv (λx y=>bB m x (gm m (r.getD j 0) y)) r l
def kO(m:Bool × Nat)(b:Nat):Nat:=((aH (aa m)).find? λr=>gm m r b==1).getD 0
theorem xR{m:Bool × Nat}(hm:m∈aA){b r:Nat}(hr:r<aa m)(h:gm m r b=1):kO m b=r:=by
 have m0:=bO m hm
 unfold kO
 cases e:(aH (aa m)).find? λr=>gm m r b==1 with
 | none =>
  have:=J6.mp e r (bT.mpr hr)
  simp[h]at this
 | some r' =>
  have h':gm m r' b=1:=by simpa using List.find?_some e
  have l':r'<aa m:=bT.mp (JV e)
  show r'=r
  rw[<-nh hr,<- h',<- iq m0,gz m r r',iq m0,h,nh l']
def RT(N w:Nat)(T:List (List Nat)):Prop:=∀r∈T,r.length=w/\AllLt N r
theorem RT.app{N w:Nat}{S T:List (List Nat)}(a:RT N w S)(b:RT N w T):RT N w (S++T):=λr hr=>(cM.mp hr).elim (a r) (b r)
theorem N6{m:Bool × Nat}(hm:m∈aA){w j:Nat}{T:List (List Nat)}{l:List Nat}(h:RT (aa m) w T)(hl:l.length=w):RT (aa m) w (ir m T l j):=λr hr=>by
 obtain⟨r,h1,rfl⟩:=bw.mp hr
 obtain⟨a,b⟩:=h r h1
 exact⟨by rw[kA,a,hl,Bw],GN λx hx y hy=>(jl hm (b x hx) (bI hm _ y)).2.1⟩
def eY(m:Bool × Nat)(T:List (List Nat))(i p:Nat):List Nat:=(T.getD i []).map (gm m (kO m ((T.getD i []).getD p 0)))
def jm(m:Bool × Nat)(s:List (List Nat) × List (List Nat))(p:Nat):List (List Nat) × List (List Nat):=match kN s.2 p with
 | none=>s
 | some i=>(ir m s.1 (eY m s.2 i p) p++[eY m s.2 i p],ir m (s.2.take i++s.2.drop (i+1)) (eY m s.2 i p) p)
def ki(m:Bool × Nat)(G:List (List Nat))(k:Nat):List (List Nat) × List (List Nat):=(aH k).foldl (jm m) ([],G)
def bf(m:Bool × Nat)(G:List (List Nat)):List (List Nat):=(ki m G (ag G)).1
theorem GR(m:Bool × Nat)(G:List (List Nat))(k:Nat):ki m G (k+1)=jm m (ki m G k) k:=by
 unfold ki
 rw[J7,yN];rfl
theorem CW{T:List (List Nat)}{j i:Nat}(h:kN T j=some i):∃hi:i<T.length,T[i].getD j 0≠0/\T.getD i []=T[i]:=by
 obtain⟨hi,h1,_⟩:=WN.mp h
 exact⟨hi,by simpa using h1,by rw[aL,aM hi];rfl⟩
structure Ai(N w n:Nat)(s:List (List Nat) × List (List Nat)):Prop where
 a:RT N w s.1
 b:RT N w s.2
 l:s.1.length+s.2.length<=n
theorem b81{m:Bool × Nat}(hm:m∈aA){w n p:Nat}{s:List (List Nat) × List (List Nat)}(h:Ai (aa m) w n s):Ai (aa m) w n (jm m s p):=by
 unfold jm
 split
 ·exact h
 ·rename_i i e
  obtain⟨hi,h1,h2⟩:=CW e
  have hl:(eY m s.2 i p).length=w:=by unfold eY;rw[aW,h2];exact(h.b _ (cN hi)).1
  have hr:RT (aa m) w [eY m s.2 i p]:=λr hr=>by
   rw[fu]at hr
   refine⟨by rw[hr];exact hl,λx hx=>?_⟩
   rw[hr]at hx
   obtain⟨y,_,rfl⟩:=bw.mp hx
   exact bI hm _ _
  refine⟨(N6 hm h.a hl).app hr,N6 hm (λr hr=>h.b r ?_) hl,?_⟩
  ·rcases cM.mp hr with hr | hr
   ·exact qR hr
   ·exact nG hr
  ·have:=h.l
   unfold ir
   rw[du,aW,aW,du,fZ,iD]
   show s.1.length+1+_<=n
   omega
theorem Aj{m:Bool × Nat}(hm:m∈aA){w:Nat}{G:List (List Nat)}(h:RT (aa m) w G):∀k,Ai (aa m) w G.length (ki m G k)
 | 0=>⟨(λr hr=>nomatch hr),h,Bl (Ep _)⟩
 | k+1=>by rw[GR];exact b81 hm (Aj hm h k)
theorem b99(j:Nat)(l:List Nat):decide ((j:Int)∈l.map λ(n:Nat)=>(n:Int))=l.contains j:=by
 rw[qP,decide_eq_true_iff,BE,bw]
 exact⟨λ⟨a,h,e⟩=>(show a=j by omega) ▸ h,λh=>⟨j,h,rfl⟩⟩
theorem cv2{o:Bool}{G:List (List Nat)}{f:List Nat->Nat}{k:Nat}{d:D}(h:(dQ (aj (G.map f)) (au o G))[k]?=some d):∃hk:k<G.length,d=.tup [.int ((f G[k]:Nat):Int),.lst o (aj G[k])]:=by
 unfold dQ au at h
 rw[cL,oE,bM,bM,bM]at h
 by_cases hk:k<G.length
 ·rw[aM hk]at h
  exact⟨hk,(cT h).symm⟩
 ·rw[eE (by omega)]at h;cases h
theorem GS{α:Type}(a:α->Nat)(b:α->Nat):∀(l:List α) (x:List Nat),(l.foldl (λx z=>x.set (a z) (b z)) x).length=x.length
 | [],_=>rfl
 | z::l,x=>by rw[wU,GS a b l,qK]
end L3
namespace L2
open PySem PySem.Spec PyProof.Rows
theorem bR0{M:Model}{A:Around}{E:Value->Shared->Prop}{s:Shared}{scope:Scope}{globals:Addr}{cl:List (Str × Addr)}{qual:Str}{env:Env}{bi:Addr}{Q:Env->Shared->Prop}
  (hQ:Q (newEnv scope s.heap.objs.size globals (cellsFrom (s.heap.objs.size+1) scope.names cl) qual none .none (some env) bi) { s with heap:=pushCells (s.heap.push { cls:=.type "dict",data:=.dict #[] }) scope.names }) :
  wpAny M A (newFunctionEnv scope globals cl [] qual none .none (some env) bi) Q E s:=by
 simp only[newFunctionEnv,Option.isSome_some,if_true]
 refine wpAny_bind (wpAny_alloc (wpAny_bind (wpAny_layCells _ (λname kind cells=>by cases e:kind==Er<;>simp[e]) _ _ _ _ ?_)))
 rw[List.forIn_nil]
 refine wpAny_bind (wpAny_pure (wpAny_pure ?_))
 have z:({ s with heap:=s.heap.push { cls:=.type "dict",data:=.dict #[] } }:Shared).heap.objs.size=s.heap.objs.size+1:=wQ ..
 rw[z]
 exact hQ
theorem Ak:∀(ns:List (Str × NameKind)) (n:Nat) (acc:List (Str × Addr)) (y:Str) (c:Addr),(cellsFrom n ns acc).lookup y=some c->(n<=c/\(y,Er)∈ns)\/acc.lookup y=some c
 | [],_,_,_,_,h=>.inr h
 | (z,k)::r,n,acc,y,c,h=>by
  unfold cellsFrom at h
  split at h
  ·rename_i hk
   rcases Ak r (n+1) _ y c h with⟨h1,h2⟩ | h1
   ·exact .inl ⟨by omega,e5 _ h2⟩
   ·rw[iE]at h1
    cases q:y==z with
    | true =>
     rw[q]at h1;cases h1
     exact .inl ⟨cg _,by rw[eq_of_beq q,eq_of_beq hk];exact gD⟩
    | false=>rw[q]at h1;exact .inr h1
  ·rcases Ak r n acc y c h with⟨h1,h2⟩ | h1
   ·exact .inl ⟨h1,e5 _ h2⟩
   ·exact .inr h1
theorem GU:∀(ns:List (Str × NameKind)) (n:Nat) (acc:List (Str × Addr)),(∀y z c,acc.lookup y=some c->acc.lookup z=some c->y=z)->(∀y c,acc.lookup y=some c->c<n) ->
  ∀y z c,(cellsFrom n ns acc).lookup y=some c->(cellsFrom n ns acc).lookup z=some c->y=z
 | [],_,_,i,_,y,z,c,h1,h2=>i y z c h1 h2
 | (u,k)::r,n,acc,i,b,y,z,c,h1,h2=>by
  unfold cellsFrom at h1 h2
  split at h1
  ·rw[if_pos (by assumption)]at h2
   refine GU r (n+1) ((u,n)::acc) (λy z c e1 e2=>?_) (λy c e=>?_) y z c h1 h2
   ·rw[iE]at e1 e2
    cases q1:y==u with
    | true =>
     rw[q1]at e1;cases e1
     cases q2:z==u with
     | true=>rw[eq_of_beq q1,eq_of_beq q2]
     | false=>rw[q2]at e2;exact absurd (b _ _ e2) (h7 _)
    | false =>
     rw[q1]at e1
     cases q2:z==u with
     | true=>rw[q2]at e2;cases e2;exact absurd (b _ _ e1) (h7 _)
     | false=>rw[q2]at e2;exact i y z c e1 e2
   ·rw[iE]at e
    cases q:y==u with
    | true=>rw[q]at e;cases e;exact Bo _
    | false=>rw[q]at e;exact JY (b _ _ e)
  ·rw[if_neg (by assumption)]at h2
   exact GU r n acc i b y z c h1 h2
theorem GV:∀(ns:List (Str × NameKind)) (n:Nat) (acc:List (Str × Addr)) (y:Str) (c:Addr),(y,Er)∈ns->(cellsFrom n ns acc).lookup y=some c->n<=c
 | [],_,_,_,_,m,_=>nomatch m
 | (z,k)::r,n,acc,y,c,m,h=>by
  unfold cellsFrom at h
  split at h
  ·rename_i hk
   rcases cw.mp m with e | m
   ·have e1:y=z:=(Prod.mk.inj e).1
    rcases Ak r (n+1) _ y c h with⟨h1,_⟩ | h1
    ·exact BF h1
    ·rw[iE,e1,beq_self_eq_true]at h1
     exact Bl (cT h1)
   ·exact BF (GV r (n+1) _ y c m h)
  ·rename_i hk
   rcases cw.mp m with e | m
   ·cases e;exact absurd rfl hk
   ·exact GV r n acc y c m h
def dj(X:Cx)(scope:Scope)(N:List Str)(cl:List (Str × Addr))(C:Addr)(s:Shared)(H:Hp)(fp:List Addr):Cx :=
 { B3 X scope N (cellsFrom (C+1) scope.names cl) C s H fp with fn:=λy=>scope.names.contains (y,Er) }
section
variable{X:Cx}{scope:Scope}{cl:List (Str × Addr)}
theorem cd6{pins:List (Addr × Obj)}{σ:St}{H:Hp}{s:Shared}{fp:List Addr}{C:Addr}(I:Inv X pins σ H s)(gG:scope.kind=.function)(hC:s.heap.objs.size<=C)
  (gh:∀y c,cl.lookup y=some c->X.env.cells.lookup y=some c) (c69:∀y,((relabel scope X.env).names.lookup y=some .cell\/(relabel scope X.env).names.lookup y=some .free)->∃c,(cellsFrom (C+1) scope.names cl).lookup y=some c)
  (hf:∀b∈fp,j3 X pins H b) (ho:∀b∈fp,∃o,s.heap.get? b=some o/\∀v,o.data≠.cell v) (N:List Str):(dj X scope N cl C s H fp).Ok where
 mod:=I.ok.mod
 kind:=gG
 glob:=I.ok.glob
 blt:=I.ok.blt
 above:=hC
 inj:=GU scope.names (C+1) cl (λy z c h1 h2=>I.ok.inj y z c (gh _ _ h1) (gh _ _ h2)) λy c e=>by
  obtain⟨v,o,ho,_⟩:=I.cell y c (gh y c e)
  exact Nat.lt_succ_of_le (Bk (dE (cu ho) hC))
 has:=c69
 uI:=λy c h e=>fY hC (BF (GV _ _ _ y c (BE.mp h) e))
 hd:=I.ok.hd
 frames:=I.ok.frames
 yT:=.inl rfl
 yU:=λb hb=>⟨by
  obtain⟨o,e,_⟩:=ho b hb
  exact fN (dE (cu e) hC),λy c e z=>by
  rcases Ak _ _ _ y c e with⟨h1,_⟩ | h1
  ·obtain⟨o,e,_⟩:=ho b hb
   rw[z]at h1
   exact absurd (dE (cu e) (fY hC (BF h1))) (h7 _)
  ·exact(hf b hb).2.2.2.2.1 y c (gh _ _ h1) z⟩
 bs:=I.bs
 k9:=fY I.ok.k9 I.sz
 xn:=λb o e hb=>by
  rcases(hf b hb).2.2.2.1 with z | z
  ·exact I.ok.xn b o e z
  ·exact absurd (dE (cu (I.ok.bs b o e).1) z) (h7 _)
 xo:=λb hb z=>(cw.mp (I.BN b z)).elim (hf b hb).2.1 (hf b hb).2.2.1
 iG:=I.stack
 lh:=I.Kt
end
theorem GW:∀(ns:List (Str × NameKind)) (h:Heap) (acc:List (Str × Addr)) (y:Str) (c:Addr),(cellsFrom h.objs.size ns acc).lookup y=some c->(∃o,(pushCells h ns).get? c=some o/\o.data=.cell none)\/acc.lookup y=some c
 | [],_,_,_,_,e=>.inr e
 | (z,k)::r,h,acc,y,c,e=>by
  unfold cellsFrom at e
  unfold pushCells
  split at e
  ·rename_i hk
   rw[if_pos hk]
   rw[<-wQ h { cls:=.type "cell",data:=.cell none }]at e
   rcases GW r _ _ y c e with h1 | h1
   ·exact .inl h1
   ·rw[iE]at h1
    cases q:y==z with
    | true =>
     rw[q]at h1;cases h1
     exact .inl ⟨_,pushCells_keeps _ _ _ _ (iB _ rfl),rfl⟩
    | false=>rw[q]at h1;exact .inr h1
  ·rename_i hk
   rw[if_neg hk]
   exact GW r h acc y c e
end L2
namespace L2
open PySem PySem.Spec PyProof.Rows
section
variable{X:Cx}{elt iter tg:Expr}{pos:Pos}{ifs:List Expr}{scope:Scope}{cl:List (Str × Addr)}{wi:TI}{tt:TT}{te:TE}{g:TG}
theorem N7(ay:List (Str × Nat))(bF:List Str)(hc:X.calm=true)(hi:PI X tg iter wi)
  (hg:∀C s H fp,PG (dj X scope (ay.map (·.1)++bF) cl C s H fp) tg g)
  (ht:∀C s H fp,mH (dj X scope (ay.map (·.1)++bF) cl C s H fp) ifs tt) (he:∀C s H fp,PE (dj X scope (ay.map (·.1)++bF) cl C s H fp) elt te)
  (jK:closureFor scope X.env=pure cl) (jL:lC X cl) (jM:∀C:Addr,lD (cellsFrom (C+1) scope.names cl) (relabel scope X.env).names) (jN:∀C:Addr,ly X scope (cellsFrom (C+1) scope.names cl) ay)
  (gG:scope.kind=.function) (jO:∀y∈scope.names,y.2=.local->scope.names.lookup y.1=some .local)
  (hs:∀x,foldedSetIterable iter X.env x=pure x:=by intro _;rfl) {pins:List (Addr × Obj)} {s:Shared} {σ:L2.St} {H:Hp} {Q:VK} {use:Option (Value->Sem Unit)} {bR:Pos} {Rf:Value->Shared->Prop} (I:Inv X pins σ H s) (h:B5 wi ay bF.length g tt te σ H Q)
  (c70:∀(s':Shared) (H':Hp) (C Da:Addr) (m:Str->Option Value),Inv X pins σ H' s'->s'.heap.Ns C m->H' C=none->C≠X.env.locals->X.e7.heap.objs.size<=C->(∀x c,X.env.cells.lookup x=some c->c≠C)->(∀p∈X.pn++pins,p.1≠C)->C ∉ X.fs->Q (.ref Da) H' ->
   compPost (model X.prog X.w) X.A X.xe use Rf (.ref Da) C (.ok .next) s') :
  wpAny (model X.prog X.w) X.A (comprehension (.ListComp elt [⟨tg,iter,ifs,0⟩] scope pos) scope X.env bR (newList []) false (eval iter X.env) use) Rf X.xe s:=by
 have gh:=jL.all
 refine wpAny_comprehension_free (use:=use) rfl hs jK gG jO (a7 (hi pins s σ H _ I h) λv s1 h1=>a7 h1 λEJ s2 h2=>?_)
 obtain⟨it,fp,tn,J,H2,e,I2,T,y8,f2,q⟩:=h2
 subst e
 refine wpAny_newList ?_
 refine bR0 ?_
 have hD:H2 s2.heap.objs.size=none:=I2.aZ.fresh (cg _)
 obtain⟨W,⟨m0,w0⟩,turn⟩:=q s2.heap.objs.size hD
 generalize GX:s2.heap.push { cls:=.type "list",data:=.seq ([]:List Value).toArray }=g0 at ⊢
 have hCs:g0.objs.size=s2.heap.objs.size+1:=by rw[<-GX,wQ]
 have hDC:s2.heap.objs.size≠g0.objs.size:=by omega
 have hle:s2.heap.objs.size<=g0.objs.size:=by omega
 have xp:∀b o,s2.heap.get? b=some o->b≠g0.objs.size:=λb o e=>fN (dE (cu e) hle)
 obtain⟨g1,CY⟩:∃g1,g1=pushCells (g0.push { cls:=.type "dict",data:=.dict #[] }) scope.names:=⟨_,rfl⟩
 have GY:g1.Ns g0.objs.size (λ_=>none):=by rw[CY];exact(Heap.Ns.new g0 (.type "dict")).keeps (pushCells_keeps _ _)
 have N8:∀b o,g0.get? b=some o->g1.get? b=some o:=λb o e=>by rw[CY];exact pushCells_keeps _ _ b o (gQ _ e)
 have old:∀b o,s2.heap.get? b=some o->g1.get? b=some o:=λb o e=>N8 b o (GX ▸ gQ _ e)
 rw[<-CY]
 have hDg:g1.get? s2.heap.objs.size=some { cls:=.type "list",data:=.seq ([]:List Value).toArray }:=N8 _ _ (GX ▸ iB _ rfl)
 have N9:∀b∈fp,∃o,s2.heap.get? b=some o/\∀v,o.data≠.cell v:=T.obj _ _ y8
 have CZ:=cd6 (scope:=scope) (cl:=cl) (C:=g0.objs.size) I2 gG hle gh (jM g0.objs.size).all f2 N9 (ay.map (·.1)++bF)
 have I4:Inv (dj X scope (ay.map (·.1)++bF) cl g0.objs.size s2 H2 fp) [] (gH ay bF.length σ) (upd H2 s2.heap.objs.size (.lst [])) { s2 with heap:=g1 }:=by
  refine⟨CZ,rfl,I2.bare,Un.laid old (cg _) hD,⟨_,GY,λi y v h1 h2 h3=>?_⟩,λy c e=>?_,?_,λy c e=>?_,λp hp=>absurd hp (by simp[dj,B3]),I2.aZ.laid old (cg _) ⟨h8 _,[],0,.nil,hDg⟩,by simp[gH,dj,B3]⟩
  ·by_cases GZ:i<ay.length
   case neg =>
    have kG:((ay.map λp=>(σ[p.2]?).getD none)++aX bF.length none)[i]?=some (some v):=h2
    rw[qJ (by simpa using GZ),nC]at kG
    split at kG<;>cases kG
   case pos =>
    have lH:(ay.map (·.1))[i]?=some y:=by
     have z:(ay.map (·.1)++bF)[i]?=some y:=h1
     rwa [uq (by simpa using GZ)]at z
    have kG:(ay.map λp=>(σ[p.2]?).getD none)[i]?=some (some v):=by
     have z:((ay.map λp=>(σ[p.2]?).getD none)++aX bF.length none)[i]?=some (some v):=h2
     rwa [uq (by simpa using GZ)]at z
    rw[bM]at lH kG
    cases hj:ay[i]? with
    | none=>rw[hj]at lH;cases lH
    | some p =>
     rw[hj]at lH kG
     have ey:p.1=y:=cT lH
     have ev:(σ[p.2]?).getD none=some v:=cT kG
     obtain⟨hN,hk,Al,c,e1,e2⟩:=(jN g0.objs.size).at p (ur hj)
     obtain⟨m,hn,hl⟩:=I2.loc
     have es:σ[p.2]?=some (some v):=by
      cases z:σ[p.2]? with
      | none=>rw[z]at ev;cases ev
      | some o=>rw[z]at ev;exact congrArg some ev
     obtain⟨u,ru,lk⟩:=hl p.2 p.1 v hN es (hk.elim (λz=>.inr (.inl z)) λz=>.inr (.inr z))
     refine⟨u,ru,?_⟩
     rcases lk with⟨lk,_⟩ | ⟨_,c',e3,ic⟩
     ·rcases hk with hk | hk
      ·have:=hk.symm.trans lk;cases this
      ·have:=hk.symm.trans lk;cases this
     ·rw[e2]at e3
      cases e3
      subst ey
      obtain⟨oc,i5,Gp⟩:=ic
      exact .inr ⟨Al,c,e1,oc,old _ _ i5,Gp⟩
  ·rcases GW _ _ _ y c (show(cellsFrom (g0.push { cls:=.type "dict",data:=.dict #[] }).objs.size scope.names cl).lookup y=some c by rw[wQ];exact e)with h1 | h1
   ·rw[<-CY]at h1
    exact⟨none,h1⟩
   ·obtain⟨v,o,ho,hd⟩:=I2.cell y c (gh y c h1)
    exact⟨v,o,old _ _ ho,hd⟩
  ·show upd H2 _ _ g0.objs.size=none
   rw[bt (iy hDC)]
   exact I2.aZ.fresh hle
  ·rcases Ak _ _ _ y c e with⟨h1,_⟩ | h1
   ·rw[bt (Nat.ne_of_gt (yC hle h1))]
    exact I2.aZ.fresh (fY hle (BF h1))
   ·obtain⟨v,o,ho,hd⟩:=I2.cell y c (gh y c h1)
    rw[bt (fN (cu ho))]
    exact I2.kB y c (gh y c h1)
 have fin:∀(s':Shared) (H':Hp) (aN:L2.St),Inv (dj X scope (ay.map (·.1)++bF) cl g0.objs.size s2 H2 fp) [] aN H' s'->Q (.ref s2.heap.objs.size) H' ->
   compPost (model X.prog X.w) X.A X.xe use Rf (.ref s2.heap.objs.size) g0.objs.size (.ok .next) s':=by
  intro s' H' aN I' q'
  obtain⟨m,hn,_⟩:=I'.loc
  have u:=I'.base
  have hC':H' g0.objs.size=none:=I'.free
  have IX:Inv X pins σ H' s':=I2.Xf (s':=s') (ch:=fp) I'.os ⟨u.keep,u.slot,u.free,u.there,u.mx,u.k8,u.jW⟩ I'.aZ I'.bare λb hb=>by
   obtain⟨_,y1,y2,y3,y4,y5⟩:=f2 b hb
   exact⟨y3,y1,y4,y5⟩
  have Oa:∀b,(∃o,s2.heap.get? b=some o)->b≠g0.objs.size:=λb ⟨o,e⟩=>xp b o e
  refine c70 s' H' g0.objs.size s2.heap.objs.size m IX hn hC' (λz=>?_) (fY I2.sz hle) (λx c e z=>?_) (λp hp z=>?_) (λz=>?_) q'
  ·have h0:X.env.locals<s2.heap.objs.size:=I2.lt
   rw[<-z]at h0
   exact h7 _ (dE h0 hle)
  ·obtain⟨v,o,ho,_⟩:=I2.cell x c e
   exact Oa c ⟨o,ho⟩ z
  ·exact Oa p.1 ⟨_,(I2.pin p hp).1⟩ z
  ·exact I2.Ks hle z
 have G0:∀(H':Hp),(∀b∈fp,H' b=none)->∀b∈fp,j3 (dj X scope (ay.map (·.1)++bF) cl g0.objs.size s2 H2 fp) [] H' b:=λH' hn b hb =>
  ⟨hn b hb,(CZ.yU b hb).1,CZ.xo b hb,.inl hb,(CZ.yU b hb).2,λp hp=>absurd hp (by simp[dj,B3])⟩
 have loop:codeAny (model X.prog X.w) X.A (.compLoop (.ListComp elt [⟨tg,iter,ifs,0⟩] scope pos) 0 (.ref it) (.ref s2.heap.objs.size) (compEnvC scope (cellsFrom (g0.objs.size+1) scope.names cl) g0.objs.size X.env))
   (compPost (model X.prog X.w) X.A X.xe use Rf (.ref s2.heap.objs.size) g0.objs.size) { s2 with heap:=g1 }:=by
  refine ω (λn s'=>∃i acc H',Inv (dj X scope (ay.map (·.1)++bF) cl g0.objs.size s2 H2 fp) [] (gH ay bF.length σ) H' s'/\tn i s'.heap/\(∀b∈fp,H' b=none)/\W i n acc H') ?_ m0
   ⟨0,[],_,I4,T.keep _ _ _ y8 λb hb o e=>old b o e,λb hb=>?_,w0⟩
  ·rintro n s' ⟨i,acc,H',I',q0,Am,w'⟩
   obtain⟨mQ,⟨stop,qn⟩ | ⟨go,step⟩⟩:=turn i n acc H' w'
   ·refine a7 (T.done (dj X scope (ay.map (·.1)++bF) cl g0.objs.size s2 H2 fp) rfl rfl rfl hc i [] s' _ H' (λ_ _=>False) I' (G0 H' Am) q0 stop) λr t1 zz=>?_
    obtain⟨hr,I1⟩:=zz
    subst hr
    exact fin _ _ _ I1 qn
   ·refine a7 (T.item (dj X scope (ay.map (·.1)++bF) cl g0.objs.size s2 H2 fp) rfl rfl rfl hc i [] s' _ H' (λ_ _=>False) I' (G0 H' Am) q0 go) λr t1 zz=>?_
    obtain⟨u,hr,h4⟩:=zz
    subst hr
    refine a7 h4 λ_ t2 zz=>?_
    obtain⟨x5,H5,I5,r5,y5,uN,EN⟩:=zz
    obtain⟨Cf,st6⟩:=step x5 H5 y5
    have EO:=I5.pinned (G0 H5 EN) (T.obj _ _ uN)
    refine a7 (hg _ _ _ _ _ t2 _ H5 x5 u _ EO r5 st6) λ_ t3 zz=>?_
    obtain⟨ER,H6,I6,⟨c75,c76⟩,st7⟩:=zz
    have back:∀(s7:Shared) (H7:Hp) (G1:List V) (m7:Nat),Inv (dj X scope (ay.map (·.1)++bF) cl g0.objs.size s2 H2 fp) ([]++y6 fp t2.heap) ER H7 s7->W (i+1) m7 G1 H7 ->
      ∃i acc H',Inv (dj X scope (ay.map (·.1)++bF) cl g0.objs.size s2 H2 fp) [] (gH ay bF.length σ) H' s7/\tn i s7.heap/\(∀b∈fp,H' b=none)/\W i m7 acc H':=λs7 H7 G1 m7 I7 w7 =>
     ⟨i+1,G1,H7,(I7.y7).weak c75.symm λj v z=>by
       by_cases hj:j<ay.length
       ·rw[c76 j hj];exact z
       ·have z':((ay.map λp=>(σ[p.2]?).getD none)++aX bF.length none)[j]?=some (some v):=z
        rw[qJ (by simpa using hj),nC]at z'
        split at z'<;>(cases z'),
      T.keep _ _ _ uN λb hb o e=>(I7.pin (b,o) (fq _ (fq _ (BV hb e)))).1,λb hb=>by
       obtain⟨o,e,d⟩:=T.obj _ _ uN b hb
       exact(I7.pin (b,o) (fq _ (fq _ (BV hb e)))).2.1,w7⟩
    refine a7 (ht _ _ _ _ _ t3 _ H6 _ I6 st7) λok t4 zz=>?_
    obtain⟨H7,I7,hD7,q7⟩:=zz
    cases ok with
    | false =>
     obtain⟨m',hm,w7⟩:=(show ∃m',m'<n/\W (i+1) m' acc H7 from q7)
     exact⟨m',hm,back t4 H7 acc m' I7 w7⟩
    | true =>
     refine a7 (he _ _ _ _ _ t4 _ H7 _ I7 q7) λy t5 zz=>?_
     obtain⟨v8,H8,I8,r8,hD8,hl8,m',hm,w8⟩:=zz
     exact a7 (Lz _ t5 _ H8 (.ref s2.heap.objs.size) [v8] (.ref s2.heap.objs.size) [y] (λ_ H9=>H9=upd H8 s2.heap.objs.size (.lst (acc++[v8]))) I8 rfl (.cons r8 .nil) ⟨_,acc,v8,rfl,rfl,hD8,hl8,rfl⟩) λ_ t6 zz=>by
      obtain⟨_,H9,I9,_,e9⟩:=zz
      subst e9
      exact⟨m',hm,back t6 _ _ m' I9 w8⟩
  ·obtain⟨o,e,_⟩:=N9 b hb
   rw[bt (fN (cu e))]
   exact(f2 b hb).1
 exact codeAny_compStart_list loop (T.self _ 0 _ _ _ (T.keep _ _ _ y8 λb hb o e=>old b o e) loop)
theorem Ob(ay:List (Str × Nat))(bF:List Str)(hc:X.calm=true)(hi:PI X tg iter wi)
  (hg:∀C s H fp,PG (dj X scope (ay.map (·.1)++bF) cl C s H fp) tg g)
  (ht:∀C s H fp,mH (dj X scope (ay.map (·.1)++bF) cl C s H fp) ifs tt) (he:∀C s H fp,PE (dj X scope (ay.map (·.1)++bF) cl C s H fp) elt te)
  (jK:closureFor scope X.env=pure cl) (jL:lC X cl) (jM:∀C:Addr,lD (cellsFrom (C+1) scope.names cl) (relabel scope X.env).names) (jN:∀C:Addr,ly X scope (cellsFrom (C+1) scope.names cl) ay)
  (gG:scope.kind=.function) (jO:∀y∈scope.names,y.2=.local->scope.names.lookup y.1=some .local)
  (hs:∀x,foldedSetIterable iter X.env x=pure x:=by intro _;rfl):PE X (.ListComp elt [⟨tg,iter,ifs,0⟩] scope pos) (B5 wi ay bF.length g tt te):=by
 intro pins s σ H Q I h
 rw[eval_ListComp]
 refine N7 ay bF hc hi hg ht he jK jL jM jN gG jO hs I h λs' H' C Da m IX hn hC hL h1 h2 h3 h4 q'=>?_
 exact⟨m,hn,λh' sb=>⟨.ref Da,H',IX.turned (t':=s'.toks) (λb o hb e=>sb.extBut b o hb e) hC hL (.inr h1) h2 h3,rfl,q'⟩⟩
theorem Oc{i:Nat}{x:Str}{pos' apos:Pos}(hN:X.N.Nodup)(wa:X.N[i]?=some x)(hx:Loc X.env.scope x)(hf:X.fn x=true\/X.env.scope.names.lookup x=some .local)(ay:List (Str × Nat))(bF:List Str)(hc:X.calm=true)(hi:PI X tg iter wi)
  (hg:∀C s H fp,PG (dj X scope (ay.map (·.1)++bF) cl C s H fp) tg g)
  (ht:∀C s H fp,mH (dj X scope (ay.map (·.1)++bF) cl C s H fp) ifs tt) (he:∀C s H fp,PE (dj X scope (ay.map (·.1)++bF) cl C s H fp) elt te)
  (jK:closureFor scope X.env=pure cl) (jL:lC X cl) (jM:∀C:Addr,lD (cellsFrom (C+1) scope.names cl) (relabel scope X.env).names) (jN:∀C:Addr,ly X scope (cellsFrom (C+1) scope.names cl) ay)
  (gG:scope.kind=.function) (jO:∀y∈scope.names,y.2=.local->scope.names.lookup y.1=some .local)
  (mY:swapsWith (.ListComp elt [⟨tg,iter,ifs,0⟩] scope pos) (some (.Name x pos')) apos.line X.env=pure true) (hs:∀x,foldedSetIterable iter X.env x=pure x:=by intro _;rfl):PS X (.Assign [.Name x pos'] (.ListComp elt [⟨tg,iter,ifs,0⟩] scope pos) apos) (BS (B5 wi ay bF.length g tt te) (xq i)):=by
 intro pins s σ H D I h
 rw[exec_Assign_Name_used x pos' _ apos mY]
 refine wpAny_bind (wpAny_standAt (wpAny_bind ?_))
 have hh:B5 wi ay bF.length g tt te σ H λv H1=>D.nx (σ.set i (some v)) H1:=h
 show wpAny _ _ (comprehension (.ListComp elt [⟨tg,iter,ifs,0⟩] scope pos) scope X.env (firstIterPos [⟨tg,iter,ifs,0⟩] pos) (newList []) false (eval iter X.env) (some (assign (.Name x pos') X.env)) >>= λ_=>pure ()) _ _ _
 refine wpAny_bind (N7 (use:=some (assign (.Name x pos') X.env)) (pos:=pos) ay bF hc hi hg ht he jK jL jM jN gG jO hs I hh λs' H' C Da m IX hn hC hL h1 h2 h3 h4 q'=>?_)
 obtain⟨oC,es,ep,hoC,Od,rest⟩:=id hn
 have IP:Inv X (pins++[(C,oC)]) σ H' s':=⟨IX.ok,IX.os,IX.bare,IX.base,IX.loc,IX.cell,IX.free,IX.kB,λp hp=>by
  rcases cM.mp hp with z | z
  ·exact IX.pin p (iz _ z)
  ·rcases cM.mp z with z | z
   ·exact IX.pin p (fq _ z)
   ·obtain rfl:=fu.mp z
    exact⟨hoC,hC,hL,h4,λv w=>by rw[Od]at w;cases w⟩,IX.aZ,IX.len⟩
 refine a7 (yY (X:=X) hN wa hx hf _ s' σ H' (.ref Da) (.ref Da) (λnM H2=>nM=σ.set i (some (.ref Da))/\H2=H') IP rfl ⟨rfl,rfl⟩) λ_ s2 zz=>?_
 obtain⟨nM,H2,I2,e1,e2⟩:=zz
 subst e1 e2
 have pC:=I2.pin (C,oC) (fq _ (fq _ (by simp)))
 refine⟨m,⟨oC,es,ep,pC.1,Od,rest⟩,λh' sb=>wpAny_pure (wpAny_pure ?_)⟩
 exact⟨σ.set i (some (.ref Da)),H2,(I2.y7).turned (t':=s2.toks) (λb o hb e=>sb.extBut b o hb e) hC hL (.inr h1) h2 h3,q'⟩
end
end L2
namespace L3
open PySem L2 PySem.Spec PyProof.Rows
section
variable{X:Cx}{elt iter tg:Expr}{pos:Pos}{ifs:List Expr}{scope:Scope}{cl:List (Str × Addr)}{ti:iO}{tt:fj}{te:aJ}{g:ij}
theorem cq(ay:List (Str × Nat))(bF:List Str)(hc:X.calm=true)(hi:PI X tg iter (lI ti))
  (hg:∀C s H fp,PG (dj X scope (ay.map (·.1)++bF) cl C s H fp) tg (lG ay.length g))
  (ht:∀C s H fp,mH (dj X scope (ay.map (·.1)++bF) cl C s H fp) ifs (lT tt)) (he:∀C s H fp,PE (dj X scope (ay.map (·.1)++bF) cl C s H fp) elt (lE te))
  (jK:closureFor scope X.env=pure cl) (jL:lC X cl:=by repeat' (first | exact trivial | refine⟨rfl,?_⟩)) (jM:∀C:Addr,lD (cellsFrom (C+1) scope.names cl) (relabel scope X.env).names:=by intro _;repeat' (first | exact trivial | refine⟨.inl rfl,?_⟩ | refine⟨.inr (.inl rfl),?_⟩ | refine⟨.inr (.inr ⟨_,rfl⟩),?_⟩)) (jN:∀C:Addr,ly X scope (cellsFrom (C+1) scope.names cl) ay:=by intro _;repeat' (first | exact trivial | refine⟨⟨rfl,.inl rfl,.inl rfl,_,rfl,rfl⟩,?_⟩))
  (gG:scope.kind=.function:=by rfl) (jO:∀y∈scope.names,y.2=.local->scope.names.lookup y.1=some .local:=by decide +kernel)
  (hs:∀x,foldedSetIterable iter X.env x=pure x:=by intro _;rfl):PE X (.ListComp elt [⟨tg,iter,ifs,0⟩] scope pos) (lE (mP ti ay bF.length g tt te)) :=
 dr (Ob ay bF hc hi hg ht he jK jL jM jN gG jO hs) λσ H Q zq=>by
 obtain⟨B,F,δ,ts,Qd,c,q,k⟩:=zq
 exact⟨B,F,δ,ts,_,c,q,λsh xs ao J F1 H1 hq f1 h1 c1 pG u6=>by
  obtain⟨p,f,hx,eK,hlen,hQ⟩:=hq
  exact FI c1 pG u6 p f hx eK hlen hQ λd ai v F' H' hd hf hs c'=>k d ai v F' H' hd (f1.trans hf) (h1.trans hs) c'⟩
theorem C2{i:Nat}{x:Str}{pos' apos:Pos}(hN:X.N.Nodup)(wa:X.N[i]?=some x)(hx:L2.Loc X.env.scope x)(ay:List (Str × Nat))(bF:List Str)(hc:X.calm=true)(hi:PI X tg iter (lI ti))
  (hg:∀C s H fp,PG (dj X scope (ay.map (·.1)++bF) cl C s H fp) tg (lG ay.length g))
  (ht:∀C s H fp,mH (dj X scope (ay.map (·.1)++bF) cl C s H fp) ifs (lT tt)) (he:∀C s H fp,PE (dj X scope (ay.map (·.1)++bF) cl C s H fp) elt (lE te))
  (jK:closureFor scope X.env=pure cl) (jL:lC X cl:=by repeat' (first | exact trivial | refine⟨rfl,?_⟩)) (jM:∀C:Addr,lD (cellsFrom (C+1) scope.names cl) (relabel scope X.env).names:=by intro _;repeat' (first | exact trivial | refine⟨.inl rfl,?_⟩ | refine⟨.inr (.inl rfl),?_⟩ | refine⟨.inr (.inr ⟨_,rfl⟩),?_⟩)) (jN:∀C:Addr,ly X scope (cellsFrom (C+1) scope.names cl) ay:=by intro _;repeat' (first | exact trivial | refine⟨⟨rfl,.inl rfl,.inl rfl,_,rfl,rfl⟩,?_⟩))
  (gG:scope.kind=.function:=by rfl) (jO:∀y∈scope.names,y.2=.local->scope.names.lookup y.1=some .local:=by decide +kernel)
  (mY:swapsWith (.ListComp elt [⟨tg,iter,ifs,0⟩] scope pos) (some (.Name x pos')) apos.line X.env=pure true:=by rfl) (hf:X.fn x=true\/X.env.scope.names.lookup x=some .local:=by first | exact .inl rfl | exact .inr rfl)
  (hs:∀x,foldedSetIterable iter X.env x=pure x:=by intro _;rfl):PS X (.Assign [.Name x pos'] (.ListComp elt [⟨tg,iter,ifs,0⟩] scope pos) apos) (lS X (mO i (mP ti ay bF.length g tt te))) :=
 ig (Oc hN wa hx hf ay bF hc hi hg ht he jK jL jM jN gG jO mY hs) λEn σ H zq=>by
 obtain⟨B,F,δ,Dd,c,q,k1,k2,k3,k4⟩:=zq
 exact⟨B,F,δ,[],_,c,q,λsh xs ao J F1 H1 hq f1 h1 c1 pG u6=>by
  obtain⟨p,f,hx,eK,hlen,hQ⟩:=hq
  exact FI (Qd:=λd ai=>Dd.nx (ai.set i (some d))) c1 pG u6 p f hx eK hlen hQ λd ai v F' H' hd hf hs c'=>k1 _ _ F' H' hd (c'.store i)⟩
end
end L3
namespace L3
open PySem L2 Mf
theorem lo1{m:Bool × Nat}(hm:m∈aA):1<aa m:=by have:=(cj hm).lo;omega
inductive Sp(N:Nat)(p q:Nat->Nat->Nat)(S:(Nat->Nat)->Prop):(Nat->Nat)->Prop
 | mem {f:Nat->Nat}:S f->Sp N p q S f
 | zero:Sp N p q S λ_=>0
 | add {f g:Nat->Nat}:Sp N p q S f->Sp N p q S g->Sp N p q S λk=>p (f k) (g k)
 | mul {f:Nat->Nat} (c:Nat):c<N->Sp N p q S f->Sp N p q S λk=>q c (f k)
theorem Sp.trans{N:Nat}{p q:Nat->Nat->Nat}{S S':(Nat->Nat)->Prop}(h:∀f,S f->Sp N p q S' f){f:Nat->Nat}(s:Sp N p q S f):Sp N p q S' f:=by
 induction s with
 | mem a=>exact h _ a
 | zero=>exact .zero
 | add _ _ a b=>exact .add a b
 | mul c hc _ a=>exact .mul c hc a
def Gn(T:List (List Nat))(f:Nat->Nat):Prop:=∃r∈T,f=cf r
def bP(m:Bool × Nat)(T:List (List Nat))(f:Nat->Nat):Prop:=Sp (aa m) (gp m) (gm m) (Gn T) f
theorem bP.of{m:Bool × Nat}{T:List (List Nat)}{r:List Nat}(h:r∈T):bP m T (cf r):=.mem ⟨r,h,rfl⟩
theorem b98{m:Bool × Nat}(hm:m∈aA){a:Nat}(ha:a<aa m){f f' l:Nat->Nat}(G2:∀k,f' k<aa m)(hl:∀k,l k<aa m)(h:∀k,gp m (f' k) (gm m a (l k))=f k):∃b,b<aa m/\f'=λk=>gp m (f k) (gm m b (l k)):=by
 have r:=rg hm
 obtain⟨b,hb,e⟩:=r.ng ha
 refine⟨b,hb,funext λk=>?_⟩
 rw[<-h k,r.pa,r.mc a,r.mc b,<- r.dl,e,r.qz,r.z' (G2 k)]
theorem G3{m:Bool × Nat}(hm:m∈aA){r l:List Nat}{w:Nat}(hr:r.length=w)(hl:l.length=w)(a k:Nat):cf (dv (λx y=>bB m x (gm m a y)) r l) k=bB m (cf r k) (gm m a (cf l k)):=by
 by_cases h:k<w
 ·unfold cf
  rw[aL,oE,aM (by omega),aM (by omega),aL,aM (by omega),aL,aM (by omega)]
  rfl
 ·rw[lZ (by rw[kA];omega),lZ (l:=r) (by omega),lZ (l:=l) (by omega),gK m _ (bO m hm),CT]
theorem C3{m:Bool × Nat}(hm:m∈aA){r l:List Nat}{w a:Nat}(hr:r.length=w)(hl:l.length=w)(ar:AllLt (aa m) r)(k:Nat):gp m (cf (dv (λx y=>bB m x (gm m a y)) r l) k) (gm m a (cf l k))=cf r k:=by
 rw[G3 hm hr hl]
 exact(jl hm (cS hm ar k) (bI hm _ _)).2.2
theorem G4{m:Bool × Nat}(hm:m∈aA){r l:List Nat}{w:Nat}(hr:r.length=w)(hl:l.length=w)(ar:AllLt (aa m) r)(a k:Nat):cf (dv (λx y=>bB m x (gm m a y)) r l) k<aa m:=by
 rw[G3 hm hr hl]
 exact(jl hm (cS hm ar k) (bI hm _ _)).2.1
theorem Oe{m:Bool × Nat}(hm:m∈aA){w p i:Nat}{T:List (List Nat)}(hT:RT (aa m) w T)(e:kN T p=some i):∃(g:List Nat) (c:Nat),g∈T/\T.getD i []=g/\g.length=w/\AllLt (aa m) g/\c<aa m/\gm m c (cf g p)=1/\(eY m T i p).length=w/\AllLt (aa m) (eY m T i p)/\(∀k,cf (eY m T i p) k=gm m c (cf g k))/\cf (eY m T i p) p=1/\∀k,gm m (cf g p) (cf (eY m T i p) k)=cf g k:=by
 obtain⟨hi,h1,h2⟩:=CW e
 obtain⟨a,b⟩:=hT _ (cN hi)
 have l1:1<aa m:=lo1 hm
 obtain⟨c,hc,C4⟩:=GP hm l1 (cS hm b p) h1
 have ec:kO m (cf T[i] p)=c:=xR hm hc C4
 have el:eY m T i p=T[i].map (gm m c):=by unfold eY;rw[h2,<- ec];rfl
 have ek:∀k,cf (eY m T i p) k=gm m c (cf T[i] k):=λk=>by rw[el];exact CU hm _ _ _
 refine⟨T[i],c,cN hi,h2,a,b,hc,C4,by rw[el,aW,a],λx hx=>?_,ek,by rw[ek];exact C4,λk=>?_⟩
 ·rw[el]at hx
  obtain⟨y,_,rfl⟩:=bw.mp hx
  exact bI hm _ _
 ·rw[ek,<- iq (bO m hm),gz m _ c,C4,n6 (cS hm b k)]
theorem Of{m:Bool × Nat}{s:List (List Nat) × List (List Nat)}{p i:Nat}(e:kN s.2 p=some i):jm m s p=(ir m s.1 (eY m s.2 i p) p++[eY m s.2 i p],ir m (s.2.take i++s.2.drop (i+1)) (eY m s.2 i p) p):=by unfold jm;rw[e]
theorem Og{m:Bool × Nat}{s:List (List Nat) × List (List Nat)}{p:Nat}(e:kN s.2 p=none):jm m s p=s:=by unfold jm;rw[e]
theorem C5{α:Type}{T:List α}{i:Nat}{r:α}(h:r∈T.take i++T.drop (i+1)):r∈T:=(cM.mp h).elim qR nG
theorem cc2{α:Type}{T:List α}{i:Nat}{r:α}(h:r∈T)(hi:i<T.length):r=T[i]\/r∈T.take i++T.drop (i+1):=by
 obtain⟨j,hj,rfl⟩:=fh h
 rcases J8 j i with h | h | h
 ·exact .inr (cM.mpr (.inl (List.mem_take_iff_getElem.mpr ⟨j,by omega,rfl⟩)))
 ·subst h;exact .inl rfl
 ·exact .inr (cM.mpr (.inr (List.mem_drop_iff_getElem.mpr ⟨j-(i+1),by omega,by congr 1;omega⟩)))
theorem bR3{m:Bool × Nat}(hm:m∈aA){w n p:Nat}{s:List (List Nat) × List (List Nat)}(h:Ai (aa m) w n s)(f:Nat->Nat):bP m (s.1++s.2) f↔bP m ((jm m s p).1++(jm m s p).2) f:=by
 cases e:kN s.2 p with
 | none=>rw[Og e]
 | some i =>
  obtain⟨g,c,g1,g2,g3,g4,c1,c2,l1,l2,l3,l4,l5⟩:=Oe hm h.b e
  obtain⟨hi,_,hg⟩:=CW e
  rw[Of e]
  generalize eY m s.2 i p=l at l1 l2 l3 l4 l5
  have ll:=cS hm l2
  have row:∀{T:List (List Nat)},RT (aa m) w T->∀r'∈ir m T l p,∃r∈T,∃b,b<aa m/\cf r'=λk=>gp m (cf r k) (gm m b (cf l k)):=λ{T} hT r' aP=>by
   obtain⟨r,hr,rfl⟩:=bw.mp aP
   obtain⟨a1,a2⟩:=hT r hr
   exact⟨r,hr,b98 hm (cS hm a2 p) (G4 hm a1 l1 a2 _) ll (C3 hm a1 l1 a2)⟩
  have Oh:∀{T:List (List Nat)},RT (aa m) w T->∀r∈T,∃r'∈ir m T l p,cf r=λk=>gp m (cf r' k) (gm m (cf r p) (cf l k)):=λ{T} hT r hr=>by
   obtain⟨a1,a2⟩:=hT r hr
   exact⟨_,bw.mpr ⟨r,hr,rfl⟩,funext λk=>(C3 hm a1 l1 a2 k).symm⟩
  have hB:RT (aa m) w (s.2.take i++s.2.drop (i+1)):=λr hr=>h.b r (C5 hr)
  constructor
  ·refine Sp.trans ?_
   rintro f ⟨r,hr,rfl⟩
   have hl:bP m ((ir m s.1 l p++[l])++ir m (s.2.take i++s.2.drop (i+1)) l p) (cf l):=bP.of (by simp)
   rcases cM.mp hr with hr | hr
   ·obtain⟨r',h1,h2⟩:=Oh h.a r hr
    rw[h2]
    exact .add (bP.of (by simp[h1])) (.mul _ (cS hm (h.a r hr).2 p) hl)
   ·rcases cc2 hr hi with e' | aP
    ·have:cf r=λk=>gm m (cf g p) (cf l k):=funext λk=>by rw[l5 k,e',<- hg,g2]
     rw[this]
     exact .mul _ (cS hm g4 p) hl
    ·obtain⟨r',h1,h2⟩:=Oh hB r aP
     rw[h2]
     exact .add (bP.of (by simp[h1])) (.mul _ (cS hm (h.b r hr).2 p) hl)
  ·refine Sp.trans ?_
   rintro f ⟨r,hr,rfl⟩
   have hl:bP m (s.1++s.2) (cf l):=by
    have:cf l=λk=>gm m c (cf g k):=funext l3
    rw[this]
    exact .mul _ c1 (bP.of (fq _ g1))
   rcases cM.mp hr with hr | hr
   ·rcases cM.mp hr with hr | hr
    ·obtain⟨r1,h1,b,hb,h2⟩:=row h.a r hr
     rw[h2]
     exact .add (bP.of (iz _ h1)) (.mul _ hb hl)
    ·rw[fu]at hr
     rw[hr];exact hl
   ·obtain⟨r1,h1,b,hb,h2⟩:=row hB r hr
    rw[h2]
    exact .add (bP.of (fq _ (C5 h1))) (.mul _ hb hl)
structure RR(w:Nat)(R:List (List Nat))(H:Nat->Nat):Prop where
 u:∀i j,i<R.length->j<R.length->cf (R.getD i []) (H j)=if i=j then 1 else 0
 z:∀i,i<R.length->∀t,t<H i->cf (R.getD i []) t=0
 i:∀i j,i<j->j<R.length->H i<H j
 l:∀i,i<R.length->H i<w
theorem tH{α β:Type}(f:α->β){l:List α}{i:Nat}(h:i<l.length)(a:α)(b:β):(l.map f).getD i b=f (l.getD i a):=by
 rw[aL,bM,aL,aM h];rfl
theorem bQ{α:Type}{l:List α}{i:Nat}(h:i<l.length)(a:α):l.getD i a∈l:=by
 rw[aL,aM h];exact cN h
theorem bF7{m:Bool × Nat}(hm:m∈aA){w n p:Nat}{s:List (List Nat) × List (List Nat)}(h:Ai (aa m) w n s){H:Nat->Nat}(I:RR p s.1 H)(e2:∀r∈s.2,∀t,t<p->cf r t=0):∃H',RR (p+1) (jm m s p).1 H'/\∀r∈(jm m s p).2,∀t,t<p+1->cf r t=0:=by
 cases e:kN s.2 p with
 | none =>
  rw[Og e]
  refine⟨H,⟨I.u,I.z,I.i,λi hi=>JY (I.l i hi)⟩,λr hr t ht=>?_⟩
  rcases uA t p with h1 | h1
  ·exact e2 r hr t h1
  ·have:=WO.mp e r hr
   have z:r.getD p 0=0:=by simpa using this
   rw[show t=p by omega]
   exact z
 | some i0 =>
  obtain⟨g,c,g1,g2,g3,g4,c1,c2,l1,l2,l3,l4,l5⟩:=Oe hm h.b e
  rw[Of e]
  generalize eY m s.2 i0 p=l at l1 l2 l3 l4 l5
  have m0:=bO m hm
  have lz:∀t,t<p->cf l t=0:=λt ht=>by rw[l3,e2 g g1 t ht,gK m _ m0]
  have An:∀{r:List Nat},r.length=w->AllLt (aa m) r->(∀t,t<p->cf (dv (λx y=>bB m x (gm m (r.getD p 0) y)) r l) t=cf r t)/\cf (dv (λx y=>bB m x (gm m (r.getD p 0) y)) r l) p=0:=λ{r} a1 a2=>by
   constructor
   ·intro t ht
    have:=C3 hm (a:=r.getD p 0) a1 l1 a2 t
    rw[lz t ht,gK m _ m0,jH (G4 hm a1 l1 a2 _ _)]at this
    exact this
   ·rw[G3 hm a1 l1,l4]
    show bB m (r.getD p 0) (gm m (r.getD p 0) 1)=0
    rw[nh (show r.getD p 0<aa m from cS hm a2 p),CT]
  have nl:(ir m s.1 l p).length=s.1.length:=by unfold ir;rw[aW]
  have Oi:∀i,i<s.1.length->∃r,s.1.getD i []=r/\r.length=w/\AllLt (aa m) r/\(ir m s.1 l p++[l]).getD i []=dv (λx y=>bB m x (gm m (r.getD p 0) y)) r l:=λi hi=>by
   refine⟨_,rfl,(h.a _ (bQ hi [])).1,(h.a _ (bQ hi [])).2,?_⟩
   rw[aL,uq (by omega),<- aL]
   exact tH _ hi [] []
  have Oj:(ir m s.1 l p++[l]).getD s.1.length []=l:=by
   rw[aL,qJ (by omega),nl,J9];rfl
  have le:(ir m s.1 l p++[l]).length=s.1.length+1:=by rw[du,nl];rfl
  refine⟨λi=>if i<s.1.length then H i else p,⟨λi j hi hj=>?_,λi hi t ht=>?_,λi j Ao hj=>?_,λi hi=>?_⟩,λr hr t ht=>?_⟩
  ·show cf ((ir m s.1 l p++[l]).getD i []) _=_
   dsimp only at hi hj ⊢
   rw[le]at hi hj
   by_cases h1:i<s.1.length
   ·obtain⟨r,r1,r2,r3,r4⟩:=Oi i h1
    rw[r4]
    by_cases h2:j<s.1.length
    ·rw[if_pos h2,(An r2 r3).1 _ (I.l j h2),<- r1]
     exact I.u i j h1 h2
    ·rw[if_neg h2,(An r2 r3).2,if_neg (by omega)]
   ·have e1:i=s.1.length:=by omega
    rw[e1,Oj]
    by_cases h2:j<s.1.length
    ·rw[if_pos h2,lz _ (I.l j h2),if_neg (by omega)]
    ·rw[if_neg h2,l4,if_pos (by omega)]
  ·dsimp only at hi ht ⊢
   rw[le]at hi
   by_cases h1:i<s.1.length
   ·rw[if_pos h1]at ht
    obtain⟨r,r1,r2,r3,r4⟩:=Oi i h1
    rw[r4,(An r2 r3).1 _ (by have:=I.l i h1;omega),<- r1]
    exact I.z i h1 t ht
   ·rw[if_neg h1]at ht
    have e1:i=s.1.length:=by omega
    rw[e1,Oj];exact lz t ht
  ·dsimp only at hj ⊢
   rw[le]at hj
   rw[if_pos (by omega)]
   by_cases h2:j<s.1.length
   ·rw[if_pos h2];exact I.i i j Ao h2
   ·rw[if_neg h2];exact I.l i (by omega)
  ·dsimp only at hi ⊢
   rw[le]at hi
   split
   ·have:=I.l i (by omega);omega
   ·omega
  ·obtain⟨r1,C6,rfl⟩:=bw.mp hr
   obtain⟨a1,a2⟩:=h.b r1 (C5 C6)
   rcases uA t p with h1 | h1
   ·rw[(An a1 a2).1 t h1];exact e2 _ (C5 C6) t h1
   ·rw[show t=p by omega];exact(An a1 a2).2
theorem Ol{m:Bool × Nat}(hm:m∈aA){w:Nat}{G:List (List Nat)}(h:RT (aa m) w G):∀k,(∃H,RR k (ki m G k).1 H/\∀r∈(ki m G k).2,∀t,t<k->cf r t=0)/\∀f,bP m G f↔bP m ((ki m G k).1++(ki m G k).2) f
 | 0=>⟨⟨λ_=>0,⟨(λ_ _ h=>nomatch h),(λ_ h=>nomatch h),(λ_ _ _ h=>nomatch h),(λ_ h=>nomatch h)⟩,λr _ t ht=>nomatch ht⟩,λf=>.rfl⟩
 | k+1=>by
  obtain⟨⟨H,h1,h2⟩,h3⟩:=Ol hm h k
  have D:=Aj hm h k
  rw[GR]
  exact⟨bF7 hm D h1 h2,λf=>(h3 f).trans (bR3 hm D f)⟩
theorem gL{m:Bool × Nat}(hm:m∈aA){G:List (List Nat)}(h:RT (aa m) (ag G) G):(∃H,RR (ag G) (bf m G) H)/\RT (aa m) (ag G) (bf m G)/\(bf m G).length<=G.length/\∀f,bP m G f↔bP m (bf m G) f:=by
 obtain⟨⟨H,h1,h2⟩,h3⟩:=Ol hm h (ag G)
 have D:=Aj hm h (ag G)
 refine⟨⟨H,h1⟩,D.a,by have:=D.l;show(ki m G (ag G)).1.length<=_;omega,λf=>(h3 f).trans ⟨Sp.trans ?_,Sp.trans ?_⟩⟩
 ·rintro f ⟨r,hr,rfl⟩
  rcases cM.mp hr with hr | hr
  ·exact bP.of hr
  ·have:cf r=λ_=>0:=funext λt=>by
    rcases uA t (ag G)with h4 | h4
    ·exact h2 r hr t h4
    ·exact lZ (by rw[(D.b r hr).1];exact h4)
   rw[this];exact .zero
 ·rintro f ⟨r,hr,rfl⟩
  exact bP.of (iz _ hr)
theorem l7{N:Nat}{p q:Nat->Nat->Nat}(r:Rg N p q){f:Nat->Nat}{j0:Nat}(hf:f j0<N):∀{n:Nat},j0<n->(∀j,j<n->j≠j0->f j=0)->sm p n f=f j0
 | 0,h,_=>nomatch h
 | n+1,h,hz=>by
  rw[sm]
  by_cases e:j0=n
  ·subst e
   rw[eP r λj hj=>hz j (by omega) (by omega),r.z hf]
  ·rw[l7 r hf (by omega) λj hj=>hz j (by omega),hz n (by omega) (by omega),r.z' hf]
theorem RR.own{m:Bool × Nat}(hm:m∈aA){w:Nat}{R:List (List Nat)}{H:Nat->Nat}(hR:RT (aa m) w R)(I:RR w R H){f:Nat->Nat}(s:bP m R f):∀k,f k=sm (gp m) R.length λi=>gm m (f (H i)) (cf (R.getD i []) k):=by
 have r:=rg hm
 have m0:=bO m hm
 induction s with
 | mem a =>
  intro k
  obtain⟨x,hx,rfl⟩:=a
  obtain⟨i,hi,rfl⟩:=fh hx
  have ei:R[i]=R.getD i []:=by rw[aL,aM hi];rfl
  have one:gm m (cf R[i] (H i)) (cf (R.getD i []) k)=cf R[i] k:=by
   rw[ei,I.u i i hi hi,if_pos rfl]
   exact n6 (cS hm (hR _ (bQ hi [])).2 k)
  refine((l7 r (f:=λa=>gm m (cf R[i] (H a)) (cf (R.getD a []) k)) (j0:=i) (bI hm _ _) hi λj hj hn=>?_).trans one).symm
  rw[ei,I.u i j hi hj,if_neg (by omega),eO m _ m0]
 | zero=>exact λk=>(eP r λj _=>eO m _ m0).symm
 | add _ _ a b =>
  intro k
  dsimp only
  rw[a k,b k,<- nj r]
  refine b9 λj _=>?_
  rw[r.mc (gp m _ _),r.dl,r.mc _ (cf _ k),r.mc _ (cf _ k)]
 | mul c hc _ a =>
  intro k
  dsimp only
  rw[a k,<- n9 r]
  refine b9 λj _=>?_
  rw[iq m0]
theorem bP.sum{m:Bool × Nat}(hm:m∈aA){w:Nat}{R:List (List Nat)}(hR:RT (aa m) w R){f:Nat->Nat}(s:bP m R f):∃c:Nat->Nat,(∀i,c i<aa m)/\∀k,f k=sm (gp m) R.length λi=>gm m (c i) (cf (R.getD i []) k):=by
 have r:=rg hm
 have m0:=bO m hm
 have l1:=lo1 hm
 induction s with
 | mem a =>
  obtain⟨x,hx,rfl⟩:=a
  obtain⟨i,hi,rfl⟩:=fh hx
  have ei:R[i]=R.getD i []:=by rw[aL,aM hi];rfl
  refine⟨λj=>if j=i then 1 else 0,λj=>by dsimp only;split<;>omega,λk=>?_⟩
  refine((l7 r (f:=λa=>gm m (if a=i then 1 else 0) (cf (R.getD a []) k)) (j0:=i) (bI hm _ _) hi λj hj hn=>?_).trans ?_).symm
  ·rw[if_neg hn,eO m _ m0]
  ·rw[if_pos rfl,ei]
   exact n6 (cS hm (hR _ (bQ hi [])).2 k)
 | zero=>exact⟨λ_=>0,λ_=>r.pos,λk=>(eP r λj _=>eO m _ m0).symm⟩
 | add _ _ a b =>
  obtain⟨c,hc,a⟩:=a
  obtain⟨d,hd,b⟩:=b
  refine⟨λi=>gp m (c i) (d i),λi=>r.lp (hc i) (hd i),λk=>?_⟩
  dsimp only
  rw[a k,b k,<- nj r]
  refine b9 λj _=>?_
  rw[r.mc (gp m _ _),r.dl,r.mc _ (cf _ k),r.mc _ (cf _ k)]
 | mul e he _ a =>
  obtain⟨c,hc,a⟩:=a
  refine⟨λi=>gm m e (c i),λi=>bI hm _ _,λk=>?_⟩
  dsimp only
  rw[a k,<- n9 r]
  refine b9 λj _=>?_
  rw[iq m0]
theorem bP.ann{m:Bool × Nat}(hm:m∈aA){R:List (List Nat)}{n:Nat}{y:Nat->Nat}(h:∀x∈R,sm (gp m) n (λj=>gm m (cf x j) (y j))=0){f:Nat->Nat}(s:bP m R f):sm (gp m) n (λj=>gm m (f j) (y j))=0:=by
 have r:=rg hm
 have m0:=bO m hm
 induction s with
 | mem a=>obtain⟨x,hx,rfl⟩:=a;exact h x hx
 | zero=>exact eP r λj _=>eO m _ m0
 | @add f g _ _ a b =>
  rw[b9 (g:=λj=>gp m (gm m (f j) (y j)) (gm m (g j) (y j))) λj _=>by dsimp only;rw[r.mc (gp m _ _),r.dl,r.mc (y j),r.mc (y j)],nj r,a,b,r.z r.pos]
 | @mul f e he _ a =>
  rw[b9 (g:=λj=>gm m e (gm m (f j) (y j))) λj _=>iq m0 _ _ _,n9 r,a,r.qz]
theorem RR.wb{m:Bool × Nat}(hm:m∈aA){w:Nat}{R:List (List Nat)}{H:Nat->Nat}(hR:RT (aa m) w R)(I:RR w R H){i:Nat}(hi:i<R.length):(R.getD i []).findIdx (· != 0)=H i/\∃x∈R.getD i [],x≠0:=by
 have a:=(hR _ (bQ hi [])).1
 have l:=I.l i hi
 have u:=I.u i i hi hi
 rw[if_pos rfl]at u
 have eu:(R.getD i [])[H i]'(by omega)=1:=by
  unfold cf at u
  rw[aL (l:=R.getD i []),aM (by omega)]at u
  exact u
 refine⟨?_,_,cN (show H i<(R.getD i []).length by omega),by rw[eu];decide⟩
 rw[List.findIdx_eq (by omega)]
 refine⟨by rw[eu];rfl,λj hj=>?_⟩
 have z:=I.z i hi j hj
 unfold cf at z
 rw[aL (l:=R.getD i []),aM (by omega)]at z
 simpa using z
theorem G5{a b:List Nat}{w:Nat}(ha:a.length=w)(hb:b.length=w)(h:∀k,k<w->cf a k=cf b k):a=b:=by
 refine BC (ha.trans hb.symm) λk h1 h2=>?_
 have:=h k (by omega)
 unfold cf at this
 rw[aL,aL,aM h1,aM h2]at this
 exact this
theorem C7(f:Nat->Nat){w k:Nat}(h:k<w):cf ((aH w).map f) k=f k:=by
 unfold cf
 rw[aL,bM,h9 h];rfl
theorem oh(m:Bool × Nat){xs ys:List Nat}(h:xs.length=ys.length):gd m xs ys=sm (gp m) xs.length λj=>gm m (cf xs j) (cf ys j):=by
 unfold gd
 rw[b75,kA,h,Bw]
 refine b9 λj hj=>?_
 unfold cf
 rw[aL,oE,aM (by omega),aM (by omega),aL,aM (by omega),aL,aM (by omega)]
 rfl
def gM(m:Bool × Nat)(xs:List Nat)(T:List (List Nat))(w:Nat):List Nat:=(aH w).map λk=>gd m xs (T.map λr=>r.getD k 0)
theorem Om{T:List (List Nat)}(k i:Nat):cf (T.map λr=>r.getD k 0) i=cf (T.getD i []) k:=by
 by_cases h:i<T.length
 ·exact tH (λr:List Nat=>r.getD k 0) h [] 0
 ·rw[lZ (by rw[aW];omega),aL,eE (by omega)];rfl
theorem we(m:Bool × Nat)(xs:List Nat)(T:List (List Nat))(w:Nat):(gM m xs T w).length=w:=by unfold gM;rw[aW,bN]
theorem Ap(m:Bool × Nat){xs:List Nat}{T:List (List Nat)}{w k:Nat}(h:xs.length=T.length)(hk:k<w):cf (gM m xs T w) k=sm (gp m) T.length λi=>gm m (cf xs i) (cf (T.getD i []) k):=by
 unfold gM
 rw[C7 _ hk,oh m (by rw[aW,h]),h]
 exact b9 λj _=>by rw[Om]
theorem cB8{m:Bool × Nat}(hm:m∈aA){xs ys:List Nat}(h:xs.length=ys.length):gd m xs ys<aa m:=by
 rw[oh m h];exact jI (rg hm) λj _=>bI hm _ _
theorem G6{m:Bool × Nat}(hm:m∈aA){xs:List Nat}{T:List (List Nat)}(w:Nat)(h:xs.length=T.length):AllLt (aa m) (gM m xs T w):=λx hx=>by
 obtain⟨k,_,rfl⟩:=bw.mp hx
 exact cB8 hm (by rw[aW,h])
theorem cB2{m:Bool × Nat}{xs u:List Nat}{T:List (List Nat)}{w:Nat}(h:xs.length=T.length)(hu:u.length=w)(hk:∀k,k<w->cf u k=sm (gp m) T.length λi=>gm m (cf xs i) (cf (T.getD i []) k)):gM m xs T w=u :=
 G5 (we m xs T w) hu λk h1=>by rw[Ap m h h1,hk k h1]
def a8(r:List Nat):Nat:=r.findIdx (· != 0)
theorem C8{α:Type}(a b:α->Nat){j:Nat}:∀(l:List α) (x:List Nat),(∀z∈l,a z≠j)->cf (l.foldl (λx z=>x.set (a z) (b z)) x) j=cf x j
 | [],_,_=>rfl
 | z::l,x,h=>by
  rw[wU,C8 a b l _ λy hy=>h y (e5 _ hy)]
  unfold cf
  rw[aL,qF (h z gD),<- aL]
theorem Oo{α:Type}(a b:α->Nat):∀(l:List α) (x:List Nat),l.Pairwise (λy z=>a y≠a z)->∀z∈l,a z<x.length->cf (l.foldl (λx z=>x.set (a z) (b z)) x) (a z)=b z
 | [],_,_,_,h,_=>nomatch h
 | y::l,x,hp,z,hz,hl=>by
  rw[wU]
  rw[uB]at hp
  rcases cw.mp hz with rfl | hz
  ·rw[C8 a b l _ λy hy=>iy (hp.1 y hy)]
   unfold cf
   rw[aL,um hl];rfl
  ·exact Oo a b l _ hp.2 z hz (by rw[qK];exact hl)
theorem Oq{α:Type}(a b:α->Nat):∀(l:List α) (x:List Nat),(l.foldl (λx z=>x.set (a z) (b z)) x).length=x.length
 | [],_=>rfl
 | z::l,x=>by rw[wU,Oq a b l,qK]
theorem cL5{m:Bool × Nat}(hm:m∈aA):∃e,e<aa m/\gp m 1 e=0/\e≠0/\∀{a b},a<aa m->b<aa m->(gp m a (gm m b e)=0↔a=b):=by
 have r:=rg hm
 obtain⟨e,he,h⟩:=r.ng (lo1 hm)
 refine⟨e,he,h,λz=>?_,λ{a b} ha hb=>?_⟩
 ·rw[z,r.z' (lo1 hm)]at h;omega
 ·have k:gp m b (gm m b e)=0:=by
   have:=r.dl b 1 e
   rw[h,r.qz,nh hb]at this
   exact this.symm
  exact⟨λh1=>r.NZ ha hb (bI hm b e) (h1.trans k.symm),λh1=>h1 ▸ k⟩
def dR(T:List (List Nat)):List (List Nat):=(aH (ag T)).map λj=>T.map λr=>r.getD j 0
theorem Ot{T:List (List Nat)}{a:Nat}(h:a<ag T):(dR T).getD a []=T.map λr=>r.getD a 0:=by
 unfold dR
 rw[aL,bM,h9 h];rfl
theorem G7{N:Nat}{T:List (List Nat)}(h0:0<N)(hw:0<ag T)(hT:RT N (ag T) T):(dR T).length=ag T/\ag (dR T)=T.length/\RT N T.length (dR T):=by
 have a:(dR T).length=ag T:=by unfold dR;rw[aW,bN]
 have c:RT N T.length (dR T):=λr hr=>by
  obtain⟨j,_,rfl⟩:=bw.mp hr
  refine⟨aW _,λx hx=>?_⟩
  obtain⟨y,hy,rfl⟩:=bw.mp hx
  exact(hT y hy).2.getD h0 j
 refine⟨a,?_,c⟩
 have:=Ot hw
 have e:ag (dR T)=((dR T).getD 0 []).length:=by
  unfold ag
  cases dR T<;>rfl
 rw[e,this,aW]
end L3
namespace L3
open PySem L2 Mf
def cH(T:List (List Nat))(w:Nat):List Nat:=(aH w).filter λj=>!(T.map a8).contains j
def dN(m:Bool × Nat)(T:List (List Nat))(w f:Nat):List Nat:=(((T.map a8).zip T).foldl (λx z=>x.set z.1 (bB m 0 (z.2.getD f 0))) ((aX w 0).set f 1))
def jo(m:Bool × Nat)(T:List (List Nat))(w:Nat):List (List Nat):=(cH T w).map (dN m T w)
theorem RR.heads{m:Bool × Nat}(hm:m∈aA){w:Nat}{R:List (List Nat)}{H:Nat->Nat}(hR:RT (aa m) w R)(I:RR w R H):R.map a8=(aH R.length).map H:=by
 refine BC (by rw[aW,aW,bN]) λi h1 h2=>?_
 rw[aW]at h1
 rw[qU,qU,yO,<- (I.wb hm hR h1).1,aL,aM h1];rfl
theorem RR.mem{m:Bool × Nat}(hm:m∈aA){w:Nat}{R:List (List Nat)}{H:Nat->Nat}(hR:RT (aa m) w R)(I:RR w R H)(j:Nat):j∈R.map a8↔∃i,i<R.length/\H i=j:=by
 rw[I.heads hm hR,bw]
 exact⟨λ⟨i,a,b⟩=>⟨i,bT.mp a,b⟩,λ⟨i,a,b⟩=>⟨i,bT.mpr a,b⟩⟩
theorem RR.free{m:Bool × Nat}(hm:m∈aA){w:Nat}{R:List (List Nat)}{H:Nat->Nat}(hR:RT (aa m) w R)(I:RR w R H)(j:Nat):j∈cH R w↔j<w/\∀i,i<R.length->H i≠j:=by
 unfold cH
 rw[mj,bT,Bool.not_eq_true',<- Bool.not_eq_true,BE,I.mem hm hR]
 exact and_congr_right λ_=>⟨λh i a b=>h ⟨i,a,b⟩,λh ⟨i,a,b⟩=>h i a b⟩
theorem RR.C9{m:Bool × Nat}(hm:m∈aA){w:Nat}{R:List (List Nat)}{H:Nat->Nat}(hR:RT (aa m) w R)(I:RR w R H):(cH R w).length+R.length=w:=by
 have nd:(R.map a8).Nodup:=by
  rw[I.heads hm hR]
  unfold List.Nodup
  rw[Es]
  intro i j hi hj Ao
  rw[aW,bN]at hi hj
  rw[qU,qU,yO,yO]
  have:=I.i i j Ao hj
  omega
 have pe:((aH w).filter λj=>(R.map a8).contains j).Perm (R.map a8):=by
  refine(List.perm_ext_iff_of_nodup (Ka _ yP) nd).mpr λj=>?_
  rw[mj,BE,bT]
  refine⟨λh=>h.2,λh=>⟨?_,h⟩⟩
  obtain⟨i,hi,rfl⟩:=(I.mem hm hR j).mp h
  exact I.l i hi
 have l1:=pe.length_eq
 rw[aW]at l1
 have l2:=List.length_eq_countP_add_countP (λj=>(R.map a8).contains j) (l:=aH w)
 rw[bN,WQ,WQ,l1]at l2
 unfold cH
 have e:((aH w).filter λa=>decide ¬(R.map a8).contains a=true)=(aH w).filter λj=>!(R.map a8).contains j:=J4 λx _=>by
  cases(R.map a8).contains x<;>rfl
 rw[e]at l2
 omega
theorem tI{m:Bool × Nat}(hm:m∈aA){w f:Nat}{R:List (List Nat)}{H:Nat->Nat}(hR:RT (aa m) w R)(I:RR w R H)(hf:f∈cH R w):(dN m R w f).length=w/\AllLt (aa m) (dN m R w f)/\cf (dN m R w f) f=1/\(∀i,i<R.length->cf (dN m R w f) (H i)=bB m 0 (cf (R.getD i []) f))/\∀j,j≠f->(∀i,i<R.length->H i≠j)->cf (dN m R w f) j=0:=by
 obtain⟨f1,f2⟩:=(I.free hm hR f).mp hf
 have l1:=lo1 hm
 have zl:((R.map a8).zip R).length=R.length:=by rw[yM,aW,Bw]
 have zg:∀i (h:i<R.length),((R.map a8).zip R)[i]'(by omega)=(H i,R.getD i []):=λi h=>by
  rw[List.getElem_zip,qU]
  have e:R.getD i []=R[i]:=by rw[aL,aM h];rfl
  have:=(I.wb hm hR h).1
  rw[e]at this ⊢
  exact Prod.ext this rfl
 have zm:∀z∈(R.map a8).zip R,∃i,i<R.length/\z=(H i,R.getD i []):=λz hz=>by
  obtain⟨i,hi,rfl⟩:=fh hz
  exact⟨i,by omega,zg i (by omega)⟩
 have mz:∀i,i<R.length->(H i,R.getD i [])∈(R.map a8).zip R:=λi h=>by
  rw[<-zg i h];exact cN _
 have bd:∀z∈(R.map a8).zip R,bB m 0 (z.2.getD f 0)<aa m:=λz hz=>by
  obtain⟨i,hi,rfl⟩:=zm z hz
  exact(jl hm (by omega) (cS hm (hR _ (bQ hi [])).2 f)).2.1
 refine⟨?_,?_,?_,λi hi=>?_,λj hj hj2=>?_⟩
 ·unfold dN
  rw[Oq (λz:Nat × List Nat=>z.1) (λz=>bB m 0 (z.2.getD f 0)),qK,eQ]
 ·have key:∀(l:List (Nat × List Nat)) (x:List Nat),(∀z∈l,bB m 0 (z.2.getD f 0)<aa m)->AllLt (aa m) x->AllLt (aa m) (l.foldl (λx z=>x.set z.1 (bB m 0 (z.2.getD f 0))) x):=by
   intro l
   induction l with
   | nil=>exact λx _ h=>h
   | cons z l ih =>
    intro x hz h
    rw[wU]
    refine ih _ (λy hy=>hz y (e5 _ hy)) λy hy=>?_
    rcases Em hy with h1 | h1
    ·exact h y h1
    ·rw[h1];exact hz z gD
  refine key _ _ bd λx hx=>?_
  rcases Em hx with h1 | h1
  ·rw[(k6.mp h1).2];omega
  ·omega
 ·unfold dN
  rw[C8 (λz:Nat × List Nat=>z.1) (λz=>bB m 0 (z.2.getD f 0)) _ _ λz hz=>?_]
  ·unfold cf
   rw[aL,um (by rw[eQ];exact f1)];rfl
  ·obtain⟨i,hi,rfl⟩:=zm z hz
   exact f2 i hi
 ·have hp:((R.map a8).zip R).Pairwise (λy z:Nat × List Nat=>y.1≠z.1):=by
   rw[Es]
   intro i j hi hj Ao
   rw[zg i (by omega),zg j (by omega)]
   have:=I.i i j Ao (by omega)
   show H i≠H j
   omega
  exact Oo (λz:Nat × List Nat=>z.1) (λz=>bB m 0 (z.2.getD f 0)) _ _ hp _ (mz i hi) (by rw[qK,eQ];exact I.l i hi)
 ·unfold dN
  rw[C8 (λz:Nat × List Nat=>z.1) (λz=>bB m 0 (z.2.getD f 0)) _ _ λz hz=>?_]
  ·unfold cf
   rw[aL,qF (iy hj),nC]
   split<;>rfl
  ·obtain⟨i,hi,rfl⟩:=zm z hz
   exact hj2 i hi
theorem G8{N:Nat}{p q:Nat->Nat->Nat}(r:Rg N p q){f:Nat->Nat}{a b n:Nat}(ha:a<n)(hb:b<n)(hn:a≠b)(fa:f a<N)(fb:f b<N)(hz:∀j,j<n->j≠a->j≠b->f j=0):sm p n f=p (f a) (f b):=by
 have h1:=l7 r (f:=λj=>if j=a then f a else 0) (j0:=a) (n:=n) (by rw[if_pos rfl];exact fa) ha λj _ h=>if_neg h
 have h2:=l7 r (f:=λj=>if j=b then f b else 0) (j0:=b) (n:=n) (by rw[if_pos rfl];exact fb) hb λj _ h=>if_neg h
 rw[if_pos rfl]at h1 h2
 rw[<-h1,<- h2,<- nj r]
 refine b9 λj hj=>?_
 by_cases ja:j=a
 ·rw[if_pos ja,if_neg (by omega),r.z' fa,ja]
 ·by_cases jb:j=b
  ·rw[if_neg ja,if_pos jb,r.z fb,jb]
  ·rw[if_neg ja,if_neg jb,hz j hj ja jb,r.z r.pos]
def dt(m:Bool × Nat)(w:Nat)(x y:Nat->Nat):Nat:=sm (gp m) w λj=>gm m (x j) (y j)
theorem cL9{m:Bool × Nat}(hm:m∈aA)(w:Nat)(x y:Nat->Nat):dt m w x y<aa m:=jI (rg hm) λ_ _=>bI hm _ _
theorem G9{m:Bool × Nat}(hm:m∈aA)(w:Nat)(x y z:Nat->Nat):dt m w x (λk=>gp m (y k) (z k))=gp m (dt m w x y) (dt m w x z):=by
 have r:=rg hm
 unfold dt
 rw[<-nj r]
 exact b9 λj _=>r.dl _ _ _
theorem Ou{m:Bool × Nat}(hm:m∈aA)(w c:Nat)(x y:Nat->Nat):dt m w x (λk=>gm m c (y k))=gm m c (dt m w x y):=by
 have r:=rg hm
 have m0:=bO m hm
 unfold dt
 rw[<-n9 r]
 exact b9 λj _=>by rw[<-iq m0,gz m (x j),iq m0]
theorem Ha{m:Bool × Nat}(hm:m∈aA)(w:Nat)(x:Nat->Nat)(c:Nat->Nat)(F:Nat->Nat->Nat):∀n,dt m w x (λk=>sm (gp m) n λi=>gm m (c i) (F i k))=sm (gp m) n λi=>gm m (c i) (dt m w x (F i))
 | 0=>eP (rg hm) λj _=>(rg hm).qz _
 | n+1=>by
  rw[sm,<- Ha hm w x c F n,<- Ou hm,<- G9 hm];rfl
theorem Dc{m:Bool × Nat}(hm:m∈aA){w f:Nat}{R:List (List Nat)}{H:Nat->Nat}(hR:RT (aa m) w R)(I:RR w R H)(hf:f∈cH R w){i:Nat}(hi:i<R.length):dt m w (cf (R.getD i [])) (cf (dN m R w f))=0:=by
 have r:=rg hm
 obtain⟨f1,f2⟩:=(I.free hm hR f).mp hf
 obtain⟨k1,k2,k3,k4,k5⟩:=tI hm hR I hf
 have il:=cS hm (hR _ (bQ hi [])).2
 have g:=jl hm (a:=0) r.pos (il f)
 unfold dt
 rw[G8 r (f:=λj=>gm m (cf (R.getD i []) j) (cf (dN m R w f) j)) (a:=H i) (b:=f) (I.l i hi) f1 (f2 i hi) (bI hm _ _) (bI hm _ _) λj hj ja jb=>?_]
 ·rw[k3,k4 i hi,I.u i i hi hi,if_pos rfl,n6 g.2.1,nh (il f)]
  exact g.2.2
 ·by_cases c:∃i',i'<R.length/\H i'=j
  ·obtain⟨i',h1,rfl⟩:=c
   rw[I.u i i' hi h1,if_neg (λz:i=i'=>ja (by rw[z])),eO m _ (bO m hm)]
  ·rw[k5 j jb λi' h1 h2=>c ⟨i',h1,h2⟩,r.qz]
theorem bP.dt{m:Bool × Nat}(hm:m∈aA){R:List (List Nat)}{n:Nat}{y:Nat->Nat}(h:∀i,i<R.length->dt m n (cf (R.getD i [])) y=0){f:Nat->Nat}(s:bP m R f):dt m n f y=0:=by
 refine s.ann hm λx hx=>?_
 obtain⟨i,hi,rfl⟩:=fh hx
 have:=h i hi
 rw[aL,aM hi]at this
 exact this
theorem RR.Ov{m:Bool × Nat}(hm:m∈aA){w:Nat}{R:List (List Nat)}{H:Nat->Nat}(hR:RT (aa m) w R)(I:RR w R H){z:Nat->Nat}(hz:∀k,z k<aa m)(h:∀i,i<R.length->dt m w (cf (R.getD i [])) z=0){k:Nat}(hk:k<w):z k=sm (gp m) (cH R w).length λa=>gm m (z ((cH R w).getD a 0)) (cf (dN m R w ((cH R w).getD a 0)) k):=by
 have r:=rg hm
 have m0:=bO m hm
 obtain⟨e,e1,e2,e3,e4⟩:=cL5 hm
 let z':=λk=>sm (gp m) (cH R w).length λa=>gm m (z ((cH R w).getD a 0)) (cf (dN m R w ((cH R w).getD a 0)) k)
 have Aq:∀k,z' k<aa m:=λk=>jI r λ_ _=>bI hm _ _
 let d:=λk=>gp m (z k) (gm m e (z' k))
 have dk:∀k,d k=0↔z k=z' k:=λk=>by
  show gp m (z k) (gm m e (z' k))=0↔_
  rw[gz m e]
  exact e4 (hz k) (Aq k)
 have dz:∀i,i<R.length->dt m w (cf (R.getD i [])) d=0:=λi hi=>by
  show dt m w (cf (R.getD i [])) (λk=>gp m (z k) (gm m e (z' k)))=0
  rw[G9 hm,Ou hm,h i hi,Ha hm,eP r λa ha=>?_,r.qz,r.z r.pos]
  rw[Dc hm hR I (bQ ha 0) hi,r.qz]
 have zf:∀f,f∈cH R w->z' f=z f:=λf hf=>by
  obtain⟨a,ha,rfl⟩:=fh hf
  have ea:(cH R w)[a]=(cH R w).getD a 0:=by rw[aL,aM ha];rfl
  show sm (gp m) (cH R w).length (λb=>gm m (z ((cH R w).getD b 0)) (cf (dN m R w ((cH R w).getD b 0)) _))=_
  rw[ea,l7 r (f:=λb=>gm m (z ((cH R w).getD b 0)) (cf (dN m R w ((cH R w).getD b 0)) ((cH R w).getD a 0))) (bI hm _ _) ha λb hb hn=>?_]
  ·rw[(tI hm hR I (bQ ha 0)).2.2.1,nh (hz _)]
  ·have nd:(cH R w).Nodup:=Ka _ yP
   rw[(tI hm hR I (bQ hb 0)).2.2.2.2 _ ?_ ((I.free hm hR _).mp (bQ ha 0)).2,r.qz]
   intro c
   rw[aL,aM ha,aL,aM hb]at c
   exact hn ((JJ nd).mp (cT (congrArg some c))).symm
 have key:d k=0:=by
  by_cases c:∃i,i<R.length/\H i=k
  ·obtain⟨i,hi,rfl⟩:=c
   have:=dz i hi
   unfold dt at this
   rw[l7 r (f:=λj=>gm m (cf (R.getD i []) j) (d j)) (j0:=H i) (bI hm _ _) hk λj hj hn=>?_,I.u i i hi hi,if_pos rfl,n6 (r.lp (hz _) (bI hm _ _))]at this
   ·exact this
   ·by_cases c:∃i',i'<R.length/\H i'=j
    ·obtain⟨i',h1,rfl⟩:=c
     rw[I.u i i' hi h1,if_neg (λz:i=i'=>hn (by rw[z])),eO m _ m0]
    ·have hf:=(I.free hm hR j).mpr ⟨hj,λi' h1 h2=>c ⟨i',h1,h2⟩⟩
     have:d j=0:=(dk j).mpr (zf j hf).symm
     rw[this,r.qz]
  ·have hf:=(I.free hm hR k).mpr ⟨hk,λi' h1 h2=>c ⟨i',h1,h2⟩⟩
   exact(dk k).mpr (zf k hf).symm
 exact(dk k).mp key
theorem tJ{N n:Nat}{M:List (List Nat)}(h:RT N n M)(h0:M≠[]):ag M=n:=by
 cases M with
 | nil=>exact absurd rfl h0
 | cons g M=>exact(h g gD).1
theorem Ow{m:Bool × Nat}(hm:m∈aA){n:Nat}{M:List (List Nat)}(h:RT (aa m) n M)(hl:M.length<n):∃(x:Nat->Nat) (f:Nat),f<n/\(∀k,x k<aa m)/\x f=1/\∀i,i<M.length->dt m n (cf (M.getD i [])) x=0:=by
 by_cases h0:M=[]
 ·subst h0
  exact⟨λ_=>1,0,hl,λ_=>lo1 hm,rfl,λi hi=>nomatch hi⟩
 ·have hw:=tJ h h0
  obtain⟨⟨H,I⟩,iR,il,sp⟩:=gL hm (G:=M) (by rw[hw];exact h)
  rw[hw]at I iR
  have fl:=I.C9 hm iR
  have f0:0<(cH (bf m M) n).length:=by omega
  have hf:=bQ f0 0
  obtain⟨k1,k2,k3,k4,k5⟩:=tI hm iR I hf
  refine⟨cf (dN m (bf m M) n ((cH (bf m M) n).getD 0 0)),_,((I.free hm iR _).mp hf).1,cS hm k2,k3,λi hi=>?_⟩
  exact bP.dt hm (λi' fA=>Dc hm iR I hf fA) ((sp _).mp (bP.of (bQ hi [])))
theorem RR.iS{m:Bool × Nat}(hm:m∈aA){w v:Nat}{S R:List (List Nat)}{H:Nat->Nat}(hS:RT (aa m) w S)(I:RR w S H)(hR:RT (aa m) v R)(h:∀i,i<S.length->bP m R (cf (S.getD i []))):S.length<=R.length:=by
 have r:=rg hm
 refine D9 λhl=>?_
 have hc:∀i,∃c:Nat->Nat,i<S.length->(∀j,c j<aa m)/\∀k,cf (S.getD i []) k=sm (gp m) R.length λj=>gm m (c j) (cf (R.getD j []) k):=λi=>by
  by_cases hi:i<S.length
  ·obtain⟨c,a,b⟩:=(h i hi).sum hm hR
   exact⟨c,λ_=>⟨a,b⟩⟩
  ·exact⟨λ_=>0,λz=>absurd z hi⟩
 obtain⟨C,hC⟩:=Classical.axiomOfChoice hc
 have cl:∀i,i<S.length->∀j,C i j<aa m:=λi hi=>(hC i hi).1
 obtain⟨x,f,f1,x1,x2,x3⟩:=Ow hm (n:=S.length) (M:=(aH R.length).map λj=>(aH S.length).map λi=>C i j) (λy hy=>by
  obtain⟨j,_,rfl⟩:=bw.mp hy
  refine⟨by rw[aW,bN],λz hz=>?_⟩
  obtain⟨i,hi,rfl⟩:=bw.mp hz
  exact cl i (bT.mp hi) j) (by rw[aW,bN];exact hl)
 rw[aW,bN]at x3
 have x4:∀j,j<R.length->sm (gp m) S.length (λi=>gm m (C i j) (x i))=0:=λj hj=>by
  rw[<-x3 j hj]
  refine b9 λi hi=>?_
  rw[tH (λj=>(aH S.length).map λi=>C i j) (by rw[bN];exact hj) 0 [],C7 _ hi,aL,h9 hj];rfl
 have x5:∀k,sm (gp m) S.length (λi=>gm m (x i) (cf (S.getD i []) k))=0:=λk=>by
  rw[b9 (g:=λi=>sm (gp m) R.length λj=>gm m (gm m (C i j) (x i)) (cf (R.getD j []) k)) λi hi=>?_,N0 r,eP r λj hj=>?_]
  ·rw[b9 (g:=λi=>gm m (cf (R.getD j []) k) (gm m (C i j) (x i))) λi hi=>gz m _ _,n9 r,x4 j hj,r.qz]
  ·rw[(hC i hi).2 k,<- n9 r]
   exact b9 λj _=>by rw[<-iq (bO m hm),gz m (x i)]
 have:=x5 (H f)
 rw[l7 r (f:=λi=>gm m (x i) (cf (S.getD i []) (H f))) (bI hm _ _) f1 λj hj hn=>by rw[I.u j f hj f1,if_neg hn,r.qz],I.u f f f1 f1,if_pos rfl,x2,n6 (lo1 hm)]at this
 omega
theorem Sp.sm{N:Nat}{p q:Nat->Nat->Nat}{S:(Nat->Nat)->Prop}{c:Nat->Nat}{F:Nat->Nat->Nat}:∀{n:Nat},(∀i,i<n->c i<N)->(∀i,i<n->Sp N p q S (F i))->Sp N p q S λk=>L3.sm p n λi=>q (c i) (F i k)
 | 0,_,_=>.zero
 | n+1,hc,h=>.add (Sp.sm (λi hi=>hc i (by omega)) λi hi=>h i (by omega)) (.mul _ (hc n (by omega)) (h n (by omega)))
theorem cr5{m:Bool × Nat}(hm:m∈aA){v:Nat}{G R:List (List Nat)}(hG:RT (aa m) (ag G) G)(hR:RT (aa m) v R)(h:∀i,i<G.length->bP m R (cf (G.getD i []))):(bf m G).length<=R.length:=by
 obtain⟨⟨H,I⟩,iR,il,sp⟩:=gL hm hG
 refine I.iS hm iR hR λi hi=>?_
 refine Sp.trans (λf hf=>?_) ((sp _).mpr (bP.of (bQ hi [])))
 obtain⟨x,hx,rfl⟩:=hf
 obtain⟨i,hi,rfl⟩:=fh hx
 have:=h i hi
 rw[aL,aM hi]at this
 exact this
theorem kj{T:List (List Nat)}{i:Nat}(h:i<T.length):T.getD i []=T[i]:=by rw[aL,aM h];rfl
def iT(m:Bool × Nat)(A B:List (List Nat))(w:Nat):List (List Nat):=A.map λr=>gM m r B w
theorem cu8{m:Bool × Nat}(hm:m∈aA){A B:List (List Nat)}{n w:Nat}(hA:RT (aa m) n A)(hB:RT (aa m) w B)(hn:B.length=n):(iT m A B w).length=A.length/\RT (aa m) w (iT m A B w)/\∀a,a<A.length->∀k,cf ((iT m A B w).getD a []) k=sm (gp m) n λj=>gm m (cf (A.getD a []) j) (cf (B.getD j []) k):=by
 refine⟨by unfold iT;rw[aW],λx hx=>?_,λa ha k=>?_⟩
 ·obtain⟨y,hy,rfl⟩:=bw.mp hx
  exact⟨we m _ _ _,G6 hm w (by rw[(hA y hy).1,hn])⟩
 ·unfold iT
  rw[tH (λr=>gM m r B w) ha [] []]
  have la:=(hA _ (bQ ha [])).1
  by_cases hk:k<w
  ·rw[Ap m (by rw[la,hn]) hk,hn]
  ·rw[lZ (by rw[we];omega),eP (rg hm) λj hj=>?_]
   rw[lZ (l:=B.getD j []) (by rw[(hB _ (bQ (show j<B.length by omega) [])).1];omega),(rg hm).qz]
theorem bP.red{m:Bool × Nat}(hm:m∈aA){G:List (List Nat)}(hG:RT (aa m) (ag G) G){f:Nat->Nat}(h:bP m G f):bP m (bf m G) f:=((gL hm hG).2.2.2 f).mp h
end L3
namespace L3
open PySem L2 PySem.Spec PyProof.Rows
section
variable{X:Cx}{F H:Hp}{e b:Expr}{pos pos' p p2 p3 apos bR:Pos}{ti te:aJ}{x y:Str}{i j:Nat}
end
section
variable{X:Cx}
end
section
variable{X:Cx}{es:List Expr}{tr:cP}{pos:Pos}
theorem Ar(h:PA X es (lA tr)):PE X (.List es pos) (lB (pj tr)) :=
 dr (K6 h) λσ H Q zq=>by
 obtain⟨B,F,δ,ts,Qd,c,q,k⟩:=zq
 exact⟨B,F,δ,ts,_,c,q,λds ao vs F1 H1 q1 f1 h1 c1 s1=>⟨by rw[<-s1.length];exact q1.1,λp hp=>k _ ao _ F1 _ q1.2 f1 (h1.trans (ah.upd hp)) (c1.grow (ah.upd hp)) (.own de (s1.mono (ah.refl _) (ah.upd hp)) .nil)⟩⟩
end
end L3
namespace L3
open PySem L2 Mf
theorem RR.lead{m:Bool × Nat}(hm:m∈aA){w:Nat}{R:List (List Nat)}{H:Nat->Nat}(hR:RT (aa m) w R)(I:RR w R H){f:Nat->Nat}(s:bP m R f){t:Nat}(h1:f t≠0)(h2:∀j,j<t->f j=0):∃i,i<R.length/\H i=t:=by
 refine qO λc=>h1 ?_
 rw[I.own hm hR s t]
 refine eP (rg hm) λi hi=>?_
 rcases J8 (H i) t with h | h | h
 ·rw[h2 _ h,eO m _ (bO m hm)]
 ·exact absurd ⟨i,hi,h⟩ c
 ·rw[I.z i hi t h,(rg hm).qz]
end L3
namespace L3
open PySem L2 Mf
def fg(n i:Nat):List Nat:=(aH n).map λj=>if j=i then 1 else 0
theorem As(n i:Nat):(fg n i).length=n:=by unfold fg;rw[aW,bN]
theorem Au{n i j:Nat}(h:i<n):cf (fg n i) j=if j=i then 1 else 0:=by
 by_cases hj:j<n
 ·exact C7 _ hj
 ·rw[lZ (by rw[As];omega),if_neg (by omega)]
theorem Ox{N:Nat}(h:1<N)(n i:Nat):AllLt N (fg n i):=λx hx=>by
 obtain⟨j,_,rfl⟩:=bw.mp hx
 split<;>omega
def cY(G:List (List Nat)):List (List Nat):=G.mapIdx λi r=>r++fg G.length i
theorem wg(G:List (List Nat)):(cY G).length=G.length:=by unfold cY;rw[List.length_mapIdx]
theorem Oy{G:List (List Nat)}{i:Nat}(h:i<G.length):(cY G).getD i []=G.getD i []++fg G.length i:=by
 unfold cY
 rw[aL,uz,aL,aM h];rfl
theorem cy3(a b:List Nat)(k:Nat):cf (a++b) k=if k<a.length then cf a k else cf b (k-a.length):=by
 unfold cf
 rw[aL,List.getElem?_append]
 split<;>rw[aL]
theorem De{N:Nat}{G:List (List Nat)}(h1:1<N)(h0:0<G.length)(hG:RT N (ag G) G):ag (cY G)=ag G+G.length/\RT N (ag G+G.length) (cY G):=by
 have rt:RT N (ag G+G.length) (cY G):=λr hr=>by
  obtain⟨i,hi,rfl⟩:=fh hr
  rw[<-kj hi,Oy (by rw[wg]at hi;exact hi)]
  rw[wg]at hi
  obtain⟨a,b⟩:=hG _ (bQ hi [])
  refine⟨by rw[du,a,As],λx hx=>?_⟩
  rcases cM.mp hx with hx | hx
  ·exact b x hx
  ·exact Ox h1 _ _ x hx
 exact⟨tJ rt λz=>by have:=wg G;rw[z]at this;simp at this;omega,rt⟩
theorem Oz{m:Bool × Nat}(hm:m∈aA){G:List (List Nat)}(h0:0<G.length)(hG:RT (aa m) (ag G) G){f:Nat->Nat}:bP m (cY G) f↔(∀k,f k<aa m)/\(∀k,ag G+G.length<=k->f k=0)/\∀k,k<ag G->f k=sm (gp m) G.length λi=>gm m (f (ag G+i)) (cf (G.getD i []) k):=by
 have r:=rg hm
 have m0:=bO m hm
 obtain⟨b1,b2⟩:=De (lo1 hm) h0 hG
 have bc:∀i,i<G.length->∀k,cf ((cY G).getD i []) k=if k<ag G then cf (G.getD i []) k else if k-ag G=i then 1 else 0:=λi hi k=>by
  rw[Oy hi,cy3,(hG _ (bQ hi [])).1,Au hi]
 have comb:∀c:Nat->Nat,(∀i,c i<aa m)->∀k,sm (gp m) G.length (λi=>gm m (c i) (cf ((cY G).getD i []) k))=if k<ag G then sm (gp m) G.length (λi=>gm m (c i) (cf (G.getD i []) k))else if k-ag G<G.length then c (k-ag G)else 0:=λc hc k=>by
  by_cases hk:k<ag G
  ·rw[if_pos hk]
   exact b9 λi hi=>by rw[bc i hi,if_pos hk]
  ·rw[if_neg hk]
   by_cases ql:k-ag G<G.length
   ·rw[if_pos ql,l7 r (f:=λi=>gm m (c i) (cf ((cY G).getD i []) k)) (bI hm _ _) ql λj hj hn=>by rw[bc j hj,if_neg hk,if_neg (λz=>hn z.symm),r.qz],bc _ ql,if_neg hk,if_pos rfl,nh (hc _)]
   ·rw[if_neg ql]
    exact eP r λi hi=>by rw[bc i hi,if_neg hk,if_neg (by omega),r.qz]
 constructor
 ·intro s
  obtain⟨c,hc,h⟩:=s.sum hm b2
  rw[wg]at h
  have hf:∀k,f k=_:=λk=>(h k).trans (comb c hc k)
  refine⟨λk=>by rw[h k];exact jI r λ_ _=>bI hm _ _,λk hk=>by rw[hf k,if_neg (by omega),if_neg (by omega)],λk hk=>?_⟩
  rw[hf k,if_pos hk]
  exact b9 λi hi=>by rw[hf (ag G+i),if_neg (by omega),if_pos (by omega),Kb]
 ·rintro⟨h1,h2,h3⟩
  have:f=λk=>sm (gp m) G.length λi=>gm m (f (ag G+i)) (cf ((cY G).getD i []) k):=funext λk=>by
   rw[comb (λi=>f (ag G+i)) λi=>h1 _]
   by_cases hk:k<ag G
   ·rw[if_pos hk];exact h3 k hk
   ·rw[if_neg hk]
    by_cases ql:k-ag G<G.length
    ·rw[if_pos ql,show ag G+(k-ag G)=k by omega]
    ·rw[if_neg ql];exact h2 k (by omega)
  rw[this]
  exact Sp.sm (λi _=>h1 _) λi hi=>bP.of (bQ (by rw[wg];exact hi) [])
def jq(m:Bool × Nat)(G:List (List Nat)):Option (List (List Nat)):=if((bf m (cY G)).take (ag G)).map a8=aH (ag G)then some (((bf m (cY G)).take (ag G)).map λr=>r.drop (ag G))else none
theorem b26{m:Bool × Nat}(hm:m∈aA){G:List (List Nat)}(hG:RT (aa m) (ag G) G)(h:cH (bf m G) (ag G)=[]){k:Nat}(hk:k<ag G):bP m G λj=>if j=k then 1 else 0:=by
 have r:=rg hm
 obtain⟨⟨H,I⟩,iR,il,sp⟩:=gL hm hG
 refine(sp _).mpr ?_
 have hs:∀j,j<ag G->∃i,i<(bf m G).length/\H i=j:=λj hj=>qO λc=>by
  have:=(I.free hm iR j).mpr ⟨hj,λi a b=>c ⟨i,a,b⟩⟩
  rw[h]at this;simp at this
 obtain⟨i,hi,rfl⟩:=hs k hk
 have:(λj=>if j=H i then 1 else 0)=cf ((bf m G).getD i []):=funext λj=>by
  by_cases hj:j<ag G
  ·obtain⟨i',fA,rfl⟩:=hs j hj
   rw[I.u i i' hi fA]
   by_cases e:i=i'
   ·rw[if_pos e,if_pos (by rw[e])]
   ·rw[if_neg e,if_neg]
    intro z
    rcases Nat.lt_or_gt_of_ne e with c | c
    ·have:=I.i i i' c fA;omega
    ·have:=I.i i' i c hi;omega
  ·rw[lZ (by rw[(iR _ (bQ hi [])).1];omega),if_neg (by omega)]
 rw[this]
 exact bP.of (bQ hi [])
theorem Hb{m:Bool × Nat}(hm:m∈aA){G V:List (List Nat)}(h0:0<G.length)(hG:RT (aa m) (ag G) G)(h:jq m G=some V):V.length=ag G/\RT (aa m) G.length V/\(∀k,k<ag G->gM m (V.getD k []) G (ag G)=fg (ag G) k)/\cH (bf m G) (ag G)=[]:=by
 have r:=rg hm
 obtain⟨b1,b2⟩:=De (lo1 hm) h0 hG
 obtain⟨⟨H,I⟩,iR,il,sp⟩:=gL hm (G:=cY G) (by rw[b1];exact b2)
 rw[b1]at I iR
 unfold jq at h
 by_cases c:((bf m (cY G)).take (ag G)).map a8=aH (ag G)
 ·rw[if_pos c]at h
  have hl:=congrArg yx c
  rw[aW,fZ,bN]at hl
  have hH:∀i,i<ag G->H i=i:=λi hi=>by
   have:=congrArg (λl=>l[i]?) c
   rw[bM,BA,if_pos hi,h9 hi,aM (show i<(bf m (cY G)).length by omega)]at this
   rw[<-(I.wb hm iR (show i<(bf m (cY G)).length by omega)).1,kj (by omega)]
   exact cT this
  have eV:V=((bf m (cY G)).take (ag G)).map λr=>r.drop (ag G):=(cT h).symm
  have lV:V.length=ag G:=by rw[eV,aW,fZ];omega
  have gV:∀k,k<ag G->V.getD k []=((bf m (cY G)).getD k []).drop (ag G):=λk hk=>by
   rw[eV,aL,bM,BA,if_pos hk,aM (show k<(bf m (cY G)).length by omega),kj (show k<(bf m (cY G)).length by omega)];rfl
  have rV:RT (aa m) G.length V:=λx hx=>by
   obtain⟨k,hk,rfl⟩:=fh hx
   rw[<-kj hk,gV k (by omega)]
   obtain⟨a,b⟩:=iR _ (bQ (show k<(bf m (cY G)).length by omega) [])
   exact⟨by rw[iD,a];omega,λx hx=>b x (nG hx)⟩
  have un:∀k,k<ag G->gM m (V.getD k []) G (ag G)=fg (ag G) k:=λk hk=>by
   have Al:k<(bf m (cY G)).length:=by omega
   obtain⟨s1,s2,s3⟩:=(Oz hm h0 hG).mp ((sp _).mpr (bP.of (bQ Al [])))
   refine cB2 (rV _ (bQ (by omega) [])).1 (As _ _) λj hj=>?_
   have e1:cf (fg (ag G) k) j=cf ((bf m (cY G)).getD k []) j:=by
    have:=I.u k j Al (by omega)
    rw[hH j hj]at this
    rw[this,Au hk]
    by_cases z:j=k
    ·rw[if_pos z,if_pos z.symm]
    ·rw[if_neg z,if_neg (iy z)]
   rw[e1,s3 j hj]
   refine b9 λi hi=>?_
   rw[gV k hk]
   congr 1
   unfold cf
   rw[aL (l:=List.drop _ _),Ej,<- aL]
  refine⟨lV,rV,un,?_⟩
  obtain⟨⟨H2,I2⟩,OA,il2,sp2⟩:=gL hm hG
  have fl:=I2.C9 hm OA
  have key:ag G<=(bf m G).length:=by
   have:=RR.iS hm (w:=ag G) (S:=(aH (ag G)).map (fg (ag G))) (H:=λi=>i) (R:=bf m G) (λx hx=>by
    obtain⟨i,_,rfl⟩:=bw.mp hx
    exact⟨As _ _,Ox (lo1 hm) _ _⟩) (by
    have le:((aH (ag G)).map (fg (ag G))).length=ag G:=by rw[aW,bN]
    have gt:∀i,i<ag G->((aH (ag G)).map (fg (ag G))).getD i []=fg (ag G) i:=λi hi=>by
     rw[aL,bM,h9 hi];rfl
    refine⟨λi j hi hj=>?_,λi hi t ht=>?_,λi j h _=>h,λi hi=>by rw[le]at hi;exact hi⟩
    ·rw[le]at hi hj
     rw[gt i hi,Au hi]
     by_cases z:i=j
     ·rw[if_pos z.symm,if_pos z]
     ·rw[if_neg (iy z),if_neg z]
    ·rw[le]at hi
     rw[gt i hi,Au hi,if_neg (by omega)]) OA (λi hi=>by
    rw[aW,bN]at hi
    rw[show((aH (ag G)).map (fg (ag G))).getD i []=fg (ag G) i by rw[aL,bM,h9 hi];rfl,<- un i hi]
    refine(sp2 _).mp ?_
    have hv:=(rV _ (bQ (show i<V.length by omega) [])).1
    have:cf (gM m (V.getD i []) G (ag G))=λk=>sm (gp m) G.length λa=>gm m (cf (V.getD i []) a) (cf (G.getD a []) k):=funext λk=>by
     by_cases hk:k<ag G
     ·exact Ap m hv hk
     ·rw[lZ (by rw[we];omega),eP r λa ha=>?_]
      rw[lZ (l:=G.getD a []) (by rw[(hG _ (bQ ha [])).1];omega),r.qz]
    rw[this]
    exact Sp.sm (λa _=>cS hm (rV _ (bQ (show i<V.length by omega) [])).2 a) λa ha=>bP.of (bQ ha []))
   rw[aW,bN]at this
   exact this
  exact mw.mp (by omega)
 ·rw[if_neg c]at h;cases h
theorem ca5{m:Bool × Nat}(hm:m∈aA){G:List (List Nat)}(h0:0<G.length)(hG:RT (aa m) (ag G) G)(h:cH (bf m G) (ag G)=[]):∃V,jq m G=some V:=by
 have r:=rg hm
 obtain⟨b1,b2⟩:=De (lo1 hm) h0 hG
 obtain⟨⟨H,I⟩,iR,il,sp⟩:=gL hm (G:=cY G) (by rw[b1];exact b2)
 rw[b1]at I iR
 have hs:∀k,k<ag G->∃i,i<(bf m (cY G)).length/\H i=k:=λk hk=>by
  obtain⟨c,hc,hf⟩:=(b26 hm hG h hk).sum hm hG
  have s:bP m (cY G) λj=>if j<ag G then(if j=k then 1 else 0)else if j-ag G<G.length then c (j-ag G)else 0:=(Oz hm h0 hG).mpr ⟨λj=>by
   have:=lo1 hm
   split
   ·split<;>omega
   ·split
    ·exact hc _
    ·omega,λj hj=>by rw[if_neg (by omega),if_neg (by omega)],λj hj=>by
   rw[if_pos hj,hf j]
   exact b9 λi hi=>by rw[if_neg (by omega),if_pos (by omega),Kb]⟩
  exact I.lead hm iR ((sp _).mp s) (t:=k) (by rw[if_pos hk,if_pos rfl];decide) λj hj=>by rw[if_pos (by omega),if_neg (by omega)]
 have hH:∀n i,i<n->i<ag G->i<(bf m (cY G)).length/\H i=i:=by
  intro n
  induction n with
  | zero=>exact λi hi=>nomatch hi
  | succ n ih =>
   intro i hi hw
   by_cases hn:i<n
   ·exact ih i hn hw
   obtain rfl:i=n:=by omega
   obtain⟨j,j1,j2⟩:=hs i hw
   have hj:i<=j:=D9 λc=>by
    have:=(ih j c (by omega)).2
    omega
   have fA:i<(bf m (cY G)).length:=by omega
   have gi:i<=H i:=by
    by_cases z:i=0
    ·omega
    ·have:=(ih (i-1) (by omega) (by omega)).2
     have:=I.i (i-1) i (by omega) fA
     omega
   refine⟨fA,?_⟩
   rcases uA i j with c | c
   ·have:=I.i i j c j1;omega
   ·rw[show i=j by omega];omega
 unfold jq
 rw[if_pos]
 ·exact⟨_,rfl⟩
 ·refine yF λi=>?_
  rw[bM,BA]
  by_cases hi:i<ag G
  ·obtain⟨h1,h2⟩:=hH (i+1) i (by omega) hi
   rw[if_pos hi,h9 hi,aM h1]
   have:=(I.wb hm iR h1).1
   rw[kj h1,h2]at this
   exact congrArg some this
  ·rw[if_neg hi,eE (by rw[bN];omega)];rfl
theorem OB{m:Bool × Nat}(hm:m∈aA){G:List (List Nat)}(hG:RT (aa m) (ag G) G){f:Nat}(hf:f∈cH (bf m G) (ag G)):∀r∈G,dt m (ag G) (cf r) (cf (dN m (bf m G) (ag G) f))=0:=λr hr=>by
 obtain⟨⟨H,I⟩,iR,il,sp⟩:=gL hm hG
 exact bP.dt hm (λi hi=>Dc hm iR I hf hi) ((sp _).mp (bP.of hr))
end L3
namespace L3
open PySem L2 Mf
theorem cx6{r:List Nat}{k v:Nat}(hk:k<r.length)(j:Nat):cf (r.set k v) j=if j=k then v else cf r j:=by
 unfold cf
 rw[aL,List.getElem?_set,aL]
 by_cases h:k=j
 ·subst h
  rw[if_pos rfl,if_pos rfl,if_pos hk];rfl
 ·rw[if_neg h,if_neg (iy h)]
end L3
namespace L2
open PySem PySem.Spec PyProof.Rows
section
variable{X:Cx}
theorem OC:∀{ns:List Int} {its:List Value},Vals (ns.map V.int) its->ns.length=its.length/\∀(i:Nat) (v:Value),its[i]?=some v->∃n t,ns[i]?=some n/\v=ou n t
 | [],_,r=>by cases r;exact⟨rfl,λi v h=>by simp at h⟩
 | n::ns,_,r=>by
  cases r with
  | cons a b =>
   obtain⟨h1,h2⟩:=OC b
   obtain⟨t,rfl⟩:=a
   refine⟨by simp[h1],λi v h=>?_⟩
   cases i with
   | zero=>simp at h;exact⟨n,t,rfl,h.symm⟩
   | succ i=>simpa using h2 i v (by simpa using h)
theorem bT5(hc:X.calm=true):ia X (.builtin "any") (λxs H Q=>∃(p:Addr) (ns:List Int),xs=[.ref p]/\bL X.K H p (ns.map V.int)/\Q (.bl (ns.any (· != 0))) H):=by
 intro pins s σ H xs us Q I r h
 obtain⟨p,ns,rfl,hS,q⟩:=h
 obtain⟨u,rfl,ru⟩:=r.one
 cases ru
 obtain⟨its,rv,pl,hz⟩:=I.list hS
 obtain⟨hlen,zu⟩:=OC rv
 have hl:=pl.isList
 have dW:p<s.heap.objs.size:=by obtain⟨_,e,_⟩:=hl;exact cu e
 refine call_any_walk (wpAny_pyIter_list hl ?_)
 refine⟨s.heap.objs.size,[s.heap.objs.size,p],[s.heap.objs.size],its.toArray.size,_,_,λi=>((ns.map (· != 0))[i]?).getD false,rfl,Eg (A:=X.A.in1) (I.ok.hd hc) _ p (fN dW) its.toArray,
  ⟨⟨_,iB _ rfl,rfl,rfl⟩,hl.push _⟩,λi v s' Q' E' hP hQ=>?_,λh' tk hk=>?_⟩
 ·obtain⟨n,t,e,rfl⟩:=zu i v (by simpa using hP)
  simp only[bM,e,uC,oB]at hQ
  exact PyProof.Rows.truthy_int hQ
 ·have e:((aH its.toArray.size).any λi=>((ns.map (· != 0))[i]?).getD false)=(ns.map (· != 0)).any id:=by
   rw[dF,<- hlen,<- aW (f:=(· != 0)) (as:=ns)];exact L9 _
  rw[e,List.any_map]
  exact⟨.bl _,H,I.kept (h':=h') (t':=tk) (B4 hk),rfl,q⟩
end
end L2
namespace L3
open PySem L2 PySem.Spec PyProof.Rows
section
variable{X:Cx}
def qm:kb:=λds Q=>match ds with
 | [.lst _ xs]=>∃ns,xs=aS ns/\Q (.bl (ns.any (· != 0)))
 | _=>False
theorem cF7(hc:X.calm=true):g5 X (.builtin "any") qm:=g5.of (bT5 hc) λvs H Q zz=>by
 obtain⟨B,F,σ,δ,ts,ds,Qd,c,s,q,k⟩:=zz
 unfold qm at q
 split at q
 ·obtain⟨v,rfl,s1⟩:=lM s
  obtain⟨ns,rfl,q⟩:=q
  obtain⟨p,ws,rfl,h,t⟩:=lK s1 c.ext rfl
  rw[Cw t]at h
  exact⟨p,ns,rfl,jh h,k _ _ _ q (ah.refl _) (c.pushS (.bl .nil) rfl)⟩
 ·exact q.elim
end
end L3
namespace L2
open PySem PySem.Spec PyProof.Rows
section
variable{X:Cx}{a:Expr}{ta:TE}{p p2 pos gA:Pos}
def tLR(ta:TE):TE:=λσ H Q=>ta σ H λv H1=>∃j:Nat,v=.int (j:Int)/\j<=1000/\∀l,H1 l=none->Q (.ref l) (upd H1 l (.lst ((aH j).map λ(k:Nat)=>V.int (k:Int))))
theorem bQ2{n:Nat}{acc:Array Value}(h:ItemsOf (λ(i:Nat) (v:Value)=>∃t,v=ou ((0:Int)+(i:Int)*1) t) acc n):Vals ((aH n).map λ(k:Nat)=>V.int (k:Int)) acc.toList:=by
 have key:∀(l:List Value) (b:Nat),(∀(i:Nat) (v:Value),l[i]?=some v->∃t,v=ou ((b+i:Nat):Int) t)->Vals ((k7 b l.length).map λ(k:Nat)=>V.int (k:Int)) l:=by
  intro l
  induction l with
  | nil=>exact λb _=>.nil
  | cons v l ih =>
   intro b hb
   rw[ft,Et,cI]
   refine .cons ?_ (ih (b+1) λi v hv=>?_)
   ·obtain⟨t,rfl⟩:=hb 0 v rfl
    exact⟨t,rfl⟩
   ·obtain⟨t,e⟩:=hb (i+1) v (by simpa using hv)
    exact⟨t,by rw[e];congr 1;omega⟩
 have hl:acc.toList.length=n:=by rw[wL];exact h.1
 rw[Ke,<- hl]
 refine key acc.toList 0 λi v hv=>?_
 obtain⟨t,e⟩:=h.2 i v (by simpa using hv)
 exact⟨t,by rw[e];congr 1;omega⟩
theorem bz6(hc:X.calm=true)(hg:Gl X "list")(hm:X.mg "list"=none)(zT:Gl X "range")(sG:X.mg "range"=none)(ha:PE X a ta)
  (hs:starEach [.Call (.Name "range" p2) [a] [] gA] X.env=(false,eval (.Call (.Name "range" p2) [a] [] gA) X.env)::starEach [] X.env:=by rfl) (bU:(backTo pos (starEach [] X.env)).any (·.1)=false:=by rfl)
  (gx:starEach [a] X.env=(false,eval a X.env)::starEach [] X.env:=by rfl) (Hc:(backTo gA (starEach [] X.env)).any (·.1)=false:=by rfl) (He:starEach [] X.env=[]:=by rfl) :
  PE X (.Call (.Name "list" p) [.Call (.Name "range" p2) [a] [] gA] [] pos) (tLR ta):=by
 intro pins s σ H Q I h
 refine wpAny_Call_Name_kw (oH I hg hm rj ?_ (by decide) (by decide))
 refine wM ?_ hs bU
 rw[hs]
 show wpAny _ _ (spliced ((false,eval (.Call (.Name "range" p2) [a] [] gA) X.env)::backTo pos (starEach [] X.env))) _ _ s
 refine JM ?_
 refine wpAny_Call_Name_kw (oH I zT sG ζ ?_ (by decide) (by decide))
 refine wM ?_ gx Hc
 rw[gx]
 show wpAny _ _ (spliced ((false,eval a X.env)::backTo gA (starEach [] X.env))) _ _ s
 refine JM (a7 (ha pins s σ H _ I h) λu s1 zz=>?_)
 obtain⟨x,H1,I1,r1,q1⟩:=zz
 obtain⟨j,rfl,hj,q⟩:=q1
 obtain⟨t,rfl⟩:=r1
 rw[He]
 refine JL ?_
 refine call_range_1 ?_
 refine JL ?_
 have I2:Inv X pins σ H1 { s1 with heap:=s1.heap.push { cls:=.type "range",data:=.fields #[.int 0 s1.toks,.int j t,.int 1 (s1.toks+1)] },toks:=s1.toks+1+1 }:=I1.kept λb o e=>gQ _ e
 refine call_list_range (n:=j) (I2.ok.hd hc) (IsRange.new ..) (small_one (by omega) (by omega) (by omega) (by omega)) (by rw[rangeSize_one];split<;>omega) (by omega) λh' tk da2 c' kp e mQ=>?_
 have hv:=bQ2 mQ
 exact⟨.ref _,_,I2.laid (t':=tk) kp (by omega) (show fi X.prog X.w _ h' _ (.lst _) from⟨by rw[aW,bN];have:=uP;unfold sizeLine;omega,da2.toList,c',hv,by simpa using e⟩),rfl,q _ (I2.aZ.fresh (cg _))⟩
end
end L2
namespace L3
open PySem L2 PySem.Spec PyProof.Rows
section
variable{X:Cx}{a:Expr}{t:aJ}{p p2 pos gA:Pos}
def tK(t:aJ):aJ:=λδ Q=>t δ λd ao=>∃j:Nat,d=.int (j:Int)/\j<=1000/\Q (.lst true (aj (aH j))) ao
theorem bG6(hc:X.calm=true)(hg:Gl X "list")(hm:X.mg "list"=none)(zT:Gl X "range")(sG:X.mg "range"=none)(ha:PE X a (lB t))
  (hs:starEach [.Call (.Name "range" p2) [a] [] gA] X.env=(false,eval (.Call (.Name "range" p2) [a] [] gA) X.env)::starEach [] X.env:=by rfl) (bU:(backTo pos (starEach [] X.env)).any (·.1)=false:=by rfl)
  (gx:starEach [a] X.env=(false,eval a X.env)::starEach [] X.env:=by rfl) (Hc:(backTo gA (starEach [] X.env)).any (·.1)=false:=by rfl) (He:starEach [] X.env=[]:=by rfl) :
  PE X (.Call (.Name "list" p) [.Call (.Name "range" p2) [a] [] gA] [] pos) (lE (tK t)) :=
 dr (bz6 hc hg hm zT sG ha hs bU gx Hc He) λσ H Q zq=>by
 obtain⟨B,F,δ,ts,Qd,c,q,k⟩:=zq
 exact⟨B,F,δ,ts,_,c,q,λd ao v F1 H1 q1 f1 h1 c1 s1=>by
  obtain⟨j,rfl,hj,hq⟩:=q1
  cases s1
  refine⟨j,rfl,hj,λl hl=>?_⟩
  have sn:∀ns:List Nat,S F1 H1 (aj ns) (ns.map λ(k:Nat)=>V.int (k:Int)):=λns=>by
   induction ns with
   | nil=>exact .nil
   | cons n ns ih=>exact .int ih
  exact k _ ao _ F1 _ hq f1 (h1.trans (ah.upd hl)) (c1.nQ hl (sn _) (jj _))⟩
end
end L3
namespace L3
open PySem L2 PySem.Spec PyProof.Rows
section
variable{F H:Hp}
theorem R.take1{xs:List D}{ws:List V}{A:List Addr}(n:Nat)(r:R F H xs ws A)(nd:A.Nodup):∃A',R F H (xs.take n) (ws.take n) A'/\A'.Nodup/\∀a∈A',a∈A:=by
 have r':R F H (xs.take n++xs.drop n) ws A:=by rw[yQ];exact r
 obtain⟨v1,v2,A1,A2,rfl,rfl,h1,h2⟩:=R.split r'
 have l1:=h1.length
 have l2:=h2.length
 rw[fZ]at l1
 rw[iD]at l2
 have e:(v1++v2).take n=v1:=by
  by_cases c:n<=xs.length
  ·exact List.take_left' (by omega)
  ·have:v2=[]:=mw.mp (by omega)
   rw[this,gu]
   exact wW (by omega)
 rw[e]
 exact⟨A1,h1,(jc.mp nd).1,λa ha=>iz _ ha⟩
theorem R.da4{xs:List D}{ws:List V}{A:List Addr}(n:Nat)(r:R F H xs ws A)(nd:A.Nodup):∃A',R F H (xs.drop n) (ws.drop n) A'/\A'.Nodup/\∀a∈A',a∈A:=by
 have r':R F H (xs.take n++xs.drop n) ws A:=by rw[yQ];exact r
 obtain⟨v1,v2,A1,A2,rfl,rfl,h1,h2⟩:=R.split r'
 have l1:=h1.length
 have l2:=h2.length
 rw[fZ]at l1
 rw[iD]at l2
 have e:(v1++v2).drop n=v2:=by
  by_cases c:n<=xs.length
  ·exact List.drop_left' (by omega)
  ·have:v2=[]:=mw.mp (by omega)
   rw[this,gu]
   exact Ek (by omega)
 rw[e]
 exact⟨A2,h2,(jc.mp nd).2.1,λa ha=>fq _ ha⟩
theorem R.da5{xs:List D}{ws:List V}{A:List Addr}(lo hi:Option Int)(r:R F H xs ws A)(nd:A.Nodup):∃A',R F H (fk xs lo hi) (mG ws lo hi) A'/\A'.Nodup/\∀a∈A',a∈A:=by
 unfold fk mG
 rw[<-r.length]
 obtain⟨A1,r1,n1,s1⟩:=r.da4 (HT.df xs.length 0 lo) nd
 obtain⟨A2,r2,n2,s2⟩:=r1.take1 (HT.df xs.length xs.length hi-HT.df xs.length 0 lo) n1
 exact⟨A2,r2,n2,λa ha=>s1 a (s2 a ha)⟩
theorem av.da6{B:Bs}{σ:L2.St}{δ:Dl}{ts:List (D × V)}{p r:Addr}{xs:List D}{ws:List V}(c:av B F H σ δ ((.lst true xs,.ref p)::ts))(e1:H p=some (.lst ws))(hr:H r=none)(lo hi:Option Int) :
  av B F (upd H r (.lst (mG ws lo hi))) σ δ ((.lst true (fk xs lo hi),.ref r)::ts):=by
 refine av.pack (ps:=[(.lst true xs,.ref p)]) c (ah.upd hr) λA1 r1 nd=>?_
 have n1:p≠r:=λz=>by rw[z,hr]at e1;cases e1
 have r1:R F (upd H r (.lst (mG ws lo hi))) [.lst true xs] [.ref p] A1:=r1
 have nr:r ∉ A1:=λh=>by
  obtain⟨A,C,r0,_,_,_⟩:=c.own
  have r0':R F H ([D.lst true xs]++ts.map (·.1)) ([V.ref p]++ts.map (·.2)) A:=by simpa using r0
  obtain⟨v1,v2,B1,B2,e,rfl,h1,h2⟩:=R.split r0'
  have l1:[V.ref p].length=v1.length:=by rw[<-h1.length];rfl
  obtain⟨rfl,rfl⟩:=yD e l1
  have g1:=h1.grow (ah.refl F) (ah.upd (o:=.lst (mG ws lo hi)) hr) λa ha=>(h1.lists a ha).2
  have e3:A1=B1:=R.inj r1 g1
  subst e3
  obtain⟨⟨_,q⟩,_⟩:=h1.lists r h
  rw[hr]at q;cases q
 cases r1 with
 | @own _ wx _ Ax _ _ Bx hx fx rx rc =>
  cases rc
  rw[bt n1,e1]at hx;cases hx
  rw[gu]at nd nr ⊢
  rw[iZ]at nd
  obtain⟨A2,r2,nd2,s2⟩:=rx.da5 lo hi nd.2
  refine⟨r::A2,by simpa using R.own (F:=F) de (c.ext.free hr) r2 .nil,?_,λa ha=>?_⟩
  ·rw[iZ];exact⟨λz=>nr (e5 _ (s2 r z)),nd2⟩
  ·rcases cw.mp ha with rfl | ha
   ·exact .inr hr
   ·exact .inl (e5 _ (s2 a ha))
end
section
variable{X:Cx}{e:Expr}{t:aJ}{p2 pos:Pos}
def tL(t:aJ)(tl th:sI):aJ:=λδ Q=>t δ λx ao=>∃xs,x=.lst true xs/\tl ao λl bg=>th bg λu gX=>Q (.lst true (fk xs l u)) gX
theorem cd8{lo hi:Option Expr}{tl th:sI}(he:PE X e (lE t))(hl:PO X lo (lP tl))(hu:PO X hi (lP th)):PE X (.Subscript e (.Slice lo hi none p2) pos) (lE (tL t tl th)) :=
 dr (Lg Ln he hl hu) λσ H Q zq=>by
 obtain⟨B,F,δ,ts,Qd,c,q,k⟩:=zq
 exact⟨B,F,δ,ts,_,c,q,λx ao v F1 H1 q1 f1 h1 c1=>by
  obtain⟨xs,rfl,q1⟩:=q1
  exact⟨B,F1,ao,(.lst true xs,v)::ts,_,c1,q1,λl bg F2 H2 q2 f2 h2 c2=>⟨B,F2,bg,(.lst true xs,v)::ts,_,c2,q2,λu gX F3 H3 q3 f3 h3 c3=>by
   obtain⟨p,ws,rfl,e1,s1⟩:=iP c3.top c3.ext
   exact⟨p,ws,rfl,(jh (.inl e1)),λr hr=>k _ gX _ F3 _ q3 ((f1.trans f2).trans f3) (((h1.trans h2).trans h3).trans (ah.upd hr)) (c3.da6 e1 hr l u)⟩⟩⟩⟩
end
end L3
namespace L3
open PySem L2 PySem.Spec PyProof.Rows
section
variable{F H:Hp}
end
section
variable{P:Program}{w:World}{K:PySem.W.Frag}{mg:Str->Option Value}{base:Heap}
end
section
variable{X:Cx}{CX:e8}{n i:Nat}{f:Addr}{fd:FuncData}{ps:List Str}{sp:aU}{E:XK}{fn x:Str}{e:Expr}{te:aJ}{p p2 pos pos' gA:Pos}
end
end L3
namespace L2
section
variable{α:Type}{P:List α->Prop}
theorem cA4(h:P []):∀us:List α,us.length=0->P us:=by
 intro us hl;rcases us with _ | ⟨a,t⟩
 ·exact h
 ·cases hl
theorem Hf(h:∀a,P [a]):∀us:List α,us.length=1->P us:=by
 intro us hl;rcases us with _ | ⟨a,t⟩
 ·cases hl
 ·exact cA4 (P:=λt=>P (a::t)) (h a) t (yR hl)
theorem Hg(h:∀a b,P [a,b]):∀us:List α,us.length=2->P us:=by
 intro us hl;rcases us with _ | ⟨a,t⟩
 ·cases hl
 ·exact Hf (P:=λt=>P (a::t)) (h a) t (yR hl)
theorem Hh(h:∀a b c,P [a,b,c]):∀us:List α,us.length=3->P us:=by
 intro us hl;rcases us with _ | ⟨a,t⟩
 ·cases hl
 ·exact Hg (P:=λt=>P (a::t)) (h a) t (yR hl)
theorem Hi(h:∀a b c d,P [a,b,c,d]):∀us:List α,us.length=4->P us:=by
 intro us hl;rcases us with _ | ⟨a,t⟩
 ·cases hl
 ·exact Hh (P:=λt=>P (a::t)) (h a) t (yR hl)
theorem OD(h:∀a b c d e,P [a,b,c,d,e]):∀us:List α,us.length=5->P us:=by
 intro us hl;rcases us with _ | ⟨a,t⟩
 ·cases hl
 ·exact Hi (P:=λt=>P (a::t)) (h a) t (yR hl)
theorem OE(h:∀a b c d e f,P [a,b,c,d,e,f]):∀us:List α,us.length=6->P us:=by
 intro us hl;rcases us with _ | ⟨a,t⟩
 ·cases hl
 ·exact OD (P:=λt=>P (a::t)) (h a) t (yR hl)
end
end L2
namespace L3
open PySem L2 PySem.Spec PyProof.Rows
section
variable{B:Bs}{F H:Hp}{σ:L2.St}{δ:Dl}{ts:List (D × V)}
end
section
variable{X:Cx}{elt iter tg:Expr}{pos:Pos}{scope:Scope}{cl:List (Str × Addr)}{ti:iO}{te:aJ}{g:ij}
end
end L3
namespace L2
open PySem PySem.Spec PyProof.Rows
section
variable{X:Cx}
end
end L2
namespace L3
open PySem L2 PySem.Spec PyProof.Rows
section
variable{X:Cx}
end
end L3
namespace L3
open PySem L2 Mf
theorem Av{m:Bool × Nat}(hm:m∈aA){a b:Nat}(ha:a<aa m)(hb:b<aa m):gm m a b=0↔a=0\/b=0:=by
 constructor
 ·intro h
  by_cases a0:a=0
  ·exact .inl a0
  ·by_cases b0:b=0
   ·exact .inr b0
   ·exact absurd h (cG8 hm (by omega) ha (by omega) hb)
 ·rintro (rfl | rfl)
  ·exact eO m _ (bO m hm)
  ·exact gK m _ (bO m hm)
theorem OF{m:Bool × Nat}(hm:m∈aA)(x:Nat->Nat)(hx:∀j,x j<aa m):∀(n:Nat) (c:Nat->Nat),(∀j,c j<aa m)->(∀i j,i<n->j<n->x i=x j->i=j)->(∀i,i<n->sm (gp m) n (λj=>gm m (c j) (px m (x j) i))=0)->∀j,j<n->c j=0
 | 0,_,_,_,_,j,hj=>absurd hj (by omega)
 | n+1,c,hc,hd,h,j,hj=>by
  have r:=rg hm
  have h0:=bO m hm
  have cO:=lo1 hm
  have dn:∀j,bB m (x j) (x n)<aa m/\gp m (bB m (x j) (x n)) (x n)=x j:=λj=>(jl hm (hx j) (hx n)).2
  have key:∀i,i<n->sm (gp m) n (λj=>gm m (gm m (c j) (bB m (x j) (x n))) (px m (x j) i))=0:=λi hi=>by
   have h1:=h (i+1) (by omega)
   have hz:=h i (by omega)
   have e:∀j,gm m (c j) (px m (x j) (i+1))=gp m (gm m (gm m (c j) (bB m (x j) (x n))) (px m (x j) i)) (gm m (x n) (gm m (c j) (px m (x j) i))):=λj=>by
    show gm m (c j) (gm m (px m (x j) i) (x j))=_
    have e1:gm m (px m (x j) i) (x j)=gm m (px m (x j) i) (gp m (bB m (x j) (x n)) (x n)):=by rw[(dn j).2]
    rw[e1,Af h0,Af h0]
    congr 1
    ·rw[iq h0,gz m (px m (x j) i)]
    ·rw[gz m (px m (x j) i),<- iq h0,gz m (c j),iq h0]
   rw[b9 λj _=>e j,nj r,n9 r,hz,r.qz]at h1
   have ln:sm (gp m) n (λj=>gm m (gm m (c j) (bB m (x j) (x n))) (px m (x j) i))<aa m:=jI r λ_ _=>bI hm _ _
   rw[sm,CT,gK m _ h0,eO m _ h0,jH ln,jH ln]at h1
   exact h1
  have ih:=OF hm x hx n (λj=>gm m (c j) (bB m (x j) (x n))) (λ_=>bI hm _ _) (λi j hi hj=>hd i j (by omega) (by omega)) key
  have cz:∀j,j<n->c j=0:=λj hj=>by
   rcases(Av hm (hc j) (dn j).1).mp (ih j hj)with z | z
   ·exact z
   ·have:=(dn j).2
    rw[z,v3 (hx n)]at this
    exact absurd (hd n j (by omega) (by omega) this) (by omega)
  by_cases c0:j<n
  ·exact cz j c0
  ·have ej:j=n:=by omega
   subst ej
   have:=h 0 (by omega)
   rw[sm,eP r λi hi=>by rw[cz i hi,eO m _ h0]]at this
   rw[show px m (x j) 0=1 from rfl,nh (hc j),v3 (hc j)]at this
   exact this
theorem cp0{xs ys:List Nat}{i:Nat}{d:D}(h:(dQ (aj xs) (aj ys))[i]?=some d):∃(hi:i<xs.length) (hj:i<ys.length),d=.tup [.int (xs[i]:Nat),.int (ys[i]:Nat)]:=by
 unfold dQ at h
 rw[cL,cL,BB]at h
 have hl:=(kr.mp h).1
 rw[kA]at hl
 have hi:i<xs.length:=by omega
 have hj:i<ys.length:=by omega
 rw[oE,aM hi,aM hj]at h
 exact⟨hi,hj,(cT h).symm⟩
theorem cc5(xs ys:List Nat):(dQ (aj xs) (aj ys)).length=min xs.length ys.length:=by unfold dQ;rw[kA,eN,eN]
def iU(m:Bool × Nat)(b:Nat)(ps:List Nat)(n:Nat):List (List Nat):=(aH n).map λ(i:Nat)=>ps.map λ(p:Nat)=>eS m (((b:Int)+(i:Int))*(p:Int))
theorem Hj{m:Bool × Nat}(hm:m∈aA)(b:Nat)(ps:List Nat)(n:Nat):RT (aa m) ps.length (iU m b ps n)/\(iU m b ps n).length=n:=by
 refine⟨λr hr=>?_,by unfold iU;rw[aW,bN]⟩
 obtain⟨i,_,rfl⟩:=bw.mp hr
 refine⟨by rw[aW],λx hx=>?_⟩
 obtain⟨p,_,rfl⟩:=bw.mp hx
 exact GI hm _
theorem cu9{m:Bool × Nat}{b:Nat}{ps:List Nat}{n a:Nat}(ha:a<n):(iU m b ps n).getD a []=ps.map λ(p:Nat)=>eS m (((b:Int)+(a:Int))*(p:Int)):=by
 unfold iU
 rw[aL,bM,h9 ha];rfl
theorem cC8{m:Bool × Nat}(hm:m∈aA){a b:Nat}(ha:a+1<aa m)(hb:b+1<aa m)(h:eS m (a:Int)=eS m (b:Int)):a=b:=by
 have h1:=(qj hm (a:Int)).2.2.1
 have h2:=(qj hm (b:Int)).2.2.1
 rw[h,h2,BD (by omega) (by omega),BD (by omega) (by omega)]at h1
 omega
end L3
namespace L3
open PySem L2 Mf
def g8(m:Bool × Nat)(c:List Nat)(os:List (List Nat)):List (List Nat):=os.map λo =>
 (dv (λx y=>bB m x (gm m (gm m (o.getD (a8 c) 0) (kO m (c.getD (a8 c) 0))) y)) o c).take (a8 c)++(dv (λx y=>bB m x (gm m (gm m (o.getD (a8 c) 0) (kO m (c.getD (a8 c) 0))) y)) o c).drop (a8 c+1)
abbrev Cs:=List Nat × List (List Nat)
def nul(c:List Nat):Bool:=c.all (·==0)
def g9(m:Bool × Nat)(w:Nat)(z:Cs × Nat):Cs:=(z.1.1++[w-z.1.2.length+z.2],g8 m (z.1.2.getD z.2 []) (z.1.2.drop (z.2+1)))
def fU(s:Cs):List (Cs × Nat):=(aH s.2.length).map λi=>(s,i)
def dS(l:List Cs):List (Cs × Nat):=l.flatMap fU
def qo(z:Cs × Nat):Bool:=nul (z.1.2.getD z.2 [])
def wj(m:Bool × Nat)(w:Nat):Nat->List Cs->Option (List Nat)
 | 0,_=>none
 | f+1,l=>if l=[]then none else match (dS l).find? qo with
  | some z=>some (z.1.1++[w-z.1.2.length+z.2])
  | none=>wj m w f ((dS l).map (g9 m w))
def dm(m:Bool × Nat)(C:Nat->Nat->Nat)(ps:List Nat)(c:Nat->Nat)(k:Nat):Nat:=sm (gp m) ps.length λt=>gm m (c t) (C (ps.getD t 0) k)
def l8(m:Bool × Nat)(C:Nat->Nat->Nat)(ps:List Nat):Prop:=∀c:Nat->Nat,(∀t,c t<aa m)->(∀k,dm m C ps c k=0)->∀t,t<ps.length->c t=0
structure Gs(m:Bool × Nat)(C:Nat->Nat->Nat)(w:Nat)(s:Cs):Prop where
 le:s.2.length<=w
 inc:s.1.Pairwise (· < ·)
 off:∀p∈s.1,p<w-s.2.length
 nx:∀j,(∀p∈s.1,p<j)->w-s.2.length<=j
 rt:∃h,RT (aa m) h s.2
 rel:∀a:Nat->Nat,(∀i,a i<aa m)->((∀k,sm (gp m) s.2.length (λi=>gm m (a i) (cf (s.2.getD i []) k))=0)↔∃c:Nat->Nat,(∀t,c t<aa m)/\∀k,gp m (sm (gp m) s.2.length λi=>gm m (a i) (C (w-s.2.length+i) k)) (dm m C s.1 c k)=0)
 ind:l8 m C s.1
section
variable{m:Bool × Nat}{C:Nat->Nat->Nat}{w:Nat}
theorem cB3(hm:m∈aA)(C:Nat->Nat->Nat)(ps:List Nat)(c:Nat->Nat)(k:Nat):dm m C ps c k<aa m:=jI (rg hm) λ_ _=>bI hm _ _
theorem Df(hm:m∈aA)(C:Nat->Nat->Nat)(ps:List Nat)(j:Nat)(c:Nat->Nat)(k:Nat):dm m C (ps++[j]) c k=gp m (dm m C ps c k) (gm m (c ps.length) (C j k)):=by
 unfold dm
 rw[du,qM,sm]
 congr 1
 ·refine b9 λt ht=>?_
  rw[aL,uq ht,<- aL]
 ·rw[aL,qJ (cg _),J9];rfl
theorem OG{ps:List Nat}{c c':Nat->Nat}{k:Nat}(h:∀t,t<ps.length->c t=c' t):dm m C ps c k=dm m C ps c' k:=b9 λt ht=>by rw[h t ht]
theorem tM(hm:m∈aA){n i e:Nat}(hi:i<n)(a' X:Nat->Nat):sm (gp m) n (λj=>gm m (if j<i then 0 else if j=i then e else a' (j-i-1)) (X j))=gp m (sm (gp m) (n-i-1) λj=>gm m (a' j) (X (i+1+j))) (gm m e (X i)):=by
 have r:=rg hm
 have h0:=bO m hm
 obtain⟨d,rfl⟩:∃d,n=(i+1)+d:=⟨n-i-1,by omega⟩
 rw[Ah r (i+1) d λ_ _=>bI hm _ _,sm,eP r λj hj=>by rw[if_pos hj,eO m _ h0],if_neg (h7 _),if_pos rfl,r.z (bI hm _ _),n8]
 congr 1
 rw[show i+1+d-i-1=d by omega]
 refine b9 λj hj=>?_
 rw[if_neg (by omega),if_neg (by omega),show i+1+j-i-1=j by omega]
theorem OH{c:List Nat}:nul c=true↔∀k,cf c k=0:=by
 unfold nul
 rw[cJ]
 constructor
 ·intro h k
  by_cases hk:k<c.length
  ·unfold cf
   have:=h _ (bQ hk 0)
   exact beq_iff_eq.mp this
  ·exact lZ (by omega)
 ·intro h x hx
  obtain⟨k,hk,rfl⟩:=fh hx
  have:=h k
  unfold cf at this
  rw[aL,aM hk]at this
  exact beq_iff_eq.mpr this
theorem Hk{c:List Nat}(h:nul c=false):a8 c<c.length/\cf c (a8 c)≠0:=by
 have hx:∃x∈c,(x != 0)=true:=by
  refine qO λz=>?_
  have:nul c=true:=by
   unfold nul
   rw[cJ]
   intro x hx
   refine qO λy=>z ⟨x,hx,?_⟩
   simpa using y
  rw[h]at this;cases this
 have hl:a8 c<c.length:=J5 hx
 refine⟨hl,?_⟩
 have h2:(c[a8 c] != 0)=true:=WM (xs:=c) (p:=(· != 0)) (w:=hl)
 unfold cf
 rw[aL,aM hl]
 simpa using h2
theorem co2(hm:m∈aA){b:List Nat}{os:List (List Nat)}{h:Nat}(hb:b.length=h)(ab:AllLt (aa m) b)(nk:RT (aa m) h os)(nb:nul b=false){a:Nat->Nat}(ha:∀i,a i<aa m) :
  (∀k,sm (gp m) os.length (λj=>gm m (a j) (cf ((g8 m b os).getD j []) k))=0)↔∃e,e<aa m/\∀k,gp m (sm (gp m) os.length λj=>gm m (a j) (cf (os.getD j []) k)) (gm m e (cf b k))=0:=by
 have r:=rg hm
 have h0:=bO m hm
 have cO:=lo1 hm
 obtain⟨hp,bp⟩:=Hk nb
 have OI:=cS hm ab (a8 b)
 obtain⟨iv,iv1,OJ⟩:=GP hm (a:=1) (by omega) OI bp
 have Aw:kO m (b.getD (a8 b) 0)=iv:=xR hm iv1 OJ
 obtain⟨D,hD⟩:∃D:Nat->List Nat,∀j,D j=dv (λx y=>bB m x (gm m (gm m ((os.getD j []).getD (a8 b) 0) iv) y)) (os.getD j []) b:=⟨_,λ_=>rfl⟩
 have OK:∀j,j<os.length->∀k,gp m (cf (D j) k) (gm m (gm m (cf (os.getD j []) (a8 b)) iv) (cf b k))=cf (os.getD j []) k:=λj hj k=>by
  rw[hD]
  exact C3 hm (nk _ (bQ hj [])).1 hb (nk _ (bQ hj [])).2 k
 have Dlt:∀j,j<os.length->∀k,cf (D j) k<aa m:=λj hj k=>by
  rw[hD]
  exact G4 hm (nk _ (bQ hj [])).1 hb (nk _ (bQ hj [])).2 _ k
 have Dp:∀j,j<os.length->cf (D j) (a8 b)=0:=λj hj=>by
  have l1:=cS hm (nk _ (bQ hj [])).2 (a8 b)
  have:=OK j hj (a8 b)
  rw[iq h0,OJ,nh l1]at this
  exact r.cn (Dlt j hj _) l1 this
 have db9:∀j,j<os.length->(D j).length=h:=λj hj=>by
  rw[hD,kA,(nk _ (bQ hj [])).1,hb,Bw]
 have Hl:∀j,j<os.length->∀k,cf ((g8 m b os).getD j []) k=cf (D j) (if k<a8 b then k else k+1):=λj hj k=>by
  have e1:(g8 m b os).getD j []=(D j).take (a8 b)++(D j).drop (a8 b+1):=by
   unfold g8
   rw[tH _ hj [] [],Aw,hD]
  rw[e1]
  have lt:((D j).take (a8 b)).length=a8 b:=by rw[fZ,db9 j hj];omega
  unfold cf
  by_cases hk:k<a8 b
  ·rw[if_pos hk,aL,uq (by omega),WA hk,<- aL]
  ·rw[if_neg hk,aL,qJ (by omega),lt,Ej,show a8 b+1+(k-a8 b)=k+1 by omega,<- aL]
 obtain⟨F,hF⟩:∃F,F=sm (gp m) os.length λj=>gm m (a j) (gm m (cf (os.getD j []) (a8 b)) iv):=⟨_,rfl⟩
 have Flt:F<aa m:=by rw[hF];exact jI r λ_ _=>bI hm _ _
 have OL:∀k,(sm (gp m) os.length λj=>gm m (a j) (cf (os.getD j []) k))=gp m (sm (gp m) os.length λj=>gm m (a j) (cf (D j) k)) (gm m F (cf b k)):=λk=>by
  rw[b9 (g:=λj=>gp m (gm m (a j) (cf (D j) k)) (gm m (cf b k) (gm m (a j) (gm m (cf (os.getD j []) (a8 b)) iv)))) λj hj=>?_,nj r,n9 r,<- hF,gz m (cf b k)]
  rw[<-OK j hj k,Af h0]
  congr 1
  rw[<-iq h0,gz m _ (cf b k)]
 have mZ:(∀k,sm (gp m) os.length (λj=>gm m (a j) (cf ((g8 m b os).getD j []) k))=0)↔∀k,sm (gp m) os.length (λj=>gm m (a j) (cf (D j) k))=0:=by
  constructor
  ·intro h k
   by_cases e:k=a8 b
   ·exact eP r λj hj=>by rw[e,Dp j hj,gK m _ h0]
   ·by_cases c:k<a8 b
    ·rw[<-h k]
     exact b9 λj hj=>by rw[Hl j hj,if_pos c]
    ·rw[<-h (k-1)]
     exact b9 λj hj=>by rw[Hl j hj,if_neg (by omega),show k-1+1=k by omega]
  ·intro h k
   rw[b9 λj hj=>by rw[Hl j hj]]
   exact h _
 rw[mZ]
 constructor
 ·intro h
  obtain⟨e,e1,e2⟩:=r.ng Flt
  refine⟨e,e1,λk=>?_⟩
  rw[OL k,h k,r.z (bI hm _ _),<- CP h0,e2,eO m _ h0]
 ·rintro⟨e,e1,h⟩
  have key:∀k,gp m (sm (gp m) os.length λj=>gm m (a j) (cf (D j) k)) (gm m (gp m F e) (cf b k))=0:=λk=>by
   rw[CP h0,<- CO,<- OL k]
   exact h k
  have fe:gp m F e=0:=by
   have:=key (a8 b)
   rw[eP r λj hj=>by rw[Dp j hj,gK m _ h0],r.z (bI hm _ _)]at this
   rcases(Av hm (NV hm Flt e1) OI).mp this with z | z
   ·exact z
   ·exact absurd z bp
  intro k
  have:=key k
  rw[fe,eO m _ h0,jH (jI r λ_ _=>bI hm _ _)]at this
  exact this
theorem Hm(m:Bool × Nat)(b:List Nat)(os:List (List Nat)):(g8 m b os).length=os.length:=by unfold g8;rw[aW]
theorem cB9(hm:m∈aA){b:List Nat}{os:List (List Nat)}{h:Nat}(hb:b.length=h)(nk:RT (aa m) h os)(nb:nul b=false):RT (aa m) (h-1) (g8 m b os):=λx hx=>by
 obtain⟨o,ho,rfl⟩:=bw.mp hx
 obtain⟨hp,_⟩:=Hk nb
 obtain⟨l1,l2⟩:=nk o ho
 refine⟨by rw[du,fZ,iD,kA,l1,hb];omega,λy hy=>?_⟩
 have:AllLt (aa m) (dv (λx y=>bB m x (gm m (gm m (o.getD (a8 b) 0) (kO m (b.getD (a8 b) 0))) y)) o b):=GN λx hx y _=>(jl hm (l2 x hx) (bI hm _ y)).2.1
 rcases cM.mp hy with z | z
 ·exact this y (qR z)
 ·exact this y (nG z)
theorem Gs.next(hm:m∈aA){s:Cs}(G:Gs m C w s){i:Nat}(hi:i<s.2.length)(nb:nul (s.2.getD i [])=false)(hC:∀j k,C j k<aa m):Gs m C w (g9 m w (s,i)):=by
 have r:=rg hm
 have h0:=bO m hm
 have cO:=lo1 hm
 have hle:=G.le
 obtain⟨h,Dg⟩:=G.rt
 obtain⟨bl,ba⟩:=Dg _ (bQ hi [])
 have OM:RT (aa m) h (s.2.drop (i+1)):=λx hx=>Dg x (nG hx)
 have kl:(g9 m w (s,i)).2.length=s.2.length-i-1:=by
  show(g8 m _ _).length=_
  rw[Hm,iD]
  show s.2.length-(i+1)=_
  omega
 have dl:(s.2.drop (i+1)).length=s.2.length-i-1:=by rw[iD];omega
 have ko:w-(g9 m w (s,i)).2.length=w-s.2.length+i+1:=by omega
 have dg:∀j,(s.2.drop (i+1)).getD j []=s.2.getD (i+1+j) []:=λj=>by rw[aL,Ej,<- aL]
 refine⟨by omega,?_,λp hp=>?_,λj hj=>?_,⟨h-1,cB9 hm bl OM nb⟩,λa ha=>?_,λc hc hz t ht=>?_⟩
 ·refine BG.mpr ⟨G.inc,Kf _ _,λx hx y hy=>?_⟩
  rw[fu.mp hy]
  have:=G.off x hx
  show x<w-s.2.length+i
  omega
 ·rw[ko]
  rcases cM.mp hp with z | z
  ·have:=G.off p z;omega
  ·rw[fu.mp z];exact Bo _
 ·rw[ko]
  have:=hj (w-s.2.length+i) (fq _ (fu.mpr rfl))
  omega
 ·have e1:(∀k,sm (gp m) (g9 m w (s,i)).2.length (λj=>gm m (a j) (cf ((g9 m w (s,i)).2.getD j []) k))=0)↔∃e,e<aa m/\∀k,gp m (sm (gp m) (s.2.length-i-1) λj=>gm m (a j) (cf (s.2.getD (i+1+j) []) k)) (gm m e (cf (s.2.getD i []) k))=0:=by
   have:=co2 hm bl ba OM nb ha
   rw[dl]at this
   rw[kl]
   refine this.trans ?_
   constructor
   ·rintro⟨e,e1,e2⟩
    exact⟨e,e1,λk=>by rw[<-e2 k,b9 λj _=>by rw[<-dg j]]⟩
   ·rintro⟨e,e1,e2⟩
    exact⟨e,e1,λk=>by rw[<-e2 k,b9 λj _=>by rw[dg j]]⟩
  rw[e1]
  have al:∀e,e<aa m->∀j,(if j<i then 0 else if j=i then e else a (j-i-1))<aa m:=λe he j=>by
   split
   ·omega
   ·split
    ·exact he
    ·exact ha _
  have ON:∀(c:Nat->Nat) (e k:Nat),gp m (sm (gp m) s.2.length λj=>gm m (if j<i then 0 else if j=i then e else a (j-i-1)) (C (w-s.2.length+j) k)) (dm m C s.1 c k)=gp m (sm (gp m) (s.2.length-i-1) λj=>gm m (a j) (C (w-s.2.length+i+1+j) k)) (gp m (dm m C s.1 c k) (gm m e (C (w-s.2.length+i) k))):=λc e k=>by
   rw[tM hm hi a (λj=>C (w-s.2.length+j) k),CO,n8 m (gm m e _)]
   congr 1
   exact b9 λj _=>by rw[show w-s.2.length+(i+1+j)=w-s.2.length+i+1+j by omega]
  have ln:∀c k,dm m C (g9 m w (s,i)).1 c k=gp m (dm m C s.1 c k) (gm m (c s.1.length) (C (w-s.2.length+i) k)):=λc k=>Df hm C s.1 _ c k
  constructor
  ·rintro⟨e,e1,e2⟩
   obtain⟨c,c1,c2⟩:=(G.rel _ (al e e1)).mp λk=>by
    rw[tM hm hi a (λj=>cf (s.2.getD j []) k)]
    exact e2 k
   refine⟨λt=>if t=s.1.length then e else c t,λt=>by
    show(if t=s.1.length then e else c t)<aa m
    split
    ·exact e1
    ·exact c1 t,λk=>?_⟩
   rw[ln,ko,kl,if_pos rfl,OG (c':=c) λt ht=>if_neg (fN ht),<- ON c e k]
   exact c2 k
  ·rintro⟨c,c1,c2⟩
   refine⟨c s.1.length,c1 _,λk=>?_⟩
   have:=(G.rel _ (al _ (c1 s.1.length))).mpr ⟨c,c1,λk=>by
    rw[ON c _ k]
    have:=c2 k
    rw[ln,ko,kl]at this
    exact this⟩ k
   rw[tM hm hi a (λj=>cf (s.2.getD j []) k)]at this
   exact this
 ·have ln:∀k,gp m (dm m C s.1 c k) (gm m (c s.1.length) (C (w-s.2.length+i) k))=0:=λk=>by
   rw[<-Df hm C s.1 _ c k]
   exact hz k
  have e0:c s.1.length=0:=by
   refine qO λz=>?_
   have al:∀j,(if j<i then 0 else if j=i then c s.1.length else(λ_=>0) (j-i-1))<aa m:=λj=>by
    split
    ·omega
    ·split
     ·exact hc _
     ·show 0<_;omega
   have z0:∀(n:Nat) (X:Nat->Nat),sm (gp m) n (λj=>gm m ((λ_=>0) j) (X j))=0:=λn X=>eP r λ_ _=>eO m _ h0
   have:=(G.rel _ al).mpr ⟨c,hc,λk=>by
    rw[tM hm hi (λ_=>0) (λj=>C (w-s.2.length+j) k),z0,r.z (bI hm _ _),n8]
    exact ln k⟩
   have nn:nul (s.2.getD i [])=true:=OH.mpr λk=>by
    have q:=this k
    rw[tM hm hi (λ_=>0) (λj=>cf (s.2.getD j []) k),z0,r.z (bI hm _ _)]at q
    rcases(Av hm (hc _) (cS hm ba k)).mp q with y | y
    ·exact absurd y z
    ·exact y
   rw[nb]at nn;cases nn
  have hs:∀k,dm m C s.1 c k=0:=λk=>by
   have:=ln k
   rw[e0,eO m _ h0,jH (cB3 hm C _ c k)]at this
   exact this
  have hl:(g9 m w (s,i)).1.length=s.1.length+1:=by show(s.1++[_]).length=_;rw[du];rfl
  by_cases ct:t<s.1.length
  ·exact G.ind c hc hs t ct
  ·rw[show t=s.1.length by omega];exact e0
theorem Gs.bound(hm:m∈aA){s:Cs}(G:Gs m C w s){i:Nat}(hi:i<s.2.length)(hC:∀j k,C j k<aa m):nul (s.2.getD i [])=true↔∃c:Nat->Nat,(∀t,c t<aa m)/\c s.1.length=1/\∀k,dm m C (s.1++[w-s.2.length+i]) c k=0:=by
 have r:=rg hm
 have h0:=bO m hm
 have cO:=lo1 hm
 obtain⟨h,Dg⟩:=G.rt
 obtain⟨bl,ba⟩:=Dg _ (bQ hi [])
 have al:∀j,(if j<i then 0 else if j=i then 1 else(λ_=>0) (j-i-1))<aa m:=λj=>by
  split
  ·omega
  ·split
   ·omega
   ·show 0<_;omega
 have z0:∀(n:Nat) (X:Nat->Nat),sm (gp m) n (λj=>gm m ((λ_=>0) j) (X j))=0:=λn X=>eP r λ_ _=>eO m _ h0
 have e1:nul (s.2.getD i [])=true↔∀k,sm (gp m) s.2.length (λj=>gm m (if j<i then 0 else if j=i then 1 else(λ_=>0) (j-i-1)) (cf (s.2.getD j []) k))=0:=by
  rw[OH]
  refine forall_congr' λk=>?_
  rw[tM hm hi (λ_=>0) (λj=>cf (s.2.getD j []) k),z0,r.z (bI hm _ _),n6 (cS hm ba k)]
 rw[e1,G.rel _ al]
 constructor
 ·rintro⟨c,c1,c2⟩
  refine⟨λt=>if t=s.1.length then 1 else c t,λt=>by
   show(if t=s.1.length then 1 else c t)<aa m
   split
   ·omega
   ·exact c1 t,if_pos rfl,λk=>?_⟩
  rw[Df hm,if_pos rfl,OG (c':=c) λt ht=>if_neg (fN ht),n8,<- c2 k,tM hm hi (λ_=>0) (λj=>C (w-s.2.length+j) k),z0,r.z (bI hm _ _)]
 ·rintro⟨c,c1,c2,c3⟩
  refine⟨c,c1,λk=>?_⟩
  have:=c3 k
  rw[Df hm,c2]at this
  rw[tM hm hi (λ_=>0) (λj=>C (w-s.2.length+j) k),z0,r.z (bI hm _ _),n8]
  exact this
end
end L3
namespace L3
open PySem L2 Mf
def jP:List Nat->List Nat->Prop
 | a::as,b::bs=>a<b\/(a=b/\jP as bs)
 | _,_=>False
theorem OO:∀l:List Nat,¬ jP l l
 | [],h=>h
 | a::l,h=>h.elim (λz=>h7 _ z) λz=>OO l z.2
theorem OP:∀a b:List Nat,jP a b->¬ jP b a
 | [],_,h,_=>h
 | _::_,[],h,_=>h
 | a::as,b::bs,h,h'=>by
  rcases h with h | ⟨rfl,h⟩
  ·rcases h' with h' | ⟨e,_⟩
   ·omega
   ·omega
  ·rcases h' with h' | ⟨_,h'⟩
   ·omega
   ·exact OP as bs h h'
theorem OQ:∀(a b:List Nat) (x y:List Nat),a.length=b.length->jP a b->jP (a++x) (b++y)
 | [],_,_,_,_,h=>h.elim
 | _::_,[],_,_,_,h=>h.elim
 | a::as,b::bs,x,y,hl,h=>by
  rcases h with h | ⟨e,h⟩
  ·exact .inl h
  ·exact .inr ⟨e,OQ as bs x y (by simpa using hl) h⟩
theorem OR:∀(a:List Nat) (x y:Nat),x<y->jP (a++[x]) (a++[y])
 | [],_,_,h=>.inl h
 | _::as,x,y,h=>.inr ⟨rfl,OR as x y h⟩
def dB(w:Nat)(S:List Nat):Prop:=S.Pairwise (· < ·)/\∀x∈S,x<w
theorem OS:∀(S:List Nat) (lo w:Nat),S.Pairwise (· < ·)->(∀x∈S,lo<=x/\x<w)->S.length<=w-lo
 | [],_,_,_,_=>h8 _
 | a::S,lo,w,hp,h=>by
  rw[uB]at hp
  have ih:=OS S (a+1) w hp.2 λx hx=>⟨hp.1 x hx,(h x (e5 _ hx)).2⟩
  have ha:=h a (gD ..)
  rw[ft]
  omega
theorem dB.len{S:List Nat}{w:Nat}(h:dB w S):S.length<=w:=OS S 0 w h.1 λx hx=>⟨h8 _,h.2 x hx⟩
theorem dB.take{S:List Nat}{w:Nat}(h:dB w S)(k:Nat):dB w (S.take k):=⟨h.1.sublist (List.take_sublist k S),λx hx=>h.2 x (qR hx)⟩
def kP(w:Nat)(z:Cs × Nat):List Nat:=z.1.1++[w-z.1.2.length+z.2]
structure Lv(m:Bool × Nat)(C:Nat->Nat->Nat)(w k:Nat)(l:List Cs):Prop where
 gs:∀s∈l,Gs m C w s/\s.1.length=k
 all:∀S,dB w S->S.length=k->∃s∈l,s.1=S
 ord:(l.map (·.1)).Pairwise jP
theorem xS{l:List Cs}{z:Cs × Nat}:z∈dS l↔z.1∈l/\z.2<z.1.2.length:=by
 unfold dS
 rw[Kg]
 constructor
 ·rintro⟨s,hs,hz⟩
  obtain⟨i,hi,rfl⟩:=bw.mp hz
  exact⟨hs,bT.mp hi⟩
 ·rintro⟨h1,h2⟩
  exact⟨z.1,h1,bw.mpr ⟨z.2,bT.mpr h2,rfl⟩⟩
section
variable{m:Bool × Nat}{C:Nat->Nat->Nat}{w:Nat}
theorem Ho{k:Nat}:∀{l:List Cs},(∀s∈l,s.1.length=k)->(l.map (·.1)).Pairwise jP->((dS l).map (kP w)).Pairwise jP
 | [],_,_=>Ea
 | s::l,hl,ho=>by
  rw[cI,uB]at ho
  show(((fU s)++dS l).map (kP w)).Pairwise jP
  rw[eR,BG]
  refine⟨?_,Ho (λs hs=>hl s (e5 _ hs)) ho.2,λa ha b hb=>?_⟩
  ·unfold fU
   rw[bx]
   refine List.pairwise_map.mpr (BH.imp λ{a b} hab=>?_)
   exact OR s.1 _ _ (show w-s.2.length+a<w-s.2.length+b by omega)
  ·obtain⟨z,hz,rfl⟩:=bw.mp ha
   obtain⟨i,_,rfl⟩:=bw.mp hz
   obtain⟨y,hy,rfl⟩:=bw.mp hb
   obtain⟨h1,_⟩:=xS.mp hy
   exact OQ _ _ _ _ (by rw[hl s (gD ..),hl _ (e5 _ h1)]) (ho.1 _ (bw.mpr ⟨_,h1,rfl⟩))
theorem Lv.meets(L:Lv m C w k l){S:List Nat}(hS:dB w S)(hk:S.length=k+1):∃z∈dS l,kP w z=S:=by
 have e:S=S.take k++[S.getD k 0]:=by
  have h1:S.drop k=[S.getD k 0]:=by
   rw[Kh (by omega),List.drop_of_length_le (by omega),aL,aM (by omega)];rfl
  conv=>lhs;rw[<-yQ k S,h1]
 obtain⟨s,hs,es⟩:=L.all _ (hS.take k) (by rw[fZ];omega)
 obtain⟨G,_⟩:=L.gs s hs
 have hj:∀p∈s.1,p<S.getD k 0:=λp hp=>by
  rw[es]at hp
  have:=hS.1
  rw[e,BG]at this
  exact this.2.2 p hp _ (fu.mpr rfl)
 have h1:=G.nx _ hj
 have h2:=hS.2 (S.getD k 0) (bQ (by omega) 0)
 have h3:=G.le
 refine⟨(s,S.getD k 0-(w-s.2.length)),xS.mpr ⟨hs,?_⟩,?_⟩
 ·show S.getD k 0-(w-s.2.length)<s.2.length
  omega
 ·show s.1++[w-s.2.length+(S.getD k 0-(w-s.2.length))]=S
  rw[show w-s.2.length+(S.getD k 0-(w-s.2.length))=S.getD k 0 by omega,es]
  exact e.symm
theorem Lv.next(hm:m∈aA)(hC:∀j k,C j k<aa m)(L:Lv m C w k l)(hn:∀z∈dS l,qo z=false):Lv m C w (k+1) ((dS l).map (g9 m w)) where
 gs:=λs hs=>by
  obtain⟨z,hz,rfl⟩:=bw.mp hs
  obtain⟨h1,h2⟩:=xS.mp hz
  obtain⟨G,hl⟩:=L.gs _ h1
  refine⟨G.next hm h2 (hn z hz) hC,?_⟩
  show(z.1.1++[_]).length=_
  rw[du,hl];rfl
 all:=λS hS hk=>by
  obtain⟨z,hz,e⟩:=L.meets hS hk
  exact⟨g9 m w z,bw.mpr ⟨z,hz,rfl⟩,e⟩
 ord:=by
  rw[bx]
  exact Ho (λs hs=>(L.gs s hs).2) L.ord
theorem Hq(hm:m∈aA)(hC:∀j k,C j k<aa m):∀(f k:Nat) (l:List Cs),Lv m C w k l->w+1<=f+k ->
  match wj m w f l with
  | none=>∀S,dB w S->k<=S.length->l8 m C S
  | some F=>dB w F/\k<F.length/\(∃c:Nat->Nat,(∀t,c t<aa m)/\c (F.length-1)=1/\∀j,dm m C F c j=0)/\∀S,dB w S->k<=S.length->S.length<F.length\/(S.length=F.length/\jP S F)->l8 m C S
 | 0,k,l,L,hf=>λS hS hk=>absurd hS.len (by omega)
 | f+1,k,l,L,hf=>by
  have here:∀S,dB w S->S.length=k->l8 m C S:=λS hS hk=>by
   obtain⟨s,hs,rfl⟩:=L.all S hS hk
   exact(L.gs s hs).1.ind
  rw[wj]
  by_cases l0:l=[]
  ·rw[if_pos l0]
   subst l0
   intro S hS hk
   obtain⟨s,hs,_⟩:=L.all (S.take k) (hS.take k) (by rw[fZ];omega)
   cases hs
  ·rw[if_neg l0]
   cases e:(dS l).find? qo with
   | some z =>
    obtain⟨hz,as,bs,eL,tN⟩:=WR.mp e
    obtain⟨h1,h2⟩:=xS.mp (JV e)
    obtain⟨G,hl⟩:=L.gs _ h1
    have hle:=G.le
    have fl:(kP w z).length=k+1:=by show(z.1.1++[_]).length=_;rw[du,hl];rfl
    refine⟨⟨?_,λx hx=>?_⟩,by show k<(kP w z).length;omega,?_,λS hS hk hc=>?_⟩
    ·refine BG.mpr ⟨G.inc,Kf _ _,λx hx y hy=>?_⟩
     rw[fu.mp hy]
     have:=G.off x hx
     omega
    ·rcases cM.mp hx with q | q
     ·have:=G.off x q;omega
     ·rw[fu.mp q];omega
    ·obtain⟨c,c1,c2,c3⟩:=(G.bound hm h2 hC).mp hz
     refine⟨c,c1,?_,c3⟩
     show c ((kP w z).length-1)=1
     rw[fl,Nat.add_sub_cancel,<- hl]
     exact c2
    ·by_cases ck:S.length=k
     ·exact here S hS ck
     have cl:S.length=k+1/\jP S (kP w z):=by
      rcases hc with q | ⟨q1,q2⟩
      ·exact absurd (show S.length<(kP w z).length from q) (by omega)
      ·exact⟨(show S.length=(kP w z).length from q1).trans fl,q2⟩
     obtain⟨y,hy,ey⟩:=L.meets hS cl.1
     obtain⟨y1,y2⟩:=xS.mp hy
     obtain⟨Gy,_⟩:=L.gs _ y1
     cases ny:qo y with
     | false =>
      have:=(Gy.next hm y2 ny hC).ind
      rwa [show(g9 m w (y.1,y.2)).1=S from ey]at this
     | true =>
      exfalso
      have od:=Ho (w:=w) (λs hs=>(L.gs s hs).2) L.ord
      rw[eL]at hy od
      rw[eR,cI,BG]at od
      have od2:=(uB.mp od.2.1).1
      rcases cM.mp hy with q | q
      ·have:=tN y q
       rw[ny]at this;simp at this
      ·rcases cw.mp q with q | q
       ·rw[q]at ey
        rw[<-ey]at cl
        exact OO _ cl.2
       ·have:=od2 _ (bw.mpr ⟨y,q,rfl⟩)
        rw[ey]at this
        exact OP _ _ this cl.2
   | none =>
    have hn:∀z∈dS l,qo z=false:=λz hz=>by
     have:=J6.mp e z hz
     simpa using this
    have ih:=Hq hm hC f (k+1) _ (L.next hm hC hn) (by omega)
    dsimp only
    split
    ·rename_i e2
     rw[e2]at ih
     intro S hS hk
     by_cases ck:S.length=k
     ·exact here S hS ck
     ·exact ih S hS (by omega)
    ·rename_i F e2
     rw[e2]at ih
     obtain⟨i1,i2,i3,i4⟩:=ih
     refine⟨i1,by omega,i3,λS hS hk hc=>?_⟩
     by_cases ck:S.length=k
     ·exact here S hS ck
     ·exact i4 S hS (by omega) hc
end
end L3
namespace L3
open PySem L2 Mf
def dD(T:List (List Nat))(j k:Nat):Nat:=cf (T.getD k []) j
theorem Hr{m:Bool × Nat}(hm:m∈aA){w:Nat}{T:List (List Nat)}(hT:RT (aa m) w T)(j k:Nat):dD T j k<aa m:=by
 unfold dD
 by_cases hk:k<T.length
 ·exact cS hm (hT _ (bQ hk [])).2 j
 ·have e:T.getD k []=[]:=by rw[aL,eE (by omega)];rfl
  rw[e]
  have:=lo1 hm
  show 0<_
  omega
theorem Lv.start{m:Bool × Nat}(hm:m∈aA){T:List (List Nat)}(hw:0<ag T)(hT:RT (aa m) (ag T) T):Lv m (dD T) (ag T) 0 [([],dR T)]:=by
 have r:=rg hm
 obtain⟨t1,t2,t3⟩:=G7 (Nat.lt_trans Nat.zero_lt_one (lo1 hm)) hw hT
 refine⟨λs hs=>?_,λS _ h=>⟨_,fu.mpr rfl,(mw.mp h).symm⟩,Kf _ _⟩
 rw[fu.mp hs]
 refine⟨⟨Bl t1,Ea,λp hp=>absurd hp (gE),λj _=>by show ag T-(dR T).length<=j;omega,⟨_,t3⟩,λa ha=>?_,λc _ _ t ht=>absurd ht (by show ¬ t<0;omega)⟩,rfl⟩
 have e:∀k,sm (gp m) (dR T).length (λi=>gm m (a i) (cf ((dR T).getD i []) k))=sm (gp m) (dR T).length λi=>gm m (a i) (dD T (ag T-(dR T).length+i) k):=λk=>b9 λi hi=>by
  rw[Ot (by omega),Om,show ag T-(dR T).length+i=i by omega];rfl
 have z:∀c k,dm m (dD T) [] c k=0:=λ_ _=>rfl
 constructor
 ·intro h
  refine⟨λ_=>0,λ_=>by have:=lo1 hm;show 0<_;omega,λk=>?_⟩
  rw[z,jH (jI r λ_ _=>bI hm _ _),<- e k]
  exact h k
 ·rintro⟨c,_,h⟩ k
  have:=h k
  rw[z,jH (jI r λ_ _=>bI hm _ _),<- e k]at this
  exact this
def gB(m:Bool × Nat)(T:List (List Nat)):Option (List Nat):=wj m (ag T) (ag T+1) [([],dR T)]
section
variable{m:Bool × Nat}{C:Nat->Nat->Nat}
theorem OT(F:List Nat)(t0 t:Nat):(F.eraseIdx t0).getD t 0=if t<t0 then F.getD t 0 else F.getD (t+1) 0:=by
 rw[aL,List.getElem?_eraseIdx]
 split
 ·rw[<-aL]
 ·rw[<-aL]
theorem b34(hm:m∈aA){F:List Nat}{t0:Nat}(h:t0<F.length){x:Nat->Nat}(hx:x t0=0)(k:Nat):dm m C (F.eraseIdx t0) (λt=>if t<t0 then x t else x (t+1)) k=dm m C F x k:=by
 have r:=rg hm
 unfold dm
 obtain⟨d,hd⟩:∃d,F.length=t0+1+d:=⟨F.length-t0-1,by omega⟩
 rw[WS h,hd,show t0+1+d-1=t0+d by omega,Ah r t0 d λ_ _=>bI hm _ _,Ah r (t0+1) d λ_ _=>bI hm _ _,sm,hx,eO m _ (bO m hm),jH (jI r λ_ _=>bI hm _ _)]
 congr 1
 ·exact b9 λt ht=>by rw[if_pos ht,OT,if_pos ht]
 ·exact b9 λt _=>by rw[if_neg (by omega),OT,if_neg (by omega),show t0+t+1=t0+1+t by omega]
theorem dB.erase{w:Nat}{F:List Nat}(h:dB w F)(t0:Nat):dB w (F.eraseIdx t0):=⟨h.1.sublist (List.eraseIdx_sublist F t0),λx hx=>h.2 x (List.mem_of_mem_eraseIdx hx)⟩
theorem ct8(hm:m∈aA){w:Nat}{F:List Nat}(hF:dB w F)(hS:∀S,dB w S->S.length<F.length->l8 m C S){x:Nat->Nat}(hx:∀t,x t<aa m)(h:∀k,dm m C F x k=0){t1:Nat}(h1:t1<F.length)(x1:x t1≠0):∀t,t<F.length->x t≠0:=λt0 h0 z=>by
 have l1:(F.eraseIdx t0).length=F.length-1:=WS h0
 have I:=hS _ (hF.erase t0) (by omega) (λt=>if t<t0 then x t else x (t+1)) (λt=>by
  show(if t<t0 then x t else x (t+1))<aa m
  split
  ·exact hx _
  ·exact hx _) λk=>by rw[b34 hm h0 z];exact h k
 by_cases c:t1<t0
 ·have:=I t1 (by omega)
  rw[if_pos c]at this
  exact x1 this
 ·have ne:t1≠t0:=λq=>x1 (q ▸ z)
  have:=I (t1-1) (by omega)
  rw[if_neg (by omega),show t1-1+1=t1 by omega]at this
  exact x1 this
end
def bj(T:List (List Nat))(F:List Nat):List (List Nat):=T.map λr=>F.map λj=>r.getD j 0
theorem oi{N w:Nat}{T:List (List Nat)}{F:List Nat}(h0:0<N)(hT:RT N w T):RT N F.length (bj T F)/\(bj T F).length=T.length:=by
 refine⟨λx hx=>?_,by unfold bj;rw[aW]⟩
 obtain⟨r,hr,rfl⟩:=bw.mp hx
 refine⟨by rw[aW],λy hy=>?_⟩
 obtain⟨j,_,rfl⟩:=bw.mp hy
 exact(hT r hr).2.getD h0 j
theorem Hs{T:List (List Nat)}{F:List Nat}{k t:Nat}(hk:k<T.length)(ht:t<F.length):cf ((bj T F).getD k []) t=dD T (F.getD t 0) k:=by
 unfold bj dD cf
 rw[tH _ hk [] [],tH _ ht 0 0]
theorem Ht(m:Bool × Nat){T:List (List Nat)}{F:List Nat}{k:Nat}(hk:k<T.length)(x:Nat->Nat):dt m F.length (cf ((bj T F).getD k [])) x=dm m (dD T) F x k:=by
 unfold dt dm
 exact b9 λt ht=>by rw[Hs hk ht,gz]
theorem cL6{m:Bool × Nat}(hm:m∈aA){w:Nat}{T:List (List Nat)}{F:List Nat}(hT:RT (aa m) w T)(Hu:T≠[])(hF:dB w F)(hS:∀S,dB w S->S.length<F.length->l8 m (dD T) S){c:Nat->Nat}(c1:∀t,c t<aa m)(c2:c (F.length-1)=1)(c3:∀k,dm m (dD T) F c k=0)(hF0:0<F.length) :
  ∃f fs,cH (bf m (bj T F)) F.length=f::fs/\(dN m (bf m (bj T F)) F.length f).length=F.length/\AllLt (aa m) (dN m (bf m (bj T F)) F.length f)/\(∀t,t<F.length->cf (dN m (bf m (bj T F)) F.length f) t≠0)/\∀k,dm m (dD T) F (cf (dN m (bf m (bj T F)) F.length f)) k=0:=by
 have cO:=lo1 hm
 obtain⟨p1,p2⟩:=oi (F:=F) (by omega) hT
 have pn:bj T F≠[]:=λz=>Hu (by unfold bj at z;exact Ki.mp z)
 have eW:=tJ p1 pn
 rw[<-eW]at p1
 obtain⟨⟨H,I⟩,iR,il,sp⟩:=gL hm p1
 have dz:∀x:Nat->Nat,(∀k,dm m (dD T) F x k=0)->∀r∈bj T F,dt m F.length (cf r) x=0:=λx hx r hr=>by
  obtain⟨k,hk,rfl⟩:=fh hr
  have:=Ht m (T:=T) (F:=F) (k:=k) (by omega) x
  rw[aL,aM hk]at this
  rw[show dt m F.length (cf (bj T F)[k]) x=_ from this]
  exact hx k
 cases ef:cH (bf m (bj T F)) F.length with
 | nil =>
  exfalso
  have hz:∀i,i<(bf m (bj T F)).length->dt m (ag (bj T F)) (cf ((bf m (bj T F)).getD i [])) c=0:=λi hi=>by
   rw[eW]
   exact bP.ann hm (n:=F.length) (y:=c) (dz c c3) ((sp _).mpr (bP.of (bQ hi [])))
  have:=RR.Ov hm iR I c1 hz (k:=F.length-1) (by omega)
  rw[eW,ef,c2]at this
  exact absurd this (by show ¬ (1=0);omega)
 | cons f fs =>
  have fm:f∈cH (bf m (bj T F)) (ag (bj T F)):=by rw[eW,ef];exact gD ..
  obtain⟨k1,k2,k3,_⟩:=tI hm iR I fm
  rw[eW]at k1 k2 k3
  have fl:f<F.length:=by
   have:=bT.mp (mj.mp fm).1
   omega
  have lz:∀k,dm m (dD T) F (cf (dN m (bf m (bj T F)) F.length f)) k=0:=λk=>by
   by_cases hk:k<T.length
   ·have:=OB hm p1 fm _ (bQ (show k<(bj T F).length by omega) [])
    rw[eW,Ht m hk]at this
    exact this
   ·refine eP (rg hm) λt _=>?_
    have e:dD T (F.getD t 0) k=0:=by
     unfold dD
     rw[show T.getD k []=[] by rw[aL,eE (by omega)];rfl];rfl
    rw[e,gK m _ (bO m hm)]
  exact⟨f,fs,rfl,k1,k2,ct8 hm hF hS (cS hm k2) lz fl (by rw[k3];omega),lz⟩
theorem OU:∀(n lo w:Nat) (F:List Nat),F.Pairwise (· < ·)->(∀x∈F,lo<=x)->F.length=n->F=k7 lo n\/jP (k7 lo n) F
 | 0,_,_,F,_,_,h=>.inl (mw.mp h)
 | n+1,lo,w,F,hp,hl,h=>by
  cases F with
  | nil=>cases h
  | cons a F =>
   rw[uB]at hp
   have ha:=hl a (gD ..)
   rw[Et]
   by_cases e:lo=a
   ·subst e
    rcases OU n (lo+1) w F hp.2 (λx hx=>hp.1 x hx) (by simpa using h)with q | q
    ·exact .inl (by rw[q])
    ·exact .inr (.inr ⟨rfl,q⟩)
   ·exact .inr (.inl (by omega))
theorem cb7{o:Bool}{G:List (List Nat)}{i:Nat}{d:D}(hd:(au o G)[i]?=some d):∃hi:i<G.length,d=.lst o (aj G[i]):=by
 unfold au at hd
 rw[bM]at hd
 by_cases hi:i<G.length
 ·rw[aM hi]at hd
  exact⟨hi,(cT hd).symm⟩
 ·rw[eE (by omega)]at hd;cases hd
end L3
namespace L3
open PySem L2 PySem.Spec PyProof.Rows
section
variable{B:Bs}{F H:Hp}{σ:L2.St}{δ:Dl}{ts:List (D × V)}
theorem av.dc6{p:Addr}{d:D}{xs:List D}{ws:List V}{z:V}(c:av B F H σ δ ((.lst true (d::xs),.ref p)::ts))(e1:H p=some (.lst (z::ws))):av B F H σ δ ((d,z)::ts):=by
 refine av.pack (ps:=[(.lst true (d::xs),.ref p)]) c (ah.refl _) λA1 r1 nd=>?_
 have r1:R F H [.lst true (d::xs)] [.ref p] A1:=r1
 cases r1 with
 | @own _ wx _ Ax _ _ Bx hx fx rx rc =>
  cases rc
  rw[e1]at hx;cases hx
  obtain⟨v,cX,B1,B2,e,rfl,h1,h2⟩:=R.dq rx
  obtain⟨rfl,rfl⟩:=nE e
  rw[gu,iZ]at nd
  exact⟨B1,h1,(jc.mp nd.2).1,λa ha=>.inl (by simp[ha])⟩
end
section
variable{X:Cx}{a:Expr}{ta:aJ}{pos p2:Pos}{tk:Nat}
def tO(ta:aJ):aJ:=λδ Q=>ta δ λx ao=>∃d xs,x=.lst true (d::xs)/\Q d ao
theorem cJ9(ha:PE X a (lE ta))(hs:E1 (.Constant (.int 0) tk p2)):PE X (.Subscript a (.Constant (.int 0) tk p2) pos) (lE (tO ta)) :=
 dr (Li Lm ha KA hs) λσ H Q zq=>by
 obtain⟨B,F,δ,ts,Qd,c,q,k⟩:=zq
 exact⟨B,F,δ,ts,_,c,q,λx ao v F1 H1 q1 f1 h1 c1=>by
  obtain⟨d,xs,rfl,hq⟩:=q1
  obtain⟨p,ws,rfl,e1,s1⟩:=iP c1.top c1.ext
  obtain⟨z,vs,rfl,_,_⟩:=S.dq s1
  exact⟨p,_,0,z,rfl,rfl,jh (.inl e1),(by unfold fc;rw[CS (Int.le_refl 0) (by show 0<(z::vs).length;simp)];rfl),k _ ao z F1 H1 hq f1 h1 (c1.dc6 e1)⟩⟩
end
end L3
namespace L3
open PySem L2 PySem.Spec PyProof.Rows
section
variable{X:Cx}{a b:Expr}{ta tb:aJ}{elts:List Expr}{x1:Nat}{mF p pos:Pos}
def tP(ta tb:aJ):iO:=λδ Q=>ta δ λd1 ao=>tb ao λd2 bg=>∃xs ys,jB d1=some xs/\d2=.lst true ys/\d1.pl=true/\Q true (dQ xs (ys.map D.sh)) bg
theorem cC6(hg:Gl X "zip")(hm:X.mg "zip"=none)(ha:PE X a (lB ta))(hb:PE X b (lE tb))(hs:starEach [a,b] X.env=[(false,eval a X.env),(false,eval b X.env)]:=by rfl)(gx:starEach [b] X.env=[(false,eval b X.env)]:=by rfl)
  (wk:starEach [a,b] X.env=(false,eval a X.env)::starEach [b] X.env:=by rfl) (hs4:starEach [b] X.env=(false,eval b X.env)::starEach [] X.env:=by rfl) :
  PI X (.Tuple elts x1 mF) (.Call (.Name "zip" p) [a,b] [] pos) (lI (tP ta tb)) :=
 u5 (Mh hg hm (jy ha (jy hb oJ hs4) wk) hs gx) λσ H Q zq=>by
 obtain⟨B,F,δ,ts,Qd,c,q,k⟩:=zq
 exact⟨B,F,δ,ts,_,c,q,λd1 ao v1 F1 H1 q1 f1 h1 c1 s1=>⟨B,F1,ao,ts,_,c1,q1,λd2 bg v2 F2 H2 q2 f2 h2 c2=>by
  obtain⟨xs,ys,i1,rfl,hp,hq⟩:=q2
  obtain⟨F3,f3,c3⟩:=c2.zE
  have tp:=c3.top
  have mW:=(s1.mono f2 h2).mono f3 (ah.refl _)
  have e2:=c3.ext
  have sn:=rm e2
  have OV:(D.lst true ys).sh.pl=true:=by
   rw[bV]
   cases tp with
   | @shr _ _ _ _ _ rS r' _ =>
    have z:=r'.pl
    rw[Fx]at z
    rw[eI,z];rfl
  obtain⟨p1,w1,rfl,r1,t1,u1⟩:=zV mW e2 i1
  obtain⟨p2,w2,rfl,r2,t2,u2⟩:=zV (xs:=ys.map D.sh) tp e2 (by rw[bV];rfl)
  refine⟨p1,p2,rfl,⟨w1,.inl r1⟩,⟨w2,.inl r2⟩,k _ _ bg _ _ H2 hq (((f1.trans f2).trans f3).trans sn) (h1.trans h2) c3.pop.snap ?_ λz=>?_⟩
  ·rw[F7]
   exact Cq r1 t1 r2 t2 (Full.refl _)
  ·obtain⟨a1,a2,a3⟩:=u1 hp
   obtain⟨b1,b2,b3⟩:=u2 OV
   exact⟨M1 a1 b1,Cq (iM a2 sn) (a3.shared sn (ah.refl _)) (iM b2 sn) (b3.shared sn (ah.refl _)) uZ⟩⟩⟩
end
end L3
namespace L3
open PySem L2 Mf
section
variable{m:Bool × Nat}
theorem OW(hm:m∈aA){T:List (List Nat)}(hw:0<ag T)(hT:RT (aa m) (ag T) T)(h:gB m T=none):∀S,dB (ag T) S->l8 m (dD T) S:=by
 have:=Hq hm (Hr hm hT) (ag T+1) 0 _ (Lv.start hm hw hT) (by omega)
 unfold gB at h
 rw[h]at this
 exact λS hS=>this S hS (h8 _)
theorem tQ(hm:m∈aA){T:List (List Nat)}(hw:0<ag T)(hT:RT (aa m) (ag T) T){F:List Nat}(h:gB m T=some F):dB (ag T) F/\0<F.length/\(∃c:Nat->Nat,(∀t,c t<aa m)/\c (F.length-1)=1/\∀j,dm m (dD T) F c j=0)/\∀S,dB (ag T) S->S.length<F.length\/(S.length=F.length/\jP S F)->l8 m (dD T) S:=by
 have:=Hq hm (Hr hm hT) (ag T+1) 0 _ (Lv.start hm hw hT) (by omega)
 unfold gB at h
 rw[h]at this
 obtain⟨a,b,c,d⟩:=this
 exact⟨a,b,c,λS hS=>d S hS (h8 _)⟩
theorem Hv(hm:m∈aA){w:Nat}:∀(F s x:List Nat),F.length=s.length->F.Pairwise (· < ·)->(∀p∈F,p<w)->x.length=w->AllLt (aa m) x->AllLt (aa m) s->(∀p∈F,cf x p=0) ->
  ((F.zip s).foldl (λr z=>r.set z.1 z.2) x).length=w/\AllLt (aa m) ((F.zip s).foldl (λr z=>r.set z.1 z.2) x)/\(∀p,p ∉ F->cf ((F.zip s).foldl (λr z=>r.set z.1 z.2) x) p=cf x p)/\(∀t,t<F.length->cf ((F.zip s).foldl (λr z=>r.set z.1 z.2) x) (F.getD t 0)=cf s t) /\
  ∀r:Nat->Nat,dt m w r (cf ((F.zip s).foldl (λr z=>r.set z.1 z.2) x))=gp m (dt m w r (cf x)) (sm (gp m) F.length λt=>gm m (r (F.getD t 0)) (cf s t))
 | [],s,x,_,_,_,h1,h2,_,_=>⟨h1,h2,λ_ _=>rfl,λt ht=>(nomatch ht),λr=>(jH (cL9 hm w r _)).symm⟩
 | p::F,[],x,hl,_,_,_,_,_,_=>nomatch hl
 | p::F,v::s,x,hl,hp,hw,h1,h2,h3,hz=>by
  rw[uB]at hp
  have pw:=hw p (gD ..)
  have hv:v<aa m:=h3 v (gD ..)
  have cs:∀j,cf (x.set p v) j=if j=p then v else cf x j:=cx6 (by omega)
  obtain⟨a1,a2,a3,a4,a5⟩:=Hv hm F s (x.set p v) (by simpa using hl) hp.2 (λq hq=>hw q (e5 _ hq)) (by rw[qK];exact h1) (λy hy=>by
   rcases Em hy with h | h
   ·exact h2 y h
   ·rw[h];exact hv) (λy hy=>h3 y (e5 _ hy)) (λq hq=>by
   rw[cs,if_neg (by have:=hp.1 q hq;omega)]
   exact hz q (e5 _ hq))
  have pF:p ∉ F:=λh=>h7 _ (hp.1 p h)
  refine⟨a1,a2,λq hq=>?_,λt ht=>?_,λr=>?_⟩
  ·rw[cw,not_or]at hq
   show cf ((F.zip s).foldl (λr z=>r.set z.1 z.2) (x.set p v)) q=_
   rw[a3 q hq.2,cs,if_neg hq.1]
  ·cases t with
   | zero =>
    show cf ((F.zip s).foldl (λr z=>r.set z.1 z.2) (x.set p v)) p=v
    rw[a3 p pF,cs,if_pos rfl]
   | succ t=>exact a4 t (by simpa using ht)
  ·show dt m w r (cf ((F.zip s).foldl (λr z=>r.set z.1 z.2) (x.set p v)))=_
   rw[a5 r]
   have e1:dt m w r (cf (x.set p v))=gp m (dt m w r (cf x)) (gm m (r p) v):=by
    have:cf (x.set p v)=λk=>gp m (cf x k) (if k=p then v else 0):=by
     funext k
     rw[cs]
     by_cases e:k=p
     ·rw[if_pos e,if_pos e,e,hz p (gD ..),v3 hv]
     ·rw[if_neg e,if_neg e,jH (cS hm h2 k)]
    rw[this,G9 hm]
    congr 1
    have:=l7 (rg hm) (f:=λk=>gm m (r k) (if k=p then v else 0)) (j0:=p) (bI hm _ _) pw (λj _ hj=>by
     show gm m (r j) (if j=p then v else 0)=0
     rw[if_neg hj,gK m _ (bO m hm)])
    show sm (gp m) w (λk=>gm m (r k) (if k=p then v else 0))=_
    rw[this]
    show gm m (r p) (if p=p then v else 0)=_
    rw[if_pos rfl]
   rw[e1,ft,N1 (rg hm) F.length λ_ _=>bI hm _ _,CO]
   rfl
def hE(m:Bool × Nat)(T:List (List Nat))(F:List Nat):List Nat:=dN m (bf m (bj T F)) F.length ((cH (bf m (bj T F)) F.length).headD 0)
def hJ(m:Bool × Nat)(T:List (List Nat))(F:List Nat):List Nat:=(hE m T F).map (gm m (kO m ((hE m T F).getD 0 0)))
def km(m:Bool × Nat)(T:List (List Nat))(F:List Nat):List Nat:=(F.zip (hJ m T F)).foldl (λr z=>r.set z.1 z.2) (aX (ag T) 0)
theorem OX(hm:m∈aA){T:List (List Nat)}(hw:0<ag T)(hT:RT (aa m) (ag T) T){F:List Nat}(h:gB m T=some F):(∃f fs,cH (bf m (bj T F)) F.length=f::fs)/\(hE m T F).length=F.length/\AllLt (aa m) (hE m T F)/\(∀t,t<F.length->cf (hE m T F) t≠0)/\∀k,dm m (dD T) F (cf (hE m T F)) k=0:=by
 obtain⟨a1,a2,⟨c,c1,c2,c3⟩,a4⟩:=tQ hm hw hT h
 have Hu:T≠[]:=λz=>by rw[z]at hw;exact absurd hw (by decide)
 obtain⟨f,fs,e,l1,l2,l3,l4⟩:=cL6 hm hT Hu a1 (λS hS hl=>a4 S hS (.inl hl)) c1 c2 c3 a2
 have ek:hE m T F=dN m (bf m (bj T F)) F.length f:=by unfold hE;rw[e];rfl
 rw[ek]
 exact⟨⟨f,fs,e⟩,l1,l2,l3,l4⟩
theorem OY(hm:m∈aA){T:List (List Nat)}(hw:0<ag T)(hT:RT (aa m) (ag T) T){F:List Nat}(h:gB m T=some F):(hJ m T F).length=F.length/\AllLt (aa m) (hJ m T F)/\cf (hJ m T F) 0=1/\(∀t,t<F.length->cf (hJ m T F) t≠0)/\∀k,dm m (dD T) F (cf (hJ m T F)) k=0:=by
 obtain⟨_,k1,k2,k3,k4⟩:=OX hm hw hT h
 obtain⟨_,a2,_,_⟩:=tQ hm hw hT h
 have k0:=k3 0 a2
 have kl:=cS hm k2 0
 obtain⟨iv,i1,i2⟩:=GP hm (lo1 hm) kl k0
 have ei:kO m ((hE m T F).getD 0 0)=iv:=xR hm i1 i2
 unfold hJ
 rw[ei]
 have ivn:iv≠0:=λz=>by rw[z,eO m _ (bO m hm)]at i2;cases i2
 refine⟨by rw[aW];exact k1,λy hy=>by
  obtain⟨z,_,rfl⟩:=bw.mp hy
  exact bI hm _ _,by rw[CU hm];exact i2,λt ht=>?_,λk=>?_⟩
 ·rw[CU hm]
  intro z
  rcases(Av hm i1 (cS hm k2 t)).mp z with z | z
  ·exact ivn z
  ·exact k3 t ht z
 ·have:dm m (dD T) F (cf ((hE m T F).map (gm m iv))) k=gm m iv (dm m (dD T) F (cf (hE m T F)) k):=by
   unfold dm
   rw[<-n9 (rg hm)]
   refine b9 λt _=>?_
   rw[CU hm,iq (bO m hm)]
  rw[this,k4,gK m _ (bO m hm)]
theorem cz8(hm:m∈aA){T:List (List Nat)}(hw:0<ag T)(hT:RT (aa m) (ag T) T){F:List Nat}(h:gB m T=some F):(km m T F).length=ag T/\AllLt (aa m) (km m T F)/\(∀p,cf (km m T F) p≠0↔p∈F)/\cf (km m T F) (F.getD 0 0)=1/\∀r∈T,gd m r (km m T F)=0:=by
 obtain⟨s1,s2,s3,s4,s5⟩:=OY hm hw hT h
 obtain⟨a1,a2,_,_⟩:=tQ hm hw hT h
 have cO:=lo1 hm
 obtain⟨p1,p2,p3,p4,p5⟩:=Hv hm (w:=ag T) F (hJ m T F) (aX (ag T) 0) s1.symm a1.1 a1.2 (eQ ..) (λy hy=>by rw[(k6.mp hy).2];omega) s2 (λp _=>GO _ _)
 refine⟨p1,p2,λp=>⟨λhp=>?_,λhp=>?_⟩,?_,λr hr=>?_⟩
 ·by_cases c:p∈F
  ·exact c
  ·exact absurd ((p3 p c).trans (GO _ _)) hp
 ·obtain⟨t,ht,e⟩:=fh hp
  have:=p4 t ht
  rw[aL,aM ht]at this
  have e':(some F[t]).getD 0=p:=e
  rw[e']at this
  show cf ((F.zip (hJ m T F)).foldl _ _) p≠0
  rw[this]
  exact s4 t ht
 ·exact(p4 0 a2).trans s3
 ·obtain⟨k,hk,rfl⟩:=fh hr
  have hl:=(hT _ hr).1
  rw[oh m (by show _=(km m T F).length;rw[show(km m T F).length=ag T from p1];exact hl),hl]
  have:=p5 (cf T[k])
  show dt m (ag T) (cf T[k]) (cf (km m T F))=0
  rw[show dt m (ag T) (cf T[k]) (cf (km m T F))=_ from this]
  have z1:dt m (ag T) (cf T[k]) (cf (aX (ag T) 0))=0:=eP (rg hm) λj _=>by
   show gm m _ (cf (aX (ag T) 0) j)=0
   rw[GO,gK m _ (bO m hm)]
  have z2:(sm (gp m) F.length λt=>gm m (cf T[k] (F.getD t 0)) (cf (hJ m T F) t))=0:=by
   refine BI ?_ (s5 k)
   unfold dm
   refine b9 λt _=>?_
   rw[gz]
   unfold dD
   rw[kj hk]
  rw[z1,z2]
  exact v3 (by omega)
structure AA(m:Bool × Nat)(R W:Nat)(x y:Nat->Nat)(T:List (List Nat)):Prop where
 rt:RT (aa m) W T
 l:T.length=R
 xl:∀j,x j<aa m
 xd:∀i j,i<W->j<W->x i=x j->i=j
 yl:∀j,y j<aa m
 y0:∀j,j<W->y j≠0
 at_:∀i,i<R->∃k,k<R/\∀j,j<W->dD T j k=gm m (y j) (px m (x j) i)
theorem AA.ind(hm:m∈aA){R W:Nat}{x y:Nat->Nat}{T:List (List Nat)}(h:AA m R W x y T){S:List Nat}(hS:dB W S)(hR:S.length<=R):l8 m (dD T) S:=by
 intro c hc hz t ht
 have gS:∀t,t<S.length->S.getD t 0<W:=λt ht=>hS.2 _ (bQ ht 0)
 have:=OF hm (λt=>x (S.getD t 0)) (λ_=>h.xl _) S.length (λt=>gm m (c t) (y (S.getD t 0))) (λ_=>bI hm _ _) (λi j hi hj e=>by
  have e':=h.xd _ _ (gS i hi) (gS j hj) e
  rcases J8 i j with q | q | q
  ·have:=Es.mp hS.1 i j hi hj q
   rw[aL,aL,aM hi,aM hj]at e'
   have e2:S[i]=S[j]:=e'
   omega
  ·exact q
  ·have:=Es.mp hS.1 j i hj hi q
   rw[aL,aL,aM hi,aM hj]at e'
   have e2:S[i]=S[j]:=e'
   omega) (λi hi=>by
  obtain⟨k,_,hk⟩:=h.at_ i (by omega)
  refine BI (b9 λt ht=>?_) (hz k)
  show gm m (gm m (c t) (y (S.getD t 0))) (px m (x (S.getD t 0)) i)=gm m (c t) (dD T (S.getD t 0) k)
  rw[hk _ (gS t ht),iq (bO m hm)]) t ht
 rcases(Av hm (hc t) (h.yl _)).mp this with z | z
 ·exact z
 ·exact absurd z (h.y0 _ (gS t ht))
theorem Hw{n W:Nat}(h:n<=W):dB W (aH n):=⟨BH,λx hx=>by have:=bT.mp hx;omega⟩
theorem Hx(hm:m∈aA){W:Nat}{T:List (List Nat)}(hT:RT (aa m) W T){F:List Nat}(hF:T.length<F.length):¬ l8 m (dD T) F:=λI=>by
 have cO:=lo1 hm
 obtain⟨p1,p2⟩:=oi (F:=F) (by omega) hT
 obtain⟨x,f,hf,hx,x1,hz⟩:=Ow hm p1 (by omega)
 have:=I x hx (λk=>by
  by_cases hk:k<T.length
  ·rw[<-Ht m hk];exact hz k (by omega)
  ·refine eP (rg hm) λt _=>?_
   have e:dD T (F.getD t 0) k=0:=by
    unfold dD
    rw[show T.getD k []=[] by rw[aL,eE (by omega)];rfl];rfl
   rw[e,gK m _ (bO m hm)]) f hf
 omega
theorem cs1{C:Nat->Nat->Nat}{F:List Nat}(h0:0<F.length){c:Nat->Nat}(c1:∀t,c t<aa m)(c2:c (F.length-1)=1)(c3:∀k,dm m C F c k=0):¬ l8 m C F:=λI=>by
 have:=I c c1 c3 (F.length-1) (by omega)
 omega
theorem AA.first(hm:m∈aA){R W:Nat}{x y:Nat->Nat}{T:List (List Nat)}(h:AA m R W x y T)(hW:0<W)(hw:ag T=W):gB m T=if R<W then some (aH (R+1))else none:=by
 subst hw
 cases e:gB m T with
 | none =>
  have:=OW hm hW h.rt e
  by_cases c:R<ag T
  ·exact absurd (this _ (Hw (n:=R+1) c)) (Hx hm h.rt (by rw[bN,h.l];omega))
  ·rw[if_neg c]
 | some F =>
  obtain⟨a1,a2,⟨c,c1,c2,c3⟩,a4⟩:=tQ hm hW h.rt e
  have ni:=cs1 a2 c1 c2 c3
  have hl:R<F.length:=Nat.lt_of_not_le λz=>ni (h.ind hm a1 z)
  have c:R<ag T:=dE hl a1.len
  rw[if_pos c]
  have nr:=Hx hm h.rt (F:=aH (R+1)) (by rw[bN,h.l];omega)
  have hr:=Hw (n:=R+1) c
  have lr:(aH (R+1)).length=R+1:=bN
  have l2:F.length=R+1:=by
   rcases uA (R+1) F.length with q | q
   ·exact absurd (a4 _ hr (.inl (by omega))) nr
   ·omega
  rcases OU (R+1) 0 (ag T) F a1.1 (λ_ _=>h8 _) l2 with q | q
  ·rw[q,Ke]
  ·rw[<-Ke]at q
   exact absurd (a4 _ hr (.inr ⟨by omega,q⟩)) nr
end
end L3
namespace L2
open PySem PySem.Spec PyProof.Rows
section
variable{X:Cx}
theorem bZ6:ze X "list.count" (λx xs H Q=>∃(p:Addr) (ns:List Int) (k:Int),x=.ref p/\xs=[.int k]/\bL X.K H p (ns.map V.int)/\Q (.int (ns.count k:Nat)) H):=by
 intro pins s σ H x xs v us Q I rx r h
 obtain⟨p,ns,k,rfl,rfl,hS,q⟩:=h
 cases rx
 obtain⟨u,rfl,ru⟩:=r.one
 obtain⟨t,rfl⟩:=ru
 obtain⟨its,rv,pl,hz⟩:=I.list hS
 exact count_list_ints pl.isList (Lf rv) ⟨.int _,H,I.tok _,⟨_,rfl⟩,q⟩
end
end L2
namespace L3
open PySem L2 PySem.Spec PyProof.Rows
section
variable{X:Cx}{o e:Expr}{t tb:aJ}{apos bR:Pos}
def tR(t tb:aJ):aJ:=λδ Q=>t δ λd ao=>∃(o:Bool) (ns:List Int),d=.lst o (aS ns)/\tb ao λb bg=>∃k,b=.int k/\Q (.int (ns.count k:Nat)) bg
theorem cr9(ho:PE X o (lB t))(he:PE X e (lB tb))(kE:attributeBase o "count" X.env (eval o X.env)=eval o X.env:=by rfl)
  (uU:((backTo bR (starEach [e] X.env)).all (λx=>!x.1)&&(backToKw bR (keywordEach [] X.env)).all (λx=>x.1.isSome)
   && decide ([e].length+([]:List Keyword).length+(if([]:List Keyword).isEmpty then 0 else 1)<30))=true:=by rfl)
  (kF:(apos.endLine==bR.line)=true:=by rfl) (hs:starEach [e] X.env=(false,eval e X.env)::starEach [] X.env:=by rfl) (uV:(backTo bR (starEach [] X.env)).any (·.1)=false:=by rfl) :
  PE X (.Call (.Attribute o "count" apos) [e] [] bR) (lE (tR t tb)) :=
 dr (E7 PySem.F.plainAttrs_list PySem.F.slot_list_count PySem.F.type_list_count bZ6 ho (jy he oJ hs) kE uU kF hs uV) λσ H Q zq=>by
 obtain⟨B,F,δ,ts,Qd,c,q,k⟩:=zq
 exact⟨B,F,δ,ts,_,c,q,λd ao v F1 H1 q1 f1 h1 c1 s1=>by
  obtain⟨o,ns,rfl,q1⟩:=q1
  obtain⟨p,ws,rfl,h,t⟩:=lK s1 c1.ext rfl
  rw[Cw t]at h
  exact⟨.inl ⟨rfl,_,jh h⟩,B,F1,ao,ts,_,c1,q1,λb bg w F2 H2 q2 f2 h2 c2 s2=>by
   obtain⟨n,rfl,q3⟩:=q2
   cases s2
   exact⟨p,ns,n,rfl,rfl,jh (h.elim (λz=>.inl (h2 _ _ z)) λ⟨o,z⟩=>.inr ⟨o,h2 _ _ z⟩),k _ bg _ F2 H2 q3 (f1.trans f2) (h1.trans h2) (c2.pushS (.int .nil) rfl)⟩⟩⟩
end
section
variable{X:Cx}{i:Nat}{x:Str}{p pos apos bR cY0 gA:Pos}{a b:List Stmt}{t u:cE}{k:Int}{j}
end
end L3
namespace L3
open PySem L2 Mf
section
variable{N:Nat}{p q:Nat->Nat->Nat}
variable{ng:Nat->Nat}{c:Nat}
end
section
variable{m:Bool × Nat}
theorem ngn(hm:m∈aA){s:Nat}(hs:s<aa m):bB m 0 s<aa m/\gp m (bB m 0 s) s=0:=by
 have:=jl hm (a:=0) (b:=s) (by omega) hs
 exact⟨this.2.1,this.2.2⟩
end
end L3
namespace L2
open PySem PySem.Spec PyProof.Rows
section
variable{prog:Program}{w:World}{A:Around}{E:Value->Shared->Prop}{s:Shared}
end
section
variable{X:Cx}{e:Expr}{ta:TA}{p p2 pos gA:Pos}
end
end L2
namespace L3
open PySem L2 PySem.Spec PyProof.Rows
section
variable{X:Cx}{e:Expr}{tr:cP}{p p2 pos gA:Pos}
end
end L3
namespace L3
open PySem L2 Mf
section
variable{m:Bool × Nat}
theorem cF2{N:Nat}{p q:Nat->Nat->Nat}(r:Rg N p q){f:Nat->Nat}(hf:∀j,f j<N){n a:Nat}(ha:a<n):sm p n f=p (f a) (sm p n λj=>if j=a then 0 else f j):=by
 rw[b9 (g:=λj=>p (if j=a then f a else 0) (if j=a then 0 else f j)) λj _=>?_,nj r,l7 r (f:=λj=>if j=a then f a else 0) (j0:=a) (by simp[hf]) ha λj _ hj=>if_neg hj]
 ·simp
 ·by_cases c:j=a
  ·subst c;simp[r.z' (hf j)]
  ·simp[c,r.z (hf j)]
theorem OZ{N:Nat}{p q:Nat->Nat->Nat}(r:Rg N p q){n:Nat}:∀{ps:List Nat} {f:Nat->Nat},(∀j,f j<N)->ps.Nodup->(∀a∈ps,a<n)->(∀j,j<n->j ∉ ps->f j=0)->sm p n f=sm p ps.length λk=>f (ps.getD k 0)
 | [],f,_,_,_,hz=>eP r λj hj=>hz j hj gE
 | a::ps,f,hf,nd,hp,hz=>by
  obtain⟨n1,n2⟩:=iZ.mp nd
  have G2:∀j,(if j=a then 0 else f j)<N:=λj=>by
   by_cases c:j=a
   ·rw[if_pos c];exact r.pos
   ·rw[if_neg c];exact hf j
  rw[cF2 r hf (hp a gD),OZ r (ps:=ps) G2 n2 (λb hb=>hp b (e5 _ hb)) λj hj hn=>?_,ft,N1 r _ λj _=>hf _]
  ·show _=p (f a) (sm p ps.length λk=>f (ps.getD k 0))
   congr 1
   refine b9 λj hj=>?_
   have:=bQ hj 0
   exact if_neg λ(z:ps.getD j 0=a)=>n1 (z ▸ this)
  ·by_cases c:j=a
   ·exact if_pos c
   ·rw[if_neg c]
    exact hz j hj λh=>by
     rcases cw.mp h with h | h
     ·exact c h
     ·exact hn h
theorem cw8(hm:m∈aA){a b:Nat}(ha:a<aa m)(hb:b<aa m)(h:a≠b):bB m a b≠0:=λz=>by
 have g:=(jl hm ha hb).2.2
 rw[z,v3 hb]at g
 exact h g.symm
section
variable{b e L o:Nat}{y:List (Option Nat)}{w c:List Nat}{bb:Nat->Nat}
end
end
def xT:Option Nat->D
 | none=>.az
 | some a=>.int (a:Int)
def qp(y:List (Option Nat)):List D:=y.map xT
theorem O0(a:Option Nat):(xT a).sh=xT a:=by cases a<;>rfl
theorem cv0:∀a b:Option Nat,xT a=xT b->a=b
 | none,none,_=>rfl
 | some a,some b,h=>by
  have:(D.int (a:Int))=D.int (b:Int):=h
  injection this with h
  rw[show a=b by omega]
 | none,some _,h=>by cases h
 | some _,none,h=>by cases h
theorem cu6(y:List (Option Nat)):(qp y).map D.sh=qp y:=by
 unfold qp;rw[bx];exact mv λa _=>O0 a
theorem b65(y:List (Option Nat)):(qp y).length=y.length:=aW ..
end L3
namespace L3
open PySem L2 Mf
section
variable{m:Bool × Nat}
theorem oj:∀{l l':List Nat},l.Nodup->(∀a∈l,a∈l')->l.length<=l'.length
 | [],_,_,_=>h8 _
 | a::l,l',nd,h=>by
  obtain⟨n1,n2⟩:=iZ.mp nd
  have ha:=h a gD
  have:=oj (l:=l) (l':=l'.erase a) n2 λb hb=>(List.mem_erase_of_ne (λz:b=a=>n1 (z ▸ hb))).mpr (h b (e5 _ hb))
  rw[List.length_erase_of_mem ha]at this
  have:=WT ha
  rw[ft]
  omega
end
end L3
namespace L3
open PySem L2 Mf
section
variable{m:Bool × Nat}
end
end L3
namespace L3
open PySem L2 Mf
section
variable{m:Bool × Nat}
end
end L3
namespace L3
open PySem L2 Mf
section
variable{m:Bool × Nat}
theorem O1(hm:m∈aA){r u v ps:List Nat}{n:Nat}(hu:AllLt (aa m) u)(hv:AllLt (aa m) v)(lr:r.length=n)(lu:u.length=n)(lv:v.length=n)(nd:ps.Nodup)(hp:∀p∈ps,p<n)(hs:∀j,j<n->j ∉ ps->cf u j=cf v j) :
  gd m r u=gp m (sm (gp m) ps.length λt=>gm m (cf r (ps.getD t 0)) (bB m (cf u (ps.getD t 0)) (cf v (ps.getD t 0)))) (gd m r v):=by
 have g:=rg hm
 have h0:=bO m hm
 have dn:∀j,gp m (bB m (cf u j) (cf v j)) (cf v j)=cf u j:=λj=>(jl hm (cS hm hu j) (cS hm hv j)).2.2
 rw[oh m (lr.trans lu.symm),oh m (lr.trans lv.symm),lr,
  b9 (g:=λk=>gp m (gm m (cf r k) (bB m (cf u k) (cf v k))) (gm m (cf r k) (cf v k))) λk _=>by rw[<-Af h0,dn k],nj g,
  OZ g (ps:=ps) (f:=λk=>gm m (cf r k) (bB m (cf u k) (cf v k))) (λ_=>bI hm _ _) nd hp λj hj hn=>by rw[hs j hj hn,CT,gK m _ h0]]
theorem xU{T:List (List Nat)}{F:List Nat}(h:0<T.length):ag (bj T F)=F.length:=by
 unfold ag bj
 cases T with
 | nil=>cases h
 | cons r T=>rw[cI,List.headD_cons,aW]
end
end L3
namespace L3
open PySem L2 PySem.Spec PyProof.Rows
section
variable{X:Cx}{e:Expr}{t:aJ}
def tS(t:aJ):aJ:=λδ Q=>t δ λd ai=>Q d.sh ai
theorem Hy(h:PE X e (lE t)):PE X e (lB (tS t)):=dr h λσ H Q zq=>by
 obtain⟨B,F,δ,ts,Qd,c,q,k⟩:=zq
 exact⟨B,F,δ,ts,_,c,q,λd ai v F' H' hd sf sh c'=>by
 obtain⟨F2,f2,c2⟩:=c'.zE
 exact k d.sh ai v F2 H' hd (sf.trans f2) sh c2.pop c2.top⟩
end
end L3
namespace L3
open PySem L2 Mf
section
variable{m:Bool × Nat}
theorem O2(hm:m∈aA){T:List (List Nat)}(hT:RT (aa m) (ag T) T):RT (aa m) (ag T) (jo m (bf m T) (ag T))/\(jo m (bf m T) (ag T)).length<=ag T:=by
 obtain⟨⟨Hd,I⟩,iR,_,_⟩:=gL hm hT
 refine⟨λr hr=>?_,?_⟩
 ·obtain⟨f,hf,rfl⟩:=bw.mp hr
  obtain⟨k1,k2,_⟩:=tI hm iR I hf
  exact⟨k1,k2⟩
 ·unfold jo cH
  rw[aW]
  exact fY (WU ..) (by rw[bN];exact cg _)
theorem cD4(hm:m∈aA){T:List (List Nat)}(hT:RT (aa m) (ag T) T):∀r∈bf m T,∃x∈r,x≠0:=λr aP=>by
 obtain⟨⟨Hd,I⟩,iR,_,_⟩:=gL hm hT
 obtain⟨j,hj,rfl⟩:=fh aP
 have:=(I.wb hm iR hj).2
 rw[kj hj]at this
 exact this
theorem cn3(hm:m∈aA){T:List (List Nat)}{xs:List Nat}(hT:RT (aa m) (ag T) T)(hx:xs.length=(jo m (bf m T) (ag T)).length):∀r∈T,gd m r (gM m xs (jo m (bf m T) (ag T)) (ag T))=0:=λr hr=>by
 have h0:=bO m hm
 obtain⟨⟨Hd,I⟩,iR,_,_⟩:=gL hm hT
 have s:bP m (bf m T) (cf r):=bP.red hm hT (bP.of hr)
 rw[oh m ((hT r hr).1.trans (we ..).symm),(hT r hr).1]
 rw[b9 (g:=λj=>gm m (cf r j) (sm (gp m) (jo m (bf m T) (ag T)).length λi=>gm m (cf xs i) (cf ((jo m (bf m T) (ag T)).getD i []) j))) λj hj=>by rw[Ap m hx hj]]
 have e:=Ha hm (ag T) (cf r) (cf xs) (λi=>cf ((jo m (bf m T) (ag T)).getD i [])) (jo m (bf m T) (ag T)).length
 unfold dt at e
 rw[e]
 refine eP (rg hm) λi hi=>?_
 have z:=bQ hi []
 generalize (jo m (bf m T) (ag T)).getD i []=K at z
 obtain⟨f,hf,rfl⟩:=bw.mp z
 have:=bP.dt hm (R:=bf m T) (n:=ag T) (y:=cf (dN m (bf m T) (ag T) f)) (λi hi=>Dc hm iR I hf hi) s
 unfold dt at this
 rw[this,gK m _ h0]
end
end L3
namespace L3
open PySem L2 Mf
section
variable{m:Bool × Nat}
end
end L3
namespace L2
open PySem PySem.Spec PyProof.Rows
section
variable{X:Cx}{CX:e8}{k:Nat}{f C:Addr}{fd:FuncData}{ps:List Str}{sp:Sp}{E:XK}{x m:Str}{p pos apos:Pos}{e:Expr}{es:List Expr}{t:TA}
def tCM(sp:Sp)(E:XK)(t:TA):TE:=λσ H Q=>t σ H λvs H1=>sp vs H1 Q E
theorem cI8{pl:Sem Bool}(M:qa X.K C m f)(F:aF X.prog X.w X.K X.mg X.base CX k f fd ps sp)(hr:cy k X.A)(hb:Binds X.K fd ps [])(hx:oK CX X E)(hg:Gl X x)(hm:X.mg x=some (.ref C))(ha:PA X (e::es) t)
  (dZ:(x==("__debug__":Str))=false:=by decide) (gw:starEach (e::es) X.env=(false,eval e X.env)::starEach es X.env:=by rfl) (bU:(backTo pos (starEach es X.env)).any (·.1)=false:=by rfl)
  (ht:eval (.Call (.Attribute (.Name x p) m apos) (e::es) [] pos) X.env=(do
   let ov<-eval (.Name x p) X.env
   standAt apos.atName
   let (f,first)<-holding [ov] (getMethod ov m pl)
   callWith pos f first (backTo pos (starEach (e::es) X.env)) (backToKw pos (keywordEach [] X.env))):=by rfl) :
  PE X (.Call (.Attribute (.Name x p) m apos) (e::es) [] pos) (tCM sp E t):=by
 intro pins s σ H Q I h
 exact Np (pl:=pl) I M hg hm ha h (λus s1 vs H1 I1 r q=>BY (ib:=[]) F hr hb .nil hx I1 r (by rw[gu];exact q)) dZ gw bU ht
end
end L2
namespace L3
open PySem L2 PySem.Spec PyProof.Rows
end L3
namespace L3
open PySem L2 PySem.Spec PyProof.Rows
def tT(C:Addr)(tf:List D->List Str->List D->Prop)(ta:cP):aJ:=λδ Q=>ta δ λds ai=>ds.all D.pl=true/\∃ns xs,tf ds ns xs/\Q (.obj C ns (xs.map D.sh)) ai
section
variable{X:Cx}{CX:e8}{n:Nat}{f C:Addr}{fd:FuncData}{ps:List Str}{tf:List D->List Str->List D->Prop}{E:XK}{x:Str}{p pos:Pos}{e:Expr}{es:List Expr}{t:cP}{tl:List Addr}
end
section
variable{X:Cx}{e:Expr}{te:aJ}{x:Str}{p pos:Pos}{i:Nat}
end
theorem fH.of0{x:Addr}{H0 H H':Hp}(h0:H0 x=none)(s:ah H0 H)(sx:fH x H H'):ah H0 H' :=
 ⟨λb o e n=>sx.get b o (λz=>by rw[z,h0]at e;cases e) (s.get b o e n) n,λb ps e=>by
  obtain⟨m1,e1⟩:=s.tb b ps e
  obtain⟨m2,e2⟩:=sx.tb b _ e1
  exact⟨m1++m2,by rw[e2,yw]⟩⟩
abbrev wm:List Str:=["field","length","check_rows","word_rows","message_places","size"]
structure de5(K:PySem.W.Frag)(C:Addr):Prop where
 cls:cW K C
 field:bq K C "field"
 length:bq K C "length"
 de6:bq K C "check_rows"
 de7:bq K C "word_rows"
 O3:bq K C "message_places"
 size:bq K C "size"
end L3
namespace L3
open PySem L2 Mf
section
variable{m:Bool × Nat}
def nu(m:Bool × Nat)(n i:Nat):List Nat:=aX i 0++[1]++aX (n-2-i) 0++[bB m 0 1]
def fV(m:Bool × Nat)(n:Nat):List (List Nat):=(aH (n-1)).map (nu m n)
theorem xV{n i:Nat}(hi:i<n-1)(j:Nat):cf (nu m n i) j=if j=i then 1 else if j=n-1 then bB m 0 1 else 0:=by
 unfold nu cf
 rw[aL]
 by_cases c1:j<i
 ·rw[if_neg (by omega),if_neg (by omega),da,da,uq (by rw[eQ];exact c1),nC,if_pos c1];rfl
 ·by_cases c2:j=i
  ·rw[if_pos c2,da,da,qJ (by rw[eQ];omega),eQ,c2,J9];rfl
  ·rw[if_neg c2]
   by_cases c3:j<n-1
   ·rw[if_neg (by omega),uq (by simp only[du,eQ,qM];omega),qJ (by simp only[du,eQ,qM];omega),nC]
    split<;>rfl
   ·rw[qJ (by simp only[du,eQ,qM];omega)]
    simp only[du,eQ,qM]
    by_cases c4:j=n-1
    ·rw[if_pos c4,show j-(i+1+(n-2-i))=0 by omega];rfl
    ·rw[if_neg c4,eE (by rw[qM];omega)];rfl
theorem AB(hm:m∈aA){n:Nat}(h2:2<=n):RT (aa m) n (fV m n)/\(fV m n).length=n-1/\ag (fV m n)=n:=by
 have cO:=lo1 hm
 have g:=(jl hm (show 0<aa m by omega) (show 1<aa m by omega)).2.1
 have l:(fV m n).length=n-1:=by unfold fV;rw[aW,bN]
 have r:RT (aa m) n (fV m n):=λx hx=>by
  obtain⟨i,hi,rfl⟩:=bw.mp hx
  have hi:=bT.mp hi
  unfold nu
  refine⟨by simp only[du,eQ,qM];omega,λa ha=>?_⟩
  simp only[cM,k6,fu]at ha
  rcases ha with ((⟨_,rfl⟩ | rfl) | ⟨_,rfl⟩) | rfl
  ·omega
  ·omega
  ·omega
  ·exact g
 exact⟨r,l,tJ r λz=>by rw[z]at l;exact absurd l (by show ¬ (0=n-1);omega)⟩
theorem cc4(hm:m∈aA){n s:Nat}(h2:2<=n)(hs:s<aa m):∀r∈fV m n,gd m r (aX n s)=0:=λr hr=>by
 have g:=rg hm
 have h0:=bO m hm
 have cO:=lo1 hm
 obtain⟨rt,l,w⟩:=AB hm h2
 obtain⟨i,hi,rfl⟩:=bw.mp hr
 have hi:=bT.mp hi
 have lr:=(rt _ hr).1
 rw[oh m (by rw[lr,eQ]),lr,G8 g (f:=λj=>gm m (cf (nu m n i) j) (cf (aX n s) j)) (a:=i) (b:=n-1) (by omega) (by omega) (by omega) (bI hm _ _) (bI hm _ _) λj hj c1 c2=>by rw[xV hi,if_neg c1,if_neg c2,eO m _ h0]]
 have e:∀j,j<n->cf (aX n s) j=s:=λj hj=>by unfold cf;rw[aL,nC,if_pos hj];rfl
 rw[xV hi,if_pos rfl,xV hi,if_neg (by omega),if_pos rfl,e i (by omega),e (n-1) (by omega),<- CP h0,n8,(jl hm (show 0<aa m by omega) (show 1<aa m by omega)).2.2,eO m _ h0]
end
end L3
namespace L2
open PySem PySem.Spec PyProof.Rows
structure AD(K:PySem.W.Frag)(x qual:Str)(st:Stmt)(f:Addr)(fd:FuncData):Prop where
 ex:∃(oc:Value) (od:Option Addr) (dV kV doc pm:Value) (an:Option Addr) (aD ct:Value) (jz:Array (Option Value)),
  fd=PySem.W.fnOf x qual (nO st) (ie st) (aI st) dV kV doc pm an aD ct/\K.lookup f=some ⟨oc,od,.func fd,jz⟩/\PySem.W.codeIn K aD qual=true
 kp:PySem.W.keepIn K (.ref f)=true
section
variable{P:Program}{w:World}{K:PySem.W.Frag}{mg:Str->Option Value}{base:Heap}
theorem AD.ok{x qual:Str}{st:Stmt}{f:Addr}{fd:FuncData}{N ps:List Str}{k:Nat}{sp:Sp}(F:AD K x qual st f fd)(S:aT N ps (aI st))(len:∀vs H Q E,sp vs H Q E->vs.length=ps.length)
  (fO:∀(aD:Value) (A:Around) (outer:List Env) (s:Shared) (H:Hp) (vs:List V) (Q:VK) (E:XK),cy k (A.deeper (envOfC qual (aI st) s.heap.objs.size f aD))->sp vs H Q E ->
   ∃t,PSs (i7 aK P w K mg base N qual (aI st) f aD A outer s H E).gF (ie st) t/\t { nx:=λ_ H'=>Q .az H',rt:=Q } (start N vs) H):aF P w K mg base aK (k+1) f fd ps sp:=by
 obtain⟨oc,od,dV,kV,doc,pm,an,aD,ct,jz,rfl,lk,cC⟩:=F.ex
 refine EX lk cC S len λA outer s H vs Q E hr f9=>?_
 obtain⟨t,h,q⟩:=fO aD A outer s H vs Q E hr f9
 exact⟨t,h.gF,q⟩
theorem de9{x qual:Str}{st:Stmt}{f:Addr}{oc:Value}{od an:Option Addr}{jz:Array (Option Value)}{dV kV doc pm aD ct:Value}(l:K.lookup f=some ⟨oc,od,.func (PySem.W.fnOf x qual (nO st) (ie st) (aI st) dV kV doc pm an aD ct),jz⟩)
  (c:PySem.W.codeIn K aD qual=true) (k:PySem.W.keepIn K (.ref f)=true):AD K x qual st f (PySem.W.fnOf x qual (nO st) (ie st) (aI st) dV kV doc pm an aD ct):=⟨⟨oc,od,dV,kV,doc,pm,an,aD,ct,jz,rfl,l,c⟩,k⟩
theorem df0{fd:FuncData}{ps:List Str}{T:Addr}{o:Obj}{items:Array Value}{n:Nat}(hd:fd.defaults=.ref T)(ho:K.lookup T=some o)(hs:o.data=.seq items n)
  (h:∀us:List Value,us.length=ps.length->∃k,bindArgs fd ⟨us,[]⟩=seqItems? fd.defaults >>= k/\k (some items)=pure (ps.zip us)):Binds K fd ps []:=λs us KX hl=>by
 rw[gu]at hl ⊢
 obtain⟨k,h1,h2⟩:=h us hl
 exact .of_defaults hd (KX _ _ ho) hs h1 h2
end
end L2
namespace L3
open PySem L2 Mf
inductive Kd
 | xW (b:Nat) | rep | xX (e f:Nat)
section
variable{m:Bool × Nat}{G:List (List Nat)}
def nv(m:Bool × Nat)(G:List (List Nat)):List (List Nat):=jo m (bf m G) (ag G)
def cZ(m:Bool × Nat)(G:List (List Nat)):List Nat:=cH (bf m G) (ag G)
def l9(cb cp:Addr)(o:Bool)(m:Bool × Nat)(G:List (List Nat)):List D:=[fD cb cp m,.int (ag G:Nat),.lst o (au o G),.lst o (au o (nv m G)),.lst o (aj (cZ m G)),.int ((cZ m G).length:Nat)]
def Dh(cb cp cc cr cs:Addr)(m:Bool × Nat)(G:List (List Nat)):Kd->D
 | .xW b=>.obj cc ["field","length","check_rows","word_rows","message_places","size","bound"] (l9 cb cp false m G++[.int (b:Nat)])
 | .rep=>.obj cr wm (l9 cb cp false m G)
 | .xX e f=>.obj cs ["extra","first","field","length","check_rows","word_rows","message_places","size"] ([.int (e:Nat),.int (f:Nat)]++l9 cb cp false m G)
theorem xY(cb cp:Addr)(o:Bool)(m:Bool × Nat)(G:List (List Nat)):(l9 cb cp o m G).map D.sh=l9 cb cp false m G:=by
 unfold l9
 simp only[cI,gR,fJ,bV,dM,Cu,<- cL,lU]
theorem qt(cb cp cc cr cs:Addr)(m:Bool × Nat)(G:List (List Nat))(k:Kd):(Dh cb cp cc cr cs m G k).sh=Dh cb cp cc cr cs m G k:=by cases k<;>rfl
theorem xZ(cb cp cc cr cs:Addr)(m:Bool × Nat)(G:List (List Nat))(k:Kd):(Dh cb cp cc cr cs m G k).pl=true:=by cases k<;>rfl
structure eZ(m:Bool × Nat)(G:List (List Nat)):Prop where
 hm:m∈aA
 rt:RT (aa m) (ag G) G
 len:G.length<=64
 O4:ag G<=64
 sz:0<(cZ m G).length
theorem eZ.red(h:eZ m G):(∃H,RR (ag G) (bf m G) H)/\RT (aa m) (ag G) (bf m G):=⟨(gL h.hm h.rt).1,(gL h.hm h.rt).2.1⟩
theorem wo(m:Bool × Nat)(G:List (List Nat)):(nv m G).length=(cZ m G).length:=by unfold nv cZ jo;rw[aW]
theorem cA1{j:Nat}(hj:j<(cZ m G).length):(nv m G).getD j []=dN m (bf m G) (ag G) ((cZ m G).getD j 0):=tH (dN m (bf m G) (ag G)) hj 0 []
theorem O5{j:Nat}(hj:j<(cZ m G).length):(cZ m G).getD j 0∈cH (bf m G) (ag G):=by
 rw[aL,aM hj];exact cN hj
theorem O6(m:Bool × Nat)(G:List (List Nat)):(cZ m G).Nodup:=Ka _ yP
theorem cw9{j:Nat}(hj:j∈cZ m G):j<ag G:=bT.mp (mj.mp hj).1
theorem eZ.rows(h:eZ m G):RT (aa m) (ag G) (nv m G):=(O2 h.hm h.rt).1
theorem eZ.iS(h:eZ m G):(cZ m G).length<=ag G:=by rw[<-wo];exact(O2 h.hm h.rt).2
theorem eZ.wide(h:eZ m G):ag (nv m G)=ag G:=tJ h.rows λz=>by
 have:=h.sz
 rw[<-wo,z]at this
 exact absurd this (by decide)
def qu(m:Bool × Nat)(G:List (List Nat))(l:List Nat):List Nat:=gM m l (nv m G) (ag G)
theorem cu4(m:Bool × Nat)(G:List (List Nat))(l:List Nat):(qu m G l).length=ag G:=we ..
theorem eZ.wlt(h:eZ m G){l:List Nat}(hl:l.length=(cZ m G).length):AllLt (aa m) (qu m G l):=G6 h.hm _ (by rw[wo];exact hl)
theorem eZ.word(h:eZ m G){l:List Nat}(hl:l.length=(cZ m G).length):∀r∈G,gd m r (qu m G l)=0:=cn3 h.hm h.rt (by rw[hl,<- wo];rfl)
theorem eZ.at(h:eZ m G){l:List Nat}(hl:l.length=(cZ m G).length)(al:AllLt (aa m) l){j:Nat}(hj:j<(cZ m G).length):cf (qu m G l) ((cZ m G).getD j 0)=cf l j:=by
 have hm:=h.hm
 have g:=rg hm
 obtain⟨⟨H,I⟩,hR⟩:=h.red
 have fr:=λ{k:Nat} (hk:k<(cZ m G).length)=>(I.free hm hR _).mp (O5 hk)
 unfold qu
 rw[Ap m (by rw[wo];exact hl) (fr hj).1,wo]
 have k1:∀i,i<(cZ m G).length->cf ((nv m G).getD i []) ((cZ m G).getD j 0)=if i=j then 1 else 0:=λi hi=>by
  rw[cA1 hi]
  obtain⟨_,_,a,_,b⟩:=tI hm hR I (O5 hi)
  by_cases c:i=j
  ·rw[if_pos c,<- c];exact a
  ·rw[if_neg c]
   refine b _ (λz=>c ?_) (fr hj).2
   rw[aL,aL,aM hi,aM hj]at z
   exact((JJ (O6 m G)).mp z).symm
 rw[l7 g (f:=λi=>gm m (cf l i) (cf ((nv m G).getD i []) ((cZ m G).getD j 0))) (j0:=j) (bI hm _ _) hj λi hi c=>by rw[k1 i hi,if_neg c,gz m _ 0,eO m _ (bO m hm)],k1 j hj,if_pos rfl,nh (cS hm al j)]
end
end L3
namespace L3
open PySem L2 PySem.Spec PyProof.Rows
section
variable{X:Cx}{scope:Scope}{tg iter elt:Expr}{ifs:List Expr}{pos:Pos}{cl:List (Str × Addr)}{ti:iO}{g:ij}{tt:fj}{te:aJ}
theorem cb8{i:Nat}{x:Str}{pos' apos:Pos}(hN:X.N.Nodup)(wa:X.N[i]?=some x)(hx:L2.Loc X.env.scope x)(ay:List (Str × Nat))(bF:List Str)(hc:X.calm=true)(hi:PI X tg iter (lI ti))
  (hg:∀C s H fp,PG (dj X scope (ay.map (·.1)++bF) cl C s H fp) tg (lG ay.length g))
  (ht:∀C s H fp,mH (dj X scope (ay.map (·.1)++bF) cl C s H fp) ifs (lT tt)) (he:∀C s H fp,PE (dj X scope (ay.map (·.1)++bF) cl C s H fp) elt (lE te))
  (jK:closureFor scope X.env=pure cl) (jL:lC X cl) (jM:∀C:Addr,lD (cellsFrom (C+1) scope.names cl) (relabel scope X.env).names) (jN:∀C:Addr,ly X scope (cellsFrom (C+1) scope.names cl) ay)
  (gG:scope.kind=.function) (jO:∀y∈scope.names,y.2=.local->scope.names.lookup y.1=some .local)
  (mY:swapsWith (.ListComp elt [⟨tg,iter,ifs,0⟩] scope pos) (some (.Name x pos')) apos.line X.env=pure true:=by rfl) (hf:X.fn x=true\/X.env.scope.names.lookup x=some .local:=by first | exact .inl rfl | exact .inr rfl)
  (hs:∀x,foldedSetIterable iter X.env x=pure x:=by intro _;rfl):PS X (.Assign [.Name x pos'] (.ListComp elt [⟨tg,iter,ifs,0⟩] scope pos) apos) (λEn σ H=>lE (mP ti ay bF.length g tt te) σ H λv H'=>En.nx (σ.set i (some v)) H') :=
 ig (Oc hN wa hx hf ay bF hc hi hg ht he jK jL jM jN gG jO mY hs) λEn σ H ⟨B,F,δ,ts,Qd,c,q,k⟩=>⟨B,F,δ,ts,_,c,q,λsh xs ao J F1 H1 hq f1 h1 c1 pG u6=>by
  obtain⟨p,f,hx,eK,hlen,hQ⟩:=hq
  exact FI c1 pG u6 p f hx eK hlen hQ λd ai v F' H' hd hf hs c'=>k d ai v F' H' hd (f1.trans hf) (h1.trans hs) c'⟩
end
end L3
namespace L2
open PySem
theorem a9{N P:List Str}{sc:Scope}(a:sc.kind=.function:=by rfl)(b:sc.isCoroutine=false:=by rfl)(c:sc.isGenerator=false:=by rfl)(d:N.Nodup:=by decide +kernel)(e:N.take P.length=P:=by rfl)(f:∀x∈P,sc.names.lookup x=some .local\/sc.names.lookup x=some .cell:=by decide +kernel)(g:∀y∈sc.names,y.2≠.free:=by decide +kernel):aT N P sc:=⟨a,b,c,d,e,f,g⟩
end L2
namespace L2
open PySem
end L2
namespace L3
open PySem L2 PySem.Spec PyProof.Rows
theorem cB{X:Cx}{m i:Nat}{x:Str}{pos:Pos}(hN:X.N.Nodup)(hi:X.N[i]?=some x:=by rfl)(hx:Loc X.env.scope x:=by first | exact aq (lookup_relabel_local rfl) | exact bu rfl | exact aq rfl)(hm:m<=i:=by decide)
  (hf:X.fn x=true\/X.env.scope.names.lookup x=some .local:=by first | exact .inr (lookup_relabel_local rfl) | exact .inl rfl | exact .inr rfl):PG X (.Name x pos) (lG m (gN i)):=jC hN hi hx hm hf
theorem x6{X:Cx}{m i1 i2:Nat}{y1 y2:Str}{t1 t2 tp:Pos}{tk:Nat}(Ct:X.N.Nodup)(hc:X.calm=true:=by rfl)(m1:X.N[i1]?=some y1:=by rfl)(l1:Loc X.env.scope y1:=by first | exact aq (lookup_relabel_local rfl) | exact bu rfl)(m2:X.N[i2]?=some y2:=by rfl)(l2:Loc X.env.scope y2:=by first | exact aq (lookup_relabel_local rfl) | exact bu rfl)(M4:m<=i1:=by decide)(sG:m<=i2:=by decide)
  (f1:X.fn y1=true\/X.env.scope.names.lookup y1=some .local:=by first | exact .inr (lookup_relabel_local rfl) | exact .inl rfl) (f2:X.fn y2=true\/X.env.scope.names.lookup y2=some .local:=by first | exact .inr (lookup_relabel_local rfl) | exact .inl rfl)
  (Ge:(assignEach [.Name y1 t1,.Name y2 t2] X.env).map (·.2)=assign (.Name y1 t1) X.env::(assignEach [.Name y2 t2] X.env).map (·.2):=by rfl) (Gf:(assignEach [.Name y2 t2] X.env).map (·.2)=assign (.Name y2 t2) X.env::(assignEach [] X.env).map (·.2):=by rfl)
  (hn:(assignEach [.Name y1 t1,.Name y2 t2] X.env).length=2:=by rfl) (gw:(assignEach [.Name y1 t1,.Name y2 t2] X.env).findIdx? (·.1)=none:=by rfl) :
  PG X (.Tuple [.Name y1 t1,.Name y2 t2] tk tp) (lG m (iQ i1 i2)):=m6 hc Ct m1 l1 m2 l2 M4 sG f1 f2 Ge Gf hn gw
end L3
namespace L2
open PySem
structure Fk(K:PySem.W.Frag)(mg:Str->Option Value)(x:Str)(st:Stmt)(ps:List Str)(f:Addr)(fd:FuncData):Prop where
 F:j6 K x x st f fd
 g:mg x=some (.ref f)
 b:Binds K fd ps []
structure Fm(K:PySem.W.Frag)(x q:Str)(st:Stmt)(ps:List Str)(f:Addr)(fd:FuncData):Prop where
 F:j6 K x q st f fd
 b:Binds K fd ps []
end L2
namespace L3
open PySem L2 PySem.Spec PyProof.Rows
theorem aQ{X:Cx}{x:Str}{st:Stmt}{ps:List Str}{f:Addr}{fd:FuncData}{n k:Nat}{sp:aU}{e:Expr}{es:List Expr}{t:cP}{p pos:Pos}(Q:Fk X.K X.mg x st ps f fd)(F:aF X.prog X.w X.K X.mg X.base aK n f fd ps (aV sp))(hr:cy k X.A)(ha:PA X (e::es) (lA t))(hn:n<=k:=by decide)(hg:Gl X x:=by rfl)
  (dZ:(x==("__debug__":Str))=false:=by decide) (he:starEach (e::es) X.env=(false,eval e X.env)::starEach es X.env:=by rfl) (bU:(backTo pos (starEach es X.env)).any (·.1)=false:=by rfl) :
  PE X (.Call (.Name x p) (e::es) [] pos) (lE (nU sp t)):=Cd (F.mono hn) hr hg Q.g Q.F.kp Q.b jA ha dZ he bU
end L3
namespace L3
open PySem L2 Mf
theorem O7{m:Bool × Nat}(hm:m∈aA)(f n:Nat){e:Nat}(he:1<=e):RT (aa m) n (iU m f (aH n) e)/\(iU m f (aH n) e).length=e/\ag (iU m f (aH n) e)=n:=by
 obtain⟨g1,g2⟩:=Hj hm f (aH n) e
 rw[bN]at g1
 exact⟨g1,g2,tJ g1 λz=>by
  rw[z]at g2
  exact absurd g2 (by show ¬ 0=e;omega)⟩
end L3
namespace L3
open PySem L2 Mf
section
variable{m:Bool × Nat}
structure Wd(m:Bool × Nat)(T:List (List Nat))(w:List Nat):Prop where
 ln:w.length=ag T
 lt:AllLt (aa m) w
 z:∀r∈T,gd m r w=0
def kQ(n:Nat)(u v:List Nat):List Nat:=(aH n).filter λj=>decide (cf u j≠cf v j)
theorem om{n:Nat}{u v:List Nat}{j:Nat}:j∈kQ n u v↔j<n/\cf u j≠cf v j:=by unfold kQ;rw[mj,bT,decide_eq_true_iff]
theorem Di(n:Nat)(u v:List Nat):(kQ n u v).Nodup:=yP.filter _
def oo(m:Bool × Nat)(T:List (List Nat))(d:Nat):Prop:=∀u v,Wd m T u->Wd m T v->u≠v->d<=(kQ (ag T) u v).length
theorem O8(hm:m∈aA){T:List (List Nat)}{d:Nat}(hT:RT (aa m) (ag T) T)(hD:∀S,dB (ag T) S->S.length<d->l8 m (dD T) S):oo m T d:=λu v hu hv hn=>by
 have g:=rg hm
 have h0:=bO m hm
 refine D9 λdW=>hn ?_
 have mem:=λj=>om (n:=ag T) (u:=u) (v:=v) (j:=j)
 have nd:=Di (ag T) u v
 have ic:dB (ag T) (kQ (ag T) u v):=⟨BH.filter _,λx hx=>((mem x).mp hx).1⟩
 generalize kQ (ag T) u v=ps at mem nd ic dW
 have I:=hD ps ic dW (λt=>bB m (cf u (ps.getD t 0)) (cf v (ps.getD t 0))) (λt=>(jl hm (cS hm hu.lt _) (cS hm hv.lt _)).2.1) λk=>by
  by_cases hk:k<T.length
  ·have hr:=bQ hk []
   have s:=O1 hm hu.lt hv.lt (hT _ hr).1 hu.ln hv.ln nd (λp hp=>((mem p).mp hp).1) λj hj hn=>Kj λz=>hn ((mem j).mpr ⟨hj,z⟩)
   rw[hu.z _ hr,hv.z _ hr,jH (jI g λ_ _=>bI hm _ _)]at s
   exact BI (b9 λt _=>gz m _ _) s.symm
  ·refine eP g λt _=>?_
   show gm m _ (cf (T.getD k []) _)=0
   rw[aL,eE (by omega)]
   exact gK m _ h0
 refine G5 hu.ln hv.ln λj hj=>Kj λz=>?_
 obtain⟨t,ht,e⟩:=fh ((mem j).mpr ⟨hj,z⟩)
 have e2:ps.getD t 0=j:=by rw[aL,aM ht];exact e
 have:=I t ht
 rw[e2]at this
 exact cw8 hm (cS hm hu.lt _) (cS hm hv.lt _) z this
theorem jQ(n j:Nat):cf (aX n 0) j=0:=by
 unfold cf
 rw[aL,nC]
 split<;>rfl
theorem AE(hm:m∈aA){T:List (List Nat)}(hT:RT (aa m) (ag T) T):Wd m T (aX (ag T) 0):=by
 have cO:=lo1 hm
 refine⟨eQ ..,λa ha=>by rw[(k6.mp ha).2];omega,λr hr=>?_⟩
 rw[oh m (by rw[(hT r hr).1,eQ])]
 exact eP (rg hm) λj _=>by rw[jQ];exact gK m _ (bO m hm)
theorem cE9(hm:m∈aA){a b x:Nat}(ha:a<aa m)(hb:b<aa m)(hx:x<aa m)(h:gp m a x=gp m b x):a=b:=by
 have g:=rg hm
 obtain⟨y,hy⟩:∃y,gp m x y=0:=⟨_,by rw[n8];exact(ngn hm hx).2⟩
 have e:=congrArg (λz=>gp m z y) h
 rw[g.pa,g.pa,hy,jH ha,jH hb]at e
 exact e
theorem Dj(hm:m∈aA){n:Nat}(h2:2<=n){w:List Nat}(h:Wd m (fV m n) w){i:Nat}(hi:i<n):cf w i=cf w (n-1):=by
 have g:=rg hm
 have h0:=bO m hm
 have cO:=lo1 hm
 obtain⟨rt,l,ww⟩:=AB hm h2
 by_cases c:i=n-1
 ·rw[c]
 have hi:i<n-1:=by omega
 have hr:nu m n i∈fV m n:=w9 (bT.mpr hi)
 have hs:=cS hm h.lt (n-1)
 have e1:=h.z _ hr
 have e2:=cc4 hm h2 hs _ hr
 have lr:=(rt _ hr).1
 have two:∀v:List Nat,v.length=n->gd m (nu m n i) v=gp m (cf v i) (gm m (bB m 0 1) (cf v (n-1)))\/¬ cf v i<aa m:=λv lv=>by
  by_cases lt:cf v i<aa m
  ·refine .inl ?_
   rw[oh m (by rw[lr,lv]),lr,G8 g (f:=λj=>gm m (cf (nu m n i) j) (cf v j)) (a:=i) (b:=n-1) (by omega) (by omega) (by omega) (bI hm _ _) (bI hm _ _) λj hj c1 c2=>by rw[xV hi,if_neg c1,if_neg c2,eO m _ h0]]
   rw[xV hi,if_pos rfl,xV hi,if_neg (by omega),if_pos rfl,n6 lt]
  ·exact .inr lt
 have er:∀j,j<n->cf (aX n (cf w (n-1))) j=cf w (n-1):=λj hj=>by unfold cf;rw[aL,nC,if_pos hj];rfl
 have a1:=(two w (h.ln.trans ww)).resolve_right λz=>z (cS hm h.lt i)
 have a2:=(two (aX n (cf w (n-1))) (eQ ..)).resolve_right λz=>z (by rw[er i (by omega)];exact hs)
 rw[er i (by omega),er (n-1) (by omega)]at a2
 exact cE9 hm (cS hm h.lt i) hs (bI hm _ _) (a1.symm.trans (e1.trans (e2.symm.trans a2)))
theorem cm6(hm:m∈aA){n:Nat}(h2:2<=n):oo m (fV m n) n:=λu v hu hv hn=>by
 obtain⟨rt,l,ww⟩:=AB hm h2
 rw[ww]
 have ne:cf u (n-1)≠cf v (n-1):=λz=>hn (G5 (hu.ln.trans ww) (hv.ln.trans ww) λj hj=>by rw[Dj hm h2 hu hj,Dj hm h2 hv hj,z])
 have:=oj (l:=aH n) (l':=kQ n u v) yP λj hj=>by
  have hj:=bT.mp hj
  exact om.mpr ⟨hj,by rw[Dj hm h2 hu hj,Dj hm h2 hv hj];exact ne⟩
 rw[bN]at this
 exact this
theorem Hz(hm:m∈aA){f n e:Nat}(hn:n+1<=aa m):AA m e n (λj=>eS m (j:Int)) (λj=>eS m ((f:Int)*(j:Int))) (iU m f (aH n) e) where
 rt:=by have:=(Hj hm f (aH n) e).1;rw[bN]at this;exact this
 l:=(Hj hm f (aH n) e).2
 xl:=λj=>GI hm _
 xd:=λi j hi hj h=>cC8 hm (by omega) (by omega) h
 yl:=λj=>GI hm _
 y0:=λj _=>by have:=(qj hm ((f:Int)*(j:Int))).1;omega
 at_:=λi hi=>⟨i,hi,λj hj=>by
  unfold dD
  rw[cu9 hi,NY hm,GJ hm]
  show cf ((aH n).map λ(p:Nat)=>eS m (((f:Int)+(i:Int))*(p:Int))) j=_
  rw[C7 _ hj,Int.add_mul,Int.mul_comm (j:Int)]⟩
theorem cn8(hm:m∈aA){f n e:Nat}(hn:n+1<=aa m)(hw:ag (iU m f (aH n) e)=n):oo m (iU m f (aH n) e) (e+1) :=
 O8 hm (by rw[hw];exact(Hz hm hn).rt) λS hS hl=>(Hz hm hn).ind hm (by rw[hw]at hS;exact hS) (by omega)
variable{G:List (List Nat)}
theorem eZ.wd(h:eZ m G){l:List Nat}(hl:l.length=(cZ m G).length):Wd m G (qu m G l):=⟨cu4 ..,h.wlt hl,h.word hl⟩
theorem eZ.O9(h:eZ m G){d:Nat}(hd:oo m G d):d+(cZ m G).length<=ag G+1:=by
 have hm:=h.hm
 have cO:=lo1 hm
 have hz:=h.sz
 have l1:(1::aX ((cZ m G).length-1) 0).length=(cZ m G).length:=by rw[ft,eQ];omega
 have a1:AllLt (aa m) (1::aX ((cZ m G).length-1) 0):=λa ha=>by
  rcases cw.mp ha with q | q
  ·omega
  ·rw[(k6.mp q).2];omega
 have w:=h.wd l1
 have at_:=λ{j:Nat} (hj:j<(cZ m G).length)=>h.at l1 a1 hj
 have:=hd _ _ w (AE hm h.rt) λz=>by
  have e:=at_ hz
  rw[z,jQ]at e
  exact absurd e (by show ¬ (0=1);decide)
 have k:=oj (l:=kQ (ag G) (qu m G (1::aX ((cZ m G).length-1) 0)) (aX (ag G) 0)++(cZ m G).drop 1) (l':=aH (ag G)) ?_ ?_
 ·rw[du,iD,bN]at k
  omega
 ·refine List.nodup_append.mpr ⟨Di ..,(O6 m G).sublist (List.drop_sublist ..),λa ha b hb z=>?_⟩
  subst z
  obtain⟨k,hk,e⟩:=fh hb
  rw[iD]at hk
  rw[List.getElem_drop]at e
  have ek:=at_ (show 1+k<(cZ m G).length by omega)
  rw[show(cZ m G).getD (1+k) 0=a by rw[aL,aM (by omega)];exact e]at ek
  refine(om.mp ha).2 ?_
  rw[ek,jQ]
  unfold cf
  rw[yA,List.getD_cons_succ]
  exact jQ _ _
 ·intro a ha
  rcases cM.mp ha with q | q
  ·exact bT.mpr (om.mp q).1
  ·exact bT.mpr (cw9 (nG q))
def hZ(G:List (List Nat)):Kd->Nat
 | .xW b=>b
 | .rep=>ag G
 | .xX e _=>e+1
structure HA(m:Bool × Nat)(G:List (List Nat))(k:Kd):Prop where
 x8:oo m G (hZ G k)
 pos:1<=hZ G k
 rt:∀e f,k=.xX e f->G=iU m f (aH (ag G)) e/\1<=e/\e+1<=ag G/\ag G+1<=aa m/\f+2<=aa m
end
end L3
namespace L2
open PySem PySem.Spec PyProof.Rows
end L2
namespace L3
open PySem L2 PySem.Spec PyProof.Rows
section
variable{X:Cx}{i:Nat}{x:Str}{p pos mF:Pos}{b e:Expr}{ti te:aJ}
def tU(i:Nat)(t:aJ):cE:=λEn δ=>(∃xs,δ[i]?=some (some (.lst true xs)))/\t δ λd ai=>∃zs xs,d=.lst true zs/\ai[i]?=some (some (.lst true xs))/\xs.length+zs.length<=sizeLine/\En.nx (ai.set i (some (.lst true (xs++zs))))
theorem cC5{t:aJ}{apos bR:Pos}(hN:X.N[i]?=some x)(hv:jY X.env.scope x)(he:PE X e (lE t))(hd:(x==("__debug__":Str))=false:=by decide)(cC:(x==("__classdict__":Str))=false:=by decide)
  (kE:attributeBase (.Name x p) "extend" X.env (eval (.Name x p) X.env)=eval (.Name x p) X.env:=by rfl)
  (uU:((backTo bR (starEach [e] X.env)).all (λx=>!x.1)&&(backToKw bR (keywordEach [] X.env)).all (λx=>x.1.isSome)
   && decide ([e].length+([]:List Keyword).length+(if([]:List Keyword).isEmpty then 0 else 1)<30))=true:=by rfl)
  (kF:(apos.endLine==bR.line)=true:=by rfl) (hs:starEach [e] X.env=(false,eval e X.env)::starEach [] X.env:=by rfl) (uV:(backTo bR (starEach [] X.env)).any (·.1)=false:=by rfl)
  (mY:swapsWith (.Call (.Attribute (.Name x p) "extend" apos) [e] [] bR) none pos.line X.env=pure false:=by rfl) :
  PS X (.Expr (.Call (.Attribute (.Name x p) "extend" apos) [e] [] bR) pos) (lS X (tU i t)) :=
 ig (yX (E7 PySem.F.plainAttrs_list PySem.F.slot_list_extend PySem.F.type_list_extend Zw (mB hN hv hd cC) (jy he oJ hs) kE uU kF hs uV) mY) λEn σ H zz=>by
  obtain⟨B,F,δ,Dd,c,⟨⟨ys,ey⟩,q⟩,k1,k2,k3,k4⟩:=zz
  obtain⟨p0,B9,g1,g2,g3⟩:=c.ownAt ey
  refine⟨.ref p0,g1,.inl ⟨rfl,_,bL.of g2⟩,B,F,δ,[],_,c,q,λd ai v F' H' hd sf sh c'=>?_⟩
  obtain⟨zs,xs,rfl,ex,hl,hn⟩:=hd
  obtain⟨p1,ws,r1,r2,r3⟩:=c'.ownAt ex
  rw[g1]at r1;cases r1
  obtain⟨p2,us,rfl,e2,t2⟩:=iP c'.top c'.ext
  refine⟨p0,p2,ws,us,rfl,rfl,r2,e2,by rw[<-r3,<- t2.length];exact hl,k1 _ _ F' _ hn ?_⟩
  exact av.mut (ps:=[(.lst true zs,.ref p2)]) c' ex g1 λeB A1 A2 h r1 HB nd=>by
   rw[r2]at h;cases h
   have HB:R F' H' [.lst true zs] [.ref p2] A2:=HB
   cases HB with
   | @own _ vb _ Az _ _ Bz hH hF hx hr =>
    cases hr
    rw[e2]at hH;cases hH
    rw[gu]at nd ⊢
    have sl:(A1++Az).Sublist (A1++p2::Az):=(J3 p2 Az).append_left A1
    exact⟨A1++Az,r1.append hx,nd.sublist sl,λa ha=>sl.subset ha⟩
end
end L3
namespace L3
open PySem L2 PySem.Spec PyProof.Rows
section
variable{B:Bs}{F H:Hp}{σ:L2.St}{δ:Dl}{ts:List (D × V)}{p:Addr}{xs:List D}{ws:List V}
theorem Pa{xs:List D}{ws:List V}(h:xs.length=ws.length)(ts:List (D × V)):(xs.zip ws++ts).map (·.1)=xs++ts.map (·.1)/\(xs.zip ws++ts).map (·.2)=ws++ts.map (·.2):=by
 rw[eR,eR]
 exact⟨by rw[show(λx:D × V=>x.1)=Prod.fst from rfl,Kk (by omega)],by rw[show(λx:D × V=>x.2)=Prod.snd from rfl,List.map_snd_zip (by omega)]⟩
theorem av.dg0(c:av B F H σ δ ((.lst true xs,.ref p)::ts))(hp:H p=some (.lst ws)):xs.length=ws.length/\av ⟨upd B.H0 p (.lst ws),B.F0⟩ F H σ δ (xs.zip ws++ts) /\
  ∀F' H' aN ai bz Dk,av ⟨upd B.H0 p (.lst ws),B.F0⟩ F' H' aN ai (bz.zip ws++Dk)->bz.length=ws.length->av B F' H' aN ai ((.lst true bz,.ref p)::Dk):=by
 obtain⟨A,C,r,s,nd,fr⟩:=c.own
 cases r with
 | @own _ eB _ A1 _ _ B1 rS hF rx rr =>
  rw[hp]at rS;cases rS
  have hl:=rx.length
  have b0:B.H0 p=none:=fr p (by simp)
  have f0:B.F0 p=none:=by
   cases e:B.F0 p with
   | none=>rfl
   | some o =>
    by_cases nt:iK o=true
    ·have:=c.b2.get p o e nt
     rw[hF]at this;cases this
    ·obtain⟨ps,rfl⟩:=zw (Eu.mpr nt)
     obtain⟨m,em⟩:=c.b2.tb p ps e
     rw[hF]at em;cases em
  have sm:ah B.H0 (upd B.H0 p (.lst ws)):=ah.upd b0
  simp only[iF,iZ]at nd fr
  obtain⟨np,nd⟩:=nd
  have dn:∀a,(upd B.H0 p (.lst ws)) a=none->B.H0 a=none:=λa z=>by
   by_cases w:a=p
   ·subst w;exact b0
   ·rwa [bt w]at z
  obtain⟨z1,z2⟩:=Pa hl ts
  refine⟨hl,⟨c.ext,?_,c.b2,λa ws z=>?_,A1++B1,C,by rw[z1,z2];exact rx.append rr,s,nd,λa ha=>?_⟩,λF' H' aN ai bz Dk c' jZ=>?_⟩
  ·refine⟨λa o z n=>?_,λa ps z=>?_⟩<;>dsimp only at z
   ·by_cases w:a=p
    ·subst w;rw[de]at z;cases z;exact hp
    ·rw[bt w]at z;exact c.b1.get a o z n
   ·by_cases w:a=p
    ·subst w;rw[de]at z;cases z
    ·rw[bt w]at z;exact c.b1.tb a ps z
  ·rcases c.b3 a ws z with y | y
   ·exact .inl y
   ·by_cases w:a=p
    ·subst w;rw[hF]at z;cases z
    ·exact .inr (by show upd B.H0 p _ a=none;rw[bt w];exact y)
  ·show upd B.H0 p _ a=none
   rw[bt (λz=>np (by rw[<-z];exact ha))]
   exact fr a (e5 _ ha)
  ·obtain⟨A',C',r',s',zD,Am⟩:=c'.own
   obtain⟨y1,y2⟩:=Pa jZ Dk
   rw[y1,y2]at r'
   obtain⟨v1,v2,A2,A3,e,rfl,r1,r2⟩:=R.split r'
   have l1:ws.length=v1.length:=by rw[<-r1.length,jZ]
   obtain⟨rfl,rfl⟩:=yD e l1
   have Dm:H' p=some (.lst ws):=c'.b1 p _ de
   have hF2:F' p=none:=by
    cases e:F' p with
    | none=>rfl
    | some o =>
     by_cases nt:iK o=true
     ·have:=c'.ext.get p o e nt
      rw[Dm]at this;cases this
      rcases c'.b3 p ws e with z | z
      ·have z':B.F0 p=_:=z
       rw[f0]at z';cases z'
      ·have z':upd B.H0 p (.lst ws) p=none:=z
       rw[de]at z';cases z'
     ·obtain⟨ps,rfl⟩:=zw (Eu.mpr nt)
      obtain⟨m,em⟩:=c'.ext.tb p ps e
      rw[Dm]at em;cases em
   have np2:p ∉ A2++A3++C':=λz=>by
    have z':upd B.H0 p (.lst ws) p=none:=Am p z
    rw[de]at z';cases z'
   refine⟨c'.ext,sm.trans c'.b1,c'.b2,λa ws z=>(c'.b3 a ws z).elim .inl λy=>.inr (dn a y),p::(A2++A3),C',.own Dm hF2 r1 r2,s',?_,λa ha=>?_⟩
   ·rw[iF];exact iZ.mpr ⟨np2,zD⟩
   ·rw[iF]at ha
    rcases cw.mp ha with rfl | z
    ·exact b0
    ·exact dn a (Am a z)
end
section
variable{X:Cx}{e b a:Expr}{pos pos' p p2 p3:Pos}{ti te ta:aJ}{x y:Str}{i j:Nat}
end
end L3
namespace L3
open PySem L2 PySem.Spec PyProof.Rows
section
variable{B B':Bs}{F H:Hp}{σ:L2.St}{δ:Dl}{ts:List (D × V)}{p:Addr}{xs:List D}{ws:List V}
theorem av.based(c:av B' F H σ δ ts)(h:ah B.H0 B'.H0)(hf:B.F0=B'.F0):av B F H σ δ ts:=by
 obtain⟨A,C,r,s,nd,fr⟩:=c.own
 exact⟨c.ext,h.trans c.b1,by rw[hf];exact c.b2,λa ws z=>(c.b3 a ws z).imp (λy=>by rw[hf];exact y) h.free,A,C,r,s,nd,λa ha=>h.free (fr a ha)⟩
end
section
variable{X:Cx}{e:Expr}{scope:Scope}{cl:List (Str × Addr)}{te:aJ}{x y:Str}{i:Nat}{p tp p1 pos mF:Pos}
theorem cM0{X:Cx}{i:Nat}{x:Str}{pos:Pos}(hN:X.N.Nodup)(hi:X.N[i]?=some x:=by rfl)(hx:Loc X.env.scope x:=by first | exact aq (lookup_relabel_local rfl) | exact bu rfl | exact aq rfl)
  (hf:X.fn x=true\/X.env.scope.names.lookup x=some .local:=by first | exact .inr (lookup_relabel_local rfl) | exact .inl rfl | exact .inr rfl):PG X (.Name x pos) (xq i):=yY hN hi hx hf
def Pb(i:Nat)(ay:List (Str × Nat))(te:aJ):aJ:=λδ Q=>∃(xs:List D) (f:D->D),δ[i]?=some (some (.lst true xs)) /\
 (∀x∈xs,te ((eM ay 1 (δ.set i none)).set ay.length (some x.sh)) λd _=>d=f x/\d.fr=true)/\xs.length<=sizeLine/\Q (.lst true (xs.map λx=>.tup [x,f x])) (δ.set i none)
open Classical in
theorem cD6{α:Type}{i:Nat}{ay:List (Str × Nat)}{te:aJ}{δ:Dl}{Q:D->Dl->Prop}(l:List α)(e g:α->D)(hi:δ[i]?=some (some (.lst true (l.map e))))(inj:∀a b,e a=e b->a=b)
  (hx:∀a∈l,te ((eM ay 1 (δ.set i none)).set ay.length (some (e a).sh)) λd _=>d=g a/\d.fr=true) (hl:l.length<=sizeLine) (hq:Q (.lst true (l.map λa=>.tup [e a,g a])) (δ.set i none)):Pb i ay te δ Q:=by
 let f:D->D:=λx=>if h:∃a∈l,e a=x then g h.choose else .az
 have hf:∀a∈l,f (e a)=g a:=λa ha=>by
  have h:∃b∈l,e b=e a:=⟨a,ha,rfl⟩
  show(if h:∃b∈l,e b=e a then g h.choose else .az)=g a
  rw[dif_pos h]
  exact congrArg g (inj _ _ h.choose_spec.2)
 refine⟨l.map e,f,hi,λx gb=>?_,by rw[aW];exact hl,?_⟩
 ·obtain⟨a,ha,rfl⟩:=bw.mp gb
  rw[hf a ha]
  exact hx a ha
 ·rw[bx,show l.map ((λx=>D.tup [x,f x]) ∘ e)=l.map λa=>D.tup [e a,g a] from mv λa ha=>by show D.tup [e a,f (e a)]=_;rw[hf a ha]]
  exact hq
theorem cb1{x1}(i:Nat)(ay:List (Str × Nat))(hN:X.N[i]?=some x)(hv:jY X.env.scope x)(hc:X.calm=true)
  (hg:∀C s H fp,PG (dj X scope (ay.map (·.1)++[y]) cl C s H fp) (.Name y tp) (xq ay.length))
  (he:∀C s H fp,PA (dj X scope (ay.map (·.1)++[y]) cl C s H fp) [.Name y p1,e] (EW (EE ay.length) (EW (lE te) K4)))
  (jK:closureFor scope X.env=pure cl) (jL:lC X cl:=by repeat' (first | exact trivial | refine⟨rfl,?_⟩)) (jM:∀C:Addr,lD (cellsFrom (C+1) scope.names cl) (relabel scope X.env).names:=by intro _;repeat' (first | exact trivial | refine⟨.inl rfl,?_⟩ | refine⟨.inr (.inl rfl),?_⟩ | refine⟨.inr (.inr ⟨_,rfl⟩),?_⟩)) (jN:∀C:Addr,ly X scope (cellsFrom (C+1) scope.names cl) ay:=by intro _;repeat' (first | exact trivial | refine⟨⟨rfl,.inl rfl,.inl rfl,_,rfl,rfl⟩,?_⟩))
  (gG:scope.kind=.function:=by rfl) (jO:∀y∈scope.names,y.2=.local->scope.names.lookup y.1=some .local:=by decide +kernel)
  (hd:(x==("__debug__":Str))=false:=by decide) (cC:(x==("__classdict__":Str))=false:=by decide)
  (hs:∀z,foldedSetIterable (.Name x p) X.env z=pure z:=by intro _;rfl):PE X (.ListComp (.Tuple [.Name y p1,e] x1 mF) [⟨.Name y tp,.Name x p,[],0⟩] scope pos) (lE (Pb i ay te)) :=
 dr (Ob ay [y] hc (EL (mB hN hv hd cC)) hg (λ_ _ _ _=>bW) (λC s H fp=>K5 (he C s H fp)) jK jL jM jN gG jO hs) λσ H Q zq=>by
 obtain⟨B,F,δ,ts,Qd,c,⟨xs,f,e0,hx,hlen,hq⟩,k⟩:=zq
 obtain⟨p0,ws,g1,g2,g3⟩:=c.ownAt e0
 obtain⟨v0,gv,cm⟩:=c.move e0
 rw[g1]at gv;cases gv
 obtain⟨hl,co,-⟩:=cm.dg0 g2
 have b0:B.H0 p0=none:=by
  obtain⟨A,C,r,s,nd,fr⟩:=cm.own
  cases r with
  | own _ _ _ _=>exact fr p0 (by simp)
 refine⟨.ref p0,g1,p0,rfl,⟨ws,bL.of g2⟩,λDp hD=>?_⟩
 have cD:=co.nQ (xs:=[]) (vs:=[]) hD .nil rfl
 refine⟨λn m acc H2=>m=xs.length-n/\n<=xs.length/\H2 Dp=some (.lst acc)/\acc.length=n/\ah H H2/\∃F2,ah F F2 /\
  av ⟨upd B.H0 p0 (.lst ws),B.F0⟩ F2 H2 σ (δ.set i none) ((.lst true ((xs.take n).map λx=>.tup [x,f x]),.ref Dp)::((xs.drop n).zip (ws.drop n)++ts)),
  ⟨xs.length,rfl,h8 _,de,rfl,ah.upd hD,F,ah.refl _,by simpa using cD⟩,?_⟩
 rintro n m acc H2 ⟨rfl,hn,mQ,FJ,rQ,F2,rR,c2⟩
 refine⟨mQ,?_⟩
 have w1:H2 p0=some (.lst ws):=c2.b1 p0 _ de
 by_cases dW:n<xs.length
 case neg =>
  have en:n=xs.length:=by omega
  subst en
  refine .inl ⟨⟨ws,bL.of w1,by omega⟩,k _ _ _ F2 H2 hq rR rQ ?_⟩
  rw[mq,List.drop_length,List.zip_nil_left,ju]at c2
  exact c2.based (ah.upd b0) rfl
 case pos =>
  have HC:n<ws.length:=by omega
  refine .inr ⟨⟨ws,ws[n],bL.of w1,aM HC⟩,λz H3 yy=>?_⟩
  obtain⟨rfl,yz⟩:=yy
  have hz:=yz ws (bL.of w1)
  rw[aM HC]at hz
  cases hz
  refine⟨mQ,?_⟩
  have z1:(xs.drop n).zip (ws.drop n)=(xs[n],ws[n])::(xs.drop (n+1)).zip (ws.drop (n+1)):=by
   rw[Kh dW,Kh HC];rfl
  rw[z1,iF]at c2
  have c3:=c2.perm (JS _ _ _)
  have sx:=c3.top
  have hS:=sx.frozen c3.ext
  have ci:av ⟨H3,H3⟩ H3 H3 (gH ay 1 σ) (eM ay 1 (δ.set i none)) []:=⟨ah.refl _,ah.refl _,ah.refl _,λ_ _ q=>.inl q,[],[],.nil,FH c3 1 ay,by simp,by simp⟩
  have c4:=(ci.pushS hS.s (by have:=hS.pl;simpa using this)).store ay.length
  refine⟨⟨by rw[qK],λj hj=>by rw[qF (by omega)]⟩,⟨H3,H3⟩,H3,_,[],λb jg=>b=true/\jg=(eM ay 1 (δ.set i none)).set ay.length (some xs[n].sh),c4,⟨rfl,rfl⟩,λb jg F5 H5 hb f5 h5 c5=>?_⟩
  obtain⟨rfl,rfl⟩:=hb
  have hm:ay.length<(gH ay 1 σ).length:=by rw[cn1];omega
  refine⟨h5 _ _ mQ,oS ⟨ws[n],um hm,⟨H3,H3⟩,F5,_,[],_,c5,hx _ (cN dW),λd δ6 v F6 H6 hd f6 h6 c6=>?_⟩⟩
  obtain⟨rfl,eK⟩:=hd
  have Dn:=h5.trans h6
  refine⟨by show 2<=sizeLine;rw[sL];decide,λq Dq=>?_⟩
  obtain⟨A,C,r,s,nd,fr⟩:=c6.own
  have c7:=c3.B8 Dn (r.Fy (by simp[eK]) (c3.ext.trans (f5.trans f6))) (jc.mp nd).1 λa ha=>fr a (iz _ ha)
  have c8:=c7.perm (JS _ _ _)
  have c9:=av.Mp (ps:=[(xs[n],ws[n]),(f xs[n],v)]) c8 Dq
  have nq:Dp≠q:=λz=>by rw[<-z,Dn _ _ mQ]at Dq;cases Dq
  have a6:upd H6 q (.tup [ws[n],v]) Dp=some (.lst acc):=by rw[bt nq];exact Dn _ _ mQ
  have c10:=c9.Mq a6
  refine⟨a6,by omega,xs.length-(n+1),by omega,rfl,dW,de,by simp[FJ],?_,F2,rR,?_⟩
  ·have zN:=(rQ.trans Dn).trans (ah.upd Dq (o:=.tup [ws[n],v]))
   exact⟨λa o q n=>by rw[bt (eH q hD)];exact zN.get a o q n,λa ps q=>by rw[bt (eH q hD)];exact zN.tb a ps q⟩
  ·have e9:(xs.take (n+1)).map (λx=>D.tup [x,f x])=(xs.take n).map (λx=>D.tup [x,f x])++[.tup [xs[n],f xs[n]]]:=by
    rw[ku,aM dW,eR];rfl
   rw[e9]
   exact c10
end
section
variable{X:Cx}{e:Expr}{pos p p2 p3 p4 p5 apos bR:Pos}{t:aJ}{x:Str}{i:Nat}
end
end L3
namespace L2
open PySem
section
variable{K:PySem.W.Frag}{h:Heap}{mg:Str->Option Value}{x y:Str}{st:Stmt}{ps:List Str}{f:Addr}{fd:FuncData}
def Pc(x y:Str)(st:Stmt)(ps:List Str):Prop:=∀(kV doc pm:Value) (an:Option Addr) (aD ct:Value) (us:List Value),us.length=ps.length->bindArgs (PySem.W.fnOf x y (nO st) (ie st) (aI st) .none kV doc pm an aD ct) ⟨us,[]⟩=pure (ps.zip us)
theorem Fk.of(X:K.In h)(G:h.Ns mainGlobals mg)(a:PySem.W.nsIn K mainGlobals x=some (some (.ref f)))(F:j6 K x x st f fd)(b:Pc x x st ps):Fk K mg x st ps f fd:=⟨F,PySem.W.mg_of X G a,F.binds b⟩
theorem Fm.of(F:j6 K x y st f fd)(b:Pc x y st ps):Fm K x y st ps f fd:=⟨F,F.binds b⟩
end
end L2
namespace L3
open PySem L2
end L3
namespace L3
open PySem L2 PySem.Spec PyProof.Rows
section
variable{X:Cx}{K:PySem.W.Frag}{a:Expr}{ta:aJ}{p q pos:Pos}{y:Str}
end
end L3
namespace L3
open PySem L2 Mf
end L3
namespace L3
open PySem L2 Mf
section
variable{sh:Bool}{ay:List (Str × Nat)}{n m:Nat}{te:aJ}{ao:Dl}{Q:D->Dl->Prop}
theorem kq{o:Bool}(l:List (List Nat))(g:List Nat->D)(hx:∀a∈l,te ((eM ay n ao).set m (some (.lst false (aj a)))) λd _=>d=g a)(eK:(sh&&ay.all (gY ao))=true\/∀a∈l,(g a).fr=true)(hq:Q (.lst true (l.map g)) ao)(hl:l.length<=16777216:=by omega):pE sh (au o l) ay n (gN m) jE te ao Q :=
 lX l (λr=>D.lst false (aj r)) g (by rw[dM];rfl) (λa b h=>Ag a b h) hx eK (by rw[sL];exact hl) hq
theorem oq(l:List Nat)(g:Nat->D)(hx:∀a∈l,te ((eM ay n ao).set m (some (.int (a:Nat)))) λd _=>d=g a)(eK:(sh&&ay.all (gY ao))=true\/∀a∈l,(g a).fr=true)(hq:Q (.lst true (l.map g)) ao)(hl:l.length<=16777216:=by omega):pE sh (aj l) ay n (gN m) jE te ao Q :=
 lX l (λ(i:Nat)=>D.int (i:Int)) g (Cu _) xJ hx eK (by rw[sL];exact hl) hq
theorem qv(r:Nat)(g:Nat->D)(hx:∀a∈aH r,te ((eM ay n ao).set m (some (.int (a:Nat)))) λd _=>d=g a)(eK:(sh&&ay.all (gY ao))=true\/∀a∈aH r,(g a).fr=true)(hq:Q (.lst true ((aH r).map g)) ao){k:Int}(hk:k=r:=by rfl)(hl:r<=16777216:=by omega):pE sh ((aH k.toNat).map λ(k:Nat)=>D.int (0+(k:Int))) ay n (gN m) jE te ao Q :=
 lX (aH r) (λ(i:Nat)=>D.int (i:Int)) g (GK _ hk) xJ hx eK (by rw[bN,sL];exact hl) hq
end
end L3
namespace L2
open PySem PySem.Spec PyProof.Rows
section
variable{prog:Program}{w:World}{A:Around}{E:Value->Shared->Prop}{h:Heap}{g:Array GenState}{d:Drawn}{t:Nat}{os:OsState}
variable{nm q:Str}{C N:Addr}{bs bm Pd:List Value}{HD:Bool}{sn:List Str}{sub:List Value}{ab:Bool}{col:Option Bool}{dd:Option Addr}{k0 k1 k2 k3 k5:Option Value}{B Bn newId Pe Pf inN:String}{bmN:List Value}
end
section
variable{M:Model}{A:Around}{E:Value->Shared->Prop}{env:Env}
variable{nm q:Str}{C N:Addr}{bs bm:List Value}{HD:Bool}{sn:List Str}{sub:List Value}{ab:Bool}{col:Option Bool}{dd:Option Addr}{k0 k1 k2 k3 k5:Option Value}{newId:String}
end
section
variable{prog:Program}{w:World}{A:Around}{E:Value->Shared->Prop}{s:Shared}{env:Env}
variable{nm q:Str}{C N:Addr}{bs bm Pd:List Value}{HD:Bool}{sn:List Str}{sub:List Value}{ab:Bool}{col:Option Bool}{dd:Option Addr}{k0 k1 k2 k3 k5:Option Value}{B Bn newId Pe Pf inN:String}{bmN:List Value}
end
end L2
namespace L2
open PySem PySem.W PySem.Spec PySem.Calls PyProof.Rows PySem.Builtin PySem.Builtin.ObjectAttr
section
variable{prog:Program}{w:World}{A:Around}{s:Shared}{K:Frag}{x C:Addr}{R:Result->Shared->Prop}
end
end L2
namespace L2
open PySem PySem.W PySem.Spec PySem.Calls PyProof.Rows
section
variable{prog:Program}{w:World}{A:Around}{E:Value->Shared->Prop}{s:Shared}{K:Frag}{x D:Addr}{ox:Obj}{Mb:Option Obj}{nm:Str}{v:Value}
end
end L2
namespace L2
open PySem PySem.W PySem.Spec PySem.Calls PyProof.Rows
section
variable{prog:Program}{w:World}{A:Around}{R:Result->Shared->Prop}{h:Heap}{g:Array GenState}{d:Drawn}{t:Nat}{os:OsState}
variable{nm q:Str}{C N e T0:Addr}{dc:Option Addr}{bs bm Pd:List Value}{HD:Bool}{sn:List Str}{sub:List Value}{ab:Bool}{col:Option Bool}{dd:Option Addr}{k0 k1 k2 k3 k5:Option Value}{B newId Pe Pf:String}
end
end L2
namespace L2
open PySem PySem.Spec PyProof.Rows
section
variable{X:Cx}{pins:List (Addr × Obj)}{σ:St}{H:Hp}{s:Shared}{e:Addr}{φ ψ:Heap->Prop}{h':Heap}
end
end L2
namespace L2
open PySem PySem.Spec PyProof.Rows
section
variable{X:Cx}{C Me fI:Addr}{x f:Str}{p pos pos' apos:Pos}{e o value:Expr}{es:List Expr}{t:TA}{ta tv:TE}
end
end L2
namespace L2
open PySem PySem.Spec PyProof.Rows
section
variable{X:Cx}{C Me fI:Addr}{x f:Str}{p pos pos' apos:Pos}{e o value:Expr}{es:List Expr}{t:TA}{ta tv:TE}
end
end L2
namespace L3
open PySem L2 PySem.Spec PyProof.Rows
section
variable{X:Cx}{CX:e8}{k:Nat}{C fI:Addr}{fd:FuncData}{ps:List Str}{x nm:Str}{e:Expr}{es:List Expr}{t:cP}{np bR pos:Pos}
end
end L3
namespace L3
open PySem L2 PySem.Spec PyProof.Rows
section
variable{X:Cx}{e:Expr}{te:aJ}{f:Str}{pos:Pos}
end
end L3
namespace L2
open PySem PySem.Spec PyProof.Rows
end L2
namespace L3
open PySem L2 PySem.Spec PyProof.Rows
section
variable{X:Cx}{tg iter e e1:Expr}{rb:List Stmt}{ti:iO}{g:ij}{t1 te:aJ}{tr:cE}{i:Nat}{x:Str}{p1 p2 p3 p4 p5 p6 p7 p8 q1 q2 q3:Pos}{j1}
end
end L3
namespace L2
open PySem PySem.Spec PyProof.Rows
section
variable{X:Cx}
end
end L2
namespace L3
open PySem L2 PySem.Spec PyProof.Rows
section
variable{X:Cx}{i j:Nat}{x y:Str}{e e1 e2:Expr}{te t1 t2:aJ}{p pos pos' apos bR:Pos}
end
end L3
namespace L3
open PySem L2 PySem.Spec PyProof.Rows
def D.nb(ks:List Str):D->Bool
 | .lst _ xs=>wq xs
 | .tup xs=>wq xs
 | .obj _ ms xs=>ms.any (ks.contains ·)&&wq xs
 | .fz xs=>wq xs
 | .bG _=>!ks.isEmpty
 | _=>true
where wq:List D->Bool
 | []=>true
 | d::ds=>d.nb ks&&wq ds
theorem jR(ks:List Str)(ds:List D):D.nb.wq ks ds=ds.all (D.nb ks):=by induction ds with | nil=>rfl | cons d ds ih=>simp[D.nb.wq,ih]
def fW(ks:List Str)(δ:Dl):Bool:=δ.all λo=>match o with
 | none=>true
 | some d=>d.nb ks
def kR(ks ns:List Str):Bool:=ks.all λk=>!ns.contains k
theorem b61{ks ns ms:List Str}(h:kR ks ns=true)(h2:ms.any (ks.contains ·)=true):ms≠ns:=by
 rintro rfl
 obtain⟨k,hk,e⟩:=Ef.mp h2
 have:=cJ.mp h k (BE.mp e)
 simp[hk]at this
theorem b47{ns ms:List Str}{ws us:List V}(h1:ns.length=ws.length)(h2:ms.length=us.length)(h:ns.zip ws=ms.zip us):ns=ms:=by
 have:=congrArg (yG Prod.fst) h
 rwa [Kk (by omega),Kk (by omega)]at this
def jr(F:Hp)(x:Addr):Hp:=λa=>if a=x then none else F a
theorem HE(F:Hp)(x:Addr):jr F x x=none:=if_pos rfl
theorem tV{F:Hp}{x a:Addr}(h:a≠x):jr F x a=F a:=if_neg h
theorem x9{F:Hp}{x a:Addr}{o:HO}(h:jr F x a=some o):a≠x/\F a=some o:=by
 by_cases z:a=x
 ·rw[z,HE]at h;cases h
 ·exact⟨z,by rw[tV z]at h;exact h⟩
theorem Pg(F:Hp)(x:Addr):ah (jr F x) F:=.of λ_ _ h=>(x9 h).2
theorem cL7{F F':Hp}{x:Addr}(h:fH x F F'):ah (jr F x) F':=⟨λb o e n=>h.get b o (x9 e).1 (x9 e).2 n,λb ps e=>h.tb b ps (x9 e).2⟩
theorem Ph{F F':Hp}{x:Addr}(hx:∀ps,F x≠some (.dG ps))(h:ah (jr F x) F'):fH x F F' :=
 ⟨λb o z e n=>h.get b o (by rw[tV z];exact e) n,λb ps e=>h.tb b ps (by rw[tV (λz=>hx ps (by rw[<-z];exact e))];exact e)⟩
section
variable{F F' H H':Hp}{x C dx:Addr}{ns ks:List Str}{us:List V}{ds:List D}{vs:List V}{A:List Addr}
theorem mJ.off{p:Addr}(hx:H x=some (.ins C dx (ns.zip us)))(sh:fH x H H'):∀{z:uY},mJ H p z->mJ H' p z:=by
 have k:∀a φ,H a=some (.ext φ)->H' a=some (.ext φ):=λa φ e=>sh.get a _ (λz=>by rw[z,hx]at e;cases e) e rfl
 have k':∀a y,H a=some (.own y)->H' a=some (.own y):=λa φ e=>sh.get a _ (λz=>by rw[z,hx]at e;cases e) e rfl
 intro z h
 cases z with
 | ext φ=>exact k _ _ h
 | lam of oc c q =>
  obtain⟨h1,h2,ψ,h3,h4⟩:=h
  exact⟨k _ _ h1,k' _ _ h2,ψ,k _ _ h3,h4⟩
 | Fv C nm n =>
  obtain⟨dy,h1,h2⟩:=h
  exact⟨dy,k _ _ h1,k _ _ h2⟩
theorem R.off(hx:H x=some (.ins C dx (ns.zip us)))(hl:ns.length=us.length)(hk:kR ks ns=true)(ext:ah F H)(sh:fH x H H')(sf:fH x F F')(kn:∀a ws,H a=some (.lst ws)->F a=none->F' a=none)(r:R F H ds vs A):ds.all (D.nb ks)=true->R F' H' ds vs A:=by
 have lst:∀{a ws},H a=some (.lst ws)->a≠x:=λe z=>by rw[z,hx]at e;cases e
 induction r with
 | nil=>exact λ_=>.nil
 | az _ ih=>exact λh=>.az (ih (by simpa[D.nb]using h))
 | bl _ ih=>exact λh=>.bl (ih (by simpa[D.nb]using h))
 | int _ ih=>exact λh=>.int (ih (by simpa[D.nb]using h))
 | str _ ih=>exact λh=>.str (ih (by simpa[D.nb]using h))
 | shr e _ _ ih1 ih2 =>
  intro h
  rw[bA,cK,D.nb,jR]at h
  exact .shr (sf.get _ _ (lst (ext.get _ _ e rfl)) e rfl) (ih1 h.1) (ih2 h.2)
 | own e f _ _ ih1 ih2 =>
  intro h
  rw[bA,cK,D.nb,jR]at h
  exact .own (sh.get _ _ (lst e) e rfl) (kn _ _ e f) (ih1 h.1) (ih2 h.2)
 | tup e _ _ ih1 ih2 =>
  intro h
  rw[bA,cK,D.nb,jR]at h
  exact .tup (sh.get _ _ (λz=>by rw[z,hx]at e;cases e) e rfl) (ih1 h.1) (ih2 h.2)
 | obj e l _ _ ih1 ih2 =>
  intro h
  rw[bA,cK,D.nb,jR,cK]at h
  refine .obj (sh.get _ _ (λz=>?_) e rfl) l (ih1 h.1.2) (ih2 h.2)
  rw[z,hx]at e
  injection e with e
  injection e with _ _ e
  exact b61 hk h.1.1 (b47 hl l e).symm
 | fz e _ _ ih1 ih2 =>
  intro h
  rw[bA,cK,D.nb,jR]at h
  exact .fz (sf.get _ _ (λz=>by have q:=ext.get _ _ e rfl;rw[z,hx]at q;cases q) e rfl) (ih1 h.1) (ih2 h.2)
 | bG e _ ih=>exact λh=>.bG (mJ.off hx sh e) (ih (Kl.mp h).2)
theorem RS.off{δ:Dl}{σ:L2.St}(hx:H x=some (.ins C dx (ns.zip us)))(hl:ns.length=us.length)(hk:kR ks ns=true)(ext:ah F H)(sh:fH x H H')(sf:fH x F F')(kn:∀a ws,H a=some (.lst ws)->F a=none->F' a=none)(r:RS F H δ σ A):fW ks δ=true->RS F' H' δ σ A:=by
 induction r with
 | nil=>exact λ_=>.nil
 | az _ ih=>exact λh=>.az (ih (by simpa[fW]using h))
 | gW r _ ih =>
  intro h
  rw[fW,bA,cK]at h
  exact .gW (r.off hx hl hk ext sh sf kn (by simpa using h.1)) (ih h.2)
theorem av.off{B:Bs}{σ:L2.St}{δ:Dl}(c:av B F H σ δ [])(h0:B.H0 x=none)(f0:B.F0 x=none)(hx:H x=some (.ins C dx (ns.zip us)))(hl:ns.length=us.length)(hk:kR ks ns=true)(sh:fH x H H')(sf:fH x F F')(e:ah F' H')
  (b3:∀a ws,F' a=some (.lst ws)->F a=some (.lst ws)\/H a=none) (hn:fW ks δ=true):av B F' H' σ δ []:=by
 have kn:∀a ws,H a=some (.lst ws)->F a=none->F' a=none:=λa ws h f=>by
  cases q:F' a with
  | none=>rfl
  | some o =>
   exfalso
   have g:=sh.get a _ (λz=>by rw[z,hx]at h;cases h) h rfl
   cases n:iK o with
   | true =>
    have:=e.get a o q n
    rw[g]at this
    cases this
    rcases b3 a ws q with z | z
    ·rw[f]at z;cases z
    ·rw[h]at z;cases z
   | false =>
    obtain⟨ps,rfl⟩:=zw n
    obtain⟨m,z⟩:=e.tb a ps q
    rw[g]at z;cases z
 obtain⟨A,C',r,s,nd,fr⟩:=c.own
 refine⟨e,?_,?_,λa ws h=>?_,A,C',?_,s.off hx hl hk c.ext sh sf kn hn,nd,fr⟩
 ·exact⟨λb o q n=>sh.get b o (λz=>by rw[z,h0]at q;cases q) (c.b1.get b o q n) n,λb ps q=>by
   obtain⟨m1,e1⟩:=c.b1.tb b ps q
   obtain⟨m2,e2⟩:=sh.tb b _ e1
   exact⟨m1++m2,by rw[e2,yw]⟩⟩
 ·exact⟨λb o q n=>sf.get b o (λz=>by rw[z,f0]at q;cases q) (c.b2.get b o q n) n,λb ps q=>by
   obtain⟨m1,e1⟩:=c.b2.tb b ps q
   obtain⟨m2,e2⟩:=sf.tb b _ e1
   exact⟨m1++m2,by rw[e2,yw]⟩⟩
 ·rcases b3 a ws h with z | z
  ·exact c.b3 a ws z
  ·exact .inr (c.b1.free z)
 ·cases r;exact .nil
end
theorem ya{H:Hp}:Tb [] H:=λ_ h=>nomatch h
inductive lN(tl:List Addr)(x:Addr)(t:cE)(D:Ends)(σ:L2.St)(H:Hp):Prop
 | mk (B F δ Dd) (c:av B F H σ δ []) (hT:Tb tl B.H0) (h0:B.H0 x=none) (f0:B.F0 x=none) (e0:σ[0]?=some (some (.ref x))) (q:t Dd δ) (k:∀ai aN F' H',Dd.nx ai->av B F' H' aN ai []->aN[0]?=some (some (.ref x))->D.nx aN H')
section
variable{X:Cx}{tl:List Addr}{x C dx:Addr}{e a b c:Expr}{es:List Expr}{pos p pos':Pos}{st:Stmt}{l kC rest:List Stmt}{t u:cE}{te:aJ}{tt:fj}{ta:cP}{y:Str}
theorem fK(h1:PS X st (lN tl x t))(h2:PSs X rest (lN tl x u)):PSs X (st::rest) (lN tl x (FG t u)) :=
 zG (KG h1 h2) λD σ H zq=>by
 obtain⟨B,F,δ,Dd,c,hT,h0,f0,e0,q,k⟩:=zq
 exact⟨B,F,δ,{ Dd with nx:=u Dd },c,hT,h0,f0,e0,q,λai aN F' H' hq c' e'=>⟨B,F',ai,Dd,c',hT,h0,f0,e',hq,k⟩⟩
theorem wu(h1:PS X st (lN tl x t)):PSs X [st] (lN tl x t):=KH h1
theorem cI1(i:Nat)(h:PSs X kC (lN tl x t)):PSs X kC (lN tl x (nV i t)):=zG h λD σ H zz=>by
 obtain⟨B,F,δ,Dd,c,hT,h0,f0,e0,⟨d,e,q⟩,k⟩:=zz
 obtain⟨F',hs,c'⟩:=c.freeze e
 exact⟨B,F',_,Dd,c',hT,h0,f0,e0,q,k⟩
theorem HF{i:Nat}(h:PS X st (BS (lE te) (xq (i+1)))):PS X st (lN tl x (mO (i+1) te)) :=
 ig h λD σ H zq=>by
 obtain⟨B,F,δ,Dd,c,hT,h0,f0,e0,q,k⟩:=zq
 exact⟨B,F,δ,[],_,c,q,λd ai v F' H' hd sf sh c'=>k _ _ F' H' hd (c'.store (i+1)) (by rw[qF (by omega)];exact e0)⟩
theorem cr6{i:Nat}{apos:Pos}{elt iter tg:Expr}{ifs:List Expr}{scope:Scope}{cl:List (Str × Addr)}{ti:iO}{tt:fj}{te:aJ}{g:ij}(hN:X.N.Nodup)(wa:X.N[i+1]?=some y)(hx:L2.Loc X.env.scope y)(ay:List (Str × Nat))(bF:List Str)(hc:X.calm=true)(hi:PI X tg iter (lI ti))
  (hg:∀C s H fp,PG (dj X scope (ay.map (·.1)++bF) cl C s H fp) tg (lG ay.length g))
  (ht:∀C s H fp,mH (dj X scope (ay.map (·.1)++bF) cl C s H fp) ifs (lT tt)) (he:∀C s H fp,PE (dj X scope (ay.map (·.1)++bF) cl C s H fp) elt (lE te))
  (jK:closureFor scope X.env=pure cl) (jL:lC X cl:=by repeat' (first | exact trivial | refine⟨rfl,?_⟩)) (jM:∀C:Addr,lD (cellsFrom (C+1) scope.names cl) (relabel scope X.env).names:=by intro _;repeat' (first | exact trivial | refine⟨.inl rfl,?_⟩ | refine⟨.inr (.inl rfl),?_⟩ | refine⟨.inr (.inr ⟨_,rfl⟩),?_⟩)) (jN:∀C:Addr,ly X scope (cellsFrom (C+1) scope.names cl) ay:=by intro _;repeat' (first | exact trivial | refine⟨⟨rfl,.inl rfl,.inl rfl,_,rfl,rfl⟩,?_⟩))
  (gG:scope.kind=.function:=by rfl) (jO:∀y∈scope.names,y.2=.local->scope.names.lookup y.1=some .local:=by decide +kernel)
  (mY:swapsWith (.ListComp elt [⟨tg,iter,ifs,0⟩] scope pos) (some (.Name y pos')) apos.line X.env=pure true:=by rfl) (hf:X.fn y=true\/X.env.scope.names.lookup y=some .local:=by first | exact .inl rfl | exact .inr rfl)
  (hs:∀x,foldedSetIterable iter X.env x=pure x:=by intro _;rfl):PS X (.Assign [.Name y pos'] (.ListComp elt [⟨tg,iter,ifs,0⟩] scope pos) apos) (lN tl x (mO (i+1) (mP ti ay bF.length g tt te))) :=
 HF (cb8 hN wa hx ay bF hc hi hg ht he jK jL jM jN gG jO mY hf hs)
def tW(t:fj):cE:=λD δ=>t δ λb ai=>b=false/\D.nx ai
theorem yb(hc:PT X c (lT tt)):PS X (.If c l [] pos) (lN tl x (tW tt)) :=
 ig (KI hc XG KD) λD σ H zq=>by
 obtain⟨B,F,δ,Dd,c,hT,h0,f0,e0,q,k⟩:=zq
 exact⟨B,F,δ,[],_,c,q,λb ai F' H' hq sf sh c'=>by
  obtain⟨rfl,hq⟩:=hq
  exact oR (k _ _ F' H' hq c' e0)⟩
def gO(ks ns:List Str)(y:Str)(xs:List D)(d:D)(δ:Dl):Bool:=kR (y::ks) ns&&xs.all (D.nb ks)&&d.nb ks&&fW ks (δ.set 0 none)
def tX(K:PySem.W.Frag)(y:Str)(t:aJ):cE:=λDd δ=>t δ λd ai=>∃C ns xs ks,ai[0]?=some (some (.obj C ns xs))/\cW K C/\bq K C y/\ns.length<1000/\gO ks ns y xs d.sh ai=true/\Dd.nx (ai.set 0 (some (.obj C (ns++[y]) (xs++[d.sh]))))
theorem ca3{y:Str}{v:V}{ns:List Str}{ws:List V}(h:ns.contains y=false)(hl:ns.length=ws.length):gT y v (ns.zip ws)=(ns++[y]).zip (ws++[v]):=by
 rw[Nz,List.zip_append hl];rfl
 rintro⟨z,u⟩ hz rfl
 have:=(uo hz).1
 simp[this]at h
theorem iV{z:Str}{K:PySem.W.Frag}(hN:X.N[0]?=some z)(hv:jY X.env.scope z)(he:PE X e (lE te))(hK:K=X.K:=by rfl)(hs:swapsWith e (some (.Attribute (.Name z p) y pos')) pos.line X.env=pure false:=by rfl)(hd:(z==("__debug__":Str))=false:=by decide)(cC:(z==("__classdict__":Str))=false:=by decide) :
  PS X (.Assign [.Attribute (.Name z p) y pos'] e pos) (lN tl x (tX K y te)) :=
 ig (YS (mB (i:=0) hN hv hd cC) he hs) λD σ H zq=>by
 subst hK
 obtain⟨B,F,δ,Dd,c,hT,h0,f0,e0,q,k⟩:=zq
 refine⟨B,F,δ,[],_,c,q,λd ai v F' H' hd sf sh c'=>?_⟩
 obtain⟨C,ns,xs,ks,ed,hc,hn,dW,nz,hq⟩:=hd
 obtain⟨F1,f1,c1⟩:=c'.zE
 have s1:=c1.top
 have c2:=c1.pop
 obtain⟨u,eu,su⟩:=c2.look ed
 obtain rfl:u=.ref x:=by rw[e0]at eu;injection eu with eu;injection eu with eu;exact eu.symm
 obtain⟨p1,dx,ws,ep,hx,hl,r⟩:=vX su
 obtain rfl:x=p1:=by injection ep
 unfold gO kR at nz
 rw[cK,cK,cK,bA,cK]at nz
 obtain⟨⟨⟨⟨m1,m2⟩,m3⟩,m4⟩,m5⟩:=nz
 refine⟨.ref x,e0,x,C,dx,_,rfl,hx,hc,hn,by rw[yM];omega,?_⟩
 rw[ca3 (by simpa using m1) hl]
 generalize eo:HO.ins C dx ((ns++[y]).zip (ws++[v]))=o
 have sx:fH x H' (upd H' x o):=fH.upd (C:=C) (dx:=dx) hx rfl
 have Pj:∀ps,F1 x≠some (.dG ps):=λps z=>by
  obtain⟨m,z⟩:=c2.ext.tb _ _ z
  rw[hx]at z;cases z
 have qw:fH x F1 (jr F1 x):=⟨λb o z e _=>by rw[tV z];exact e,λb ps e=>⟨#[],by rw[tV (λz=>Pj ps (by rw[<-z];exact e)),e];simp⟩⟩
 have ee:ah (jr F1 x) (upd H' x o):=cL7 ⟨λb o z e n=>by rw[bt z];exact c2.ext.get b o e n,λb ps e=>by rw[bt (λz=>Pj ps (by rw[<-z];exact e))];exact c2.ext.tb b ps e⟩
 have kn:∀a ws,H' a=some (.lst ws)->F1 a=none->jr F1 x a=none:=λa ws _ f=>by unfold jr;rw[f];exact ite_self _
 have c3:=(c2.forget 0).off h0 f0 hx hl m2 sx qw ee (λa ws z=>.inl (x9 z).2) m5
 have hd1:=s1.r (by
  obtain⟨A,C',r',_⟩:=c'.own
  obtain⟨_,_,A1,_,e',_,r1,_⟩:=R.dq r'
  exact(r1.cU c'.ext A1 λ_ h=>h).pl)
 have r3:=(r.append hd1).off hx hl m2 c2.ext sx qw kn (by simp[m3,m4])
 have c4:=c3.pushS (d:=.obj C (ns++[y]) (xs++[d.sh])) (v:=.ref x) (.obj (by rw[de,<- eo]) (by simp[hl]) r3 .nil) rfl
 have h2:0<ai.length:=by
  rcases uA 0 ai.length with z | z
  ·exact z
  ·rw[eE z]at ed;cases ed
 have c5:=c4.fill (i:=0) (by rw[um h2]) e0
 rw[yE]at c5
 exact k _ _ _ _ hq c5 e0
abbrev kS:=Addr->List D->List Str->List D->List Str->List D->Prop
def jS(tl:List Addr)(sp:kS):L2.Sp:=λvs H Q _=>∃F x C dx ns ws xs cX ds bE bz,vs=.ref x::cX/\Tb tl H/\ah F H/\H x=some (.ins C dx (ns.zip ws))/\ns.length=ws.length/\R F H xs ws []/\R F H ds cX []/\sp C ds ns xs bE bz /\
 ∀F' H' yd eB,fH x H H'->fH x F F'->ah F' H'->(∀a us,F' a=some (.lst us)->F a=some (.lst us)\/H a=none)->H' x=some (.ins C yd (bE.zip eB))->bE.length=eB.length->R F' H' bz eB []->Q .az H'
def tY(sp:kS)(ta:cP):cE:=λDd δ=>ta δ λds ai=>∃C ns xs bE bz ks,ai[0]?=some (some (.obj C ns xs))/\ds.all D.pl=true/\sp C ds ns xs bE bz/\(kR ks ns&&fW ks (ai.set 0 none))=true/\Dd.nx (ai.set 0 (some (.obj C bE bz)))
theorem HG{pl:Sem Bool}{Cb f:Addr}{k:Nat}{fd:FuncData}{ps:List Str}{sp:kS}{z m:Str}{p0 apos gA:Pos}(M:qa X.K Cb m f)(Fo:aF X.prog X.w X.K X.mg X.base aK k f fd ps (jS [] sp))(hr:cy k X.A)(hb:Binds X.K fd ps [])(hg:Gl X y)(hm:X.mg y=some (.ref Cb))
  (hN:X.N[0]?=some z) (hv:jY X.env.scope z) (ha:PA X (e::es) (lA ta)) (hd:(z==("__debug__":Str))=false:=by decide) (cC:(z==("__classdict__":Str))=false:=by decide)
  (dZ:(y==("__debug__":Str))=false:=by decide) (gw:starEach (.Name z p0::e::es) X.env=(false,eval (.Name z p0) X.env)::starEach (e::es) X.env:=by rfl) (bU:(backTo pos (starEach (e::es) X.env)).any (·.1)=false:=by rfl)
  (ht:eval (.Call (.Attribute (.Name y p) m apos) (.Name z p0::e::es) [] pos) X.env=(do
   let ov<-eval (.Name y p) X.env
   standAt apos.atName
   let (f,first)<-holding [ov] (getMethod ov m pl)
   callWith pos f first (backTo pos (starEach (.Name z p0::e::es) X.env)) (backToKw pos (keywordEach [] X.env))):=by rfl)
  (hs:swapsWith (.Call (.Attribute (.Name y p) m apos) (.Name z p0::e::es) [] pos) none gA.line X.env=pure false:=by rfl) :
  PS X (.Expr (.Call (.Attribute (.Name y p) m apos) (.Name z p0::e::es) [] pos) gA) (lN tl x (tY sp ta)) :=
 ig (yX (cI8 (pl:=pl) (E:=E0) M Fo hr hb jA hg hm (jy (mB hN hv hd cC) ha gw) dZ gw bU ht) hs) λD σ H zq=>by
 obtain⟨B,F,δ,Dd,c,hT,h0,f0,e0,q,k⟩:=zq
 refine⟨.ref x,e0,B,F,δ,[],_,c,q,λds ai vs F1 H1 hd sf sh c1 s1=>?_⟩
 obtain⟨C,ns,xs,bE,bz,ks,ed,hp,f9,nz,hq⟩:=hd
 obtain⟨u,eu,su⟩:=c1.look ed
 obtain rfl:u=.ref x:=by rw[e0]at eu;injection eu with eu;injection eu with eu;exact eu.symm
 obtain⟨p1,dx,ws,ep,hx,hl,r⟩:=vX su
 obtain rfl:x=p1:=by injection ep
 rw[cK]at nz
 refine⟨F1,x,C,dx,ns,ws,xs,vs,ds,bE,bz,rfl,ya,c1.ext,hx,hl,r,s1.r hp,f9,λF' H' yd eB sx qw e' b3 gb jZ r'=>?_⟩
 have c2:=(c1.forget 0).off h0 f0 hx hl nz.1 sx qw e' b3 nz.2
 have c4:=c2.pushS (d:=.obj C bE bz) (v:=.ref x) (.obj gb jZ r' .nil) rfl
 have h2:0<ai.length:=by
  rcases uA 0 ai.length with z | z
  ·exact z
  ·rw[eE z]at ed;cases ed
 have c5:=c4.fill (i:=0) (by rw[um h2]) e0
 rw[yE]at c5
 exact k _ _ _ _ hq c5 e0
end
theorem R.dh6{F H:Hp}{f c:Addr}{φ:Heap->Prop}(ext:ah F H)(hf:H f=some (.ext φ))(hc:H c=some (.own f)){ds:List D}{vs:List V}{A:List Addr}(r:R F H ds vs A):ds.all (D.nb [])=true->R (rem F f c) (rem H f c) ds vs A:=by
 have k:∀{a o},H a=some o->o≠.ext φ->o≠.own f->a≠f/\a≠c:=λ{a o} e h1 h2=>⟨λz=>by rw[z,hf]at e;injection e with e;exact h1 e.symm,λz=>by rw[z,hc]at e;injection e with e;exact h2 e.symm⟩
 have kh:∀{a o},H a=some o->o≠.ext φ->o≠.own f->rem H f c a=some o:=λ{a o} e h1 h2=>by
  obtain⟨z1,z2⟩:=k e h1 h2
  rw[gJ z1 z2];exact e
 have kf:∀{a o},F a=some o->iK o=true->o≠.ext φ->o≠.own f->rem F f c a=some o:=λ{a o} e n h1 h2=>by
  obtain⟨z1,z2⟩:=k (ext.get _ _ e n) h1 h2
  rw[gJ z1 z2];exact e
 induction r with
 | nil=>exact λ_=>.nil
 | az _ ih=>exact λh=>.az (ih (by simpa[D.nb]using h))
 | bl _ ih=>exact λh=>.bl (ih (by simpa[D.nb]using h))
 | int _ ih=>exact λh=>.int (ih (by simpa[D.nb]using h))
 | str _ ih=>exact λh=>.str (ih (by simpa[D.nb]using h))
 | shr e _ _ ih1 ih2 =>
  intro h
  rw[bA,cK,D.nb,jR]at h
  exact .shr (kf e rfl (by simp) (by simp)) (ih1 h.1) (ih2 h.2)
 | own e g _ _ ih1 ih2 =>
  intro h
  rw[bA,cK,D.nb,jR]at h
  exact .own (kh e (by simp) (by simp)) (vU g) (ih1 h.1) (ih2 h.2)
 | tup e _ _ ih1 ih2 =>
  intro h
  rw[bA,cK,D.nb,jR]at h
  exact .tup (kh e (by simp) (by simp)) (ih1 h.1) (ih2 h.2)
 | obj e l _ _ ih1 ih2 =>
  intro h
  rw[bA,cK,D.nb,jR,cK]at h
  exact .obj (kh e (by simp) (by simp)) l (ih1 h.1.2) (ih2 h.2)
 | fz e _ _ ih1 ih2 =>
  intro h
  rw[bA,cK,D.nb,jR]at h
  exact .fz (kf e rfl (by simp) (by simp)) (ih1 h.1) (ih2 h.2)
 | bG e _ ih=>exact λh=>nomatch (Kl.mp h).1
section
variable{X:Cx}{tl:List Addr}{x:Addr}{e:Expr}{p p0 pos apos gA lp:Pos}{te:aJ}{y:Str}
def tZ(params:Arguments)(body:Expr)(scope:Scope)(yc:Str)(c:Addr)(i:Nat)(sp:kS)(te:aJ):cE:=λDd δ=>te δ λd ai=>∃C ns xs bE bz ks n0,ai[0]?=some (some (.obj C ns xs))/\ai[i]?=some (some (.int n0))/\d.pl=true/\(kR ks ns&&fW ks (ai.set 0 none))=true/\bz.all (D.nb [])=true /\
 (∀qn pm g7 k oc tm,oc.data=.cell (some (.int n0 tm))->sp C [d,.bG (.lam (PySem.W.kla_obj "<lambda>" qn params body scope [(yc,c)] pm k g7) oc c k)] ns xs bE bz)/\Dd.nx (ai.set 0 (some (.obj C bE bz)))
theorem Pk{pl:Sem Bool}{Cb f c cc Pt:Addr}{k i:Nat}{fd:FuncData}{ps:List Str}{sp:kS}{z m yc:Str}{params:Arguments}{body:Expr}{scope:Scope}(M:qa X.K Cb m f)(Fo:aF X.prog X.w X.K X.mg X.base aK k f fd ps (jS [] sp))(hr:cy k X.A)(hb:Binds X.K fd ps [])(hg:Gl X y)(hm:X.mg y=some (.ref Cb))
  (hN:X.N[0]?=some z) (hv:jY X.env.scope z) (hNc:X.N[i]?=some yc) (hyc:X.env.scope.names.lookup yc=some .cell) (gh:X.env.cells.lookup yc=some c) (uJ:X.fn yc=true) (hcf:closureFor scope X.env=pure [(yc,c)]) (s9:X.env.code=.ref cc) (hK:PySem.W.codeHdIn X.K cc Pt=true) (hPt:Pt∈tl) (vT:Bm X.mg X.base)
  (he:PE X e (lE te)) (hd:(z==("__debug__":Str))=false:=by decide) (cC:(z==("__classdict__":Str))=false:=by decide)
  (dZ:(y==("__debug__":Str))=false:=by decide) (gw:starEach [.Name z p0,e,.Lambda params body scope lp] X.env=(false,eval (.Name z p0) X.env)::starEach [e,.Lambda params body scope lp] X.env:=by rfl)
  (di1:starEach [e,.Lambda params body scope lp] X.env=(false,eval e X.env)::starEach [.Lambda params body scope lp] X.env:=by rfl) (di2:starEach [.Lambda params body scope lp] X.env=(false,eval (.Lambda params body scope lp) X.env)::starEach [] X.env:=by rfl) (bU:(backTo pos (starEach [e,.Lambda params body scope lp] X.env)).any (·.1)=false:=by rfl)
  (ht:eval (.Call (.Attribute (.Name y p) m apos) [.Name z p0,e,.Lambda params body scope lp] [] pos) X.env=(do
   let ov<-eval (.Name y p) X.env
   standAt apos.atName
   let (f,first)<-holding [ov] (getMethod ov m pl)
   callWith pos f first (backTo pos (starEach [.Name z p0,e,.Lambda params body scope lp] X.env)) (backToKw pos (keywordEach [] X.env))):=by rfl)
  (hs:swapsWith (.Call (.Attribute (.Name y p) m apos) [.Name z p0,e,.Lambda params body scope lp] [] pos) none gA.line X.env=pure false:=by rfl) (Gr:defaultsOf params X.env=([],[]):=by rfl) :
  PS X (.Expr (.Call (.Attribute (.Name y p) m apos) [.Name z p0,e,.Lambda params body scope lp] [] pos) gA) (lN tl x (tZ params body scope yc c i sp te)) :=
 ig (yX (cp4 (pl:=pl) (E:=E0) M Fo hr hb hg hm hNc hyc gh uJ (jy (mB hN hv hd cC) (jy he (jy (cB7 hcf s9 hK vT Gr) oJ di2) di1) gw) dZ gw bU ht) hs) λD σ H zq=>by
 obtain⟨B,F,δ,Dd,c',hT,h0,f0,e0,q,kk⟩:=zq
 refine⟨.ref x,e0,B,F,δ,[],_,c',q,λd ai v F1 H1 hd sf sh c1=>?_⟩
 obtain⟨C,ns,xs,bE,bz,ks,n0,ed,ei,hp,nz,ji,f9,hq⟩:=hd
 obtain⟨P1,e1⟩:=hT _ hPt
 obtain⟨more,e1⟩:=c1.b1.tb _ _ e1
 refine⟨⟨_,e1⟩,λf k qn pm g7 H3 nf hf3 hk kf wk hl3=>?_⟩
 have s1:=c1.top
 have c2:=c1.pop
 obtain⟨u,eu,su⟩:=c2.look ed
 obtain rfl:u=.ref x:=by rw[e0]at eu;injection eu with eu;injection eu with eu;exact eu.symm
 obtain⟨p1,dx,ws,ep,hx,hl,r⟩:=vX su
 obtain rfl:x=p1:=by injection ep
 obtain⟨vi,ev,si⟩:=c2.look ei
 obtain rfl:vi=.int n0:=by cases si;rfl
 rw[cK]at nz
 refine⟨f,_,_,.int n0,hf3,rfl,ev,λoc u i5 hu nc z5=>?_⟩
 obtain⟨tm,rfl⟩:∃tm,u=ou n0 tm:=hu
 have xf:x≠f:=λz=>by rw[z,nf]at hx;cases hx
 have hx3:=wk.get _ _ hx rfl
 have sc:ah H1 (L2.upd (L2.upd H3 f (.ext (kH (PySem.W.kla_obj "<lambda>" qn params body scope [(yc,c)] pm k g7) oc c f))) c (.own f)):=⟨λb o e n=>Ac (wk.get b o e n) (eH e nf) nc,λb ps e=>by
  obtain⟨m1,g1⟩:=wk.tb b ps e
  exact⟨m1,Ac g1 (eH e nf) nc⟩⟩
 refine⟨F1,x,C,dx,ns,ws,xs,[v,.ref f],[d,.bG (.lam _ oc c k)],bE,bz,rfl,ya,c2.ext.trans sc,sc.get _ _ hx rfl,hl,r.shared (ah.refl _) sc,R.cons (A:=[]) ((s1.r (by simpa using hp)).shared (ah.refl _) sc) (.bG (z:=.lam _ oc c k) (b56 z5 nc hk kf) .nil),f9 qn pm g7 k oc tm i5,λF' H' yd eB sx qw e' b3 gb jZ r'=>?_⟩
 have gf:H' f=some (.ext (kH _ oc _ f)):=sx.get f _ xf.symm (by rw[bt z5.symm,de]) rfl
 have gc:H' c=some (.own f):=sx.get _ _ (eH hx3 nc).symm de rfl
 refine⟨gf,gc,?_⟩
 have sx4:fH x H1 (rem H' f c):=bU3 wk nf nc sx
 have Pl:F1 f=none:=c2.ext.free nf
 have Pm:F1 c=none:=c2.ext.free (wk.free nc)
 have sf4:fH x F1 (rem F' f c):=⟨λb o z e n=>by rw[gJ (eH e Pl) (eH e Pm)];exact qw.get b o z e n,λb ps e=>by rw[gJ (eH e Pl) (eH e Pm)];exact qw.tb b ps e⟩
 have e4:ah (rem F' f c) (rem H' f c):=⟨λb o e n=>by
  obtain⟨z1,z2,e⟩:=zW e
  rw[gJ z1 z2];exact e'.get b o e n,λb ps e=>by
  obtain⟨z1,z2,e⟩:=zW e
  rw[gJ z1 z2];exact e'.tb b ps e⟩
 have c3:=(c2.forget 0).off h0 f0 hx hl nz.1 sx4 sf4 e4 (λa us h=>by
  obtain⟨z1,z2,h⟩:=zW h
  exact(b3 a us h).imp_right λz=>sc.free z) nz.2
 have hx4:rem H' f c x=some (.ins C yd (bE.zip eB)):=by rw[gJ xf (λz=>by rw[z,gc]at gb;cases gb)];exact gb
 have c4:=c3.pushS (d:=.obj C bE bz) (v:=.ref x) (.obj hx4 jZ (r'.dh6 e' gf gc ji) .nil) rfl
 have h2:0<ai.length:=by
  rcases uA 0 ai.length with z | z
  ·exact z
  ·rw[eE z]at ed;cases ed
 have c5:=c4.fill (i:=0) (by rw[um h2]) e0
 rw[yE]at c5
 exact kk _ _ _ _ hq c5 e0
end
section
variable{P:Program}{w:World}{K:PySem.W.Frag}{mg:Str->Option Value}{base:Heap}
theorem HH{tl:List Addr}{ps:List Str}{sp:kS}(len:∀C ds ns xs bE bz,sp C ds ns xs bE bz->ds.length+1=ps.length):∀vs H Q E,jS tl sp vs H Q E->vs.length=ps.length:=λvs H Q E zz=>by
 obtain⟨F,x,C,dx,ns,ws,xs,cX,ds,bE,bz,rfl,tb,ext,hx,hl,r1,r2,f9,k⟩:=zz
 rw[<-len _ _ _ _ _ _ f9,r2.length];rfl
theorem HI{X:Cx}{tl:List Addr}{N:List Str}{kC:List Stmt}{sp:kS}{H:Hp}{vs:List V}{Q:VK}{E:XK}(fO:∀a:Addr,∃t:cE,PSs X kC (lN tl a t)/\∀C ds ns xs bE bz,sp C ds ns xs bE bz->t { nx:=λδ=>δ[0]?=some (some (.obj C bE bz)),rt:=λ_=>False } (je N (.obj C ns xs::ds)))
  (zz:jS tl sp vs H Q E):∃t,PSs X kC t/\t { nx:=λ_ H'=>Q .az H',rt:=Q } (L2.start N vs) H:=by
 obtain⟨F,x,C,dx,ns,ws,xs,cX,ds,bE,bz,rfl,tb,ext,hx,hl,r1,r2,f9,k⟩:=zz
 obtain⟨t,ht,hq⟩:=fO x
 have r:R F H (.obj C ns xs::ds) (.ref x::cX) []:=.obj hx hl r1 r2
 have e1:L2.start N (.ref x::cX)=(V.ref x::cX).map some++aX (N.length-(D.obj C ns xs::ds).length) none:=by unfold L2.start;rw[r.length]
 have fx:∀ps,F x≠some (.dG ps):=λps z=>by
  obtain⟨m,z⟩:=ext.tb _ _ z
  rw[hx]at z;cases z
 refine⟨_,ht,⟨jr H x,jr F x⟩,F,je N (.obj C ns xs::ds),_,?_,λP hP=>?_,HE _ _,HE _ _,?_,hq _ _ _ _ _ _ f9,λai aN F' H' hd c e'=>?_⟩
 ·rw[e1]
  have c:=av.start ext r (N.length-(D.obj C ns xs::ds).length)
  obtain⟨A,C',r',s',nd,fr⟩:=c.own
  refine⟨c.ext,(Pg H x).trans c.b1,Pg F x,λa us h=>.inl ?_,A,C',r',s',nd,λa ha=>?_⟩
  ·show jr F x a=_
   rw[tV λz=>?_]
   ·exact h
   ·have:=ext.get _ _ h rfl
    rw[z,hx]at this;cases this
  ·have:=fr a ha
   show jr H x a=none
   unfold jr
   rw[show H a=none from this];exact ite_self _
 ·obtain⟨ps,e⟩:=tb P hP
  exact⟨ps,by show jr H x P=_;rw[tV λz=>by rw[z,hx]at e;cases e];exact e⟩
 ·rw[e1];rfl
 ·obtain⟨u,eu,su⟩:=c.look hd
  obtain rfl:u=.ref x:=by rw[e']at eu;injection eu with eu;injection eu with eu;exact eu.symm
  obtain⟨p1,yd,eB,ep,gb,jZ,r'⟩:=vX su
  obtain rfl:x=p1:=by injection ep
  refine k F' H' yd eB (Ph (λps z=>by rw[hx]at z;cases z) c.b1) (Ph fx c.b2) c.ext (λa us h=>?_) gb jZ r'
  rcases c.b3 a us h with z | z
  ·exact .inl (x9 z).2
  ·refine .inr ?_
   rw[<-tV (F:=H) (x:=x) λy=>?_]
   ·exact z
   ·have:=c.ext.get _ _ h rfl
    rw[y,gb]at this;cases this
theorem Dr{x qual:Str}{st:Stmt}{f:Addr}{fd:FuncData}{N ps:List Str}{k:Nat}{tl:List Addr}{sp:kS}(F:j6 K x qual st f fd)(S:aT N ps (aI st))(len:∀C ds ns xs bE bz,sp C ds ns xs bE bz->ds.length+1=ps.length)
  (fO:∀(aD:Value) (A:Around) (outer:List Env) (s:Shared) (H:Hp) (E:XK),cy k (A.deeper (envOfC qual (aI st) s.heap.objs.size f aD))->∀a:Addr,
   ∃t:cE,PSs (i7 aK P w K mg base N qual (aI st) f aD A outer s H E).gF (ie st) (lN tl a t)/\∀C ds ns xs bE bz,sp C ds ns xs bE bz->t { nx:=λδ=>δ[0]?=some (some (.obj C bE bz)),rt:=λ_=>False } (je N (.obj C ns xs::ds))):aF P w K mg base aK (k+1) f fd ps (jS tl sp) :=
 F.ok S (HH len) λaD A outer s H _ _ E hr zz=>HI (fO aD A outer s H E hr) zz
theorem cs8{x qual:Str}{st:Stmt}{f:Addr}{fd:FuncData}{N ps:List Str}{k:Nat}{tl:List Addr}{sp:kS}(F:AD K x qual st f fd)(S:aT N ps (aI st))(len:∀C ds ns xs bE bz,sp C ds ns xs bE bz->ds.length+1=ps.length)
  (fO:∀(aD:Value) (A:Around) (outer:List Env) (s:Shared) (H:Hp) (E:XK),cy k (A.deeper (envOfC qual (aI st) s.heap.objs.size f aD))->∀a:Addr,
   ∃t:cE,PSs (i7 aK P w K mg base N qual (aI st) f aD A outer s H E).gF (ie st) (lN tl a t)/\∀C ds ns xs bE bz,sp C ds ns xs bE bz->t { nx:=λδ=>δ[0]?=some (some (.obj C bE bz)),rt:=λ_=>False } (je N (.obj C ns xs::ds))):aF P w K mg base aK (k+1) f fd ps (jS tl sp) :=
 F.ok S (HH len) λaD A outer s H _ _ E hr zz=>HI (fO aD A outer s H E hr) zz
theorem Pn{x qual:Str}{st:Stmt}{f cc:Addr}{fd:FuncData}{N ps:List Str}{k:Nat}{tl:List Addr}{sp:kS}(F:j6 K x qual st f fd)(s9:fd.code=.ref cc)(S:aT N ps (aI st))(len:∀C ds ns xs bE bz,sp C ds ns xs bE bz->ds.length+1=ps.length)
  (fO:∀(A:Around) (outer:List Env) (s:Shared) (H:Hp) (E:XK),cy k (A.deeper (envOfC qual (aI st) s.heap.objs.size f (.ref cc)))->∀a:Addr,
   ∃t:cE,PSs (i7 aK P w K mg base N qual (aI st) f (.ref cc) A outer s H E).gF (ie st) (lN tl a t)/\∀C ds ns xs bE bz,sp C ds ns xs bE bz->t { nx:=λδ=>δ[0]?=some (some (.obj C bE bz)),rt:=λ_=>False } (je N (.obj C ns xs::ds))):aF P w K mg base aK (k+1) f fd ps (jS tl sp) :=
 cp5 F s9 S (HH len) λA outer s H _ _ E hr zz=>HI (fO A outer s H E hr) zz
end
def ye(C:Addr)(tf:List D->List Str->List D->Prop):kS:=λC' ds ns xs bE bz=>C'=C/\ns=[]/\xs=[]/\∃zs,tf ds bE zs/\bz=zs.map D.sh
section
variable{X:Cx}{CX:e8}{n:Nat}{f C:Addr}{fd:FuncData}{ps:List Str}{tf:List D->List Str->List D->Prop}{E:XK}{x:Str}{p pos:Pos}{e:Expr}{es:List Expr}{t:cP}{tl:List Addr}
theorem yf(hT:Tb tl X.oG)(M:L2.Mk X.K C f)(F:aF X.prog X.w X.K X.mg X.base CX n f fd ps (jS tl (ye C tf)))(hr:cy (n+1) X.A)(hg:Gl X x)(hm:X.mg x=some (.ref C))(hb:Binds X.K fd ps [])(hx:oK CX X E)
  (ha:PA X (e::es) (lA t)) (dZ:(x==("__debug__":Str))=false:=by decide) (he:starEach (e::es) X.env=(false,eval e X.env)::starEach es X.env:=by rfl) (bU:(backTo pos (starEach es X.env)).any (·.1)=false:=by rfl) :
  PE X (.Call (.Name x p) (e::es) [] pos) (lE (tT C tf t)):=by
 intro pins s σ H Q I zz
 obtain⟨B,F',δ,ts,Qd,c,q,k⟩:=zz
 have tb:=M7 I hT
 refine Y2 M F hr hg hm hb .nil hx ha dZ he bU pins s σ H Q I ⟨B,F',δ,ts,_,c,q,λds ao vs F1 H1 q1 f1 h1 c1 s1=>?_⟩
 intro x dx lY hx2 uX
 obtain⟨hp,ns,xs,hI,hq⟩:=q1
 have sm:ah H1 (upd (upd H1 dx (.own x)) x (.ins C dx [])):=.of λb o e=>by rw[bt (eH e lY),bt (eH e hx2)];exact e
 refine⟨F1,x,C,dx,[],[],[],vs,ds,ns,xs.map D.sh,by rw[gu],Gx (Gx tb h1) sm,c1.ext.trans sm,de,rfl,.nil,(s1.r hp).shared (ah.refl _) sm,⟨rfl,rfl,rfl,xs,hI,rfl⟩,λF2 H2 dx2 Cm sx qw e2 b3 gb jZ r'=>⟨rfl,?_⟩⟩
 have s2:ah H1 H2:=fH.of0 lY sm sx
 have sf:ah F1 F2:=fH.of0 (c1.ext.free lY) (ah.refl _) qw
 refine k _ ao _ F2 H2 hq (f1.trans sf) (h1.trans s2) (c1.call s2 sf e2 (λa us h=>(b3 a us h).imp_right sm.free) (.obj gb jZ r' .nil) .nil (by simp))
end
end L3
namespace L3
open PySem L2 Mf
theorem cw3(ks:List Str)(i:Int):(D.int i).nb ks=true:=rfl
theorem Po(ks:List Str):∀l:List Nat,(aj l).all (D.nb ks)=true
 | []=>rfl
 | _::l=>Po ks l
theorem kT(ks:List Str)(o:Bool)(l:List Nat):(D.lst o (aj l)).nb ks=true:=by rw[D.nb,jR];exact Po ks l
theorem kU(ks:List Str)(o b:Bool):∀G:List (List Nat),(D.lst o (au b G)).nb ks=true
 | []=>rfl
 | g::G=>by
  have h1:=kT ks b g
  have h2:=kU ks o b G
  rw[D.nb,jR]at h2 ⊢
  rw[au,cI,bA]
  exact Kl.mpr ⟨h1,h2⟩
theorem qy(ks:List Str)(o:Bool):∀l:List Int,(D.lst o (aS l)).nb ks=true
 | []=>rfl
 | _::l=>qy ks o l
theorem Pp(ks:List Str)(l g:List Int):(D.lst false (m9 l g)).nb ks=true:=by
 rw[D.nb,jR,m9,nF,cJ]
 exact λa _=>qy _ _ _
theorem mf(cb cp:Addr)(m:Bool × Nat):(fD cb cp m).nb ["many"]=true:=by
 have hp:∀m,(pD m).all (D.nb ["many"])=true:=λm=>by simp only[pD,bA,eU,cw3,qy,ky]
 obtain⟨k,n⟩:=m
 cases k
 ·show(D.obj _ _ _).nb _=true
  rw[D.nb,jR,hp];rfl
 ·show(D.obj _ _ (_++[_])).nb _=true
  rw[D.nb,jR,List.all_append,hp,bA,Pp];rfl
theorem js(o b:Bool)(G:List (List Nat)):(D.lst o (au b G)).sh=.lst false (au false G):=by rw[bV,dM]
theorem qA(o:Bool)(l:List Int):(D.lst o (aS l)).sh=.lst false (aS l):=by rw[bV,jF]
theorem nA(o:Bool)(l:List Nat):(D.lst o (aj l)).sh=.lst false (aj l):=by rw[bV,m8]
structure AF(ns:List Str)(xs:List D):Prop where
 look:∀y∈wm,∀ms ys,((ns++ms).zip (xs++ys)).lookup y=(ms.zip ys).lookup y
 nb:∀y∈wm,∀ms ys d δ,gO ["many"] ms y ys d δ=true->gO ["many"] (ns++ms) y (xs++ys) d δ=true
 len:∀ms:List Str,ms.length<=6->(ns++ms).length<1000
theorem AF.nil:AF [] []:=⟨λ_ _ _ _=>rfl,λ_ _ _ _ _ _ h=>h,λms h=>yC h (by decide)⟩
theorem AF.two(e f:Int):AF ["extra","first"] [.int e,.int f]:=by
 refine⟨λy hy ms ys=>?_,λy hy ms ys d δ h=>?_,λms h=>by rw[du];exact yC (Nat.add_le_add_left h 2) (by decide)⟩
 ·simp only[cw,gE,or_false]at hy
  rcases hy with rfl | rfl | rfl | rfl | rfl | rfl<;>rfl
 ·simp only[cw,gE,or_false]at hy
  rcases hy with rfl | rfl | rfl | rfl | rfl | rfl<;>exact h
end L3
namespace L3
open PySem L2 Mf
def lex(n:Nat):Nat->Nat->List (List Nat)
 | 0,_=>[[]]
 | k+1,b=>(k7 b (n-b)).flatMap λa=>(lex n k (a+1)).map (a :: ·)
def kW(b:Nat)(p:List Nat):Nat:=match p.getLast? with
 | some x=>x+1
 | none=>b
def iW(n b:Nat)(p:List Nat):List (List Nat):=(k7 (kW b p) (n-kW b p)).map λa=>p++[a]
theorem cb9(b a:Nat)(p:List Nat):kW b (a::p)=kW (a+1) p:=by
 cases p with
 | nil=>rfl
 | cons x q=>unfold kW;rw[List.getLast?_cons_cons,List.getLast?_eq_some_getLast (List.cons_ne_nil x q)]
theorem Pq{b:Nat}{p:List Nat}(h:0<p.length):kW b p=p.getD (p.length-1) 0+1:=by
 unfold kW
 rw[List.getLast?_eq_getElem?,aL,aM (by omega)];rfl
theorem bY0(n b a:Nat)(p:List Nat):iW n b (a::p)=(iW n (a+1) p).map (a :: ·):=by
 unfold iW
 rw[cb9,bx];rfl
theorem Pr(n:Nat):∀(k b:Nat),(lex n k b).flatMap (iW n b)=lex n (k+1) b
 | 0,b=>by
  show [[]].flatMap (iW n b)=(k7 b (n-b)).flatMap λa=>[[a]]
  rw[Km]
  exact List.map_eq_flatMap
 | k+1,b=>by
  show((k7 b (n-b)).flatMap λa=>(lex n k (a+1)).map (a :: ·)).flatMap (iW n b)=(k7 b (n-b)).flatMap λa=>(lex n (k+1) (a+1)).map (a :: ·)
  rw[List.flatMap_assoc]
  congr 1
  funext a
  rw[List.flatMap_map,<- Pr n k (a+1),List.map_flatMap]
  congr 1
  funext p
  exact bY0 n b a p
theorem Pu(n b:Nat):∀L:List (List Nat),(L.flatMap (iW n b)).length<=L.length*n
 | []=>h8 _
 | p::L=>by
  have h:=Pu n b L
  have e:(iW n b p).length<=n:=by unfold iW;rw[aW,List.length_range'];omega
  rw[Ew,du,ft,JO]
  omega
theorem kX(n:Nat):∀(k b:Nat),∀S∈lex n k b,S.length=k/\S.Pairwise (· < ·)/\∀x∈S,b<=x/\x<n
 | 0,b,S,h=>by
  obtain rfl:=fu.mp h
  exact⟨rfl,Ea,λx hx=>by cases hx⟩
 | k+1,b,S,h=>by
  obtain⟨a,ha,h⟩:=Kg.mp h
  obtain⟨p,hp,rfl⟩:=bw.mp h
  obtain⟨h1,h2,h3⟩:=kX n k (a+1) p hp
  have ha:=List.mem_range'_1.mp ha
  refine⟨by rw[ft,h1],uB.mpr ⟨λx hx=>(h3 x hx).1,h2⟩,λx hx=>?_⟩
  rcases cw.mp hx with rfl | z
  ·omega
  ·have:=h3 x z
   omega
theorem wz(n:Nat):∀(c k b:Nat),n-b=c->(lex n k b).length<=2 ^ c
 | c,0,b,_=>Nat.one_le_two_pow
 | 0,k+1,b,h=>by
  show((k7 b (n-b)).flatMap _).length<=1
  rw[h];exact h8 _
 | c+1,k+1,b,h=>by
  have h1:=wz n c k (b+1) (by omega)
  have h2:=wz n c (k+1) (b+1) (by omega)
  have e:lex n (k+1) b=(lex n k (b+1)).map (b :: ·)++lex n (k+1) (b+1):=by
   show(k7 b (n-b)).flatMap _=_++(k7 (b+1) (n-(b+1))).flatMap _
   rw[h,show n-(b+1)=c by omega,Et,Ew]
  rw[e,du,aW,oy]
  omega
def t7(n k b j:Nat):List (List Nat):=(k7 b j).flatMap λa=>(lex n k (a+1)).map (a :: ·)
theorem HJ(n k b j:Nat):t7 n k b (j+1)=t7 n k b j++(lex n k (b+j+1)).map ((b+j) :: ·):=by
 unfold t7
 rw[List.range'_1_concat,Ex,Km]
theorem Pw(n k b:Nat):∀(c j:Nat),(t7 n k b j).length<=(t7 n k b (j+c)).length
 | 0,j=>cg _
 | c+1,j=>by
  have h:=Pw n k b c j
  rw[<-Bv,HJ n k b (j+c),du]
  omega
theorem Px(n:Nat):∀(k b:Nat),b+k<=n->lex n k b≠[]
 | 0,b,_=>by show [[]]≠[];decide
 | k+1,b,h=>by
  show(k7 b (n-b)).flatMap _≠[]
  obtain⟨c,hc⟩:∃c,n-b=c+1:=⟨n-b-1,by omega⟩
  rw[hc,Et,Ew]
  intro z
  have z:=(Bu.mp z).1
  exact Px n k (b+1) (by omega) (Ki.mp z)
theorem Ds{o:Bool}{L:List (List Nat)}{j:Nat}{d:D}(h:(au o L)[j]?=some d):∃hj:j<L.length,d=.lst o (aj L[j]):=by
 unfold au at h
 rw[bM]at h
 by_cases hj:j<L.length
 ·rw[aM hj]at h;exact⟨hj,(cT h).symm⟩
 ·rw[eE (by omega)]at h;cases h
section
variable{m:Bool × Nat}{G:List (List Nat)}
def iX(m:Bool × Nat)(G:List (List Nat))(S:List Nat):List (List Nat):=(jq m (bj G S)).getD []
structure Ppr(m:Bool × Nat)(G:List (List Nat))(S:List Nat):Prop where
 wy:jq m (bj G S)=some (iX m G S)
 ln:(iX m G S).length=S.length
 rt:RT (aa m) G.length (iX m G S)
 un:∀k,k<S.length->gM m ((iX m G S).getD k []) (bj G S) S.length=fg S.length k
theorem HK(hm:m∈aA)(g0:0<G.length)(hG:RT (aa m) (ag G) G){d:Nat}(hA:oo m G d){S:List Nat}(hS:dB (ag G) S)(hl:S.length<d):Ppr m G S:=by
 have g:=rg hm
 have l1:=lo1 hm
 obtain⟨p1,p2⟩:=oi (F:=S) (by omega) hG
 have wp:=xU (F:=S) g0
 have qB:RT (aa m) (ag (bj G S)) (bj G S):=by rw[wp];exact p1
 have full:cH (bf m (bj G S)) (ag (bj G S))=[]:=by
  refine JT.mpr λf hf=>?_
  obtain⟨⟨H,I⟩,iR,il,sp⟩:=gL hm qB
  obtain⟨k1,k2,k3,-⟩:=tI hm iR I hf
  have kx:=OB hm qB hf
  have fl:f<S.length:=by
   rw[<-wp]
   exact bT.mp (mj.mp hf).1
  generalize dN m (bf m (bj G S)) (ag (bj G S)) f=x at k1 k2 k3 kx
  obtain⟨w1,w2,w3,w4,w5⟩:=Hv hm S x (aX (ag G) 0) (by rw[k1,wp]) hS.1 hS.2 (eQ ..) (λa ha=>by rw[(k6.mp ha).2];omega) k2 λp _=>jQ _ _
  generalize (S.zip x).foldl (λr z=>r.set z.1 z.2) (aX (ag G) 0)=v at w1 w2 w3 w4 w5
  have wv:Wd m G v:=⟨w1,w2,λr hr=>by
   obtain⟨k,hk,rfl⟩:=fh hr
   have e:=w5 (cf G[k])
   have z0:dt m (ag G) (cf G[k]) (cf (aX (ag G) 0))=0:=eP g λj _=>by rw[jQ];exact gK m _ (bO m hm)
   have ks:=kx _ (bQ (show k<(bj G S).length by omega) [])
   rw[wp]at ks
   have s0:(sm (gp m) S.length λt=>gm m (cf G[k] (S.getD t 0)) (cf x t))=0:=by
    refine BI (b9 λt ht=>?_) ks
    rw[Hs hk ht]
    unfold dD
    rw[kj hk]
   rw[z0,s0]at e
   rw[oh m (by rw[(hG _ (cN hk)).1,w1]),(hG _ (cN hk)).1]
   exact e.trans (jH (by omega))⟩
  have:=hA v _ wv (AE hm hG) λz=>by
   have e:=w4 f fl
   rw[z,jQ,k3]at e
   exact absurd e (by decide)
  have:=oj (l:=kQ (ag G) v (aX (ag G) 0)) (l':=S) (Di ..) λj hj=>Kj λc=>(om.mp hj).2 (by rw[w3 j c])
  omega
 obtain⟨V,eV⟩:=ca5 hm (by rw[p2];exact g0) qB full
 obtain⟨a1,a2,a3,-⟩:=Hb hm (by rw[p2];exact g0) qB eV
 have ep:iX m G S=V:=by unfold iX;rw[eV];rfl
 rw[wp]at a1 a3
 rw[p2]at a2
 exact⟨by rw[ep];exact eV,by rw[ep];exact a1,by rw[ep];exact a2,by rw[ep];exact a3⟩
end
def AG(o:Bool)(m:Bool × Nat)(G L:List (List Nat)):List D:=L.map λS=>.tup [.lst o (aj S),.lst o (au o (iX m G S))]
theorem Py(m:Bool × Nat)(G L:List (List Nat)):(AG true m G L).map D.sh=AG false m G L:=by
 unfold AG
 rw[bx]
 refine mv λS _=>?_
 show(D.tup [.lst true (aj S),.lst true (au true (iX m G S))]).sh=_
 rw[i9,cI,cI,gR,kM,bV,dM]
end L3
namespace L3
open PySem L2 Mf
def wt(l:List Nat):Nat:=(l.filter λx=>decide (x≠0)).length
theorem HL{l:List Nat}{n:Nat}(h:l.length=n):wt l=(kQ n l (aX n 0)).length:=by
 have e:l=(aH n).map (cf l):=by
  refine BC (by rw[aW,bN,h]) λi h1 h2=>?_
  rw[qU,yO]
  unfold cf
  rw[aL,aM h1];rfl
 unfold wt kQ
 conv=>lhs;rw[e,List.filter_map,aW]
 refine congrArg yx (J4 λj _=>?_)
 show decide (cf l j≠0)=_
 rw[jQ]
theorem HM:∀l:List Nat,wt l+(l.map λ(n:Nat)=>(n:Int)).count 0=l.length
 | []=>rfl
 | a::l=>by
  have:=HM l
  unfold wt at this ⊢
  rw[cI,List.count_cons,List.filter_cons,ft]
  by_cases c:a=0
  ·subst c
   rw[if_neg (by decide),if_pos (by decide)];omega
  ·rw[if_pos (decide_eq_true c),if_neg (by simpa using c),ft];omega
theorem cz0(l:List Nat):nul l=decide (wt l=0):=by
 unfold nul wt
 rw[qP,decide_eq_true_iff,mw,WV,cJ]
 refine forall_congr' λx=>forall_congr' λ_=>?_
 simp
theorem Pz(n:Nat):∀(k b:Nat) (S:List Nat),S.length=k->S.Pairwise (· < ·)->(∀x∈S,b<=x/\x<n)->S∈lex n k b
 | 0,b,S,h,_,_=>by rw[mw.mp h];exact fu.mpr rfl
 | k+1,b,[],h,_,_=>nomatch h
 | k+1,b,a::S,h,hp,hb=>by
  obtain⟨p1,p2⟩:=uB.mp hp
  have ha:=hb a (gD)
  exact Kg.mpr ⟨a,List.mem_range'_1.mpr (by omega),w9 (Pz n k (a+1) S (by simpa using h) p2 λx hx=>⟨p1 x hx,(hb x (e5 _ hx)).2⟩)⟩
theorem AH{n:Nat}{S:List Nat}(h:dB n S):S.Nodup:=h.1.imp λq=>fN q
theorem PB{n:Nat}:∀(c:Nat) {F:List Nat},dB n F->F.length+c<=n->∃S,dB n S/\S.length=F.length+c/\∀x∈F,x∈S
 | 0,F,h,_=>⟨F,h,rfl,λ_ q=>q⟩
 | c+1,F,h,hl=>by
  obtain⟨x,hx,nx⟩:∃x,x<n/\x ∉ F:=qO λz=>by
   have:=oj (l:=aH n) (l':=F) yP λa ha=>qO λq=>z ⟨a,bT.mp ha,q⟩
   rw[bN]at this
   omega
  have hI:dB n ((aH n).filter λy=>decide (y∈x::F)):=⟨BH.filter _,λy hy=>bT.mp (mj.mp hy).1⟩
  have hm:∀y,y∈(aH n).filter (λy=>decide (y∈x::F))↔y∈x::F:=λy=>by
   rw[mj,bT,decide_eq_true_iff]
   refine⟨λz=>z.2,λz=>⟨?_,z⟩⟩
   rcases cw.mp z with rfl | z
   ·exact hx
   ·exact h.2 y z
  have nd:(x::F).Nodup:=iZ.mpr ⟨nx,AH h⟩
  have l1:=oj nd λa ha=>(hm a).mpr ha
  have l2:=oj (AH hI) λa ha=>(hm a).mp ha
  rw[ft]at l1 l2
  obtain⟨S,s1,s2,s3⟩:=PB c hI (by omega)
  exact⟨S,s1,by omega,λy hy=>s3 y ((hm y).mpr (e5 _ hy))⟩
section
variable{m:Bool × Nat}{G:List (List Nat)}
theorem PC(hm:m∈aA)(hG:RT (aa m) (ag G) G){d:Nat}(hA:oo m G d){l:List Nat}(hl:Wd m G l)(h0:wt l≠0):d<=wt l:=by
 rw[HL hl.ln]
 refine hA _ _ hl (AE hm hG) λz=>h0 ?_
 rw[z]
 unfold wt
 rw[mw,WV]
 intro a ha
 rw[(k6.mp ha).2];decide
theorem PD(hm:m∈aA)(hw:0<ag G)(hG:RT (aa m) (ag G) G){F:List Nat}(h:gB m G=some F):Wd m G (km m G F)/\wt (km m G F)=F.length/\0<F.length:=by
 obtain⟨a1,a2,a3,-,a5⟩:=cz8 hm hw hG h
 obtain⟨f1,f2,-,-⟩:=tQ hm hw hG h
 refine⟨⟨a1,a2,a5⟩,?_,f2⟩
 rw[HL a1]
 refine Nat.le_antisymm (oj (Di ..) λj hj=>?_) (oj (AH f1) λj hj=>?_)
 ·have:=(om.mp hj).2
  rw[jQ]at this
  exact(a3 j).mp this
 ·exact om.mpr ⟨f1.2 j hj,by rw[jQ];exact(a3 j).mpr hj⟩
theorem cz1(hm:m∈aA)(g0:0<G.length)(hG:RT (aa m) (ag G) G){u:List Nat}(hu:Wd m G u){S:List Nat}(hS:dB (ag G) S)(hs:∀p,cf u p≠0->p∈S){p:Nat}(hp:cf u p≠0):jq m (bj G S)=none:=by
 have g:=rg hm
 have l1:=lo1 hm
 obtain⟨p1,p2⟩:=oi (F:=S) (by omega) hG
 have wp:=xU (F:=S) g0
 have qB:RT (aa m) (ag (bj G S)) (bj G S):=by rw[wp];exact p1
 cases e:jq m (bj G S)with
 | none=>rfl
 | some V =>
  obtain⟨-,-,-,a4⟩:=Hb hm (by rw[p2];exact g0) qB e
  obtain⟨t,ht,et⟩:=fh (hs p hp)
  have eg:S.getD t 0=p:=by rw[aL,aM ht];exact et
  obtain⟨⟨H,I⟩,iR,il,sp⟩:=gL hm qB
  have kz:∀r∈bj G S,dt m (ag (bj G S)) (cf r) (λt=>cf u (S.getD t 0))=0:=λr hr=>by
   obtain⟨k,hk,rfl⟩:=fh hr
   rw[p2]at hk
   have AI:=bQ hk []
   have s:=O1 hm hu.lt (AE hm hG).lt (hG _ AI).1 hu.ln (eQ ..) (AH hS) hS.2 λj hj hn=>by rw[jQ];exact qO λz=>hn (hs j z)
   rw[hu.z _ AI,(AE hm hG).z _ AI,jH (jI g λ_ _=>bI hm _ _)]at s
   rw[wp]
   refine BI (b9 λt ht=>?_) s.symm
   rw[jQ,b76 (cS hm hu.lt _),<- kj (show k<(bj G S).length by omega),Hs hk ht];rfl
  have:=I.Ov hm iR (z:=λt=>cf u (S.getD t 0)) (λt=>cS hm hu.lt _) (λi hi=>bP.dt hm (λi hi=>kz _ (bQ hi [])) ((sp _).mpr (bP.of (bQ hi [])))) (show t<ag (bj G S) by omega)
  rw[a4]at this
  have z:cf u (S.getD t 0)=0:=this
  rw[eg]at z
  exact absurd z hp
def jT(n:Nat):List (List Nat):=(aH n).map (fg n)
def t8(G:List (List Nat))(S:List Nat):List (List Nat):=aX S.length (aX G.length 0)
def iY(m:Bool × Nat)(G:List (List Nat))(S:List Nat):List (List Nat):=(jq m (bj G S)).getD (t8 G S)
theorem yg(hm:m∈aA)(g0:0<G.length)(hG:RT (aa m) (ag G) G)(S:List Nat):(iY m G S).length=S.length/\RT (aa m) G.length (iY m G S)/\(0<S.length->decide (iT m (iY m G S) (bj G S) S.length=jT S.length)=(jq m (bj G S)).isSome):=by
 have l1:=lo1 hm
 obtain⟨p1,p2⟩:=oi (F:=S) (by omega) hG
 have wp:=xU (F:=S) g0
 have qB:RT (aa m) (ag (bj G S)) (bj G S):=by rw[wp];exact p1
 unfold iY
 cases e:jq m (bj G S)with
 | some V =>
  obtain⟨a1,a2,a3,-⟩:=Hb hm (by rw[p2];exact g0) qB e
  rw[wp]at a1 a3
  rw[p2]at a2
  refine⟨a1,a2,λ_=>decide_eq_true ?_⟩
  show V.map _=_
  unfold jT
  refine BC (by rw[aW,aW,bN,a1]) λi h1 h2=>?_
  rw[aW]at h1
  rw[qU,qU,yO,<- a3 i (by omega),kj h1]
 | none =>
  refine⟨eQ ..,λr hr=>?_,λh=>decide_eq_false λz=>?_⟩
  ·rw[(k6.mp hr).2]
   exact⟨eQ ..,λa ha=>by rw[(k6.mp ha).2];omega⟩
  ·have hA:RT (aa m) G.length (t8 G S):=λr hr=>by
    rw[(k6.mp hr).2]
    exact⟨eQ ..,λa ha=>by rw[(k6.mp ha).2];omega⟩
   have hl:(t8 G S).length=S.length:=eQ ..
   have k:=(cu8 hm hA p1 p2).2.2 0 (by omega) 0
   have z:iT m (t8 G S) (bj G S) S.length=jT S.length:=z
   rw[z,show(jT S.length).getD 0 []=fg S.length 0 by unfold jT;rw[aL,bM,h9 h];rfl,Au h,if_pos rfl,eP (rg hm) λj _=>by
    rw[show cf ((t8 G S).getD 0 []) j=0 by unfold t8;rw[aL,nC,if_pos h];exact jQ _ _]
    exact eO m _ (bO m hm)]at k
   exact absurd k (by decide)
theorem PF(hm:m∈aA)(g0:0<G.length)(hG:RT (aa m) (ag G) G){d w:Nat}(hA:oo m G d){u:List Nat}(hu:Wd m G u)(hw:wt u=d)(d1:1<=d)(hd:d<=w)(wn:w<=ag G) :
  (lex (ag G) (w-1) 0).all (λS=>decide (iT m (iY m G S) (bj G S) S.length=jT S.length))=decide (w=d):=by
 by_cases c:w=d
 ·subst c
  rw[decide_eq_true rfl,cJ]
  intro S hS
  obtain⟨o1,o2,o3⟩:=kX _ _ _ S hS
  have pp:=HK hm g0 hG hA (S:=S) ⟨o2,λx hx=>(o3 x hx).2⟩ (by omega)
  by_cases s0:0<S.length
  ·rw[(yg hm g0 hG S).2.2 s0,pp.wy];rfl
  ·have:=mw.mp (show S.length=0 by omega)
   have l0:=(yg hm g0 hG S).1
   rw[this]at l0 ⊢
   rw[mw.mp l0];rfl
 ·rw[decide_eq_false c,Eu]
  intro z
  rw[cJ]at z
  have hF:dB (ag G) (kQ (ag G) u (aX (ag G) 0)):=⟨BH.filter _,λx hx=>(om.mp hx).1⟩
  have lF:=HL hu.ln
  have out:∀p,ag G<=p->cf u p=0:=λp hp=>by
   unfold cf
   rw[aL,eE (by have:=hu.ln;omega)];rfl
  obtain⟨S,s1,s2,s3⟩:=PB (w-1-d) hF (by omega)
  have hs:∀p,cf u p≠0->p∈S:=λp hp=>s3 p (om.mpr ⟨Nat.lt_of_not_le λq=>hp (out p q),by rw[jQ];exact hp⟩)
  obtain⟨p,hp⟩:∃p,p∈kQ (ag G) u (aX (ag G) 0):=List.exists_mem_of_length_pos (by omega)
  have hp:=(om.mp hp).2
  rw[jQ]at hp
  have nw:=cz1 hm g0 hG hu s1 hs hp
  have:=z S (Pz _ _ _ S (by omega) s1.1 λx hx=>⟨h8 _,s1.2 x hx⟩)
  rw[(yg hm g0 hG S).2.2 (WT (hs p hp)),nw]at this
  exact absurd this (by decide)
theorem cm9(hm:m∈aA)(g0:0<G.length)(hG:RT (aa m) (ag G) G){d:Nat}(hA:oo m G d){u:List Nat}(hu:Wd m G u)(hw:wt u=d)(d1:1<=d)(dn:d<=ag G) :
  (∀S∈lex (ag G) (d-1) 0,(iX m G S).length=S.length/\RT (aa m) G.length (iX m G S))/\(lex (ag G) (d-1) 0).all (λS=>decide (iT m (iX m G S) (bj G S) S.length=jT S.length))=true:=by
 have pp:=λ(S:List Nat) (hS:S∈lex (ag G) (d-1) 0)=>HK hm g0 hG hA (S:=S) ⟨(kX _ _ _ S hS).2.1,λx hx=>((kX _ _ _ S hS).2.2 x hx).2⟩ (by have:=(kX _ _ _ S hS).1;omega)
 refine⟨λS hS=>⟨(pp S hS).ln,(pp S hS).rt⟩,?_⟩
 have h:=PF hm g0 hG hA hu hw d1 (cg d) dn
 rw[decide_eq_true rfl,cJ]at h
 rw[cJ]
 intro S hS
 have e:iY m G S=iX m G S:=by unfold iY;rw[(pp S hS).wy];rfl
 rw[<-e]
 exact h S hS
theorem cA8{n a b:Nat}(ha:a<=n)(h:a≠b):lex n a 0≠lex n b 0:=λe=>by
 obtain⟨S,hS⟩:=List.exists_mem_of_ne_nil _ (Px n a 0 (by omega))
 have h1:=(kX n a 0 S hS).1
 rw[e]at hS
 have h2:=(kX n b 0 S hS).1
 omega
end
theorem cp3(V:List Nat->List (List Nat))(L:List (List Nat)):(L.map λS=>D.tup [.lst true (aj S),.lst true (au true (V S))]).map D.sh=L.map λS=>D.tup [.lst false (aj S),.lst false (au false (V S))]:=by
 rw[bx]
 refine mv λS _=>?_
 show(D.tup [.lst true (aj S),.lst true (au true (V S))]).sh=_
 rw[i9,cI,cI,gR,kM,bV,dM]
theorem ct6(V:List Nat->List (List Nat))(L:List (List Nat)):(D.lst true (L.map λS=>D.tup [.lst true (aj S),.lst true (au true (V S))])).fr=true:=by
 rw[fP,kZ,cJ]
 intro x hx
 obtain⟨S,_,rfl⟩:=bw.mp hx
 rw[oW,bA,bA,fo,fP,l6];rfl
end L3
namespace HK44
open PySem.W (Frag codeHdIn CodeHd)
open PySem L2 L3 Mf
seal L2.PSs L2.PS L2.PE L2.PT L2.PA L2.PI L2.PG L2.PO L2.PW
local macro_rules | `(tactic| nofun) => do
  let l ← (("rE mO rF rG pq dT mM nR nS dC oY nU ph pf pj rD nX sH pT sJ sM rp rq rz rA rB rC oZ sD pO pP ii pH rT pJ rW rX rY rZ r6 r9 iI ik sj sk so sq pL pM mU sA sC gN sN sF rH rK rM rN rO rP sO sP mP jE eM jD gY oB qL uC xa nV je jB pQ pS mZ sU vL sX pY sV iQ vO vM vN cI gR iF ju ft xb aX qV qW dw f7 uD exists_eq_left' exists_eq_left D.bl.injEq D.int.injEq D.lst.injEq D.fz.injEq D.str.injEq D.tup.injEq uE and_true true_and bA eU ky kZ vg vh vj vk vm vn eI j9 lU vt vv vw vx vy bV i9 sQ vo vp vq fP oW xg xh qG e6 xi xj uu vD vE vF vG vH vI vJ lW ke sR jF pW vA sT vz pX vB vC kI sS if_true uF if_false reduceIte vK decide_eq_true_eq eN jj m8 vS kJ vR rJ sZ sW qe qf qg tE qm tK tL dM og jJ tF qk tR tO tP tS tT tU tX tW tY tZ kg sL fJ NQ cn5 co0 CQ v7".splitOn " ").toArray.map fun (s : String) => Lean.mkIdent s.toName).mapM fun i => `(Lean.Parser.Tactic.simpLemma| $i:term)
  `(tactic| (try dsimp only [$l,*]) <;> (try simp only [$l,*]))
def top (i:Nat):Stmt:=PySem.Challenge.pw_mendfield_k44_whole_distance.main.body.getD i (.Pass ⟨0,0,0,0⟩)
abbrev PH:Stmt:=top 102
theorem HN:aT ["_law_cell_here","_law_some","_law_primes"] ["_law_cell_here"] (aI PH):=a9
abbrev PJ:Stmt:=top 69
theorem Dt:aT ["a","product","found","power"] ["a","product"] (aI PJ):=a9
abbrev PK:Stmt:=top 70
theorem AJ:aT ["many","product","step","found"] ["many","product"] (aI PK):=a9
abbrev PL:Stmt:=top 71
theorem HP:aT ["powers","logs","n","a"] ["powers"] (aI PL):=a9
abbrev PM:Stmt:=ff (top 75) 8
theorem av6:aT ["self","n"] ["self","n"] (aI PM):=a9
abbrev PN:Stmt:=ff (top 75) 0
theorem aK8:aT ["self","many","product"] ["self","many","product"] (aI PN):=a9
abbrev PQ:Stmt:=top 74
theorem as3:aT ["prime"] ["prime"] (aI PQ):=a9
abbrev AK:Stmt:=ff (top 77) 0
theorem aw5:aT ["self","prime"] ["self","prime"] (aI AK):=a9
abbrev PR:Stmt:=top 72
theorem Du:aT ["powers","logs","many","rows","a"] ["powers","logs"] (aI PR):=a9
abbrev PU:Stmt:=top 66
theorem yh:aT ["a","b","quotient","rest","shift"] ["a","b"] (aI PU):=a9
abbrev PV:Stmt:=top 67
theorem HQ:aT ["a","half","b"] ["a"] (aI PV):=a9
abbrev PX:Stmt:=top 73
theorem aw6:aT ["bits"] ["bits"] (aI PX):=a9
abbrev PY:Stmt:=top 65
theorem Dv:aT ["a","b","product","k"] ["a","b"] (aI PY):=a9
abbrev AL:Stmt:=ff (top 76) 0
theorem PZ:aT ["self","bits","many"] ["self","bits"] (aI AL):=a9
abbrev P0:Stmt:=top 106
theorem aK9:aT ["_law_told_here"] ["_law_told_here"] (aI P0):=a9
abbrev P2:Stmt:=top 100
theorem aM8:aT ["_law_script","_law_k"] ["_law_script","_law_k"] (aI P2):=a9
abbrev P4:Stmt:=top 103
theorem aM9:aT ["_law_told_here"] ["_law_told_here"] (aI P4):=a9
abbrev P5:Stmt:=top 2
theorem aP1:aT ["table"] ["table"] (aI P5):=a9
abbrev P6:Stmt:=top 8
theorem P7:aT ["rows","place","number","row"] ["rows","place"] (aI P6):=a9
abbrev P8:Stmt:=ff (top 76) 6
theorem P9:aT ["self","a","row","by_a"] ["self","a","row"] (aI P8):=a9
abbrev Qa:Stmt:=ff (top 77) 6
theorem Qb:aT ["self","a","row","prime"] ["self","a","row"] (aI Qa):=a9
abbrev Qc:Stmt:=ff (top 76) 7
theorem Qe:aT ["self","row","a","other","by_a"] ["self","row","a","other"] (aI Qc):=a9
abbrev Qf:Stmt:=ff (top 77) 7
theorem Qg:aT ["self","row","a","other","prime"] ["self","row","a","other"] (aI Qf):=a9
abbrev Qh:Stmt:=top 9
theorem aQ3:aT ["field","rows","lead_row","place"] ["field","rows","lead_row","place"] (aI Qh):=a9
abbrev Qi:Stmt:=ff (top 75) 5
theorem aL0:aT ["self","a","b"] ["self","a","b"] (aI Qi):=a9
abbrev Qj:Stmt:=top 10
theorem t9:aT ["field","table","done","left","place","number","lead_row"] ["field","table"] (aI Qj):=a9
abbrev Qk:Stmt:=top 48
theorem aR2:aT ["table"] ["table"] (aI Qk):=a9
abbrev Ql:Stmt:=top 11
theorem b62:aT ["rows"] ["rows"] (aI Ql):=a9
abbrev Qm:Stmt:=top 13
theorem Qn:aT ["rows","width","taken"] ["rows","width"] (aI Qm):=a9
abbrev Qo:Stmt:=ff (top 76) 2
theorem aB1:aT ["self","a","b"] ["self","a","b"] (aI Qo):=a9
abbrev Qp:Stmt:=ff (top 77) 2
theorem av7:aT ["self","a","b"] ["self","a","b"] (aI Qp):=a9
abbrev Qq:Stmt:=top 14
theorem yi:aT ["field","rows","width","taken","found","free","x","lead","row"] ["field","rows","width"] (aI Qq):=a9
abbrev Qr:Stmt:=ff (top 52) 0
theorem Qs:aT ["self","field","checks","rows"] ["self","field","checks"] (aI Qr):=a9
abbrev Qt:Stmt:=ff (top 75) 1
theorem aJ1:aT ["self","x"] ["self","x"] (aI Qt):=a9
abbrev Qu:Stmt:=top 62
theorem Qv:aT ["field","table","width"] ["field","table"] (aI Qu):=a9
abbrev Qw:Stmt:=top 12
theorem cr1:aT ["field","table"] ["field","table"] (aI Qw):=a9
abbrev Qx:Stmt:=top 3
theorem aR3:aT ["table"] ["table"] (aI Qx):=a9
abbrev Qy:Stmt:=top 17
theorem aN0:aT ["column"] ["column"] (aI Qy):=a9
abbrev Qz:Stmt:=ff (top 76) 3
theorem aB2:aT ["self","a","b"] ["self","a","b"] (aI Qz):=a9
abbrev QB:Stmt:=ff (top 77) 3
theorem av8:aT ["self","a","b"] ["self","a","b"] (aI QB):=a9
abbrev QC:Stmt:=top 19
theorem yj:aT ["field","column","others","place","inverse","found","other","left"] ["field","column","others"] (aI QC):=a9
abbrev QD:Stmt:=top 20
theorem ua:aT ["field","table","width","sets","larger","places","behind","number","column","bigger"] ["field","table"] (aI QD):=a9
abbrev QE:Stmt:=ff (top 63) 0
theorem aB3:aT ["self","field","table"] ["self","field","table"] (aI QE):=a9
abbrev QF:Stmt:=top 97
theorem ax0:aT ["many","length","extra","first"] ["many","length","extra","first"] (aI QF):=a9
abbrev QG:Stmt:=ff (top 98) 0
theorem QH:aT ["self","field","length","extra","first","checks"] ["self","field","length","extra","first"] (aI QG):=a9
abbrev QI:Stmt:=top 53
theorem QJ:aT ["field","length","less_one"] ["field","length"] (aI QI):=a9
abbrev QK:Stmt:=ff (top 54) 0
theorem ax1:aT ["self","field","length"] ["self","field","length"] (aI QK):=a9
abbrev QL:Stmt:=top 111
theorem Dw:aT ["_law_cell_here","_law_base","_law_count","_law_row","_law_k"] ["_law_cell_here","_law_base","_law_count"] (aI QL):=a9
abbrev QM:Stmt:=top 104
theorem aN1:aT ["_law_told_here","_law_a","_law_b"] ["_law_told_here","_law_a","_law_b"] (aI QM):=a9
abbrev QN:Stmt:=top 105
theorem yk:aT ["_law_told_here","_law_a","_law_b","_law_total"] ["_law_told_here","_law_a","_law_b"] (aI QN):=a9
abbrev QO:Stmt:=top 107
theorem Dx:aT ["_law_told_here","_law_xs","_law_ys","_law_total","_law_x","_law_y"] ["_law_told_here","_law_xs","_law_ys"] (aI QO):=a9
abbrev QP:Stmt:=top 108
theorem aJ2:aT ["_law_told_here","_law_xs","_law_table_here","_law_wide"] ["_law_told_here","_law_xs","_law_table_here","_law_wide"] (aI QP):=a9
abbrev QQ:Stmt:=top 109
theorem ym:aT ["_law_told_here","_law_script","_law_begin","_law_rows","_law_wide","_law_way","_law_table_here","_law_i","_law_row"] ["_law_told_here","_law_script","_law_begin","_law_rows","_law_wide","_law_way"] (aI QQ):=a9
abbrev QR:Stmt:=top 112
theorem ub:aT ["_law_told_here","_law_script","_law_field_here","_law_pick","_law_wide","_law_more","_law_many_here","_law_rows","_law_row"] ["_law_told_here","_law_script","_law_field_here"] (aI QR):=a9
abbrev QS:Stmt:=ff (top 63) 1
theorem aq4:aT ["self"] ["self"] (aI QS):=a9
abbrev QT:Stmt:=ff (top 54) 1
theorem ap8:aT ["self"] ["self"] (aI QT):=a9
abbrev QU:Stmt:=ff (top 98) 2
theorem as4:aT ["self"] ["self"] (aI QU):=a9
abbrev QV:Stmt:=ff (top 52) 1
theorem aJ3:aT ["self"] ["self"] (aI QV):=a9
abbrev QW:Stmt:=top 37
theorem aG6:aT ["code"] ["code"] (aI QW):=a9
abbrev QX:Stmt:=top 15
theorem aR4:aT ["field","table"] ["field","table"] (aI QX):=a9
abbrev QY:Stmt:=top 5
theorem aR5:aT ["table","places"] ["table","places"] (aI QY):=a9
abbrev QZ:Stmt:=top 21
theorem yn:aT ["field","table","places","signs","inverse","row","place","sign"] ["field","table"] (aI QZ):=a9
abbrev Q0:Stmt:=top 38
theorem aP2:aT ["code"] ["code"] (aI Q0):=a9
abbrev Q1:Stmt:=top 49
theorem aE5:aT ["signs","length"] ["signs","length"] (aI Q1):=a9
abbrev Q2:Stmt:=top 50
theorem Q3:aT ["field","signs","place","sign"] ["field","signs"] (aI Q2):=a9
abbrev Q4:Stmt:=ff (top 76) 5
theorem AM:aT ["self","xs","ys","products","total","x","y"] ["self","xs","ys"] (aI Q4):=a9
abbrev Q5:Stmt:=ff (top 77) 5
theorem aB4:aT ["self","xs","ys"] ["self","xs","ys"] (aI Q5):=a9
abbrev Q6:Stmt:=top 6
theorem aR6:aT ["field","row","table"] ["field","row","table"] (aI Q6):=a9
abbrev Q7:Stmt:=ff (top 52) 5
theorem aG7:aT ["self","message"] ["self","message"] (aI Q7):=a9
abbrev Q8:Stmt:=top 117
theorem aJ4:aT ["_law_word"] ["_law_word"] (aI Q8):=a9
abbrev Q9:Stmt:=top 34
theorem aP3:aT ["width","place"] ["width","place"] (aI Q9):=a9
abbrev Ra:Stmt:=top 35
theorem Dy:aT ["field","table","width","beside","rows"] ["field","table"] (aI Ra):=a9
abbrev Rb:Stmt:=top 118
theorem yo:aT ["_law_field_here","_law_checks","_law_sets_here","_law_pages_here","_law_places","_law_back"] ["_law_field_here","_law_checks","_law_sets_here"] (aI Rb):=a9
abbrev Rc:Stmt:=top 116
theorem aN2:aT ["_law_due","_law_found"] ["_law_due","_law_found"] (aI Rc):=a9
abbrev Rh:Stmt:=top 115
theorem aG8:aT ["_law_told_here","_law_script","_law_begin","_law_size"] ["_law_told_here","_law_script","_law_begin","_law_size"] (aI Rh):=a9
abbrev Ri:Stmt:=top 101
theorem aL1:aT ["_law_x"] ["_law_x"] (aI Ri):=a9
abbrev Rj:Stmt:=top 110
theorem aE6:aT ["_law_row","_law_wide","_law_many_here"] ["_law_row","_law_wide","_law_many_here"] (aI Rj):=a9
abbrev Rk:Stmt:=top 114
theorem aG9:aT ["_law_told_here","_law_checks","_law_length","_law_word"] ["_law_told_here","_law_checks","_law_length","_law_word"] (aI Rk):=a9
abbrev Rl:Stmt:=top 113
theorem Dz:aT ["_law_begin","_law_length","_law_many_here","_law_found","_law_at","_law_rest"] ["_law_begin","_law_length","_law_many_here"] (aI Rl):=a9
abbrev Rm:Stmt:=top 18
theorem wA:aT ["width","size","sets","turn","larger","places","begin"] ["width","size"] (aI Rm):=a9
abbrev Rn:Stmt:=top 7
theorem aN3:aT ["field","table","column"] ["field","table","column"] (aI Rn):=a9
abbrev Ro:Stmt:=ff (top 52) 7
theorem aH0:aT ["self","word"] ["self","word"] (aI Ro):=a9
abbrev Rp:Stmt:=top 4
theorem Rq:aT ["field","one","other","columns"] ["field","one","other"] (aI Rp):=a9
abbrev Rt:Stmt:=top 40
theorem HR:aT ["field","back","columns","width","row"] ["field","back","columns"] (aI Rt):=a9
abbrev Ru:Stmt:=top 41
theorem DA:aT ["code","word","told","sets","checks","places","back"] ["code","word","told"] (aI Ru):=a9
abbrev Rw:Stmt:=top 39
theorem HS:aT ["code","checks","sets"] ["code"] (aI Rw):=a9
abbrev Rx:Stmt:=top 119
theorem nB:aT ["_law_script","_law_told_here","_law_field_here","_law_code_here","_law_distance","_law_checks","_law_light","_law_word","_law_weight_here","_law_pages_here","_law_least"] ["_law_script"] (aI Rx):=a9
set_option genInjectivity false in
set_option genSizeOf false in
structure cR where
 Ry:Addr
 Rz:FuncData
 RA:Addr
 RB:FuncData
 RC:Addr
 RD:FuncData
 RE:Addr
 RF:FuncData
 AN:Addr
 RG:FuncData
 HU:Addr
 RH:FuncData
 RI:Addr
 RJ:FuncData
 HV:Addr
 HW:FuncData
 RK:Addr
 RL:FuncData
 RM:Addr
 RN:FuncData
 RO:Addr
 RP:FuncData
 RQ:Addr
 RU:FuncData
 RV:Addr
 RW:FuncData
 HX:Addr
 HY:FuncData
 RX:Addr
 RY:FuncData
 RZ:Addr
 R0:FuncData
 R1:Addr
 R3:FuncData
 R4:Addr
 R5:FuncData
 R6:Addr
 R7:FuncData
 HZ:Addr
 R8:FuncData
 Ia:Addr
 R9:FuncData
 Ib:Addr
 Sa:FuncData
 Ic:Addr
 Sb:FuncData
 Sd:Addr
 Se:FuncData
 DB:Addr
 Sf:FuncData
 Sg:Addr
 Sh:FuncData
 Si:Addr
 Sj:FuncData
 Sk:Addr
 Sl:FuncData
 Sm:Addr
 Sn:FuncData
 Ie:Addr
 So:FuncData
 Ig:Addr
 Sq:FuncData
 Sr:Addr
 Ss:FuncData
 Ih:Addr
 Su:FuncData
 DC:Addr
 Sv:FuncData
 Sw:Addr
 Sx:FuncData
 Sy:Addr
 Sz:FuncData
 SA:Addr
 SD:FuncData
 SE:Addr
 SF:FuncData
 Ii:Addr
 SG:FuncData
 Ij:Addr
 SH:FuncData
 SI:Addr
 SJ:FuncData
 SK:Addr
 SM:FuncData
 Ik:Addr
 SN:FuncData
 SO:Addr
 SQ:FuncData
 Il:Addr
 Im:FuncData
 SR:Addr
 SS:FuncData
 Io:Addr
 SU:FuncData
 SV:Addr
 SW:FuncData
 SX:Addr
 SY:FuncData
 S0:Addr
 S1:FuncData
 S2:Addr
 S3:FuncData
 S4:Addr
 S5:FuncData
 S6:Addr
 S7:FuncData
 S8:Addr
 S9:FuncData
 Ip:Addr
 Ta:FuncData
 Iq:Addr
 Tc:FuncData
 Ir:Addr
 Td:FuncData
 AO:Addr
 Te:FuncData
 Tf:Addr
 Tg:FuncData
 Th:Addr
 Ti:FuncData
 Tj:Addr
 Tn:FuncData
 To:Addr
 Tp:FuncData
 Tq:Addr
 Tr:FuncData
 Ts:Addr
 Tt:FuncData
 Tu:Addr
 Tv:FuncData
 Iu:Addr
 Tw:FuncData
 Iw:Addr
 Tx:FuncData
 Tz:Addr
 TB:FuncData
 AQ:Addr
 TC:FuncData
 TF:Addr
 TH:FuncData
 TJ:Addr
 TK:FuncData
 TL:Addr
 TM:FuncData
 TN:Addr
 TQ:FuncData
 TR:Addr
 TU:FuncData
 TV:Addr
 TX:FuncData
 TY:Addr
 TZ:FuncData
 T1:Addr
 T2:FuncData
 T3:Addr
 T4:FuncData
 AR:Addr
 AS:FuncData
 T5:Addr
 T6:FuncData
 T7:Addr
 T8:FuncData
 AU:Addr
 T9:FuncData
 Ua:Addr
 Ub:FuncData
 Uc:Addr
 Ud:FuncData
 Ue:Addr
 Ug:FuncData
 Uh:Addr
 Ui:FuncData
 Uj:Addr
 Iy:FuncData
 Iz:Addr
 ud:Addr
 IA:Addr
 ue:Addr
 bo:Addr
 gC:Addr
 Uk:Addr
 Ul:Addr
 br:Addr
 iu:Addr
 gn:Addr
structure Txt(K:Frag)(mg:Str->Option Value)(t:cR):Prop where
 aQ4:mg "BitField"=some (.ref t.bo)
 Um:mg "CheckCode"=some (.ref t.gC)
 IB:mg "Code"=some (.ref t.Uk)
 Uo:mg "Field"=some (.ref t.Ul)
 aN4:mg "PrimeField"=some (.ref t.br)
 do9:mg "RepeatCode"=some (.ref t.iu)
 dp0:mg "RootCode"=some (.ref t.gn)
 uf:mg "all"=none
 Up:mg "any"=none
 IC:mg "bool"=none
 wB:mg "enumerate"=none
 Uq:mg "int"=none
 yp:mg "isinstance"=none
 fL:mg "len"=none
 ug:mg "list"=none
 dp1:mg "min"=none
 fX:mg "range"=none
 dp2:mg "sum"=none
 wC:mg "zip"=none
 aH3:Meth K t.bo "dot" t.Iu
 aB5:Meth K t.bo "holds" t.DC
 as5:Meth K t.bo "lessened" t.Ib
 aB6:Meth K t.bo "minus" t.Ie
 aE7:Meth K t.bo "over" t.DB
 ay7:Meth K t.bo "scaled" t.HZ
 ID:Meth K t.bo "step_power" t.AN
 aB7:Meth K t.bo "times" t.Ii
 DD:Meth K t.gC "checks" t.AO
 dq0:Meth K t.gC "distance" t.Ip
 dq1:Meth K t.gC "is_word" t.AU
 dq2:Meth K t.gC "written" t.AQ
 aB8:Meth K t.br "dot" t.Iw
 av9:Meth K t.br "holds" t.DC
 ap9:Meth K t.br "lessened" t.Ic
 aw0:Meth K t.br "minus" t.Ig
 ay8:Meth K t.br "over" t.DB
 as6:Meth K t.br "scaled" t.Ia
 IE:Meth K t.br "step_power" t.AN
 aw1:Meth K t.br "times" t.Ij
 DE:Meth K t.iu "checks" t.AO
 dr0:Meth K t.iu "distance" t.Iq
 dr1:Meth K t.iu "is_word" t.AU
 dr2:Meth K t.iu "written" t.AQ
 DF:Meth K t.gn "checks" t.AO
 dr3:Meth K t.gn "distance" t.Ir
 dr4:Meth K t.gn "is_word" t.AU
 dr5:Meth K t.gn "written" t.AQ
 aP4:Mk K t.bo t.HX
 Ur:Mk K t.gC t.Ik
 aL2:Mk K t.br t.HV
 dr8:Mk K t.iu t.Io
 dr9:Mk K t.gn t.Il
 IF:qa K t.Uk "__init__" t.Ih
 Us:qa K t.Ul "__init__" t.HU
 Ut:Fk K mg "_law_told" PH ["_law_cell_here"] t.Ry t.Rz
 IG:Fk K mg "powers_of" PJ ["a","product"] t.RA t.RB
 Uu:Fk K mg "step_powers" PK ["many","product"] t.RC t.RD
 Uv:Fk K mg "logs_of" PL ["powers"] t.RE t.RF
 Uw:Fk K mg "makes_prime_field" PQ ["prime"] t.RI t.RJ
 Ux:Fk K mg "product_rows" PR ["powers","logs"] t.RK t.RL
 AV:Fk K mg "bits_divided" PU ["a","b"] t.RM t.RN
 Uy:Fk K mg "stands_alone" PV ["a"] t.RO t.RP
 Uz:Fk K mg "makes_bit_field" PX ["bits"] t.RQ t.RU
 DG:Fk K mg "bits_times" PY ["a","b"] t.RV t.RW
 DH:Fk K mg "_law_field" P0 ["_law_told_here"] t.RX t.RY
 ot:Fk K mg "_law_cell" P2 ["_law_script","_law_k"] t.RZ t.R0
 yq:Fk K mg "_law_many" P4 ["_law_told_here"] t.R1 t.R3
 uh:Fk K mg "width_of" P5 ["table"] t.R4 t.R5
 UA:Fk K mg "first_with" P6 ["rows","place"] t.R6 t.R7
 IH:Fk K mg "cleared" Qh ["field","rows","lead_row","place"] t.Sd t.Se
 AW:Fk K mg "reduced" Qj ["field","table"] t.Sg t.Sh
 II:Fk K mg "copied" Qk ["table"] t.Si t.Sj
 DI:Fk K mg "leads" Ql ["rows"] t.Sk t.Sl
 IJ:Fk K mg "free_places" Qm ["rows","width"] t.Sm t.Sn
 IK:Fk K mg "kernel_of_reduced" Qq ["field","rows","width"] t.Sr t.Ss
 UB:Fk K mg "is_small_table" Qu ["field","table"] t.Sw t.Sx
 UC:Fk K mg "rank" Qw ["field","table"] t.Sy t.Sz
 DJ:Fk K mg "turned" Qx ["table"] t.SA t.SD
 IL:Fk K mg "is_nought" Qy ["column"] t.SE t.SF
 UD:Fk K mg "past" QC ["field","column","others"] t.SI t.SJ
 IM:Fk K mg "first_bound" QD ["field","table"] t.SK t.SM
 UE:Fk K mg "makes_root_code" QF ["many","length","extra","first"] t.SO t.SQ
 UG:Fk K mg "repeat_checks" QI ["field","length"] t.SR t.SS
 IQ:Fk K mg "_law_digits" QL ["_law_cell_here","_law_base","_law_count"] t.SV t.SW
 UH:Fk K mg "_law_plus" QM ["_law_told_here","_law_a","_law_b"] t.SX t.SY
 UI:Fk K mg "_law_times" QN ["_law_told_here","_law_a","_law_b"] t.S0 t.S1
 IS:Fk K mg "_law_dot" QO ["_law_told_here","_law_xs","_law_ys"] t.S2 t.S3
 UJ:Fk K mg "_law_by_row" QP ["_law_told_here","_law_xs","_law_table_here","_law_wide"] t.S4 t.S5
 UK:Fk K mg "_law_table" QQ ["_law_told_here","_law_script","_law_begin","_law_rows","_law_wide","_law_way"] t.S6 t.S7
 DK:Fk K mg "_law_code" QR ["_law_told_here","_law_script","_law_field_here"] t.S8 t.S9
 DL:Fk K mg "refuse_large" QW ["code"] t.Tf t.Tg
 UL:Fk K mg "kernel" QX ["field","table"] t.Th t.Ti
 DM:Fk K mg "picked" QY ["table","places"] t.Tj t.Tn
 UM:Fk K mg "lightest_row" QZ ["field","table"] t.To t.Tp
 UN:Fk K mg "lightest" Q0 ["code"] t.Tq t.Tr
 UO:Fk K mg "refuse_length" Q1 ["signs","length"] t.Ts t.Tt
 UP:Fk K mg "refuse_no_sign" Q2 ["field","signs"] t.Tu t.Tv
 UQ:Fk K mg "row_by" Q6 ["field","row","table"] t.Tz t.TB
 IT:Fk K mg "_law_weight" Q8 ["_law_word"] t.TF t.TH
 IU:Fk K mg "unit_row" Q9 ["width","place"] t.TJ t.TK
 IV:Fk K mg "way_back" Ra ["field","table"] t.TL t.TM
 UR:Fk K mg "_law_pages" Rb ["_law_field_here","_law_checks","_law_sets_here"] t.TN t.TQ
 AX:Fk K mg "_law_says" Rc ["_law_due","_law_found"] t.TR t.TU
 US:Fk K mg "_law_message" Rh ["_law_told_here","_law_script","_law_begin","_law_size"] t.TV t.TX
 IW:Fk K mg "_law_whole" Ri ["_law_x"] t.TY t.TZ
 UT:Fk K mg "_law_row_kind" Rj ["_law_row","_law_wide","_law_many_here"] t.T1 t.T2
 IY:Fk K mg "_law_is_word" Rk ["_law_told_here","_law_checks","_law_length","_law_word"] t.T3 t.T4
 AY:Fk K mg "_law_sets" Rl ["_law_begin","_law_length","_law_many_here"] t.AR t.AS
 IZ:Fk K mg "sets_of" Rm ["width","size"] t.T5 t.T6
 UU:Fk K mg "by_column" Rn ["field","table","column"] t.T7 t.T8
 UW:Fk K mg "product" Rp ["field","one","other"] t.Ua t.Ub
 UX:Fk K mg "is_way_back" Rt ["field","back","columns"] t.Uc t.Ud
 AZ:Fk K mg "is_paper" Ru ["code","word","told"] t.Ue t.Ug
 DN:Fk K mg "paper" Rw ["code"] t.Uh t.Ui
 I0:Fk K mg "law" Rx ["_law_script"] t.Uj t.Iy
 yr:Fm K "step_power" "Field.step_power" PM ["self","n"] t.AN t.RG
 Ja:Fm K "__init__" "Field.__init__" PN ["self","many","product"] t.HU t.RH
 UY:Fm K "__init__" "PrimeField.__init__" AK ["self","prime"] t.HV t.HW
 UZ:Fm K "__init__" "BitField.__init__" AL ["self","bits"] t.HX t.HY
 U0:Fm K "scaled" "BitField.scaled" P8 ["self","a","row"] t.HZ t.R8
 U1:Fm K "scaled" "PrimeField.scaled" Qa ["self","a","row"] t.Ia t.R9
 U2:Fm K "lessened" "BitField.lessened" Qc ["self","row","a","other"] t.Ib t.Sa
 U3:Fm K "lessened" "PrimeField.lessened" Qf ["self","row","a","other"] t.Ic t.Sb
 Jb:Fm K "over" "Field.over" Qi ["self","a","b"] t.DB t.Sf
 U4:Fm K "minus" "BitField.minus" Qo ["self","a","b"] t.Ie t.So
 U5:Fm K "minus" "PrimeField.minus" Qp ["self","a","b"] t.Ig t.Sq
 DO:Fm K "__init__" "Code.__init__" Qr ["self","field","checks"] t.Ih t.Su
 Jc:Fm K "holds" "Field.holds" Qt ["self","x"] t.DC t.Sv
 U6:Fm K "times" "BitField.times" Qz ["self","a","b"] t.Ii t.SG
 U7:Fm K "times" "PrimeField.times" QB ["self","a","b"] t.Ij t.SH
 Jd:Fm K "__init__" "CheckCode.__init__" QE ["self","field","table"] t.Ik t.SN
 U8:Fm K "__init__" "RepeatCode.__init__" QK ["self","field","length"] t.Io t.SU
 U9:Fm K "distance" "CheckCode.distance" QS ["self"] t.Ip t.Ta
 Va:Fm K "distance" "RepeatCode.distance" QT ["self"] t.Iq t.Tc
 Vb:Fm K "distance" "RootCode.distance" QU ["self"] t.Ir t.Td
 A6:Fm K "checks" "Code.checks" QV ["self"] t.AO t.Te
 Vc:Fm K "dot" "BitField.dot" Q4 ["self","xs","ys"] t.Iu t.Tw
 Vd:Fm K "dot" "PrimeField.dot" Q5 ["self","xs","ys"] t.Iw t.Tx
 Ve:Fm K "written" "Code.written" Q7 ["self","message"] t.AQ t.TC
 Vf:Fm K "is_word" "Code.is_word" Ro ["self","word"] t.AU t.T9
 ds0:AD K "__init__" "RootCode.__init__" QG t.Il t.Im
 ds1:Binds K t.Im ["self","field","length","extra","first"] []
 az2:t.HW.code=.ref t.Iz
 aE8:t.HY.code=.ref t.IA
 az3:codeHdIn K t.Iz t.ud=true
 aE9:codeHdIn K t.IA t.ue=true
 fM:cW K t.bo
 wD:cW K t.gC
 gq:cW K t.br
 A7:cW K t.iu
 ui:cW K t.gn
 aF0:bq K t.bo "bits"
 DP:bq K t.bo "logs"
 A8:bq K t.bo "many"
 DQ:bq K t.bo "powers"
 A9:bq K t.bo "products"
 aF1:bq K t.bo "step"
 aF2:bq K t.bo "wide"
 Vg:bq K t.gC "bound"
 Vh:bq K t.gC "check_rows"
 Vi:bq K t.gC "field"
 Vj:bq K t.gC "length"
 ds9:bq K t.gC "message_places"
 Vk:bq K t.gC "size"
 Vl:bq K t.gC "word_rows"
 Je:bq K t.br "logs"
 Ba:bq K t.br "many"
 Jf:bq K t.br "powers"
 yt:bq K t.br "prime"
 az4:bq K t.br "step"
 az5:bq K t.br "wide"
 Vm:bq K t.iu "check_rows"
 Vn:bq K t.iu "field"
 Vo:bq K t.iu "length"
 dt2:bq K t.iu "message_places"
 Vp:bq K t.iu "size"
 Vq:bq K t.iu "word_rows"
 Vr:bq K t.gn "check_rows"
 Vs:bq K t.gn "extra"
 Vt:bq K t.gn "field"
 dt3:bq K t.gn "first"
 Vu:bq K t.gn "length"
 dt4:bq K t.gn "message_places"
 Vv:bq K t.gn "size"
 Vw:bq K t.gn "word_rows"
section
variable{P:Program}{w:World}{K:Frag}{mg:Str->Option Value}{base:Heap}{t:cR}
theorem cy9(T:Txt K mg t)(m:Bool × Nat){Q:D->Prop}(q:Q (.int (aa m))):∃C ns xs v,fD t.bo t.br m=.obj C ns xs/\cW K C/\bq K C "many"/\(ns.zip xs).lookup ("many":Str)=some v/\Q v:=by
 obtain⟨k,n⟩:=m
 cases k with
 | true=>exact⟨_,_,_,_,rfl,T.fM,T.A8,rfl,q⟩
 | false=>exact⟨_,_,_,_,rfl,T.gq,T.Ba,rfl,q⟩
abbrev eD(t:cR)(m:Bool × Nat)(G:List (List Nat))(k:Kd):D:=Dh t.bo t.br t.gC t.iu t.gn m G k
theorem Bb(T:Txt K mg t)(m:Bool × Nat)(G:List (List Nat))(k:Kd){a:Str}{v:D}(n1:bq K t.gC a)(n2:bq K t.iu a)(n3:bq K t.gn a)(ha:a∈wm)(h:(wm.zip (l9 t.bo t.br false m G)).lookup a=some v){Q:D->Prop}(q:Q v):∃C ns xs v,eD t m G k=.obj C ns xs/\cW K C/\bq K C a/\(ns.zip xs).lookup a=some v/\Q v:=by
 have ha:a="field"\/a="length"\/a="check_rows"\/a="word_rows"\/a="message_places"\/a="size":=by simpa only[cw,gE,or_false]using ha
 rcases ha with rfl | rfl | rfl | rfl | rfl | rfl<;>cases k
 all_goals first | exact⟨_,_,_,v,rfl,T.wD,n1,h,q⟩ | exact⟨_,_,_,v,rfl,T.A7,n2,h,q⟩ | exact⟨_,_,_,v,rfl,T.ui,n3,h,q⟩
theorem wF(T:Txt K mg t)(m:Bool × Nat)(G:List (List Nat))(k:Kd){Q:D->Prop}(q:Q (fD t.bo t.br m)):∃C ns xs v,eD t m G k=.obj C ns xs/\cW K C/\bq K C "field"/\(ns.zip xs).lookup ("field":Str)=some v/\Q v:=Bb T m G k T.Vi T.Vn T.Vt (by decide) rfl q
theorem qC(T:Txt K mg t)(m:Bool × Nat)(G:List (List Nat))(k:Kd){Q:D->Prop}(q:Q (.int (ag G:Nat))):∃C ns xs v,eD t m G k=.obj C ns xs/\cW K C/\bq K C "length"/\(ns.zip xs).lookup ("length":Str)=some v/\Q v:=Bb T m G k T.Vj T.Vo T.Vu (by decide) rfl q
theorem Vx(T:Txt K mg t)(m:Bool × Nat)(G:List (List Nat))(k:Kd){Q:D->Prop}(q:Q (.lst false (au false G))):∃C ns xs v,eD t m G k=.obj C ns xs/\cW K C/\bq K C "check_rows"/\(ns.zip xs).lookup ("check_rows":Str)=some v/\Q v:=Bb T m G k T.Vh T.Vm T.Vr (by decide) rfl q
theorem cp2(T:Txt K mg t)(m:Bool × Nat)(G:List (List Nat))(k:Kd){Q:D->Prop}(q:Q (.lst false (au false (nv m G)))):∃C ns xs v,eD t m G k=.obj C ns xs/\cW K C/\bq K C "word_rows"/\(ns.zip xs).lookup ("word_rows":Str)=some v/\Q v:=Bb T m G k T.Vl T.Vq T.Vw (by decide) rfl q
theorem Vy(T:Txt K mg t)(m:Bool × Nat)(G:List (List Nat))(k:Kd){Q:D->Prop}(q:Q (.int ((cZ m G).length:Nat))):∃C ns xs v,eD t m G k=.obj C ns xs/\cW K C/\bq K C "size"/\(ns.zip xs).lookup ("size":Str)=some v/\Q v:=Bb T m G k T.Vk T.Vp T.Vv (by decide) rfl q
theorem Bc(T:Txt K mg t){m:Bool × Nat}{G:List (List Nat)}{k:Kd}{me:Str}{n:Nat}{f:Addr}{fd:FuncData}{ps:List Str}{sp:aU}(h1:Meth K t.gC me f)(h2:Meth K t.iu me f)(h3:Meth K t.gn me f)(F:aF P w K mg base aK n f fd ps (aV sp))(b:Binds K fd ps [])(nm:me ∉ (["extra","first","field","length","check_rows","word_rows","message_places","size","bound"]:List Str)){ds:List D}{Q:D->Prop}(q:sp (eD t m G k::ds) Q):∃C ns zs sp,eD t m G k=.obj C ns zs/\jk P w K mg base n me C sp/\me ∉ ns/\sp (.obj C ns zs::ds) Q:=by
 simp only[cw,gE,or_false,not_or]at nm
 cases k
 ·exact⟨_,_,_,sp,rfl,⟨T.wD,_,_,_,h1,F,b⟩,by simp[nm],q⟩
 ·exact⟨_,_,_,sp,rfl,⟨T.A7,_,_,_,h2,F,b⟩,by simp[nm],q⟩
 ·exact⟨_,_,_,sp,rfl,⟨T.ui,_,_,_,h3,F,b⟩,by simp[nm],q⟩
theorem b82(T:Txt K mg t)(m:Bool × Nat)(G:List (List Nat))(k:Kd){me:Str}{n:Nat}{f:Addr}{fd:FuncData}{ps:List Str}{sp:aU}(h1:Meth K t.gC me f)(h2:Meth K t.iu me f)(h3:Meth K t.gn me f)(F:aF P w K mg base aK n f fd ps (aV sp))(b:Binds K fd ps [])(nm:me ∉ (["extra","first","field","length","check_rows","word_rows","message_places","size","bound"]:List Str)):∃C ns zs uR,eD t m G k=.obj C ns zs/\jk P w K mg base n me C uR/\me ∉ ns/\∀ds Q,sp (eD t m G k::ds) Q->uR (.obj C ns zs::ds) Q:=by
 simp only[cw,gE,or_false,not_or]at nm
 cases k
 ·exact⟨_,_,_,sp,rfl,⟨T.wD,_,_,_,h1,F,b⟩,by simp[nm],λ_ _ q=>q⟩
 ·exact⟨_,_,_,sp,rfl,⟨T.A7,_,_,_,h2,F,b⟩,by simp[nm],λ_ _ q=>q⟩
 ·exact⟨_,_,_,sp,rfl,⟨T.ui,_,_,_,h3,F,b⟩,by simp[nm],λ_ _ q=>q⟩
abbrev aN5:aU:=λds Q=>∃c:Int,ds=[.int c]/\Q (dJ (tw c))
theorem aN6(T:Txt K mg t):aF P w K mg base aK 1 t.Ry t.Rz ["_law_cell_here"] (aV (aN5 )):=by
 refine bh T.Ut.F HN (λds Q h=>by obtain⟨c,rfl,q⟩:=h<;>rfl) λaD A outer s H E hr=>⟨_,(aC (aY (i:=1) HN.nd rfl (aq rfl) (M0 (ns:=[7,11,13,19,25,31,37,41,47,55,59,61,67,73,87,91,97,103,109,115,117]) (by decide +kernel)))
   (aC (aY (i:=2) HN.nd rfl (aq rfl) (M0 (ns:=[2,3,5,7,11,13,17,19,23,29,31,37,41,43,47,53,59,61]) (by decide +kernel)))
   (aC (b8 (bK (fF (cF hr)) (ae (aE dP (bv 0) (ae aw))) (ae aw) (bC _)) (aB (aO (xC (eJ gg (eJ (bX (bH (bv 1) (ae (aE dP (ae (aE mT (bv 0) (ae aw))) (ae aw))) (λ_ _=>rfl))) cQ))))) bZ)
   (aB (aO (xC (eJ gg (eJ (bX (bH (bv 2) (ae (aE dP (ae (aE mT (bv 0) (ae aw))) (ae aw))) (λ_ _=>rfl))) cQ)))))))),λds Q h=>?_⟩
 obtain⟨c,rfl,q⟩:=h
 refine ax λU hU=>?_
 nofun
 refine⟨by decide,hU _ ?_⟩
 clear hU U
 refine ax λU hU=>?_
 nofun
 refine⟨by decide,hU _ ?_⟩
 clear hU U
 refine ax λU hU=>?_
 nofun
 refine⟨by decide,?_⟩
 have n1:=jv (c/2) (show(21:Int)≠0 by decide)
 have n2:=jw (c/2) (show(0:Int)<21 by decide)
 have n3:=jv (c/2) (show(18:Int)≠0 by decide)
 have n4:=jw (c/2) (show(0:Int)<18 by decide)
 split
 ·rename_i hc
  refine⟨mS (by decide) (by decide),by decide,_,nZ n1 (by simpa using n2),rfl,by decide,?_⟩
  have e:dJ (tw c)=.tup [.bl true,.int (([7,11,13,19,25,31,37,41,47,55,59,61,67,73,87,91,97,103,109,115,117]:List Int).getD (c/2%21).toNat 0)]:=by
   unfold tw dJ
   rw[if_pos hc]
   have:∀k:Nat,((ip.getD k 0:Nat):Int)=([7,11,13,19,25,31,37,41,47,55,59,61,67,73,87,91,97,103,109,115,117]:List Int).getD k 0:=λk=>by
    show _=(ip.map (λ(n:Nat)=>(n:Int))).getD k ((0:Nat):Int)
    rw[aL,aL,bM]
    cases ip[k]?<;>rfl
   rw[<-this]
  rw[<-e];exact q
 ·rename_i hc
  refine hU _ ?_
  nofun
  refine⟨mS (by decide) (by decide),by decide,_,nZ n3 (by simpa using n4),rfl,by decide,?_⟩
  have e:dJ (tw c)=.tup [.bl false,.int (([2,3,5,7,11,13,17,19,23,29,31,37,41,43,47,53,59,61]:List Int).getD (c/2%18).toNat 0)]:=by
   unfold tw dJ
   rw[if_neg hc]
   have:∀k:Nat,((qh.getD k 0:Nat):Int)=([2,3,5,7,11,13,17,19,23,29,31,37,41,43,47,53,59,61]:List Int).getD k 0:=λk=>by
    show _=(qh.map (λ(n:Nat)=>(n:Int))).getD k ((0:Nat):Int)
    rw[aL,aL,bM]
    cases qh[k]?<;>rfl
   rw[<-this]
  rw[<-e];exact q
abbrev aN7(L:Obj->Obj->Addr->Addr->xN->Prop):aU:=λds Q=>∃(a:Nat) (of oc:Obj) (c k:Addr) (g:Nat->Nat->Nat) (l:List Int),ds=[.int a,.bG (.lam of oc c k)]/\L of oc c k (z8 g)/\a<64/\GA g a=some l/\Q (.lst true (aS l))
theorem Vz(T:Txt K mg t):aF P w K mg base aK 5 t.RA t.RB ["a","product"] (aV (aN7 (zX P w K mg base 4))):=by
 refine bh T.IG.F Dt (λds Q h=>by obtain⟨a,of,oc,c,k,g,l,rfl,hL,ha,hp,q⟩:=h<;>rfl) λaD A outer s H E hr=>⟨_,(aC (aY (i:=2) Dt.nd rfl (aq rfl) (dA (eJ aw cQ)))
   (aC (aY (i:=3) Dt.nd rfl (aq rfl) (Nh (n:=4) (i:=1) rfl (by first | exact aq rfl | exact bu (aq rfl)) (hr.mono (by decide)) (af (ae aw) (af (bv 0) ak))))
   (aC (zL eG (bK (gZ (cF hr)) (bv 3) (ae aw) (bC _))
    (aC (pV (i:=2) rfl (by first | exact aq rfl | exact bu (aq rfl)) (bX (bv 3)))
    (aB (aY (i:=3) Dt.nd rfl (aq rfl) (Nh (n:=4) (i:=1) rfl (by first | exact aq rfl | exact bu (aq rfl)) (hr.mono (by decide)) (af (bv 3) (af (bv 0) ak)))))))
   (aB (aO (em 2)))))),λds Q h=>?_⟩
 obtain⟨a,of,oc,c,k,g,l,rfl,hL,ha,hp,q⟩:=h
 refine ax λU hU=>?_
 nofun
 refine⟨by decide,hU _ ?_⟩
 clear hU U
 refine ax λU hU=>?_
 nofun
 refine⟨of,oc,c,k,z8 g,rfl,hL,1,a,⟨rfl,rfl⟩,1,a,rfl,rfl,by decide,ha,hU _ ?_⟩
 clear hU U
 refine ax λU hU=>?_
 nofun
 refine⟨λm δ=>∃(p:Nat) (acc:List Int),δ=[some (.int a),some (.bG (.lam of oc c k)),some (.lst true (aS acc)),some (.int p)]/\acc.length+m<=70/\CH g a m p acc=some l,⟨64,_,[1],rfl,by decide,hp⟩,?_⟩
 rintro m δ ⟨p,acc,rfl,hn,hg⟩
 nofun
 cases m with
 | zero=>cases hg
 | succ m =>
  unfold CH at hg
  split at hg
  ·rename_i h1
   subst h1
   cases hg
   rw[if_neg (by simp)]
   refine hU _ ?_
   nofun
   exact q
  ·rename_i h1
   rw[if_pos (by simp;omega)]
   split at hg
   ·rename_i h2
    clear hU
    refine ax λU hU=>?_
    nofun
    refine⟨⟨_,rfl⟩,by omega,hU _ ?_⟩
    clear hU
    nofun
    exact⟨of,oc,c,k,z8 g,rfl,hL,p,a,⟨rfl,rfl⟩,p,a,rfl,rfl,h2,ha,m,by omega,g p a,acc++[(p:Int)],⟨by rw[<-pW];rfl,rfl⟩,by simp;omega,hg⟩
   ·cases hg
abbrev aJ5(L:Obj->Obj->Addr->Addr->xN->Prop):aU:=λds Q=>∃(n:Nat) (of oc:Obj) (c k:Addr) (g:Nat->Nat->Nat) (l:List Int),ds=[.int n,.bG (.lam of oc c k)]/\L of oc c k (z8 g)/\z7 g n=some l/\Q (.lst true (aS l))
theorem aJ6(T:Txt K mg t):aF P w K mg base aK 6 t.RC t.RD ["many","product"] (aV (aJ5 (zX P w K mg base 4))):=by
 refine bh T.Uu.F AJ (λds Q h=>by obtain⟨n,of,oc,c,k,g,l,rfl,hL,hp,q⟩:=h<;>rfl) λaD A outer s H E hr=>⟨_,(aC (aY (i:=2) AJ.nd rfl (aq rfl) aw)
   (aC (aY (i:=3) AJ.nd rfl (aq rfl) (aQ T.IG (Vz T) hr (af (bv 2) (af (bv 1) ak))))
   (aC (zL eG (bK pK (ae (di (fG) (by rfl) T.fL fB (af (bv 3) ak))) (ae (aE eC (bv 0) (ae aw))) (bC _))
    (aC (zK (i:=2) AJ.nd rfl (aq rfl) (ae aw) cy7)
    (aB (aY (i:=3) AJ.nd rfl (aq rfl) (aQ T.IG (Vz T) hr (af (bv 2) (af (bv 1) ak)))))))
   (aB (aO (em 3)))))),λds Q h=>?_⟩
 obtain⟨n,of,oc,c,k,g,l,rfl,hL,hp,q⟩:=h
 unfold z7 at hp
 split at hp
 ·rename_i l0 h0
  refine ax λU hU=>?_
  nofun
  refine hU _ ?_
  clear hU U
  refine ax λU hU=>?_
  nofun
  refine⟨1,of,oc,c,k,g,l0,rfl,hL,by decide,h0,hU _ ?_⟩
  clear hU U
  refine ax λU hU=>?_
  nofun
  refine⟨λm δ=>∃(st:Nat) (l1:List Int),δ=[some (.int n),some (.bG (.lam of oc c k)),some (.int st),some (.lst true (aS l1))]/\st+m<=63/\CI g n m st l1=some l,⟨62,1,l0,rfl,by decide,hp⟩,?_⟩
  rintro m δ ⟨st,l1,rfl,hn,hg⟩
  nofun
  cases m with
  | zero=>cases hg
  | succ m =>
   unfold CI at hg
   split at hg
   ·rename_i h1
    rw[if_pos (by omega)]
    split at hg
    ·rename_i l2 h2
     clear hU
     refine ax λU hU=>?_
     nofun
     refine hU _ ?_
     clear hU
     nofun
     exact⟨st+1,of,oc,c,k,g,l2,rfl,hL,by omega,h2,m,by omega,st+1,l2,⟨rfl,rfl⟩,by omega,hg⟩
    ·cases hg
   ·rename_i h1
    rw[if_neg (by omega)]
    cases hg
    refine hU _ ?_
    nofun
    exact q
 ·cases hp
abbrev aQ5:aU:=λds Q=>∃(l:List Int),ds=[.lst false (aS l)]/\l.length<=64/\(∀x∈l,0<=x/\x.toNat<=l.length)/\Q (.lst true (aS (fS l)))
theorem aQ6(T:Txt K mg t):aF P w K mg base aK 1 t.RE t.RF ["powers"] (aV (aQ5 )):=by
 refine bh T.Uv.F HP (λds Q h=>by obtain⟨l,rfl,hl,hx,q⟩:=h<;>rfl) λaD A outer s H E hr=>⟨_,(aC (aY (i:=1) HP.nd rfl (aq rfl) (aE gy (ae (dA (eJ aw cQ))) (ae (aE dH (ae (di (fG) (by rfl) T.fL fB (af (bv 0) ak))) (ae aw)))))
   (aC (fE eG rfl (vP rfl T.wB (af (bv 0) ak)) (m6 (i1:=2) (i2:=3) rfl HP.nd rfl (aq rfl) rfl (aq rfl))
    (aB (Co (i:=1) rfl (by first | exact aq rfl | exact bu (aq rfl)) (bX (bv 2)) (bv 3))))
   (aB (aO (em 1))))),λds Q h=>?_⟩
 obtain⟨l,rfl,hl,hx,q⟩:=h
 refine ax λU hU=>?_
 nofun
 refine⟨by decide,⟨by omega,by omega,by omega⟩,hU _ ?_⟩
 clear hU U
 refine ax λU hU=>?_
 nofun
 refine fC.mk (λi δ=>∃o1 o2,δ=[some (.lst false (aS l)),some (.lst true (aS (qi l i))),o1,o2]) ⟨none,none,?_⟩ ?_ ?_
 ·rw[show((l.length:Int)+1).toNat=l.length+1 by omega];rfl
 ·rintro i d δ hd ⟨o1,o2,rfl⟩
  obtain⟨hi,rfl⟩:∃h:i<l.length,d=.tup [.int i,.int l[i]]:=by
   unfold fR aS at hd
   rw[uz,bM]at hd
   by_cases hi:i<l.length
   ·rw[aM hi]at hd
    simp at hd
    exact⟨hi,hd.symm⟩
   ·rw[eE (by omega)]at hd;simp at hd
  have lY:=hx l[i] (cN _)
  nofun
  refine⟨_,(l[i]).toNat,rfl,?_,_,_,?_,rfl,rfl⟩
  ·unfold j5
   rw[lW,z9,if_pos lY.1,if_pos (by omega)]
  ·unfold aS
   rw[<-List.map_set]
   congr 1
   show _=(qi l i).set (l.getD i 0).toNat (i:Int)
   rw[aL,aM hi];rfl
 ·rintro δ ⟨o1,o2,rfl⟩
  refine hU _ ?_
  simp only[rE,mO,rF,rG,pq,dT,mM,nR,nS,dC,oY,nU,ph,pf,pj,rD,nX,sH,pT,sJ,sM,rp,rq,rz,rA,rB,rC,oZ,sD,pO,pP,ii,pH,rT,pJ,rW,rX,rY,rZ,r6,r9,iI,ik,sj,sk,so,sq,pL,pM,mU,sA,sC,gN,sN,sF,rH,rK,rM,rN,rO,rP,sO,sP,mP,jE,eM,jD,gY,oB,qL,uC,xa,nV,je,jB,pQ,pS,mZ,sU,vL,sX,pY,sV,iQ,vO,vM,vN,cI,gR,iF,ju,ft,xb,aX,qV,qW,dw,f7,uD,exists_eq_left',exists_eq_left,D.bl.injEq,D.int.injEq,D.lst.injEq,D.fz.injEq,D.str.injEq,D.tup.injEq,uE,and_true,true_and,bA,eU,ky,kZ,vg,vh,vj,vk,vm,vn,eI,j9,lU,vt,vv,vw,vx,vy,bV,i9,sQ,vo,vp,vq,fP,oW,xg,xh,qG,e6,xi,xj,uu,vD,vE,vF,vG,vH,vI,vJ,lW,ke,sR,jF,pW,vA,sT,vz,pX,vB,vC,kI,sS,if_true,uF,if_false,reduceIte,vK,decide_eq_true_eq,eN,jj,m8,vS,kJ,vR,rJ,sZ,sW,qe,qf,qg,tE,qm,tK,tL,dM,og,jJ,tF,qk,tR,tO,tP,tS,tT,tU,tX,tW,tY,tZ,kg,kg]
  exact q
abbrev yu(K:Frag):aU:=λds Q=>∃(C:Addr) (ns:List Str) (xs:List D) (n:Int) (many:Nat) (l:List Int) (r:Int),ds=[.obj C ns xs,.int n]/\cW K C/\bq K C "powers"/\bq K C "many"/\(ns.zip xs).lookup ("powers":Str)=some (.lst false (aS l))/\(ns.zip xs).lookup ("many":Str)=some (.int many)/\2<=many/\l[(n%((many:Int)-1)).toNat]?=some r/\Q (.int r)
theorem Bd(T:Txt K mg t):aF P w K mg base aK 1 t.AN t.RG ["self","n"] (aV (yu K)):=by
 refine bh T.yr.F av6 (λds Q h=>by obtain⟨C,ns,xs,n,many,l,r,rfl,hC,h1,h2,h3,h4,h5,h6,q⟩:=h<;>rfl) λaD A outer s H E hr=>⟨_,(aB (aO (bX (bH (cA (K:=K) (bv 0)) (ae (aE dP (bv 1) (ae (aE eC (cA (K:=K) (bv 0)) (ae aw))))) (λ_ _=>rfl))))),λds Q h=>?_⟩
 obtain⟨C,ns,xs,n,many,l,r,rfl,hC,h1,h2,h3,h4,h5,h6,q⟩:=h
 nofun
 refine⟨C,ns,xs,_,rfl,hC,h1,h3,C,ns,xs,_,rfl,hC,h2,h4,?_⟩
 refine⟨by omega,_,q8 (d:=.int r) (jv _ (by omega)) ?_,rfl,q⟩
 unfold aS
 rw[bM,h6];rfl
theorem bE7(T:Txt K mg t){m:Bool × Nat}(hm:m∈aA){n:Int}{Q:D->Prop}(q:Q (.int (eS m n:Nat))):NR P w K mg base 1 t.bo t.br m "step_power" [.int n] Q:=by
 have hF:=cj hm
 have hl:=cJ4 hm n
 obtain⟨k,b⟩:=m
 cases k with
 | true=>exact⟨_,_,_,yu K,rfl,⟨T.fM,_,_,_,T.ID,Bd T,T.yr.b⟩,by decide,_,_,_,_,aa (true,b),fl (true,b),_,rfl,T.fM,T.DQ,T.A8,rfl,rfl,hF.lo,hl,q⟩
 | false=>exact⟨_,_,_,yu K,rfl,⟨T.gq,_,_,_,T.IE,Bd T,T.yr.b⟩,by decide,_,_,_,_,aa (false,b),fl (false,b),_,rfl,T.gq,T.Jf,T.Ba,rfl,rfl,hF.lo,hl,q⟩
abbrev aL3(P:Program)(w:World)(K:Frag)(mg:Str->Option Value)(base:Heap)(fs:Addr):kS:=λC ds ns xs bE bz=>∃(b:Str) (n0:Int) (many:Nat) (of oc:Obj) (c k:Addr) (g:Nat->Nat->Nat) (l:List Int) (st:Int),ds=[.int many,.bG (.lam of oc c k)]/\ns=[b]/\xs=[.int n0]/\(b="bits"\/b="prime")/\c24 K C fs/\zX P w K mg base 4 of oc c k (z8 g)/\Ny g many l st/\bE=jG b/\bz=[.int n0,.int many,.int ((bl many:Nat)-1),.lst false (aS l),.lst false (aS (fS l)),.int st]
theorem VA(T:Txt K mg t):aF P w K mg base aK 7 t.HU t.RH ["self","many","product"] (jS [] (aL3 P w K mg base t.AN)):=by
 refine Dr T.Ja.F aK8 (λC ds ns xs bE bz h=>by obtain⟨b,n0,many,of,oc,c,k,g,l,st,rfl,rfl,rfl,hb,hC,hL,hF,rfl,rfl⟩:=h<;>rfl) λaD A outer s H E hr a=>⟨_,(fK (iV (K:=K) rfl (by first | exact aq rfl | exact bu (aq rfl)) (bX (bv 1)))
   (fK (iV (K:=K) rfl (by first | exact aq rfl | exact bu (aq rfl)) (aE eC (ae (mX (bv 1))) (ae aw)))
   (fK (iV (K:=K) rfl (by first | exact aq rfl | exact bu (aq rfl)) (aQ T.Uu (aJ6 T) hr (af (bv 1) (af (bv 2) ak))))
   (fK (iV (K:=K) rfl (by first | exact aq rfl | exact bu (aq rfl)) (aQ T.Uv (aQ6 T) hr (af (cA (K:=K) (bv 0)) ak)))
   (wu (iV (K:=K) rfl (by first | exact aq rfl | exact bu (aq rfl)) (gj (P:=P) (w:=w) (K:=K) (mg:=mg) (base:=base) (n:=1) (bv 0) (hr.mono (by decide)) (af (ae aw) ak)))))))),λC ds ns xs bE bz h=>?_⟩
 obtain⟨b,n0,many,of,oc,c,k,g,l,st,rfl,rfl,rfl,hb,hC,hL,hF,rfl,rfl⟩:=h
 refine ax λU hU=>?_
 nofun
 refine⟨C,_,_,["p"],rfl,hC.cls,hC.many,by show 1<1000;decide,by rcases hb with rfl | rfl<;>rfl,hU _ ?_⟩
 clear hU U
 refine ax λU hU=>?_
 nofun
 rw[jV]
 refine⟨C,_,_,["p"],rfl,hC.cls,hC.wide,by show 2<1000;decide,by rcases hb with rfl | rfl<;>rfl,hU _ ?_⟩
 clear hU U
 refine ax λU hU=>?_
 nofun
 refine⟨many,of,oc,c,k,g,l,rfl,hL,hF.step,?_⟩
 refine⟨C,_,_,["p"],rfl,hC.cls,hC.GB,by show 3<1000;decide,by rcases hb with rfl | rfl<;>(simp only[gO,fW,qA,dw,bA,eU,qy];rfl),hU _ ?_⟩
 clear hU U
 rw[qA]
 refine ax λU hU=>?_
 nofun
 refine⟨C,_,_,.lst false (aS l),rfl,hC.cls,hC.GB,by rcases hb with rfl | rfl<;>rfl,l,by rw[qA],by have:=hF.len;have:=hF.hi;omega,hF.ins,by rw[eI,ke];rfl,?_⟩
 refine⟨C,_,_,["p"],rfl,hC.cls,hC.c25,by show 4<1000;decide,by rcases hb with rfl | rfl<;>(simp only[gO,fW,qA,dw,bA,eU,qy];rfl),hU _ ?_⟩
 clear hU U
 rw[qA]
 nofun
 refine⟨C,_,_,yu K,rfl,⟨hC.cls,_,_,_,hC.sp,Bd T,T.yr.b⟩,by rcases hb with rfl | rfl<;>decide,C,_,_,1,many,l,st,rfl,hC.cls,hC.GB,hC.many,by rcases hb with rfl | rfl<;>rfl,by rcases hb with rfl | rfl<;>rfl,hF.lo,hF.st,?_⟩
 refine⟨C,_,_,["p"],rfl,hC.cls,hC.step,by show 5<1000;decide,by rcases hb with rfl | rfl<;>(simp only[gO,fW,qA,dw,bA,eU,qy];rfl),rfl⟩
abbrev as8:aU:=λds Q=>∃a:Int,ds=[.int a]/\Q (.bl (decide (2<=a)&&decide (a<=61)&&(aH (a.toNat-2)).all λi=>a%(2+(i:Int)) != 0))
theorem as9(T:Txt K mg t):aF P w K mg base aK 1 t.RI t.RJ ["prime"] (aV (as8 )):=by
 refine bh T.Uw.F as3 (λds Q h=>by obtain⟨a,rfl,q⟩:=h<;>rfl) λaD A outer s H E hr=>⟨_,(aB (aO (pd (ae (ve lL lL (ae aw) (bv 0) (ae aw))) (uK (di (sE rfl) (by rfl) T.uf rh (af (ae (cq [("prime",0)] ["d"] rfl (xD rfl T.fX (af (ae aw) (af (bv 0) ak))) (λ_ _ _ _=>(cB (i:=1) (show(["prime","d"]:List Str).Nodup by decide +kernel))) (λ_ _ _ _=>bW) (λ_ _ _ _=>(u4 (gZ (cF hr)) (ae (aE dP (bv 0) (bv 1))) (ae aw) (bC _))) rfl)) ak)))))),λds Q h=>?_⟩
 obtain⟨a,rfl,q⟩:=h
 nofun
 split
 ·rename_i h1
  split
  ·rename_i h2
   refine⟨2,a,⟨rfl,rfl⟩,⟨by decide,by decide,by omega,by omega⟩,?_⟩
   have e0:(a-2).toNat=a.toNat-2:=by omega
   rw[e0]
   refine lX (aH (a.toNat-2)) (λ(k:Nat)=>D.int (2+(k:Int))) (λ(k:Nat)=>D.bl (a%(2+(k:Int)) != 0)) (by rw[zM]) (λx y h=>by injection h with h;omega) (λk hk=>?_) (.inr λ_ _=>rfl) (by rw[bN,sL];omega) ?_
   ·nofun
    refine⟨by omega,?_⟩
    by_cases z:a%(2+(k:Int))=0<;>simp[z]
   ·refine⟨(aH (a.toNat-2)).map λ(k:Nat)=>a%(2+(k:Int)) != 0,?_,?_⟩
    ·unfold lQ;rw[bx];rfl
    ·have e:(decide (2<=a)&&decide (a<=61)&&(aH (a.toNat-2)).all λi=>a%(2+(i:Int)) != 0)=((aH (a.toNat-2)).map λ(k:Nat)=>a%(2+(k:Int)) != 0).all id:=by
      simp[h1,h2,nF]
     rw[<-e];exact q
  ·rename_i h2
   have e:(decide (2<=a)&&decide (a<=61)&&(aH (a.toNat-2)).all λi=>a%(2+(i:Int)) != 0)=false:=by simp[h2]
   rw[e]at q;exact q
 ·rename_i h1
  have e:(decide (2<=a)&&decide (a<=61)&&(aH (a.toNat-2)).all λi=>a%(2+(i:Int)) != 0)=false:=by simp[h1]
  rw[e]at q;exact q
abbrev aJ7:List D->List Str->List D->Prop:=λds ns xs=>∃p:Nat,ds=[.int p]/\p∈qh/\ns=jG "prime"/\xs=[.int p,.int p,.int ((bl p:Nat)-1),.lst true (aS (fl (false,p))),.lst true (aS (fS (fl (false,p)))),.int (fst (false,p))]
theorem az7(T:Txt K mg t)(hB:Bm mg base):aF P w K mg base aK 8 t.HV t.HW ["self","prime"] (jS [t.ud,t.ue] (ye t.br aJ7)):=by
 refine Pn T.UY.F T.az2 aw5 (λC ds ns xs bE bz h=>by obtain⟨rfl,rfl,rfl,zs,⟨p,rfl,hp,rfl,rfl⟩,rfl⟩:=h<;>rfl) λA outer s H E hr a=>⟨_,(fK (yb (iN (fQ (ae (aQ T.Uw (as9 T) hr (af (bv 1) ak))))))
   (fK (iV (K:=K) rfl (by first | exact aq rfl | exact bu (aq rfl)) (bX (bv 1)))
   (wu (Pk (i:=1) T.Us ((VA (P:=P) (w:=w) (K:=K) (mg:=mg) (base:=base) T).mono (by decide)) hr T.Ja.b rfl T.Uo rfl (by first | exact aq rfl | exact bu (aq rfl)) rfl rfl rfl rfl rfl rfl T.az3 gD hB (bX (bv 1)))))),λC ds ns xs bE bz h=>?_⟩
 obtain⟨rfl,rfl,rfl,zs,⟨p,rfl,hp,rfl,rfl⟩,rfl⟩:=h
 have hm:(false,p)∈aA:=fq _ (w9 hp)
 have hF:=cj hm
 refine ax λU hU=>?_
 nofun
 refine⟨p,rfl,?_⟩
 rw[cc0 p hp]
 refine⟨true,rfl,rfl,hU _ ?_⟩
 clear hU U
 refine ax λU hU=>?_
 nofun
 refine⟨t.br,_,_,["p"],rfl,T.gq,T.yt,by decide,rfl,hU _ ?_⟩
 clear hU U
 nofun
 refine⟨t.br,_,_,_,_,["p"],p,rfl,rfl,rfl,by simp only[bA,eU,qy];rfl,λqn pm g7 k oc tm i5=>⟨"prime",p,p,_,oc,_,k,gm (false,p),fl (false,p),fst (false,p),rfl,rfl,rfl,.inr rfl,⟨T.gq,T.Ba,T.az5,T.Jf,T.Je,T.az4,T.IE⟩,?_,hF,rfl,rfl⟩,?_⟩
 ·refine Nv (n:=3) ⟨rfl,rfl,rfl,by decide,rfl,rfl,by decide,by decide,rfl⟩ i5 (λu1 u2=>rfl) λq f A outer s H E hr=>?_
  refine⟨_,aE dP (ae (aE gy (bv 0) (bv 1))) (bv 2),λi j Qd h=>?_⟩
  obtain⟨a,b,rfl,rfl,ha,hb,hq⟩:=h
  nofun
  have hp0:2<=p:=hF.lo
  refine⟨iJ.ok (.inr ⟨by omega,by omega⟩),by omega,?_⟩
  have e:((gm (false,p) a b:Nat):Int)=(a:Int)*b%p:=by
   show((a*b%p:Nat):Int)=_
   rw[qS,qT]
  rw[<-e];exact hq
 ·simp only[cI,gR,qA,aa]
abbrev aH4:aU:=λds Q=>∃(l g:List Int),ds=[.lst false (aS l),.lst false (aS g)]/\1<=l.length/\l.length<=63/\g.length=l.length+1/\(∀x∈g,0<=x)/\Q (.lst true (Ab l g))
theorem aH5(T:Txt K mg t):aF P w K mg base aK 1 t.RK t.RL ["powers","logs"] (aV (aH4 )):=by
 refine bh T.Ux.F Du (λds Q h=>by obtain⟨l,g,rfl,h1,h2,h3,h4,q⟩:=h<;>rfl) λaD A outer s H E hr=>⟨_,(aC (aY (i:=2) Du.nd rfl (bu rfl) (aE dH (ae (di (fG) (by rfl) T.fL fB (af (bv 0) ak))) (ae aw)))
   (aC (aY (i:=3) Du.nd rfl (aq rfl) (dA (eJ (aE gy (ae (dA (eJ aw cQ))) (bv 2)) cQ)))
   (aC (fE eG rfl (xD rfl T.fX (af (ae aw) (af (bv 2) ak))) (jC (i:=4) Du.nd rfl (bu rfl))
    (aB (pV (i:=3) rfl (by first | exact aq rfl | exact bu (aq rfl)) (aE dH (ae (dA (eJ aw cQ))) (ae (cq [("powers",0),("many",2),("logs",1),("a",4)] ["b"] rfl (xD rfl T.fX (af (ae aw) (af (bv 2) ak))) (λ_ _ _ _=>(cB (i:=4) (show(["powers","many","logs","a","b"]:List Str).Nodup by decide +kernel))) (λ_ _ _ _=>bW) (λ_ _ _ _=>(bX (bH (bv 0) (ae (aE dP (ae (aE dH (bH (bv 2) (bv 3) (λ_ _=>rfl)) (bH (bv 2) (bv 4) (λ_ _=>rfl)))) (ae (aE eC (bv 1) (ae aw))))) (λ_ _=>rfl)))) rfl))))))
   (aB (aO (em 3)))))),λds Q h=>?_⟩
 obtain⟨l,g,rfl,h1,h2,h3,h4,q⟩:=h
 refine ax λU hU=>?_
 nofun
 refine hU _ ?_
 clear hU U
 refine ax λU hU=>?_
 nofun
 refine⟨by decide,⟨by omega,by omega,by omega⟩,by decide,hU _ ?_⟩
 clear hU U
 refine ax λU hU=>?_
 nofun
 refine⟨1,(l.length:Int)+1,⟨rfl,rfl⟩,⟨by decide,by decide,by omega,by omega⟩,?_⟩
 have en:((l.length:Int)+1-1).toNat=l.length:=by omega
 rw[en]
 refine fC.mk (λi δ=>∃o,δ=[some (.lst false (aS l)),some (.lst false (aS g)),some (.int ((l.length:Int)+1)),some (.lst true (Aa l g (i+1))),o]) ⟨none,?_⟩ ?_ ?_
 ·rw[show((l.length:Int)+1).toNat=l.length+1 by omega];rfl
 ·rintro i d δ hd ⟨o,rfl⟩
  obtain⟨hi,rfl⟩:i<l.length/\d=.int (1+(i:Int)):=by
   rw[bM]at hd
   by_cases hi:i<l.length
   ·rw[h9 hi]at hd
    exact⟨hi,(cT hd).symm⟩
   ·rw[eE (by simpa using hi)]at hd;cases hd
  nofun
  refine⟨⟨_,rfl⟩,by decide,1,(l.length:Int)+1,⟨rfl,rfl⟩,⟨by decide,by decide,by omega,by omega⟩,?_⟩
  rw[en]
  refine lX (aH l.length) (λ(k:Nat)=>D.int (1+(k:Int))) (λ(k:Nat)=>D.int (l.getD ((g.getD (i+1) 0+g.getD (k+1) 0)%(l.length:Int)).toNat 0)) (by rw[zM]) (λx y h=>by injection h with h;omega) (λk hk=>?_) (.inr λ_ _=>rfl) (by rw[bN,sL];omega) ?_
  ·have Al:=bT.mp hk
   nofun
   have e1:(1+(i:Int)).toNat=i+1:=by omega
   have e2:(1+(k:Int)).toNat=k+1:=by omega
   have e3:(l.length:Int)+1-1=l.length:=by omega
   have n0:=jv (g.getD (i+1) 0+g.getD (k+1) 0) (show(l.length:Int)≠0 by omega)
   have n1:=jw (g.getD (i+1) 0+g.getD (k+1) 0) (show(0:Int)<l.length by omega)
   refine⟨_,nZ (by omega) (by omega),_,nZ (by omega) (by omega),?_⟩
   rw[e1,e2,e3]
   exact⟨by omega,_,nZ n0 n1,rfl,rfl⟩
  ·nofun
   refine⟨⟨by simp;omega,by rw[nF,cJ];intro x _;rfl⟩,by simp[Aa];omega,_,?_,rfl⟩
   unfold Aa
   rw[J7 (n:=i+1),eR]
   congr 1
   show _=[D.lst true (aS (tu l g (i+1)))]
   unfold tu
   rw[if_neg (by omega)]
   unfold aS
   rw[cI,bx];rfl
 ·rintro δ ⟨o,rfl⟩
  refine hU _ ?_
  simp only[rE,mO,rF,rG,pq,dT,mM,nR,nS,dC,oY,nU,ph,pf,pj,rD,nX,sH,pT,sJ,sM,rp,rq,rz,rA,rB,rC,oZ,sD,pO,pP,ii,pH,rT,pJ,rW,rX,rY,rZ,r6,r9,iI,ik,sj,sk,so,sq,pL,pM,mU,sA,sC,gN,sN,sF,rH,rK,rM,rN,rO,rP,sO,sP,mP,jE,eM,jD,gY,oB,qL,uC,xa,nV,je,jB,pQ,pS,mZ,sU,vL,sX,pY,sV,iQ,vO,vM,vN,cI,gR,iF,ju,ft,xb,aX,qV,qW,dw,f7,uD,exists_eq_left',exists_eq_left,D.bl.injEq,D.int.injEq,D.lst.injEq,D.fz.injEq,D.str.injEq,D.tup.injEq,uE,and_true,true_and,bA,eU,ky,kZ,vg,vh,vj,vk,vm,vn,eI,j9,lU,vt,vv,vw,vx,vy,bV,i9,sQ,vo,vp,vq,fP,oW,xg,xh,qG,e6,xi,xj,uu,vD,vE,vF,vG,vH,vI,vJ,lW,ke,sR,jF,pW,vA,sT,vz,pX,vB,vC,kI,sS,if_true,uF,if_false,reduceIte,vK,decide_eq_true_eq,eN,jj,m8,vS,kJ,vR,rJ,sZ,sW,qe,qf,qg,tE,qm,tK,tL,dM,og,jJ,tF,qk,tR,tO,tP,tS,tT,tU,tX,tW,tY,tZ,kg,aW,bN]
  exact q
abbrev aH6(t:cR):aU:=λds Q=>∃a b:Nat,ds=[.int a,.int b]/\bl a<=1000000/\bl b<=1000000/\(b=0->False)/\(b≠0->∀q r:Nat,a=cl q b ^^^ r->bl r<bl b->Q (.tup [.int q,.int r]))
theorem VB(T:Txt K mg t):aF P w K mg base aK 1 t.RM t.RN ["a","b"] (aV (aH6 t)):=by
 refine bh T.AV.F yh (λds Q h=>by obtain⟨a,b,rfl,ha,hb,qx,q⟩:=h<;>rfl) λaD A outer s H E hr=>⟨_,(aC (b8 (bK (fF (cF hr)) (bv 1) (ae aw) (bC _)) (aB zH) bZ)
   (aC (aY (i:=2) yh.nd rfl (aq rfl) aw)
   (aC (aY (i:=3) yh.nd rfl (aq rfl) (em 0))
   (aC (zL eG (bK cO1 (ae (mX (bv 3))) (ae (mX (bv 1))) (bC _))
    (aC (aY (i:=4) yh.nd rfl (aq rfl) (aE eC (ae (mX (bv 3))) (ae (mX (bv 1)))))
    (aC (zK (i:=2) yh.nd rfl (aq rfl) (ae (aE u7 (ae aw) (bv 4))) Cj)
    (aB (zK (i:=3) yh.nd rfl (aq rfl) (ae (aE u7 (bv 1) (bv 4))) Cj)))))
   (aB (aO (xC (eJ (em 2) (eJ (em 3) cQ))))))))),λds Q h=>?_⟩
 obtain⟨a,b,rfl,ha,hb,qx,q⟩:=h
 refine ax λU hU=>?_
 nofun
 split
 ·rename_i h0
  exact qx (by omega)
 ·rename_i h0
  have b0:b≠0:=by omega
  refine hU _ ?_
  clear hU U
  refine ax λU hU=>?_
  nofun
  refine hU _ ?_
  clear hU U
  refine ax λU hU=>?_
  nofun
  refine hU _ ?_
  clear hU U
  refine ax λU hU=>?_
  nofun
  refine⟨λm δ=>∃(x r:Nat) (o sh:Option D),δ=[o,some (.int b),some (.int (x:Nat)),some (.int (r:Nat)),sh]/\a=cl x b ^^^ r/\bl r<=bl a/\m=bl r,
   ⟨bl a,0,a,_,none,rfl,by rw[rf,qN],cg _,rfl⟩,?_⟩
  rintro m δ ⟨x,r,o,sh,rfl,inv,hra,rfl⟩
  simp only[rE,mO,rF,rG,pq,dT,mM,nR,nS,dC,oY,nU,ph,pf,pj,rD,nX,sH,pT,sJ,sM,rp,rq,rz,rA,rB,rC,oZ,sD,pO,pP,ii,pH,rT,pJ,rW,rX,rY,rZ,r6,r9,iI,ik,sj,sk,so,sq,pL,pM,mU,sA,sC,gN,sN,sF,rH,rK,rM,rN,rO,rP,sO,sP,mP,jE,eM,jD,gY,oB,qL,uC,xa,nV,je,jB,pQ,pS,mZ,sU,vL,sX,pY,sV,iQ,vO,vM,vN,cI,gR,iF,ju,ft,xb,aX,qV,qW,dw,f7,uD,exists_eq_left',exists_eq_left,D.bl.injEq,D.int.injEq,D.lst.injEq,D.fz.injEq,D.str.injEq,D.tup.injEq,uE,and_true,true_and,bA,eU,ky,kZ,vg,vh,vj,vk,vm,vn,eI,j9,lU,vt,vv,vw,vx,vy,bV,i9,sQ,vo,vp,vq,fP,oW,xg,xh,qG,e6,xi,xj,uu,vD,vE,vF,vG,vH,vI,vJ,lW,ke,sR,jF,pW,vA,sT,vz,pX,vB,vC,kI,sS,if_true,uF,if_false,reduceIte,vK,decide_eq_true_eq,eN,jj,m8,vS,kJ,vR,rJ,sZ,sW,qe,qf,qg,tE,qm,tK,tL,dM,og,jJ,tF,qk,tR,tO,tP,tS,tT,tU,tX,tW,tY,tZ,kg,jV]
  split
  ·rename_i hc
   have hle:bl b<=bl r:=by omega
   have less:=LW b0 hle
   have es:(((bl r:Nat):Int)-((bl b:Nat):Int))=((bl r-bl b:Nat):Int):=by omega
   clear hU
   refine ax λU hU=>?_
   nofun
   simp only[jV,es]
   refine hU _ ?_
   clear hU
   refine ax λU hU=>?_
   nofun
   have o1:bl (1:Int).natAbs=1:=by decide
   refine⟨⟨by omega,by omega⟩,hU _ ?_⟩
   clear hU
   simp only[rE,mO,rF,rG,pq,dT,mM,nR,nS,dC,oY,nU,ph,pf,pj,rD,nX,sH,pT,sJ,sM,rp,rq,rz,rA,rB,rC,oZ,sD,pO,pP,ii,pH,rT,pJ,rW,rX,rY,rZ,r6,r9,iI,ik,sj,sk,so,sq,pL,pM,mU,sA,sC,gN,sN,sF,rH,rK,rM,rN,rO,rP,sO,sP,mP,jE,eM,jD,gY,oB,qL,uC,xa,nV,je,jB,pQ,pS,mZ,sU,vL,sX,pY,sV,iQ,vO,vM,vN,cI,gR,iF,ju,ft,xb,aX,qV,qW,dw,f7,uD,exists_eq_left',exists_eq_left,D.bl.injEq,D.int.injEq,D.lst.injEq,D.fz.injEq,D.str.injEq,D.tup.injEq,uE,and_true,true_and,bA,eU,ky,kZ,vg,vh,vj,vk,vm,vn,eI,j9,lU,vt,vv,vw,vx,vy,bV,i9,sQ,vo,vp,vq,fP,oW,xg,xh,qG,e6,xi,xj,uu,vD,vE,vF,vG,vH,vI,vJ,lW,ke,sR,jF,pW,vA,sT,vz,pX,vB,vC,kI,sS,if_true,uF,if_false,reduceIte,vK,decide_eq_true_eq,eN,jj,m8,vS,kJ,vR,rJ,sZ,sW,qe,qf,qg,tE,qm,tK,tL,dM,og,jJ,tF,qk,tR,tO,tP,tS,tT,tU,tX,tW,tY,tZ,kg,jV]
   refine⟨⟨by omega,by rw[jV];omega⟩,_,less,x ^^^ 2 ^ (bl r-bl b),r ^^^ b <<< (bl r-bl b),o,_,⟨rfl,?_,?_,rfl⟩,ZT inv,by omega,rfl⟩
   ·rw[show(1:Int)=((1:Nat):Int) from rfl,xy,oV,Ey]
   ·rw[xy,oV]
  ·rename_i hc
   refine hU _ ?_
   nofun
   refine⟨by decide,q b0 x r inv (by omega)⟩
abbrev aH7:aU:=λds Q=>∃a:Nat,ds=[.int a]/\bl a<=60/\Q (.bl (al a))
theorem aH8(T:Txt K mg t):aF P w K mg base aK 2 t.RO t.RP ["a"] (aV (aH7 )):=by
 refine bh T.Uy.F HQ (λds Q h=>by obtain⟨a,rfl,ha,q⟩:=h<;>rfl) λaD A outer s H E hr=>⟨_,(aC (b8 (bK pK (bv 0) (ae aw) (bC _)) (aB (aO gg)) bZ)
   (aC (aY (i:=1) HQ.nd rfl (aq rfl) (aE mT (ae (aE eC (ae (mX (bv 0))) (ae aw))) (ae aw)))
   (aC (fE eG rfl (xD rfl T.fX (af (ae aw) (af (ae (aE u7 (ae aw) (ae (aE dH (bv 1) (ae aw))))) ak))) (jC (i:=2) HQ.nd rfl (aq rfl))
    (aB (b8 (bK (fF (cF hr)) (bH (ae (aQ T.AV (VB T) hr (af (bv 0) (af (bv 2) ak)))) (ae aw) (λ_ _=>rfl)) (ae aw) (bC _)) (aB (aO gg)) bZ)))
   (aB (aO gg))))),λds Q h=>?_⟩
 obtain⟨a,rfl,ha,q⟩:=h
 refine ax λU hU=>?_
 nofun
 split
 ·rename_i h2
  rw[Z5 (by omega)]at q;exact q
 ·rename_i h2
  have h2:2<=a:=by omega
  have hp:=i8 (show a≠0 by omega)
  refine hU _ ?_
  clear hU U
  refine ax λU hU=>?_
  nofun
  simp only[jV]
  refine⟨mS (by omega) (by omega),hU _ ?_⟩
  clear hU U
  have eh:((((bl a:Nat):Int)-1)/2+1)=(((bl a-1)/2+1:Nat):Int):=by omega
  have e1:(1:Int)*2 ^ ((((bl a:Nat):Int)-1)/2+1).toNat=((2 ^ ((bl a-1)/2+1):Nat):Int):=by
   rw[eh,show(1:Int)=((1:Nat):Int) from rfl,xy,Ey]
  have big:2 ^ ((bl a-1)/2+1)<=2 ^ 40:=nD (by decide) (by omega)
  have o1:bl (1:Int).natAbs=1:=by decide
  refine ax λU hU=>?_
  nofun
  rw[e1]
  have dO4:((2 ^ ((bl a-1)/2+1):Nat):Int)<=2 ^ 40:=by exact_mod_cast big
  have nn:(0:Int)<=((2 ^ ((bl a-1)/2+1):Nat):Int):=JK _
  refine⟨⟨by omega,by omega⟩,_,_,⟨rfl,rfl⟩,⟨by decide,by decide,by omega,by omega⟩,?_⟩
  have en:(((2 ^ ((bl a-1)/2+1):Nat):Int)-2).toNat=2 ^ ((bl a-1)/2+1)-2:=by omega
  rw[en]
  refine fC.mk (λi δ=>(∃o1 o2,δ=[some (.int a),o1,o2])/\∀j,j<i->md a (2+j)≠0) ⟨⟨_,_,rfl⟩,λj hj=>absurd hj (by omega)⟩ ?_ ?_
  ·rintro i d δ hd ⟨⟨o1,o2,rfl⟩,inv⟩
   obtain⟨hi,rfl⟩:i<2 ^ ((bl a-1)/2+1)-2/\d=.int (2+(i:Int)):=by
    rw[bM]at hd
    by_cases hi:i<2 ^ ((bl a-1)/2+1)-2
    ·rw[h9 hi]at hd
     exact⟨hi,(cT hd).symm⟩
    ·rw[eE (by simpa using hi)]at hd;cases hd
   have bi:bl (2+i)<=60:=by
    have:=(Z8 h2 (show 2+i<2 ^ ((bl a-1)/2+1) by omega)).2
    omega
   nofun
   refine⟨a,2+i,by rw[show((2+i:Nat):Int)=2+(i:Int) by omega],by omega,by omega,by omega,λ_ x r e l=>?_⟩
   have em:md a (2+i)=r:=zt e l
   refine⟨.int r,rfl,rfl,?_⟩
   rw[kI]
   split
   ·rename_i hz
    have r0:r=0:=by have:=of_decide_eq_true hz;omega
    rw[Z7 hi (em.trans r0)]at q
    exact q
   ·rename_i hz
    refine⟨⟨_,_,rfl,rfl⟩,λj hj=>?_⟩
    by_cases ej:j=i
    ·rw[ej,em]
     intro r0
     exact hz (decide_eq_true (by omega))
    ·exact inv j (by omega)
  ·rintro δ ⟨⟨o1,o2,rfl⟩,inv⟩
   rw[aW,bN]at inv
   rw[Z6 h2 inv]at q
   refine hU _ ?_
   nofun
   exact q
abbrev az8:aU:=λds Q=>∃a:Int,ds=[.int a]/\Q (.bl (decide (4<=a)&&decide (a<=127)&&al a.toNat))
theorem az9(T:Txt K mg t):aF P w K mg base aK 3 t.RQ t.RU ["bits"] (aV (az8 )):=by
 refine bh T.Uz.F aw6 (λds Q h=>by obtain⟨a,rfl,q⟩:=h<;>rfl) λaD A outer s H E hr=>⟨_,(aB (aO (pd (ae (ve lL lL (ae aw) (bv 0) (ae aw))) (uK (aQ T.Uy (aH8 T) hr (af (bv 0) ak)))))),λds Q h=>?_⟩
 obtain⟨a,rfl,q⟩:=h
 nofun
 split
 ·rename_i h1
  split
  ·rename_i h2
   refine⟨a.toNat,by rw[wZ (by omega)],?_,?_⟩
   ·have:bl a.toNat<=bl 127:=Fj (by omega)
    exact fY this (by decide)
   ·have e:(decide (4<=a)&&decide (a<=127)&&al a.toNat)=al a.toNat:=by simp[h1,h2]
    rw[e]at q;exact q
  ·rename_i h2
   have e:(decide (4<=a)&&decide (a<=127)&&al a.toNat)=false:=by simp[h2]
   rw[e]at q;exact q
 ·rename_i h1
  have e:(decide (4<=a)&&decide (a<=127)&&al a.toNat)=false:=by simp[h1]
  rw[e]at q;exact q
abbrev aL4:aU:=λds Q=>∃a b:Nat,ds=[.int a,.int b]/\bl a<=1000/\bl b<=1000/\Q (.int (cl a b:Nat))
theorem aL5(T:Txt K mg t):aF P w K mg base aK 1 t.RV t.RW ["a","b"] (aV (aL4 )):=by
 refine bh T.DG.F Dv (λds Q h=>by obtain⟨a,b,rfl,ha,hb,q⟩:=h<;>rfl) λaD A outer s H E hr=>⟨_,(aC (aY (i:=2) Dv.nd rfl (aq rfl) aw)
   (aC (fE eG rfl (jf rfl T.fX (af (ae (mX (bv 1))) ak)) (jC (i:=3) Dv.nd rfl (aq rfl))
    (aB (b8 (bK (fF (cF hr)) (ae (aE MC (ae (aE MB (bv 1) (bv 3))) (ae aw))) (ae aw) (bC _)) (aB (zK (i:=2) Dv.nd rfl (aq rfl) (ae (aE u7 (bv 0) (bv 3))) Cj)) bZ)))
   (aB (aO (em 2))))),λds Q h=>?_⟩
 obtain⟨a,b,rfl,ha,hb,q⟩:=h
 refine ax λU hU=>?_
 nofun
 refine hU _ ?_
 clear hU U
 refine ax λU hU=>?_
 nofun
 simp only[jV]
 refine⟨⟨by omega,by omega⟩,zU (λi δ=>∃o,δ=[some (.int a),some (.int b),some (.int (Mf.P a b i:Nat)),o]) ⟨none,rfl⟩ ?_ ?_⟩
 ·rintro i δ hi ⟨o,rfl⟩
  nofun
  refine⟨by omega,?_⟩
  have DR:(qH ((b:Int)/2 ^ ((i:Int)).toNat) 1=1)↔b.testBit i=true:=by
   have h:=ο b i
   rw[JZ]at h
   rw[<-h,dI]
  split
  ·rename_i hc
   have h:=π (a:=a) (DR.mp hc)
   rw[JZ]at h
   exact⟨⟨by omega,by rw[jV];omega⟩,_,h,rfl⟩
  ·rename_i hc
   exact⟨_,by rw[ρ (λz=>hc (DR.mpr z))],rfl⟩
 ·rintro δ ⟨o,rfl⟩
  refine hU _ ?_
  nofun
  exact q
abbrev aN8:List D->List Str->List D->Prop:=λds ns xs=>∃p:Nat,ds=[.int p]/\p∈ip/\ns=jG "bits"++[("products":Str)]/\xs=[.int p,.int (aa (true,p)),.int ((bl (aa (true,p)):Nat)-1),.lst true (aS (fl (true,p))),.lst true (aS (fS (fl (true,p)))),.int (fst (true,p)),.lst true (Ab (fl (true,p)) (fS (fl (true,p))))]
theorem aF3(T:Txt K mg t)(hB:Bm mg base):aF P w K mg base aK 8 t.HX t.HY ["self","bits"] (jS [t.ud,t.ue] (ye t.bo aN8)):=by
 refine Pn T.UZ.F T.aE8 PZ (λC ds ns xs bE bz h=>by obtain⟨rfl,rfl,rfl,zs,⟨p,rfl,hp,rfl,rfl⟩,rfl⟩:=h<;>rfl) λA outer s H E hr a=>⟨_,(fK (yb (iN (fQ (ae (aQ T.Uz (az9 T) hr (af (bv 1) ak))))))
   (fK (iV (K:=K) rfl (by first | exact aq rfl | exact bu (aq rfl)) (bX (bv 1)))
   (fK (HF (i:=1) (EI (i:=2) PZ.nd rfl (aq rfl) (aE u7 (ae aw) (ae (aE eC (ae (mX (bv 1))) (ae aw))))))
   (fK (Pk (i:=1) T.Us ((VA (P:=P) (w:=w) (K:=K) (mg:=mg) (base:=base) T).mono (by decide)) hr T.Ja.b rfl T.Uo rfl (by first | exact aq rfl | exact bu (aq rfl)) rfl rfl rfl rfl rfl rfl T.aE9 (e5 _ gD) hB (bX (bv 2)))
   (wu (iV (K:=K) rfl (by first | exact aq rfl | exact bu (aq rfl)) (aQ T.Ux (aH5 T) hr (af (cA (K:=K) (bv 0)) (af (cA (K:=K) (bv 0)) ak))))))))),λC ds ns xs bE bz h=>?_⟩
 obtain⟨rfl,rfl,rfl,zs,⟨p,rfl,hp,rfl,rfl⟩,rfl⟩:=h
 have hm:(true,p)∈aA:=iz _ (w9 hp)
 have hF:=cj hm
 have bp:bl p<=7:=NC p hp
 have DS:1<=bl p:=ND p hp
 refine ax λU hU=>?_
 nofun
 refine⟨p,rfl,?_⟩
 rw[cq3 p hp]
 refine⟨true,rfl,rfl,hU _ ?_⟩
 clear hU U
 refine ax λU hU=>?_
 nofun
 refine⟨t.bo,_,_,["p"],rfl,T.fM,T.aF0,by decide,rfl,hU _ ?_⟩
 clear hU U
 refine ax λU hU=>?_
 nofun
 refine⟨?_,?_⟩
 ·have o1:bl (1:Int).natAbs=1:=by decide
  rw[jV]
  exact⟨by omega,by omega⟩
 have em:(1:Int)*2 ^ (((bl ((p:Int)).natAbs:Nat):Int)-1).toNat=((aa (true,p):Nat):Int):=by
  rw[jV,show(((bl p:Nat):Int)-1)=((bl p-1:Nat):Int) by omega,show(1:Int)=((1:Nat):Int) from rfl,xy,Ey];rfl
 rw[em]
 refine hU _ ?_
 clear hU U
 refine ax λU hU=>?_
 nofun
 refine⟨t.bo,_,_,_,_,["p"],p,rfl,rfl,rfl,by simp only[bA,eU,qy];rfl,λqn pm g7 k oc tm i5=>⟨"bits",p,aa (true,p),_,oc,_,k,gm (true,p),fl (true,p),fst (true,p),rfl,rfl,rfl,.inl rfl,⟨T.fM,T.A8,T.aF2,T.DQ,T.DP,T.aF1,T.ID⟩,?_,hF,rfl,rfl⟩,hU _ ?_⟩
 ·refine Nv (n:=3) ⟨rfl,rfl,rfl,by decide,rfl,rfl,by decide,by decide,rfl⟩ i5 (λu1 u2=>rfl) λq f A outer s H E hr=>?_
  refine⟨_,bX (bH (ae (Cd ((VB T).mono (by decide)) hr rfl T.AV.g T.AV.F.kp T.AV.b jA (af (ae (Cd ((aL5 T).mono (by decide)) hr rfl T.DG.g T.DG.F.kp T.DG.b jA (af (bv 0) (af (bv 1) ak)))) (af (bv 2) ak)))) (ae aw) (λ_ _=>rfl)),λi j Qd h=>?_⟩
  obtain⟨a,b,rfl,rfl,ha,hb,hq⟩:=h
  nofun
  have b1:bl a<=6:=by
   have:bl a<=bl 63:=Fj (by omega)
   exact fY this (by decide)
  have b2:bl b<=6:=by
   have:bl b<=bl 63:=Fj (by omega)
   exact fY this (by decide)
  have p0:p≠0:=by
   intro z
   rw[z]at DS
   exact absurd DS (by decide)
  refine⟨a,b,rfl,by omega,by omega,cl a b,p,rfl,fY (ca2 a b) (by omega),by omega,λz=>p0 z,λ_ x r e l=>⟨by simp[D.pl],.int r,rfl,rfl,r,rfl,?_⟩⟩
  have er:gm (true,p) a b=r:=zt e l
  rw[<-er];exact hq
 ·clear hU U
  nofun
  refine⟨_,_,_,.lst false (aS (fl (true,p))),rfl,T.fM,T.DQ,rfl,_,_,_,.lst false (aS (fS (fl (true,p)))),rfl,T.fM,T.DP,rfl,fl (true,p),fS (fl (true,p)),by rw[qA,qA],by have:=hF.len;have:=hF.lo;omega,by have:=hF.len;have:=hF.hi;omega,z9 _ _,NB _ _,by rw[eI,eI,ke,ke];rfl,_,_,_,["p"],rfl,T.fM,T.A9,by show 6<1000;decide,?_,?_⟩
  ·rw[NF]
   simp only[gO,fW,dw,bA,eU,qy,Pp];rfl
  ·rw[bV];rfl
abbrev aL6(cb cp:Addr):aU:=λds Q=>∃m:Bool × Nat,ds=[dJ m]/\m∈aA/\Q (fD cb cp m)
theorem aL7(T:Txt K mg t)(hB:Bm mg base):aF P w K mg base aK 10 t.RX t.RY ["_law_told_here"] (xM [t.ud,t.ue] (aV (aL6 t.bo t.br))):=by
 refine Gz T.DH.F aK9 (λds Q h=>by obtain⟨m,rfl,hm,q⟩:=h<;>rfl) λaD A outer s H E hT hr=>⟨_,(aC (b8 (fQ (bH (bv 0) (ae aw) (λ_ _=>rfl))) (aB (aO (yf hT T.aP4 ((aF3 T hB).mono (by decide)) hr rfl T.aQ4 T.UZ.b jA (af (bH (bv 0) (ae aw) (λ_ _=>rfl)) ak)))) bZ)
   (aB (aO (yf hT T.aL2 ((az7 T hB).mono (by decide)) hr rfl T.aN4 T.UY.b jA (af (bH (bv 0) (ae aw) (λ_ _=>rfl)) ak))))),λds Q h=>?_⟩
 obtain⟨m,rfl,hm,q⟩:=h
 unfold dJ at *
 refine ax λU hU=>?_
 nofun
 obtain⟨b,n⟩:=m
 cases b with
 | true =>
  refine⟨_,rfl,true,rfl,?_⟩
  rw[if_pos rfl]
  refine⟨_,rfl,rfl,_,_,⟨n,rfl,xO hm,rfl,rfl⟩,?_⟩
  rw[cE5];exact q
 | false =>
  refine⟨_,rfl,false,rfl,?_⟩
  rw[if_neg (by decide)]
  refine hU _ ?_
  nofun
  refine⟨_,rfl,rfl,_,_,⟨n,rfl,bH3 hm,rfl,rfl⟩,?_⟩
  rw[ce1];exact q
def jU(ns:List Int)(k:Int):Int:=if k<ns.length then ns.getD k.toNat 0 else(k*k*48271+ns.length*7919)%65537
abbrev aN9:aU:=λds Q=>∃(ns:List Int) (k:Int),ds=[.fz (aS ns),.int k]/\0<=k/\k<=1000000/\Q (.int (jU ns k))
theorem qD(T:Txt K mg t):aF P w K mg base aK 1 t.RZ t.R0 ["_law_script","_law_k"] (aV (aN9 )):=by
 refine bh T.ot.F aM8 (λds Q h=>by obtain⟨ns,k,rfl,hk,ql,q⟩:=h<;>rfl) λaD A outer s H E hr=>⟨_,(aC (b8 (bK pK (bv 1) (ae (di (fG) (by rfl) T.fL fB (af (bv 0) ak))) (bC _)) (aB (aO (bX (bH (bv 0) (bv 1) (λ_ _=>rfl))))) bZ)
   (aB (aO (aE dP (ae (aE dH (ae (aE gy (ae (aE gy (bv 1) (bv 1))) (ae aw))) (ae (aE gy (ae (di (fG) (by rfl) T.fL fB (af (bv 0) ak))) (ae aw))))) (ae aw))))),λds Q h=>?_⟩
 obtain⟨ns,k,rfl,hk,ql,q⟩:=h
 unfold jU at q
 refine ax λU hU=>?_
 nofun
 split
 ·rename_i h
  rw[if_pos h]at q
  exact⟨_,nZ hk h,rfl,q⟩
 ·rename_i h
  rw[if_neg h]at q
  refine hU _ ?_
  nofun
  exact⟨iJ.ok (.inl ⟨by omega,by omega⟩),iJ.ok (.inr ⟨by decide,by decide⟩),iJ.ok (.inr ⟨by decide,by decide⟩),by decide,q⟩
abbrev aO0:aU:=λds Q=>∃m:Bool × Nat,ds=[dJ m]/\bl m.2<=1000/\1<=bl m.2/\Q (.int (aa m:Nat))
theorem Be(T:Txt K mg t):aF P w K mg base aK 1 t.R1 t.R3 ["_law_told_here"] (aV (aO0 )):=by
 refine bh T.yq.F aM9 (λds Q h=>by obtain⟨m,rfl,h1,h2,q⟩:=h<;>rfl) λaD A outer s H E hr=>⟨_,(aC (b8 (fQ (bH (bv 0) (ae aw) (λ_ _=>rfl))) (aB (aO (aE u7 (ae aw) (ae (aE eC (ae (mX (bH (bv 0) (ae aw) (λ_ _=>rfl)))) (ae aw)))))) bZ)
   (aB (aO (bX (bH (bv 0) (ae aw) (λ_ _=>rfl)))))),λds Q h=>?_⟩
 obtain⟨m,rfl,h1,h2,q⟩:=h
 unfold dJ at *
 refine ax λU hU=>?_
 nofun
 obtain⟨b,n⟩:=m
 cases b with
 | true =>
  refine⟨_,rfl,true,rfl,?_⟩
  rw[if_pos rfl]
  refine⟨_,rfl,?_⟩
  have o1:bl (1:Int).natAbs=1:=by decide
  have e:(1:Int)*2 ^ (((bl ((n:Int)).natAbs:Nat):Int)-1).toNat=((aa (true,n):Nat):Int):=by
   have kG:1<=bl n:=h2
   rw[jV,show(((bl n:Nat):Int)-1)=((bl n-1:Nat):Int) by omega,show(1:Int)=((1:Nat):Int) from rfl,xy,Ey];rfl
  refine⟨?_,by rw[e];exact q⟩
  rw[jV]
  have lH:bl n<=1000:=h1
  have kG:1<=bl n:=h2
  exact⟨by omega,by omega⟩
 | false =>
  refine⟨_,rfl,false,rfl,?_⟩
  rw[if_neg (by decide)]
  refine hU _ ?_
  nofun
  exact⟨_,rfl,rfl,q⟩
abbrev aP5:aU:=λds Q=>∃T:List (List Nat),ds=[.lst false (au false T)]/\T.length<=1000/\(∀r∈T,r.length<=1000)/\Q (.int (ag T:Nat))
theorem wH(T:Txt K mg t):aF P w K mg base aK 1 t.R4 t.R5 ["table"] (aV (aP5 )):=by
 refine bh T.uh.F aP1 (λds Q h=>by obtain⟨G,rfl,hG,hr,q⟩:=h<;>rfl) λaD A outer s H E hr=>⟨_,(aB (aO (FF (bK (gZ (cF hr)) (bv 0) (ae (dA cQ)) (bC _)) (di (fG) (by rfl) T.fL fB (af (bH (bv 0) (ae aw) (λ_ _=>rfl)) ak)) aw))),λds Q h=>?_⟩
 obtain⟨G,rfl,hG,hr,q⟩:=h
 nofun
 refine⟨by decide,⟨xQ 4 _ _ _,rfl⟩,?_⟩
 rw[show(D.lst true ([]:List D))=D.lst true (au true []) from rfl,GQ]
 cases G with
 | nil=>rw[if_neg (by simp)];exact q
 | cons r G =>
  rw[if_pos (by simp)]
  refine⟨.lst false (aj r),tG false (T:=r::G) (i:=0) (Kn _),?_⟩
  show Q (D.int ((aj r).length:Nat))
  rw[eN];exact q
abbrev aL8:aU:=λds Q=>∃(T:List (List Nat)) (j:Nat),ds=[.lst false (au false T),.int j]/\T.length<=1000/\(∀r∈T,j<r.length)/\Q (match kN T j with | some i=>.int (i:Nat) | none=>.az)
theorem aL9(T:Txt K mg t):aF P w K mg base aK 1 t.R6 t.R7 ["rows","place"] (aV (aL8 )):=by
 refine bh T.UA.F P7 (λds Q h=>by obtain⟨G,j,rfl,hG,hr,q⟩:=h<;>rfl) λaD A outer s H E hr=>⟨_,(aC (fE eG rfl (vP rfl T.wB (af (bv 0) ak)) (m6 (i1:=2) (i2:=3) rfl P7.nd rfl (aq rfl) rfl (aq rfl))
    (aB (b8 (bK (gZ (cF hr)) (bH (bv 3) (bv 1) (λ_ _=>rfl)) (ae aw) (bC _)) (aB (aO (em 2))) bZ)))
   (aB (aO u0))),λds Q h=>?_⟩
 obtain⟨G,j,rfl,hG,hr,q⟩:=h
 refine ax λU hU=>?_
 nofun
 refine fC.mk (λi δ=>∃o1 o2,δ=[some (D.lst false (au false G)),some (D.int j),o1,o2]/\∀k,k<i->(G.getD k []).getD j 0=0) ⟨_,_,rfl,λk hk=>absurd hk (Nat.not_lt_zero k)⟩ ?_ ?_
 ·rintro i d δ hd ⟨o1,o2,rfl,hz⟩
  obtain⟨hi,rfl⟩:=N3 hd
  have hj:=hr _ (cN hi)
  have eg:G.getD i []=G[i]:=by rw[aL,aM hi];rfl
  nofun
  refine⟨.int (G[i].getD j 0:Nat),by rw[kL (by omega) (by omega),iC],rfl,?_⟩
  rw[kI]
  by_cases h0:G[i].getD j 0=0
  ·rw[if_neg (by rw[h0];decide)]
   refine⟨_,_,⟨rfl,rfl⟩,λk hk=>?_⟩
   by_cases e:k=i
   ·rw[e,eg];exact h0
   ·exact hz k (by omega)
  ·rw[if_pos (by rw[decide_eq_false (by omega)];rfl)]
   have ef:kN G j=some i:=by
    unfold kN
    rw[WN]
    refine⟨hi,by simpa using h0,λk hk=>?_⟩
    have:=hz k hk
    rw[aL (l:=G),aM (by omega)]at this
    simpa using this
   rw[ef]at q
   exact q
 ·rintro δ ⟨o1,o2,rfl,hz⟩
  refine hU _ ?_
  nofun
  have ef:kN G j=none:=by
   unfold kN
   rw[WO]
   intro r aP
   obtain⟨i,hi,rfl⟩:=fh aP
   have:=hz i (by rw[kg,jJ];exact hi)
   rw[aL (l:=G),aM hi]at this
   simpa using this
  rw[ef]at q
  exact q
abbrev VC(K:Frag):aU:=λds Q=>∃(C:Addr) (p a:Nat) (xs:List Nat),ds=[vZ C p,.int a,.lst false (aj xs)]/\cW K C/\bq K C "products"/\p∈ip/\a<aa (true,p)/\(∀y∈xs,y<aa (true,p))/\xs.length<=1000/\Q (.lst true (aj (xs.map (gm (true,p) a))))
theorem aA0(T:Txt K mg t):aF P w K mg base aK 1 t.HZ t.R8 ["self","a","row"] (aV (VC K)):=by
 refine bh T.U0.F P9 (λds Q h=>by obtain⟨C,p,a,xs,rfl,hC,hn,hp,ha,hy,hl,q⟩:=h<;>rfl) λaD A outer s H E hr=>⟨_,(aC (aY (i:=3) P9.nd rfl (bu rfl) (bX (bH (cA (K:=K) (bv 0)) (bv 1) (λ_ _=>rfl))))
   (aB (aO (cq [("by_a",3)] ["x"] rfl (dX (bv 2)) (λ_ _ _ _=>(cB (i:=1) (show(["by_a","x"]:List Str).Nodup by decide +kernel))) (λ_ _ _ _=>bW) (λ_ _ _ _=>(bX (bH (bv 0) (bv 1) (λ_ _=>rfl)))) rfl)))),λds Q h=>?_⟩
 obtain⟨C,p,a,xs,rfl,hC,hn,hp,ha,hy,hl,q⟩:=h
 refine ax λU hU=>?_
 nofun
 refine⟨C,_,_,_,rfl,hC,hn,rfl,_,CN hp ha,?_⟩
 refine⟨by rw[eI,ke];rfl,hU _ ?_⟩
 clear hU U
 nofun
 refine oq xs (λx=>D.int ((gm (true,p) a x:Nat):Int)) (λx hx=>?_) (.inr λ_ _=>rfl) ?_
 ·nofun
  exact⟨_,CM hp ha (hy x hx),rfl,rfl⟩
 ·rw[cL,bx]at q
  exact q
abbrev VD(K:Frag):aU:=λds Q=>∃(C:Addr) (p a:Nat) (xs:List Nat),ds=[vY C p,.int a,.lst false (aj xs)]/\cW K C/\bq K C "prime"/\0<p/\a<64/\(∀y∈xs,y<64)/\xs.length<=1000/\Q (.lst true (aj (xs.map (gm (false,p) a))))
theorem at0(T:Txt K mg t):aF P w K mg base aK 1 t.Ia t.R9 ["self","a","row"] (aV (VD K)):=by
 refine bh T.U1.F Qb (λds Q h=>by obtain⟨C,p,a,xs,rfl,hC,hn,hp,ha,hy,hl,q⟩:=h<;>rfl) λaD A outer s H E hr=>⟨_,(aC (aY (i:=3) Qb.nd rfl (bu rfl) (bX (cA (K:=K) (bv 0))))
   (aB (aO (cq [("prime",3),("a",1)] ["x"] rfl (dX (bv 2)) (λ_ _ _ _=>(cB (i:=2) (show(["prime","a","x"]:List Str).Nodup by decide +kernel))) (λ_ _ _ _=>bW) (λ_ _ _ _=>(aE dP (ae (aE gy (bv 1) (bv 2))) (bv 0))) rfl)))),λds Q h=>?_⟩
 obtain⟨C,p,a,xs,rfl,hC,hn,hp,ha,hy,hl,q⟩:=h
 refine ax λU hU=>?_
 nofun
 refine⟨C,_,_,.int p,rfl,hC,hn,rfl,rfl,hU _ ?_⟩
 clear hU U
 nofun
 refine oq xs (λx=>D.int ((gm (false,p) a x:Nat):Int)) (λx hx=>?_) (.inr λ_ _=>rfl) ?_
 ·have h2:=hy x hx
  nofun
  refine⟨iJ.ok (.inr ⟨by omega,by omega⟩),by omega,?_⟩
  show _=((a*x%p:Nat):Int)
  rw[qS,qT]
 ·rw[cL,bx]at q
  exact q
theorem VE(T:Txt K mg t){m:Bool × Nat}(hm:m∈aA):∃C ns zs sp,fD t.bo t.br m=.obj C ns zs/\jk P w K mg base 1 "scaled" C sp/\("scaled":Str) ∉ ns/\∀(xs:List Nat) (a:Nat) (Q:D->Prop),a<aa m->(∀y∈xs,y<aa m)->xs.length<=1000->Q (.lst true (aj (xs.map (gm m a))))->sp [.obj C ns zs,.int a,.lst false (aj xs)] Q:=by
 have hF:=cj hm
 obtain⟨k,n⟩:=m
 cases k with
 | true=>exact⟨_,_,_,VC K,rfl,⟨T.fM,_,_,_,T.ay7,aA0 T,T.U0.b⟩,by decide,λxs a Q ha hy hl q=>⟨_,n,a,xs,rfl,T.fM,T.A9,xO hm,ha,hy,hl,q⟩⟩
 | false =>
  have uj:n<=64:=hF.hi
  have l2:2<=n:=hF.lo
  exact⟨_,_,_,VD K,rfl,⟨T.gq,_,_,_,T.as6,at0 T,T.U1.b⟩,by decide,λxs a Q ha hy hl q=>⟨_,n,a,xs,rfl,T.gq,T.yt,by omega,dE (show a<n from ha) uj,λy h=>dE (show y<n from hy y h) uj,hl,q⟩⟩
abbrev VF(K:Frag):aU:=λds Q=>∃(C:Addr) (p a:Nat) (xs ys:List Nat),ds=[vZ C p,.lst false (aj xs),.int a,.lst false (aj ys)]/\cW K C/\bq K C "products"/\p∈ip/\a<aa (true,p)/\(∀y∈ys,y<aa (true,p))/\xs.length<=1000/\Q (.lst true (aj (dv (λx y=>bB (true,p) x (gm (true,p) a y)) xs ys)))
theorem at1(T:Txt K mg t):aF P w K mg base aK 1 t.Ib t.Sa ["self","row","a","other"] (aV (VF K)):=by
 refine bh T.U2.F Qe (λds Q h=>by obtain⟨C,p,a,xs,ys,rfl,hC,hn,hp,ha,hy,hl,q⟩:=h<;>rfl) λaD A outer s H E hr=>⟨_,(aC (aY (i:=4) Qe.nd rfl (bu rfl) (bX (bH (cA (K:=K) (bv 0)) (bv 2) (λ_ _=>rfl))))
   (aB (aO (cq [("by_a",4)] ["x","y"] rfl (xI rfl T.wC (af (bv 1) (af (bv 3) ak))) (λ_ _ _ _=>(x6 (i1:=1) (i2:=2) (show(["by_a","x","y"]:List Str).Nodup by decide +kernel))) (λ_ _ _ _=>bW) (λ_ _ _ _=>(aE zP (bv 1) (bH (bv 0) (bv 2) (λ_ _=>rfl)))) rfl)))),λds Q h=>?_⟩
 obtain⟨C,p,a,xs,ys,rfl,hC,hn,hp,ha,hy,hl,q⟩:=h
 refine ax λU hU=>?_
 nofun
 refine⟨C,_,_,_,rfl,hC,hn,rfl,_,CN hp ha,?_⟩
 refine⟨by rw[eI,ke];rfl,hU _ ?_⟩
 clear hU U
 nofun
 refine⟨_,_,rfl,rfl,NX (λx y=>bB (true,p) x (gm (true,p) a y)) (λx hx y DT=>?_) (by omega) q⟩
 nofun
 refine⟨_,CM hp ha (hy y DT),?_⟩
 show qI (x:Int) ((gm (true,p) a y:Nat):Int)=_
 rw[oV];rfl
abbrev VG(K:Frag):aU:=λds Q=>∃(C:Addr) (p a:Nat) (xs ys:List Nat),ds=[vY C p,.lst false (aj xs),.int a,.lst false (aj ys)]/\cW K C/\bq K C "prime"/\0<p/\a<64/\(∀y∈ys,y<64)/\xs.length<=1000/\Q (.lst true (aj (dv (λx y=>bB (false,p) x (gm (false,p) a y)) xs ys)))
theorem aq0(T:Txt K mg t):aF P w K mg base aK 1 t.Ic t.Sb ["self","row","a","other"] (aV (VG K)):=by
 refine bh T.U3.F Qg (λds Q h=>by obtain⟨C,p,a,xs,ys,rfl,hC,hn,hp,ha,hy,hl,q⟩:=h<;>rfl) λaD A outer s H E hr=>⟨_,(aC (aY (i:=4) Qg.nd rfl (bu rfl) (bX (cA (K:=K) (bv 0))))
   (aB (aO (cq [("prime",4),("a",2)] ["x","y"] rfl (xI rfl T.wC (af (bv 1) (af (bv 3) ak))) (λ_ _ _ _=>(x6 (i1:=2) (i2:=3) (show(["prime","a","x","y"]:List Str).Nodup by decide +kernel))) (λ_ _ _ _=>bW) (λ_ _ _ _=>(aE dP (ae (aE eC (bv 2) (ae (aE gy (bv 1) (bv 3))))) (bv 0))) rfl)))),λds Q h=>?_⟩
 obtain⟨C,p,a,xs,ys,rfl,hC,hn,hp,ha,hy,hl,q⟩:=h
 refine ax λU hU=>?_
 nofun
 refine⟨C,_,_,.int p,rfl,hC,hn,rfl,rfl,hU _ ?_⟩
 clear hU U
 nofun
 refine⟨_,_,rfl,rfl,NX (λx y=>bB (false,p) x (gm (false,p) a y)) (λx hx y DT=>?_) (by omega) q⟩
 have h2:=hy y DT
 nofun
 refine⟨iJ.ok (.inr ⟨by omega,by omega⟩),by omega,?_⟩
 have e:((x:Int)-((a*y%p:Nat):Int))%(p:Int)=((x:Int)-(a:Int)*y)%p:=by
  rw[qS,qT,Int.sub_emod,Int.emod_emod,<- Int.sub_emod]
 show _=(((((x:Int)-((a*y%p:Nat):Int))%(p:Int)).toNat:Nat):Int)
 rw[e,wZ (jv _ (by omega))]
theorem VH(T:Txt K mg t){m:Bool × Nat}(hm:m∈aA):∃C ns zs sp,fD t.bo t.br m=.obj C ns zs/\jk P w K mg base 1 "lessened" C sp/\("lessened":Str) ∉ ns/\∀(xs ys:List Nat) (a:Nat) (Q:D->Prop),a<aa m->(∀y∈ys,y<aa m)->xs.length<=1000->Q (.lst true (aj (dv (λx y=>bB m x (gm m a y)) xs ys)))->sp [.obj C ns zs,.lst false (aj xs),.int a,.lst false (aj ys)] Q:=by
 have hF:=cj hm
 obtain⟨k,n⟩:=m
 cases k with
 | true=>exact⟨_,_,_,VF K,rfl,⟨T.fM,_,_,_,T.as5,at1 T,T.U2.b⟩,by decide,λxs ys a Q ha hy hl q=>⟨_,n,a,xs,ys,rfl,T.fM,T.A9,xO hm,ha,hy,hl,q⟩⟩
 | false =>
  have uj:n<=64:=hF.hi
  have l2:2<=n:=hF.lo
  exact⟨_,_,_,VG K,rfl,⟨T.gq,_,_,_,T.ap9,aq0 T,T.U3.b⟩,by decide,λxs ys a Q ha hy hl q=>⟨_,n,a,xs,ys,rfl,T.gq,T.yt,by omega,dE (show a<n from ha) uj,λy h=>dE (show y<n from hy y h) uj,hl,q⟩⟩
abbrev aQ7(cb cp:Addr):aU:=λds Q=>∃(m:Bool × Nat) (T:List (List Nat)) (l:List Nat) (j:Nat),ds=[fD cb cp m,.lst false (au false T),.lst false (aj l),.int j]/\m∈aA/\T.length<=1000/\AllLt (aa m) l/\(∀r∈T,j<r.length/\r.length<=1000/\AllLt (aa m) r)/\Q (.lst true (au true (T.map λr=>dv (λx y=>bB m x (gm m (r.getD j 0) y)) r l)))
theorem VI(T:Txt K mg t):aF P w K mg base aK 2 t.Sd t.Se ["field","rows","lead_row","place"] (aV (aQ7 t.bo t.br)):=by
 refine bh T.IH.F aQ3 (λds Q h=>by obtain⟨m,G,l,j,rfl,hm,hG,hl,hr,q⟩:=h<;>rfl) λaD A outer s H E hr=>⟨_,(aB (aO (cq [("lead_row",2),("field",0),("place",3)] ["row"] rfl (dX (bv 1)) (λ_ _ _ _=>(cB (i:=3) (show(["lead_row","field","place","row"]:List Str).Nodup by decide +kernel))) (λ_ _ _ _=>bW) (λ_ _ _ _=>(gj (P:=P) (w:=w) (K:=K) (mg:=mg) (base:=base) (n:=1) (bv 1) (hr.mono (by decide)) (af (bv 3) (af (bH (bv 3) (bv 2) (λ_ _=>rfl)) (af (bv 0) ak))))) rfl))),λds Q h=>?_⟩
 obtain⟨m,G,l,j,rfl,hm,hG,hl,hr,q⟩:=h
 nofun
 refine kq G (λr=>D.lst true (aj (dv (λx y=>bB m x (gm m (r.getD j 0) y)) r l))) (λr aP=>?_) (.inr λr _=>fo _) ?_
 ·obtain⟨h1,h2,h3⟩:=hr r aP
  obtain⟨C,ns,zs,sp,e1,e2,e3,e4⟩:=VH (P:=P) (w:=w) (base:=base) T hm
  nofun
  refine⟨C,ns,zs,sp,e1,e2,e3,.int (r.getD j 0:Nat),by rw[kL (by omega) (by omega),iC],e4 _ _ _ _ (h3.getD (by have:=(cj hm).lo;omega) j) hl h2 ⟨rfl,rfl⟩⟩
 ·rw[au,bx]at q
  exact q
abbrev VJ(t:cR):aU:=λds Q=>∃(m:Bool × Nat) (a b:Nat),ds=[fD t.bo t.br m,.int a,.int b]/\m∈aA/\a<aa m/\b<aa m/\(b=0->False)/\(b≠0->∀r:Nat,r<aa m->gm m r b=a->Q (.int (r:Nat)))
theorem VL(T:Txt K mg t):aF P w K mg base aK 2 t.DB t.Sf ["self","a","b"] (aV (VJ t)):=by
 refine bh T.Jb.F aL0 (λds Q h=>by obtain⟨m,a,b,rfl,hm,ha,hb,qx,q⟩:=h<;>rfl) λaD A outer s H E hr=>⟨_,(aC (b8 (bK (fF (cF hr)) (bv 2) (ae aw) (bC _)) (aB zH) bZ)
   (aC (b8 (bK (fF (cF hr)) (bv 1) (ae aw) (bC _)) (aB (aO aw)) bZ)
   (aB (aO (gj (P:=P) (w:=w) (K:=K) (mg:=mg) (base:=base) (n:=1) (bv 0) (hr.mono (by decide)) (af (ae (aE eC (bH (cA (K:=K) (bv 0)) (bv 1) (λ_ _=>rfl)) (bH (cA (K:=K) (bv 0)) (bv 2) (λ_ _=>rfl)))) ak)))))),λds Q h=>?_⟩
 obtain⟨m,a,b,rfl,hm,ha,hb,qx,q⟩:=h
 refine ax λU hU=>?_
 nofun
 split
 ·rename_i h0
  exact qx (by omega)
 ·rename_i h0
  have b0:b≠0:=by omega
  refine hU _ ?_
  clear hU U
  refine ax λU hU=>?_
  nofun
  split
  ·rename_i h1
   have a0:a=0:=by omega
   subst a0
   exact q b0 0 ha (eO m b (bO m hm))
  ·rename_i h1
   have a0:a≠0:=by omega
   refine hU _ ?_
   clear hU U
   have hF:=cj hm
   obtain⟨r,e,C6,AI⟩:=NP hm (show 1<=a by omega) ha (show 1<=b by omega) hb
   have qr:=q b0 r C6 AI
   obtain⟨k,n⟩:=m
   cases k with
   | true =>
    nofun
    have ll:(fS (fl (true,n))).length=aa (true,n):=(z9 _ _).trans hF.len
    have n0:=jv (lg (true,n) a-lg (true,n) b) (show(aa (true,n):Int)-1≠0 by have:=hF.lo;omega)
    have n1:=jw (lg (true,n) a-lg (true,n) b) (show(0:Int)<(aa (true,n):Int)-1 by have:=hF.lo;omega)
    refine⟨_,_,_,yu K,rfl,⟨T.fM,_,_,_,T.ID,Bd T,T.yr.b⟩,by decide,_,_,_,_,rfl,T.fM,T.DP,rfl,_,nZ (by omega) (by rw[ll];omega),_,_,_,_,rfl,T.fM,T.DP,rfl,_,nZ (by omega) (by rw[ll];omega),?_⟩
    refine⟨_,_,_,_,aa (true,n),fl (true,n),r,rfl,T.fM,T.DQ,T.A8,rfl,rfl,hF.lo,?_,qr⟩
    have hk:((lg (true,n) a-lg (true,n) b)%((aa (true,n):Int)-1)).toNat<(fl (true,n)).length:=by have:=hF.len;omega
    show(fl (true,n))[((lg (true,n) a-lg (true,n) b)%((aa (true,n):Int)-1)).toNat]?=some (r:Int)
    rw[<-e]
    unfold pw
    rw[aL,aM hk];rfl
   | false =>
    nofun
    have ll:(fS (fl (false,n))).length=aa (false,n):=(z9 _ _).trans hF.len
    have n0:=jv (lg (false,n) a-lg (false,n) b) (show(aa (false,n):Int)-1≠0 by have:=hF.lo;omega)
    have n1:=jw (lg (false,n) a-lg (false,n) b) (show(0:Int)<(aa (false,n):Int)-1 by have:=hF.lo;omega)
    refine⟨_,_,_,yu K,rfl,⟨T.gq,_,_,_,T.IE,Bd T,T.yr.b⟩,by decide,_,_,_,_,rfl,T.gq,T.Je,rfl,_,nZ (by omega) (by rw[ll];omega),_,_,_,_,rfl,T.gq,T.Je,rfl,_,nZ (by omega) (by rw[ll];omega),?_⟩
    refine⟨_,_,_,_,aa (false,n),fl (false,n),r,rfl,T.gq,T.Jf,T.Ba,rfl,rfl,hF.lo,?_,qr⟩
    have hk:((lg (false,n) a-lg (false,n) b)%((aa (false,n):Int)-1)).toNat<(fl (false,n)).length:=by have:=hF.len;omega
    show(fl (false,n))[((lg (false,n) a-lg (false,n) b)%((aa (false,n):Int)-1)).toNat]?=some (r:Int)
    rw[<-e]
    unfold pw
    rw[aL,aM hk];rfl
theorem Jg(T:Txt K mg t)(m:Bool × Nat):jk P w K mg base 2 "over" (if m.1 then t.bo else t.br) (VJ t):=by
 obtain⟨k,n⟩:=m
 cases k with
 | true=>exact⟨T.fM,_,_,_,T.aE7,VL T,T.Jb.b⟩
 | false=>exact⟨T.gq,_,_,_,T.ay8,VL T,T.Jb.b⟩
abbrev aQ8(t:cR):aU:=λds Q=>∃(m:Bool × Nat) (G:List (List Nat)),ds=[fD t.bo t.br m,.lst false (au false G)]/\m∈aA/\G.length<=900/\RT (aa m) (ag G) G/\ag G<=900/\Q (.lst true (au true (bf m G)))
theorem DU(T:Txt K mg t):aF P w K mg base aK 3 t.Sg t.Sh ["field","table"] (aV (aQ8 t)):=by
 refine bh T.AW.F t9 (λds Q h=>by obtain⟨m,G,rfl,hm,hG,hR,hw,q⟩:=h<;>rfl) λaD A outer s H E hr=>⟨_,(aC (aY (i:=2) t9.nd rfl (aq rfl) (dA cQ))
   (aC (aY (i:=3) t9.nd rfl (aq rfl) (bX (bv 1)))
   (aC (fE eG rfl (jf rfl T.fX (af (ae (aQ T.uh (wH T) hr (af (bv 1) ak))) ak)) (jC (i:=4) t9.nd rfl (aq rfl))
    (zI 3 (aC (aY (i:=5) t9.nd rfl (aq rfl) (aQ T.UA (aL9 T) hr (af (bv 3) (af (bv 4) ak))))
    (aB (b8 (bK cC1 (bv 5) (ae u0) (bC _)) (aC (aY (i:=6) t9.nd rfl (aq rfl) (gj (P:=P) (w:=w) (K:=K) (mg:=mg) (base:=base) (n:=1) (bv 0) (hr.mono (by decide)) (af (ae (gj (P:=P) (w:=w) (K:=K) (mg:=mg) (base:=base) (n:=2) (bv 0) (hr.mono (by decide)) (af (ae aw) (af (bH (bH (bv 3) (bv 5) (λ_ _=>rfl)) (bv 4) (λ_ _=>rfl)) ak)))) (af (bH (bv 3) (bv 5) (λ_ _=>rfl)) ak))))
     (aC (aY (i:=3) t9.nd rfl (aq rfl) (aQ T.IH (VI T) hr (af (bv 0) (af (ae (aE dH (ae (vQ (bv 3) vf (pU (bv 5)))) (ae (vQ (bv 3) (pU (ae (aE dH (bv 5) (ae aw)))) vf)))) (af (bv 6) (af (bv 4) ak))))))
     (aB (aY (i:=2) t9.nd rfl (aq rfl) (cC3 (aQ T.IH (VI T) hr (af (bv 0) (af (bv 2) (af (bv 6) (af (bv 4) ak))))) (dA (eJ (em 6) cQ))))))) bZ)))))
   (aB (aO (em 2)))))),λds Q h=>?_⟩
 obtain⟨m,G,rfl,hm,hG,hR,hw,q⟩:=h
 have cO:=(cj hm).lo
 refine ax λU hU=>?_
 nofun
 refine⟨by decide,hU _ ?_⟩
 clear hU U
 refine ax λU hU=>?_
 nofun
 refine hU _ ?_
 clear hU U
 refine ax λU hU=>?_
 nofun
 refine⟨G,rfl,by omega,λr aP=>?_,?_⟩
 ·rw[(hR r aP).1];omega
 refine⟨_,rfl,⟨by omega,by omega⟩,?_⟩
 refine zU (λk δ=>∃(o:Bool) (o1 o2 o3:Option D),δ=[some (fD t.bo t.br m),some (D.lst false (au false G)),some (D.lst true (au true (ki m G k).1)),some (D.lst o (au o (ki m G k).2)),o1,o2,o3]) ⟨false,none,none,none,rfl⟩ ?_ ?_
 ·rintro k δ hk ⟨o,o1,o2,o3,rfl⟩
  have I:=Aj hm hR k
  rw[GR]
  generalize ki m G k=s at I ⊢
  simp only[gN,nV,f7,dw,qW,qV,uD,exists_eq_left',bV,dM]
  clear hU
  have il:=I.l
  refine ax λU hU=>?_
  nofun
  refine⟨s.2,k,rfl,by omega,λr aP=>by rw[(I.b r aP).1];omega,?_⟩
  cases e:kN s.2 k with
  | none =>
   rw[show jm m s k=s by unfold jm;rw[e]]at hU
   refine hU _ ?_
   nofun
   exact⟨false,_,_,_,⟨rfl,rfl⟩,rfl,rfl,rfl⟩
  | some i =>
   obtain⟨hi,h1,h2⟩:=CW e
   have er:jm m s k=(ir m s.1 (eY m s.2 i k) k++[eY m s.2 i k],ir m (s.2.take i++s.2.drop (i+1)) (eY m s.2 i k) k):=by unfold jm;rw[e]
   rw[er]at hU
   refine hU _ ?_
   clear hU
   nofun
   obtain⟨C,ns,xs,sp,e1,e2,e3,e4⟩:=VE (P:=P) (w:=w) (base:=base) T hm
   refine ax λU hU=>?_
   nofun
   obtain⟨lw,lr⟩:=I.b _ (cN hi)
   have bk:=lr.getD (show 0<aa m by omega) k
   refine⟨C,ns,xs,sp,e1,e2,e3,_,_,_,_,tD _ _ m,Jg T m,GH m _ (by decide),.lst false (aj s.2[i]),tG false hi,?_⟩
   dsimp only
   refine⟨.int (s.2[i].getD k 0:Nat),by rw[kL (by omega) (by omega),iC],m,1,s.2[i].getD k 0,by rw[tD];rfl,hm,cO,bk,λz=>absurd z h1,λ_ f hf hfo=>⟨rfl,.lst false (aj s.2[i]),tG false hi,?_⟩⟩
   have ef:kO m (s.2[i].getD k 0)=f:=xR hm hf hfo
   rw[kM]
   refine e4 _ _ _ hf lr (by omega) ⟨by rw[fo,e6],hU _ ?_⟩
   have el:s.2[i].map (gm m f)=eY m s.2 i k:=by unfold eY;rw[h2,ef]
   rw[el]
   have ll:(eY m s.2 i k).length=ag G:=by rw[<-el,aW];exact lw
   have la:AllLt (aa m) (eY m s.2 i k):=λx hx=>by
    rw[<-el]at hx
    obtain⟨y,_,rfl⟩:=bw.mp hx
    exact bI hm _ _
   generalize eY m s.2 i k=ld at ll la ⊢
   clear hU
   refine ax λU hU=>?_
   nofun
   have Jh:∀r∈s.2.take i++s.2.drop (i+1),r.length=ag G/\AllLt (aa m) r:=λr aP=>by
    rcases cM.mp aP with h | h
    ·exact I.b r (qR h)
    ·exact I.b r (nG h)
   have DV:∀X:List (List Nat),(D.lst true (au true X)).fr=true:=λX=>by rw[fP,l6];rfl
   rw[Gg,show((i:Int)+1)=((i+1:Nat):Int) by omega,Cv,v9,dM]
   refine⟨by rw[fZ,iD];omega,m,_,ld,k,rfl,hm,by rw[du,fZ,iD];omega,la,λr aP=>⟨by rw[(Jh r aP).1];exact hk,by rw[(Jh r aP).1];omega,(Jh r aP).2⟩,DV _,hU _ ?_⟩
   clear hU
   nofun
   refine⟨m,s.1,ld,k,rfl,hm,by omega,la,λr aP=>⟨by rw[(I.a r aP).1];exact hk,by rw[(I.a r aP).1];omega,(I.a r aP).2⟩,DV _,by decide,_,_,rfl,rfl,?_,true,_,_,_,v9 true _ [ld],⟨rfl,rfl⟩,rfl,rfl,rfl⟩
   rw[jJ,aW]
   show s.1.length+1<=_
   omega
 ·rintro δ ⟨o,o1,o2,o3,rfl⟩
  refine hU _ ?_
  nofun
  exact q
abbrev aR7:aU:=λds Q=>∃T:List (List Nat),ds=[.lst false (au false T)]/\T.length<=1000/\Q (.lst true (au true T))
theorem VM(T:Txt K mg t):aF P w K mg base aK 1 t.Si t.Sj ["table"] (aV (aR7 )):=by
 refine bh T.II.F aR2 (λds Q h=>by obtain⟨G,rfl,hG,q⟩:=h<;>rfl) λaD A outer s H E hr=>⟨_,(aB (aO (cq [] ["row"] rfl (dX (bv 0)) (λ_ _ _ _=>(cB (i:=0) (show(["row"]:List Str).Nodup by decide +kernel))) (λ_ _ _ _=>bW) (λ_ _ _ _=>(xF (xG) (by rfl) T.ug rj (af (bv 0) ak))) rfl))),λds Q h=>?_⟩
 obtain⟨G,rfl,hG,q⟩:=h
 nofun
 refine kq G (λr=>D.lst true (aj r)) (λr aP=>?_) (.inr λr _=>fo r) q
 nofun
abbrev cb6:aU:=λds Q=>∃T:List (List Nat),ds=[.lst false (au false T)]/\T.length<=1000/\(∀r∈T,r.length<=1000/\∃x∈r,x≠0)/\Q (.lst true (aj (T.map a8)))
theorem Ji(T:Txt K mg t):aF P w K mg base aK 1 t.Sk t.Sl ["rows"] (aV (cb6 )):=by
 refine bh T.DI.F b62 (λds Q h=>by obtain⟨G,rfl,hG,hr,q⟩:=h<;>rfl) λaD A outer s H E hr=>⟨_,(aB (aO (cq [] ["row"] rfl (dX (bv 0)) (λ_ _ _ _=>(cB (i:=0) (show(["row"]:List Str).Nodup by decide +kernel))) (λ_ _ _ _=>bW) (by exact λ_ _ _ _=>(bX (bH (ae (cq [] ["place","x"] rfl (vP rfl T.wB (af (bv 0) ak)) (λ_ _ _ _=>(x6 (i1:=0) (i2:=1) (show(["place","x"]:List Str).Nodup by decide +kernel))) (λ_ _ _ _=>(Cg (bK (gZ (cF hr)) (bv 1) (ae aw) (bC _)))) (λ_ _ _ _=>(bX (bv 0))) rfl)) (ae aw) (λ_ _=>rfl)))) rfl))),λds Q h=>?_⟩
 obtain⟨G,rfl,hG,hr,q⟩:=h
 nofun
 refine kq G (λr=>D.int (a8 r:Nat)) (λr aP=>?_) (.inr λr _=>rfl) ?_
 ·obtain⟨h1,x,hx,h3⟩:=hr r aP
  nofun
  refine CV (aH r.length) (λ(i:Nat)=>D.tup [.int (i:Int),.int ((r.getD i 0:Nat):Int)]) (λ(i:Nat)=>D.int (i:Int)) (λi=>r.getD i 0 != 0) (N4 r) (λa b h=>by injection h with h;simp at h;omega) (λi hi=>?_) (.inr λ_ _ _=>rfl) (by rw[bN,sL];omega) ?_
  ·nofun
   refine⟨?_,λ_=>trivial⟩
   by_cases h0:r.getD i 0=0
   ·rw[h0];rfl
   ·rw[decide_eq_false (by omega),bne_iff_ne.mpr h0];rfl
  ·refine⟨.int (a8 r:Nat),L3.Gd (k:=0) ?_,rfl,rfl⟩
   rw[bM,N5 ⟨x,hx,h3⟩];rfl
 ·rw[cL,bx]at q
  exact q
abbrev aJ8:aU:=λds Q=>∃(T:List (List Nat)) (w:Nat),ds=[.lst false (au false T),.int w]/\T.length<=1000/\w<=1000/\(∀r∈T,r.length<=1000/\∃x∈r,x≠0)/\Q (.lst true (aj (cH T w)))
theorem VN(T:Txt K mg t):aF P w K mg base aK 2 t.Sm t.Sn ["rows","width"] (aV (aJ8 )):=by
 refine bh T.IJ.F Qn (λds Q h=>by obtain⟨G,w,rfl,hG,hw,hr,q⟩:=h<;>rfl) λaD A outer s H E hr=>⟨_,(aC (aY (i:=2) Qn.nd rfl (bu rfl) (aQ T.DI (Ji T) hr (af (bv 0) ak)))
   (aB (aO (cq [("taken",2)] ["place"] rfl (jf rfl T.fX (af (bv 1) ak)) (λ_ _ _ _=>(cB (i:=1) (show(["taken","place"]:List Str).Nodup by decide +kernel))) (λ_ _ _ _=>(Cg (bK cz2 (bv 1) (bv 0) (by with_unfolding_all rfl)))) (λ_ _ _ _=>(bX (bv 1))) rfl)))),λds Q h=>?_⟩
 obtain⟨G,w,rfl,hG,hw,hr,q⟩:=h
 refine ax λU hU=>?_
 nofun
 refine⟨G,rfl,hG,hr,?_⟩
 refine hU _ ?_
 clear hU U
 nofun
 refine⟨⟨by omega,by omega⟩,CV (aH w) (λ(i:Nat)=>D.int (i:Int)) (λ(i:Nat)=>D.int (i:Int)) (λj=>!(G.map a8).contains j) (GK _ rfl) xJ (λj hj=>?_) (.inr λ_ _ _=>rfl) (by rw[bN,sL];omega) ?_⟩
 ·nofun
  exact⟨_,rfl,by rw[b99],λ_=>trivial⟩
 ·rw[cL]at q
  exact q
abbrev VO:aU:=λds Q=>∃(d:D) (a b:Nat),ds=[d,.int a,.int b]/\Q (.int (a ^^^ b:Nat))
theorem aB9(T:Txt K mg t):aF P w K mg base aK 1 t.Ie t.So ["self","a","b"] (aV (VO )):=by
 refine bh T.U4.F aB1 (λds Q h=>by obtain⟨d,a,b,rfl,q⟩:=h<;>rfl) λaD A outer s H E hr=>⟨_,(aB (aO (aE zP (bv 1) (bv 2)))),λds Q h=>?_⟩
 obtain⟨d,a,b,rfl,q⟩:=h
 nofun
 rw[oV];exact q
abbrev VP(K:Frag):aU:=λds Q=>∃(C:Addr) (p:Nat) (a b:Int),ds=[vY C p,.int a,.int b]/\cW K C/\bq K C "prime"/\0<p/\Q (.int ((a-b)%p))
theorem aw2(T:Txt K mg t):aF P w K mg base aK 1 t.Ig t.Sq ["self","a","b"] (aV (VP K)):=by
 refine bh T.U5.F av7 (λds Q h=>by obtain⟨C,p,a,b,rfl,hC,hn,hp,q⟩:=h<;>rfl) λaD A outer s H E hr=>⟨_,(aB (aO (aE dP (ae (aE eC (bv 1) (bv 2))) (cA (K:=K) (bv 0))))),λds Q h=>?_⟩
 obtain⟨C,p,a,b,rfl,hC,hn,hp,q⟩:=h
 nofun
 refine⟨C,_,_,.int p,rfl,hC,hn,rfl,?_⟩
 exact⟨by omega,q⟩
theorem VQ(T:Txt K mg t){m:Bool × Nat}(h0:0<m.2):∃C ns xs sp,fD t.bo t.br m=.obj C ns xs/\jk P w K mg base 1 "minus" C sp/\("minus":Str) ∉ ns/\∀(a b:Nat) (Q:D->Prop),Q (.int (gl m a b))->sp [.obj C ns xs,.int a,.int b] Q:=by
 obtain⟨k,n⟩:=m
 cases k with
 | true=>exact⟨_,_,_,VO,rfl,⟨T.fM,_,_,_,T.aB6,aB9 T,T.U4.b⟩,by decide,λa b Q q=>⟨_,a,b,rfl,q⟩⟩
 | false=>exact⟨_,_,_,VP K,rfl,⟨T.gq,_,_,_,T.aw0,aw2 T,T.U5.b⟩,by decide,λa b Q q=>⟨_,n,a,b,rfl,T.gq,T.yt,h0,q⟩⟩
abbrev at2(cb cp:Addr):aU:=λds Q=>∃(m:Bool × Nat) (T:List (List Nat)) (w:Nat),ds=[fD cb cp m,.lst false (au false T),.int w]/\m∈aA/\T.length<=1000/\w<=1000/\RT (aa m) w T/\(∀r∈T,∃x∈r,x≠0)/\Q (.lst true (au true (jo m T w)))
theorem VR(T:Txt K mg t):aF P w K mg base aK 3 t.Sr t.Ss ["field","rows","width"] (aV (at2 t.bo t.br)):=by
 refine bh T.IK.F yi (λds Q h=>by obtain⟨m,G,wi,rfl,hm,hG,hw,hR,hr,q⟩:=h<;>rfl) λaD A outer s H E hr=>⟨_,(aC (aY (i:=3) yi.nd rfl (aq rfl) (aQ T.DI (Ji T) hr (af (bv 1) ak)))
   (aC (aY (i:=4) yi.nd rfl (aq rfl) (dA cQ))
   (zI 3 (aC (fE eG rfl (rL (aQ T.IJ (VN T) hr (af (bv 1) (af (bv 2) ak)))) (jC (i:=5) yi.nd rfl (aq rfl))
    (aC (aY (i:=6) yi.nd rfl (aq rfl) (aE gy (ae (dA (eJ aw cQ))) (bv 2)))
    (aC (Co (i:=6) rfl (by first | exact aq rfl | exact bu (aq rfl)) aw (bv 5))
    (aC (fE eG rfl (xI rfl T.wC (af (bv 3) (af (bv 1) ak))) (m6 (i1:=7) (i2:=8) rfl yi.nd rfl (aq rfl) rfl (aq rfl))
     (aB (Co (i:=6) rfl (by first | exact aq rfl | exact bu (aq rfl)) (gj (P:=P) (w:=w) (K:=K) (mg:=mg) (base:=base) (n:=1) (bv 0) (hr.mono (by decide)) (af (ae aw) (af (bH (bv 8) (bv 5) (λ_ _=>rfl)) ak))) (bv 7))))
    (aB (pV (i:=4) rfl (by first | exact aq rfl | exact bu (aq rfl)) (em 6)))))))
   (aB (aO (em 4))))))),λds Q h=>?_⟩
 obtain⟨m,G,wi,rfl,hm,hG,hw,hR,hr,q⟩:=h
 have m0:=bO m hm
 have cO:=(cj hm).lo
 refine ax λU hU=>?_
 nofun
 refine⟨G,rfl,hG,λr aP=>⟨by rw[(hR r aP).1];exact hw,hr r aP⟩,hU _ ?_⟩
 clear hU U
 refine ax λU hU=>?_
 nofun
 refine⟨by decide,hU _ ?_⟩
 clear hU U
 refine⟨_,rfl,?_⟩
 rw[kM]
 simp only[f7,dw]
 refine ax λU hU=>?_
 nofun
 refine⟨G,wi,rfl,hG,hw,λr aP=>⟨by rw[(hR r aP).1];exact hw,hr r aP⟩,?_⟩
 refine⟨_,rfl,?_⟩
 have hfp:∀j∈cH G wi,j<wi:=λj hj=>bT.mp (mj.mp hj).1
 have lfp:(cH G wi).length<=wi:=by
  have:=WU (λj=>!(G.map a8).contains j) (aH wi)
  rw[bN]at this
  exact this
 rw[m8]
 refine fC.mk (λi δ=>∃o1 o2 o3 o4,δ=[some (fD t.bo t.br m),some (D.lst false (au false G)),some (D.int wi),some (D.lst false (aj (G.map a8))),some (D.lst true (au true (((cH G wi).take i).map (dN m G wi)))),o1,o2,o3,o4]) ⟨_,_,_,_,rfl⟩ ?_ ?_
 ·rintro i d δ hd ⟨o1,o2,o3,o4,rfl⟩
  rw[cL,bM]at hd
  obtain⟨f,hf,rfl⟩:=wX.mp hd
  have hfw:=hfp f (ur hf)
  clear hd
  refine ax λU hU=>?_
  nofun
  have er:aS (aX wi 0)=aj (aX wi 0):=by
   rw[cL,yS];unfold aS;rw[yS];rfl
  rw[iC,er]
  refine⟨by decide,⟨by omega,by omega,by omega⟩,hU _ ?_⟩
  clear hU
  refine ax λU hU=>?_
  nofun
  refine⟨_,f,rfl,?_,?_⟩
  ·rw[CS (by omega) (by rw[eN,eQ];omega)];rfl
  rw[show(aj (aX wi 0)).set f (D.int 1)=aj ((aX wi 0).set f 1) from GL _ _ 1]
  refine hU _ ?_
  clear hU
  refine ax λU hU=>?_
  nofun
  refine⟨_,_,rfl,rfl,?_⟩
  refine fC.mk (λk δ=>∃o3 o4,δ=[some (fD t.bo t.br m),some (D.lst false (au false G)),some (D.int wi),some (D.lst false (aj (G.map a8))),some (D.lst true (au true (((cH G wi).take i).map (dN m G wi)))),some (D.int f),some (D.lst true (aj ((((G.map a8).zip G).take k).foldl (λx z=>x.set z.1 (bB m 0 (z.2.getD f 0))) ((aX wi 0).set f 1)))),o3,o4]) ⟨_,_,rfl⟩ ?_ ?_
  ·rintro k d δ hd ⟨o3,o4,rfl⟩
   obtain⟨hk,rfl⟩:=cv2 hd
   clear hd
   obtain⟨lw,la⟩:=hR _ (cN hk)
   have xl:=GS (λz:Nat × List Nat=>z.1) (λz=>bB m 0 (z.2.getD f 0)) (((G.map a8).zip G).take k) ((aX wi 0).set f 1)
   rw[qK,eQ]at xl
   obtain⟨C,ns,xs,sp,e1,e2,e3,e4⟩:=VQ (P:=P) (w:=w) (base:=base) T m0
   have hld:a8 G[k]<wi:=by
    rw[<-lw]
    obtain⟨x,hx,h0⟩:=hr _ (cN hk)
    exact J5 ⟨x,hx,by simpa using h0⟩
   have ga:=jl hm (a:=0) (b:=G[k].getD f 0) (by omega) (la.getD (by omega) f)
   nofun
   refine⟨C,ns,xs,sp,e1,e2,e3,.int (G[k].getD f 0:Nat),by rw[kL (by omega) (by omega),iC],e4 0 (G[k].getD f 0) _ ⟨rfl,_,a8 G[k],rfl,?_,_,_,?_,rfl,rfl⟩⟩
   ·rw[CS (by omega) (by rw[eN,xl];omega)];rfl
   ·rw[ga.1,GL,ku,yN]
    have ez:((G.map a8).zip G)[k]?=some (a8 G[k],G[k]):=by
     rw[Eo,oE,bM,aM hk];rfl
    rw[ez];rfl
  ·rintro δ ⟨o3,o4,rfl⟩
   refine hU _ ?_
   nofun
   refine⟨⟨_,rfl⟩,by rw[aW,fZ];omega,_,_,_,_,?_,rfl,rfl,rfl,rfl⟩
   rw[show((G.map a8).zip G).take (dQ (aj (G.map a8)) (au false G)).length=(G.map a8).zip G from wW (by unfold dQ;rw[yM,kA,eN,jJ];exact cg _),ku,hf,eR]
   exact v9 true _ [dN m G wi f]
 ·rintro δ ⟨o1,o2,o3,o4,rfl⟩
  refine hU _ ?_
  nofun
  rw[mq]
  exact q
abbrev aO1(t:cR)(K:Frag):kS:=λC ds ns xs bE bz=>∃(m:Bool × Nat) (G:List (List Nat)),ds=[fD t.bo t.br m,.lst false (au false G)]/\de5 K C/\AF ns xs/\m∈aA/\RT (aa m) (ag G) G/\G.length<=64/\ag G<=64/\bE=ns++wm/\bz=xs++l9 t.bo t.br false m G
theorem Jj(T:Txt K mg t):aF P w K mg base aK 4 t.Ih t.Su ["self","field","checks"] (jS [] (aO1 t K)):=by
 refine Dr T.DO.F Qs (λC ds ns xs bE bz h=>by obtain⟨m,G,rfl,hC,hp,hm,hG,hGl,hGw,rfl,rfl⟩:=h<;>rfl) λaD A outer s H E hr a=>⟨_,(fK (HF (i:=2) (EI (i:=3) Qs.nd rfl (aq rfl) (aQ T.AW (DU T) hr (af (bv 1) (af (bv 2) ak)))))
   (fK (iV (K:=K) rfl (by first | exact aq rfl | exact bu (aq rfl)) (bX (bv 1)))
   (fK (iV (K:=K) rfl (by first | exact aq rfl | exact bu (aq rfl)) (aQ T.uh (wH T) hr (af (bv 2) ak)))
   (fK (iV (K:=K) rfl (by first | exact aq rfl | exact bu (aq rfl)) (aQ T.II (VM T) hr (af (bv 2) ak)))
   (fK (iV (K:=K) rfl (by first | exact aq rfl | exact bu (aq rfl)) (aQ T.IK (VR T) hr (af (bv 1) (af (bv 3) (af (cA (K:=K) (bv 0)) ak)))))
   (fK (iV (K:=K) rfl (by first | exact aq rfl | exact bu (aq rfl)) (aQ T.IJ (VN T) hr (af (bv 3) (af (cA (K:=K) (bv 0)) ak))))
   (wu (iV (K:=K) rfl (by first | exact aq rfl | exact bu (aq rfl)) (di (fG) (by rfl) T.fL fB (af (cA (K:=K) (bv 0)) ak)))))))))),λC ds ns xs bE bz h=>?_⟩
 obtain⟨m,G,rfl,hC,hp,hm,hG,hGl,hGw,rfl,rfl⟩:=h
 obtain⟨_,iR,iL,_⟩:=gL hm hG
 have hn:=cD4 hm hG
 rw[<-gu ns,<- gu xs]
 refine ax λU hU=>?_
 nofun
 refine⟨m,G,rfl,hm,by omega,hG,by omega,hU _ ?_⟩
 clear hU U
 refine ax λU hU=>?_
 nofun
 refine⟨C,_,_,["many"],rfl,hC.cls,hC.field,hp.len _ (by decide),hp.nb _ (by decide) _ _ _ _ ?_,hU _ ?_⟩
 ·simp only[gO,fW,fJ,js,nA,dw,bA,eU,mf,kU,kT];rfl
 clear hU U
 simp only[js,nA,fJ,da,iF,ju]
 refine ax λU hU=>?_
 nofun
 refine⟨G,rfl,by omega,λr aP=>by rw[(hG r aP).1];omega,?_⟩
 refine⟨C,_,_,["many"],rfl,hC.cls,hC.length,hp.len _ (by decide),hp.nb _ (by decide) _ _ _ _ ?_,hU _ ?_⟩
 ·simp only[gO,fW,fJ,js,nA,dw,bA,eU,mf,kU,kT];rfl
 clear hU U
 simp only[js,nA,fJ,da,iF,ju]
 refine ax λU hU=>?_
 nofun
 refine⟨G,rfl,by omega,?_⟩
 refine⟨C,_,_,["many"],rfl,hC.cls,hC.de6,hp.len _ (by decide),hp.nb _ (by decide) _ _ _ _ ?_,hU _ ?_⟩
 ·simp only[gO,fW,fJ,js,nA,dw,bA,eU,mf,kU,kT];rfl
 clear hU U
 simp only[js,nA,fJ,da,iF,ju]
 refine ax λU hU=>?_
 nofun
 refine⟨C,_,_,.int (ag G:Nat),rfl,hC.cls,hC.length,(hp.look _ (by decide) _ _).trans rfl,m,bf m G,ag G,rfl,hm,by omega,by omega,iR,hn,by rw[fP,l6];rfl,?_⟩
 refine⟨C,_,_,["many"],rfl,hC.cls,hC.de7,hp.len _ (by decide),hp.nb _ (by decide) _ _ _ _ ?_,hU _ ?_⟩
 ·simp only[gO,fW,fJ,js,nA,dw,bA,eU,mf,kU,kT];rfl
 clear hU U
 simp only[js,nA,fJ,da,iF,ju]
 refine ax λU hU=>?_
 nofun
 refine⟨C,_,_,.int (ag G:Nat),rfl,hC.cls,hC.length,(hp.look _ (by decide) _ _).trans rfl,bf m G,ag G,rfl,by omega,by omega,λr aP=>⟨by rw[(iR r aP).1];omega,hn r aP⟩,fo _,?_⟩
 refine⟨C,_,_,["many"],rfl,hC.cls,hC.O3,hp.len _ (by decide),hp.nb _ (by decide) _ _ _ _ ?_,hU _ ?_⟩
 ·simp only[gO,fW,fJ,js,nA,dw,bA,eU,mf,kU,kT];rfl
 clear hU U
 simp only[js,nA,fJ,da,iF,ju]
 nofun
 refine⟨C,_,_,.lst false (aj (cZ m G)),rfl,hC.cls,hC.O3,(hp.look _ (by decide) _ _).trans rfl,?_⟩
 nofun
 refine⟨C,_,_,["many"],rfl,hC.cls,hC.size,hp.len _ (by decide),hp.nb _ (by decide) _ _ _ _ ?_,by rw[da,da];rfl⟩
 ·simp only[gO,fW,fJ,js,nA,dw,bA,eU,mf,kU,kT];rfl
abbrev Jk(K:Frag):aU:=λds Q=>∃(C:Addr) (ns:List Str) (xs:List D) (n:Nat) (x:D),ds=[.obj C ns xs,x]/\cW K C/\bq K C "many"/\(ns.zip xs).lookup ("many":Str)=some (.int n)/\((∃i,x=.int i/\Q (.bl (decide (0<=i)&&decide (i<n))))\/(x=.az/\Q (.bl false)))
theorem VS(T:Txt K mg t):aF P w K mg base aK 1 t.DC t.Sv ["self","x"] (aV (Jk K)):=by
 refine bh T.Jc.F aJ1 (λds Q h=>by obtain⟨C,ns,xs,n,x,rfl,h1,h2,h3,q⟩:=h<;>rfl) λaD A outer s H E hr=>⟨_,(aB (aO (pd (ae (xH (by rfl) T.yp (by rfl) T.Uq L4 (bv 1))) (pd (ae (FE (ae (xH (by rfl) T.yp (by rfl) T.IC Fl (bv 1))))) (uK (ve lL pK (ae aw) (bv 1) (cA (K:=K) (bv 0)))))))),λds Q h=>?_⟩
 obtain⟨C,ns,xs,n,x,rfl,h1,h2,h3,q⟩:=h
 rcases q with⟨i,rfl,q⟩ | ⟨rfl,q⟩
 ·nofun
  split
  ·rename_i h0
   refine⟨C,ns,xs,_,rfl,h1,h2,h3,?_⟩
   dsimp only
   rw[decide_eq_true h0,kZ]at q
   exact q
  ·rename_i h0
   rw[decide_eq_false h0,qG]at q
   exact q
 ·nofun
  exact q
theorem DW(T:Txt K mg t)(m:Bool × Nat){x:D}{Q:D->Prop}(h:(∃i,x=.int i/\Q (.bl (decide (0<=i)&&decide (i<aa m))))\/(x=.az/\Q (.bl false))):NR P w K mg base 1 t.bo t.br m "holds" [x] Q:=by
 obtain⟨k,n⟩:=m
 cases k with
 | true=>exact⟨_,_,_,Jk K,rfl,⟨T.fM,_,_,_,T.aB5,VS T,T.Jc.b⟩,by decide,_,_,_,aa (true,n),x,rfl,T.fM,T.A8,rfl,h⟩
 | false=>exact⟨_,_,_,Jk K,rfl,⟨T.gq,_,_,_,T.av9,VS T,T.Jc.b⟩,by decide,_,_,_,aa (false,n),x,rfl,T.gq,T.Ba,rfl,h⟩
abbrev aC0(t:cR):aU:=λds Q=>∃(m:Bool × Nat) (G:List (List Nat)),ds=[fD t.bo t.br m,.lst false (au false G)]/\m∈aA/\RT (aa m) (ag G) G/\1<=G.length/\G.length<=12/\2<=ag G/\ag G<=12/\Q (.bl true)
theorem aC1(T:Txt K mg t):aF P w K mg base aK 2 t.Sw t.Sx ["field","table"] (aV (aC0 t)):=by
 refine bh T.UB.F Qv (λds Q h=>by obtain⟨m,G,rfl,hm,hR,g1,yv,w2,jt,q⟩:=h<;>rfl) λaD A outer s H E hr=>⟨_,(aC (b8 (PW.pt (mN (bK pK (ae (di (fG) (by rfl) T.fL fB (af (bv 1) ak))) (ae aw) (bC _)) (nL (bK u9 (ae (di (fG) (by rfl) T.fL fB (af (bv 1) ak))) (ae aw) (bC _))))) (aB (aO gg)) bZ)
   (aC (aY (i:=2) Qv.nd rfl (bu rfl) (di (fG) (by rfl) T.fL fB (af (bH (bv 1) (ae aw) (λ_ _=>rfl)) ak)))
   (aC (b8 (PW.pt (mN (bK pK (bv 2) (ae aw) (bC _)) (mN (bK u9 (bv 2) (ae aw) (bC _)) (nL (fQ (ae (di (cG7 rfl) (by rfl) T.Up L1 (af (ae (cq [("width",2)] ["row"] rfl (dX (bv 1)) (λ_ _ _ _=>(cB (i:=1) (show(["width","row"]:List Str).Nodup by decide +kernel))) (λ_ _ _ _=>bW) (λ_ _ _ _=>(u4 (gZ (cF hr)) (ae (di (fG) (by rfl) T.fL fB (af (bv 1) ak))) (bv 0) (bC _))) rfl)) ak)))))))) (aB (aO gg)) bZ)
   (aB (aO (di (sE rfl) (by rfl) T.uf rh (af (ae (cq [("field",0)] ["row"] rfl (dX (bv 1)) (λ_ _ _ _=>(cB (i:=1) (show(["field","row"]:List Str).Nodup by decide +kernel))) (λ_ _ _ _=>bW) (by exact λ_ _ _ _=>(di (sE rfl) (by rfl) T.uf rh (af (ae (cq [("field",0)] ["x"] rfl (dX (bv 1)) (λ_ _ _ _=>(cB (i:=1) (show(["field","x"]:List Str).Nodup by decide +kernel))) (λ_ _ _ _=>bW) (λ_ _ _ _=>(gj (P:=P) (w:=w) (K:=K) (mg:=mg) (base:=base) (n:=1) (bv 0) (hr.mono (by decide)) (af (bv 1) ak))) rfl)) ak))) rfl)) ak))))))),λds Q h=>?_⟩
 obtain⟨m,G,rfl,hm,hR,g1,yv,w2,jt,q⟩:=h
 obtain⟨g,G',rfl⟩:∃g G',G=g::G':=by
  cases G with
  | nil=>exact absurd g1 (by decide)
  | cons g G'=>exact⟨g,G',rfl⟩
 refine ax λU hU=>?_
 nofun
 rw[if_neg (by omega),if_neg (by rw[ft]at yv;omega)]
 refine hU _ ?_
 clear hU U
 refine ax λU hU=>?_
 nofun
 refine⟨.lst false (aj g),tG false (T:=g::G') (i:=0) (Kn _),?_⟩
 show U [some (fD t.bo t.br m),some (.lst false (au false (g::G'))),some (.int ((aj g).length:Nat))]
 have gl:(aj g).length=ag (g::G'):=by rw[eN];rfl
 rw[gl]
 generalize g::G'=G at hR g1 yv w2 jt gl hU ⊢
 refine hU _ ?_
 clear hU U
 refine ax λU hU=>?_
 nofun
 rw[if_neg (by omega),if_neg (by omega)]
 refine kq G (λ_=>D.bl false) (λr aP=>?_) (.inr λr _=>rfl) ?_
 ·have:=(hR r aP).1
  nofun
  rw[decide_eq_true (by omega)];rfl
 refine⟨G.map λ_=>false,by unfold lQ;rw[bx];rfl,?_⟩
 rw[if_neg (by simp)]
 refine hU _ ?_
 clear hU U
 nofun
 refine kq G (λ_=>D.bl true) (λr aP=>?_) (.inr λr _=>rfl) ?_
 ·obtain⟨r1,r2⟩:=hR r aP
  nofun
  refine oq r (λ_=>D.bl true) (λi hi=>?_) (.inr λ_ _=>rfl) ?_
  ·have:=r2 i hi
   nofun
   refine DW T m (.inl ⟨_,rfl,?_⟩)
   rw[decide_eq_true (by omega),decide_eq_true (by omega)];rfl
  ·refine⟨r.map λ_=>true,by unfold lQ;rw[bx];rfl,?_⟩
   simp
 ·refine⟨G.map λ_=>true,by unfold lQ;rw[bx];rfl,?_⟩
  rw[show(G.map λ_=>true).all id=true by simp]
  exact q
abbrev cs2(t:cR):aU:=λds Q=>∃(m:Bool × Nat) (G:List (List Nat)),ds=[fD t.bo t.br m,.lst false (au false G)]/\m∈aA/\G.length<=900/\RT (aa m) (ag G) G/\ag G<=900/\Q (.int (bf m G).length)
theorem cp8(T:Txt K mg t):aF P w K mg base aK 4 t.Sy t.Sz ["field","table"] (aV (cs2 t)):=by
 refine bh T.UC.F cr1 (λds Q h=>by obtain⟨m,G,rfl,hm,hG,hR,hw,q⟩:=h<;>rfl) λaD A outer s H E hr=>⟨_,(aB (aO (di (fG) (by rfl) T.fL fB (af (ae (aQ T.AW (DU T) hr (af (bv 0) (af (bv 1) ak)))) ak)))),λds Q h=>?_⟩
 obtain⟨m,G,rfl,hm,hG,hR,hw,q⟩:=h
 nofun
 refine⟨m,G,rfl,hm,hG,hR,hw,?_⟩
 dsimp only
 rw[jJ];exact q
abbrev aR8:aU:=λds Q=>∃T:List (List Nat),ds=[.lst false (au false T)]/\T.length<=1000/\(∀r∈T,r.length=ag T)/\ag T<=1000/\Q (.lst true (au true (dR T)))
theorem Jl(T:Txt K mg t):aF P w K mg base aK 2 t.SA t.SD ["table"] (aV (aR8 )):=by
 refine bh T.DJ.F aR3 (λds Q h=>by obtain⟨G,rfl,hG,hr,hw,q⟩:=h<;>rfl) λaD A outer s H E hr=>⟨_,(aB (aO (cq [("table",0)] ["j"] rfl (jf rfl T.fX (af (ae (aQ T.uh (wH T) hr (af (bv 0) ak))) ak)) (λ_ _ _ _=>(cB (i:=1) (show(["table","j"]:List Str).Nodup by decide +kernel))) (λ_ _ _ _=>bW) (by exact λ_ _ _ _=>(cq [("j",1)] ["row"] rfl (dX (bv 0)) (λ_ _ _ _=>(cB (i:=1) (show(["j","row"]:List Str).Nodup by decide +kernel))) (λ_ _ _ _=>bW) (λ_ _ _ _=>(bX (bH (bv 1) (bv 0) (λ_ _=>rfl)))) rfl)) rfl))),λds Q h=>?_⟩
 obtain⟨G,rfl,hG,hr,hw,q⟩:=h
 nofun
 refine⟨G,rfl,hG,λr aP=>by rw[hr r aP];exact hw,?_⟩
 dsimp only
 refine⟨_,rfl,⟨by omega,by omega⟩,?_⟩
 refine qv (ag G) (λj=>D.lst true (aj (G.map λr=>r.getD j 0))) (λj hj=>?_) (.inr λj _=>fo _) ?_
 ·have hj:=bT.mp hj
  nofun
  refine kq G (λr=>D.int ((r.getD j 0:Nat):Int)) (λr aP=>?_) (.inr λr _=>rfl) ?_
  ·nofun
   have hl:=hr r aP
   exact⟨.int (r.getD j 0:Nat),by rw[kL (by omega) (by omega),iC],rfl,rfl⟩
  ·rw[cL,bx];rfl
 ·unfold dR au at q
  rw[bx]at q
  exact q
abbrev aO2:aU:=λds Q=>∃c:List Nat,ds=[.lst false (aj c)]/\c.length<=1000/\Q (.bl (nul c))
theorem VT(T:Txt K mg t):aF P w K mg base aK 1 t.SE t.SF ["column"] (aV (aO2 )):=by
 refine bh T.IL.F aN0 (λds Q h=>by obtain⟨c,rfl,hc,q⟩:=h<;>rfl) λaD A outer s H E hr=>⟨_,(aB (aO (di (sE rfl) (by rfl) T.uf rh (af (ae (cq [] ["x"] rfl (dX (bv 0)) (λ_ _ _ _=>(cB (i:=0) (show(["x"]:List Str).Nodup by decide +kernel))) (λ_ _ _ _=>bW) (λ_ _ _ _=>(u4 (fF (cF hr)) (bv 0) (ae aw) (bC _))) rfl)) ak)))),λds Q h=>?_⟩
 obtain⟨c,rfl,hc,q⟩:=h
 nofun
 refine oq c (λ(x:Nat)=>D.bl (x==0)) (λx hx=>?_) (.inr λ_ _=>rfl) ?_
 ·nofun
  congr 1
  exact propext (by omega)
 dsimp only
 refine⟨c.map (·==0),by unfold lQ;rw[bx];rfl,?_⟩
 rw[nF]
 exact q
abbrev VU(K:Frag):aU:=λds Q=>∃(C:Addr) (p a b:Nat),ds=[vZ C p,.int a,.int b]/\cW K C/\bq K C "products"/\p∈ip/\a<aa (true,p)/\b<aa (true,p)/\Q (.int (gm (true,p) a b:Nat))
theorem aC2(T:Txt K mg t):aF P w K mg base aK 1 t.Ii t.SG ["self","a","b"] (aV (VU K)):=by
 refine bh T.U6.F aB2 (λds Q h=>by obtain⟨C,p,a,b,rfl,hC,hn,hp,ha,hb,q⟩:=h<;>rfl) λaD A outer s H E hr=>⟨_,(aB (aO (bX (bH (bH (cA (K:=K) (bv 0)) (bv 1) (λ_ _=>rfl)) (bv 2) (λ_ _=>rfl))))),λds Q h=>?_⟩
 obtain⟨C,p,a,b,rfl,hC,hn,hp,ha,hb,q⟩:=h
 nofun
 refine⟨C,_,_,_,rfl,hC,hn,rfl,?_⟩
 exact⟨_,CN hp ha,_,CM hp ha hb,rfl,q⟩
abbrev VV(K:Frag):aU:=λds Q=>∃(C:Addr) (p:Nat) (a b:Int),ds=[vY C p,.int a,.int b]/\cW K C/\bq K C "prime"/\0<p/\IntMulOk a b/\Q (.int (a*b%p))
theorem aw3(T:Txt K mg t):aF P w K mg base aK 1 t.Ij t.SH ["self","a","b"] (aV (VV K)):=by
 refine bh T.U7.F av8 (λds Q h=>by obtain⟨C,p,a,b,rfl,hC,hn,hp,hm,q⟩:=h<;>rfl) λaD A outer s H E hr=>⟨_,(aB (aO (aE dP (ae (aE gy (bv 1) (bv 2))) (cA (K:=K) (bv 0))))),λds Q h=>?_⟩
 obtain⟨C,p,a,b,rfl,hC,hn,hp,hm,q⟩:=h
 nofun
 exact⟨hm,C,_,_,.int p,rfl,hC,hn,rfl,by omega,q⟩
theorem cm7(T:Txt K mg t){m:Bool × Nat}(hm:m∈aA):∃C ns xs sp,fD t.bo t.br m=.obj C ns xs/\jk P w K mg base 1 "times" C sp/\("times":Str) ∉ ns/\∀(a b:Nat) (Q:D->Prop),a<aa m->b<aa m->Q (.int (gm m a b:Nat))->sp [.obj C ns xs,.int a,.int b] Q:=by
 have hF:=cj hm
 obtain⟨k,n⟩:=m
 cases k with
 | true=>exact⟨_,_,_,VU K,rfl,⟨T.fM,_,_,_,T.aB7,aC2 T,T.U6.b⟩,by decide,λa b Q ha hb q=>⟨_,n,a,b,rfl,T.fM,T.A9,xO hm,ha,hb,q⟩⟩
 | false =>
  have uj:n<=64:=hF.hi
  refine⟨_,_,_,VV K,rfl,⟨T.gq,_,_,_,T.aw1,aw3 T,T.U7.b⟩,by decide,λa b Q ha hb q=>?_⟩
  have ha':a<n:=ha
  have z4:b<n:=hb
  refine⟨_,n,a,b,rfl,T.gq,T.yt,by omega,iJ.ok (.inr ⟨by omega,by omega⟩),?_⟩
  have e:((gm (false,n) a b:Nat):Int)=(a:Int)*b%n:=by
   show((a*b%n:Nat):Int)=_
   rw[qS,qT]
  rw[<-e];exact q
abbrev co6(t:cR):aU:=λds Q=>∃(m:Bool × Nat) (c:List Nat) (os:List (List Nat)),ds=[fD t.bo t.br m,.lst false (aj c),.lst false (au false os)]/\m∈aA/\nul c=false/\c.length<=64/\AllLt (aa m) c/\RT (aa m) c.length os/\os.length<=1000/\Q (.lst true (au true (g8 m c os)))
theorem cs0(T:Txt K mg t):aF P w K mg base aK 3 t.SI t.SJ ["field","column","others"] (aV (co6 t)):=by
 refine bh T.UD.F yj (λds Q h=>by obtain⟨m,c,os,rfl,hm,hn,hc,Jm,nk,hol,q⟩:=h<;>rfl) λaD A outer s H E hr=>⟨_,(aC (aY (i:=3) yj.nd rfl (aq rfl) (bX (bH (ae (cq [] ["k","x"] rfl (vP rfl T.wB (af (bv 1) ak)) (λ_ _ _ _=>(x6 (i1:=0) (i2:=1) (show(["k","x"]:List Str).Nodup by decide +kernel))) (λ_ _ _ _=>(Cg (bK (gZ (cF hr)) (bv 1) (ae aw) (bC _)))) (λ_ _ _ _=>(bX (bv 0))) rfl)) (ae aw) (λ_ _=>rfl))))
   (aC (aY (i:=4) yj.nd rfl (aq rfl) (gj (P:=P) (w:=w) (K:=K) (mg:=mg) (base:=base) (n:=2) (bv 0) (hr.mono (by decide)) (af (ae aw) (af (bH (bv 1) (bv 3) (λ_ _=>rfl)) ak))))
   (aC (aY (i:=5) yj.nd rfl (aq rfl) (dA cQ))
   (aC (fE eG rfl (rL (bX (bv 2))) (jC (i:=6) yj.nd rfl (aq rfl))
    (aC (aY (i:=7) yj.nd rfl (aq rfl) (gj (P:=P) (w:=w) (K:=K) (mg:=mg) (base:=base) (n:=1) (bv 0) (hr.mono (by decide)) (af (bv 6) (af (ae (gj (P:=P) (w:=w) (K:=K) (mg:=mg) (base:=base) (n:=1) (bv 0) (hr.mono (by decide)) (af (bH (bv 6) (bv 3) (λ_ _=>rfl)) (af (bv 4) ak)))) (af (bv 1) ak)))))
    (aB (pV (i:=5) rfl (by first | exact aq rfl | exact bu (aq rfl)) (aE dH (ae (vQ (bv 7) vf (pU (bv 3)))) (ae (vQ (bv 7) (pU (ae (aE dH (bv 3) (ae aw)))) vf)))))))
   (aB (aO (em 5))))))),λds Q h=>?_⟩
 obtain⟨m,c,os,rfl,hm,hn,hc,Jm,nk,hol,q⟩:=h
 have cO:=(cj hm).lo
 obtain⟨pl,pn⟩:=Hk hn
 have cp:=Jm.getD (show 0<aa m by omega) (a8 c)
 have cx:∃x∈c,x≠0:=⟨_,bQ pl 0,pn⟩
 refine ax λU hU=>?_
 nofun
 refine CV (aH c.length) (λ(i:Nat)=>D.tup [.int (i:Int),.int ((c.getD i 0:Nat):Int)]) (λ(i:Nat)=>D.int (i:Int)) (λi=>c.getD i 0 != 0) (N4 c) (λa b h=>by injection h with h;simp at h;omega) (λi hi=>?_) (.inr λ_ _ _=>rfl) (by rw[bN,sL];omega) ?_
 ·nofun
  refine⟨?_,λ_=>trivial⟩
  by_cases h0:c.getD i 0=0
  ·rw[h0];rfl
  ·rw[decide_eq_false (by omega),bne_iff_ne.mpr h0];rfl
 dsimp only
 refine⟨.int (a8 c:Nat),L3.Gd (k:=0) (by rw[bM,N5 cx];rfl),rfl,hU _ ?_⟩
 clear hU U
 refine ax λU hU=>?_
 nofun
 refine⟨_,_,_,_,tD _ _ m,Jg T m,GH m _ (by decide),.int (c.getD (a8 c) 0:Nat),by rw[kL (by omega) (by omega),iC],m,1,c.getD (a8 c) 0,by rw[tD];rfl,hm,cO,cp,λz=>absurd z pn,λ_ iv Bf Aw=>?_⟩
 have ei:kO m (c.getD (a8 c) 0)=iv:=xR hm Bf Aw
 refine⟨rfl,hU _ ?_⟩
 clear hU U
 refine ax λU hU=>?_
 nofun
 refine⟨by decide,hU _ ?_⟩
 clear hU U
 refine ax λU hU=>?_
 nofun
 refine fC.mk (λi δ=>∃o6 o7,δ=[some (fD t.bo t.br m),some (D.lst false (aj c)),some (D.lst false (au false os)),some (D.int (a8 c)),some (D.int iv),some (D.lst true (au true (g8 m c (os.take i)))),o6,o7]) ⟨_,_,rfl⟩ ?_ ?_
 ·rintro i d δ hd ⟨o6,o7,rfl⟩
  obtain⟨hi,rfl⟩:=cb7 hd
  clear hd hU
  obtain⟨ol,oa⟩:=nk _ (cN hi)
  have op:=oa.getD (show 0<aa m by omega) (a8 c)
  obtain⟨C,ns,xs,sp,e1,e2,e3,e4⟩:=VH (P:=P) (w:=w) (base:=base) T hm
  refine ax λU hU=>?_
  nofun
  obtain⟨C1,n1,x1,sp1,g1,g2,g3,g4⟩:=cm7 (P:=P) (w:=w) (base:=base) T hm
  refine⟨C,ns,xs,sp,e1,e2,e3,C1,n1,x1,sp1,g1,g2,g3,.int (os[i].getD (a8 c) 0:Nat),by rw[kL (by omega) (by omega),iC],g4 _ iv _ op Bf ⟨rfl,e4 os[i] c (gm m (os[i].getD (a8 c) 0) iv) _ (bI hm _ _) Jm (by omega) ⟨rfl,hU _ ?_⟩⟩⟩
  clear hU
  have ep:g8 m c (os.take (i+1))=g8 m c (os.take i)++[(dv (λx y=>bB m x (gm m (gm m (os[i].getD (a8 c) 0) iv) y)) os[i] c).take (a8 c)++(dv (λx y=>bB m x (gm m (gm m (os[i].getD (a8 c) 0) iv) y)) os[i] c).drop (a8 c+1)]:=by
   unfold g8
   rw[ku,aM hi,JU,eR,cI,gR,ei]
  rw[ep]
  have ll:(dv (λx y=>bB m x (gm m (gm m (os[i].getD (a8 c) 0) iv) y)) os[i] c).length<=64:=by rw[kA];omega
  generalize dv (λx y=>bB m x (gm m (gm m (os[i].getD (a8 c) 0) iv) y)) os[i] c=lf at ll ⊢
  have OV:(g8 m c (os.take i)).length<=1000:=by rw[Hm,fZ];omega
  nofun
  rw[Gg,show((a8 c:Int)+1)=((a8 c+1:Nat):Int) by omega,Cv]
  exact⟨⟨_,rfl⟩,by rw[fZ,iD];omega,by omega,_,_,v9 true _ [lf.take (a8 c)++lf.drop (a8 c+1)],rfl,rfl⟩
 ·rintro δ ⟨o6,o7,rfl⟩
  refine hU _ ?_
  nofun
  rw[mq]
  exact q
def gr(o:Bool)(l:List Cs):List D:=l.map λs=>.tup [.lst o (aj s.1),.lst o (au o s.2)]
theorem VW(o:Bool)(l:List Cs):(gr o l).map D.sh=gr false l:=by
 unfold gr
 rw[bx]
 refine mv λs _=>?_
 show(D.tup [.lst o (aj s.1),.lst o (au o s.2)]).sh=_
 rw[i9,cI,cI,gR,kM,bV,dM]
theorem cs9(l:List Cs):(gr false l).all D.pl=true:=by
 rw[cJ]
 intro d hd
 obtain⟨s,_,rfl⟩:=bw.mp hd
 show(D.tup [.lst false (aj s.1),.lst false (au false s.2)]).pl=true
 rw[j9,bA,bA,eI,eI,jj,og];rfl
theorem cb4(o:Bool)(a b:List Cs):gr o a++gr o b=gr o (a++b):=by unfold gr;rw[eR]
theorem cq2{o:Bool}{l:List Cs}{i:Nat}{d:D}(hd:(gr o l)[i]?=some d):∃hi:i<l.length,d=.tup [.lst o (aj l[i].1),.lst o (au o l[i].2)]:=by
 unfold gr at hd
 rw[bM]at hd
 by_cases hi:i<l.length
 ·rw[aM hi]at hd
  exact⟨hi,(cT hd).symm⟩
 ·rw[eE (by omega)]at hd;cases hd
theorem cd0(o:Bool)(l:List Cs):dY 6 (.lst o (gr o l))=true:=by
 show(gr o l).all (dY 5)=true
 rw[cJ]
 intro d hd
 obtain⟨s,_,rfl⟩:=bw.mp hd
 show([D.lst o (aj s.1),.lst o (au o s.2)]).all (dY 4)=true
 rw[bA,bA,CQ 3 o s.1,xQ 2 o o s.2];rfl
theorem b29{m:Bool × Nat}{c:List Nat}{os:List (List Nat)}{N:Nat}(h:∀o∈os,o.length<=N):∀x∈g8 m c os,x.length<=N:=λx hx=>by
 obtain⟨o,ho,rfl⟩:=bw.mp hx
 have:=h o ho
 rw[du,fZ,iD,kA]
 omega
def kY(l:List Cs):Nat:=(l.map λs=>2 ^ s.2.length).sum
theorem Jn(a b:List Cs):kY (a++b)=kY a+kY b:=by unfold kY;rw[eR,List.sum_append]
theorem VX:∀l:List Cs,(dS l).length<=kY l
 | []=>h8 _
 | s::l=>by
  have ih:=VX l
  have h1:=Nat.lt_two_pow_self (n:=s.2.length)
  show(fU s++dS l).length<=2 ^ s.2.length+kY l
  rw[du,show(fU s).length=s.2.length by unfold fU;rw[aW,bN]]
  omega
theorem VY(m:Bool × Nat)(w:Nat)(s:Cs):∀i,i<=s.2.length->kY (((aH i).map λi=>(s,i)).map (g9 m w))+2 ^ (s.2.length-i)=2 ^ s.2.length
 | 0,_=>Ep _
 | i+1,h=>by
  have ih:=VY m w s i (by omega)
  rw[J7,eR,eR,Jn]
  have e:kY (([i].map λi=>(s,i)).map (g9 m w))=2 ^ (s.2.length-(i+1)):=by
   show 2 ^ (g8 m _ (s.2.drop (i+1))).length+0=_
   rw[Hm,iD];rfl
  rw[e]
  have:2 ^ (s.2.length-i)=2 ^ (s.2.length-(i+1))*2:=by rw[<-oy];congr 1;omega
  omega
theorem VZ(m:Bool × Nat)(w:Nat):∀l:List Cs,kY ((dS l).map (g9 m w))<=kY l
 | []=>cg _
 | s::l=>by
  have ih:=VZ m w l
  have h1:=VY m w s s.2.length (cg _)
  show kY ((fU s++dS l).map (g9 m w))<=2 ^ s.2.length+kY l
  rw[eR,Jn]
  exact Nat.add_le_add (by rw[<-h1];exact Nat.le_add_right ..) ih
def DX:Option (List Nat)->D
 | some l=>.lst true (aj l)
 | none=>.az
abbrev aJ9(t:cR):aU:=λds Q=>∃(m:Bool × Nat) (G:List (List Nat)),ds=[fD t.bo t.br m,.lst false (au false G)]/\m∈aA/\G.length<=64/\RT (aa m) (ag G) G/\0<ag G/\ag G<=12/\Q (DX (gB m G))
theorem V0(T:Txt K mg t):aF P w K mg base aK 4 t.SK t.SM ["field","table"] (aV (aJ9 t)):=by
 refine bh T.IM.F ua (λds Q h=>by obtain⟨m,G,rfl,hm,hG,hR,mh,hw,q⟩:=h<;>rfl) λaD A outer s H E hr=>⟨_,(aC (aY (i:=2) ua.nd rfl (aq rfl) (aQ T.uh (wH T) hr (af (bv 1) ak)))
   (aC (aY (i:=3) ua.nd rfl (aq rfl) (dA (eJ (xC (eJ (dA cQ) (eJ (aQ T.DJ (Jl T) hr (af (bv 1) ak)) cQ))) cQ)))
   (aC (zL eG (bK (gZ (cF hr)) (bv 3) (ae (dA cQ)) (bC _))
    (aC (aY (i:=4) ua.nd rfl (aq rfl) (dA cQ))
    (zI 3 (aC (fE eG rfl (rL (bX (bv 3))) (m6 (i1:=5) (i2:=6) rfl ua.nd rfl (aq rfl) rfl (aq rfl))
     (aB (fE eG rfl (vP rfl T.wB (af (bv 6) ak)) (m6 (i1:=7) (i2:=8) rfl ua.nd rfl (aq rfl) rfl (aq rfl))
      (aC (aY (i:=9) ua.nd rfl (aq rfl) (aE dH (bv 5) (ae (dA (eJ (aE dH (ae (aE eC (bv 2) (ae (di (fG) (by rfl) T.fL fB (af (bv 6) ak))))) (bv 7)) cQ)))))
      (aC (b8 (fQ (ae (aQ T.IL (VT T) hr (af (bv 8) ak)))) (aB (aO (em 9))) bZ)
      (aB (pV (i:=4) rfl (by first | exact aq rfl | exact bu (aq rfl)) (xC (eJ (em 9) (eJ (aQ T.UD (cs0 T) hr (af (bv 0) (af (bv 8) (af (ae (vQ (bv 6) (pU (ae (aE dH (bv 7) (ae aw)))) vf)) ak)))) cQ))))))))))
    (aB (aY (i:=3) ua.nd rfl (aq rfl) (em 4)))))))
   (aB (aO u0))))),λds Q h=>?_⟩
 obtain⟨m,G,rfl,hm,hG,hR,mh,hw,q⟩:=h
 have cO:=(cj hm).lo
 refine ax λU hU=>?_
 nofun
 refine⟨G,rfl,by omega,λr aP=>by rw[(hR r aP).1];omega,hU _ ?_⟩
 clear hU U
 refine ax λU hU=>?_
 nofun
 refine⟨by decide,G,rfl,by omega,λr aP=>(hR r aP).1,by omega,by decide,by decide,hU _ ?_⟩
 clear hU U
 have Ls:=Lv.start hm mh hR
 refine ax λU hU=>?_
 nofun
 refine⟨λn δ=>∃(l:List Cs) (k:Nat) (o4 o5 o6 o7 o8 o9:Option D),δ=[some (fD t.bo t.br m),some (D.lst false (au false G)),some (D.int (ag G)),some (D.lst true (gr true l)),o4,o5,o6,o7,o8,o9]/\Lv m (dD G) (ag G) k l/\k+n=ag G+1/\wj m (ag G) n l=gB m G/\kY l<=4096/\∀s∈l,∀r∈s.2,r.length<=64,⟨ag G+1,[([],dR G)],0,_,_,_,_,_,_,rfl,Ls,by omega,rfl,?_,λs hs r aP=>?_⟩,?_⟩
 ·show 2 ^ (dR G).length+0<=4096
  rw[(G7 (by omega) mh hR).1]
  exact nD (by decide) hw
 ·rw[fu.mp hs]at aP
  have:=((G7 (by omega) mh hR).2.2 r aP).1
  omega
 rintro n δ ⟨l,k,o4,o5,o6,o7,o8,o9,rfl,L,hk,Jo,Jp,mi⟩
 nofun
 refine⟨by decide,⟨cd0 true l,rfl⟩,?_⟩
 by_cases l0:l=[]
 ·subst l0
  rw[show bS (D.lst true (gr true [])) (D.lst true [])=true from rfl,if_neg (by decide)]
  refine hU _ ?_
  nofun
  have e0:gB m G=none:=by
   rw[<-Jo]
   cases n with
   | zero=>rfl
   | succ n=>rfl
  rw[e0]at q
  exact q
 have d0:bS (D.lst true (gr true l)) (D.lst true [])=false:=by
  cases l with
  | nil=>exact absurd rfl l0
  | cons s l=>rfl
 rw[d0,if_pos (by decide)]
 have Jq:∀s∈l,dB (ag G) s.1/\s.2.length<=12:=λs hs=>by
  have g:=(L.gs s hs).1
  have gl:=g.le
  exact⟨⟨g.inc,λx hx=>by have:=g.off x hx;omega⟩,by omega⟩
 obtain⟨n,rfl⟩:∃n',n=n'+1:=by
  cases n with
  | succ n=>exact⟨n,rfl⟩
  | zero =>
   exfalso
   cases l with
   | nil=>exact l0 rfl
   | cons s l =>
    have h1:=(Jq s (gD ..)).1.len
    have h2:=(L.gs s (gD ..)).2
    omega
 clear hU
 have dA6:∀a,(dS (l.take a)).length<=4096:=λa=>by
  have h1:=VX (l.take a)
  have h2:=Jn (l.take a) (l.drop a)
  rw[yQ]at h2
  omega
 refine ax λU hU=>?_
 nofun
 refine⟨by decide,hU _ ?_⟩
 clear hU
 refine⟨_,rfl,?_⟩
 rw[bV,VW]
 simp only[f7,dw]
 refine ax λU hU=>?_
 nofun
 refine⟨cs9 l,?_⟩
 rw[VW]
 refine fC.mk (λa δ=>(∀z∈dS (l.take a),qo z=false)/\∃o5 o6 o7 o8 o9,δ=[some (fD t.bo t.br m),some (D.lst false (au false G)),some (D.int (ag G)),some (D.lst false (gr false l)),some (D.lst true (gr true ((dS (l.take a)).map (g9 m (ag G))))),o5,o6,o7,o8,o9]) ⟨λz hz=>absurd hz gE,_,_,_,_,_,rfl⟩ ?_ ?_
 ·rintro a d δ hd ⟨tN,o5,o6,o7,o8,o9,rfl⟩
  obtain⟨ha,rfl⟩:=cq2 hd
  clear hd hU
  have hs:=cN ha
  obtain⟨gs,gk⟩:=L.gs _ hs
  obtain⟨hh,Jr⟩:=gs.rt
  have g6:=(Jq _ hs).2
  have et:dS (l.take (a+1))=dS (l.take a)++fU l[a]:=by
   unfold dS
   rw[ku,aM ha,JU,Ex,Ew,List.flatMap_nil,gu]
  rw[et]
  have V1:=dA6 (a+1)
  rw[et,du]at V1
  generalize hS:l[a]=s0 at hs gs gk Jr g6 et V1 ⊢
  have l1:(fU s0).length=s0.2.length:=by unfold fU;rw[aW,bN]
  nofun
  refine fC.mk (λi δ=>(∀z∈(fU s0).take i,qo z=false)/\∃o7 o8 o9,δ=[some (fD t.bo t.br m),some (D.lst false (au false G)),some (D.int (ag G)),some (D.lst false (gr false l)),some (D.lst true (gr true ((dS (l.take a)++(fU s0).take i).map (g9 m (ag G))))),some (D.lst false (aj s0.1)),some (D.lst false (au false s0.2)),o7,o8,o9]) ⟨λz hz=>absurd hz gE,_,_,_,by rw[List.take_zero,gu]⟩ ?_ ?_
  ·rintro i d δ hd ⟨Bg,o7,o8,o9,rfl⟩
   obtain⟨hi,rfl⟩:=N3 hd
   clear hd
   obtain⟨cl,ca⟩:=Jr _ (cN hi)
   have gc:s0.2.getD i []=s0.2[i]:=by rw[aL,aM hi];rfl
   have gle:=gs.le
   have ei:(fU s0).take (i+1)=(fU s0).take i++[(s0,i)]:=by
    rw[ku]
    congr 1
    unfold fU
    rw[bM,h9 hi];rfl
   have hh6:hh<=64:=by have:=mi _ hs _ (cN hi);omega
   have il1:=(Jq _ hs).1.len
   simp only[iQ,f7,dw]
   refine ax λU hU=>?_
   nofun
   have eb:aj s0.1++[D.int ((ag G:Int)-(s0.2.length:Int)+(i:Int))]=aj (kP (ag G) (s0,i)):=by
    unfold kP
    rw[cL,cL,eR]
    show _=_++[D.int ((ag G-s0.2.length+i:Nat):Int)]
    rw[show(ag G:Int)-(s0.2.length:Int)+(i:Int)=((ag G-s0.2.length+i:Nat):Int) by omega]
   rw[eb]
   refine⟨by decide,by omega,hU _ ?_⟩
   clear hU
   refine ax λU hU=>?_
   nofun
   refine⟨s0.2[i],rfl,by omega,nul s0.2[i],rfl,?_⟩
   cases hz:nul s0.2[i]with
   | true =>
    rw[if_pos rfl]
    have ef:gB m G=some (kP (ag G) (s0,i)):=by
     rw[<-Jo,wj,if_neg l0]
     have:(dS l).find? qo=some (s0,i):=by
      refine WR.mpr ⟨by show nul (s0.2.getD i [])=true;rw[gc];exact hz,dS (l.take a)++(fU s0).take i,(fU s0).drop (i+1)++dS (l.drop (a+1)),?_,λz Aq=>?_⟩
      ·have e1:dS l=dS (l.take (a+1))++dS (l.drop (a+1)):=by
        conv=>lhs;rw[<-yQ (a+1) l]
        unfold dS
        rw[Ex]
       have e2:fU s0=(fU s0).take i++(s0,i)::(fU s0).drop (i+1):=by
        conv=>lhs;rw[<-yQ (i+1) (fU s0),ei,da]
        rfl
       rw[e1,et]
       conv=>lhs;rw[e2]
       simp only[da,iF]
      ·have:=(cM.mp Aq).elim (tN z) (Bg z)
       rw[this];rfl
     rw[this];rfl
    rw[ef]at q
    exact q
   | false =>
    rw[if_neg (by decide)]
    refine hU _ ?_
    clear hU
    nofun
    rw[show((i:Int)+1)=((i+1:Nat):Int) by omega,Cv,ei]
    refine⟨⟨_,rfl⟩,m,s0.2[i],s0.2.drop (i+1),rfl,hm,hz,by omega,ca,λr aP=>by rw[cl];exact Jr r (nG aP),by rw[iD];omega,by rw[fP,l6];rfl,by decide,?_,λz Aq=>?_,_,_,_,?_,rfl,rfl,rfl⟩
    ·unfold gr
     rw[aW,aW,du,fZ]
     omega
    ·rcases cM.mp Aq with y | y
     ·exact Bg z y
     ·rw[fu.mp y]
      show nul (s0.2.getD i [])=false
      rw[gc];exact hz
    ·rw[<-da,eR (l₁:=dS (l.take a)++(fU s0).take i),<- cb4]
     congr 1
     show _=[D.tup [.lst true (aj (g9 m (ag G) (s0,i)).1),.lst true (au true (g9 m (ag G) (s0,i)).2)]]
     show _=[D.tup [.lst true (aj (kP (ag G) (s0,i))),.lst true (au true (g8 m (s0.2.getD i []) (s0.2.drop (i+1))))]]
     rw[gc]
  ·rintro δ ⟨Bg,o7,o8,o9,rfl⟩
   rw[show(fR (au false s0.2)).length=(fU s0).length by rw[kg,jJ,l1],mq]at Bg ⊢
   exact⟨λz hz=>(cM.mp hz).elim (tN z) (Bg z),_,_,_,_,_,rfl⟩
 ·rintro δ ⟨tN,o5,o6,o7,o8,o9,rfl⟩
  refine hU _ ?_
  clear hU
  rw[show(gr false l).length=l.length by unfold gr;rw[aW],mq]at tN ⊢
  nofun
  have hf:(dS l).find? qo=none:=J6.mpr λz hz=>by rw[tN z hz];decide
  refine⟨n,by omega,_,k+1,_,_,_,_,_,_,⟨rfl,rfl,rfl,rfl,rfl,rfl,rfl⟩,L.next hm (Hr hm hR) tN,by omega,?_,?_,λs hs r aP=>?_⟩
  ·rw[<-Jo,wj,if_neg l0,hf]
  ·exact fY (VZ m (ag G) l) Jp
  ·obtain⟨z,hz,rfl⟩:=bw.mp hs
   exact b29 (λo ho=>mi _ (xS.mp hz).1 o (nG ho)) r aP
abbrev V2(t:cR):List D->List Str->List D->Prop:=λds ns xs=>∃(m:Bool × Nat) (G:List (List Nat)) (Fb:List Nat),ds=[fD t.bo t.br m,.lst false (au false G)]/\eZ m G/\1<=G.length/\G.length<=12/\2<=ag G/\ag G<=12/\gB m G=some Fb/\ns=(["field","length","check_rows","word_rows","message_places","size","bound"]:List Str)/\xs=l9 t.bo t.br true m G++[.int (Fb.length:Nat)]
theorem V3(T:Txt K mg t):aF P w K mg base aK 5 t.Ik t.SN ["self","field","table"] (jS [] (ye t.gC (V2 t))):=by
 refine Dr T.Jd.F aB3 (λC ds ns xs bE bz h=>by obtain⟨rfl,rfl,rfl,zs,⟨m,G,Fb,rfl,hc,g1,yv,w2,w6,hF,rfl,rfl⟩,rfl⟩:=h<;>rfl) λaD A outer s H E hr a=>⟨_,(fK (yb (iN (fQ (ae (aQ T.UB (aC1 T) hr (af (bv 1) (af (bv 2) ak)))))))
   (fK (yb (bK (fF (cF hr)) (ae (aQ T.UC (cp8 T) hr (af (bv 1) (af (bv 2) ak)))) (ae (di (fG) (by rfl) T.fL fB (af (bH (bv 2) (ae aw) (λ_ _=>rfl)) ak))) (bC _)))
   (fK (HG T.IF ((Jj T).mono (by decide)) hr T.DO.b rfl T.IB rfl (by first | exact aq rfl | exact bu (aq rfl)) (af (bv 1) (af (bv 2) ak)))
   (wu (iV (K:=K) rfl (by first | exact aq rfl | exact bu (aq rfl)) (di (fG) (by rfl) T.fL fB (af (ae (aQ T.IM (V0 T) hr (af (bv 1) (af (bv 2) ak)))) ak))))))),λC ds ns xs bE bz h=>?_⟩
 obtain⟨rfl,rfl,rfl,zs,⟨m,G,Fb,rfl,hc,g1,yv,w2,w6,hF,rfl,rfl⟩,rfl⟩:=h
 have hm:=hc.hm
 have hG:=hc.rt
 refine ax λU hU=>?_
 nofun
 refine⟨m,G,rfl,hm,hG,g1,yv,w2,by omega,true,rfl,rfl,hU _ ?_⟩
 clear hU U
 have nr:(bf m G).length≠ag G:=λz=>by
  obtain⟨⟨Hd,I⟩,iR⟩:=hc.red
  have:=I.C9 hm iR
  have h0:=hc.sz
  unfold cZ at h0
  omega
 refine ax λU hU=>?_
 nofun
 refine⟨m,G,rfl,hm,by omega,hG,by omega,?_⟩
 obtain⟨g,G',rfl⟩:∃g G',G=g::G':=by
  cases G with
  | nil=>exact absurd g1 (by decide)
  | cons g G'=>exact⟨g,G',rfl⟩
 refine⟨.lst false (aj g),tG false (T:=g::G') (i:=0) (Kn _),pX 5 ((bf m (g::G')).length:Nat),?_⟩
 rw[kI,eN]
 refine⟨decide_eq_false λz=>nr (Int.ofNat.inj z),hU _ ?_⟩
 clear hU U nr
 generalize g::G'=G at *
 refine ax λU hU=>?_
 nofun
 refine⟨_,_,_,_,_,["many"],rfl,⟨m,G,rfl,⟨T.wD,T.Vi,T.Vj,T.Vh,T.Vl,T.ds9,T.Vk⟩,.nil,hm,hG,by omega,by omega,rfl,rfl⟩,by simp only[kR,fW,gO,js,fJ,dw,f7,bA,eU,mf,kU,kT];rfl,hU _ ?_⟩
 clear hU U
 nofun
 refine⟨m,G,rfl,hm,by omega,hG,by omega,w6,?_⟩
 rw[hF]
 nofun
 refine⟨t.gC,_,_,["many"],rfl,T.wD,T.Vg,by decide,?_,?_⟩
 ·simp only[gO,fW,ju,l9,dw,bA,eU,mf,kU,kT];rfl
 ·rw[eR,xY,eN];rfl
def wI(M n e f:Int):Prop:=2<=n/\n<=M-1/\1<=e/\e<=n-1/\0<=f/\f<=M-2
instance (M n e f:Int):Decidable (wI M n e f):=by unfold wI;infer_instance
abbrev aA3:aU:=λds Q=>∃(M n e f:Int),ds=[.int M,.int n,.int e,.int f]/\Q (.bl (decide (wI M n e f)))
theorem aA4(T:Txt K mg t):aF P w K mg base aK 1 t.SO t.SQ ["many","length","extra","first"] (aV (aA3 )):=by
 refine bh T.UE.F ax0 (λds Q h=>by obtain⟨M,n,e,f,rfl,q⟩:=h<;>rfl) λaD A outer s H E hr=>⟨_,(aB (aO (pd (ae (ve lL lL (ae aw) (bv 1) (ae (aE eC (bv 0) (ae aw))))) (pd (ae (ve lL lL (ae aw) (bv 2) (ae (aE eC (bv 1) (ae aw))))) (uK (ve lL lL (ae aw) (bv 3) (ae (aE eC (bv 0) (ae aw))))))))),λds Q h=>?_⟩
 obtain⟨M,n,e,f,rfl,q⟩:=h
 nofun
 have z:∀b:Bool,(b=true↔wI M n e f)->Q (.bl b):=λb h=>by rw[show b=decide (wI M n e f) by rw[qP,decide_eq_true_eq];exact h];exact q
 unfold wI at z
 repeat' split
 all_goals exact z _ (by simp only[decide_eq_true_eq,uF,false_iff];omega)
abbrev bD8(t:cR):List D->List Str->List D->Prop:=λds ns xs=>∃(m:Bool × Nat) (n e f:Nat),ds=[fD t.bo t.br m,.int n,.int e,.int f]/\m∈aA/\2<=n/\n+1<=aa m/\1<=e/\e+1<=n/\f+2<=aa m/\ns=(["extra","first","field","length","check_rows","word_rows","message_places","size"]:List Str)/\xs=[.int e,.int f]++l9 t.bo t.br true m (iU m f (aH n) e)
theorem aF4(T:Txt K mg t):aF P w K mg base aK 5 t.Il t.Im ["self","field","length","extra","first"] (jS [] (ye t.gn (bD8 t))):=by
 refine cs8 T.ds0 QH (λC ds ns xs bE bz h=>by obtain⟨rfl,rfl,rfl,zs,⟨m,n,e,f,rfl,hm,h1,h2,h3,h4,h5,rfl,rfl⟩,rfl⟩:=h<;>rfl) λaD A outer s H E hr a=>⟨_,(fK (yb (iN (fQ (ae (aQ T.UE (aA4 T) hr (af (cA (K:=K) (bv 1)) (af (bv 2) (af (bv 3) (af (bv 4) ak)))))))))
   (fK (iV (K:=K) rfl (by first | exact aq rfl | exact bu (aq rfl)) (bX (bv 3)))
   (fK (iV (K:=K) rfl (by first | exact aq rfl | exact bu (aq rfl)) (bX (bv 4)))
   (fK (cr6 (i:=4) QH.nd rfl (aq rfl) [("field",1),("length",2),("first",4)] ["i"] rfl (jf rfl T.fX (af (bv 3) ak)) (λ_ _ _ _=>(cB (i:=3) (show(["field","length","first","i"]:List Str).Nodup by decide +kernel))) (λ_ _ _ _=>bW) (by exact λ_ _ _ _=>(cq [("field",0),("first",2),("i",3)] ["j"] rfl (jf rfl T.fX (af (bv 1) ak)) (λ_ _ _ _=>(cB (i:=3) (show(["field","first","i","j"]:List Str).Nodup by decide +kernel))) (λ_ _ _ _=>bW) (λ_ _ _ _=>(gj (P:=P) (w:=w) (K:=K) (mg:=mg) (base:=base) (n:=1) (bv 0) (hr.mono (by decide)) (af (ae (aE gy (ae (aE dH (bv 1) (bv 2))) (bv 3))) ak))) rfl)) rfl)
   (cI1 5 (wu (HG T.IF ((Jj T).mono (by decide)) hr T.DO.b rfl T.IB rfl (by first | exact aq rfl | exact bu (aq rfl)) (af (bv 1) (af (bv 5) ak))))))))),λC ds ns xs bE bz h=>?_⟩
 obtain⟨rfl,rfl,rfl,zs,⟨m,n,e,f,rfl,hm,h1,h2,h3,h4,h5,rfl,rfl⟩,rfl⟩:=h
 have Js:=(cj hm).hi
 refine ax λU hU=>?_
 nofun
 refine cy9 T m ⟨aa m,n,e,f,rfl,?_⟩
 rw[decide_eq_true (by unfold wI;omega)]
 refine⟨rfl,true,rfl,rfl,hU _ ?_⟩
 clear hU U
 refine ax λU hU=>?_
 nofun
 refine⟨t.gn,_,_,["many"],rfl,T.ui,T.Vs,by decide,by simp only[kR,fW,gO,js,fJ,dw,f7,bA,eU,mf,kU,kT];rfl,hU _ ?_⟩
 clear hU U
 refine ax λU hU=>?_
 nofun
 refine⟨t.gn,_,_,["many"],rfl,T.ui,T.dt3,by decide,by simp only[kR,fW,gO,js,fJ,dw,f7,bA,eU,mf,kU,kT];rfl,hU _ ?_⟩
 clear hU U
 obtain⟨g1,g2,g3⟩:=O7 hm f n (show 1<=e by omega)
 refine ax λU hU=>?_
 nofun
 refine⟨⟨by omega,by omega⟩,qv e (λ(i:Nat)=>D.lst true (aj ((aH n).map λ(p:Nat)=>eS m (((f:Int)+(i:Int))*(p:Int))))) (λi hi=>?_) (.inr λ_ _=>fo _) ?_⟩
 ·have hi:=bT.mp hi
  nofun
  refine⟨⟨by omega,by omega⟩,qv n (λ(p:Nat)=>D.int ((eS m (((f:Int)+(i:Int))*(p:Int)):Nat):Int)) (λp rS=>?_) (.inr λ_ _=>rfl) ?_⟩
  ·have:=bT.mp rS
   nofun
   obtain⟨C,ns,xs,sp,e1,e2,e3,e4⟩:=bE7 (P:=P) (w:=w) (base:=base) T hm (n:=((f:Int)+(i:Int))*(p:Int)) (Q:=λr=>r=D.int ((eS m (((f:Int)+(i:Int))*(p:Int)):Nat):Int)) rfl
   exact⟨C,ns,xs,sp,e1,e2,e3,iJ.ok (.inl ⟨by omega,by omega⟩),e4⟩
  ·rw[cL,bx];rfl
 ·have e1:((aH e).map λ(i:Nat)=>D.lst true (aj ((aH n).map λ(p:Nat)=>eS m (((f:Int)+(i:Int))*(p:Int)))))=au true (iU m f (aH n) e):=by
   unfold iU au
   rw[bx];rfl
  rw[e1]
  refine hU _ ?_
  clear hU U
  nofun
  refine⟨_,_,_,_,_,["many"],rfl,⟨m,iU m f (aH n) e,rfl,⟨T.ui,T.Vt,T.Vu,T.Vr,T.Vw,T.dt4,T.Vv⟩,.two _ _,hm,by rw[g3];exact g1,by omega,by omega,rfl,rfl⟩,by simp only[kR,fW,gO,js,fJ,dw,f7,bA,eU,mf,kU,kT];rfl,?_⟩
  rw[xY];rfl
abbrev aF5(t:cR):aU:=λds Q=>∃(m:Bool × Nat) (n:Nat),ds=[fD t.bo t.br m,.int n]/\m∈aA/\2<=n/\n<=24/\Q (.lst true (au true (fV m n)))
theorem aF6(T:Txt K mg t):aF P w K mg base aK 2 t.SR t.SS ["field","length"] (aV (aF5 t)):=by
 refine bh T.UG.F QJ (λds Q h=>by obtain⟨m,n,rfl,hm,h2,DY,q⟩:=h<;>rfl) λaD A outer s H E hr=>⟨_,(aC (aY (i:=2) QJ.nd rfl (bu rfl) (gj (P:=P) (w:=w) (K:=K) (mg:=mg) (base:=base) (n:=1) (bv 0) (hr.mono (by decide)) (af (ae aw) (af (ae aw) ak))))
   (aB (aO (cq [("less_one",2),("length",1)] ["i"] rfl (jf rfl T.fX (af (ae (aE eC (bv 1) (ae aw))) ak)) (λ_ _ _ _=>(cB (i:=2) (show(["less_one","length","i"]:List Str).Nodup by decide +kernel))) (λ_ _ _ _=>bW) (λ_ _ _ _=>(aE dH (ae (aE dH (ae (aE dH (ae (aE gy (ae (dA (eJ aw cQ))) (bv 2))) (ae (dA (eJ aw cQ))))) (ae (aE gy (ae (dA (eJ aw cQ))) (ae (aE eC (ae (aE eC (bv 1) (ae aw))) (bv 2))))))) (Ar (af (bv 0) ak)))) rfl)))),λds Q h=>?_⟩
 obtain⟨m,n,rfl,hm,h2,DY,q⟩:=h
 have m0:=bO m hm
 have cO:=(cj hm).lo
 obtain⟨C,ns,zs,sp,e1,e2,e3,e4⟩:=VQ (P:=P) (w:=w) (base:=base) T m0
 refine ax λU hU=>?_
 nofun
 refine⟨C,ns,zs,sp,e1,e2,e3,e4 0 1 _ ?_⟩
 rw[(jl hm (show 0<aa m by omega) (show 1<aa m by omega)).1]
 refine hU _ ?_
 clear hU U e1 e2 e3 e4
 nofun
 refine⟨⟨by omega,by omega⟩,lX (aH (n-1)) (λ(i:Nat)=>D.int (i:Int)) (λi=>D.lst true (aj (nu m n i))) (GK _ (by omega)) xJ (λi hi=>?_) (.inr λ_ _=>fo _) (by rw[bN,sL];omega) ?_⟩
 ·have hi:=bT.mp hi
  nofun
  unfold nu
  have zn:∀k:Nat,aS (aX k (0:Int))=aj (aX k 0):=λk=>by unfold aj;rw[yS];rfl
  rw[iC,show((n:Int)-2-(i:Int)).toNat=n-2-i by omega,zn,zn,show [D.int 1]=aj [1] from rfl,show [D.int ((bB m 0 1:Nat):Int)]=aj [bB m 0 1] from rfl,kJ,kJ,kJ,jj,jj,eN,eN]
  simp only[du,eQ,qM]
  exact⟨by decide,⟨by omega,by omega,by omega⟩,by decide,by omega,by decide,⟨by omega,by omega,by omega⟩,⟨by omega,trivial⟩,by decide,⟨by omega,trivial⟩,trivial⟩
 ·rw[show((aH (n-1)).map λi=>D.lst true (aj (nu m n i)))=au true (fV m n) by unfold au fV;rw[bx];rfl]
  exact q
abbrev br0(t:cR):List D->List Str->List D->Prop:=λds ns xs=>∃(m:Bool × Nat) (n:Nat),ds=[fD t.bo t.br m,.int n]/\m∈aA/\2<=n/\n<=24/\ns=wm/\xs=l9 t.bo t.br true m (fV m n)
theorem aA5(T:Txt K mg t):aF P w K mg base aK 5 t.Io t.SU ["self","field","length"] (jS [] (ye t.iu (br0 t))):=by
 refine Dr T.U8.F ax1 (λC ds ns xs bE bz h=>by obtain⟨rfl,rfl,rfl,zs,⟨m,n,rfl,hm,h2,DY,rfl,rfl⟩,rfl⟩:=h<;>rfl) λaD A outer s H E hr a=>⟨_,(fK (yb (PW.pt (mN (bK pK (bv 2) (ae aw) (bC _)) (nL (bK u9 (bv 2) (ae aw) (bC _))))))
   (wu (HG T.IF ((Jj T).mono (by decide)) hr T.DO.b rfl T.IB rfl (by first | exact aq rfl | exact bu (aq rfl)) (af (bv 1) (af (Hy (aQ T.UG (aF6 T) hr (af (bv 1) (af (bv 2) ak)))) ak))))),λC ds ns xs bE bz h=>?_⟩
 obtain⟨rfl,rfl,rfl,zs,⟨m,n,rfl,hm,h2,DY,rfl,rfl⟩,rfl⟩:=h
 obtain⟨g1,g2,g3⟩:=AB hm h2
 refine ax λU hU=>?_
 nofun
 rw[if_neg (by omega),decide_eq_false (by omega)]
 refine⟨rfl,hU _ ?_⟩
 clear hU U
 nofun
 refine⟨m,n,rfl,hm,h2,DY,?_⟩
 nofun
 refine⟨_,_,_,_,_,["many"],rfl,⟨m,fV m n,rfl,⟨T.A7,T.Vn,T.Vo,T.Vm,T.Vq,T.dt2,T.Vp⟩,.nil,hm,by rw[g3];exact g1,by omega,by omega,rfl,rfl⟩,by simp only[kR,fW,gO,js,fJ,dw,f7,bA,eU,mf,kU,kT];rfl,?_⟩
 rw[xY];rfl
abbrev aK0:aU:=λds Q=>∃(z:Int) (b n:Nat),ds=[.int z,.int b,.int n]/\0<b/\b<=100/\n<=64/\∀c:List Nat,c.length=n->AllLt b c->Q (.lst true (aj c))
theorem V4(T:Txt K mg t):aF P w K mg base aK 1 t.SV t.SW ["_law_cell_here","_law_base","_law_count"] (aV (aK0 )):=by
 refine bh T.IQ.F Dw (λds Q h=>by obtain⟨z,b,n,rfl,Gw,hb,hn,q⟩:=h<;>rfl) λaD A outer s H E hr=>⟨_,(aC (aY (i:=3) Dw.nd rfl (aq rfl) (dA cQ))
   (aC (fE eG rfl (jf rfl T.fX (af (bv 2) ak)) (jC (i:=4) Dw.nd rfl (aq rfl))
    (aC (pV (i:=3) rfl (by first | exact aq rfl | exact bu (aq rfl)) (aE dP (bv 0) (bv 1)))
    (aB (aY (i:=0) Dw.nd rfl (aq rfl) (aE mT (bv 0) (bv 1))))))
   (aB (aO (em 3))))),λds Q h=>?_⟩
 obtain⟨z,b,n,rfl,Gw,hb,hn,q⟩:=h
 refine ax λU hU=>?_
 nofun
 refine⟨by decide,hU _ ?_⟩
 clear hU U
 refine ax λU hU=>?_
 nofun
 refine⟨⟨by omega,by omega⟩,zU (λi δ=>∃(z:Int) (c:List Nat) (o1:Option D),(c.length=i/\AllLt b c)/\δ=[some (D.int z),some (D.int b),some (D.int n),some (D.lst true (aj c)),o1]) ⟨z,[],_,⟨rfl,λa ha=>by cases ha⟩,rfl⟩ ?_ ?_⟩
 ·rintro i δ hi ⟨z,c,o1,⟨h1,h2⟩,rfl⟩
  simp only[gN,f7,dw]
  clear hU
  have n0:=jv z (show(b:Int)≠0 by omega)
  have n1:=jw z (show(0:Int)<(b:Int) by omega)
  refine ax λU hU=>?_
  nofun
  refine⟨⟨_,rfl⟩,by omega,by omega,hU _ ?_⟩
  clear hU
  nofun
  refine⟨mS (by omega) (by omega),_,c++[(z%(b:Int)).toNat],_,⟨by rw[du,h1];rfl,λa ha=>?_⟩,rfl,?_,rfl⟩
  ·rcases cM.mp ha with h | h
   ·exact h2 a h
   ·rw[fu.mp h];omega
  ·rw[<-kJ];show _=aj c++[D.int (((z%(b:Int)).toNat:Nat):Int)];rw[wZ n0]
 ·rintro δ ⟨z,c,o1,⟨h1,h2⟩,rfl⟩
  refine hU _ ?_
  nofun
  exact q c h1 h2
abbrev aO3:aU:=λds Q=>∃(m:Bool × Nat) (a b:Nat),ds=[dJ m,.int a,.int b]/\0<m.2/\Q (.int (gp m a b:Nat))
theorem aO4(T:Txt K mg t):aF P w K mg base aK 1 t.SX t.SY ["_law_told_here","_law_a","_law_b"] (aV (aO3 )):=by
 refine bh T.UH.F aN1 (λds Q h=>by obtain⟨m,a,b,rfl,h0,q⟩:=h<;>rfl) λaD A outer s H E hr=>⟨_,(aC (b8 (fQ (bH (bv 0) (ae aw) (λ_ _=>rfl))) (aB (aO (aE zP (bv 1) (bv 2)))) bZ)
   (aB (aO (aE dP (ae (aE dH (bv 1) (bv 2))) (bH (bv 0) (ae aw) (λ_ _=>rfl)))))),λds Q h=>?_⟩
 obtain⟨m,a,b,rfl,h0,q⟩:=h
 unfold dJ at *
 obtain⟨k,n⟩:=m
 refine ax λU hU=>?_
 nofun
 cases k with
 | true =>
  refine⟨_,rfl,true,rfl,?_⟩
  rw[if_pos rfl,oV]
  exact q
 | false =>
  refine⟨_,rfl,false,rfl,?_⟩
  rw[if_neg (by decide)]
  refine hU _ ?_
  nofun
  refine⟨_,rfl,?_⟩
  refine⟨by omega,?_⟩
  have e:((gp (false,n) a b:Nat):Int)=((a:Int)+b)%n:=by
   show(((a+b)%n:Nat):Int)=_
   rw[qS,yL]
  rw[<-e];exact q
abbrev aM0:aU:=λds Q=>∃(m:Bool × Nat) (a b:Nat),ds=[dJ m,.int a,.int b]/\m∈aA/\a<aa m/\b<aa m/\Q (.int (gm m a b:Nat))
theorem aM1(T:Txt K mg t):aF P w K mg base aK 1 t.S0 t.S1 ["_law_told_here","_law_a","_law_b"] (aV (aM0 )):=by
 refine bh T.UI.F yk (λds Q h=>by obtain⟨m,a,b,rfl,hm,ha,hb,q⟩:=h<;>rfl) λaD A outer s H E hr=>⟨_,(aC (b8 (iN (fQ (bH (bv 0) (ae aw) (λ_ _=>rfl)))) (aB (aO (aE dP (ae (aE gy (bv 1) (bv 2))) (bH (bv 0) (ae aw) (λ_ _=>rfl))))) bZ)
   (aC (aY (i:=3) yk.nd rfl (aq rfl) aw)
   (aC (zL eG (bK u9 (bv 2) (ae aw) (bC _))
    (aC (b8 (bK (fF (cF hr)) (ae (aE MC (bv 2) (ae aw))) (ae aw) (bC _)) (aB (aY (i:=3) yk.nd rfl (aq rfl) (aE zP (bv 3) (bv 1)))) bZ)
    (aC (aY (i:=1) yk.nd rfl (aq rfl) (aE u7 (bv 1) (ae aw)))
    (aC (b8 (bK (fF (cF hr)) (ae (mX (bv 1))) (ae (mX (bH (bv 0) (ae aw) (λ_ _=>rfl)))) (bC _)) (aB (aY (i:=1) yk.nd rfl (aq rfl) (aE zP (bv 1) (bH (bv 0) (ae aw) (λ_ _=>rfl))))) bZ)
    (aB (aY (i:=2) yk.nd rfl (aq rfl) (aE MB (bv 2) (ae aw))))))))
   (aB (aO (em 3)))))),λds Q h=>?_⟩
 obtain⟨m,a,b,rfl,hm,ha,hb,q⟩:=h
 unfold dJ at *
 obtain⟨k,n⟩:=m
 refine ax λU hU=>?_
 nofun
 have hF:=cj hm
 cases k with
 | false =>
  refine⟨_,rfl,false,rfl,?_⟩
  have uj:n<=64:=hF.hi
  have l2:2<=n:=hF.lo
  have ha':a<n:=ha
  have z4:b<n:=hb
  rw[if_pos (by decide)]
  refine⟨iJ.ok (.inr ⟨by omega,by omega⟩),_,rfl,by omega,?_⟩
  have e:((gm (false,n) a b:Nat):Int)=(a:Int)*b%n:=by
   show((a*b%n:Nat):Int)=_
   rw[qS,qT]
  rw[<-e];exact q
 | true =>
  refine⟨_,rfl,true,rfl,?_⟩
  rw[if_neg (by decide)]
  have hp:=xO hm
  have bp:=NC n hp
  have DS:=ND n hp
  have p0:n≠0:=λz=>by rw[z,oU]at DS;omega
  have FN:bl a<bl n:=by
   have:=fv.mpr (show a<2 ^ (bl n-1) from ha)
   omega
  have hy0:bl b<bl n:=by
   have:=fv.mpr (show b<2 ^ (bl n-1) from hb)
   omega
  refine hU _ ?_
  clear hU U
  refine ax λU hU=>?_
  nofun
  refine hU _ ?_
  clear hU U
  refine ax λU hU=>?_
  nofun
  refine⟨λm δ=>∃(x y z:Nat),δ=[some (.tup [.bl true,.int n]),some (.int (x:Nat)),some (.int (y:Nat)),some (.int (z:Nat))]/\z ^^^ md (cl x y) n=gm (true,n) a b/\bl x<bl n/\bl y<bl n/\m=bl y,
   ⟨bl b,a,b,0,rfl,by rw[qN];rfl,FN,hy0,rfl⟩,?_⟩
  rintro m δ ⟨x,y,z,rfl,inv,hx,hy,rfl⟩
  nofun
  split
  ·rename_i Bh
   have Dm:=i8 (show y≠0 by omega)
   have DT:bl (y/2)=bl y-1:=Z3 y
   have e1:((x:Int)*2 ^ (1:Int).toNat)=((2*x:Nat):Int):=by
    show(x:Int)*(2:Int) ^ 1=_
    omega
   have e2:((y:Int)/2 ^ (1:Int).toNat)=((y/2:Nat):Int):=by
    show(y:Int)/(2:Int) ^ 1=_
    omega
   have a1:qH (y:Int) 1=((y%2:Nat):Int):=by
    rw[show(1:Int)=((1:Nat):Int) from rfl,LY,Nat.and_one_is_mod]
   have tm:=cm2 (y:=y) p0 hx
   have tb:=cm8 p0 hx
   clear hU
   refine ax λU hU=>?_
   nofun
   have fin:∀z':Nat,z'=z ^^^ (if y%2=1 then x else 0)->U [some (.tup [.bl true,.int n]),some (.int x),some (.int y),some (.int z')]:=by
    intro z' hz
    have dC1:z' ^^^ md (cl (if bl (2*x)=bl n then 2*x ^^^ n else 2*x) (y/2)) n=gm (true,n) a b:=by
     rw[hz,uw,<- tm];exact inv
    refine hU _ ?_
    clear hU
    refine ax λU hU=>?_
    nofun
    refine⟨⟨by decide,by simp only[jV];omega⟩,hU _ ?_⟩
    clear hU
    rw[e1]
    refine ax λU hU=>?_
    nofun
    have last:∀x':Nat,x'=(if bl (2*x)=bl n then 2*x ^^^ n else 2*x)->U [some (.tup [.bl true,.int n]),some (.int (x':Nat)),some (.int y),some (.int z')]:=by
     intro x' gb
     refine hU _ ?_
     nofun
     exact⟨by decide,bl (y/2),by omega,x',y/2,z',⟨rfl,e2,rfl⟩,by rw[gb];exact dC1,by rw[gb];exact tb,by omega,rfl⟩
    refine⟨_,rfl,?_⟩
    show(if(((bl (((2*x:Nat):Int)).natAbs:Nat):Int)=((bl ((n:Int)).natAbs:Nat):Int))then _ else _)
    rw[jV,jV]
    split
    ·rename_i hc
     refine⟨_,rfl,?_⟩
     have g:=last (2*x ^^^ n) (by rw[if_pos (by omega)])
     rw[<-oV]at g
     exact g
    ·rename_i hc
     exact last (2*x) (by rw[if_neg (by omega)])
   rw[a1]
   split
   ·rename_i DR
    have odd:y%2=1:=by omega
    have g:=fin (z ^^^ x) (by rw[if_pos odd])
    rw[<-oV]at g
    exact g
   ·rename_i DR
    exact fin z (by rw[if_neg (by omega),mm])
  ·rename_i Bh
   have hy:y=0:=by omega
   subst hy
   rw[ZN,Ad (by rw[oU];exact i8 p0),mm]at inv
   subst inv
   refine hU _ ?_
   nofun
   exact q
abbrev aP6:aU:=λds Q=>∃(m:Bool × Nat) (xs ys:List Nat),ds=[dJ m,.lst false (aj xs),.lst false (aj ys)]/\m∈aA/\xs.length=ys.length/\xs.length<=64/\(∀x∈xs,x<aa m)/\(∀y∈ys,y<aa m)/\Q (.int (gd m xs ys:Nat))
theorem V5(T:Txt K mg t):aF P w K mg base aK 2 t.S2 t.S3 ["_law_told_here","_law_xs","_law_ys"] (aV (aP6 )):=by
 refine bh T.IS.F Dx (λds Q h=>by obtain⟨m,xs,ys,rfl,hm,hl,mi,hx,hy,q⟩:=h<;>rfl) λaD A outer s H E hr=>⟨_,(aC (aY (i:=3) Dx.nd rfl (aq rfl) aw)
   (aC (fE eG rfl (xI rfl T.wC (af (bv 1) (af (bv 2) ak))) (m6 (i1:=4) (i2:=5) rfl Dx.nd rfl (aq rfl) rfl (aq rfl))
    (aB (aY (i:=3) Dx.nd rfl (aq rfl) (aQ T.UH (aO4 T) hr (af (bv 0) (af (bv 3) (af (ae (aQ T.UI (aM1 T) hr (af (bv 0) (af (bv 4) (af (bv 5) ak))))) ak)))))))
   (aB (aO (em 3))))),λds Q h=>?_⟩
 obtain⟨m,xs,ys,rfl,hm,hl,mi,hx,hy,q⟩:=h
 refine ax λU hU=>?_
 nofun
 refine hU _ ?_
 clear hU U
 refine ax λU hU=>?_
 nofun
 refine⟨_,_,rfl,rfl,?_⟩
 refine fC.mk (λi δ=>∃o1 o2,δ=[some (dJ m),some (.lst false (aj xs)),some (.lst false (aj ys)),some (.int (((dv (gm m) xs ys).take i).foldl (gp m) 0:Nat)),o1,o2]) ⟨none,none,rfl⟩ ?_ ?_
 ·rintro i d δ hd ⟨o1,o2,rfl⟩
  obtain⟨hi,hj,rfl⟩:∃(hi:i<xs.length) (hj:i<ys.length),d=.tup [.int (xs[i]:Nat),.int (ys[i]:Nat)]:=by
   unfold dQ at hd
   rw[cL,cL,BB]at hd
   by_cases hi:i<xs.length
   ·have hj:i<ys.length:=by omega
    rw[oE,aM hi,aM hj]at hd
    exact⟨hi,hj,(cT hd).symm⟩
   ·rw[eE (by simp;omega)]at hd;cases hd
  have lY:=hx xs[i] (cN _)
  have Bh:=hy ys[i] (cN _)
  nofun
  have hF:=cj hm
  have t1:(dJ m).sh=dJ m:=rfl
  have t2:(dJ m).pl=true:=rfl
  have m0:0<m.2:=bO m hm
  refine⟨m,xs[i],ys[i],rfl,hm,lY,Bh,m,_,gm m xs[i] ys[i],rfl,m0,by simp[D.pl],_,_,?_,rfl,rfl⟩
  rw[List.take_succ,yN,oE,aM hi,aM hj];rfl
 ·rintro δ ⟨o1,o2,rfl⟩
  refine hU _ ?_
  nofun
  have e:(dQ (aj xs) (aj ys)).length=xs.length:=by unfold dQ;rw[kA,eN,eN];omega
  rw[e,wW (by rw[kA];omega)]
  exact q
abbrev aK1:aU:=λds Q=>∃(m:Bool × Nat) (xs:List Nat) (T:List (List Nat)) (w:Nat),ds=[dJ m,.lst false (aj xs),.lst false (au false T),.int w]/\m∈aA/\AllLt (aa m) xs/\xs.length<=64/\T.length=xs.length/\w<=1000/\RT (aa m) w T/\Q (.lst true (aj (gM m xs T w)))
theorem aK2(T:Txt K mg t):aF P w K mg base aK 3 t.S4 t.S5 ["_law_told_here","_law_xs","_law_table_here","_law_wide"] (aV (aK1 )):=by
 refine bh T.UJ.F aJ2 (λds Q h=>by obtain⟨m,xs,G,wi,rfl,hm,hx,se,hG,hw,hR,q⟩:=h<;>rfl) λaD A outer s H E hr=>⟨_,(aB (aO (cq [("_law_told_here",0),("_law_xs",1),("_law_table_here",2)] ["_law_k"] rfl (jf rfl T.fX (af (bv 3) ak)) (λ_ _ _ _=>(cB (i:=3) (show(["_law_told_here","_law_xs","_law_table_here","_law_k"]:List Str).Nodup by decide +kernel))) (λ_ _ _ _=>bW) (by exact λ_ _ _ _=>(aQ T.IS (V5 T) hr (af (bv 0) (af (bv 1) (af (ae (cq [("_law_k",3)] ["_law_row"] rfl (dX (bv 2)) (λ_ _ _ _=>(cB (i:=1) (show(["_law_k","_law_row"]:List Str).Nodup by decide +kernel))) (λ_ _ _ _=>bW) (λ_ _ _ _=>(bX (bH (bv 1) (bv 0) (λ_ _=>rfl)))) rfl)) ak))))) rfl))),λds Q h=>?_⟩
 obtain⟨m,xs,G,wi,rfl,hm,hx,se,hG,hw,hR,q⟩:=h
 nofun
 refine⟨⟨by omega,by omega⟩,qv wi (λk=>D.int ((gd m xs (G.map λr=>r.getD k 0):Nat):Int)) (λk hk=>?_) (.inr λ_ _=>rfl) ?_⟩
 ·have hk:=bT.mp hk
  nofun
  refine kq G (λr=>D.int ((r.getD k 0:Nat):Int)) (λr aP=>?_) (.inr λr _=>rfl) ?_
  ·nofun
   have hl:=(hR r aP).1
   exact⟨.int (r.getD k 0:Nat),by rw[kL (by omega) (by omega),iC],rfl,rfl⟩
  ·refine⟨m,xs,G.map λr=>r.getD k 0,?_,hm,by rw[aW,hG],se,hx,λy hy=>?_,?_⟩
   ·rw[cL (G.map _),bx,bV,bx];rfl
   ·obtain⟨r,aP,rfl⟩:=bw.mp hy
    exact(hR r aP).2.getD (by have:=(cj hm).lo;omega) k
   ·exact⟨by rw[sQ,e6],rfl⟩
 ·unfold gM at q
  rw[cL,bx]at q
  exact q
theorem cJ7{tc:fj}{t u:cE}{En:rn}{δ:Dl}(h:∀W:Bool->Dl->Prop,(∀ai,t En ai->W true ai)->(∀ai,u En ai->W false ai)->tc δ W):pq tc t u En δ:=h (λb ai=>if b=true then t En ai else u En ai) (λ_ z=>by rw[if_pos rfl];exact z) (λ_ z=>by rw[if_neg (by decide)];exact z)
abbrev aM2:aU:=λds Q=>∃(m:Bool × Nat) (ns:List Int) (b r w y:Nat),ds=[dJ m,.fz (aS ns),.int b,.int r,.int w,.int y]/\m∈aA/\b<=1000/\r<=64/\1<=w/\w<=64/\∀T:List (List Nat),T.length=r->RT (aa m) w T->Q (.lst true (au true T))
theorem aM3(T:Txt K mg t):aF P w K mg base aK 4 t.S6 t.S7 ["_law_told_here","_law_script","_law_begin","_law_rows","_law_wide","_law_way"] (aV (aM2 )):=by
 refine bh T.UK.F ym (λds Q h=>by obtain⟨m,ns,b,r,wi,y,rfl,hm,hb,aP,hw1,hw,q⟩:=h<;>rfl) λaD A outer s H E hr=>⟨_,(aC (aY (i:=6) ym.nd rfl (aq rfl) (dA cQ))
   (aC (fE eG rfl (jf rfl T.fX (af (bv 3) ak)) (jC (i:=7) ym.nd rfl (bu rfl))
    (aC (C2 (i:=8) ym.nd rfl (aq rfl) [("_law_script",1),("_law_told_here",0),("_law_begin",2),("_law_i",7),("_law_wide",4)] ["_law_k"] rfl (jf rfl T.fX (af (bv 4) ak)) (λ_ _ _ _=>(cB (i:=5) (show(["_law_script","_law_told_here","_law_begin","_law_i","_law_wide","_law_k"]:List Str).Nodup by decide +kernel))) (λ_ _ _ _=>bW) (λ_ _ _ _=>(aE dP (ae (aQ T.ot (qD T) hr (af (bv 0) (af (ae (aE dH (ae (aE dH (bv 2) (ae (aE gy (bv 3) (bv 4))))) (bv 5))) ak)))) (ae (aQ T.yq (Be T) hr (af (bv 1) ak))))) rfl)
    (aC (b8 (bK (fF (cF hr)) (ae (aE dP (bv 5) (ae aw))) (ae aw) (bC _)) (aB (C2 (i:=8) ym.nd rfl (aq rfl) [] ["_law_x"] rfl (dX (bv 8)) (λ_ _ _ _=>(cB (i:=0) (show(["_law_x"]:List Str).Nodup by decide +kernel))) (λ_ _ _ _=>bW) (λ_ _ _ _=>(aE dP (bv 0) (ae aw))) rfl)) bZ)
    (aC (b8 (PW.pt (FD (bK (fF (cF hr)) (ae (aE dP (ae (aE mT (bv 5) (ae aw))) (ae aw))) (ae aw) (bC _)) (FD (bK u9 (bv 7) (ae aw) (bC _)) (KC (bK (fF (cF hr)) (ae (aE dP (ae (aE mT (ae (aQ T.ot (qD T) hr (af (bv 1) (af (ae (aE dH (bv 2) (ae (aE gy (bv 7) (bv 4))))) ak)))) (ae aw))) (ae aw))) (ae aw) (bC _)))))) (aB (aY (i:=8) ym.nd rfl (aq rfl) (aQ T.UJ (aK2 T) hr (af (bv 0) (af (Ar (af (bH (bv 8) (ae aw) (λ_ _=>rfl)) (af (bH (bv 8) (ae (aE eC (bv 4) (ae aw))) (λ_ _=>rfl)) ak))) (af (Ar (af (bH (bv 6) (ae aw) (λ_ _=>rfl)) (af (bH (bv 6) (ae (aE eC (bv 7) (ae aw))) (λ_ _=>rfl)) ak))) (af (bv 4) ak))))))) bZ)
    (aB (pV (i:=6) rfl (by first | exact aq rfl | exact bu (aq rfl)) (em 8)))))))
   (aB (aO (em 6))))),λds Q h=>?_⟩
 obtain⟨m,ns,b,r,wi,y,rfl,hm,hb,aP,hw1,hw,q⟩:=h
 have cO:=(cj hm).lo
 have DZ:=Ae m hm
 have dC9:∀z:Int,z%(aa m:Int)=(((z%(aa m:Int)).toNat:Nat):Int):=λz=>by
  have n0:=jv z (show(aa m:Int)≠0 by omega)
  omega
 have dD0:∀z:Int,(z%(aa m:Int)).toNat<aa m:=λz=>by
  have n1:=jw z (show(0:Int)<(aa m:Int) by omega)
  omega
 refine ax λU hU=>?_
 nofun
 refine⟨by decide,hU _ ?_⟩
 clear hU U
 refine ax λU hU=>?_
 nofun
 refine⟨⟨by omega,by omega⟩,zU (λi δ=>∃(G:List (List Nat)) (o1 o2:Option D),δ=[some (dJ m),some (.fz (aS ns)),some (.int b),some (.int r),some (.int wi),some (.int y),some (.lst true (au true G)),o1,o2]/\G.length=i/\RT (aa m) wi G) ⟨[],_,_,rfl,rfl,λ_ h=>nomatch h⟩ ?_ ?_⟩
 ·rintro i δ hi ⟨G,o1,o2,rfl,hG,hR⟩
  simp only[gN,f7,dw]
  clear hU
  have iw:i*wi<=64*64:=Ko (by omega) hw
  have eiw:(i:Int)*(wi:Int)=((i*wi:Nat):Int):=by rw[qT]
  refine ax λU hU=>?_
  nofun
  refine⟨⟨by omega,by omega⟩,qv wi (λk=>D.int (((jU ns ((b:Int)+(i:Int)*(wi:Int)+(k:Int))%(aa m:Int)).toNat:Nat):Int)) (λk hk=>?_) (.inr λ_ _=>rfl) ?_⟩
  ·have hk:=bT.mp hk
   nofun
   refine⟨iJ.ok (.inl ⟨by omega,by omega⟩),ns,_,rfl,by omega,by omega,m,rfl,by omega,by omega,?_⟩
   dsimp only
   exact⟨by omega,dC9 _⟩
  obtain⟨row,er,qE,uk⟩:∃wd:List Nat,((aH wi).map λ(k:Nat)=>D.int (((jU ns ((b:Int)+(i:Int)*(wi:Int)+(k:Int))%(aa m:Int)).toNat:Nat):Int))=aj wd/\AllLt (aa m) wd/\wd.length=wi:=by
   refine⟨(aH wi).map λ(k:Nat)=>(jU ns ((b:Int)+(i:Int)*(wi:Int)+(k:Int))%(aa m:Int)).toNat,by rw[cL,bx];rfl,λa ha=>?_,by simp⟩
   obtain⟨k,_,rfl⟩:=bw.mp ha
   exact dD0 _
  rw[er]
  refine hU _ ?_
  clear hU
  refine ax λU hU=>?_
  nofun
  have fin:∀row:List Nat,AllLt (aa m) row->row.length=wi->U [some (dJ m),some (D.fz (aS ns)),some (D.int b),some (D.int r),some (D.int wi),some (D.int y),some (D.lst true (au true G)),some (D.int i),some (D.lst true (aj row))]:=by
   clear er qE uk row
   intro row qE uk
   refine hU _ ?_
   clear hU
   refine ax λU hU=>?_
   have fin2:∀row:List Nat,AllLt (aa m) row->row.length=wi->U [some (dJ m),some (D.fz (aS ns)),some (D.int b),some (D.int r),some (D.int wi),some (D.int y),some (D.lst true (au true G)),some (D.int i),some (D.lst true (aj row))]:=by
    clear qE uk row
    intro row qE uk
    refine hU _ ?_
    nofun
    refine⟨⟨_,rfl⟩,by omega,G++[row],_,_,⟨v9 true G [row],rfl,rfl⟩,by rw[du,hG];rfl,hR.app λx hx=>?_⟩
    rw[fu]at hx
    rw[hx];exact⟨uk,qE⟩
   refine cJ7 λW wt wf=>?_
   have Jt:∀z:Bool,z=false->W z [some (dJ m),some (D.fz (aS ns)),some (D.int (b:Nat)),some (D.int r),some (D.int wi),some (D.int y),some (D.lst true (au true G)),some (D.int i),some (D.lst true (aj row))]:=λz hz=>by
    subst hz
    refine wf _ ?_
    nofun
    exact fin2 row qE uk
   dsimp only[ rE,mO,rF,rG,pq,dT,mM,nR,nS,dC,oY,nU,ph,pf,pj,rD,nX,sH,pT,sJ,sM,rp,rq,rz,rA,rB,rC,oZ,sD,pO,pP,ii,pH,rT,pJ,rW,rX,rY,rZ,r6,r9,iI,ik,sj,sk,so,sq,pL,pM,mU,sA,sC,gN,sN,sF,rH,rK,rM,rN,rO,rP,sO,sP,mP,jE,eM,jD,gY,oB,qL,uC,xa,nV,je,jB,pQ,pS,mZ,sU,vL,sX,pY,sV,iQ,vO,vM,vN,cI,gR,iF,ju,ft,xb,aX,qV,qW,dw,f7,uD,exists_eq_left',exists_eq_left,D.bl.injEq,D.int.injEq,D.lst.injEq,D.fz.injEq,D.str.injEq,D.tup.injEq,uE,and_true,true_and,bA,eU,ky,kZ,vg,vh,vj,vk,vm,vn,eI,j9,lU,vt,vv,vw,vx,vy,bV,i9,sQ,vo,vp,vq,fP,oW,xg,xh,qG,e6,xi,xj,uu,vD,vE,vF,vG,vH,vI,vJ,lW,ke,sR,jF,pW,vA,sT,vz,pX,vB,vC,kI,sS,if_true,uF,if_false,reduceIte,vK,decide_eq_true_eq,eN,jj,m8,vS,kJ,vR,rJ,sZ,sW,qe,qf,qg,tE,qm,tK,tL,dM,og,jJ,tF,qk,tR,tO,tP,tS,tT,tU,tX,tW,tY,tZ,kg]
   nofun
   refine⟨mS (by decide) (by decide),by decide,?_⟩
   split
   ·split
    ·rename_i h0
     refine⟨iJ.ok (.inl ⟨by omega,by omega⟩),ns,_,rfl,by omega,by omega,?_⟩
     dsimp only
     refine⟨mS (by decide) (by decide),by decide,?_⟩
     cases hc:decide (jU ns ((b:Int)+(i:Int)*(wi:Int))/64%2=1)with
     | false=>exact Jt _ rfl
     | true =>
      refine wt _ ?_
      dsimp only[ rE,mO,rF,rG,pq,dT,mM,nR,nS,dC,oY,nU,ph,pf,pj,rD,nX,sH,pT,sJ,sM,rp,rq,rz,rA,rB,rC,oZ,sD,pO,pP,ii,pH,rT,pJ,rW,rX,rY,rZ,r6,r9,iI,ik,sj,sk,so,sq,pL,pM,mU,sA,sC,gN,sN,sF,rH,rK,rM,rN,rO,rP,sO,sP,mP,jE,eM,jD,gY,oB,qL,uC,xa,nV,je,jB,pQ,pS,mZ,sU,vL,sX,pY,sV,iQ,vO,vM,vN,cI,gR,iF,ju,ft,xb,aX,qV,qW,dw,f7,uD,exists_eq_left',exists_eq_left,D.bl.injEq,D.int.injEq,D.lst.injEq,D.fz.injEq,D.str.injEq,D.tup.injEq,uE,and_true,true_and,bA,eU,ky,kZ,vg,vh,vj,vk,vm,vn,eI,j9,lU,vt,vv,vw,vx,vy,bV,i9,sQ,vo,vp,vq,fP,oW,xg,xh,qG,e6,xi,xj,uu,vD,vE,vF,vG,vH,vI,vJ,lW,ke,sR,jF,pW,vA,sT,vz,pX,vB,vC,kI,sS,if_true,uF,if_false,reduceIte,vK,decide_eq_true_eq,eN,jj,m8,vS,kJ,vR,rJ,sZ,sW,qe,qf,qg,tE,qm,tK,tL,dM,og,jJ,tF,qk,tR,tO,tP,tS,tT,tU,tX,tW,tY,tZ,kg]
      nofun
      have g0:0<G.length:=by omega
      have g1:i-1<G.length:=by omega
      have l0:0<aa m:=by omega
      refine⟨.int (row.getD 0 0:Nat),by rw[kL (by omega) (by show 0<row.length;omega)];rfl,.int (row.getD (wi-1) 0:Nat),by rw[kL (by omega) (by omega),show((wi:Int)-1).toNat=wi-1 by omega],by decide,.lst true (aj G[0]),tG true g0,.lst true (aj G[i-1]),by rw[show((i:Int)-1)=((i-1:Nat):Int) by omega];exact tG true g1,by decide,?_⟩
      refine⟨m,[row.getD 0 0,row.getD (wi-1) 0],[G[0],G[i-1]],wi,by rw[kM,kM];rfl,hm,λx hx=>?_,by show 2<=64;omega,rfl,by omega,λx hx=>?_,fo _,fin2 _ (G6 hm _ rfl) (we _ _ _ _)⟩
      ·simp only[cw,gE,or_false]at hx
       rcases hx with rfl | rfl
       ·exact qE.getD l0 _
       ·exact qE.getD l0 _
      ·simp only[cw,gE,or_false]at hx
       rcases hx with rfl | rfl
       ·exact hR _ (cN g0)
       ·exact hR _ (cN g1)
    ·exact Jt _ rfl
   ·exact Jt _ rfl
  refine⟨by decide,?_⟩
  split
  ·refine oq row (λ(i:Nat)=>D.int ((i%2:Nat):Int)) (λx hx=>?_) (.inr λ_ _=>rfl) ?_
   ·nofun
    exact⟨by decide,by omega⟩
   ·have:=fin (row.map (· % 2)) (λa ha=>by
     obtain⟨x,_,rfl⟩:=bw.mp ha
     omega) (by rw[aW];exact uk)
    rw[cL,bx]at this
    exact this
  ·exact fin row qE uk
 ·rintro δ ⟨G,o1,o2,rfl,hG,hR⟩
  refine hU _ ?_
  nofun
  exact q G hG hR
theorem Ju{m:Bool × Nat}(hm:m∈aA){G:List (List Nat)}(hR:RT (aa m) (ag G) G)(h:G.length<ag G)(hw:ag G<=64):eZ m G:=by
 refine⟨hm,hR,by omega,hw,?_⟩
 obtain⟨⟨H,I⟩,iR,_⟩:=gL hm hR
 have f:=I.C9 hm iR
 have r:=cr5 hm hR hR λi hi=>by
  rw[aL,aM hi]
  exact bP.of (cN hi)
 unfold cZ
 omega
theorem V6{m:Bool × Nat}(hm:m∈aA){G:List (List Nat)}(hR:RT (aa m) (ag G) G)(h:G.length<ag G):∃Fb,gB m G=some Fb:=by
 cases e:gB m G with
 | some Fb=>exact⟨Fb,rfl⟩
 | none=>exact absurd (OW hm (by omega) hR e (aH (ag G)) (Hw (cg _))) (Hx hm hR (by rw[bN];exact h))
abbrev aO5(t:cR):aU:=λds Q=>∃(m:Bool × Nat) (ns:List Int),ds=[dJ m,.fz (aS ns),fD t.bo t.br m]/\m∈aA/\∀(G:List (List Nat)) (k:Kd),eZ m G->1<=G.length->2<=ag G->ag G<=12->HA m G k->ag G<=5->(∃Fb,gB m G=some Fb/\Fb.length=hZ G k)->Q (eD t m G k)
theorem aO6(T:Txt K mg t)(hB:Bm mg base):aF P w K mg base aK 7 t.S8 t.S9 ["_law_told_here","_law_script","_law_field_here"] (xM [t.ud,t.ue] (aV (aO5 t))):=by
 refine Gz T.DK.F ub (λds Q h=>by obtain⟨m,ns,rfl,hm,q⟩:=h<;>rfl) λaD A outer s H E hT hr=>⟨_,(aC (aY (i:=3) ub.nd rfl (aq rfl) (aQ T.ot (qD T) hr (af (bv 1) (af (ae aw) ak))))
   (aC (aY (i:=4) ub.nd rfl (bu rfl) (aE dH (ae aw) (ae (aE dP (ae (aE mT (bv 3) (ae aw))) (ae aw)))))
   (aC (aY (i:=5) ub.nd rfl (aq rfl) (aQ T.ot (qD T) hr (af (bv 1) (af (ae aw) ak))))
   (aC (aY (i:=6) ub.nd rfl (aq rfl) (aQ T.yq (Be T) hr (af (bv 0) ak)))
   (aC (b8 (PW.pt (FD (bK (fF (cF hr)) (ae (aE dP (bv 3) (ae aw))) (ae aw) (bC _)) (KC (bK u9 (bv 6) (ae aw) (bC _))))) (aC (aY (i:=4) ub.nd rfl (bu rfl) (di (cK7 rfl) (by rfl) T.dp1 γ (af (bv 4) (af (ae (aE eC (bv 6) (ae aw))) ak))))
    (aB (aO (yf ya T.dr9 ((aF4 T).mono (by decide)) hr rfl T.dp0 T.ds1 jA (af (bv 2) (af (bv 4) (af (ae (aE dH (ae aw) (ae (aE dP (bv 5) (ae (aE eC (bv 4) (ae aw))))))) (af (ae (aE dP (ae (aE mT (bv 5) (ae aw))) (ae (aE eC (bv 6) (ae aw))))) ak)))))))) bZ)
   (aC (b8 (bK (fF (cF hr)) (ae (aE dP (bv 3) (ae aw))) (ae aw) (bC _)) (aB (aO (yf ya T.dr8 ((aA5 T).mono (by decide)) hr rfl T.do9 T.U8.b jA (af (bv 2) (af (bv 4) ak))))) bZ)
   (aC (aY (i:=7) ub.nd rfl (aq rfl) (aE dH (ae aw) (ae (aE dP (bv 5) (ae (aE eC (bv 4) (ae aw)))))))
   (aC (b8 (bK (fF (cF hr)) (ae (aE dP (ae (aE mT (bv 3) (ae aw))) (ae aw))) (ae aw) (bC _)) (aC (aY (i:=8) ub.nd rfl (bu rfl) (aQ T.IQ (V4 T) hr (af (ae (aQ T.ot (qD T) hr (af (bv 1) (af (ae aw) ak)))) (af (bv 6) (af (ae (aE gy (bv 7) (bv 4))) ak)))))
    (aB (aO (yf ya T.Ur ((V3 T).mono (by decide)) hr rfl T.Um T.Jd.b jA (af (bv 2) (af (Hy (cq [("_law_row",8),("_law_wide",4)] ["_law_k"] rfl (jf rfl T.fX (af (bv 7) ak)) (λ_ _ _ _=>(cB (i:=2) (show(["_law_row","_law_wide","_law_k"]:List Str).Nodup by decide +kernel))) (λ_ _ _ _=>bW) (λ_ _ _ _=>(vQ (bv 0) (pU (ae (aE gy (bv 2) (bv 1)))) (pU (ae (aE dH (ae (aE gy (bv 2) (bv 1))) (bv 1)))))) rfl)) ak)))))) bZ)
   (aB (aO (yf ya T.Ur ((V3 T).mono (by decide)) hr rfl T.Um T.Jd.b jA (af (bv 2) (af (Hy (aQ T.UK (aM3 T) hr (af (bv 0) (af (bv 1) (af (ae aw) (af (bv 7) (af (bv 4) (af (ae (aE dP (ae (aE mT (bv 5) (ae aw))) (ae aw))) ak)))))))) ak))))))))))))),λds Q h=>?_⟩
 obtain⟨m,ns,rfl,hm,q⟩:=h
 have hF:=cj hm
 have cO:=hF.lo
 have Js:=hF.hi
 have DZ:=Ae m hm
 refine ax λU hU=>?_
 nofun
 refine⟨ns,1,rfl,by decide,by decide,hU _ ?_⟩
 clear hU U
 generalize jU ns 1=pk
 refine ax λU hU=>?_
 nofun
 obtain⟨n,en,zb,hn5⟩:∃k:Nat,2+pk/3%4=k/\2<=k/\k<=5:=⟨(2+pk/3%4).toNat,by omega,by omega,by omega⟩
 rw[en]
 refine⟨mS (by decide) (by decide),by decide,hU _ ?_⟩
 clear hU U en
 refine ax λU hU=>?_
 nofun
 refine⟨ns,2,rfl,by decide,by decide,hU _ ?_⟩
 clear hU U
 generalize jU ns 2=mr
 refine ax λU hU=>?_
 nofun
 refine⟨m,rfl,by omega,by omega,hU _ ?_⟩
 clear hU U
 refine ax λU hU=>?_
 nofun
 refine⟨by decide,?_⟩
 suffices h:U [some (dJ m),some (D.fz (aS ns)),some (fD t.bo t.br m),some (D.int pk),some (D.int n),some (D.int mr),some (D.int (aa m)),none,none] by
  split
  ·split
   ·clear hU h
    refine ax λU hU=>?_
    nofun
    obtain⟨n',en,dP3,hnM,dP5⟩:∃k:Nat,(if(aa m:Int)-1<n then(aa m:Int)-1 else n)=k/\2<=k/\k+1<=aa m/\k<=5:=⟨(if(aa m:Int)-1<n then(aa m:Int)-1 else n).toNat,by split<;>omega,by split<;>omega,by split<;>omega,by split<;>omega⟩
    rw[en]
    refine hU _ ?_
    clear hU U en
    nofun
    obtain⟨e,ee,he1,hen⟩:∃k:Nat,1+mr%((n':Int)-1)=k/\1<=k/\k+1<=n':=by
     have n0:=jv mr (show(n':Int)-1≠0 by omega)
     have n1:=jw mr (show 0<(n':Int)-1 by omega)
     exact⟨(1+mr%((n':Int)-1)).toNat,by omega,by omega,by omega⟩
    obtain⟨f,ef,hf⟩:∃f:Nat,mr/64%((aa m:Int)-1)=f/\f+2<=aa m:=by
     have n0:=jv (mr/64) (show(aa m:Int)-1≠0 by omega)
     have n1:=jw (mr/64) (show 0<(aa m:Int)-1 by omega)
     exact⟨(mr/64%((aa m:Int)-1)).toNat,by omega,by omega⟩
    rw[ee,ef]
    refine⟨by omega,mS (by decide) (by decide),by omega,_,_,⟨m,n',e,f,rfl,hm,by omega,by omega,by omega,by omega,by omega,rfl,rfl⟩,?_⟩
    rw[eR,xY]
    obtain⟨g1,g2,g3⟩:=O7 hm f n' (show 1<=e by omega)
    exact q (iU m f (aH n') e) (.xX e f) (Ju hm (by rw[g3];exact g1) (by omega) (by omega)) (by omega) (by omega) (by omega) ⟨cn8 hm (by omega) g3,by show 1<=e+1;omega,λ_ _ z=>by cases z;rw[g3];exact⟨rfl,by omega,by omega,by omega,by omega⟩⟩ (by omega) ⟨aH (e+1),by rw[(Hz hm (f:=f) (e:=e) (by omega)).first hm (by omega) g3,if_pos (by omega)],bN⟩
   ·exact h
  ·exact h
 refine hU _ ?_
 clear hU U
 refine ax λU hU=>?_
 nofun
 refine⟨by decide,?_⟩
 split
 ·refine⟨_,_,⟨m,n,rfl,hm,by omega,by omega,rfl,rfl⟩,?_⟩
  obtain⟨r1,r2,r3⟩:=AB hm (show 2<=n by omega)
  rw[xY]
  have Bi:RT (aa m) (ag (fV m n)) (fV m n):=by rw[r3];exact r1
  have aR:oo m (fV m n) (ag (fV m n)):=by rw[r3];exact cm6 hm (by omega)
  obtain⟨Fb,eF⟩:=V6 hm Bi (by omega)
  refine q (fV m n) .rep (Ju hm Bi (by omega) (by omega)) (by omega) (by omega) (by omega) ⟨aR,by show 1<=ag (fV m n);omega,λ_ _ z=>nomatch z⟩ (by omega) ⟨Fb,eF,?_⟩
  obtain⟨f1,f2,-,-⟩:=tQ hm (by omega) Bi eF
  obtain⟨l1,l2,l3⟩:=PD hm (by omega) Bi eF
  have l4:=PC hm Bi aR l1 (by omega)
  have l5:=oj (AH f1) (l':=aH (ag (fV m n))) λa ha=>bT.mpr (f1.2 a ha)
  rw[bN]at l5
  show Fb.length=ag (fV m n)
  omega
 refine hU _ ?_
 clear hU U
 refine ax λU hU=>?_
 nofun
 obtain⟨e,ee,he1,hen⟩:∃k:Nat,1+mr%((n:Int)-1)=k/\1<=k/\k+1<=n:=by
  have n0:=jv mr (show(n:Int)-1≠0 by omega)
  have n1:=jw mr (show 0<(n:Int)-1 by omega)
  exact⟨(1+mr%((n:Int)-1)).toNat,by omega,by omega,by omega⟩
 rw[ee]
 refine⟨by omega,hU _ ?_⟩
 clear hU U ee
 have fin:∀G:List (List Nat),G.length=e->RT (aa m) n G->(D.lst false (au false G)).pl=true/\∃ns xs,V2 t [fD t.bo t.br m,D.lst false (au false G)] ns xs/\Q (D.obj t.gC ns (yG D.sh xs)):=λG lG hG=>by
  have wG:ag G=n:=tJ hG λz=>by rw[z]at lG;exact absurd lG (by show ¬ 0=e;omega)
  rw[<-wG]at hG
  obtain⟨Fb,eF⟩:=V6 hm hG (by omega)
  have cG:=Ju hm hG (by omega) (by omega)
  have fs:=tQ hm (by omega) hG eF
  have aG:HA m G (.xW Fb.length):=⟨O8 hm hG λS hS hl=>fs.2.2.2 S hS (.inl hl),fs.2.1,λ_ _ z=>nomatch z⟩
  refine⟨by rw[eI,og];rfl,_,_,⟨m,G,Fb,rfl,cG,by omega,by omega,by omega,by omega,eF,rfl,rfl⟩,?_⟩
  rw[eR,xY]
  exact q G (.xW Fb.length) cG (by omega) (by omega) (by omega) aG (by omega) ⟨Fb,eF,rfl⟩
 refine ax λU hU=>?_
 nofun
 refine⟨mS (by decide) (by decide),by decide,?_⟩
 split
 ·clear hU
  refine ax λU hU=>?_
  nofun
  have dP6:e*n<=4*5:=Ko (by omega) hn5
  refine⟨ns,20,rfl,by decide,by decide,iJ.ok (.inl ⟨by omega,by omega⟩),jU ns 20,aa m,e*n,by rw[<-qT];rfl,by omega,by omega,by omega,λc cl ca=>⟨rfl,hU _ ?_⟩⟩
  clear hU U
  nofun
  refine⟨by omega,qv e (λk=>D.lst true (aj ((c.drop (k*n)).take n))) (λk hk=>?_) (.inr λ_ _=>fo _) ?_⟩
  ·have hk:=bT.mp hk
   nofun
   refine⟨iJ.ok (.inl ⟨by omega,by omega⟩),iJ.ok (.inl ⟨by omega,by omega⟩),?_⟩
   rw[<-qT,<- yL,MW,Kb]
  ·rw[show((aH e).map λk=>D.lst true (aj ((c.drop (k*n)).take n)))=au true ((aH e).map λk=>(c.drop (k*n)).take n) by unfold au;rw[bx];rfl,bV,dM]
   refine fin _ (by rw[aW,bN]) λr aP=>?_
   obtain⟨k,hk,rfl⟩:=bw.mp aP
   have hk:=bT.mp hk
   have:(k+1)*n<=e*n:=Nat.mul_le_mul_right _ (by omega)
   rw[JO]at this
   exact⟨by rw[fZ,iD];omega,λx hx=>ca x (nG (qR hx))⟩
 refine hU _ ?_
 clear hU U
 nofun
 obtain⟨y,ey⟩:∃k:Nat,mr/64%4=k:=⟨(mr/64%4).toNat,by omega⟩
 rw[ey]
 refine⟨mS (by decide) (by decide),by decide,m,ns,20,e,n,y,rfl,hm,by decide,by omega,by omega,by omega,λG lG hG=>?_⟩
 dsimp only
 rw[bV,dM]
 exact fin G lG hG
abbrev V7(t:cR):aU:=λds Q=>∃(m:Bool × Nat) (G:List (List Nat)) (b:Nat),ds=[eD t m G (.xW b)]/\Q (.int (b:Nat))
theorem as0(T:Txt K mg t):aF P w K mg base aK 1 t.Ip t.Ta ["self"] (aV (V7 t)):=by
 refine bh T.U9.F aq4 (λds Q h=>by obtain⟨m,G,b,rfl,q⟩:=h<;>rfl) λaD A outer s H E hr=>⟨_,(aB (aO (bX (cA (K:=K) (bv 0))))),λds Q h=>?_⟩
 obtain⟨m,G,b,rfl,q⟩:=h
 nofun
 exact⟨_,_,_,_,rfl,T.wD,T.Vg,rfl,rfl,q⟩
abbrev V8(t:cR):aU:=λds Q=>∃(m:Bool × Nat) (G:List (List Nat)),ds=[eD t m G .rep]/\Q (.int (ag G:Nat))
theorem aq1(T:Txt K mg t):aF P w K mg base aK 1 t.Iq t.Tc ["self"] (aV (V8 t)):=by
 refine bh T.Va.F ap8 (λds Q h=>by obtain⟨m,G,rfl,q⟩:=h<;>rfl) λaD A outer s H E hr=>⟨_,(aB (aO (bX (cA (K:=K) (bv 0))))),λds Q h=>?_⟩
 obtain⟨m,G,rfl,q⟩:=h
 nofun
 exact qC T m G .rep ⟨rfl,q⟩
abbrev V9(t:cR):aU:=λds Q=>∃(m:Bool × Nat) (G:List (List Nat)) (e f:Nat),ds=[eD t m G (.xX e f)]/\Q (.int ((e+1:Nat):Int))
theorem at3(T:Txt K mg t):aF P w K mg base aK 1 t.Ir t.Td ["self"] (aV (V9 t)):=by
 refine bh T.Vb.F as4 (λds Q h=>by obtain⟨m,G,e,f,rfl,q⟩:=h<;>rfl) λaD A outer s H E hr=>⟨_,(aB (aO (aE dH (cA (K:=K) (bv 0)) (ae aw)))),λds Q h=>?_⟩
 obtain⟨m,G,e,f,rfl,q⟩:=h
 nofun
 exact⟨_,_,_,_,rfl,T.ui,T.Vs,rfl,q⟩
abbrev aK3(t:cR):aU:=λds Q=>∃(m:Bool × Nat) (G:List (List Nat)) (k:Kd),ds=[eD t m G k]/\eZ m G/\Q (.lst true (au true G))
theorem D0(T:Txt K mg t):aF P w K mg base aK 2 t.AO t.Te ["self"] (aV (aK3 t)):=by
 refine bh T.A6.F aJ3 (λds Q h=>by obtain⟨m,G,k,rfl,hc,q⟩:=h<;>rfl) λaD A outer s H E hr=>⟨_,(aB (aO (aQ T.II (VM T) hr (af (cA (K:=K) (bv 0)) ak)))),λds Q h=>?_⟩
 obtain⟨m,G,k,rfl,hc,q⟩:=h
 have hl:=hc.len
 nofun
 exact Vx T m G k ⟨_,by rw[bV,dM],by omega,by rw[fP,l6,kZ,e6],q⟩
abbrev aI0(t:cR):aU:=λds Q=>∃(m:Bool × Nat) (G:List (List Nat)) (k:Kd),ds=[eD t m G k]/\ag G<=12/\Q .az
theorem Jv(T:Txt K mg t):aF P w K mg base aK 1 t.Tf t.Tg ["code"] (aV (aI0 t)):=by
 refine bh T.DL.F aG6 (λds Q h=>by obtain⟨m,G,k,rfl,hw,q⟩:=h<;>rfl) λaD A outer s H E hr=>⟨_,(aB (b8 (bK u9 (cA (K:=K) (bv 0)) (ae aw) (bC _)) (aB zH) bZ)),λds Q h=>?_⟩
 obtain⟨m,G,k,rfl,hw,q⟩:=h
 nofun
 refine qC T m G k ?_
 dsimp only
 rw[if_neg (by omega)]
 exact q
abbrev aR9(t:cR):aU:=λds Q=>∃(m:Bool × Nat) (G:List (List Nat)),ds=[fD t.bo t.br m,.lst false (au false G)]/\m∈aA/\G.length<=900/\RT (aa m) (ag G) G/\ag G<=900/\(∀r∈bf m G,∃x∈r,x≠0)/\Q (.lst true (au true (jo m (bf m G) (ag G))))
theorem aS0(T:Txt K mg t):aF P w K mg base aK 4 t.Th t.Ti ["field","table"] (aV (aR9 t)):=by
 refine bh T.UL.F aR4 (λds Q h=>by obtain⟨m,G,rfl,hm,hG,hR,hw,hn,q⟩:=h<;>rfl) λaD A outer s H E hr=>⟨_,(aB (aO (aQ T.IK (VR T) hr (af (bv 0) (af (ae (aQ T.AW (DU T) hr (af (bv 0) (af (bv 1) ak)))) (af (ae (aQ T.uh (wH T) hr (af (bv 1) ak))) ak)))))),λds Q h=>?_⟩
 obtain⟨m,G,rfl,hm,hG,hR,hw,hn,q⟩:=h
 nofun
 refine⟨m,G,rfl,hm,hG,hR,hw,?_⟩
 have I:=Aj hm hR (ag G)
 refine⟨G,rfl,by omega,λr aP=>by rw[(hR r aP).1];omega,m,bf m G,ag G,by rw[bV,dM,lU],hm,?_,by omega,I.a,hn,?_,q⟩
 ·show(ki m G (ag G)).1.length<=1000
  have:=I.l
  omega
 ·rw[show ∀X:List (List Nat),(D.lst true (au true X)).fr=true from λX=>by rw[fP,l6];rfl,e6]
abbrev aS1:aU:=λds Q=>∃(G:List (List Nat)) (F:List Nat) (N w:Nat),ds=[.lst false (au false G),.lst false (aj F)]/\RT N w G/\(∀j∈F,j<w)/\G.length<=1000/\F.length<=1000/\Q (.lst true (au true (bj G F)))
theorem Jw(T:Txt K mg t):aF P w K mg base aK 1 t.Tj t.Tn ["table","places"] (aV (aS1 )):=by
 refine bh T.DM.F aR5 (λds Q h=>by obtain⟨G,F,N,wi,rfl,hR,hF,hG,hFl,q⟩:=h<;>rfl) λaD A outer s H E hr=>⟨_,(aB (aO (cq [("places",1)] ["row"] rfl (dX (bv 0)) (λ_ _ _ _=>(cB (i:=1) (show(["places","row"]:List Str).Nodup by decide +kernel))) (λ_ _ _ _=>bW) (by exact λ_ _ _ _=>(cq [("row",1)] ["j"] rfl (dX (bv 0)) (λ_ _ _ _=>(cB (i:=1) (show(["row","j"]:List Str).Nodup by decide +kernel))) (λ_ _ _ _=>bW) (λ_ _ _ _=>(bX (bH (bv 0) (bv 1) (λ_ _=>rfl)))) rfl)) rfl))),λds Q h=>?_⟩
 obtain⟨G,F,N,wi,rfl,hR,hF,hG,hFl,q⟩:=h
 nofun
 refine kq G (λr=>D.lst true (aj (F.map λj=>r.getD j 0))) (λr aP=>?_) (.inr λr _=>fo _) ?_
 ·have hl:=(hR r aP).1
  nofun
  refine oq F (λ(j:Nat)=>D.int ((r.getD j 0:Nat):Int)) (λj hj=>?_) (.inr λ_ _=>rfl) ?_
  ·have:=hF j hj
   nofun
   exact⟨.int (r.getD j 0:Nat),by rw[kL (by omega) (by omega),iC],rfl,rfl⟩
  ·rw[cL,bx];rfl
 ·unfold bj au at q
  rw[bx]at q
  exact q
abbrev aI1(t:cR):aU:=λds Q=>∃(m:Bool × Nat) (G:List (List Nat)),ds=[fD t.bo t.br m,.lst false (au false G)]/\m∈aA/\G.length<=64/\RT (aa m) (ag G) G/\0<ag G/\ag G<=12/\Q (DX ((gB m G).map (km m G)))
theorem aI2(T:Txt K mg t):aF P w K mg base aK 5 t.To t.Tp ["field","table"] (aV (aI1 t)):=by
 refine bh T.UM.F yn (λds Q h=>by obtain⟨m,G,rfl,hm,hG,hR,mh,hw,q⟩:=h<;>rfl) λaD A outer s H E hr=>⟨_,(aC (aY (i:=2) yn.nd rfl (aq rfl) (aQ T.IM (V0 T) hr (af (bv 0) (af (bv 1) ak))))
   (aC (b8 (bK ME (bv 2) (ae u0) (bC _)) (aB (aO u0)) bZ)
   (aC (aY (i:=3) yn.nd rfl (aq rfl) (cJ9 (aQ T.UL (aS0 T) hr (af (bv 0) (af (ae (aQ T.DM (Jw T) hr (af (bv 1) (af (bv 2) ak)))) ak))) (λ_ _=>rfl)))
   (aC (aY (i:=4) yn.nd rfl (aq rfl) (gj (P:=P) (w:=w) (K:=K) (mg:=mg) (base:=base) (n:=2) (bv 0) (hr.mono (by decide)) (af (ae aw) (af (bH (bv 3) (ae aw) (λ_ _=>rfl)) ak))))
   (aC (aY (i:=5) yn.nd rfl (aq rfl) (aE gy (ae (dA (eJ aw cQ))) (ae (aQ T.uh (wH T) hr (af (bv 1) ak)))))
   (zI 2 (aC (fE eG rfl (cC6 rfl T.wC (bv 2) (gj (P:=P) (w:=w) (K:=K) (mg:=mg) (base:=base) (n:=1) (bv 0) (hr.mono (by decide)) (af (bv 4) (af (bv 3) ak)))) (m6 (i1:=6) (i2:=7) rfl yn.nd rfl (aq rfl) rfl (aq rfl))
    (aB (Co (i:=5) rfl (by first | exact aq rfl | exact bu (aq rfl)) (bX (bv 7)) (bv 6))))
   (aB (aO (em 5)))))))))),λds Q h=>?_⟩
 obtain⟨m,G,rfl,hm,hG,hR,mh,hw,q⟩:=h
 have cO:=(cj hm).lo
 refine ax λU hU=>?_
 nofun
 refine⟨m,G,rfl,hm,hG,hR,mh,by omega,hU _ ?_⟩
 clear hU U
 cases e:gB m G with
 | none =>
  rw[e]at q
  dsimp only[DX]
  refine ax λU hU=>?_
  nofun
  exact q
 | some F =>
  rw[e]at q
  obtain⟨⟨f,fs,ef⟩,k1,k2,k3,_⟩:=OX hm mh hR e
  obtain⟨s1,s2,_,_,_⟩:=OY hm mh hR e
  obtain⟨a1,a2,_,_⟩:=tQ hm mh hR e
  have fl:=a1.len
  have D1:G≠[]:=λz=>by rw[z]at mh;exact absurd mh (by decide)
  have p1:=(oi (F:=F) (show 0<aa m by omega) hR).1
  have p2:=(oi (F:=F) (show 0<aa m by omega) hR).2
  have eW:=tJ p1 (λz=>D1 (by unfold bj at z;exact Ki.mp z))
  rw[<-eW]at p1
  obtain⟨⟨Hd,I⟩,iR,il,sp⟩:=gL hm p1
  have ek:jo m (bf m (bj G F)) (ag (bj G F))=hE m G F::fs.map (dN m (bf m (bj G F)) F.length):=by
   unfold jo hE
   rw[eW,ef];rfl
  have hn:∀r∈bf m (bj G F),∃x∈r,x≠0:=λr aP=>by
   obtain⟨i,hi,rfl⟩:=fh aP
   have:=(I.wb hm iR hi).2
   rw[kj hi]at this
   exact this
  dsimp only[DX]
  refine ax λU hU=>?_
  nofun
  refine hU _ ?_
  clear hU U
  refine ax λU hU=>?_
  nofun
  refine⟨G,F,aa m,ag G,rfl,hR,a1.2,by omega,by omega,?_⟩
  refine⟨by rw[fP,l6];rfl,m,bj G F,by rw[bV,dM],hm,by omega,p1,by omega,hn,?_⟩
  rw[ek]
  refine⟨by rw[fP,l6,ky,e6],_,_,rfl,hU _ ?_⟩
  clear hU U
  have kl:=cS hm k2 0
  refine ax λU hU=>?_
  nofun
  refine⟨_,_,_,_,tD _ _ m,Jg T m,GH m _ (by decide),.int ((hE m G F).getD 0 0:Nat),by rw[kL (by omega) (by omega)];rfl,m,1,(hE m G F).getD 0 0,by rw[tD];rfl,hm,cO,kl,λz=>absurd z (k3 0 a2),λ_ iv Bf Aw=>?_⟩
  have ei:kO m ((hE m G F).getD 0 0)=iv:=xR hm Bf Aw
  refine⟨rfl,hU _ ?_⟩
  clear hU U
  refine ax λU hU=>?_
  nofun
  have er:(aX (ag G) [D.int 0]).flatten=aj (aX (ag G) 0):=by
   rw[List.flatten_replicate_singleton,cL,yS];rfl
  refine⟨by decide,G,rfl,by omega,λr aP=>by rw[(hR r aP).1];omega,?_⟩
  dsimp only
  rw[iC,er]
  refine⟨⟨by omega,by omega,?_,rfl⟩,hU _ ?_⟩
  ·show 1*_<=_;omega
  clear hU U
  refine⟨_,rfl,?_⟩
  rw[kM]
  simp only[f7,dw]
  obtain⟨C,ns,xs,sp,e1,e2,e3,e4⟩:=VE (P:=P) (w:=w) (base:=base) T hm
  have el:(hE m G F).map (gm m iv)=hJ m G F:=by unfold hJ;rw[ei]
  refine ax λU hU=>?_
  nofun
  refine⟨C,ns,xs,sp,e1,e2,e3,e4 (hE m G F) iv _ Bf k2 (by omega) ⟨fo _,?_⟩⟩
  rw[el]
  refine⟨_,_,rfl,rfl,?_⟩
  rw[m8]
  refine fC.mk (λi δ=>∃o6 o7,δ=[some (fD t.bo t.br m),some (D.lst false (au false G)),some (D.lst false (aj F)),some (D.lst true (aj (hE m G F))),some (D.int iv),some (D.lst true (aj (((F.zip (hJ m G F)).take i).foldl (λr z=>r.set z.1 z.2) (aX (ag G) 0)))),o6,o7]) ⟨_,_,rfl⟩ ?_ ?_
  ·rintro i d δ hd ⟨o6,o7,rfl⟩
   obtain⟨hi,hj,rfl⟩:=cp0 hd
   clear hd hU
   have xl:=GS (λz:Nat × Nat=>z.1) (λz=>z.2) ((F.zip (hJ m G F)).take i) (aX (ag G) 0)
   rw[eQ]at xl
   have hp:=a1.2 _ (cN hi)
   nofun
   refine⟨_,F[i],rfl,?_,_,_,?_,rfl,rfl⟩
   ·rw[CS (by omega) (by rw[eN,xl];omega)];rfl
   ·rw[GL,ku,yN]
    have ez:(F.zip (hJ m G F))[i]?=some (F[i],(hJ m G F)[i]):=by
     rw[Eo,oE,aM hi,aM hj]
    rw[ez];rfl
  ·rintro δ ⟨o6,o7,rfl⟩
   refine hU _ ?_
   nofun
   rw[show(F.zip (hJ m G F)).take (dQ (aj F) (aj (hJ m G F))).length=F.zip (hJ m G F) from wW (by rw[cc5,yM];exact cg _)]
   exact q
abbrev aP7(t:cR):aU:=λds Q=>∃(m:Bool × Nat) (G:List (List Nat)) (k:Kd) (Fb:List Nat),ds=[eD t m G k]/\eZ m G/\1<=ag G/\ag G<=6/\gB m G=some Fb/\Q (.lst true (aj (km m G Fb)))
theorem aP8(T:Txt K mg t):aF P w K mg base aK 6 t.Tq t.Tr ["code"] (aV (aP7 t)):=by
 refine bh T.UN.F aP2 (λds Q h=>by obtain⟨m,G,k,Fb,rfl,hc,w1,w6,eF,q⟩:=h<;>rfl) λaD A outer s H E hr=>⟨_,(aC (zJ (ae (aQ T.DL (Jv T) hr (af (bv 0) ak))))
   (aB (aO (aQ T.UM (aI2 T) hr (af (cA (K:=K) (bv 0)) (af (ae (xP (P:=P) (w:=w) (K:=K) (mg:=mg) (base:=base) (n:=2) (bv 0) (hr.mono (by decide)))) ak)))))),λds Q h=>?_⟩
 obtain⟨m,G,k,Fb,rfl,hc,w1,w6,eF,q⟩:=h
 refine ax λU hU=>?_
 nofun
 rw[qt]
 refine⟨m,G,k,rfl,by omega,by rw[xZ];rfl,hU _ ?_⟩
 clear hU U
 nofun
 refine wF T m G k ?_
 refine Bc T T.DD T.DE T.DF (D0 T) T.A6.b (by decide) ⟨m,G,k,rfl,hc,?_⟩
 dsimp only
 refine⟨m,G,by rw[fJ,bV,dM],hc.hm,hc.len,hc.rt,by omega,by omega,?_⟩
 rw[eF]
 refine⟨?_,q⟩
 show(_||(D.lst true (aj (km m G Fb))).fr)=true
 rw[fo,e6]
abbrev aF7:aU:=λds Q=>∃(o:Bool) (xs:List D),ds=[.lst false xs,.int (xs.length:Nat)]/\Q .az
theorem aF8(T:Txt K mg t):aF P w K mg base aK 1 t.Ts t.Tt ["signs","length"] (aV (aF7 )):=by
 refine bh T.UO.F aE5 (λds Q h=>by obtain⟨o,xs,rfl,q⟩:=h<;>rfl) λaD A outer s H E hr=>⟨_,(aB (b8 (bK (gZ (cF hr)) (ae (di (fG) (by rfl) T.fL fB (af (bv 0) ak))) (bv 1) (bC _)) (aB zH) bZ)),λds Q h=>?_⟩
 obtain⟨o,xs,rfl,q⟩:=h
 nofun
 rw[if_neg (by decide)]
 exact q
abbrev aC3(t:cR):aU:=λds Q=>∃(m:Bool × Nat) (l:List Nat),ds=[fD t.bo t.br m,.lst false (aj l)]/\m∈aA/\AllLt (aa m) l/\l.length<=64/\Q .az
theorem aC4(T:Txt K mg t):aF P w K mg base aK 2 t.Tu t.Tv ["field","signs"] (aV (aC3 t)):=by
 refine bh T.UP.F Q3 (λds Q h=>by obtain⟨m,l,rfl,hm,hl,Jp,q⟩:=h<;>rfl) λaD A outer s H E hr=>⟨_,(aB (fE eG rfl (vP rfl T.wB (af (bv 1) ak)) (m6 (i1:=2) (i2:=3) rfl Q3.nd rfl (aq rfl) rfl (aq rfl))
    (aB (b8 (iN (fQ (ae (gj (P:=P) (w:=w) (K:=K) (mg:=mg) (base:=base) (n:=1) (bv 0) (hr.mono (by decide)) (af (bv 3) ak))))) (aB zH) bZ)))),λds Q h=>?_⟩
 obtain⟨m,l,rfl,hm,hl,Jp,q⟩:=h
 nofun
 refine fC.mk (λj δ=>∃o1 o2,δ=[some (fD t.bo t.br m),some (D.lst false (aj l)),o1,o2]) ⟨_,_,rfl⟩ ?_ ?_
 ·rintro j d δ hd ⟨o1,o2,rfl⟩
  obtain⟨h1,rfl⟩:=b85 hd
  have:=hl _ (cN h1)
  nofun
  refine DW T m (.inl ⟨_,rfl,?_⟩)
  rw[decide_eq_true (by omega),decide_eq_true (by omega)]
  exact⟨true,rfl,by rw[if_neg (by decide)];exact⟨_,_,rfl,rfl⟩⟩
 ·rintro δ ⟨o1,o2,rfl⟩
  exact q
abbrev Wa(K:Frag):aU:=λds Q=>∃(C:Addr) (p:Nat) (xs ys:List Nat),ds=[vZ C p,.lst false (aj xs),.lst false (aj ys)]/\cW K C/\bq K C "products"/\p∈ip/\xs.length=ys.length/\xs.length<=64/\(∀x∈xs,x<aa (true,p))/\(∀y∈ys,y<aa (true,p))/\Q (.int ((dv (gm (true,p)) xs ys).foldl (· ^^^ ·) 0:Nat))
theorem aI3(T:Txt K mg t):aF P w K mg base aK 1 t.Iu t.Tw ["self","xs","ys"] (aV (Wa K)):=by
 refine bh T.Vc.F AM (λds Q h=>by obtain⟨C,p,xs,ys,rfl,hC,hn,hp,hl,mi,hx,hy,q⟩:=h<;>rfl) λaD A outer s H E hr=>⟨_,(aC (aY (i:=3) AM.nd rfl (aq rfl) (bX (cA (K:=K) (bv 0))))
   (aC (aY (i:=4) AM.nd rfl (aq rfl) aw)
   (aC (fE eG rfl (xI rfl T.wC (af (bv 1) (af (bv 2) ak))) (m6 (i1:=5) (i2:=6) rfl AM.nd rfl (aq rfl) rfl (aq rfl))
    (aB (zK (i:=4) AM.nd rfl (aq rfl) (bH (bH (bv 3) (bv 5) (λ_ _=>rfl)) (bv 6) (λ_ _=>rfl)) Cj)))
   (aB (aO (em 4)))))),λds Q h=>?_⟩
 obtain⟨C,p,xs,ys,rfl,hC,hn,hp,hl,mi,hx,hy,q⟩:=h
 refine ax λU hU=>?_
 nofun
 refine⟨C,_,_,_,rfl,hC,hn,rfl,by rw[eI,bU6];rfl,hU _ ?_⟩
 clear hU U
 refine ax λU hU=>?_
 nofun
 refine hU _ ?_
 clear hU U
 refine ax λU hU=>?_
 nofun
 refine⟨_,_,rfl,rfl,?_⟩
 refine fC.mk (λi δ=>∃o1 o2,δ=[some (vZ C p),some (.lst false (aj xs)),some (.lst false (aj ys)),some (.lst false (m9 (fl (true,p)) (fS (fl (true,p))))),some (.int (((dv (gm (true,p)) xs ys).take i).foldl (· ^^^ ·) 0:Nat)),o1,o2]) ⟨none,none,rfl⟩ ?_ ?_
 ·rintro i d δ hd ⟨o1,o2,rfl⟩
  obtain⟨hi,hj,rfl⟩:∃(hi:i<xs.length) (hj:i<ys.length),d=.tup [.int (xs[i]:Nat),.int (ys[i]:Nat)]:=by
   unfold dQ at hd
   rw[cL,cL,BB]at hd
   by_cases hi:i<xs.length
   ·have hj:i<ys.length:=by omega
    rw[oE,aM hi,aM hj]at hd
    exact⟨hi,hj,(cT hd).symm⟩
   ·rw[eE (by simp;omega)]at hd;cases hd
  have lY:=hx xs[i] (cN _)
  have Bh:=hy ys[i] (cN _)
  nofun
  refine⟨_,CN hp lY,_,CM hp lY Bh,_,_,?_,rfl,rfl⟩
  rw[oV,List.take_succ,yN,oE,aM hi,aM hj];rfl
 ·rintro δ ⟨o1,o2,rfl⟩
  refine hU _ ?_
  nofun
  have e:(dQ (aj xs) (aj ys)).length=xs.length:=by unfold dQ;rw[kA,eN,eN];omega
  rw[e,wW (by rw[kA];omega)]
  exact q
abbrev Wb(K:Frag):aU:=λds Q=>∃(C:Addr) (p:Nat) (xs ys:List Int),ds=[vY C p,.lst false (aS xs),.lst false (aS ys)]/\cW K C/\bq K C "prime"/\0<p/\xs.length=ys.length/\xs.length<=64/\(∀x∈xs,0<=x/\x<64)/\(∀y∈ys,0<=y/\y<64)/\Q (.int ((dv (· * ·) xs ys).sum%p))
theorem aC5(T:Txt K mg t):aF P w K mg base aK 1 t.Iw t.Tx ["self","xs","ys"] (aV (Wb K)):=by
 refine bh T.Vd.F aB4 (λds Q h=>by obtain⟨C,p,xs,ys,rfl,hC,hn,hp,hl,mi,hx,hy,q⟩:=h<;>rfl) λaD A outer s H E hr=>⟨_,(aB (aO (aE dP (ae (di (cH1 rfl) (by rfl) T.dp2 ε (af (ae (cq [] ["x","y"] rfl (xI rfl T.wC (af (bv 1) (af (bv 2) ak))) (λ_ _ _ _=>(x6 (i1:=0) (i2:=1) (show(["x","y"]:List Str).Nodup by decide +kernel))) (λ_ _ _ _=>bW) (λ_ _ _ _=>(aE gy (bv 0) (bv 1))) rfl)) ak))) (cA (K:=K) (bv 0))))),λds Q h=>?_⟩
 obtain⟨C,p,xs,ys,rfl,hC,hn,hp,hl,mi,hx,hy,q⟩:=h
 nofun
 refine⟨_,_,rfl,rfl,?_⟩
 refine GF (xs.zip ys) (λz=>D.tup [.int z.1,.int z.2]) (λz=>D.int (z.1*z.2)) (NO xs ys) (λa b h=>by injection h with h;simp at h;exact Prod.ext h.1 h.2) (λz hz=>?_) GG (.inr λ_ _=>rfl) (by rw[yM,sL];omega) ?_
 ·have z1:=hx z.1 (uo hz).1
  have z2:=hy z.2 (uo hz).2
  nofun
  exact iJ.ok (.inr ⟨by omega,by omega⟩)
 ·refine⟨(xs.zip ys).map λz=>z.1*z.2,?_,?_⟩
  ·unfold aS;rw[bx];rfl
  ·nofun
   refine⟨C,_,_,.int p,rfl,hC,hn,rfl,?_⟩
   refine⟨by omega,?_⟩
   rw[List.map_zip_eq_zipWith]
   exact q
theorem Jx(T:Txt K mg t){m:Bool × Nat}(hm:m∈aA):∃C ns zs sp,fD t.bo t.br m=.obj C ns zs/\jk P w K mg base 1 "dot" C sp/\("dot":Str) ∉ ns/\∀(xs ys:List Nat) (Q:D->Prop),xs.length=ys.length->xs.length<=64->(∀x∈xs,x<aa m)->(∀y∈ys,y<aa m)->Q (.int (gd m xs ys:Nat))->sp [.obj C ns zs,.lst false (aj xs),.lst false (aj ys)] Q:=by
 have hF:=cj hm
 obtain⟨k,n⟩:=m
 cases k with
 | true=>exact⟨_,_,_,Wa K,rfl,⟨T.fM,_,_,_,T.aH3,aI3 T,T.Vc.b⟩,by decide,λxs ys Q hl mi hx hy q=>⟨_,n,xs,ys,rfl,T.fM,T.A9,xO hm,hl,mi,hx,hy,q⟩⟩
 | false =>
  have uj:n<=64:=hF.hi
  have l2:2<=n:=hF.lo
  have cx:∀l:List Nat,(∀x∈l,x<aa (false,n))->∀z∈l.map (λ(n:Nat)=>(n:Int)),0<=z/\z<64:=λl h z hz=>by
   obtain⟨x,hx,rfl⟩:=bw.mp hz
   have:x<n:=h x hx
   omega
  refine⟨_,_,_,Wb K,rfl,⟨T.gq,_,_,_,T.aB8,aC5 T,T.Vd.b⟩,by decide,λxs ys Q hl mi hx hy q=>⟨_,n,xs.map (λ(n:Nat)=>(n:Int)),ys.map (λ(n:Nat)=>(n:Int)),rfl,T.gq,T.yt,by omega,by rw[aW,aW];exact hl,by rw[aW];exact mi,cx xs hx,cx ys hy,?_⟩⟩
  have e:((gd (false,n) xs ys:Nat):Int)=(dv (· * ·) (xs.map λ(n:Nat)=>(n:Int)) (ys.map λ(n:Nat)=>(n:Int))).sum%n:=by
   unfold gd
   rw[NS (by omega) _ _ (by omega),Ep,NT,NU,qS]
  rw[<-e];exact q
abbrev aS2(t:cR):aU:=λds Q=>∃(m:Bool × Nat) (xs:List Nat) (G:List (List Nat)),ds=[fD t.bo t.br m,.lst false (aj xs),.lst false (au false G)]/\m∈aA/\AllLt (aa m) xs/\G.length=xs.length/\xs.length<=64/\RT (aa m) (ag G) G/\ag G<=64/\Q (.lst true (aj (gM m xs G (ag G))))
theorem aS3(T:Txt K mg t):aF P w K mg base aK 3 t.Tz t.TB ["field","row","table"] (aV (aS2 t)):=by
 refine bh T.UQ.F aR6 (λds Q h=>by obtain⟨m,xs,G,rfl,hm,hx,hG,se,hR,hw,q⟩:=h<;>rfl) λaD A outer s H E hr=>⟨_,(aB (aO (cq [("row",1),("field",0)] ["column"] rfl (dX (ae (aQ T.DJ (Jl T) hr (af (bv 2) ak)))) (λ_ _ _ _=>(cB (i:=2) (show(["row","field","column"]:List Str).Nodup by decide +kernel))) (λ_ _ _ _=>bW) (λ_ _ _ _=>(gj (P:=P) (w:=w) (K:=K) (mg:=mg) (base:=base) (n:=1) (bv 1) (hr.mono (by decide)) (af (bv 0) (af (bv 2) ak)))) rfl))),λds Q h=>?_⟩
 obtain⟨m,xs,G,rfl,hm,hx,hG,se,hR,hw,q⟩:=h
 have cO:=(cj hm).lo
 obtain⟨C,ns,zs,sp,e1,e2,e3,e4⟩:=Jx (P:=P) (w:=w) (base:=base) T hm
 nofun
 refine⟨G,rfl,by omega,λr aP=>(hR r aP).1,by omega,?_⟩
 dsimp only
 refine⟨_,rfl,?_⟩
 refine lX (dR G) (λr=>D.lst false (aj r)) (λr=>D.int ((gd m xs r:Nat):Int)) (dM true _) (λa b h=>Ag a b h) (λr aP=>?_) (.inr λr _=>rfl) (by unfold dR;rw[aW,bN,sL];omega) ?_
 ·nofun
  unfold dR at aP
  obtain⟨j,hj,rfl⟩:=bw.mp aP
  exact⟨C,ns,zs,sp,e1,e2,e3,e4 _ _ _ (by rw[aW,hG]) se hx (λy hy=>by
   obtain⟨r,aP,rfl⟩:=bw.mp hy
   exact(hR r aP).2.getD (by omega) j) rfl⟩
 ·unfold gM at q
  rw[cL,bx]at q
  unfold dR
  rw[bx]
  exact q
abbrev aI4(t:cR):aU:=λds Q=>∃(m:Bool × Nat) (G:List (List Nat)) (k:Kd) (l:List Nat),ds=[eD t m G k,.lst false (aj l)]/\eZ m G/\l.length=(cZ m G).length/\AllLt (aa m) l/\Q (.lst true (aj (qu m G l)))
theorem aI5(T:Txt K mg t):aF P w K mg base aK 4 t.AQ t.TC ["self","message"] (aV (aI4 t)):=by
 refine bh T.Ve.F aG7 (λds Q h=>by obtain⟨m,G,k,l,rfl,hc,hl,al,q⟩:=h<;>rfl) λaD A outer s H E hr=>⟨_,(aC (zJ (ae (aQ T.UO (aF8 T) hr (af (bv 1) (af (cA (K:=K) (bv 0)) ak)))))
   (aC (zJ (ae (aQ T.UP (aC4 T) hr (af (cA (K:=K) (bv 0)) (af (bv 1) ak)))))
   (aB (aO (aQ T.UQ (aS3 T) hr (af (cA (K:=K) (bv 0)) (af (bv 1) (af (cA (K:=K) (bv 0)) ak)))))))),λds Q h=>?_⟩
 obtain⟨m,G,k,l,rfl,hc,hl,al,q⟩:=h
 have hw:=hc.O4
 have hf:=hc.iS
 refine ax λU hU=>?_
 nofun
 refine Vy T m G k ⟨true,aj l,by rw[eN,hl];rfl,rfl,hU _ ?_⟩
 clear hU U
 refine ax λU hU=>?_
 nofun
 refine wF T m G k ⟨m,l,by rw[fJ],hc.hm,al,by omega,by rw[NQ];rfl,hU _ ?_⟩
 clear hU U
 nofun
 refine wF T m G k (cp2 T m G k ⟨m,l,nv m G,by rw[fJ,bV,dM],hc.hm,al,by rw[wo];exact hl.symm,by omega,by rw[hc.wide];exact hc.rows,by rw[hc.wide];omega,by rw[fo,e6],?_⟩)
 rw[hc.wide]
 exact q
abbrev aK4:aU:=λds Q=>∃l:List Nat,ds=[.lst false (aj l)]/\l.length<=100/\Q (.int (wt l:Nat))
theorem Wc(T:Txt K mg t):aF P w K mg base aK 1 t.TF t.TH ["_law_word"] (aV (aK4 )):=by
 refine bh T.IT.F aJ4 (λds Q h=>by obtain⟨l,rfl,hl,q⟩:=h<;>rfl) λaD A outer s H E hr=>⟨_,(aB (aO (di (fG) (by rfl) T.fL fB (af (ae (cq [] ["_law_x"] rfl (dX (bv 0)) (λ_ _ _ _=>(cB (i:=0) (show(["_law_x"]:List Str).Nodup by decide +kernel))) (λ_ _ _ _=>(Cg (bK (gZ (cF hr)) (bv 0) (ae aw) (bC _)))) (λ_ _ _ _=>(bX (bv 0))) rfl)) ak)))),λds Q h=>?_⟩
 obtain⟨l,rfl,hl,q⟩:=h
 nofun
 refine CV l (λ(i:Nat)=>D.int (i:Int)) (λ(i:Nat)=>D.int (i:Int)) (λj=>decide (j≠0)) (Cu l) xJ (λj hj=>?_) (.inr λ_ _ _=>rfl) (by rw[sL];omega) ?_
 ·nofun
  refine⟨?_,λ_=>trivial⟩
  rw[<-decide_not]
  exact decide_eq_decide.mpr (by omega)
 ·dsimp only
  rw[aW]
  exact q
abbrev aP9:aU:=λds Q=>∃w p:Nat,ds=[.int w,.int p]/\w<=1000/\Q (.lst true (aj (fg w p)))
theorem We(T:Txt K mg t):aF P w K mg base aK 1 t.TJ t.TK ["width","place"] (aV (aP9 )):=by
 refine bh T.IU.F aP3 (λds Q h=>by obtain⟨w,p,rfl,hw,q⟩:=h<;>rfl) λaD A outer s H E hr=>⟨_,(aB (aO (cq [("place",1)] ["j"] rfl (jf rfl T.fX (af (bv 0) ak)) (λ_ _ _ _=>(cB (i:=1) (show(["place","j"]:List Str).Nodup by decide +kernel))) (λ_ _ _ _=>bW) (λ_ _ _ _=>(FF (bK (fF (cF hr)) (bv 1) (bv 0) (bC _)) aw aw)) rfl))),λds Q h=>?_⟩
 obtain⟨w,p,rfl,hw,q⟩:=h
 nofun
 refine⟨⟨by omega,by omega⟩,qv w (λj=>D.int (((if j=p then 1 else 0:Nat):Nat):Int)) (λj hj=>?_) (.inr λ_ _=>rfl) ?_⟩
 ·nofun
  by_cases h:j=p
  ·rw[if_pos (by omega),if_pos h];rfl
  ·rw[if_neg (by omega),if_neg h];rfl
 ·unfold fg at q
  rw[cL,bx]at q
  exact q
def Jy:Option (List (List Nat))->D
 | some V=>.lst true (au true V)
 | none=>.az
theorem b63(G:List (List Nat)):(fR (au false G)).map D.sh=(aH G.length).map λ(i:Nat)=>D.tup [.int (i:Int),.lst false (aj (G.getD i []))]:=by
 apply yF
 intro i
 unfold fR au
 rw[bM,uz,bM,bM]
 by_cases hi:i<G.length
 ·rw[aM hi,h9 hi]
  show some (D.tup [D.int (i:Int),D.lst false (aj G[i])]).sh=some (D.tup [D.int (i:Int),D.lst false (aj (G.getD i []))])
  rw[kj hi,i9]
  simp only[cI,gR,lU,kM]
 ·rw[eE (show G.length<=i by omega),eE (show(aH G.length).length<=i by simpa using hi)];rfl
theorem cd4(G:List (List Nat)):au true (cY G)=(aH G.length).map λi=>D.lst true (aj (G.getD i []++fg G.length i)):=by
 apply yF
 intro i
 unfold au cY
 rw[bM,uz,bM]
 by_cases hi:i<G.length
 ·rw[aM hi,h9 hi]
  show some (D.lst true (aj (G[i]++fg G.length i)))=some (D.lst true (aj (G.getD i []++fg G.length i)))
  rw[kj hi]
 ·rw[eE (show G.length<=i by omega),eE (show(aH G.length).length<=i by simpa using hi)];rfl
abbrev aQ0(t:cR):aU:=λds Q=>∃(m:Bool × Nat) (G:List (List Nat)),ds=[fD t.bo t.br m,.lst false (au false G)]/\m∈aA/\0<G.length/\G.length<=64/\RT (aa m) (ag G) G/\ag G<=64/\Q (Jy (jq m G))
theorem Wf(T:Txt K mg t):aF P w K mg base aK 4 t.TL t.TM ["field","table"] (aV (aQ0 t)):=by
 refine bh T.IV.F Dy (λds Q h=>by obtain⟨m,G,rfl,hm,D1,hG,hR,hw,q⟩:=h<;>rfl) λaD A outer s H E hr=>⟨_,(aC (aY (i:=2) Dy.nd rfl (bu rfl) (aQ T.uh (wH T) hr (af (bv 1) ak)))
   (aC (C2 (i:=3) Dy.nd rfl (aq rfl) [("table",1)] ["i","row"] rfl (vP rfl T.wB (af (bv 1) ak)) (λ_ _ _ _=>(x6 (i1:=1) (i2:=2) (show(["table","i","row"]:List Str).Nodup by decide +kernel))) (λ_ _ _ _=>bW) (λ_ _ _ _=>(aE dH (bv 2) (ae (aQ T.IU (We T) hr (af (ae (di (fG) (by rfl) T.fL fB (af (bv 0) ak))) (af (bv 1) ak)))))) rfl)
   (aC (aY (i:=4) Dy.nd rfl (aq rfl) (cd8 (aQ T.AW (DU T) hr (af (bv 0) (af (bv 3) ak))) vf (pU (bv 2))))
   (aC (b8 (bK (gZ (cF hr)) (ae (aQ T.DI (Ji T) hr (af (bv 4) ak))) (ae (bG6 rfl (by rfl) T.ug (by rfl) T.fX (bv 2))) (bC _)) (aB (aO u0)) bZ)
   (aB (aO (cq [("width",2)] ["row"] rfl (dX (bv 4)) (λ_ _ _ _=>(cB (i:=1) (show(["width","row"]:List Str).Nodup by decide +kernel))) (λ_ _ _ _=>bW) (λ_ _ _ _=>(vQ (bv 1) (pU (bv 0)) vf)) rfl))))))),λds Q h=>?_⟩
 obtain⟨m,G,rfl,hm,D1,hG,hR,hw,q⟩:=h
 have cO:=(cj hm).lo
 have DV:∀X:List (List Nat),(D.lst true (au true X)).fr=true:=λX=>by rw[fP,l6];rfl
 obtain⟨b1,b2⟩:=De (show 1<aa m by omega) D1 hR
 have b3:=b2
 rw[<-b1]at b3
 obtain⟨⟨Hd,I⟩,iR,il,sp⟩:=gL hm b3
 rw[wg]at il
 refine ax λU hU=>?_
 nofun
 refine⟨G,rfl,by omega,λr aP=>by rw[(hR r aP).1];omega,hU _ ?_⟩
 clear hU U
 refine ax λU hU=>?_
 nofun
 refine GF (aH G.length) (λ(i:Nat)=>D.tup [.int (i:Int),.lst false (aj (G.getD i []))]) (λi=>D.lst true (aj (G.getD i []++fg G.length i))) (b63 G) (λa b h=>?_) (λi hi=>?_) GG (.inr λz _=>fo _) (by rw[bN,sL];omega) ?_
 ·injection h with h
  simp only[uE,D.int.injEq]at h
  omega
 ·have hi:=bT.mp hi
  have hl:=(hR _ (bQ hi [])).1
  nofun
  refine⟨G.length,i,rfl,by omega,?_⟩
  dsimp only
  exact⟨⟨by rw[eN,eN,As];omega,jj _,jj _⟩,kJ _ _⟩
 rw[<-cd4]
 refine hU _ ?_
 clear hU U
 refine ax λU hU=>?_
 nofun
 refine⟨m,cY G,rfl,hm,by rw[wg];omega,b3,by omega,DV _,_,rfl,?_⟩
 rw[tF,Gg]
 unfold jq at q
 refine hU _ ?_
 clear hU U
 have Wg:RT (aa m) (ag G+G.length) ((bf m (cY G)).take (ag G)):=λr aP=>by rw[<-b1];exact iR r (qR aP)
 have hn:∀r∈(bf m (cY G)).take (ag G),∃x∈r,x≠0:=λr aP=>by
  obtain⟨i,hi,rfl⟩:=fh (qR aP)
  have:=(I.wb hm iR hi).2
  rw[kj hi]at this
  exact this
 have lR:((bf m (cY G)).take (ag G)).length<=64:=by rw[fZ];omega
 generalize (bf m (cY G)).take (ag G)=R at q Wg hn lR
 refine ax λU hU=>?_
 nofun
 refine⟨R,rfl,by omega,λr aP=>⟨by rw[(Wg r aP).1];omega,hn r aP⟩,fo _,ag G,rfl,by omega,CQ 5 true _,?_⟩
 rw[v7]
 by_cases c:R.map a8=aH (ag G)
 ·rw[decide_eq_true c,if_neg (by decide)]
  rw[if_pos c]at q
  refine hU _ ?_
  nofun
  refine kq R (λr=>D.lst true (aj (r.drop (ag G)))) (λr aP=>?_) (.inr λr _=>fo _) ?_
  ·nofun
   rw[Cv]
  ·have e:Jy (some (R.map λr=>r.drop (ag G)))=.lst true (R.map λr=>D.lst true (aj (r.drop (ag G)))):=by
    show D.lst true (au true _)=_
    unfold au
    rw[bx];rfl
   rw[e]at q
   exact q
 ·rw[decide_eq_false c,if_pos (by decide)]
  rw[if_neg c]at q
  exact q
abbrev aM4(t:cR):aU:=λds Q=>∃(m:Bool × Nat) (G L:List (List Nat)),ds=[fD t.bo t.br m,.lst false (au false G),.lst false (au false L)]/\m∈aA/\0<G.length/\G.length<=64/\RT (aa m) (ag G) G/\ag G<=64/\L.length<=5000/\(∀S∈L,S.length<=64/\∀j∈S,j<ag G)/\Q (.lst true (L.map λS=>.tup [.lst true (aj S),.lst true (au true (iY m G S))]))
theorem aM5(T:Txt K mg t):aF P w K mg base aK 5 t.TN t.TQ ["_law_field_here","_law_checks","_law_sets_here"] (aV (aM4 t)):=by
 refine bh T.UR.F yo (λds Q h=>by obtain⟨m,G,L,rfl,hm,g0,gl,hR,hw,hL,hS,q⟩:=h<;>rfl) λaD A outer s H E hr=>⟨_,(aC (aY (i:=3) yo.nd rfl (aq rfl) (dA cQ))
   (aC (fE eG rfl (rL (bX (bv 2))) (jC (i:=4) yo.nd rfl (bu rfl))
    (aC (aY (i:=5) yo.nd rfl (aq rfl) (dA cQ))
    (aC (b8 (bK (gZ (cF hr)) (bv 4) (ae (dA cQ)) (bC _)) (aB (aY (i:=5) yo.nd rfl (aq rfl) (aQ T.IV (Wf T) hr (af (bv 0) (af (ae (cq [("_law_places",4)] ["_law_row"] rfl (dX (bv 1)) (λ_ _ _ _=>(cB (i:=1) (show(["_law_places","_law_row"]:List Str).Nodup by decide +kernel))) (λ_ _ _ _=>bW) (by exact λ_ _ _ _=>(cq [("_law_row",1)] ["_law_k"] rfl (dX (bv 0)) (λ_ _ _ _=>(cB (i:=1) (show(["_law_row","_law_k"]:List Str).Nodup by decide +kernel))) (λ_ _ _ _=>bW) (λ_ _ _ _=>(bX (bH (bv 0) (bv 1) (λ_ _=>rfl)))) rfl)) rfl)) ak))))) bZ)
    (aC (b8 (bK ME (bv 5) (ae u0) (bC _)) (aB (C2 (i:=5) yo.nd rfl (aq rfl) [("_law_checks",1)] ["_law_k"] rfl (dX (bv 4)) (λ_ _ _ _=>(cB (i:=1) (show(["_law_checks","_law_k"]:List Str).Nodup by decide +kernel))) (λ_ _ _ _=>bW) (by exact λ_ _ _ _=>(cq [] ["_law_row"] rfl (dX (bv 0)) (λ_ _ _ _=>(cB (i:=0) (show(["_law_row"]:List Str).Nodup by decide +kernel))) (λ_ _ _ _=>bW) (λ_ _ _ _=>aw) rfl)) rfl)) bZ)
    (aB (pV (i:=3) rfl (by first | exact aq rfl | exact bu (aq rfl)) (xC (eJ (xF (xG) (by rfl) T.ug rj (af (bv 4) ak)) (eJ (em 5) cQ)))))))))
   (aB (aO (em 3))))),λds Q h=>?_⟩
 obtain⟨m,G,L,rfl,hm,g0,gl,hR,hw,hL,hS,q⟩:=h
 have cO:=(cj hm).lo
 refine ax λU hU=>?_
 nofun
 refine⟨by decide,hU _ ?_⟩
 clear hU U
 refine ax λU hU=>?_
 nofun
 refine fC.mk (λj δ=>∃o4 o5,δ=[some (fD t.bo t.br m),some (D.lst false (au false G)),some (D.lst false (au false L)),some (D.lst true ((L.take j).map λS=>D.tup [.lst true (aj S),.lst true (au true (iY m G S))])),o4,o5]) ⟨_,_,rfl⟩ ?_ ?_
 ·rintro j d δ hd ⟨o4,o5,rfl⟩
  obtain⟨hj,rfl⟩:=Ds hd
  clear hd hU
  simp only[gN,f7,dw]
  refine ax λU hU=>?_
  nofun
  refine⟨by decide,hU _ ?_⟩
  clear hU
  obtain⟨s1,s2⟩:=hS _ (cN hj)
  obtain⟨p1,p2⟩:=oi (F:=L[j]) (show 0<aa m by omega) hR
  have wp:=xU (F:=L[j]) g0
  refine ax λU hU=>?_
  nofun
  obtain⟨S,eS⟩:∃S,L[j]=S:=⟨_,rfl⟩
  obtain⟨A,eA⟩:∃A,((L.take j).map λS=>D.tup [D.lst true (aj S),D.lst true (au true (iY m G S))])=A:=⟨_,rfl⟩
  have eA':((L.take (j+1)).map λS=>D.tup [D.lst true (aj S),D.lst true (au true (iY m G S))])=A++[D.tup [D.lst true (aj S),D.lst true (au true (iY m G S))]]:=by rw[ku,aM hj,eR,eA,eS];rfl
  have lA:A.length<=5000:=by rw[<-eA,aW,fZ];omega
  rw[eA']at hU
  rw[eS]at s1 s2 p1 p2 wp ⊢
  rw[eA]
  suffices h:∀d,(d=.az/\iY m G S=t8 G S\/d=.lst true (au true (iY m G S)))->U [some (fD t.bo t.br m),some (D.lst false (au false G)),some (D.lst false (au false L)),some (D.lst true A),some (D.lst false (aj S)),some d] by
   refine⟨by decide,rfl,?_⟩
   rw[show D.lst true []=D.lst true (aj []) from rfl,v7]
   by_cases c:S=[]
   ·rw[decide_eq_true c,if_neg (by decide)]
    refine h _ (.inr ?_)
    have:=(yg hm g0 hR S).1
    rw[c]at this ⊢
    rw[mw.mp this];rfl
   ·rw[decide_eq_false c,if_pos (by decide)]
    refine kq G (λr=>D.lst true (aj (S.map λj=>r.getD j 0))) (λr aP=>?_) (.inr λr _=>fo _) ?_
    ·have hl:=(hR r aP).1
     nofun
     refine oq S (λ(j:Nat)=>D.int ((r.getD j 0:Nat):Int)) (λj hj'=>?_) (.inr λ_ _=>rfl) ?_
     ·have:=s2 j hj'
      nofun
      exact⟨.int (r.getD j 0:Nat),by rw[kL (by omega) (by omega),iC],rfl,rfl⟩
     ·rw[cL,bx];rfl
    rw[show(G.map λr=>D.lst true (aj (S.map λj=>r.getD j 0)))=au true (bj G S) by unfold bj au;rw[bx];rfl]
    refine⟨m,bj G S,by rw[bV,dM],hm,by omega,by omega,by rw[wp];exact p1,by omega,?_,?_⟩
    ·cases jq m (bj G S)with
     | none=>exact e6 _
     | some V=>show(_||(D.lst true (au true V)).fr)=true;rw[fP,l6];exact e6 _
    ·refine h _ ?_
     unfold iY
     cases jq m (bj G S)with
     | none=>exact .inl ⟨rfl,rfl⟩
     | some V=>exact .inr rfl
  intro d hd
  refine hU _ ?_
  clear hU
  refine ax λU hU=>?_
  nofun
  suffices h:U [some (fD t.bo t.br m),some (D.lst false (au false G)),some (D.lst false (au false L)),some (D.lst true A),some (D.lst false (aj S)),some (.lst true (au true (iY m G S)))] by
   rcases hd with⟨rfl,ep⟩ | rfl
   ·rw[if_pos rfl]
    rw[ep]at h
    refine oq S (λ_=>D.lst true (aj (aX G.length 0))) (λi _=>?_) (.inr λ_ _=>fo _) ?_
    ·nofun
     refine kq G (λ_=>D.int 0) (λr aP=>?_) (.inr λr _=>rfl) ?_
     ·nofun
     ·rw[List.map_const',cL,yS];rfl
    ·rw[List.map_const']
     unfold t8 au at h
     rw[yS]at h
     exact h
   ·rw[if_neg (by exact iA)]
    exact h
  refine hU _ ?_
  clear hU
  nofun
  exact⟨⟨_,rfl⟩,by decide,by omega,_,_,rfl,rfl⟩
 ·rintro δ ⟨o4,o5,rfl⟩
  refine hU _ ?_
  nofun
  rw[mq]
  exact q
abbrev aO7:aU:=λds Q=>∃b:Bool,ds=[.bl b,.bl b]/\Q (.bl true)
theorem D2(T:Txt K mg t):aF P w K mg base aK 1 t.TR t.TU ["_law_due","_law_found"] (aV (aO7 )):=by
 refine bh T.AX.F aN2 (λds Q h=>by obtain⟨b,rfl,q⟩:=h<;>rfl) λaD A outer s H E hr=>⟨_,(aB (aO (pd (ae (xH (by rfl) T.yp (by rfl) T.IC Fl (bv 1))) (uK (u4 (fF (cF hr)) (bv 1) (bv 0) (bC _)))))),λds Q h=>?_⟩
 obtain⟨b,rfl,q⟩:=h
 nofun
 refine⟨true,rfl,?_⟩
 rw[if_pos rfl,show bS (D.bl b) (D.bl b)=true by cases b<;>rfl]
 exact q
abbrev aI6:aU:=λds Q=>∃(m:Bool × Nat) (ns:List Int) (a s:Nat),ds=[dJ m,.fz (aS ns),.int a,.int s]/\m∈aA/\a<=1000/\s<=64/\∀l:List Nat,l.length=s->AllLt (aa m) l->Q (.lst true (aj l))
theorem aI7(T:Txt K mg t):aF P w K mg base aK 2 t.TV t.TX ["_law_told_here","_law_script","_law_begin","_law_size"] (aV (aI6 )):=by
 refine bh T.US.F aG8 (λds Q h=>by obtain⟨m,ns,a,s,rfl,hm,ha,hs,q⟩:=h<;>rfl) λaD A outer s H E hr=>⟨_,(aC (b8 (bK (fF (cF hr)) (ae (aE dP (ae (aE mT (ae (aQ T.ot (qD T) hr (af (bv 1) (af (ae aw) ak)))) (ae aw))) (ae aw))) (ae aw) (bC _)) (aB (aO (aQ T.IQ (V4 T) hr (af (ae (aQ T.ot (qD T) hr (af (bv 1) (af (bv 2) ak)))) (af (ae (aQ T.yq (Be T) hr (af (bv 0) ak))) (af (bv 3) ak)))))) bZ)
   (aB (aO (cq [("_law_script",1),("_law_told_here",0),("_law_begin",2)] ["_law_k"] rfl (jf rfl T.fX (af (bv 3) ak)) (λ_ _ _ _=>(cB (i:=3) (show(["_law_script","_law_told_here","_law_begin","_law_k"]:List Str).Nodup by decide +kernel))) (λ_ _ _ _=>bW) (λ_ _ _ _=>(aE dP (ae (aQ T.ot (qD T) hr (af (bv 0) (af (ae (aE dH (bv 2) (bv 3))) ak)))) (ae (aQ T.yq (Be T) hr (af (bv 1) ak))))) rfl)))),λds Q h=>?_⟩
 obtain⟨m,ns,a,s,rfl,hm,ha,hs,q⟩:=h
 have cO:=(cj hm).lo
 have Js:=(cj hm).hi
 have DZ:=Ae m hm
 refine ax λU hU=>?_
 nofun
 refine⟨ns,1,rfl,by decide,by decide,mS (by decide) (by decide),by decide,?_⟩
 split
 ·refine⟨ns,a,rfl,by omega,by omega,m,rfl,by omega,by omega,jU ns a,aa m,s,rfl,by omega,by omega,by omega,λc cl ca=>⟨rfl,q c cl ca⟩⟩
 refine hU _ ?_
 clear hU U
 nofun
 refine⟨by omega,qv s (λk=>D.int (((jU ns ((a:Int)+(k:Int))%(aa m:Int)).toNat:Nat):Int)) (λk hk=>?_) (.inr λ_ _=>rfl) ?_⟩
 ·have hk:=bT.mp hk
  nofun
  refine⟨ns,_,rfl,by omega,by omega,m,rfl,by omega,by omega,?_⟩
  dsimp only
  refine⟨by omega,?_⟩
  have n0:=jv (jU ns ((a:Int)+(k:Int))) (show(aa m:Int)≠0 by omega)
  rw[wZ n0]
 ·have:=q ((aH s).map λ(k:Nat)=>(jU ns ((a:Int)+(k:Int))%(aa m:Int)).toNat) (by rw[aW,bN]) λx hx=>by
   obtain⟨k,_,rfl⟩:=bw.mp hx
   have n1:=jw (jU ns ((a:Int)+(k:Int))) (show(0:Int)<(aa m:Int) by omega)
   omega
  rw[cL,bx]at this
  exact this
abbrev aM6:aU:=λds Q=>∃i:Int,ds=[.int i]/\Q (.bl true)
theorem Wh(T:Txt K mg t):aF P w K mg base aK 1 t.TY t.TZ ["_law_x"] (aV (aM6 )):=by
 refine bh T.IW.F aL1 (λds Q h=>by obtain⟨i,rfl,q⟩:=h<;>rfl) λaD A outer s H E hr=>⟨_,(aB (aO (pd (ae (xH (by rfl) T.yp (by rfl) T.Uq L4 (bv 0))) (uK (FE (ae (xH (by rfl) T.yp (by rfl) T.IC Fl (bv 0)))))))),λds Q h=>?_⟩
 obtain⟨i,rfl,q⟩:=h
 nofun
 exact q
abbrev aF9:aU:=λds Q=>∃(l:List Nat) (w n:Nat),ds=[.lst false (aj l),.int w,.int n]/\l.length=w/\w<=1000/\AllLt n l/\Q (.bl true)
theorem aG0(T:Txt K mg t):aF P w K mg base aK 2 t.T1 t.T2 ["_law_row","_law_wide","_law_many_here"] (aV (aF9 )):=by
 refine bh T.UT.F aE6 (λds Q h=>by obtain⟨l,w,n,rfl,hl,hw,ha,q⟩:=h<;>rfl) λaD A outer s H E hr=>⟨_,(aC (b8 (PW.pt (mN (iN (fQ (ae (xH (by rfl) T.yp (by rfl) T.ug rj (bv 0))))) (nL (bK (gZ (cF hr)) (ae (di (fG) (by rfl) T.fL fB (af (bv 0) ak))) (bv 1) (bC _))))) (aB (aO gg)) bZ)
   (aB (aO (di (sE rfl) (by rfl) T.uf rh (af (ae (cq [("_law_many_here",2)] ["_law_x"] rfl (dX (bv 0)) (λ_ _ _ _=>(cB (i:=1) (show(["_law_many_here","_law_x"]:List Str).Nodup by decide +kernel))) (λ_ _ _ _=>bW) (λ_ _ _ _=>(pd (ae (aQ T.IW (Wh T) hr (af (bv 1) ak))) (uK (ve lL pK (ae aw) (bv 1) (bv 0))))) rfl)) ak))))),λds Q h=>?_⟩
 obtain⟨l,w,n,rfl,hl,hw,ha,q⟩:=h
 refine ax λU hU=>?_
 nofun
 rw[if_neg (by rw[hl];simp)]
 refine hU _ ?_
 clear hU U
 nofun
 refine oq l (λ_=>D.bl true) (λi hi=>?_) (.inr λ_ _=>rfl) ?_
 ·nofun
  have:=ha i hi
  refine⟨i,rfl,true,rfl,?_⟩
  rw[if_pos rfl,if_pos (by omega)]
  omega
 ·refine⟨l.map λ_=>true,by unfold lQ;rw[bx];rfl,?_⟩
  have e:(l.map λ_=>true).all id=true:=by simp
  rw[e];exact q
abbrev Wi:aU:=λds Q=>∃(m:Bool × Nat) (G:List (List Nat)) (l:List Nat),ds=[dJ m,.lst false (au false G),.int (ag G:Nat),.lst false (aj l)]/\m∈aA/\G.length<=64/\RT (aa m) (ag G) G/\ag G<=64/\Wd m G l/\Q (.bl true)
theorem Wj(T:Txt K mg t):aF P w K mg base aK 3 t.T3 t.T4 ["_law_told_here","_law_checks","_law_length","_law_word"] (aV (Wi )):=by
 refine bh T.IY.F aG9 (λds Q h=>by obtain⟨m,G,l,rfl,hm,hG,hR,hw,hl,q⟩:=h<;>rfl) λaD A outer s H E hr=>⟨_,(aC (b8 (iN (fQ (ae (aQ T.UT (aG0 T) hr (af (bv 3) (af (bv 2) (af (ae (aQ T.yq (Be T) hr (af (bv 0) ak))) ak))))))) (aB (aO gg)) bZ)
   (aB (aO (FE (ae (di (cF7 rfl) (by rfl) T.Up L1 (af (ae (cq [("_law_told_here",0),("_law_word",3)] ["_law_row"] rfl (dX (bv 1)) (λ_ _ _ _=>(cB (i:=2) (show(["_law_told_here","_law_word","_law_row"]:List Str).Nodup by decide +kernel))) (λ_ _ _ _=>bW) (λ_ _ _ _=>(aQ T.IS (V5 T) hr (af (bv 0) (af (bv 2) (af (bv 1) ak))))) rfl)) ak))))))),λds Q h=>?_⟩
 obtain⟨m,G,l,rfl,hm,hG,hR,hw,hl,q⟩:=h
 have cO:=(cj hm).lo
 have DZ:=Ae m hm
 refine ax λU hU=>?_
 nofun
 refine⟨m,rfl,by omega,by omega,?_⟩
 refine⟨l,ag G,aa m,rfl,hl.ln,by omega,hl.lt,rfl,true,rfl,?_⟩
 rw[if_neg (by decide)]
 refine hU _ ?_
 clear hU U
 nofun
 refine kq G (λ_=>D.int 0) (λr aP=>?_) (.inr λr _=>rfl) ?_
 ·obtain⟨rl,ra⟩:=hR r aP
  have ln:=hl.ln
  nofun
  refine⟨m,r,l,rfl,hm,by omega,by omega,ra,hl.lt,?_⟩
  rw[hl.z r aP]
  rfl
 ·refine⟨G.map λ_=>0,by unfold aS;rw[bx];rfl,?_⟩
  rw[show(G.map λ_=>(0:Int)).any (λx=>x != 0)=false by rw[List.any_eq_false];intro x hx;obtain⟨_,_,rfl⟩:=bw.mp hx;decide]
  exact q
abbrev Bj(n:Nat):aU:=λds Q=>∃(b N k:Nat),ds=[.int b,.int N,.int k]/\k<n/\b<=13/\N<=12/\k<=12/\Q (.lst true (au true (lex N k b)))
theorem Wk{ds:List D}(Q:D->Prop)(h:Bj 0 ds Q):False:=by
 obtain⟨_,_,_,_,h,_⟩:=h
 exact absurd h (Nat.not_lt_zero _)
theorem aM7(T:Txt K mg t)(n:Nat)(ih:aF P w K mg base aK (1+n) t.AR t.AS ["_law_begin","_law_length","_law_many_here"] (aV (Bj  n))):aF P w K mg base aK (1+(n+1)) t.AR t.AS ["_law_begin","_law_length","_law_many_here"] (aV (Bj  (n+1))):=by
 refine bh (k:=1+n) T.AY.F Dz ?_ ?_
 ·intro ds Q h
  obtain⟨b,N,k,rfl,hk,hb,hN,dH5,q⟩:=h<;>rfl
 ·intro aD A outer s H E hr
  refine⟨_,(aC (b8 (bK (fF (cF hr)) (bv 2) (ae aw) (bC _)) (aB (aO (dA (eJ (dA cQ) cQ)))) bZ)
   (aC (aY (i:=3) Dz.nd rfl (aq rfl) (dA cQ))
   (aC (fE eG rfl (xD rfl T.fX (af (bv 0) (af (bv 1) ak))) (jC (i:=4) Dz.nd rfl (aq rfl))
    (aB (fE eG rfl (rL (Cd ih hr rfl T.AY.g T.AY.F.kp T.AY.b jA (af (ae (aE dH (bv 4) (ae aw))) (af (bv 1) (af (ae (aE eC (bv 2) (ae aw))) ak))))) (jC (i:=5) Dz.nd rfl (aq rfl))
     (aB (pV (i:=3) rfl (by first | exact aq rfl | exact bu (aq rfl)) (aE dH (Ar (af (bv 4) ak)) (bv 5)))))))
   (aB (aO (em 3)))))),λds Q h=>?_⟩
  obtain⟨b,N,k,rfl,hk,hb,hN,dH5,q⟩:=h
  refine ax λU hU=>?_
  nofun
  cases k with
  | zero =>
   rw[if_pos (by rfl)]
   exact⟨by decide,by decide,q⟩
  | succ k =>
  rw[if_neg (by omega)]
  refine hU _ ?_
  clear hU U
  refine ax λU hU=>?_
  nofun
  refine⟨by decide,hU _ ?_⟩
  clear hU U
  have iS:=wz N (N-b) (k+1) b rfl
  have Jz:2 ^ (N-b)<=4096:=fY (nD (by decide) (show N-b<=12 by omega)) (by decide)
  refine ax λU hU=>?_
  nofun
  refine⟨b,N,⟨rfl,rfl⟩,by omega,?_⟩
  rw[show((N:Int)-(b:Int)).toNat=N-b by omega]
  refine fC.mk (λj δ=>∃o1 o2,δ=[some (.int b),some (.int N),some (.int ((k+1:Nat):Int)),some (.lst true (au true (t7 N k b j))),o1,o2]) ⟨_,_,rfl⟩ ?_ ?_
  ·rintro j d δ hd ⟨o1,o2,rfl⟩
   obtain⟨hj,rfl⟩:j<N-b/\d=.int ((b+j:Nat):Int):=by
    rw[bM]at hd
    obtain⟨x,hx,rfl⟩:=wX.mp hd
    obtain⟨h1,h2⟩:=kr.mp hx
    rw[bN]at h1
    rw[yO]at h2
    exact⟨h1,by rw[<-h2];rfl⟩
   clear hd hU
   have f1:=Pw N k b (N-b-(j+1)) (j+1)
   rw[show j+1+(N-b-(j+1))=N-b by omega,HJ,du,aW]at f1
   have iS:(t7 N k b (N-b)).length<=2 ^ (N-b):=iS
   have ok:=kX N k (b+j+1)
   rw[HJ]
   nofun
   refine⟨b+j+1,N,k,by rw[show((k+1:Nat):Int)-1=(k:Int) by omega];rfl,by omega,by omega,by omega,by omega,?_⟩
   generalize lex N k (b+j+1)=L at f1 ok ⊢
   generalize t7 N k b j=A at f1 ⊢
   refine⟨_,rfl,?_⟩
   rw[dM]
   refine fC.mk (λi δ=>∃o2,δ=[some (.int b),some (.int N),some (.int ((k+1:Nat):Int)),some (.lst true (au true (A++(L.take i).map ((b+j) :: ·)))),some (.int ((b+j:Nat):Int)),o2]) ⟨_,by rw[List.take_zero,gR,gu]⟩ ?_ ?_
   ·rintro i d δ hd ⟨o2,rfl⟩
    obtain⟨hi,rfl⟩:=Ds hd
    clear hd
    have ol:=(ok _ (cN hi)).1
    have lt:((L.take i).map ((b+j) :: ·)).length=i:=by rw[aW,fZ];omega
    nofun
    refine⟨⟨_,rfl⟩,by decide,by omega,by rw[du,lt];omega,_,?_,rfl⟩
    rw[ku,aM hi,eR,<- da,<- v9 _ (A++_)]
    rfl
   ·rintro δ ⟨o2,rfl⟩
    rw[jJ,mq]
    exact⟨_,_,rfl⟩
  ·rintro δ ⟨o1,o2,rfl⟩
   refine hU _ ?_
   rw[aW,bN]
   nofun
   exact q
theorem Wl(T:Txt K mg t):∀n:Nat,aF P w K mg base aK (1+n) t.AR t.AS ["_law_begin","_law_length","_law_many_here"] (aV (Bj  n))
 | 0=>⟨λ_ _ _ _ ⟨_,_,_,_,_,h,_⟩=>(Wk _ h).elim,λ_ _ _ _ _ _ _ _ _ _ _ _ _ ⟨_,_,_,_,_,h,_⟩=>(Wk _ h).elim⟩
 | n+1=>aM7 T n (Wl T n)
theorem aO8(T:Txt K mg t):aF P w K mg base aK 9 t.AR t.AS ["_law_begin","_law_length","_law_many_here"] (aV (Bj  8)):=Wl T 8
abbrev aQ9:aU:=λds Q=>∃(n k:Nat),ds=[.int n,.int k]/\n<=12/\k<=12/\Q (.lst true (au true (lex n k 0)))
theorem Wm(T:Txt K mg t):aF P w K mg base aK 1 t.T5 t.T6 ["width","size"] (aV (aQ9 )):=by
 refine bh T.IZ.F wA (λds Q h=>by obtain⟨n,k,rfl,hn,hk,q⟩:=h<;>rfl) λaD A outer s H E hr=>⟨_,(aC (aY (i:=2) wA.nd rfl (aq rfl) (dA (eJ (dA cQ) cQ)))
   (aC (fE eG rfl (jf rfl T.fX (af (bv 1) ak)) (jC (i:=3) wA.nd rfl (aq rfl))
    (aC (aY (i:=4) wA.nd rfl (aq rfl) (dA cQ))
    (zI 2 (aC (fE eG rfl (rL (bX (bv 2))) (jC (i:=5) wA.nd rfl (bu rfl))
     (aC (aY (i:=6) wA.nd rfl (aq rfl) (FF (bK (gZ (cF hr)) (bv 5) (ae (dA cQ)) (bC _)) (aE dH (bH (bv 5) (ae (cI0 (ae aw))) (λ_ _=>rfl)) (ae aw)) aw))
     (aB (cC5 (i:=4) rfl (by first | exact aq rfl | exact bu (aq rfl)) (cq [("places",5)] ["place"] rfl (xD rfl T.fX (af (bv 6) (af (bv 0) ak))) (λ_ _ _ _=>(cB (i:=1) (show(["places","place"]:List Str).Nodup by decide +kernel))) (λ_ _ _ _=>bW) (λ_ _ _ _=>(aE dH (bv 0) (Ar (af (bv 1) ak)))) rfl)))))
    (aB (aY (i:=2) wA.nd rfl (aq rfl) (em 4)))))))
   (aB (aO (em 2))))),λds Q h=>?_⟩
 obtain⟨n,k,rfl,hn,hk,q⟩:=h
 refine ax λU hU=>?_
 nofun
 refine⟨by decide,by decide,hU _ ?_⟩
 clear hU U
 refine ax λU hU=>?_
 nofun
 refine⟨⟨by omega,by omega⟩,zU (λi δ=>∃o1 o2 o3 o4,δ=[some (.int n),some (.int k),some (.lst true (au true (lex n i 0))),o1,o2,o3,o4]) ⟨_,_,_,_,rfl⟩ ?_ ?_⟩
 ·rintro i δ hi ⟨o1,o2,o3,o4,rfl⟩
  simp only[gN,f7,dw]
  clear hU
  refine ax λU hU=>?_
  nofun
  refine⟨by decide,hU _ ?_⟩
  clear hU
  have iS:=wz n n i 0 rfl
  have ok:=kX n i 0
  rw[<-Pr n i 0]
  generalize lex n i 0=L at iS ok ⊢
  refine⟨_,rfl,?_⟩
  rw[bV,dM]
  refine ax λU hU=>?_
  nofun
  refine fC.mk (λj δ=>∃o3 o4,δ=[some (.int n),some (.int k),some (.lst false (au false L)),some (.int i),some (.lst true (au true ((L.take j).flatMap (iW n 0)))),o3,o4]) ⟨_,_,rfl⟩ ?_ ?_
  ·rintro j d δ hd ⟨o3,o4,rfl⟩
   obtain⟨hj,rfl⟩:=Ds hd
   clear hd hU
   simp only[gN,f7,dw]
   refine ax λU hU=>?_
   nofun
   suffices h:U [some (D.int n),some (D.int k),some (D.lst false (au false L)),some (D.int i),some (D.lst true (au true ((L.take j).flatMap (iW n 0)))),some (D.lst false (aj L[j])),some (D.int (kW 0 L[j]:Nat))] by
    refine⟨by decide,rfl,?_⟩
    rw[show D.lst true []=D.lst true (aj []) from rfl,v7]
    by_cases c:L[j]=[]
    ·rw[decide_eq_true c,if_neg (by decide)]
     rw[show kW 0 L[j]=0 by rw[c];rfl]at h
     exact h
    ·have l0:0<L[j].length:=List.length_pos_iff.mpr c
     rw[decide_eq_false c,if_pos (by decide)]
     refine⟨_,b50 l0,?_⟩
     rw[Pq l0]at h
     exact h
   refine hU _ ?_
   clear hU U
   have ol:=(ok _ (cN hj)).1
   have Jz:2 ^ n<=4096:=nD (by decide) hn
   have lf:=Pu n 0 (L.take j)
   rw[fZ]at lf
   have b12:kW 0 L[j]<=12:=by
    by_cases c:0<L[j].length
    ·rw[Pq c]
     have:=((ok _ (cN hj)).2.2 _ (bQ (show L[j].length-1<L[j].length by omega) 0)).2
     omega
    ·rw[mw.mp (show L[j].length=0 by omega)]
     exact h8 _
   have jn:min j L.length*n<=4096*12:=Ko (by omega) hn
   nofun
   have eT:(L.take (j+1)).flatMap (iW n 0)=(L.take j).flatMap (iW n 0)++iW n 0 L[j]:=by
    rw[ku,aM hj,Ex]
    show _++List.flatMap (iW n 0) [L[j]]=_
    rw[Km]
   rw[eT]
   rw[show iW n 0 L[j]=(aH (n-kW 0 L[j])).map ((λa=>L[j]++[a]) ∘ λx=>kW 0 L[j]+x) by unfold iW;rw[List.range'_eq_map_range,bx]]
   generalize kW 0 L[j]=b at b12 ⊢
   refine⟨⟨_,rfl⟩,b,n,⟨rfl,rfl⟩,by omega,lX (aH (n-b)) (λ(a:Nat)=>D.int ((b+a:Nat):Int)) (λa=>D.lst true (aj (L[j]++[b+a]))) ?_ (λx y h=>by injection h with h;omega) (λa ha=>?_) (.inr λ_ _=>fo _) (by rw[bN,sL];omega) ?_⟩
   ·rw[show((n:Int)-(b:Int)).toNat=n-b by omega,bx];rfl
   ·nofun
    exact⟨by decide,by omega,by rw[show [D.int ((b+a:Nat):Int)]=aj [b+a] from rfl,kJ]⟩
   ·refine⟨_,_,rfl,rfl,by rw[jJ,aW,bN];omega,some (D.lst false (aj L[j])),some (D.int b),?_⟩
    rw[<-v9,show au true ((aH (n-b)).map ((λa=>L[j]++[a]) ∘ λx=>b+x))=(aH (n-b)).map λa=>D.lst true (aj (L[j]++[b+a])) by unfold au;rw[bx];rfl]
    rfl
  ·rintro δ ⟨o3,o4,rfl⟩
   refine hU _ ?_
   clear hU
   rw[jJ,mq]
   nofun
   exact⟨_,_,_,_,rfl,rfl,rfl,rfl⟩
 ·rintro δ ⟨o1,o2,o3,o4,rfl⟩
  refine hU _ ?_
  nofun
  exact q
abbrev aO9(t:cR):aU:=λds Q=>∃(m:Bool × Nat) (G:List (List Nat)) (c:List Nat),ds=[fD t.bo t.br m,.lst false (au false G),.lst false (aj c)]/\m∈aA/\RT (aa m) c.length G/\AllLt (aa m) c/\c.length<=64/\G.length<=64/\Q (.lst true (aj (G.map λr=>gd m r c)))
theorem aP0(T:Txt K mg t):aF P w K mg base aK 2 t.T7 t.T8 ["field","table","column"] (aV (aO9 t)):=by
 refine bh T.UU.F aN3 (λds Q h=>by obtain⟨m,G,c,rfl,hm,hR,hc,gh,hG,q⟩:=h<;>rfl) λaD A outer s H E hr=>⟨_,(aB (aO (cq [("column",2),("field",0)] ["row"] rfl (dX (bv 1)) (λ_ _ _ _=>(cB (i:=2) (show(["column","field","row"]:List Str).Nodup by decide +kernel))) (λ_ _ _ _=>bW) (λ_ _ _ _=>(gj (P:=P) (w:=w) (K:=K) (mg:=mg) (base:=base) (n:=1) (bv 1) (hr.mono (by decide)) (af (bv 2) (af (bv 0) ak)))) rfl))),λds Q h=>?_⟩
 obtain⟨m,G,c,rfl,hm,hR,hc,gh,hG,q⟩:=h
 have cO:=(cj hm).lo
 obtain⟨C,ns,xs,sp,e1,e2,e3,e4⟩:=Jx (P:=P) (w:=w) (base:=base) T hm
 nofun
 refine kq G (λr=>D.int ((gd m r c:Nat):Int)) (λr aP=>?_) (.inr λr _=>rfl) ?_
 ·nofun
  exact⟨C,ns,xs,sp,e1,e2,e3,e4 _ _ _ (hR r aP).1 (by rw[(hR r aP).1];exact gh) (hR r aP).2 hc rfl⟩
 ·rw[cL,bx]at q
  exact q
def sgn(M:Nat):Option Nat->Bool
 | none=>false
 | some a=>decide (a<M)
abbrev aI9(t:cR):aU:=λds Q=>∃(m:Bool × Nat) (G:List (List Nat)) (k:Kd) (y:List (Option Nat)),ds=[eD t m G k,.lst false (qp y)]/\eZ m G/\y.length<=100/\((y.length≠ag G/\Q (.bl false))\/(y.length=ag G/\none∈y/\Q (.bl false))\/∃c:List Nat,y=c.map some/\c.length=ag G/\AllLt (aa m) c/\Q (.bl (G.all λr=>gd m r c==0)))
theorem aJ0(T:Txt K mg t):aF P w K mg base aK 3 t.AU t.T9 ["self","word"] (aV (aI9 t)):=by
 refine bh T.Vf.F aH0 (λds Q h=>by obtain⟨m,G,k,y,rfl,hc,hy,q⟩:=h<;>rfl) λaD A outer s H E hr=>⟨_,(aC (b8 (PW.pt (mN (bK (gZ (cF hr)) (ae (di (fG) (by rfl) T.fL fB (af (bv 1) ak))) (cA (K:=K) (bv 0)) (bC _)) (nL (iN (fQ (ae (di (sE rfl) (by rfl) T.uf rh (af (ae (cq [("self",0)] ["sign"] rfl (dX (bv 1)) (λ_ _ _ _=>(cB (i:=1) (show(["self","sign"]:List Str).Nodup by decide +kernel))) (λ_ _ _ _=>bW) (λ_ _ _ _=>(gj (P:=P) (w:=w) (K:=K) (mg:=mg) (base:=base) (n:=1) (cA (K:=K) (bv 0)) (hr.mono (by decide)) (af (bv 1) ak))) rfl)) ak)))))))) (aB (aO gg)) bZ)
   (aB (aO (di (sE rfl) (by rfl) T.uf rh (af (ae (cq [] ["x"] rfl (dX (ae (aQ T.UU (aP0 T) hr (af (cA (K:=K) (bv 0)) (af (cA (K:=K) (bv 0)) (af (bv 1) ak)))))) (λ_ _ _ _=>(cB (i:=0) (show(["x"]:List Str).Nodup by decide +kernel))) (λ_ _ _ _=>bW) (λ_ _ _ _=>(u4 (fF (cF hr)) (bv 0) (ae aw) (bC _))) rfl)) ak))))),λds Q h=>?_⟩
 obtain⟨m,G,k,y,rfl,hc,hy,q⟩:=h
 have hw:=hc.O4
 have hl:=hc.len
 have yl:=b65 y
 refine ax λU hU=>?_
 nofun
 refine qC T m G k ?_
 rw[yl,kI]
 refine⟨rfl,?_⟩
 rcases q with⟨h1,q⟩ | h
 ·rw[decide_eq_false (by omega),if_pos (by decide)];exact q
 have h0:y.length=ag G:=by
  rcases h with⟨h,_⟩ | ⟨c,rfl,h,_⟩
  ·exact h
  ·rw[aW,h]
 rw[decide_eq_true (by omega),if_neg (by decide)]
 refine lX y xT (λa=>D.bl (sgn (aa m) a)) (cu6 y) cv0 (λa ha=>?_) (.inr λ_ _=>rfl) (by rw[sL];omega) ?_
 ·nofun
  rw[qt,O0]
  refine wF T m G k ?_
  refine DW T m ?_
  cases a with
  | none=>exact .inr ⟨rfl,rfl,rfl⟩
  | some a =>
   refine .inl ⟨_,rfl,rfl,?_⟩
   rw[decide_eq_true (show(0:Int)<=(a:Int) by omega),kZ]
   show D.bl _=D.bl (decide (a<aa m))
   congr 1
   exact decide_eq_decide.mpr ⟨λh=>by omega,λh=>by omega⟩
 refine⟨y.map (sgn (aa m)),by unfold lQ;rw[bx];rfl,?_⟩
 rcases h with⟨_,hn,q⟩ | ⟨c,rfl,lc,ac,q⟩
 ·rw[show(y.map (sgn (aa m))).all id=false by
   rw[List.all_eq_false]
   exact⟨_,w9 hn,iA⟩,if_pos (by decide)]
  exact q
 rw[show((c.map some).map (sgn (aa m))).all id=true by
  rw[cJ]
  intro x hx
  rw[bx]at hx
  obtain⟨a,ha,rfl⟩:=bw.mp hx
  exact decide_eq_true (ac a ha),if_neg (by decide)]
 refine hU _ ?_
 clear hU U
 have ec:qp (c.map some)=aj c:=by unfold qp;rw[bx,cL];rfl
 rw[ec]
 nofun
 refine wF T m G k (Vx T m G k ⟨m,G,c,by rw[fJ,bV,dM],hc.hm,by rw[lc];exact hc.rt,ac,by omega,hl,by rw[fo,e6],_,rfl,?_⟩)
 refine lX (G.map λr=>gd m r c) (λ(i:Nat)=>D.int (i:Int)) (λi=>D.bl (i==0)) (Cu _) xJ (λi hi=>?_) (.inr λ_ _=>rfl) (by rw[aW,sL];omega) ?_
 ·nofun
  rw[show decide ((i:Int)=0)=(i==0) by
   by_cases z:i=0
   ·rw[z];rfl
   ·rw[decide_eq_false (by omega),beq_false_of_ne z]]
 ·refine⟨(G.map λr=>gd m r c).map (·==0),by unfold lQ;rw[bx (g:=D.bl)];rfl,?_⟩
  rw[show((G.map λr=>gd m r c).map (·==0)).all id=G.all λr=>gd m r c==0 by rw[bx,nF];rfl]
  exact q
abbrev aR0(t:cR):aU:=λds Q=>∃(m:Bool × Nat) (Ga Gb:List (List Nat)),ds=[fD t.bo t.br m,.lst false (au false Ga),.lst false (au false Gb)]/\m∈aA/\RT (aa m) Gb.length Ga/\RT (aa m) (ag Gb) Gb/\Ga.length<=64/\Gb.length<=64/\ag Gb<=64/\Q (.lst true (au true (iT m Ga Gb (ag Gb))))
theorem aR1(T:Txt K mg t):aF P w K mg base aK 3 t.Ua t.Ub ["field","one","other"] (aV (aR0 t)):=by
 refine bh T.UW.F Rq (λds Q h=>by obtain⟨m,Ga,Gb,rfl,hm,JA,JB,hGa,hGb,hw,q⟩:=h<;>rfl) λaD A outer s H E hr=>⟨_,(aC (aY (i:=3) Rq.nd rfl (bu rfl) (aQ T.DJ (Jl T) hr (af (bv 2) ak)))
   (aB (aO (cq [("columns",3),("field",0)] ["row"] rfl (dX (bv 1)) (λ_ _ _ _=>(cB (i:=2) (show(["columns","field","row"]:List Str).Nodup by decide +kernel))) (λ_ _ _ _=>bW) (by exact λ_ _ _ _=>(cq [("row",2),("field",1)] ["column"] rfl (dX (bv 0)) (λ_ _ _ _=>(cB (i:=2) (show(["row","field","column"]:List Str).Nodup by decide +kernel))) (λ_ _ _ _=>bW) (λ_ _ _ _=>(gj (P:=P) (w:=w) (K:=K) (mg:=mg) (base:=base) (n:=1) (bv 1) (hr.mono (by decide)) (af (bv 0) (af (bv 2) ak)))) rfl)) rfl)))),λds Q h=>?_⟩
 obtain⟨m,Ga,Gb,rfl,hm,JA,JB,hGa,hGb,hw,q⟩:=h
 have cO:=(cj hm).lo
 obtain⟨C,ns,zs,sp,e1,e2,e3,e4⟩:=Jx (P:=P) (w:=w) (base:=base) T hm
 refine ax λU hU=>?_
 nofun
 refine⟨Gb,rfl,by omega,λr aP=>(JB r aP).1,by omega,?_⟩
 refine hU _ ?_
 clear hU U
 nofun
 refine kq Ga (λr=>D.lst true (aj (gM m r Gb (ag Gb)))) (λr aP=>?_) (.inr λr _=>fo _) ?_
 ·nofun
  refine lX (dR Gb) (λr=>D.lst false (aj r)) (λc=>D.int ((gd m r c:Nat):Int)) (by rw[dM];rfl) (λa b h=>Ag a b h) (λc qZ=>?_) (.inr λr _=>rfl) (by unfold dR;rw[aW,bN,sL];omega) ?_
  ·nofun
   unfold dR at qZ
   obtain⟨j,hj,rfl⟩:=bw.mp qZ
   have hl:=(JA r aP).1
   exact⟨C,ns,zs,sp,e1,e2,e3,e4 _ _ _ (by rw[aW,hl]) (by omega) (JA r aP).2 (λy hy=>by
    obtain⟨r,aP,rfl⟩:=bw.mp hy
    exact(JB r aP).2.getD (by omega) j) rfl⟩
  ·unfold gM dR
   rw[cL,bx,bx]
   rfl
 ·unfold iT au at q
  rw[bx]at q
  exact q
abbrev aK5(t:cR):aU:=λds Q=>∃(m:Bool × Nat) (V C:List (List Nat)),ds=[fD t.bo t.br m,.lst false (au false V),.lst false (au false C)]/\m∈aA/\0<C.length/\C.length<=64/\RT (aa m) (ag C) C/\ag C<=64/\V.length=ag C/\RT (aa m) C.length V/\Q (.bl (decide (iT m V C (ag C)=jT (ag C))))
theorem aK6(T:Txt K mg t):aF P w K mg base aK 4 t.Uc t.Ud ["field","back","columns"] (aV (aK5 t)):=by
 refine bh T.UX.F HR (λds Q h=>by obtain⟨m,V,C,rfl,hm,c0,hC,hR,hw,hV,JC,q⟩:=h<;>rfl) λaD A outer s H E hr=>⟨_,(aC (aY (i:=3) HR.nd rfl (bu rfl) (di (fG) (by rfl) T.fL fB (af (bH (bv 2) (ae aw) (λ_ _=>rfl)) ak)))
   (aC (b8 (bK (gZ (cF hr)) (ae (di (fG) (by rfl) T.fL fB (af (bv 1) ak))) (bv 3) (bC _)) (aB (aO gg)) bZ)
   (aC (fE eG rfl (rL (bX (bv 1))) (jC (i:=4) HR.nd rfl (aq rfl))
    (aB (b8 (PW.pt (mN (bK (gZ (cF hr)) (ae (di (fG) (by rfl) T.fL fB (af (bv 4) ak))) (ae (di (fG) (by rfl) T.fL fB (af (bv 2) ak))) (bC _)) (nL (iN (fQ (ae (di (sE rfl) (by rfl) T.uf rh (af (ae (cq [("field",0)] ["x"] rfl (dX (bv 4)) (λ_ _ _ _=>(cB (i:=1) (show(["field","x"]:List Str).Nodup by decide +kernel))) (λ_ _ _ _=>bW) (λ_ _ _ _=>(gj (P:=P) (w:=w) (K:=K) (mg:=mg) (base:=base) (n:=1) (bv 0) (hr.mono (by decide)) (af (bv 1) ak))) rfl)) ak)))))))) (aB (aO gg)) bZ)))
   (aB (aO (u4 (fF (cF hr)) (ae (aQ T.UW (aR1 T) hr (af (bv 0) (af (bv 1) (af (bv 2) ak))))) (ae (cq [("width",3)] ["i"] rfl (jf rfl T.fX (af (bv 3) ak)) (λ_ _ _ _=>(cB (i:=1) (show(["width","i"]:List Str).Nodup by decide +kernel))) (λ_ _ _ _=>bW) (λ_ _ _ _=>(aQ T.IU (We T) hr (af (bv 0) (af (bv 1) ak)))) rfl)) (bC _))))))),λds Q h=>?_⟩
 obtain⟨m,V,C,rfl,hm,c0,hC,hR,hw,hV,JC,q⟩:=h
 have cO:=(cj hm).lo
 refine ax λU hU=>?_
 nofun
 refine⟨.lst false (aj C[0]),tG false c0,?_⟩
 dsimp only
 rw[eN,(hR _ (cN c0)).1]
 refine hU _ ?_
 clear hU U
 refine ax λU hU=>?_
 nofun
 rw[decide_eq_true (by omega),if_neg (by decide)]
 refine hU _ ?_
 clear hU U
 refine ax λU hU=>?_
 nofun
 refine fC.mk (λj δ=>∃o,δ=[some (fD t.bo t.br m),some (D.lst false (au false V)),some (D.lst false (au false C)),some (D.int (ag C)),o]) ⟨_,rfl⟩ ?_ ?_
 ·rintro j d δ hd ⟨o,rfl⟩
  obtain⟨hj,rfl⟩:=Ds hd
  clear hd hU
  obtain⟨vl,va⟩:=JC _ (cN hj)
  nofun
  rw[decide_eq_true (by omega),if_neg (by decide)]
  refine oq V[j] (λ_=>D.bl true) (λi hi=>?_) (.inr λ_ _=>rfl) ⟨V[j].map λ_=>true,by unfold lQ;rw[bx];rfl,?_⟩
  ·have:=va i hi
   nofun
   refine DW T m (.inl ⟨_,rfl,?_⟩)
   rw[decide_eq_true (by omega),decide_eq_true (by omega)];rfl
  ·rw[if_neg (by rw[show(V[j].map λ_=>true).all id=true by simp];decide)]
   exact⟨_,rfl⟩
 ·rintro δ ⟨o,rfl⟩
  refine hU _ ?_
  clear hU U
  nofun
  refine⟨m,V,C,rfl,hm,JC,hR,by omega,hC,hw,by omega,qv (ag C) (λi=>D.lst true (aj (fg (ag C) i))) (λi hi=>?_) (.inr λ_ _=>fo _) ?_⟩
  ·nofun
   exact⟨_,_,rfl,by omega,rfl⟩
  ·rw[show((aH (ag C)).map λi=>D.lst true (aj (fg (ag C) i)))=au true (jT (ag C)) by unfold au jT;rw[bx];rfl]
   refine⟨⟨xQ 4 _ _ _,xQ 4 _ _ _⟩,?_⟩
   rw[GQ]
   exact q
theorem JE(V:List Nat->List (List Nat))(L:List (List Nat)):(L.map λS=>D.tup [.lst false (aj S),.lst false (au false (V S))]).all D.pl=true:=by
 rw[cJ]
 intro x hx
 obtain⟨S,_,rfl⟩:=bw.mp hx
 rw[j9,bA,bA,eI,eI,jj,og];rfl
abbrev JF(t:cR):aU:=λds Q=>∃(m:Bool × Nat) (G:List (List Nat)) (k:Kd) (l:List Nat) (L:List (List Nat)) (V:List Nat->List (List Nat)),ds=[eD t m G k,.lst false (aj l),.lst false (L.map λS=>D.tup [.lst false (aj S),.lst false (au false (V S))])]/\eZ m G/\1<=G.length/\ag G<=12/\Wd m G l/\L.length<=5000 /\
 ((wt l=0/\Q (.bl false))\/(wt l≠0/\L≠lex (ag G) (wt l-1) 0/\Q (.bl false))\/(wt l≠0/\L=lex (ag G) (wt l-1) 0/\(∀S∈L,(V S).length=S.length/\RT (aa m) G.length (V S))/\Q (.bl (L.all λS=>decide (iT m (V S) (bj G S) S.length=jT S.length)))))
theorem D3(T:Txt K mg t):aF P w K mg base aK 5 t.Ue t.Ug ["code","word","told"] (aV (JF t)):=by
 refine bh T.AZ.F DA (λds Q h=>by obtain⟨m,G,k,l,L,V,rfl,hc,g1,jt,hl,hL,q⟩:=h<;>rfl) λaD A outer s H E hr=>⟨_,(aC (zJ (ae (aQ T.DL (Jv T) hr (af (bv 0) ak))))
   (aC (b8 (PW.pt (mN (iN (fQ (ae (gj (P:=P) (w:=w) (K:=K) (mg:=mg) (base:=base) (n:=3) (bv 0) (hr.mono (by decide)) (af (bv 1) ak))))) (nL (fQ (ae (aQ T.IL (VT T) hr (af (bv 1) ak))))))) (aB (aO gg)) bZ)
   (aC (aY (i:=3) DA.nd rfl (aq rfl) (aQ T.IZ (Wm T) hr (af (cA (K:=K) (bv 0)) (af (ae (aE eC (ae (aE eC (cA (K:=K) (bv 0)) (ae (cr9 (bv 1) (ae aw))))) (ae aw))) ak))))
   (aC (b8 (bK (gZ (cF hr)) (ae (cq [] ["part"] rfl (dX (bv 2)) (λ_ _ _ _=>(cB (i:=0) (show(["part"]:List Str).Nodup by decide +kernel))) (λ_ _ _ _=>bW) (λ_ _ _ _=>(bX (bH (bv 0) (ae aw) (λ_ _=>rfl)))) rfl)) (bv 3) (bC _)) (aB (aO gg)) bZ)
   (aC (aY (i:=4) DA.nd rfl (aq rfl) (xP (P:=P) (w:=w) (K:=K) (mg:=mg) (base:=base) (n:=2) (bv 0) (hr.mono (by decide))))
   (aC (fE eG rfl (rL (bX (bv 2))) (m6 (i1:=5) (i2:=6) rfl DA.nd rfl (aq rfl) rfl (aq rfl))
    (aB (b8 (iN (fQ (ae (aQ T.UX (aK6 T) hr (af (cA (K:=K) (bv 0)) (af (bv 6) (af (ae (aQ T.DM (Jw T) hr (af (bv 4) (af (bv 5) ak)))) ak))))))) (aB (aO gg)) bZ)))
   (aB (aO gg)))))))),λds Q h=>?_⟩
 obtain⟨m,G,k,l,L,V,rfl,hc,g1,jt,hl,hL,q⟩:=h
 have hm:=hc.hm
 have cO:=(cj hm).lo
 have gl:=hc.len
 have ln:=hl.ln
 have wc:=HM l
 refine ax λU hU=>?_
 nofun
 rw[qt]
 refine⟨m,G,k,rfl,jt,by rw[xZ];rfl,hU _ ?_⟩
 clear hU U
 refine ax λU hU=>?_
 nofun
 refine Bc T T.dq1 T.dr1 T.dr4 (aJ0 T) T.Vf.b (by decide) ⟨m,G,k,l.map some,by rw[show qp (l.map some)=aj l by unfold qp;rw[bx,cL];rfl],hc,by rw[aW];omega,.inr (.inr ⟨l,rfl,ln,hl.lt,true,by rw[show(G.all λr=>gd m r l==0)=true by rw[cJ];intro r aP;rw[hl.z r aP];rfl],?_⟩)⟩
 rw[if_neg (by decide)]
 refine⟨l,rfl,by omega,_,rfl,?_⟩
 rw[cz0]
 by_cases w0:wt l=0
 ·rw[decide_eq_true w0,if_pos rfl]
  rcases q with q | q | q
  ·exact q.2
  ·exact absurd w0 q.1
  ·exact absurd w0 q.1
 rw[decide_eq_false w0,if_neg (by decide)]
 refine hU _ ?_
 clear hU U
 have q:=q.resolve_left λz=>w0 z.1
 refine ax λU hU=>?_
 nofun
 refine qC T m G k ?_
 refine qC T m G k ⟨false,l.map λ(n:Nat)=>(n:Int),⟨rfl,rfl⟩,?_⟩
 dsimp only
 refine⟨ag G,wt l-1,by rw[show((ag G:Nat):Int)-((l.map λ(n:Nat)=>(n:Int)).count 0:Nat)-1=((wt l-1:Nat):Int) by omega];rfl,jt,by omega,rfl,hU _ ?_⟩
 clear hU U
 have iS:=wz (ag G) (ag G) (wt l-1) 0 rfl
 have Jz:2 ^ ag G<=4096:=nD (by decide) jt
 have ok:=kX (ag G) (wt l-1) 0
 generalize lex (ag G) (wt l-1) 0=Z at iS ok q ⊢
 refine ax λU hU=>?_
 nofun
 refine lX L (λS=>D.tup [.lst false (aj S),.lst false (au false (V S))]) (λS=>D.lst false (aj S)) ?_ (λa b h=>?_) (λS hS=>?_) (.inl (by rw[JE];rfl)) (by rw[sL];omega) ?_
 ·rw[bx]
  refine mv λS _=>?_
  show(D.tup [.lst false (aj S),.lst false (au false (V S))]).sh=_
  rw[i9,cI,cI,gR,kM,bV,dM]
 ·injection h with h
  injection h with h
  exact Ag _ _ h
 ·nofun
  exact⟨_,rfl,by rw[eI,jj];rfl,rfl⟩
 dsimp only[qW,qV]
 refine⟨⟨xQ 4 true false L,xQ 4 _ _ _⟩,?_⟩
 rw[show D.lst true (L.map λS=>D.lst false (aj S))=D.lst true (au false L) from rfl,GQ]
 by_cases e:L=Z
 case neg =>
  rw[decide_eq_false e,if_pos (by decide)]
  rcases q with q | q
  ·exact q.2.2
  ·exact absurd q.2.1 e
 rw[decide_eq_true e,if_neg (by decide)]
 obtain⟨-,-,hV,qq⟩:=q.resolve_left λz=>z.2.1 e
 clear q
 refine hU _ ?_
 clear hU U
 subst e
 refine ax λU hU=>?_
 nofun
 refine Bc T T.DD T.DE T.DF (D0 T) T.A6.b (by decide) ⟨m,G,k,rfl,hc,hU _ ?_⟩
 clear hU U
 refine ax λU hU=>?_
 nofun
 refine⟨JE V L,?_⟩
 rw[mL (JE V L)]
 refine fC.mk (λj δ=>∃o5 o6,(∀S∈L.take j,iT m (V S) (bj G S) S.length=jT S.length)/\δ=[some (eD t m G k),some (D.lst false (aj l)),some (D.lst false (L.map λS=>D.tup [D.lst false (aj S),D.lst false (au false (V S))])),some (D.lst true (au true L)),some (D.lst true (au true G)),o5,o6]) ⟨_,_,λS hS=>by simp at hS,rfl⟩ ?_ ?_
 ·rintro j d δ hd ⟨o5,o6,hj,rfl⟩
  rw[bM]at hd
  obtain⟨S,hx,rfl⟩:=wX.mp hd
  have hS:=ur hx
  obtain⟨v1,v2⟩:=hV S hS
  obtain⟨o1,o2,o3⟩:=ok S hS
  obtain⟨p1,p2⟩:=oi (F:=S) (show 0<aa m by omega) hc.rt
  have wp:=xU (F:=S) g1
  clear hd hU
  simp only[iQ,f7,dw]
  nofun
  refine wF T m G k ?_
  refine⟨G,S,aa m,ag G,rfl,hc.rt,λj hj=>(o3 j hj).2,by omega,by omega,?_⟩
  dsimp only
  refine⟨by rw[fP,l6];rfl,m,V S,bj G S,by rw[fJ,bV,dM],hm,by omega,by omega,by rw[wp];exact p1,by omega,by omega,by rw[p2];exact v2,e6 _,_,rfl,?_⟩
  rw[wp]
  by_cases c:iT m (V S) (bj G S) S.length=jT S.length
  ·rw[decide_eq_true c,if_neg (by decide)]
   refine⟨_,_,λS' Wn=>?_,rfl,rfl⟩
   rw[ku,hx]at Wn
   rcases cM.mp Wn with z | z
   ·exact hj S' z
   ·rw[fu.mp z];exact c
  ·rw[decide_eq_false c,if_pos (by decide)]
   rw[show(L.all λS=>decide (iT m (V S) (bj G S) S.length=jT S.length))=false by rw[Eu];intro z;rw[cJ]at z;exact c (of_decide_eq_true (z S hS))]at qq
   exact qq
 ·rintro δ ⟨o5,o6,hj,rfl⟩
  rw[aW,mq]at hj
  refine hU _ ?_
  nofun
  rw[show(L.all λS=>decide (iT m (V S) (bj G S) S.length=jT S.length))=true by rw[cJ];exact λS hS=>decide_eq_true (hj S hS)]at qq
  exact qq
theorem Wo(T:Txt K mg t)(m:Bool × Nat)(G:List (List Nat))(k:Kd){Q:D->Prop}(q:Q (.int (hZ G k:Nat))):∃C ns zs sp,eD t m G k=.obj C ns zs/\jk P w K mg base 1 "distance" C sp/\("distance":Str) ∉ ns/\sp [.obj C ns zs] Q:=by
 cases k with
 | xW b=>exact⟨_,_,_,V7 t,rfl,⟨T.wD,_,_,_,T.dq0,as0 T,T.U9.b⟩,by decide,m,G,b,rfl,q⟩
 | rep=>exact⟨_,_,_,V8 t,rfl,⟨T.A7,_,_,_,T.dr0,aq1 T,T.Va.b⟩,by decide,m,G,rfl,q⟩
 | xX e f=>exact⟨_,_,_,V9 t,rfl,⟨T.ui,_,_,_,T.dr3,at3 T,T.Vb.b⟩,by decide,m,G,e,f,rfl,q⟩
abbrev JG(t:cR):aU:=λds Q=>∃(m:Bool × Nat) (G:List (List Nat)) (k:Kd),ds=[eD t m G k]/\eZ m G/\1<=G.length/\ag G<=12/\HA m G k/\Q (.lst true ((lex (ag G) (hZ G k-1) 0).map λS=>.tup [.lst true (aj S),.lst true (au true (iX m G S))]))
theorem JH(T:Txt K mg t):aF P w K mg base aK 5 t.Uh t.Ui ["code"] (aV (JG t)):=by
 refine bh T.DN.F HS (λds Q h=>by obtain⟨m,G,k,rfl,hc,g1,jt,hk,q⟩:=h<;>rfl) λaD A outer s H E hr=>⟨_,(aC (zJ (ae (aQ T.DL (Jv T) hr (af (bv 0) ak))))
   (aC (aY (i:=1) HS.nd rfl (bu rfl) (xP (P:=P) (w:=w) (K:=K) (mg:=mg) (base:=base) (n:=2) (bv 0) (hr.mono (by decide))))
   (aC (aY (i:=2) HS.nd rfl (aq rfl) (aQ T.IZ (Wm T) hr (af (cA (K:=K) (bv 0)) (af (ae (aE eC (ae (xP (P:=P) (w:=w) (K:=K) (mg:=mg) (base:=base) (n:=1) (bv 0) (hr.mono (by decide)))) (ae aw))) ak))))
   (aB (aO (cb1 2 [("code",0),("checks",1)] rfl (by first | exact aq rfl | exact bu (aq rfl)) rfl (λ_ _ _ _=>cM0 (i:=2) (show(["code","checks","places"]:List Str).Nodup by decide +kernel)) (λ_ _ _ _=>jy (pv 2) (jy (aQ T.IV (Wf T) hr (af (cA (K:=K) (bv 0)) (af (ae (aQ T.DM (Jw T) hr (af (bv 1) (af (bv 2) ak)))) ak))) oJ)) rfl)))))),λds Q h=>?_⟩
 obtain⟨m,G,k,rfl,hc,g1,jt,hk,q⟩:=h
 have hm:=hc.hm
 have gl:=hc.len
 have kp:=hk.pos
 have sg:=hc.O9 hk.x8
 have sz:=hc.sz
 refine ax λU hU=>?_
 nofun
 rw[qt]
 refine⟨m,G,k,rfl,jt,by rw[xZ];rfl,hU _ ?_⟩
 clear hU U
 refine ax λU hU=>?_
 nofun
 refine Bc T T.DD T.DE T.DF (D0 T) T.A6.b (by decide) ⟨m,G,k,rfl,hc,hU _ ?_⟩
 clear hU U
 refine ax λU hU=>?_
 nofun
 refine qC T m G k ?_
 refine Wo T m G k ?_
 dsimp only
 refine⟨ag G,hZ G k-1,by rw[show((hZ G k:Nat):Int)-1=((hZ G k-1:Nat):Int) by omega];rfl,jt,by omega,rfl,hU _ ?_⟩
 clear hU U
 have iS:=wz (ag G) (ag G) (hZ G k-1) 0 rfl
 have Jz:2 ^ ag G<=4096:=nD (by decide) jt
 have ok:=kX (ag G) (hZ G k-1) 0
 generalize lex (ag G) (hZ G k-1) 0=L at iS ok q ⊢
 nofun
 refine cD6 L (λS=>D.lst true (aj S)) (λS=>D.lst true (au true (iX m G S))) rfl (λa b h=>Ag a b h) (λS hS=>?_) (by rw[sL];omega) q
 obtain⟨o1,o2,o3⟩:=ok S hS
 have pp:=HK hm g1 hc.rt hk.x8 (S:=S) ⟨o2,λx hx=>(o3 x hx).2⟩ (by omega)
 rw[kM]
 nofun
 have ew:Jy (jq m (bj G S))=D.lst true (au true (iX m G S)):=by rw[pp.wy];rfl
 have fw:(D.lst true (au true (iX m G S))).fr=true:=by rw[fP,l6];rfl
 obtain⟨p1,p2⟩:=oi (F:=S) (show 0<aa m by have:=(cj hm).lo;omega) hc.rt
 have wp:=xU (F:=S) g1
 rw[qt]
 refine wF T m G k ?_
 refine⟨G,S,aa m,ag G,rfl,hc.rt,λj hj=>(o3 j hj).2,by omega,by omega,m,bj G S,by rw[fJ,bV,dM],hm,by omega,by omega,by rw[wp];exact p1,by omega,?_⟩
 rw[ew]
 exact⟨by rw[fw,e6],rfl,fw⟩
theorem cA9(T:Txt K mg t)(hB:Bm mg base):aF P w K mg base aK 11 t.Uj t.Iy ["_law_script"] (xM [t.ud,t.ue] (aV (MS ))):=by
 refine Gz T.I0.F nB (λds Q h=>by obtain⟨ns,rfl,hl,q⟩:=h<;>rfl) λaD A outer s H E hT hr=>⟨_,(aC (aY (i:=1) nB.nd rfl (aq rfl) (aQ T.Ut (aN6 T) hr (af (ae (aQ T.ot (qD T) hr (af (bv 0) (af (ae aw) ak)))) ak)))
   (aC (aY (i:=2) nB.nd rfl (aq rfl) (Nw hT ((aL7 T hB).mono (by decide)) hr rfl T.DH.g T.DH.F.kp T.DH.b jA (af (bv 1) ak)))
   (aC (aY (i:=3) nB.nd rfl (aq rfl) (Nw hT ((aO6 T hB).mono (by decide)) hr rfl T.DK.g T.DK.F.kp T.DK.b jA (af (bv 1) (af (bv 0) (af (bv 2) ak)))))
   (aC (aY (i:=4) nB.nd rfl (aq rfl) (xP (P:=P) (w:=w) (K:=K) (mg:=mg) (base:=base) (n:=1) (bv 3) (hr.mono (by decide))))
   (aC (aY (i:=5) nB.nd rfl (aq rfl) (xP (P:=P) (w:=w) (K:=K) (mg:=mg) (base:=base) (n:=2) (bv 3) (hr.mono (by decide))))
   (aC (aY (i:=6) nB.nd rfl (aq rfl) (aQ T.UN (aP8 T) hr (af (bv 3) ak)))
   (aC (b8 (PW.pt (mN (iN (fQ (ae (aQ T.IW (Wh T) hr (af (bv 4) ak))))) (nL (iN (fQ (ae (aQ T.IY (Wj T) hr (af (bv 1) (af (bv 5) (af (cA (K:=K) (bv 3)) (af (bv 6) ak))))))))))) (aB (aO gg)) bZ)
   (aC (b8 (PW.pt (mN (bK (gZ (cF hr)) (ae (aQ T.IT (Wc T) hr (af (bv 6) ak))) (bv 4) (bC _)) (nL (iN (fQ (ae (aQ T.AX (D2 T) hr (af (ae gg) (af (ae (aQ T.AZ (D3 T) hr (af (bv 3) (af (ae (xF (xG) (by rfl) T.ug rj (af (bv 6) ak))) (af (ae (aQ T.DN (JH T) hr (af (bv 3) ak))) ak))))) ak))))))))) (aB (aO gg)) bZ)
   (aC (aY (i:=7) nB.nd rfl (aq rfl) (gj (P:=P) (w:=w) (K:=K) (mg:=mg) (base:=base) (n:=4) (bv 3) (hr.mono (by decide)) (af (ae (aQ T.US (aI7 T) hr (af (bv 1) (af (bv 0) (af (ae aw) (af (cA (K:=K) (bv 3)) ak)))))) ak)))
   (aC (b8 (iN (fQ (ae (aQ T.IY (Wj T) hr (af (bv 1) (af (bv 5) (af (cA (K:=K) (bv 3)) (af (bv 7) ak)))))))) (aB (aO gg)) bZ)
   (aC (aY (i:=8) nB.nd rfl (aq rfl) (aQ T.IT (Wc T) hr (af (bv 7) ak)))
   (aC (b8 (bK (fF (cF hr)) (bv 8) (ae aw) (bC _)) (aB (aO (aQ T.AX (D2 T) hr (af (ae gg) (af (ae (aQ T.AZ (D3 T) hr (af (bv 3) (af (ae (xF (xG) (by rfl) T.ug rj (af (bv 7) ak))) (af (ae (aQ T.DN (JH T) hr (af (bv 3) ak))) ak))))) ak))))) bZ)
   (aC (aY (i:=9) nB.nd rfl (aq rfl) (aQ T.UR (aM5 T) hr (af (bv 2) (af (bv 5) (af (ae (aQ T.AY (aO8 T) hr (af (ae aw) (af (cA (K:=K) (bv 3)) (af (ae (aE eC (bv 8) (ae aw))) ak))))) ak)))))
   (aC (aY (i:=10) nB.nd rfl (aq rfl) (u4 (fF (cF hr)) (bv 8) (bv 4) (bC _)))
   (aC (b8 (PW.pt (mN (bK pK (bv 8) (bv 4) (bC _)) (nL (iN (fQ (ae (aQ T.AX (D2 T) hr (af (bv 10) (af (ae (aQ T.AZ (D3 T) hr (af (bv 3) (af (ae (xF (xG) (by rfl) T.ug rj (af (bv 7) ak))) (af (ae (aQ T.DN (JH T) hr (af (bv 3) ak))) ak))))) ak))))))))) (aB (aO gg)) bZ)
   (aB (aO (aQ T.AX (D2 T) hr (af (bv 10) (af (ae (aQ T.AZ (D3 T) hr (af (bv 3) (af (ae (xF (xG) (by rfl) T.ug rj (af (bv 7) ak))) (af (bv 9) ak))))) ak)))))))))))))))))))),λds Q h=>?_⟩
 obtain⟨ns,rfl,hl,q⟩:=h
 refine ax λU hU=>?_
 nofun
 refine⟨ns,0,rfl,by decide,by decide,_,rfl,rfl,hU _ ?_⟩
 clear hU U
 generalize Wq:tw (jU ns 0)=m
 have hm:m∈aA:=by rw[<-Wq];exact ce0 _
 clear Wq
 have cO:=(cj hm).lo
 have Js:=(cj hm).hi
 have DZ:=Ae m hm
 refine ax λU hU=>?_
 nofun
 refine⟨m,rfl,hm,hU _ ?_⟩
 clear hU U
 refine ax λU hU=>?_
 nofun
 refine⟨m,ns,rfl,hm,λG k hc g1 w2 jt hk w5 hF=>hU _ ?_⟩
 clear hU U
 obtain⟨Fb,eF,lF⟩:=hF
 have hR:=hc.rt
 have gl:=hc.len
 have kp:=hk.pos
 have sg:=hc.O9 hk.x8
 have sz:=hc.sz
 obtain⟨u1,u2,u3⟩:=PD hm (by omega) hR eF
 refine ax λU hU=>?_
 nofun
 refine Wo T m G k ?_
 refine hU _ ?_
 clear hU U
 refine ax λU hU=>?_
 nofun
 refine Bc T T.DD T.DE T.DF (D0 T) T.A6.b (by decide) ⟨m,G,k,rfl,hc,hU _ ?_⟩
 clear hU U
 refine ax λU hU=>?_
 nofun
 rw[qt]
 refine⟨m,G,k,Fb,rfl,hc,by omega,by omega,eF,by rw[xZ];rfl,hU _ ?_⟩
 clear hU U
 have Wr:∀(l:List Nat) (Q:D->Prop),Wd m G l->Q (.bl true)->Wi [dJ m,.lst false (au false G),.int (ag G:Nat),.lst false (aj l)] Q:=λl Q hl q=>⟨m,G,l,rfl,hm,gl,hR,by omega,hl,q⟩
 have iS:=λj=>wz (ag G) (ag G) j 0 rfl
 have p5:2 ^ ag G<=32:=nD (by decide) w5
 have pap:∀Q:D->Prop,Q (.lst true (AG true m G (lex (ag G) (hZ G k-1) 0)))->JG t [eD t m G k] Q:=λQ q=>⟨m,G,k,rfl,hc,g1,jt,hk,q⟩
 rw[lF]at u2 u3
 obtain⟨ps1,ps2⟩:=cm9 hm g1 hR hk.x8 u1 u2 kp (by omega)
 have Ws:∀(l:List Nat) (Q:D->Prop),Wd m G l->Q (.bl (decide (wt l=hZ G k)))->JF t [eD t m G k,.lst false (aj l),.lst false (AG false m G (lex (ag G) (hZ G k-1) 0))] Q:=λl Q hl q=>by
  refine⟨m,G,k,l,_,iX m G,rfl,hc,g1,jt,hl,by have:=iS (hZ G k-1);omega,?_⟩
  by_cases c0:wt l=0
  ·rw[decide_eq_false (by omega)]at q
   exact .inl ⟨c0,q⟩
  ·by_cases c:wt l=hZ G k
   ·rw[decide_eq_true c]at q
    rw[c,ps2]
    exact .inr (.inr ⟨by omega,rfl,ps1,q⟩)
   ·rw[decide_eq_false c]at q
    exact .inr (.inl ⟨c0,cA8 (by omega) (by omega),q⟩)
 refine ax λU hU=>?_
 nofun
 refine⟨_,rfl,true,rfl,?_⟩
 rw[if_neg (by decide)]
 refine qC T m G k (Wr _ _ u1 ⟨rfl,true,rfl,?_⟩)
 rw[if_neg (by decide)]
 refine hU _ ?_
 clear hU U
 refine ax λU hU=>?_
 nofun
 have ul:=u1.ln
 refine⟨_,rfl,by omega,rfl,rfl,?_⟩
 rw[u2,kI,decide_eq_true rfl,if_neg (by decide),qt]
 refine pap _ ⟨by rw[xZ];rfl,?_⟩
 rw[bV,Py]
 refine Ws _ _ u1 ⟨e6 _,?_⟩
 rw[u2,decide_eq_true rfl]
 refine⟨true,rfl,e6 _,true,rfl,?_⟩
 rw[if_neg (by decide)]
 refine hU _ ?_
 clear hU U
 refine ax λU hU=>?_
 nofun
 obtain⟨C,GY,zs,uR,e1,e2,e3,e4⟩:=b82 (P:=P) (w:=w) (base:=base) T m G k T.dq2 T.dr2 T.dr5 (aI5 T) T.Ve.b (by decide)
 refine⟨C,GY,zs,uR,e1,e2,e3,Vy T m G k ⟨m,ns,3,(cZ m G).length,rfl,hm,by decide,by omega,λl ll al=>⟨rfl,e4 _ _ ⟨m,G,k,l,by rw[kM],hc,ll,al,by rw[fo,e6],hU _ ?_⟩⟩⟩⟩
 clear hU U
 have wl:=hc.wd ll
 generalize qu m G l=y at wl ⊢
 have yl:=wl.ln
 refine ax λU hU=>?_
 nofun
 refine qC T m G k (Wr _ _ wl ⟨rfl,true,rfl,?_⟩)
 rw[if_neg (by decide)]
 refine hU _ ?_
 clear hU U
 refine ax λU hU=>?_
 nofun
 refine⟨y,rfl,by omega,rfl,hU _ ?_⟩
 clear hU U
 refine ax λU hU=>?_
 nofun
 have Wt:∀Q:D->Prop,Q (.bl (decide (wt y=hZ G k)))->JG t [(eD t m G k).sh] λd=>((eD t m G k).pl||d.fr)=true/\JF t [(eD t m G k).sh,D.lst false (aj y),d.sh] λd=>((eD t m G k).pl&&false||d.fr)=true/\Q d:=λQ q=>by
  rw[qt]
  refine pap _ ⟨by rw[xZ];rfl,?_⟩
  rw[bV,Py]
  exact Ws _ _ wl ⟨e6 _,q⟩
 by_cases c0:wt y=0
 ·rw[if_pos (by omega)]
  refine Wt _ ?_
  rw[decide_eq_false (by omega)]
  exact⟨false,rfl,e6 _,q⟩
 rw[if_neg (by omega)]
 refine hU _ ?_
 clear hU U
 have wd:=PC hm hR hk.x8 wl c0
 have wn:wt y<=ag G:=by have:=HM y;omega
 refine ax λU hU=>?_
 nofun
 refine qC T m G k ?_
 refine⟨0,ag G,wt y-1,by rw[show((wt y:Nat):Int)-1=((wt y-1:Nat):Int) by omega];rfl,by omega,by decide,by omega,by omega,rfl,?_⟩
 rw[bV,dM]
 refine⟨m,G,_,rfl,hm,g1,gl,hR,by omega,by have:=iS (wt y-1);omega,λS hS=>⟨by have:=(kX _ _ _ S hS).1;omega,λj hj=>((kX _ _ _ S hS).2.2 j hj).2⟩,ct6 _ _,hU _ ?_⟩
 clear hU U
 refine ax λU hU=>?_
 nofun
 refine hU _ ?_
 clear hU U
 refine ax λU hU=>?_
 nofun
 rw[if_neg (by omega),show decide (((wt y:Nat):Int)=((hZ G k:Nat):Int))=decide (wt y=hZ G k) from decide_eq_decide.mpr (by omega)]
 refine Wt _ ⟨_,rfl,e6 _,true,rfl,?_⟩
 rw[if_neg (by decide)]
 refine hU _ ?_
 clear hU U
 nofun
 rw[qt,cp3]
 have say:=PF hm g1 hR hk.x8 u1 u2 kp wd wn
 refine⟨m,G,k,y,_,iY m G,rfl,hc,g1,jt,wl,by have:=iS (wt y-1);omega,.inr (.inr ⟨c0,rfl,λS _=>⟨(yg hm g1 hR S).1,(yg hm g1 hR S).2.1⟩,?_⟩)⟩
 rw[say]
 exact⟨e6 _,_,rfl,e6 _,q⟩
end
theorem all_mk{l:PySem.W.OpenLaw}{w:World}{K:Frag}{h:Heap}{mg:Str->Option Value}{fa:Addr}{ts:List Addr}{t:cR}{aA7:Option Addr}{aA8:Array (Option Value)}{Wu:Array Value}{aA9:Value}{aG1:Option Addr}{aG2:Array (Option Value)}{Wv:Array Value}{aG3:Value}(X:K.In h)(G:h.Ns mainGlobals mg)(hfa:mg "law"=some (.ref fa))(T:Txt K mg t)(aS4:K.lookup t.Iz=some ⟨aA9,aA7,.fields Wu,aA8⟩)(aS5:Wu[11]?=some (.ref t.ud))(aS6:K.lookup t.IA=some ⟨aG3,aG1,.fields Wv,aG2⟩)(aS7:Wv[11]?=some (.ref t.ue))(nl:K.all (λp=>FX p.2)=true)(sub:∀P∈[t.ud,t.ue],P∈ts) :
  ∃fd:FuncData,(∀(s:Shared) (v:Value),BindsTo s fd ⟨[v],[]⟩ [("_law_script",v)])/\∀base:Heap,K.In base->base.Ns mainGlobals mg->Bm mg base->aF l.prog w K mg base aK 11 fa fd ["_law_script"] (CA ts K):=by
 have e:=hfa.symm.trans T.I0.g
 injection e with e
 injection e with e
 subst e
 obtain⟨_,_,_,_,_,_,_,_,_,e2,_,_⟩:=T.I0.F.ex
 exact⟨t.Iy,λs v=>by rw[e2];exact .of_eq rfl,λbase _ _ hB=>(cA9 T hB).imp λvs H Q E h=>let z:=cd1 nl h;⟨λP hP=>z.1 P (sub P hP),z.2⟩⟩
theorem aB0{K:Frag}{h:Heap}{c f k P:Addr}{od an:Option Addr}{sl:Array (Option Value)}{oc kV dc pm ct kt:Value}{ko:Option Addr}{ks:Array (Option Value)}{kf:Array Value}(X:K.In h)(a:PySem.W.nsIn K mainGlobals "PrimeField"=some (some (.ref c)))(b:PySem.W.findIn K (.ref c) "__init__"=some (some (.ref f)))
  (l:K.lookup f=some ⟨oc,od,.func (PySem.W.fnOf "__init__" "PrimeField.__init__" (nO AK) (ie AK) (aI AK) .none kV dc pm an (.ref k) ct),sl⟩) (lk:K.lookup k=some ⟨kt,ko,.fields kf,ks⟩) (lp:kf[11]?=some (.ref P)) (n:K.lookup P=none) (e:codeHdIn K k P=true):K.lookup P=none/\∃c,CodeHd h c P:=⟨n,k,PySem.W.codeHd_of_K X e⟩
theorem aG4{K:Frag}{h:Heap}{c f k P:Addr}{od an:Option Addr}{sl:Array (Option Value)}{oc kV dc pm ct kt:Value}{ko:Option Addr}{ks:Array (Option Value)}{kf:Array Value}(X:K.In h)(a:PySem.W.nsIn K mainGlobals "BitField"=some (some (.ref c)))(b:PySem.W.findIn K (.ref c) "__init__"=some (some (.ref f)))
  (l:K.lookup f=some ⟨oc,od,.func (PySem.W.fnOf "__init__" "BitField.__init__" (nO AL) (ie AL) (aI AL) .none kV dc pm an (.ref k) ct),sl⟩) (lk:K.lookup k=some ⟨kt,ko,.fields kf,ks⟩) (lp:kf[11]?=some (.ref P)) (n:K.lookup P=none) (e:codeHdIn K k P=true):K.lookup P=none/\∃c,CodeHd h c P:=⟨n,k,PySem.W.codeHd_of_K X e⟩
theorem walk{l:PySem.W.OpenLaw}{q:Program}{loose:List Str}{XP:(Str->Option Value)->Heap->Prop}{YP:World->Heap->Prop}{d:DefRec}{K:Params->Frag}{ts:List Addr}(hn:l.most=some 63)(zi:d.params.defaults=[])
  (hY:∀(w:World) (h:Heap),YP w h->(K w.params).In h/\∀P∈ts,h.get? P=some (PySem.W.tabObj #[]))
  (hC:∀(w:World) (h:Heap),(K w.params).In h->∀P∈ts,(K w.params).lookup P=none/\∃c,CodeHd h c P)
  (F:∀(w:World) (mg:Str->Option Value) (fa:Addr) (h:Heap),(K w.params).In h->h.Ns mainGlobals mg->mg d.name=some (.ref fa) ->
   ∃fd:FuncData,(∀(s:Shared) (u:Value),BindsTo s fd ⟨[u],[]⟩ [("_law_script",u)])/\∀base:Heap,(K w.params).In base->base.Ns mainGlobals mg->Bm mg base->aF l.prog w (K w.params) mg base aK 11 fa fd ["_law_script"] (CA ts (K w.params))) :
  PySem.W.WalkO q loose XP YP l.row.toRowW d [] (λf vs=>PySem.call f vs) :=
 L2.cY9 (n:=63) (k:=11) (x:="_law_script") (CX:=λ_=>aK) (sp:=λw=>CA ts (K w.params)) hn (by decide) zi ⟨rfl,by decide,by decide⟩ hY hC F (λ_ _ a ns hl hO hS=>⟨a,ns,rfl,hO,hS,hl,λ_=>rfl⟩) λ_ _ _ _ _ z=>z
end HK44
open Lean in
local macro_rules|`(command|#where)=>return mkNullNode (←[("heap_",[39,46,1388]),("o_",List.range' 43 1345),("sts_",[49,126,171,198,213,228,243,265,287,331,405,594,645,671,719,773,975,1049,1121,1195,1211,1260,1345]),("tree_",[47,125,170,197,212,227,242,264,286,330,404,507,590,644,670,718,772,886,971,1048,1120,1194,1210,1259,1344,1387]),("view_",[39])].toArray.flatMapM fun p=>p.2.toArray.mapM fun i=>`(command|theorem $(mkIdent (.str `PySem.W.Fast ("tw"++toString (Name.str `PySem.Challenge.cw_mendfield_k44_whole_distance_holds (p.1++toString i)).hash))):ident:True:=⟨⟩))
#where
theorem PySem.W.Fast.tw14813538444049364624:True:=⟨⟩
open PySem PySem.W PyProof.Rows
end
set_option maxRecDepth 100000 in
set_option maxHeartbeats 0 in
theorem PySem.Challenge.cw_mendfield_k44_whole_distance_holds : PySem.Challenge.rw_mendfield_k44_whole_distance.Holds := by
 w_on;o_law;k_head;(case hw=>w_witness2)
 k_fill
 refine HK44.walk (l:=PySem.Challenge.rw_mendfield_k44_whole_distance) rfl rfl (λw h Y=>⟨PySem.W.km_in_of Y,PySem.W.km_tabs_of Y⟩) ?C ?F
 case C =>
  intro w h hX
  repeat' (first | exact List.forall_mem_nil _ | refine List.forall_mem_cons.mpr ⟨?_,?_⟩)
  all_goals first | (refine' HK44.aB0 hX ?a ?b ?l ?lk ?lp ?n ?e;(case a=>k_is);(case b=>k_is);(case l=>k_is);(case lk=>k_is);(case lp=>first | rfl | with_unfolding_all rfl);(case n=>kernel_rfl);(case e=>kernel_rfl)) | (refine' HK44.aG4 hX ?a ?b ?l ?lk ?lp ?n ?e;(case a=>k_is);(case b=>k_is);(case l=>k_is);(case lk=>k_is);(case lp=>first | rfl | with_unfolding_all rfl);(case n=>kernel_rfl);(case e=>kernel_rfl))
 case F =>
  intro w mg fa h KX G zj
  refine' HK44.all_mk (t:=HK44.cR.mk ..) KX G zj (HK44.Txt.mk ..) ?lk0 ?lp0 ?lk1 ?lp1 ?nl ?sub
  rotate_left 193
  iterate 7 ((try dsimp only);exact PySem.W.mg_of KX G (by k_is))
  iterate 12 ((try dsimp only);exact PySem.W.mg_none_of KX G (by k_is))
  iterate 28 ((try dsimp only);focus (apply L2.Meth.mk<;>k_is))
  iterate 5 ((try dsimp only);focus (apply L2.Mk.mk<;>k_is))
  iterate 2 ((try dsimp only);focus (apply L2.qa.mk<;>k_is))
  iterate 61 ((try dsimp only);focus (apply L2.Fk.of KX G;(case a=>k_is);(case F=>apply L2.LD<;>k_is);(case b=>first | exact λ_ _ _ _ _ _=>L2.Hf λ_=>rfl | exact λ_ _ _ _ _ _=>L2.Hg λ_ _=>rfl | exact λ_ _ _ _ _ _=>L2.Hh λ_ _ _=>rfl | exact λ_ _ _ _ _ _=>L2.Hi λ_ _ _ _=>rfl | exact λ_ _ _ _ _ _=>L2.OE λ_ _ _ _ _ _=>rfl)))
  iterate 25 ((try dsimp only);focus (apply L2.Fm.of;(case F=>apply L2.LD<;>k_is);(case b=>first | exact λ_ _ _ _ _ _=>L2.Hf λ_=>rfl | exact λ_ _ _ _ _ _=>L2.Hg λ_ _=>rfl | exact λ_ _ _ _ _ _=>L2.Hh λ_ _ _=>rfl | exact λ_ _ _ _ _ _=>L2.Hi λ_ _ _ _=>rfl | exact λ_ _ _ _ _ _=>L2.OE λ_ _ _ _ _ _=>rfl)))
  iterate 1 ((try dsimp only);focus (apply L2.de9<;>k_is))
  iterate 1 ((try dsimp only);focus (apply L2.df0 rfl;(case ho=>k_is);(case hs=>rfl);(case h=>first | exact L2.OD λ_ _ _ _ _=>⟨_,rfl,rfl⟩)))
  iterate 2 (exact rfl)
  (case lk0=>k_is)
  (case lp0=>first | rfl | with_unfolding_all rfl)
  (case lk1=>k_is)
  (case lp1=>first | rfl | with_unfolding_all rfl)
  iterate 2 ((try dsimp only);kernel_rfl)
  iterate 5 ((try dsimp only);focus (apply L2.cW.mk<;>k_is))
  iterate 34 ((try dsimp only);focus (unfold L2.bq;k_is))
  (case nl=>first | k_is | rfl | decide)
  (case sub=>decide)
