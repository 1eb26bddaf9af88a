import PyProof.Rows.All
import Wide.All
import OpenK.AllK
import Wide.FinOn
import Lean
import PyProof.EqAt
import PyProof.EqKinds
import PyProof.TupleCall
import PyProof.NeKinds
import PyProof.Rows.Range3
import PyProof.FitsBits
import PyProof.StationsW
import PyProof.NsDelKeeps
import PyProof.Rows.CatchOwn
import KE.KTryMore
import PyProof.ExcArgsOwn
import PyProof.ExcAttrAll.ValueError
import OpenK.KOwn
import PyProof.ZipIter
import PyProof.WalksEnum
import PyProof.EnumMake
import KE.KIntText
import PyProof.Conv_int
import PyProof.StrWalks
import PyProof.StrLawsFirst
import KE.KLam
import KE.KNestM
import KE.KRevIter
import PyProof.ListRange
import PyProof.Rows.SortWalk
import PyProof.Rows.SetFrom
import PyProof.FactsAll.set
import PyProof.Rows.SeqMore
import PyProof.FString
import PySem.Challenge.RW_mendfield_k34_message_written
open Array renaming append_assoc→sV,length_toList→wA,getElem?_eq_some_iff→NI,toList_append→Xd
open Bool renaming and_eq_true→eC,false_ne_true→iY,true_and→lK,or_true→lL,and_true→mV,false_and→sX,eq_iff_iff→tG,false_eq_true→tH,or_false→wC,not_false→Aw,not_true→Az,true_or→AA,false_or→AB
open Classical renaming byContradiction→DY
open False renaming elim→fQ
open ForInStep renaming yield→DZ
open Int renaming toNat→fG,toNat_natCast→gQ,emod_nonneg→gR,emod_lt_of_pos→hV,natAbs_natCast→i6,natCast_emod→oo,natCast_mul→tN,toNat_of_nonneg→wO,natCast_add→D8,natCast_nonneg→Nz,zero_add→NT,emod_eq_of_lt→NX,fdiv_eq_ediv_of_nonneg→WZ
open List renaming range→aL,getElem?_eq_getElem→aP,getD_eq_getElem?_getD→aT,replicate→bf,length_map→bt,mem_map→bD,mem_append→bX,length_range→bZ,getElem?_map→cj,mem_cons→cu,map_map→cw,zipWith→cT,mem_range→cX,mem_append_right→cZ,append_assoc→c9,map_cons→dn,all_cons→dq,all_eq_true→dr,getElem_mem→dz,length_append→dG,size_toArray→dH,mem_append_left→eV,mem_singleton→eW,append_nil→fm,map_append→fo,length_replicate→fS,lookup_cons→fU,mem_cons_of_mem→gi,getElem?_eq_none→gj,length_take→iF,mem_cons_self→iW,getElem?_eq_some_iff→iX,not_mem_nil→iZ,length_zipWith→i5,length_cons→jx,set_cons_zero→jy,set_cons_succ→jz,nodup_cons→jV,map_nil→jW,length_set→jX,getElem?_range→jY,getElem?_append_right→kz,getElem_of_mem→kB,lookup→lC,length_drop→lF,length_singleton→lH,cons.inj→mS,take_add_one→mT,all_map→mU,cons_append→mW,getElem?_zipWith→mX,perm_append_comm→om,getElem?_cons_zero→oq,getElem?_cons_succ→ot,getElem?_append_left→pV,replicate_succ→pX,append_eq_nil_iff→p8,mem_of_mem_drop→p9,map→qa,map_replicate→qe,mem_filter→sU,getElem?_set_ne→sW,of_mem_zip→s8,getElem?_replicate→s9,mem_of_getElem?→tf,flatten_cons→tw,foldl_cons→tD,nil_append→tE,take_length→tI,mem_of_mem_take→tJ,all_nil→tK,map_congr_left→tL,append_inj→wH,take_of_length_le→wI,map_set→wQ,getElem_map→wR,filterMap_cons→z9,set_set→Ai,mem_replicate→Aj,zipWith_map→Am,getElem?_mapIdx→An,foldl_append→Ao,pairwise_append→Ar,length_nil→Au,cons.injEq→Av,getElem?_set_self→DR,length→DS,map_zipWith→D7,mem_map_of_mem→D9,length_zip→Ea,range_succ→Eb,contains_iff_mem→Ec,pairwise_cons→Ef,Pairwise.nil→NC,any_eq_true→NG,Sublist.refl→NK,mem_of_find?_eq_some→NM,map_drop→NN,map_take→NO,ext_getElem?→NP,getElem?_drop→NQ,drop_eq_nil_of_le→NR,mem_or_eq_of_mem_set→NU,ext_getElem→NW,sum_cons→NY,zipWith_cons_cons→NZ,findIdx_lt_length_of_exists→N1,find?_eq_none→N2,getElem_range→N4,pairwise_singleton→N5,take_append_drop→N6,mem_filterMap→WY,getElem?_take_of_lt→W0,set_eq_of_length_le→W8,eq_nil_iff_forall_not_mem→W9,filter_eq_self→Xa,range_succ_eq_map→Xb,getElem?_take→Xc,zip_cons_cons→Xe,sublist_cons_self→Xf,findIdx_getElem→Xg,findIdx?_eq_some_iff_getElem→Xh,findIdx?_eq_none_iff→Xi,pairwise_iff_getElem→Xj,Pairwise.filter→Xk,countP_eq_length_filter→Xl,pairwise_lt_range→Xm,find?_eq_some_iff_append→Xn,length_filter_le→Xo,flatMap_append→Xq
open Nat renaming le_refl→bG,lt_of_lt_of_le→dm,ne_of_lt→fg,le_trans→fk,lt_irrefl→gF,shiftLeft_eq→kA,zero_le→lD,xor_zero→lJ,mul_comm→mO,pow_succ→mP,testBit_xor→mQ,lt_of_le_of_lt→mR,zero_xor→oj,succ_pos→ou,xor_assoc→pY,mul_assoc→tF,mod_lt→tM,two_pow_pos→wD,pow_le_pow_right→wF,sub_self→wJ,not_lt→wK,mul_mod→wL,mod_eq_of_lt→wM,mod_add_mod→wN,le_of_lt→z7,le_of_eq→Ab,lt_succ_self→Ac,eq_of_testBit_eq→Af,testBit_zero→Ag,xor_self→Ah,min_self→Ak,le_of_succ_le→Ap,succ.inj→Aq,testBit_lt_two_pow→DV,testBit_succ→DW,strongRecOn→DX,add_assoc→D6,one_shiftLeft→Eg,ne_of_gt→Ny,add_comm→NB,xor_comm→ND,testBit_and→NF,lt_succ_of_lt→NS,mod_mod→NV,zero_add→N0,lt_or_ge→N3,testBit_eq_decide_div_mod_eq→W2,shiftLeft_xor_distrib→W3,mul_lt_mul_right→W4,testBit_shiftLeft→W5,shiftRight_eq_div_pow→W6,mul_le_mul_right→Xp
open Ne renaming symm→fE
open Option renaming some.inj→cS,getD_some→pZ,getD_none→tu,map_some→wU,some.injEq→wV,isSome_iff_exists→Ad,map_eq_some_iff→Al,map_none→As,toList_some→NL,bind_some→W7
open Or renaming inl→ai,inr→aV
open PyProof renaming Rows.callWith_type1→Aa
open PySem renaming Heap.lt_size→bP,Value.ref→cW,PassesOwn.never→eN,Heap.get?_push_of_some→fF,Heap.get?_push_size→gG,Value.int→og,Builtin.bitAnd→oh,Builtin.bitXor→oi,Value.none→pU,Heap.get?_update_other→pW,Heap.size_push→sZ,Str.empty→wB,Obj.mapSeq→Ae,Value.bool→DQ,Heap.get?_update_self→DT,SeqAt.EqAt→DU,Walks.list→D0,Obj.data_mapFields→D1,Value.builtin→D2,Value.type.inj→D3,Builtin.Str.strSliceIndices→D4,NameKind.cell→Ee,Builtin.List.listTooLong→NA,Obj.isFreed_of_fields→NH,Heap.MadeExcOf→NJ,Calls.Name_function_global→WX
open Sum renaming inl→sS,inr→sT
open True renaming intro→sY
set_option Elab.async false
set_option linter.all false
set_option maxRecDepth 100000
local macro_rules | `(tactic| omega)=>`(tactic| lia)
noncomputable section
namespace L2
open PySem PySem.Spec PyProof.Rows
abbrev Key:=Sum Int Str
def N7:Key->Value->Bool
 | .inl k,v=>Value.isInt k v
 | .inr x,v=>Value.isStrOf x v
def Xr(w:World):Key->Int
 | .inl k=>hashInt k
 | .inr x=>hashStr w x
theorem mY:∀{k:Key} {v:Value},N7 k v=true->(∃i t,k=sS i/\v=og i t)\/(∃x t,k=sT x/\v=Value.str x t)
 | .inl i,v,h=>by
  obtain⟨t,e⟩:=Value.isInt_shape (k:=i) (v:=v) h
  exact .inl ⟨i,t,rfl,e⟩
 | .inr x,v,h=>by
  obtain⟨t,e⟩:=Value.isStrOf_shape (x:=x) (v:=v) h
  exact .inr ⟨x,t,rfl,e⟩
theorem Xs(a b:Int):decide ((sS a:Key)=sS b)=(a==b):=by
 by_cases e:a=b
 ·subst e;simp
 ·have h:¬ (sS a:Key)=sS b:=λq=>e (Sum.inl.inj q)
  rw[decide_eq_false h]
  exact(beq_eq_false_iff_ne.mpr e).symm
theorem Xt(a b:Str):decide ((sT a:Key)=sT b)=decide (a=b):=by
 by_cases e:a=b
 ·subst e;simp
 ·have h:¬ (sT a:Key)=sT b:=λq=>e (Sum.inr.inj q)
  rw[decide_eq_false h,decide_eq_false e]
theorem Xu(a:Int)(b:Str):decide ((sS a:Key)=sT b)=false:=decide_eq_false (λq=>nomatch q)
theorem Xv(a:Str)(b:Int):decide ((sT a:Key)=sS b)=false:=decide_eq_false (λq=>nomatch q)
def N8(prog:Program)(w:World):PySem.KeyKind prog w Key where
 is:=N7
 hash:=Xr w
 inj:=λv a b ha hb=>by
  rcases mY ha with⟨i,t,rfl,rfl⟩ | ⟨x,t,rfl,rfl⟩
  ·rcases mY hb with⟨j,u,rfl,e⟩ | ⟨y,u,rfl,e⟩
   ·injection e with e1 _;rw[e1]
   ·exact nomatch e
  ·rcases mY hb with⟨j,u,rfl,e⟩ | ⟨y,u,rfl,e⟩
   ·exact nomatch e
   ·injection e with e1 _;rw[e1]
 byValue:=λk v h=>by
  rcases mY h with⟨i,t,rfl,rfl⟩ | ⟨x,t,rfl,rfl⟩<;>rfl
 pyHash:=λhv h=>by
  rcases mY hv with⟨i,t,rfl,rfl⟩ | ⟨x,t,rfl,rfl⟩
  ·exact wpAny_pyHash_int h
  ·exact wpAny_pyHash_str h
 eqBool:=λhu hv h=>by
  rcases mY hu with⟨i,t,rfl,rfl⟩ | ⟨x,t,rfl,rfl⟩
  ·rcases mY hv with⟨j,u,rfl,rfl⟩ | ⟨y,u,rfl,rfl⟩
   ·rw[Xs]at h;exact wpAny_eqBool_int h
   ·rw[Xu]at h;exact SeqAt.EqAt.int_str i t y u _ _ _ _ h
  ·rcases mY hv with⟨j,u,rfl,rfl⟩ | ⟨y,u,rfl,rfl⟩
   ·rw[Xv]at h;exact SeqAt.EqAt.str_int x t j u _ _ _ _ h
   ·rw[Xt]at h;exact wpAny_eqBool_str h
 «strs»:=λk x t v h=>by
  rcases mY h with⟨i,u,rfl,e⟩ | ⟨y,u,rfl,e⟩
  ·exact nomatch e
  ·injection e with e1 _
   subst e1
   cases v<;>rfl
end L2
namespace L2
open PySem PySem.Spec PyProof.Rows
inductive V where
 | av | bl (b:Bool) | int (i:Int) | str (x:Str) | AD (b:Array UInt8) | qf (b:UInt64) | ref (a:Addr) | ty (n:String)
 deriving DecidableEq
def RelV:V->Value->Prop
 | .av,u=>u=pU
 | .bl b,u=>u=DQ b
 | .int i,u=>∃t,u=og i t
 | .str x,u=>∃t,u=Value.str x t
 | .AD b,u=>∃t,u=Value.bytes b t
 | .qf b,u=>∃t,u=Value.float b t
 | .ref a,u=>u=cW a
 | .ty n,u=>u=Value.type n
abbrev Vals:List V->List Value->Prop:=Paired RelV
theorem Vals.length{xs:List V}{us:List Value}(r:Vals xs us):xs.length=us.length:=Paired.length r
theorem Vals.get:∀{xs:List V} {us:List Value} {i:Nat} {x:V},Vals xs us->xs[i]?=some x->∃u,us[i]?=some u/\RelV x u
 | _,_,_,_,.nil,e=>by simp at e
 | _,_,0,_,.cons r _,e=>by simp at e;subst e;exact⟨_,rfl,r⟩
 | _,_,i+1,x,.cons _ t,e=>by
  obtain⟨u,h1,h2⟩:=Vals.get (i:=i) (x:=x) t (by simpa using e)
  exact⟨u,by simpa using h1,h2⟩
theorem Vals.set{x:V}{u:Value}(r:RelV x u):∀{xs:List V} {us:List Value} (i:Nat),Vals xs us->Vals (xs.set i x) (us.set i u)
 | _,_,_,.nil=>.nil
 | _,_,0,.cons _ t=>.cons r t
 | _,_,i+1,.cons q t=>.cons q (Vals.set r i t)
theorem Vals.append:∀{xs ys:List V} {us ws:List Value},Vals xs us->Vals ys ws->Vals (xs++ys) (us++ws)
 | _,_,_,_,.nil,s=>s
 | _,_,_,_,.cons r t,s=>.cons r (Vals.append t s)
theorem Vals.take:∀{xs:List V} {us:List Value} (n:Nat),Vals xs us->Vals (xs.take n) (us.take n)
 | _,_,0,_=>.nil
 | _,_,_+1,.nil=>.nil
 | _,_,n+1,.cons r t=>.cons r (Vals.take n t)
theorem Vals.drop:∀{xs:List V} {us:List Value} (n:Nat),Vals xs us->Vals (xs.drop n) (us.drop n)
 | _,_,0,r=>r
 | _,_,_+1,.nil=>.nil
 | _,_,n+1,.cons _ t=>Vals.drop n t
def lM:Option V->Option Value->Prop
 | some v,some u=>RelV v u
 | none,none=>True
 | _,_=>False
def KV{κ:Type}:List (κ × V)->List (κ × Value)->Prop:=Paired λ(p:κ × V) (q:κ × Value)=>p.1=q.1/\RelV p.2 q.2
def kV:Key->V
 | .inl i=>.int i
 | .inr x=>.str x
inductive HO where
 | lst (xs:List V)
 | tup (xs:List V)
 | dK (dJ:List (Key × V)) | dT (dJ:List (List Key × V))
 | set (S:Int->Bool) (n:Nat)
 | ins (C dx:Addr) (fs:List (Str × V))
 | own (x:Addr)
 | xd (fs:List (Str × V))
 | met (f x:Addr)
 | wW (lo hi:Int)
 | br (o:Obj) (u:HO)
 | dA (ps:Array Value)
 | ext (φ:Heap->Prop)
abbrev Hp:=Addr->Option HO
def upd(H:Hp)(a:Addr)(o:HO):Hp:=λb=>if b=a then some o else H b
theorem bJ{H:Hp}{a:Addr}{o:HO}:upd H a o a=some o:=by unfold upd;rw[if_pos rfl]
theorem aZ{H:Hp}{a b:Addr}{o:HO}(h:b≠a):upd H a o b=H b:=by unfold upd;rw[if_neg h]
theorem eO{H:Hp}{a b:Addr}{o:HO}(h:H a=some o)(h':H b=none):a≠b:=by
 intro e;subst e;rw[h]at h';cases h'
section
variable(P:Program)(w:World)
def dY(H:Hp)(h:Heap)(a:Addr):HO->Prop
 | .lst xs=>xs.length<=sizeLine/\∃(its:List Value) (n:Nat),Vals xs its/\h.get? a=some { cls:=.type "list",data:=.seq its.toArray n }
 | .tup xs=>xs.length<=sizeLine/\∃its:List Value,Vals xs its/\IsTup h a its.toArray
 | .dK dJ=>dJ.length<=sizeLine/\(a==sysModules)=false/\∃vs,KV dJ vs/\h.DictOf (N8 P w) a vs
 | .dT dJ=>dJ.length<=sizeLine/\(a==sysModules)=false/\∃xs:List (List Key × Addr × Value),
   Paired (λ(p:List Key × V) (q:List Key × Addr × Value)=>p.1=q.1/\H q.2.1=some (.tup (p.1.map kV))/\RelV p.2 q.2.2) dJ xs /\
   ∃o es ep,h.get? a=some o/\o.ExactDict/\o.data=.dict es ep/\es.toList=xs.map (entryOfKey (tupleKind (N8 P w)))/\(xs.map (·.1)).Nodup
 | .set S n=>h.SetOf (intKind P w) a S n
 | .ins C dx fs=>H dx=some (.own a)/\fs.length<=1000/\dx≠a/\h.get? a=some (PySem.W.instObj C dx) /\
   ∃mA,h.Ns1 dx mA/\(∀f,lM (fs.lookup f) (mA f))/\PySem.Within mA (fs.map (·.1))
 | .own _=>∃o,h.get? a=some o
 | .xd fs=>∃mA,h.Ns1 a mA/\∀f,lM (fs.lookup f) (mA f)
 | .wW lo hi=>∃t u v,h.get? a=some { cls:=.type "range",data:=.fields #[.int lo t,.int hi u,.int 1 v] }
 | .br o u=>h.get? a=some o/\dY H h a u
 | .dA ps=>h.get? a=some { cls:=.none,data:=.fields ps }/\TriplesOk ps.toList/\∀pos cv,codeAmong pos ps.toList=some cv->∃c φ,cv=.ref c/\H c=some (.ext φ)/\∀h',φ h'->∃q,h'.CodeRec (.ref c) q
 | .met f x=>h.get? a=some (PySem.W.methodObj (.ref f) (.ref x))
 | .ext φ=>φ h/\(∃o,h.get? a=some o)/\∀h1 h2:Heap,φ h1->(∀b o,(b=a\/H b=some (.own a))->h1.get? b=some o->h2.get? b=some o)->φ h2
def cL(H:Hp)(h:Heap):Prop:=∀a o,H a=some o->dY P w H h a o
end
section
variable{P:Program}{w:World}{H H':Hp}{h h':Heap}{a:Addr}{o:HO}
theorem dY.lt(x:dY P w H h a o):a<h.objs.size:=by
 cases o with
 | lst xs=>obtain⟨_,_,_,_,e⟩:=x;exact bP e
 | tup xs=>obtain⟨_,_,_,p⟩:=x;exact p.lt
 | dK dJ=>obtain⟨_,_,_,_,o,_,_,e,_⟩:=x;exact bP e
 | dT dJ=>obtain⟨_,_,_,_,o,_,_,e,_⟩:=x;exact bP e
 | set S n=>obtain⟨o,_,_,_,e,_⟩:=x;exact bP e
 | ins C dx fs=>obtain⟨_,_,_,e,_⟩:=x;exact bP e
 | own y=>obtain⟨_,e⟩:=x;exact bP e
 | xd fs=>obtain⟨_,⟨_,_,_,e,_⟩,_⟩:=x;exact bP e
 | wW lo hi=>obtain⟨_,_,_,e⟩:=x;exact bP e
 | br ob u=>obtain⟨e,_⟩:=x;exact bP e
 | dA ps=>exact bP (show h.get? a=some _ from x.1)
 | met f y=>exact bP (show h.get? a=some _ from x)
 | ext φ=>obtain⟨_,⟨_,e⟩,_⟩:=x;exact bP e
theorem Paired.Eh{α β:Type}{F G:α->β->Prop}:∀{l₁:List α} {l₂:List β},Paired F l₁ l₂->(∀a b,F a b->G a b)->Paired G l₁ l₂
 | _,_,.nil,_=>.nil
 | _,_,.cons r t,f=>.cons (f _ _ r) (Paired.Eh t f)
theorem dY.kC(x:dY P w H h a o)(k:∀b u,(b=a\/H b=some (.own a))->h.get? b=some u->h'.get? b=some u)
  (ho:∀b,H b=some (.own a)->H' b=some (.own a)) (ht:∀b xs,H b=some (.tup xs)->H' b=some (.tup xs)) (hx:∀b φ,H b=some (.ext φ)->H' b=some (.ext φ)):dY P w H' h' a o:=by
 induction o with
 | lst xs=>obtain⟨z,its,n,r,e⟩:=x;exact⟨z,its,n,r,k _ _ (.inl rfl) e⟩
 | tup xs=>obtain⟨z,its,r,ob,e,c⟩:=x;exact⟨z,its,r,ob,k _ _ (.inl rfl) e,c⟩
 | dK dJ=>obtain⟨z,y,vs,r,ob,es,ep,e,c⟩:=x;exact⟨z,y,vs,r,ob,es,ep,k _ _ (.inl rfl) e,c⟩
 | dT dJ =>
  obtain⟨z,y,xs,r,ob,es,ep,e,c⟩:=x
  exact⟨z,y,xs,Paired.Eh r λp q z=>⟨z.1,ht _ _ z.2.1,z.2.2⟩,ob,es,ep,k _ _ (.inl rfl) e,c⟩
 | set S n=>obtain⟨ob,es,ep,t,e,c⟩:=x;exact⟨ob,es,ep,t,k _ _ (.inl rfl) e,c⟩
 | ins C dx fs =>
  obtain⟨d,z,ne,e,mA,⟨od,es,ep,e2,c⟩,r⟩:=x
  exact⟨ho _ d,z,ne,k _ _ (.inl rfl) e,mA,⟨od,es,ep,k _ _ (.inr d) e2,c⟩,r⟩
 | own y=>obtain⟨ob,e⟩:=x;exact⟨ob,k _ _ (.inl rfl) e⟩
 | xd fs=>obtain⟨mA,⟨od,es,ep,e,c⟩,r⟩:=x;exact⟨mA,⟨od,es,ep,k _ _ (.inl rfl) e,c⟩,r⟩
 | wW lo hi=>obtain⟨t,u,v,e⟩:=x;exact⟨t,u,v,k _ _ (.inl rfl) e⟩
 | br ob u ih=>obtain⟨e,q⟩:=x;exact⟨k _ _ (.inl rfl) e,ih q⟩
 | dA ps =>
  obtain⟨e,t,c⟩:=x
  refine⟨k a _ (.inl rfl) e,t,λpos cv q=>?_⟩
  obtain⟨d,φ,e1,e2,e3⟩:=c pos cv q
  exact⟨d,φ,e1,hx _ _ e2,e3⟩
 | met f y =>
  have e:h.get? a=some (PySem.W.methodObj (.ref f) (.ref y)):=x
  show h'.get? a=some (PySem.W.methodObj (.ref f) (.ref y))
  exact k a _ (.inl rfl) e
 | ext φ=>obtain⟨p,⟨o,e⟩,st⟩:=x;exact⟨st _ _ p λb o hb q=>k _ _ hb q,⟨o,k _ _ (.inl rfl) e⟩,λh1 h2 p1 kk=>st h1 h2 p1 λb o hb q=>kk b o (hb.imp id (ho b)) q⟩
theorem cL.lt(x:cL P w H h)(e:H a=some o):a<h.objs.size:=(x a o e).lt
theorem cL.fresh(x:cL P w H h)(e:h.objs.size<=a):H a=none:=by
 cases q:H a with
 | none=>rfl
 | some u=>exact absurd (dm (x.lt q) e) (gF _)
theorem cL.kept(x:cL P w H h)(k:∀b u,h.get? b=some u->h'.get? b=some u):cL P w H h':=λa o e =>
 (x a o e).kC (λb u _ q=>k b u q) (λ_ q=>q) (λ_ _ q=>q) λ_ _ q=>q
theorem cL.laid(x:cL P w H h)(k:∀b u,h.get? b=some u->h'.get? b=some u)(hp:h.objs.size<=a)(new:dY P w (upd H a o) h' a o):cL P w (upd H a o) h':=λb u e=>by
 have hn:=x.fresh hp
 by_cases hb:b=a
 ·subst hb;rw[bJ]at e;cases e;exact new
 ·rw[aZ hb]at e
  exact(x b u e).kC (λc v _ q=>k c v q) (λc q=>by rw[aZ (eO q hn)];exact q) (λc xs q=>by rw[aZ (eO q hn)];exact q) λc xs q=>by rw[aZ (eO q hn)];exact q
end
def Rd(H:Hp)(a:Addr)(u:HO):Prop:=H a=some u\/∃o,H a=some (.br o u)
theorem Rd.ok{P:Program}{w:World}{H:Hp}{h:Heap}{a:Addr}{u:HO}(r:Rd H a u)(x:cL P w H h):dY P w H h a u:=by
 rcases r with r | ⟨o,r⟩
 ·exact x a u r
 ·obtain⟨_,q⟩:=x a _ r
  exact q
def AE:Option HO->Prop
 | some (.lst _)=>True
 | some (.dK _)=>True
 | some (.dT _)=>True
 | some (.set _ _)=>True
 | some (.ins _ _ _)=>True
 | _=>False
section
variable{P:Program}{w:World}{H:Hp}{h h':Heap}{x e:Addr}{o':HO}
theorem cL.write(ok:cL P w H h)(mu:AE (H x))(he:e=x\/H e=some (.own x))(k:∀b u,b≠e->h.get? b=some u->h'.get? b=some u)(tO:∃u,h'.get? e=some u)
  (new:dY P w (upd H x o') h' x o'):cL P w (upd H x o') h':=λb u q=>by
 have N9:∀c y,H c=some (.own y)->c≠x:=λc y r z=>by subst z;rw[r]at mu;exact mu
 have Xw:∀c xs,H c=some (.tup xs)->c≠x:=λc xs r z=>by subst z;rw[r]at mu;exact mu
 by_cases hb:b=x
 ·subst hb;rw[bJ]at q;cases q;exact new
 ·rw[aZ hb]at q
  by_cases qg:b=e
  ·have q':H b=some (.own x):=by
    rcases he with z | z
    ·exact absurd (qg.trans z) hb
    ·rw[qg];exact z
   rw[q]at q';cases q'
   obtain⟨v,hv⟩:=tO
   exact⟨v,by rw[qg];exact hv⟩
  ·refine(ok b u q).kC (λc v hc r=>k c v ?_ r) (λc r=>by rw[aZ (N9 c b r)];exact r) (λc xs r=>by rw[aZ (Xw c xs r)];exact r) λc φ r=>by rw[aZ (λz=>by rw[z]at r;rw[r]at mu;exact mu)];exact r
   rcases hc with rfl | hc
   ·exact qg
   ·rintro rfl
    rcases he with z | z
    ·exact N9 c b hc z
    ·rw[hc]at z;cases z;exact hb rfl
end
structure Un(fs ex:List Addr)(H H':Hp)(h h':Heap):Prop where
 keep:∀b o,h.get? b=some o->H b=none->b ∉ fs->b ∉ ex->h'.get? b=some o
 slot:∀b o,h.get? b=some o->H b=none->b∈fs->b ∉ ex->∃sl,h'.get? b=some { o with slots:=sl }
 free:∀b o,h.get? b=some o->H b=none->b ∉ ex->H' b=none
 there:∀b o,h.get? b=some o->b ∉ ex->∃o',h'.get? b=some o'
 jZ:∀b xs,H b=some (.tup xs)->H' b=some (.tup xs)
 jA:∀b o u,H b=some (.br o u)->H' b=some (.br o u)
 iG:∀b ps,H b=some (.dA ps)->∃more,H' b=some (.dA (ps++more))
section
variable{fs fs' ex ex':List Addr}{H H1 H2:Hp}{h h1 h2 h':Heap}{a x e:Addr}{o:HO}
theorem Un.any(u:Un fs ex H H1 h h1){b:Addr}{ob:Obj}(q:h.get? b=some ob)(n:H b=none)(hx:b ∉ ex):∃sl,h1.get? b=some { ob with slots:=sl }:=by
 by_cases hb:b∈fs
 ·exact u.slot b ob q n hb hx
 ·exact⟨ob.slots,u.keep b ob q n hb hx⟩
theorem Un.kept(k:∀b u,h.get? b=some u->h'.get? b=some u):Un fs ex H H h h' :=
 ⟨λb ob q _ _ _=>k b ob q,λb ob q _ _ _=>⟨ob.slots,k b ob q⟩,λ_ _ _ n _=>n,λb ob q _=>⟨ob,k b ob q⟩,λ_ _ q=>q,λ_ _ _ q=>q,λ_ ps q=>⟨#[],by rw[q];simp⟩⟩
theorem Un.refl:Un fs ex H H h h:=Un.kept λ_ _ q=>q
theorem Un.laid(k:∀b u,h.get? b=some u->h'.get? b=some u)(hp:h.objs.size<=a)(hn:H a=none):Un fs ex H (upd H a o) h h' where
 keep:=λb u q _ _ _=>k b u q
 slot:=λb u q _ _ _=>⟨u.slots,k b u q⟩
 free:=λb u q n _=>by rw[aZ (fg (dm (bP q) hp))];exact n
 there:=λb u q _=>⟨u,k b u q⟩
 jZ:=λb xs q=>by rw[aZ (eO q hn)];exact q
 jA:=λb u xs q=>by rw[aZ (eO q hn)];exact q
 iG:=λb ps q=>⟨#[],by rw[aZ (eO q hn),q];simp⟩
theorem Un.write(mu:AE (H x))(he:e=x\/H e=some (.own x))(k:∀b u,b≠e->h.get? b=some u->h'.get? b=some u)(tO:∃u,h'.get? e=some u):Un fs ex H (upd H x o) h h':=by
 have hx:∀b,H b=none->b≠x:=λb n z=>by subst z;rw[n]at mu;exact mu
 have hb:∀b,H b=none->b≠e:=λb n z=>by
  subst z
  rcases he with r | r
  ·exact hx b n r
  ·rw[n]at r;cases r
 have hm:∀b u,H b=some u->¬ AE (some u)->b≠x:=λb u q nm z=>by subst z;rw[q]at mu;exact nm mu
 refine⟨λb u q n _ _=>k b u (hb b n) q,λb u q n _ _=>⟨u.slots,k b u (hb b n) q⟩,λb u q n _=>by rw[aZ (hx b n)];exact n,λb u q _=>?_,
  λb xs q=>by rw[aZ (hm b _ q λz=>z)];exact q,λb u xs q=>by rw[aZ (hm b _ q λz=>z)];exact q,λb ps q=>⟨#[],by rw[aZ (hm b _ q λz=>z),q];simp⟩⟩
 by_cases qg:b=e
 ·subst qg;exact tO
 ·exact⟨u,k b u qg q⟩
end
def AF(h:Heap)(H:Hp):List Addr:=(aL h.objs.size).filter λa=>(H a).isSome
def lN(h:Heap)(H:Hp):Heap:=PySem.W.hideAll h (AF h H)
theorem Xx(h:Heap)(H:Hp):(lN h H).objs.size=h.objs.size:=PySem.W.hideAll_size _ _
theorem Xy{h:Heap}{H:Hp}{b:Addr}{o:Obj}(e:h.get? b=some o)(n:H b=none):(lN h H).get? b=some o :=
 PySem.W.hideAll_get _ e λhm=>by
  have q:(H b).isSome=true:=(sU.mp hm).2
  rw[n]at q;simp at q
theorem Xz{h:Heap}{H:Hp}{b:Addr}{o:Obj}(e:(lN h H).get? b=some o):h.get? b=some o/\H b=none:=by
 have e':h.get? b=some o:=PySem.W.of_hideAll (AF h H) e
 refine⟨e',?_⟩
 cases q:H b with
 | none=>rfl
 | some x =>
  have hm:b∈AF h H:=sU.mpr ⟨cX.mpr (bP e'),by simp[q]⟩
  have z:(lN h H).get? b=none:=PySem.W.hideAll_none (AF h H) hm
  rw[z]at e;cases e
end L2
namespace L2
open PySem PySem.Spec PyProof.Rows
structure Mod(K:PySem.W.Frag)(mg:Str->Option Value)(base:Heap):Prop where
 mZ:K.In base
 glob:base.Ns mainGlobals mg
 blt:∃mb,base.Ns builtinsNs mb/\∀x:Str,x≠"__name__"->mb x=bootBuiltins x
 nolimit:base.NoLimit
structure Cx where
 prog:Program
 w:World
 K:PySem.W.Frag
 mg:Str->Option Value
 base:Heap
 A:Around
 N:List Str
 cM:Shared
 j3:Hp
 env:Env
 outer:List Env
 stack:List Env
 ex:List Addr
 fn:Str->Bool
 calm:Bool
 pn:List (Addr × Obj)
 xe:Value->Shared->Prop
def eD(l:List Env):List Addr:=l.filterMap (·.frame)
abbrev Cx.fs(X:Cx):List Addr:=eD X.outer
def lQ(sc:Scope)(x:Str):Prop:=sc.names.lookup x=some .local\/sc.names.lookup x=some .cell\/sc.names.lookup x=some .free
def Loc(sc:Scope)(x:Str):Prop:=sc.names.lookup x=some .local\/sc.names.lookup x=some .cell
def XA(env:Env)(h:Heap)(m:Str->Option Value)(x:Str)(u:Value):Prop :=
 (env.kindOf x=some .local/\m x=some u)\/((env.kindOf x=some .cell\/env.kindOf x=some .free)/\∃c,env.cells.lookup x=some c/\h.IsCell c (some u))
structure Cx.Ok(X:Cx):Prop where
 mod:Mod X.K X.mg X.base
 kind:X.env.scope.kind=.function
 glob:X.env.globals=mainGlobals
 blt:X.env.builtins=builtinsNs
 above:X.cM.heap.objs.size<=X.env.locals
 inj:∀x y c,X.env.cells.lookup x=some c->X.env.cells.lookup y=some c->x=y
 has:∀x,(X.env.kindOf x=some .cell\/X.env.kindOf x=some .free)->∃c,X.env.cells.lookup x=some c
 qh:∀x c,X.fn x=true->X.env.cells.lookup x=some c->X.cM.heap.objs.size<=c
 hd:X.calm=true->X.A.handled=none
 frames:X.A.frames=some X.stack
 wX:X.stack=X.outer\/(X.stack=X.env::X.outer/\X.env.frame=some X.env.locals)
 wY:∀b∈X.ex,b≠X.env.locals/\∀x c,X.env.cells.lookup x=some c->c≠b
 bs:∀b o,X.base.get? b=some o->X.cM.heap.get? b=some o/\X.j3 b=none
 j4:X.base.objs.size<=X.cM.heap.objs.size
 tP:∀b o,X.base.get? b=some o->b ∉ X.ex
 tQ:∀b∈X.ex,b ∉ X.fs
 gS:X.cM.heap.FunFrames X.base X.outer
 j5:∀b∈X.fs,X.j3 b=none
structure Inv(X:Cx)(pins:List (Addr × Obj))(σ:List (Option V))(H:Hp)(s:Shared):Prop where
 ok:X.Ok
 os:s.os=X.cM.os
 bare:AllBare s.gens
 base:Un X.fs X.ex X.j3 H X.cM.heap s.heap
 loc:∃m,s.heap.Ns X.env.locals m/\∀(i:Nat) (x:Str) (v:V),X.N[i]?=some x->σ[i]?=some (some v)->lQ X.env.scope x->∃u,RelV v u/\XA X.env s.heap m x u
 cell:∀x c,X.env.cells.lookup x=some c->∃v,s.heap.IsCell c v
 free:H X.env.locals=none
 jB:∀x c,X.env.cells.lookup x=some c->H c=none
 pin:∀p∈X.pn++pins,s.heap.get? p.1=some p.2/\H p.1=none/\p.1≠X.env.locals/\p.1 ∉ X.fs/\∀v,p.2.data≠.cell v
 aK:cL X.prog X.w H s.heap
 len:σ.length=X.N.length
section
variable{X:Cx}{pins:List (Addr × Obj)}{σ:List (Option V)}{H H':Hp}{s:Shared}{h':Heap}
theorem Cx.Ok.XB(ok:X.Ok){b:Addr}{o:Obj}(e:X.base.get? b=some o):b ∉ X.fs:=λhb=>by
 have:=(ok.gS.mem hb).1
 rw[e]at this;cases this
theorem Inv.bs(I:Inv X pins σ H s):∀b o,X.base.get? b=some o->s.heap.get? b=some o/\H b=none:=λb o e =>
 ⟨I.base.keep b o (I.ok.bs b o e).1 (I.ok.bs b o e).2 (I.ok.XB e) (I.ok.tP b o e),I.base.free b o (I.ok.bs b o e).1 (I.ok.bs b o e).2 (I.ok.tP b o e)⟩
theorem Inv.bk(I:Inv X pins σ H s):∀b o,X.base.get? b=some o->s.heap.get? b=some o:=λb o e=>(I.bs b o e).1
theorem Inv.mod(I:Inv X pins σ H s):Mod X.K X.mg X.base:=I.ok.mod
theorem Inv.da(I:Inv X pins σ H s):X.K.In s.heap:=I.ok.mod.mZ.keeps I.bk
theorem Inv.lt(I:Inv X pins σ H s):X.env.locals<s.heap.objs.size:=let⟨_,hn,_⟩:=I.loc;hn.lt
theorem Inv.sz(I:Inv X pins σ H s):X.cM.heap.objs.size<=s.heap.objs.size:=fk I.ok.above (z7 I.lt)
theorem Inv.Oa(I:Inv X pins σ H s){a:Addr}(h:s.heap.objs.size<=a):a ∉ X.fs:=λhb=>by
 obtain⟨_,o,ho,_⟩:=I.ok.gS.mem hb
 exact absurd (dm (bP ho) (fk I.sz h)) (gF _)
theorem Inv.ow(I:Inv X pins σ H s):∀x c,X.env.cells.lookup x=some c->c≠X.env.locals:=λx c e z=>by
 obtain⟨v,o,ho,hd⟩:=I.cell x c e
 obtain⟨m,⟨o',es,ep,kD,wZ,_⟩,_⟩:=I.loc
 rw[z,kD]at ho;cases ho;rw[wZ]at hd;cases hd
theorem Inv.gS(I:Inv X pins σ H s):s.heap.FunFrames X.base X.outer:=by
 have all:∀(l:List Env),(∀b∈eD l,b∈X.fs)->X.cM.heap.FunFrames X.base l->s.heap.FunFrames X.base l:=by
  intro l
  induction l with
  | nil=>intro _ _;trivial
  | cons env r ih =>
   intro hs hl
   obtain⟨hk,⟨L,o,hf,hn,ho,hd⟩,hr⟩:=hl
   have hL:L∈X.fs:=hs L (by unfold eD;rw[z9,hf];exact iW)
   obtain⟨sl,e⟩:=I.base.slot L o ho (I.ok.j5 L hL) hL λz=>I.ok.tQ L z hL
   exact⟨hk,⟨L,_,hf,hn,e,hd⟩,ih (λb hb=>hs b (by unfold eD;rw[z9,hf];exact gi _ hb)) hr⟩
 exact all X.outer (λ_ hb=>hb) I.ok.gS
theorem Inv.stack(I:Inv X pins σ H s):s.heap.FunFrames X.base X.stack:=by
 rcases I.ok.wX with e | ⟨e,hf⟩
 ·rw[e];exact I.gS
 ·rw[e]
  obtain⟨m,hn,_⟩:=I.loc
  refine .cons (by rw[I.ok.kind];decide) hf hn ?_ I.gS
  exact Heap.get?_none_of_le (fk I.ok.j4 I.ok.above)
theorem Inv.AG(I:Inv X pins σ H s):∀b∈eD X.stack,b∈X.env.locals::X.fs:=λb hb=>by
 rcases I.ok.wX with e | ⟨e,hf⟩
 ·rw[e]at hb;exact gi _ hb
 ·rw[e]at hb
  unfold eD at hb
  rw[z9,hf]at hb
  exact hb
theorem Inv.Ei(I:Inv X pins σ H s):∀b∈eD X.stack,H b=none:=λb hb=>by
 rcases cu.mp (I.AG b hb)with e | hb
 ·rw[e];exact I.free
 ·obtain⟨_,o,ho,_⟩:=I.ok.gS.mem hb
  exact I.base.free b o ho (I.ok.j5 b hb) λz=>I.ok.tQ b z hb
theorem Inv.step{g':Array GenState}{t':Nat}{d':Drawn}{ch:List Addr}(I:Inv X pins σ H s)
  (lR:∀b∈ch,(b∈X.ex\/X.cM.heap.objs.size<=b)/\b≠X.env.locals/\(∀x c,X.env.cells.lookup x=some c->c≠b)/\∀p∈X.pn++pins,p.1≠b)
  (keep:∀b o,b≠X.env.locals->b ∉ X.fs->b ∉ ch->s.heap.get? b=some o->H b=none->h'.get? b=some o)
  (slot:∀b o,b≠X.env.locals->b∈X.fs->b ∉ ch->s.heap.get? b=some o->H b=none->∃sl,h'.get? b=some { o with slots:=sl }) (free:∀b o,b ∉ ch->s.heap.get? b=some o->H b=none->H' b=none)
  (there:∀b o,b ∉ ch->s.heap.get? b=some o->∃o',h'.get? b=some o')
  (jZ:∀b xs,H b=some (.tup xs)->H' b=some (.tup xs)) (jA:∀b o u,H b=some (.br o u)->H' b=some (.br o u)) (iG:∀b ps,H b=some (.dA ps)->∃more,H' b=some (.dA (ps++more)))
  (ns:∀m,s.heap.Ns X.env.locals m->h'.Ns X.env.locals m) (aK:cL X.prog X.w H' h') (hg:AllBare g') :
  Inv X pins σ H' { s with heap:=h',gens:=g',drawn:=d',toks:=t' }:=by
 have AH:∀b o,X.cM.heap.get? b=some o->b≠X.env.locals:=λb o e=>fg (dm (bP e) I.ok.above)
 have tR:∀b o,X.cM.heap.get? b=some o->b ∉ X.ex->b ∉ ch:=λb o e hx hb=>by
  rcases(lR b hb).1 with z | z
  ·exact hx z
  ·exact absurd (dm (bP e) z) (gF _)
 have cellK:∀x c,X.env.cells.lookup x=some c->∀v,s.heap.IsCell c v->h'.IsCell c v:=λx c e v ⟨o,ho,hd⟩=>by
  have w4:c ∉ ch:=λz=>(lR c z).2.2.1 x c e rfl
  by_cases hc:c∈X.fs
  ·obtain⟨sl,q⟩:=slot c o (I.ow x c e) hc w4 ho (I.jB x c e)
   exact⟨_,q,hd⟩
  ·exact⟨o,keep c o (I.ow x c e) hc w4 ho (I.jB x c e),hd⟩
 refine⟨I.ok,I.os,hg,⟨λb o e n hb hx=>?_,λb o e n hb hx=>?_,λb o e n hx=>?_,λb o e hx=>?_,λb xs e=>jZ b xs (I.base.jZ b xs e),λb o xs e=>jA b o xs (I.base.jA b o xs e),λb ps e=>?_⟩,?_,λx c e=>?_,?_,λx c e=>?_,λp hp=>?_,aK,I.len⟩
 ·exact keep b o (AH b o e) hb (tR b o e hx) (I.base.keep b o e n hb hx) (I.base.free b o e n hx)
 ·obtain⟨sl,e1⟩:=I.base.slot b o e n hb hx
  obtain⟨Ej,e2⟩:=slot b _ (AH b o e) hb (tR b o e hx) e1 (I.base.free b o e n hx)
  exact⟨Ej,e2⟩
 ·obtain⟨o',e1⟩:=I.base.there b o e hx
  exact free b o' (tR b o e hx) e1 (I.base.free b o e n hx)
 ·obtain⟨o',e1⟩:=I.base.there b o e hx
  exact there b o' (tR b o e hx) e1
 ·obtain⟨m1,e1⟩:=I.base.iG b ps e
  obtain⟨m2,e2⟩:=iG b _ e1
  exact⟨m1++m2,by rw[e2,sV]⟩
 ·obtain⟨m,hn,hl⟩:=I.loc
  refine⟨m,ns m hn,λi x v e1 e2 e3=>?_⟩
  obtain⟨u,r,l⟩:=hl i x v e1 e2 e3
  refine⟨u,r,?_⟩
  rcases l with l | ⟨k,c,e,z⟩
  ·exact .inl l
  ·exact .inr ⟨k,c,e,cellK x c e _ z⟩
 ·obtain⟨v,z⟩:=I.cell x c e
  exact⟨v,cellK x c e v z⟩
 ·obtain⟨m,⟨o,_,_,ho,_⟩,_⟩:=I.loc
  exact free _ o (λz=>(lR _ z).2.1 rfl) ho I.free
 ·obtain⟨v,o,ho,hd⟩:=I.cell x c e
  exact free c o (λz=>(lR c z).2.2.1 x c e rfl) ho (I.jB x c e)
 ·obtain⟨e,n,ne,nf,d⟩:=I.pin p hp
  have w4:p.1 ∉ ch:=λz=>(lR p.1 z).2.2.2 p hp rfl
  exact⟨keep p.1 p.2 ne nf w4 e n,free p.1 p.2 w4 e n,ne,nf,d⟩
theorem Inv.un{t':Nat}(I:Inv X pins σ H s)(u:Un X.fs [] H H' s.heap h')(aK:cL X.prog X.w H' h'):Inv X pins σ H' { s with heap:=h',toks:=t' }:=by
 obtain⟨m,⟨o,es,ep,ho,r⟩,_⟩:=id I.loc
 obtain⟨sl,hL⟩:=u.any ho I.free (by simp)
 exact I.step (g':=s.gens) (d':=s.drawn) (ch:=[]) (λ_ z=>nomatch z) (λb o _ hb _ e n=>u.keep b o e n hb (by simp)) (λb o _ hb _ e n=>u.slot b o e n hb (by simp)) (λb o _ e n=>u.free b o e n (by simp)) (λb o _ e=>u.there b o e (by simp)) u.jZ u.jA u.iG (λm' hm=>by
  obtain⟨o',Ek,El,kD,r'⟩:=hm
  rw[ho]at kD;cases kD
  exact⟨_,Ek,El,hL,r'⟩) aK I.bare
theorem Inv.call{g':Array GenState}{t':Nat}{d':Drawn}{ch:List Addr}(I:Inv X pins σ H s)(u:Un (eD X.stack) ch H H' s.heap h')(aK:cL X.prog X.w H' h')(hg:AllBare g')
  (lR:∀b∈ch,(b∈X.ex\/X.cM.heap.objs.size<=b)/\b≠X.env.locals/\(∀x c,X.env.cells.lookup x=some c->c≠b)/\∀p∈X.pn++pins,p.1≠b) :
  Inv X pins σ H' { s with heap:=h',gens:=g',drawn:=d',toks:=t' }:=by
 obtain⟨m,⟨o,es,ep,ho,r⟩,_⟩:=id I.loc
 obtain⟨sl,hL⟩:=u.any ho I.free λz=>(lR _ z).2.1 rfl
 exact I.step (ch:=ch) lR (λb o hL hb hc e n=>u.keep b o e n (λz=>(cu.mp (I.AG b z)).elim hL hb) hc) (λb o _ _ hc e n=>u.any e n hc) (λb o hc e n=>u.free b o e n hc) (λb o hc e=>u.there b o e hc) u.jZ u.jA u.iG (λm' hm=>by
  obtain⟨o',Ek,El,kD,r'⟩:=hm
  rw[ho]at kD;cases kD
  exact⟨_,Ek,El,hL,r'⟩) aK hg
theorem Inv.turned{t':Nat}{it:Addr}(I:Inv X pins σ H s)(k:∀b o,b≠it->s.heap.get? b=some o->h'.get? b=some o)(hn:H it=none)(hL:it≠X.env.locals)
  (h1:it∈X.ex\/X.cM.heap.objs.size<=it) (h2:∀x c,X.env.cells.lookup x=some c->c≠it) (h3:∀p∈X.pn++pins,p.1≠it):Inv X pins σ H { s with heap:=h',toks:=t' }:=by
 have oy:∀b u,H b=some u->b≠it:=λb u e z=>by rw[z,hn]at e;cases e
 refine I.step (g':=s.gens) (d':=s.drawn) (ch:=[it]) (λb hb=>?_) (λb o _ _ hc e _=>k b o (λz=>hc (by simp[z])) e) (λb o _ _ hc e _=>⟨o.slots,k b o (λz=>hc (by simp[z])) e⟩) (λ_ _ _ _ n=>n)
  (λb o hc e=>⟨o,k b o (λz=>hc (by simp[z])) e⟩) (λ_ _ e=>e) (λ_ _ _ e=>e) (λb ps e=>⟨#[],by rw[e];simp⟩) (λm hm=>?_) (λb u e=>?_) I.bare
 ·have e:b=it:=by simpa using hb
  subst e
  exact⟨h1,hL,h2,h3⟩
 ·obtain⟨o,es,ep,ho,r⟩:=hm
  exact⟨o,es,ep,k _ o (fE hL) ho,r⟩
 ·refine(I.aK b u e).kC (λc v hc q=>k c v ?_ q) (λ_ q=>q) (λ_ _ q=>q) λ_ _ q=>q
  rcases hc with z | z
  ·rw[z];exact oy b u e
  ·exact oy c _ z
theorem Inv.tok(I:Inv X pins σ H s)(t:Nat):Inv X pins σ H { s with toks:=t }:=I.un (h':=s.heap) (t':=t) Un.refl I.aK
theorem Inv.kept{t':Nat}(I:Inv X pins σ H s)(k:∀b u,s.heap.get? b=some u->h'.get? b=some u):Inv X pins σ H { s with heap:=h',toks:=t' }:=I.un (Un.kept k) (I.aK.kept k)
theorem Inv.laid{a:Addr}{o:HO}{t':Nat}(I:Inv X pins σ H s)(k:∀b u,s.heap.get? b=some u->h'.get? b=some u)(hp:s.heap.objs.size<=a)(new:dY X.prog X.w (upd H a o) h' a o) :
  Inv X pins σ (upd H a o) { s with heap:=h',toks:=t' }:=I.un (Un.laid k hp (I.aK.fresh hp)) (I.aK.laid k hp new)
theorem Inv.write{x e:Addr}{o:HO}{t':Nat}(I:Inv X pins σ H s)(mu:AE (H x))(he:e=x\/H e=some (.own x))(k:∀b u,b≠e->s.heap.get? b=some u->h'.get? b=some u)(tO:∃u,h'.get? e=some u)
  (new:dY X.prog X.w (upd H x o) h' x o):Inv X pins σ (upd H x o) { s with heap:=h',toks:=t' }:=I.un (Un.write mu he k tO) (I.aK.write mu he k tO new)
theorem Inv.weak{aI:List (Option V)}(I:Inv X pins σ H s)(hl:aI.length=σ.length)(w:∀(i:Nat) v,aI[i]?=some (some v)->σ[i]?=some (some v)):Inv X pins aI H s :=
 ⟨I.ok,I.os,I.bare,I.base,let⟨m,hn,Em⟩:=I.loc;⟨m,hn,λi x v e1 e2 e3=>Em i x v e1 (w i v e2) e3⟩,I.cell,I.free,I.jB,I.pin,I.aK,hl.trans I.len⟩
theorem Inv.Ob{Eo:List (Addr × Obj)}(I:Inv X pins σ H s)(h:∀p∈Eo,s.heap.get? p.1=some p.2/\H p.1=none/\p.1≠X.env.locals/\p.1 ∉ X.fs/\∀v,p.2.data≠.cell v):Inv X Eo σ H s :=
 ⟨I.ok,I.os,I.bare,I.base,I.loc,I.cell,I.free,I.jB,λp hp=>(bX.mp hp).elim (λz=>I.pin p (eV _ z)) (h p),I.aK,I.len⟩
theorem Oc{N:List Str}(hN:N.Nodup){i j:Nat}{x:Str}(a:N[i]?=some x)(b:N[j]?=some x):i=j:=by
 obtain⟨h1,e1⟩:=iX.mp a
 obtain⟨h2,e2⟩:=iX.mp b
 exact(List.getElem_inj hN).mp (e1.trans e2.symm)
theorem XC{M:Model}{A:Around}{E:Value->Shared->Prop}{i:Nat}{x:Str}{v:V}{u:Value}{Q:Unit->Shared->Prop}(I:Inv X pins σ H s)(hN:X.N.Nodup)(hi:X.N[i]?=some x)(hx:Loc X.env.scope x)(r:RelV v u)
  (h:∀s',Inv X pins (σ.set i (some v)) H s'->(∃a,Heap.SameBut a s.heap s'.heap/\(a=X.env.locals\/X.env.cells.lookup x=some a))->Q () s') (hf:X.fn x=true\/X.env.scope.names.lookup x=some .local:=by first | exact .inl rfl | exact .inr rfl | assumption):wpAny M A (storeName X.env x u) Q E s:=by
 obtain⟨m,hn,hl⟩:=id I.loc
 have XD:(X.env.scope.kind==.class||(X.env.scope.kind==.module&&X.env.locals != X.env.globals))=false:=by rw[I.ok.kind];rfl
 have Od:i<σ.length:=by rw[I.len];exact(iX.mp hi).1
 have ow:=I.ow
 have tracked:∀{a:Addr} {h':Heap},(∃o,s.heap.get? a=some o/\H a=none)->Heap.SameBut a s.heap h'->cL X.prog X.w H h':=λ{a h'} ha hs b ob e=>by
  obtain⟨_,_,Oe⟩:=ha
  refine(I.aK b ob e).kC (λc w' hc q=>(hs.2 c ?_).trans q) (λ_ q=>q) (λ_ _ q=>q) λ_ _ q=>q
  rintro rfl
  rcases hc with rfl | hc
  ·rw[Oe]at e;cases e
  ·rw[Oe]at hc;cases hc
 rcases hx with hk | hk
 ·refine wpAny_storeName_local hk hn (λh' XE hs=>?_) XD
  obtain⟨oL,_,_,XF,_⟩:=id hn
  refine h _ ⟨I.ok,I.os,I.bare,⟨λb o e n hb hx=>?_,λb o e n hb hx=>?_,I.base.free,λb o e hx=>?_,I.base.jZ,I.base.jA,I.base.iG⟩,⟨_,XE,λj y v' e1 e2 e3=>?_⟩,λy c e=>?_,I.free,I.jB,λp hp=>?_,tracked ⟨oL,XF,I.free⟩ hs,by simpa using I.len⟩ ⟨_,hs,.inl rfl⟩
  ·exact(hs.2 b (fg (dm (bP e) I.ok.above))).trans (I.base.keep b o e n hb hx)
  ·obtain⟨sl,e1⟩:=I.base.slot b o e n hb hx
   exact⟨sl,(hs.2 b (fg (dm (bP e) I.ok.above))).trans e1⟩
  ·obtain⟨o',e1⟩:=I.base.there b o e hx
   exact⟨o',(hs.2 b (fg (dm (bP e) I.ok.above))).trans e1⟩
  ·by_cases hj:j=i
   ·subst hj
    rw[hi]at e1;cases e1
    rw[DR Od]at e2
    cases e2
    exact⟨u,r,.inl ⟨hk,by simp⟩⟩
   ·rw[sW (fE hj)]at e2
    obtain⟨u',r',q⟩:=hl j y v' e1 e2 e3
    refine⟨u',r',?_⟩
    rcases q with⟨k,e⟩ | ⟨k,c,e,z⟩
    ·refine .inl ⟨k,?_⟩
     have:y≠x:=λe=>hj (Oc hN e1 (e ▸ hi))
     simp[this,e]
    ·exact .inr ⟨k,c,e,z.sameBut hs (ow y c e)⟩
  ·obtain⟨w',z⟩:=I.cell y c e
   exact⟨w',z.sameBut hs (ow y c e)⟩
  ·obtain⟨e,n,ne,nf,d⟩:=I.pin p hp
   exact⟨(hs.2 p.1 ne).trans e,n,ne,nf,d⟩
 ·have w5:X.fn x=true:=by
   rcases hf with z | z
   ·exact z
   ·rw[z]at hk;cases hk
  obtain⟨c,hc⟩:=I.ok.has x (.inl hk)
  obtain⟨w',z⟩:=I.cell x c hc
  refine wpAny_storeName_cell I.ok.kind hk hc z (λh' w9 hs=>?_)
  obtain⟨oc,i7,XG⟩:=id z
  refine h { s with heap:=h' } ⟨I.ok,I.os,I.bare,⟨λb o e n hb hx=>?_,λb o e n hb hx=>?_,I.base.free,λb o e hx=>?_,I.base.jZ,I.base.jA,I.base.iG⟩,⟨m,hn.sameBut hs (fE (ow x c hc)),λj y v' e1 e2 e3=>?_⟩,λy c' e=>?_,I.free,I.jB,λp hp=>?_,tracked ⟨oc,i7,I.jB x c hc⟩ hs,by simpa using I.len⟩ ⟨c,hs,.inr hc⟩
  ·exact(hs.2 b (fg (dm (bP e) (I.ok.qh x c w5 hc)))).trans (I.base.keep b o e n hb hx)
  ·obtain⟨sl,e1⟩:=I.base.slot b o e n hb hx
   exact⟨sl,(hs.2 b (fg (dm (bP e) (I.ok.qh x c w5 hc)))).trans e1⟩
  ·obtain⟨o',e1⟩:=I.base.there b o e hx
   exact⟨o',(hs.2 b (fg (dm (bP e) (I.ok.qh x c w5 hc)))).trans e1⟩
  ·by_cases hj:j=i
   ·subst hj
    rw[hi]at e1;cases e1
    rw[DR Od]at e2
    cases e2
    exact⟨u,r,.inr ⟨.inl hk,c,hc,w9⟩⟩
   ·rw[sW (fE hj)]at e2
    obtain⟨u',r',q⟩:=hl j y v' e1 e2 e3
    refine⟨u',r',?_⟩
    rcases q with q | ⟨k,c',e,z'⟩
    ·exact .inl q
    ·refine .inr ⟨k,c',e,z'.sameBut hs ?_⟩
     rintro rfl
     exact hj (Oc hN e1 (I.ok.inj _ _ _ e hc ▸ hi))
  ·by_cases Of:c'=c
   ·subst Of;exact⟨_,w9⟩
   ·obtain⟨w2,z2⟩:=I.cell y c' e
    exact⟨w2,z2.sameBut hs Of⟩
  ·obtain⟨e,n,ne,nf,d⟩:=I.pin p hp
   refine⟨(hs.2 p.1 ?_).trans e,n,ne,nf,d⟩
   intro q
   rw[q,i7]at e
   have q':oc=p.2:=cS e
   exact d w' (by rw[<-q'];exact XG)
theorem Ep{M:Model}{A:Around}{E:Value->Shared->Prop}{i:Nat}{x:Str}{v:V}{u:Value}{Q:Unit->Shared->Prop}(I:Inv X pins σ H s)(hN:X.N.Nodup)(hi:X.N[i]?=some x)(hx:Loc X.env.scope x)(r:RelV v u)
  (h:∀s',Inv X pins (σ.set i (some v)) H s'->Q () s') (hf:X.fn x=true\/X.env.scope.names.lookup x=some .local:=by first | exact .inl rfl | exact .inr rfl | assumption):wpAny M A (storeName X.env x u) Q E s :=
 XC I hN hi hx r (λs' I' _=>h s' I') hf
theorem Inv.XH{s':Shared}{ch:List Addr}(I:Inv X pins σ H s)(ho:s'.os=s.os)(u:Un (eD X.stack) ch H H' s.heap s'.heap)(aK:cL X.prog X.w H' s'.heap)(hg:AllBare s'.gens)
  (lR:∀b∈ch,(b∈X.ex\/X.cM.heap.objs.size<=b)/\b≠X.env.locals/\(∀x c,X.env.cells.lookup x=some c->c≠b)/\∀p∈X.pn++pins,p.1≠b):Inv X pins σ H' s':=by
 obtain⟨h',g',d',t',o'⟩:=s'
 have e:o'=s.os:=ho
 subst e
 exact I.call (g':=g') (t':=t') (d':=d') u aK hg lR
end
abbrev XK:=Value->Option Addr->Hp->Prop
abbrev St:=List (Option V)
abbrev VK:=V->Hp->Prop
abbrev TE:=St->Hp->VK->Prop
abbrev TT:=St->Hp->(Bool->Hp->Prop)->Prop
abbrev TA:=St->Hp->(List V->Hp->Prop)->Prop
structure Ends where
 nx:St->Hp->Prop
 rt:VK
 bk:St->Hp->Prop:=λ_ _=>False
 ct:St->Hp->Prop:=λ_ _=>False
abbrev TS:=Ends->St->Hp->Prop
def EP(X:Cx)(pins:List (Addr × Obj))(σ:St)(Q:VK)(u:Value)(s':Shared):Prop:=∃v H',Inv X pins σ H' s'/\RelV v u/\Q v H'
def TP(X:Cx)(pins:List (Addr × Obj))(σ:St)(Q:Bool->Hp->Prop)(b:Bool)(s':Shared):Prop:=∃H',Inv X pins σ H' s'/\Q b H'
def AP(X:Cx)(pins:List (Addr × Obj))(σ:St)(Q:List V->Hp->Prop)(us:List Value)(s':Shared):Prop:=∃vs H',Inv X pins σ H' s'/\Vals vs us/\Q vs H'
def SP(X:Cx)(pins:List (Addr × Obj))(D:Ends)(f:Flow)(s':Shared):Prop :=
 match f with
 | .next=>∃aI H',Inv X pins aI H' s'/\D.nx aI H'
 | .brk=>∃aI H',Inv X pins aI H' s'/\D.bk aI H'
 | .cont=>∃aI H',Inv X pins aI H' s'/\D.ct aI H'
 | .ret u=>∃v aI H',Inv X pins aI H' s'/\RelV v u/\D.rt v H'
def PE(X:Cx)(e:Expr)(t:TE):Prop :=
 ∀(pins:List (Addr × Obj)) (s:Shared) (σ:St) (H:Hp) (Q:VK),Inv X pins σ H s->t σ H Q->wpAny (model X.prog X.w) X.A (eval e X.env) (EP X pins σ Q) X.xe s
def PT(X:Cx)(e:Expr)(t:TT):Prop :=
 ∀(pins:List (Addr × Obj)) (s:Shared) (σ:St) (H:Hp) (Q:Bool->Hp->Prop),Inv X pins σ H s->t σ H Q->wpAny (model X.prog X.w) X.A (isTrue e X.env (eval e X.env)) (TP X pins σ Q) X.xe s
def PW(X:Cx)(e:Expr)(t:TT):Prop :=
 ∀(whole:Sem Value) (pins:List (Addr × Obj)) (s:Shared) (σ:St) (H:Hp) (Q:Bool->Hp->Prop),Inv X pins σ H s->t σ H Q->wpAny (model X.prog X.w) X.A (isTrue e X.env whole) (TP X pins σ Q) X.xe s
theorem PW.pt{X:Cx}{e:Expr}{t:TT}(h:PW X e t):PT X e t:=h _
def PA(X:Cx)(es:List Expr)(t:TA):Prop :=
 ∀(pos:Pos) (pins:List (Addr × Obj)) (s:Shared) (σ:St) (H:Hp) (Q:List V->Hp->Prop),Inv X pins σ H s->t σ H Q->wpAny (model X.prog X.w) X.A (spliced (backTo pos (starEach es X.env))) (AP X pins σ Q) X.xe s
def PS(X:Cx)(st:Stmt)(t:TS):Prop :=
 ∀(pins:List (Addr × Obj)) (s:Shared) (σ:St) (H:Hp) (D:Ends),Inv X pins σ H s->t D σ H->wpAny (model X.prog X.w) X.A (exec st X.env) (SP X pins D) X.xe s
def PSs(X:Cx)(st:List Stmt)(t:TS):Prop :=
 ∀(pins:List (Addr × Obj)) (s:Shared) (σ:St) (H:Hp) (D:Ends),Inv X pins σ H s->t D σ H->wpAny (model X.prog X.w) X.A (execs st X.env) (SP X pins D) X.xe s
theorem aR{α:Type}{t:Sem α}{Q Q':α->Shared->Prop}{M:Model}{A:Around}{E:Value->Shared->Prop}{s:Shared}(h:wpAny M A t Q E s)(hQ:∀a s,Q a s->Q' a s):wpAny M A t Q' E s:=wpAny_mono h hQ λ_ _ x=>x
end L2
namespace L2
open PySem PySem.Spec PyProof.Rows
section
variable{X:Cx}
def Og(i:Nat):TE:=λσ H Q=>∃v,σ[i]?=some (some v)/\Q v H
def tC(v:V):TE:=λ_ H Q=>Q v H
theorem qi{i:Nat}{x:Str}{pos:Pos}(hN:X.N[i]?=some x)(hv:lQ X.env.scope x)(hd:(x==("__debug__":Str))=false:=by decide)(cF:(x==("__classdict__":Str))=false:=by decide):PE X (.Name x pos) (Og i):=by
 intro pins s σ H Q I h
 obtain⟨v,e,h⟩:=h
 obtain⟨m,hn,hl⟩:=I.loc
 obtain⟨u,r,l⟩:=hl i x v hN e hv
 have fin:EP X pins σ Q u s:=⟨v,H,I,r,h⟩
 rcases l with⟨hk,hm⟩ | ⟨hk,c,hc,AI⟩
 ·exact wpAny_Name (wpAny_loadName_local I.ok.kind hk hn hm fin) hd
 ·rcases hk with hk | hk
  ·exact wpAny_Name (wpAny_loadName_cell I.ok.kind hk hc AI fin) hd
  ·exact wpAny_Name (wpAny_loadName_free I.ok.kind hk hc AI fin cF) hd
theorem oA{i j pos}:PE X (.Constant (.int i) j pos) (tC (.int i)):=λ_ _ _ H _ I h=>wpAny_Constant_int ⟨.int i,H,I.tok _,⟨_,rfl⟩,h⟩
theorem XI{b j pos}:PE X (.Constant (.bool b) j pos) (tC (.bl b)):=λ_ _ _ H _ I h=>Constant_bool ⟨.bl b,H,I,rfl,h⟩
theorem XJ{j pos}:PE X (.Constant .none j pos) (tC .av):=λ_ _ _ H _ I h=>Constant_none ⟨.av,H,I,rfl,h⟩
theorem XM{x j pos}:PE X (.Constant (.str x) j pos) (tC (.str x)):=λ_ _ _ H _ I h=>Calls.Constant_str ⟨.str x,H,I.tok _,⟨_,rfl⟩,h⟩
def Gl(X:Cx)(x:Str):Prop:=X.env.kindOf x=some .globalImplicit
theorem xb{E:Value->Shared->Prop}{pins:List (Addr × Obj)}{s:Shared}{σ:St}{H:Hp}{x:Str}{u:Value}{pos:Pos}{Q:Value->Shared->Prop}(I:Inv X pins σ H s)(hg:Gl X x)(hm:X.mg x=some u)(h:Q u s)
  (hd:(x==("__debug__":Str))=false:=by decide):wpAny (model X.prog X.w) X.A (eval (.Name x pos) X.env) Q E s :=
 WX I.ok.kind hg (Calls.loadGlobal_global (by rw[I.ok.glob];exact I.mod.glob.keeps I.bk) hm h) hd
theorem qj{E:Value->Shared->Prop}{pins:List (Addr × Obj)}{s:Shared}{σ:St}{H:Hp}{x:Str}{u:Value}{pos:Pos}{Q:Value->Shared->Prop}(I:Inv X pins σ H s)(hg:Gl X x)(hm:X.mg x=none)(hv:bootBuiltins x=some u)(h:Q u s)
  (hn:x≠"__name__":=by decide) (hd:(x==("__debug__":Str))=false:=by decide):wpAny (model X.prog X.w) X.A (eval (.Name x pos) X.env) Q E s:=by
 obtain⟨mb,h1,h2⟩:=I.mod.blt
 exact WX I.ok.kind hg (Calls.loadGlobal_builtin (by rw[I.ok.glob];exact I.mod.glob.keeps I.bk) hm (by rw[I.ok.blt];exact h1.keeps I.bk) ((h2 x hn).trans hv) h) hd
theorem XN{x:Str}{v:V}{u:Value}{pos:Pos}(hg:Gl X x)(hm:X.mg x=some u)(r:RelV v u)(hd:(x==("__debug__":Str))=false:=by decide):PE X (.Name x pos) (tC v) :=
 λ_ _ _ H _ I h=>xb I hg hm ⟨v,H,I,r,h⟩ hd
theorem XO{x:Str}{v:V}{u:Value}{pos:Pos}(hg:Gl X x)(hm:X.mg x=none)(hv:bootBuiltins x=some u)(r:RelV v u)(hn:x≠"__name__":=by decide)(hd:(x==("__debug__":Str))=false:=by decide):PE X (.Name x pos) (tC v) :=
 λ_ _ _ H _ I h=>qj I hg hm hv ⟨v,H,I,r,h⟩ hn hd
variable{a b:Expr}{ta tb:TE}{pos:Pos}
def tB(t:TE):TT:=λσ H Q=>t σ H λx H1=>∃c,x=.bl c/\Q c H1
theorem AJ{e:Expr}{t:TE}(h:PE X e t)(he:∀whole,isTrue e X.env whole=(do let v<-whole;standAt e.pos;holding [v] (truthy v)):=by intro _;rfl):PT X e (tB t):=by
 intro pins s σ H Q I hw
 refine isTrue_plain (aR (h pins s σ H _ I hw) λv s1 ⟨x,H1,I1,r1,q1⟩=>?_) (he _)
 obtain⟨d,rfl,q⟩:=q1
 cases r1
 exact wpAny_truthy_bool ⟨H1,I1,q⟩
variable{tA Oh:TT}{rest:List Expr}
def XQ(t u:TT):TT:=λσ H Q=>t σ H λc H1=>if c=true then Q true H1 else u σ H1 Q
def XR(t:TT):TT:=λσ H Q=>t σ H λc H1=>Q (!c) H1
theorem lU(ha:PT X a tA):PW X (.BoolOp .Or [a] pos) tA:=by
 intro wh pins s σ H Q I h
 refine isTrue_or (aR (ha pins s σ H Q I h) λc s1 e=>?_)
 cases c with
 | false=>exact isTrue_or_nil e
 | true=>exact e
theorem Oi(ha:PT X a tA)(hb:PW X (.BoolOp .Or (b::rest) pos) Oh):PW X (.BoolOp .Or (a::b::rest) pos) (XQ tA Oh):=by
 intro wh pins s σ H Q I h
 refine isTrue_or (aR (ha pins s σ H _ I h) λc s1 ⟨H1,I1,q1⟩=>?_)
 cases c with
 | true=>exact⟨H1,I1,q1⟩
 | false=>exact hb wh pins s1 σ H1 Q I1 q1
theorem AK(ha:PT X a tA):PT X (.UnaryOp .Not a pos) (XR tA):=by
 intro pins s σ H Q I h
 exact isTrue_not (ha pins s σ H (λc H1=>Q (!c) H1) I h)
def XS(ta tb:TE):TE:=λσ H Q=>ta σ H λx H1=>∃c,x=.bl c/\if c=true then tb σ H1 Q else Q (.bl false) H1
def XT(ta:TE):TE:=λσ H Q=>ta σ H λx H1=>∃c,x=.bl c/\Q (.bl (!c)) H1
theorem tS{op}{t:TE}(h:PE X a t):PE X (.BoolOp op [a] pos) t:=λpins s σ H Q I hw=>BoolOp_one (h pins s σ H Q I hw)
theorem XU(ha:PE X a ta)(hb:PE X (.BoolOp .And (b::rest) pos) tb):PE X (.BoolOp .And (a::b::rest) pos) (XS ta tb):=by
 intro pins s σ H Q I h
 refine BoolOp_and (aR (ha pins s σ H _ I h) λv s1 ⟨x,H1,I1,r1,q1⟩=>?_)
 obtain⟨c,rfl,q1⟩:=q1
 cases r1
 refine wpAny_truthy_bool ?_
 cases c with
 | true=>exact hb pins s1 σ H1 Q I1 q1
 | false=>exact⟨.bl false,H1,I1,rfl,q1⟩
theorem XW(ha:PE X a ta):PE X (.UnaryOp .Not a pos) (XT ta):=by
 intro pins s σ H Q I h
 refine UnaryOp_ (aR (ha pins s σ H _ I h) λv s1 ⟨x,H1,I1,r1,q1⟩=>?_)
 obtain⟨c,rfl,q1⟩:=q1
 cases r1
 exact not_of (wpAny_truthy_bool ⟨.bl (!c),H1,I1,rfl,q1⟩)
def XX(t:TT)(ta tb:TE):TE:=λσ H Q=>t σ H λc H1=>if c=true then ta σ H1 Q else tb σ H1 Q
theorem XY{c:Expr}(hc:PT X c tA)(ha:PE X a ta)(hb:PE X b tb):PE X (.IfExp c a b pos) (XX tA ta tb):=by
 intro pins s σ H Q I h
 refine wpAny_IfExp (aR (hc pins s σ H _ I h) λd s1 ⟨H1,I1,q1⟩=>?_)
 cases d with
 | true=>exact ha pins s1 σ H1 Q I1 q1
 | false=>exact hb pins s1 σ H1 Q I1 q1
end
end L2
namespace L2
open PySem PySem.Spec PyProof.Rows
def bK(K:PySem.W.Frag)(H:Hp)(a:Addr)(xs:List V):Prop :=
 Rd H a (.lst xs) \/
  ∃(o:Obj) (its:Array Value) (n:Nat),K.lookup a=some o/\o.cls=.type "list"/\o.dict=none/\o.data=.seq its n/\its.size<=sizeLine/\Vals xs its.toList
def hW(K:PySem.W.Frag)(H:Hp)(a:Addr)(xs:List V):Prop :=
 Rd H a (.tup xs) \/
  ∃(o:Obj) (its:Array Value) (n:Nat),K.lookup a=some o/\o.cls=.type "tuple"/\o.data=.seq its n/\its.size<=sizeLine/\Vals xs its.toList
def XZ:Value->Option V
 | .none=>some .av
 | .bool b=>some (.bl b)
 | .int i _=>some (.int i)
 | .str x _=>some (.str x)
 | .bytes b _=>some (.AD b)
 | .float b _=>some (.qf b)
 | .ref a=>some (.ref a)
 | .type n=>some (.ty n)
 | _=>none
theorem RelV.abs{x:V}{u:Value}(r:RelV x u):XZ u=some x:=by
 cases x with
 | av=>cases r;rfl
 | bl _=>cases r;rfl
 | int _=>obtain⟨t,rfl⟩:=r;rfl
 | str _=>obtain⟨t,rfl⟩:=r;rfl
 | AD _=>obtain⟨t,rfl⟩:=r;rfl
 | qf _=>obtain⟨t,rfl⟩:=r;rfl
 | ref _=>cases r;rfl
 | ty _=>cases r;rfl
theorem RelV.inj{x y:V}{u:Value}(r:RelV x u)(q:RelV y u):x=y:=cS (r.abs.symm.trans q.abs)
theorem Vals.inj:∀{xs ys:List V} {us:List Value},Vals xs us->Vals ys us->xs=ys
 | _,_,_,.nil,.nil=>rfl
 | _,_,_,.cons r t,.cons r' t'=>by rw[r.inj r',Vals.inj t t']
section
variable{X:Cx}{pins:List (Addr × Obj)}{σ:St}{H:Hp}{s:Shared}{a:Addr}{xs ys:List V}
theorem bK.of{K:PySem.W.Frag}(h:H a=some (.lst xs)):bK K H a xs:=.inl (.inl h)
theorem hW.of{K:PySem.W.Frag}(h:H a=some (.tup xs)):hW K H a xs:=.inl (.inl h)
theorem Inv.list(I:Inv X pins σ H s)(h:bK X.K H a xs):∃its:List Value,Vals xs its/\PlainL s.heap a its.toArray/\xs.length<=sizeLine:=by
 rcases h with h | ⟨o,its,n,hk,hc,hd,hs,hz,r⟩
 ·obtain⟨z,its,n,r,e⟩:=h.ok I.aK
  exact⟨its,r,⟨_,n,e,rfl,rfl,rfl⟩,z⟩
 ·refine⟨its.toList,r,⟨o,n,I.da a o hk,hc,hd,by simpa using hs⟩,?_⟩
  have e:=r.length
  simp only[wA]at e
  omega
theorem Inv.tuple(I:Inv X pins σ H s)(h:hW X.K H a xs):∃its:List Value,Vals xs its/\IsTup s.heap a its.toArray/\xs.length<=sizeLine:=by
 rcases h with h | ⟨o,its,n,hk,hc,hs,hz,r⟩
 ·obtain⟨z,its,r,p⟩:=h.ok I.aK
  exact⟨its,r,p,z⟩
 ·refine⟨its.toList,r,⟨o,I.da a o hk,hc,n,by simpa using hs⟩,?_⟩
  have e:=r.length
  simp only[wA]at e
  omega
theorem Inv.AL(I:Inv X pins σ H s)(h:bK X.K H a xs)(h':bK X.K H a ys):xs=ys:=by
 obtain⟨its,r,⟨o,n,e,_,_,d⟩,_⟩:=I.list h
 obtain⟨its',r',⟨o',n',e',_,_,d'⟩,_⟩:=I.list h'
 rw[e]at e';cases e'
 rw[d]at d'
 injection d' with d1 _
 have:its=its':=by simpa using congrArg Array.toList d1
 subst this
 exact r.inj r'
end
abbrev Cx.j6(X:Cx)(E:Value->Shared->Prop):Cx:={ X with xe:=E }
abbrev Cx.gn(X:Cx):Cx:=X.j6 λ_ _=>False
theorem Cx.Ok.j6{X:Cx}(ok:X.Ok)(E:Value->Shared->Prop):(X.j6 E).Ok :=
 ⟨ok.mod,ok.kind,ok.glob,ok.blt,ok.above,ok.inj,ok.has,ok.qh,ok.hd,ok.frames,ok.wX,ok.wY,ok.bs,ok.j4,ok.tP,ok.tQ,ok.gS,ok.j5⟩
theorem Cx.Ok.lV{X:Cx}{E:Value->Shared->Prop}(ok:(X.j6 E).Ok):X.Ok :=
 ⟨ok.mod,ok.kind,ok.glob,ok.blt,ok.above,ok.inj,ok.has,ok.qh,ok.hd,ok.frames,ok.wX,ok.wY,ok.bs,ok.j4,ok.tP,ok.tQ,ok.gS,ok.j5⟩
section
variable{X:Cx}{pins:List (Addr × Obj)}{σ:St}{H:Hp}{s:Shared}{E:Value->Shared->Prop}
theorem Inv.j6(I:Inv X pins σ H s)(E:Value->Shared->Prop):Inv (X.j6 E) pins σ H s:=⟨I.ok.j6 E,I.os,I.bare,I.base,I.loc,I.cell,I.free,I.jB,I.pin,I.aK,I.len⟩
theorem Inv.lV(I:Inv (X.j6 E) pins σ H s):Inv X pins σ H s:=⟨I.ok.lV,I.os,I.bare,I.base,I.loc,I.cell,I.free,I.jB,I.pin,I.aK,I.len⟩
theorem SP.lV{D:Ends}{f:Flow}{s':Shared}(h:SP (X.j6 E) pins D f s'):SP X pins D f s':=by
 cases f with
 | next=>obtain⟨aI,H',I,q⟩:=h;exact⟨aI,H',I.lV,q⟩
 | brk=>obtain⟨aI,H',I,q⟩:=h;exact⟨aI,H',I.lV,q⟩
 | cont=>obtain⟨aI,H',I,q⟩:=h;exact⟨aI,H',I.lV,q⟩
 | ret u=>obtain⟨v,aI,H',I,r,q⟩:=h;exact⟨v,aI,H',I.lV,r,q⟩
theorem PE.gn{e:Expr}{t:TE}(h:PE X.gn e t):PE X e t:=λpins s σ H Q I hw =>
 wpAny_mono (h pins s σ H Q (I.j6 _) hw) (λ_ _ ⟨v,H',I',r,q⟩=>⟨v,H',I'.lV,r,q⟩) λ_ _ z=>fQ z
theorem PSs.gn{st:List Stmt}{t:TS}(h:PSs X.gn st t):PSs X st t:=λpins s σ H D I hw =>
 wpAny_mono (h pins s σ H D (I.j6 _) hw) (λ_ _ q=>q.lV) λ_ _ z=>fQ z
end
section
variable{X:Cx}{st:Stmt}{rest:List Stmt}{t u:TS}{e:Expr}{te:TE}{pos:Pos}
def X0:TS:=λD σ H=>D.nx σ H
def X5(t u:TS):TS:=λD σ H=>t { D with nx:=u D } σ H
theorem qk:PSs X [] X0:=λ_ _ σ H _ I h=>wpAny_execs_nil ⟨σ,H,I,h⟩
theorem eP(h1:PS X st t)(h2:PSs X rest u):PSs X (st::rest) (X5 t u):=by
 intro pins s σ H D I h
 refine wpAny_execs_cons (aR (h1 pins s σ H { D with nx:=u D } I h) λf s1 q=>?_)
 cases f with
 | next =>
  obtain⟨aI,H',I',q⟩:=q
  exact h2 pins s1 aI H' D I' q
 | ret v=>exact q
 | brk=>exact q
 | cont=>exact q
theorem i8(h1:PS X st t):PSs X [st] t:=by
 intro pins s σ H D I h
 refine wpAny_execs_cons (aR (h1 pins s σ H D I h) λf s1 q=>?_)
 cases f with
 | next=>exact wpAny_execs_nil q
 | ret v=>exact q
 | brk=>exact q
 | cont=>exact q
theorem Inv.quiet{pins:List (Addr × Obj)}{σ:St}{H:Hp}{s:Shared}(I:Inv X pins σ H s):interactive X.env=false:=by simp[interactive,I.ok.kind]
def X6(te:TE):TS:=λD σ H=>te σ H λ_ H1=>D.nx σ H1
theorem ql(he:PE X e te)(hs:swapsWith e none pos.line X.env=pure false:=by rfl):PS X (.Expr e pos) (X6 te):=by
 intro pins s σ H D I h
 exact wpAny_Expr_any (aR (he pins s σ H _ I h) λv s1 ⟨x,H1,I1,r1,q1⟩=>⟨σ,H1,I1,q1⟩) I.quiet hs
def X7(te:TE):TS:=λD σ H=>te σ H D.rt
theorem X8(he:PE X e te):PS X (.Return (some e) pos) (X7 te):=by
 intro pins s σ H D I h
 exact wpAny_Return_some (aR (he pins s σ H _ I h) λv s1 ⟨x,H1,I1,r1,q1⟩=>⟨x,σ,H1,I1,r1,q1⟩)
def X9(c:TT)(t u:TS):TS:=λD σ H=>c σ H λb H1=>if b=true then t D σ H1 else u D σ H1
theorem qm{c:Expr}{a b:List Stmt}{tc:TT}(hc:PT X c tc)(ha:PSs X a t)(hb:PSs X b u):PS X (.If c a b pos) (X9 tc t u):=by
 intro pins s σ H D I h
 refine wpAny_If (aR (hc pins s σ H _ I h) λd s1 ⟨H1,I1,q1⟩=>?_)
 cases d with
 | true=>exact ha pins s1 σ H1 D I1 q1
 | false=>exact hb pins s1 σ H1 D I1 q1
def Ya:TS:=λ_ _ _=>False
theorem qo:PS X st Ya:=λ_ _ _ _ _ _ h=>h.elim
end
abbrev TG:=V->St->Hp->(St->Hp->Prop)->Prop
abbrev qp:=List V->St->Hp->(St->Hp->Prop)->Prop
def PG(X:Cx)(target:Expr)(t:TG):Prop :=
 ∀(pins:List (Addr × Obj)) (s:Shared) (σ:St) (H:Hp) (v:V) (u:Value) (Q:St->Hp->Prop),Inv X pins σ H s->RelV v u->t v σ H Q ->
  wpAny (model X.prog X.w) X.A (assign target X.env u) (λ_ s'=>∃aI H',Inv X pins aI H' s'/\Q aI H') X.xe s
def AM(X:Cx)(ts:List Expr)(t:qp):Prop :=
 ∀(pins:List (Addr × Obj)) (s:Shared) (σ:St) (H:Hp) (vs:List V) (us:List Value) (Q:St->Hp->Prop),Inv X pins σ H s->Vals vs us->t vs σ H Q ->
  wpAny (model X.prog X.w) X.A (assignInOrder ((assignEach ts X.env).map (·.2)) us) (λ_ s'=>∃aI H',Inv X pins aI H' s'/\Q aI H') X.xe s
abbrev Er:=V->V->V->Hp->(Hp->Prop)->Prop
def Oj(X:Cx)(t:Er):Prop :=
 ∀(pins:List (Addr × Obj)) (s:Shared) (σ:St) (H:Hp) (o i v:V) (ov iv u:Value) (Q:Hp->Prop),Inv X pins σ H s->RelV o ov->RelV i iv->RelV v u->t o i v H Q ->
  wpAny (model X.prog X.w) X.A (setItem ov iv u) (λ_ s'=>∃H',Inv X pins σ H' s'/\Q H') X.xe s
abbrev Es:=V->V->Hp->VK->Prop
def Yb(X:Cx)(op:Operator)(t:Es):Prop :=
 ∀(pins:List (Addr × Obj)) (s:Shared) (σ:St) (H:Hp) (x y:V) (v u:Value) (Q:VK),Inv X pins σ H s->RelV x v->RelV y u->t x y H Q ->
  wpAny (model X.prog X.w) X.A (inplaceOp op v u) (EP X pins σ Q) X.xe s
section
variable{X:Cx}{pos:Pos}
def AN(i:Nat):TG:=λv σ H Q=>Q (σ.set i (some v)) H
theorem AO{i:Nat}{x:Str}(hN:X.N.Nodup)(hi:X.N[i]?=some x)(hx:Loc X.env.scope x)(hf:X.fn x=true\/X.env.scope.names.lookup x=some .local:=by first | exact .inl rfl | exact .inr rfl | assumption):PG X (.Name x pos) (AN i):=by
 intro pins s σ H v u Q I r h
 exact wpAny_assign_Name (Ep I hN hi hx r (λs' I'=>⟨_,H,I',h⟩) hf)
def Yc:qp:=λvs σ H Q=>vs=[]/\Q σ H
def Yd(t:TG)(u:qp):qp:=λvs σ H Q=>∃v r,vs=v::r/\t v σ H λaI H'=>u r aI H' Q
theorem Ye:AM X [] Yc:=by
 intro pins s σ H vs us Q I r h
 obtain⟨e,h⟩:=h
 subst e
 cases r
 exact assignInOrder_nil ⟨σ,H,I,h⟩
theorem Ol{e:Expr}{es:List Expr}{t:TG}{u:qp}(h1:PG X e t)(h2:AM X es u)
  (hs:(assignEach (e::es) X.env).map (·.2)=assign e X.env::(assignEach es X.env).map (·.2):=by rfl):AM X (e::es) (Yd t u):=by
 intro pins s σ H vs us Q I r h
 obtain⟨v,vr,e1,h⟩:=h
 subst e1
 cases r with
 | cons r rr =>
  rw[hs]
  refine assignInOrder_cons (aR (h1 pins s σ H _ _ _ I r h) λ_ s1 ⟨gU,H1,I1,q1⟩=>?_)
  exact h2 pins s1 gU H1 _ _ Q I1 rr q1
def Yf(K:PySem.W.Frag)(n:Nat)(t:qp):TG:=λv σ H Q=>∃a xs,v=.ref a/\hW K H a xs/\xs.length=n/\t xs σ H Q
theorem Yg{es:List Expr}{k:Nat}{t:qp}{n:Nat}(hc:X.calm=true)(h:AM X es t)
  (hn:(assignEach es X.env).length=n:=by rfl) (de:(assignEach es X.env).findIdx? (·.1)=none:=by rfl):PG X (.Tuple es k pos) (Yf X.K n t):=by
 intro pins s σ H v u Q I r hw
 obtain⟨a,xs,e1,hq,hl,hw⟩:=hw
 subst e1
 cases r
 obtain⟨its,rv,ht,hz⟩:=I.tuple hq
 refine assign_Tuple_tuple (I.ok.hd hc) ht (by simp[hn,<- hl,rv.length]) de λh' hx=>?_
 have I1:Inv X pins σ H { s with heap:=h' }:=I.kept (t':=s.toks) λb o e=>hx b o (fg (bP e)) e
 exact h pins _ σ H xs _ Q I1 (by simpa using rv) hw
def Yh(to ti:TE)(t:Er):TG:=λv σ H Q=>to σ H λo H1=>ti σ H1 λi H2=>t o i v H2 λH3=>Q σ H3
theorem Om{o i:Expr}{to ti:TE}{t:Er}(ho:PE X o to)(hi:PE X i ti)(hs:Oj X t)
  (ha:∀v,assign (.Subscript o i pos) X.env v=(do
   let ov<-holding [v] (eval o X.env)
   let iv<-holding [v,ov] (eval i X.env)
   standAt pos
   holding [v,ov,iv] (setItem ov iv v)
   release [v,ov,iv] []):=by intro _;rfl):PG X (.Subscript o i pos) (Yh to ti t):=by
 intro pins s σ H v u Q I r h
 rw[ha]
 refine wpAny_bind (wpAny_holding (aR (ho pins s σ H _ I h) λov s1 ⟨x,H1,I1,r1,q1⟩=>?_))
 refine wpAny_bind (wpAny_holding (aR (hi pins s1 σ H1 _ I1 q1) λiv s2 ⟨y,H2,I2,r2,q2⟩=>?_))
 refine wpAny_bind (wpAny_standAt (wpAny_bind (wpAny_holding (aR (hs pins s2 σ H2 x y v ov iv u _ I2 r1 r2 r q2) λ_ s3 ⟨H3,I3,q3⟩=>?_))))
 exact wpAny_release ⟨σ,H3,I3,q3⟩
def Et(te:TE)(g:TG):TS:=λD σ H=>te σ H λx H1=>g x σ H1 D.nx
theorem Oo{tg e:Expr}{te:TE}{g:TG}(he:PE X e te)(hg:PG X tg g)(hs:swapsWithSole [tg] e pos.line X.env=pure false:=by rfl)(hw:swappedStores [tg] e X.env=pure none:=by rfl)
  (h1:(assignEach [tg] X.env).map (·.2)=[assign tg X.env]:=by rfl):PS X (.Assign [tg] e pos) (Et te g):=by
 intro pins s σ H D I h
 refine wpAny_Assign_stores (aR (he pins s σ H _ I h) λv s1 ⟨x,H1,I1,r1,q1⟩=>?_) hs hw
 rw[h1]
 exact aR (hg pins s1 σ H1 x v _ I1 r1 q1) λ_ s2 q=>q
theorem Eu{i:Nat}{x:Str}{e:Expr}{te:TE}{pos':Pos}(hN:X.N.Nodup)(hi:X.N[i]?=some x)(hx:Loc X.env.scope x)(he:PE X e te)(hs:swapsWith e (some (.Name x pos')) pos.line X.env=pure false:=by rfl)(hf:X.fn x=true\/X.env.scope.names.lookup x=some .local:=by first | exact .inl rfl | exact .inr rfl | assumption) :
  PS X (.Assign [.Name x pos'] e pos) (Et te (AN i)):=by
 intro pins s σ H D I h
 refine wpAny_Assign_Name (aR (he pins s σ H _ I h) λv s1 ⟨y,H1,I1,r1,q1⟩=>?_) hs
 exact Ep I1 hN hi hx r1 (λs2 I2=>⟨_,H1,I2,q1⟩) hf
def Yi(i:Nat)(te:TE)(ti:Es):TS:=λD σ H=>∃x,σ[i]?=some (some x)/\te σ H λy H1=>ti x y H1 λz H2=>D.nx (σ.set i (some z)) H2
theorem Yj{i:Nat}{x:Str}{e:Expr}{te:TE}{op:Operator}{ti:Es}{pos':Pos}(hN:X.N.Nodup)(hi:X.N[i]?=some x)(hx:Loc X.env.scope x)(he:PE X e te)(ho:Yb X op ti)(hf:X.fn x=true\/X.env.scope.names.lookup x=some .local:=by first | exact .inl rfl | exact .inr rfl | assumption) :
  PS X (.AugAssign (.Name x pos') op e pos) (Yi i te ti):=by
 intro pins s σ H D I h
 obtain⟨v,e1,h⟩:=h
 obtain⟨m,hn,hl⟩:=I.loc
 have Yk:lQ X.env.scope x:=by rcases hx with k | k;exact .inl k;exact .inr (.inl k)
 obtain⟨u,r,l⟩:=hl i x v hi e1 Yk
 refine wpAny_AugAssign_Name ?_
 have go:wpAny (model X.prog X.w) X.A (eval e X.env) (λw kE=>wpAny (model X.prog X.w) X.A (inplaceOp op u w) (λr Yl=>wpAny (model X.prog X.w) X.A (storeName X.env x r) (λ_=>SP X pins D .next) X.xe Yl) X.xe kE) X.xe s:=by
  refine aR (he pins s σ H _ I h) λw s1 ⟨y,H1,I1,r1,q1⟩=>?_
  refine aR (ho pins s1 σ H1 v y u w _ I1 r r1 q1) λz s2 ⟨zv,H2,I2,r2,q2⟩=>?_
  exact Ep I2 hN hi hx r2 (λs3 I3=>⟨_,H2,I3,q2⟩) hf
 rcases l with⟨hk,hm⟩ | ⟨hk,c,hc,AI⟩
 ·exact wpAny_loadName_local I.ok.kind hk hn hm go
 ·rcases hk with hk | hk
  ·exact wpAny_loadName_cell I.ok.kind hk hc AI go
  ·rcases hx with k | k
   ·have:X.env.scope.names.lookup x=some .free:=hk
    rw[k]at this;cases this
   ·have:X.env.scope.names.lookup x=some .free:=hk
    rw[k]at this;cases this
end
section
variable{X:Cx}{pos:Pos}
def Ym(c:TT)(tb:TS):TS:=λD σ H=>∃W:Nat->St->Hp->Prop,(∃m,W m σ H)/\∀m σ H,W m σ H ->
 c σ H λb H1=>if b=true then ∃N:St->Hp->Prop,(∀aI H',N aI H'->∃m',m'<m/\W m' aI H')/\tb { D with nx:=N,ct:=N,bk:=D.nx } σ H1 else D.nx σ H1
theorem Yn{c:Expr}{body:List Stmt}{tc:TT}{tb:TS}(hp:PassesOwn (model X.prog X.w) X.A X.env X.xe)(hc:PT X c tc)(hb:PSs X body tb):PS X (.While c body [] pos) (Ym tc tb):=by
 intro pins s σ H D I h
 obtain⟨W,⟨m0,w0⟩,turn⟩:=h
 refine wpAny_While (codeAny_whileLoop (λn s'=>∃aI H',Inv X pins aI H' s'/\W n aI H') ?_ m0 ⟨σ,H,I,w0⟩)
 rintro n s1 ⟨gU,H1,I1,w1⟩
 refine wpAny_passesOwn hp (aR (hc pins s1 gU H1 _ I1 (turn n gU H1 w1)) λb s2 ⟨H2,I2,q2⟩=>?_)
 cases b with
 | true =>
  obtain⟨N,hN,q2⟩:=q2
  rw[if_pos rfl]
  refine wpAny_passesOwn hp (aR (hb pins s2 gU H2 _ I2 q2) λf s3 q3=>?_)
  cases f with
  | next =>
   obtain⟨kF,H3,I3,n3⟩:=q3
   obtain⟨m',hm,w3⟩:=hN kF H3 n3
   exact⟨m',hm,kF,H3,I3,w3⟩
  | cont =>
   obtain⟨kF,H3,I3,n3⟩:=q3
   obtain⟨m',hm,w3⟩:=hN kF H3 n3
   exact⟨m',hm,kF,H3,I3,w3⟩
  | brk=>exact q3
  | ret v=>exact q3
 | false =>
  rw[if_neg iY]
  exact wpAny_execs_nil ⟨gU,H2,I2,q2⟩
end
structure It where
 go:Nat->Hp->Prop
 j7:Nat->Hp->V->Hp->Prop
 stop:Nat->Hp->Prop
def i9(X:Cx)(pins:List (Addr × Obj))(H:Hp)(b:Addr):Prop :=
 H b=none/\b≠X.env.locals/\b ∉ X.fs/\(b∈X.ex\/X.cM.heap.objs.size<=b)/\(∀x c,X.env.cells.lookup x=some c->c≠b)/\∀p∈X.pn++pins,p.1≠b
theorem Inv.AQ{X:Cx}{pins:List (Addr × Obj)}{σ:St}{H H':Hp}{s:Shared}{b:Addr}(I:Inv X pins σ H s)(hb:s.heap.objs.size<=b)(hn:H' b=none):i9 X pins H' b:=by
 refine⟨hn,Ny (dm I.lt hb),I.Oa hb,.inr (fk I.sz hb),λx c e z=>?_,λp hp z=>?_⟩
 ·obtain⟨v,q⟩:=I.cell x c e
  exact absurd (dm q.lt (by rw[z];exact hb)) (gF _)
 ·exact absurd (dm (bP (I.pin p hp).1) (by rw[z];exact hb)) (gF _)
structure Turn(P:Program)(w:World)(K:PySem.W.Frag)(tg:Expr)(J:It)(fp:List Addr)(it:Addr)(tn:Nat->Heap->Prop):Prop where
 mem:it∈fp
 obj:∀i h,tn i h->∀b∈fp,∃o,h.get? b=some o/\∀v,o.data≠.cell v
 keep:∀i h h',tn i h->(∀b∈fp,∀o,h.get? b=some o->h'.get? b=some o)->tn i h'
 item:∀(X:Cx),X.prog=P->X.w=w->X.K=K->X.calm=true->∀(i:Nat) (pins:List (Addr × Obj)) (s:Shared) (σ:St) (H:Hp) (E:Value->Shared->Prop),Inv X pins σ H s->(∀b∈fp,i9 X pins H b)->tn i s.heap->J.go i H ->
  wpAny (model P w) X.A (pyNext (.ref it)) (λr s1=>∃u,r=some u /\
   wpAny (model P w) X.A (letOwnedTupleGo tg (.ref it) u) (λ_ s2=>∃x H',Inv X pins σ H' s2/\RelV x u/\J.j7 i H x H'/\tn (i+1) s2.heap/\∀b∈fp,H' b=none) E s1) E s
 done:∀(X:Cx),X.prog=P->X.w=w->X.K=K->X.calm=true->∀(i:Nat) (pins:List (Addr × Obj)) (s:Shared) (σ:St) (H:Hp) (E:Value->Shared->Prop),Inv X pins σ H s->(∀b∈fp,i9 X pins H b)->tn i s.heap->J.stop i H ->
  wpAny (model P w) X.A (pyNext (.ref it)) (λr s1=>r=none/\Inv X pins σ H s1) E s
 self:∀(A:Around) (i:Nat) (s:Shared) (Q:Value->Shared->Prop) (E:Value->Shared->Prop),tn i s.heap->Q (.ref it) s->wpAny (model P w) A (pyIter (.ref it)) Q E s
abbrev TI:=St->Hp->(It->Hp->Prop)->Prop
def Oq(X:Cx)(pins:List (Addr × Obj))(σ:St)(tg:Expr)(R:It->Hp->Prop)(Ew:Value)(s2:Shared):Prop :=
 ∃(it:Addr) (fp:List Addr) (tn:Nat->Heap->Prop) (J:It) (H':Hp),Ew=.ref it/\Inv X pins σ H' s2/\Turn X.prog X.w X.K tg J fp it tn/\tn 0 s2.heap/\(∀b∈fp,i9 X pins H' b)/\R J H'
def PI(X:Cx)(tg iter:Expr)(wi:TI):Prop :=
 ∀(pins:List (Addr × Obj)) (s:Shared) (σ:St) (H:Hp) (R:It->Hp->Prop),Inv X pins σ H s->wi σ H R ->
  wpAny (model X.prog X.w) X.A (eval iter X.env) (λv s1=>wpAny (model X.prog X.w) X.A (pyIter v) (Oq X pins σ tg R) X.xe s1) X.xe s
theorem Ot{M:Model}{A:Around}{E:Value->Shared->Prop}{s:Shared}{tg:Expr}{it:Addr}{u:Value}{o:Obj}{n:String}{vs:Array Value}{Q:Unit->Shared->Prop}(ho:s.heap.get? it=some o)(hc:o.cls=.type n)(hd:o.data=.fields vs)
  (hn:["enumerate","zip","dict_itemiterator","dict_reverseitemiterator","odict_iterator","itertools.zip_longest","itertools.pairwise"].contains n=false) (hQ:Q () s):wpAny M A (letOwnedTupleGo tg (.ref it) u) Q E s:=by
 unfold letOwnedTupleGo
 cases tg<;>first
  | exact wpAny_pure hQ
  | (cases u<;>first
    | exact wpAny_pure hQ
    | (refine wpAny_bind (wpAny_load ho ?_)
       rw[hc,hd]
       show wpAny M A (if(["enumerate","zip","dict_itemiterator","dict_reverseitemiterator","odict_iterator","itertools.zip_longest","itertools.pairwise"].contains n&&vs[0]?==some (rawInt _))=true then _ else _) Q E s
       rw[if_neg (by intro h;rw[hn,sX]at h;cases h)]
       exact wpAny_pure hQ))
def Ey(K:PySem.W.Frag)(a:Addr):It :=
 ⟨λi H=>∃xs x,bK K H a xs/\xs[i]?=some x,λi H x H'=>H'=H/\∀xs,bK K H a xs->xs[i]?=some x,λi H=>∃xs,bK K H a xs/\xs.length<=i⟩
def xf(lo:Int)(n:Nat):It:=⟨λi _=>i<n,λi H x H'=>H'=H/\x=.int (lo+i),λi _=>n<=i⟩
theorem Yo{P:Program}{w:World}{K:PySem.W.Frag}{tg:Expr}(a it:Addr):Turn P w K tg (Ey K a) [it] it (λi h=>h.IsListIter it a i) where
 mem:=by simp
 obj:=λi h st b hb=>by
  have e:b=it:=by simpa using hb
  subst e
  obtain⟨o,e,c,d⟩:=st
  exact⟨o,e,λv z=>by rw[d]at z;cases z⟩
 keep:=λi h h' st k=>st.at λo e=>k it (by simp) o e
 item:=by
  intro X hP hw hK hc i pins s σ H E I hf st hg
  subst hP hw hK
  obtain⟨xs,x,hq,hx⟩:=hg
  obtain⟨its,rv,p,hz⟩:=I.list hq
  obtain⟨u,hu,ru⟩:=rv.get hx
  obtain⟨f0,f1,f2,f3,f4,f5⟩:=hf it (by simp)
  refine wpAny_pyNext_list_item st p.isList (x:=u) (by simpa using hu) λh' oB sb=>?_
  have I1:Inv X pins σ H { s with heap:=h' }:=I.turned (t':=s.toks) (λb o hb e=>(sb.2 b hb).trans e) f0 f1 f3 f4 f5
  obtain⟨o,e,c,d⟩:=id oB
  exact⟨u,rfl,Ot (s:={ s with heap:=h' }) e c d (by decide) ⟨x,H,I1,ru,⟨rfl,λys hy=>by rw[I.AL hy hq];exact hx⟩,oB,λb hb=>(hf b hb).1⟩⟩
 done:=by
  intro X hP hw hK hc i pins s σ H E I hf st hg
  subst hP hw hK
  obtain⟨xs,hq,hx⟩:=hg
  obtain⟨its,rv,p,hz⟩:=I.list hq
  obtain⟨f0,f1,f2,f3,f4,f5⟩:=hf it (by simp)
  have hl:=rv.length
  exact wpAny_pyNext_list_end (I.ok.hd hc) st p.isList (by simp;omega) λh' eb=>⟨rfl,I.turned (t':=s.toks) (λb o hb e=>eb b o hb e) f0 f1 f3 f4 f5⟩
 self:=λ_ _ _ _ _ st h=>wpAny_pyIter_listiter st h
theorem Yp{P:Program}{w:World}{K:PySem.W.Frag}{tg:Expr}(it:Addr)(lo:Int)(n:Nat):Turn P w K tg (xf lo n) [it] it (λi h=>IsRangeIter h it (lo+(i:Nat)*1) ((n:Int)-(i:Nat)) 1) where
 mem:=by simp
 obj:=λi h st b hb=>by
  have e:b=it:=by simpa using hb
  subst e
  exact⟨_,st,λv z=>by
   have z':Data.fields _=Data.cell v:=z
   cases z'⟩
 keep:=λi h h' st k=>k it (by simp) _ st
 item:=by
  intro X hP hw hK hc i pins s σ H E I hf st hg
  subst hP hw hK
  obtain⟨f0,f1,f2,f3,f4,f5⟩:=hf it (by simp)
  have W:=Walks.range (prog:=X.prog) (w:=X.w) (I.ok.hd hc) it lo 1 n
  refine W.item i s _ _ hg st λv h' tk hv oB kk=>?_
  obtain⟨t,rfl⟩:=hv
  have I1:Inv X pins σ H { s with heap:=h',toks:=tk }:=I.turned (λb o hb e=>kk b o (by simpa using hb) e) f0 f1 f3 f4 f5
  refine⟨_,rfl,Ot (s:={ s with heap:=h',toks:=tk }) (n:="range_iterator") oB rfl rfl (by decide) ⟨.int (lo+i),H,I1,⟨t,?_⟩,⟨rfl,rfl⟩,oB,λb hb=>(hf b hb).1⟩⟩
  rw[Int.mul_one]
 done:=by
  intro X hP hw hK hc i pins s σ H E I hf st hg
  subst hP hw hK
  obtain⟨f0,f1,f2,f3,f4,f5⟩:=hf it (by simp)
  exact wpAny_pyNext_range_end (I.ok.hd hc) st (by have:n<=i:=hg;omega) λh' eb=>⟨rfl,I.turned (t':=s.toks) (λb o hb e=>eb b o hb e) f0 f1 f3 f4 f5⟩
 self:=λ_ _ _ _ _ st h=>wpAny_pyIter_rangeiter st h
end L2
namespace L2
open PySem PySem.Spec PyProof.Rows
section
variable{X:Cx}{tg:Expr}
def Yq(K:PySem.W.Frag)(tl:TE):TI:=λσ H R=>tl σ H λx H1=>∃a,x=.ref a/\(∃xs,bK K H1 a xs)/\R (Ey K a) H1
theorem Ou{l:Expr}{tl:TE}(hl:PE X l tl):PI X tg l (Yq X.K tl):=by
 intro pins s σ H R I h
 refine aR (hl pins s σ H _ I h) λv s1 ⟨x,H1,I1,r1,q1⟩=>?_
 obtain⟨a,e,⟨xs,hq⟩,q⟩:=q1
 subst e
 cases r1
 obtain⟨its,rv,p,hz⟩:=I1.list hq
 refine wpAny_pyIter_list p.isList ?_
 refine⟨s1.heap.objs.size,[s1.heap.objs.size],_,_,H1,rfl,I1.kept (t':=s1.toks) λb o e=>fF _ e,Yo a _,⟨_,gG _ rfl,rfl,rfl⟩,λb hb=>?_,q⟩
 have e:b=s1.heap.objs.size:=by simpa using hb
 subst e
 exact I1.AQ (bG _) (I1.aK.fresh (bG _))
theorem Ov{pins:List (Addr × Obj)}{σ:St}{H:Hp}{s:Shared}{R:It->Hp->Prop}{E:Value->Shared->Prop}{lo hi:Int}{t u v:Tok}{tk:Nat}(I:Inv X pins σ H s)(h1:-(2 ^ 62)<=lo)(h2:lo<2 ^ 62)(h3:-(2 ^ 62)<=hi)(h4:hi<2 ^ 62)
  (q:R (xf lo (hi-lo).toNat) H):wpAny (model X.prog X.w) X.A (pyIter (.ref s.heap.objs.size)) (Oq X pins σ tg R) E { s with heap:=s.heap.push { cls:=.type "range",data:=.fields #[.int lo t,.int hi u,.int 1 v] },toks:=tk }:=by
 refine wpAny_pyIter_range (IsRange.new ..) (small_one h1 h2 h3 h4) ?_
 have I1:Inv X pins σ H { s with heap:=s.heap.push { cls:=.type "range",data:=.fields #[.int lo t,.int hi u,.int 1 v] },toks:=tk }:=I.kept λb o e=>fF _ e
 refine⟨(s.heap.push { cls:=.type "range",data:=.fields #[.int lo t,.int hi u,.int 1 v] }).objs.size,[(s.heap.push { cls:=.type "range",data:=.fields #[.int lo t,.int hi u,.int 1 v] }).objs.size],_,_,H,rfl,
  I1.kept (t':=tk) λb o e=>fF _ e,Yp _ lo (hi-lo).toNat,?_,λb hb=>?_,q⟩
 ·have e1:lo+((0:Nat):Int)*1=lo:=by simp
  have e2:(((hi-lo).toNat:Nat):Int)-((0:Nat):Int)=Builtin.Range.rangeSize lo hi 1:=by rw[rangeSize_one];split<;>omega
  show IsRangeIter _ _ (lo+((0:Nat):Int)*1) ((((hi-lo).toNat:Nat):Int)-((0:Nat):Int)) 1
  rw[e1,e2]
  exact gG _ rfl
 ·have e:b=(s.heap.push { cls:=.type "range",data:=.fields #[.int lo t,.int hi u,.int 1 v] }).objs.size:=by simpa using hb
  subst e
  exact I1.AQ (bG _) (I1.aK.fresh (bG _))
def Yr(ta:TA):TI:=λσ H R=>ta σ H λvs H1=>∃j:Int,vs=[.int j]/\-(2 ^ 62)<=j/\j<2 ^ 62/\R (xf 0 j.toNat) H1
def Ys(ta:TA):TI:=λσ H R=>ta σ H λvs H1=>∃i j:Int,vs=[.int i,.int j]/\(-(2 ^ 62)<=i/\i<2 ^ 62/\-(2 ^ 62)<=j/\j<2 ^ 62)/\R (xf i (j-i).toNat) H1
theorem Yt{a:Expr}{ta:TA}{p pos:Pos}(hg:Gl X "range")(hm:X.mg "range"=none)(ha:PA X [a] ta)(hs:starEach [a] X.env=[(false,eval a X.env)]:=by rfl):PI X tg (.Call (.Name "range" p) [a] [] pos) (Yr ta):=by
 intro pins s σ H R I h
 refine Call_ (qj I hg hm boot_range (Aa (aR (ha pos pins s σ H _ I h) λus s1 ⟨vs,H1,I1,r1,q1⟩=>?_) hs rfl))
 obtain⟨j,e,q1,q2,q⟩:=q1
 subst e
 cases r1 with
 | cons r rr =>
  cases rr
  obtain⟨t,rfl⟩:=r
  exact call_range_1 (Ov I1 (by omega) (by omega) q1 q2 (by simpa using q))
theorem Yu{a b:Expr}{ta:TA}{p pos:Pos}(hg:Gl X "range")(hm:X.mg "range"=none)(ha:PA X [a,b] ta)(hs:starEach [a,b] X.env=[(false,eval a X.env),(false,eval b X.env)]:=by rfl)(ft:starEach [b] X.env=[(false,eval b X.env)]:=by rfl) :
  PI X tg (.Call (.Name "range" p) [a,b] [] pos) (Ys ta):=by
 intro pins s σ H R I h
 refine Call_ (qj I hg hm boot_range (Aa (aR (ha pos pins s σ H _ I h) λus s1 ⟨vs,H1,I1,r1,q1⟩=>?_) (by rw[hs,ft]) (by rw[ft];rfl)))
 obtain⟨i,j,e,⟨q1,q2,q3,q4⟩,q⟩:=q1
 subst e
 cases r1 with
 | cons r rr =>
  cases rr with
  | cons r' rr =>
   cases rr
   obtain⟨t,rfl⟩:=r
   obtain⟨t',rfl⟩:=r'
   exact call_range_2 (Ov I1 q1 q2 q3 q4 q)
def Yv(wi:TI)(g:TG)(tb:TS):TS:=λD σ H=>wi σ H λJ H1=>∃W:Nat->Nat->St->Hp->Prop,(∃m,W 0 m σ H1)/\∀i m σ H,W i m σ H ->
 (J.stop i H/\D.nx σ H)\/(J.go i H/\∃N:St->Hp->Prop,(∀aI H',N aI H'->∃m',m'<m/\W (i+1) m' aI H')/\∀x H',J.j7 i H x H'->g x σ H' λlW H2=>tb { D with nx:=N,ct:=N,bk:=D.nx } lW H2)
def xg(fp:List Addr)(h:Heap):List (Addr × Obj):=fp.filterMap λb=>(h.get? b).map λo=>(b,o)
theorem AR{fp:List Addr}{h:Heap}{b:Addr}{o:Obj}(hb:b∈fp)(e:h.get? b=some o):(b,o)∈xg fp h:=WY.mpr ⟨b,hb,by rw[e];rfl⟩
theorem Yw{fp:List Addr}{h:Heap}{p:Addr × Obj}(hp:p∈xg fp h):p.1∈fp/\h.get? p.1=some p.2:=by
 obtain⟨b,hb,e⟩:=WY.mp hp
 cases q:h.get? b with
 | none=>rw[q]at e;cases e
 | some o =>
  rw[q]at e
  have e':(b,o)=p:=cS e
  subst e'
  exact⟨hb,q⟩
theorem Inv.pinned{pins:List (Addr × Obj)}{σ:St}{H:Hp}{s:Shared}{fp:List Addr}(I:Inv X pins σ H s)(hf:∀b∈fp,i9 X pins H b)(ho:∀b∈fp,∃o,s.heap.get? b=some o/\∀v,o.data≠.cell v):Inv X (pins++xg fp s.heap) σ H s :=
 I.Ob λp hp=>(bX.mp hp).elim (λz=>I.pin p (cZ _ z)) λz=>by
  obtain⟨hb,e⟩:=Yw z
  obtain⟨f0,f1,f2,_⟩:=hf p.1 hb
  obtain⟨o,e',d⟩:=ho p.1 hb
  rw[e]at e';cases e'
  exact⟨e,f0,f1,f2,d⟩
theorem Inv.xh{pins pl:List (Addr × Obj)}{σ:St}{H:Hp}{s:Shared}(I:Inv X (pins++pl) σ H s):Inv X pins σ H s:=I.Ob λp hp=>I.pin p (cZ _ (eV _ hp))
theorem Yx{iter:Expr}{body:List Stmt}{wi:TI}{g:TG}{tb:TS}{pos:Pos}(hp:PassesOwn (model X.prog X.w) X.A X.env X.xe)(hc:X.calm=true)(hi:PI X tg iter wi)(hg:PG X tg g)(hb:PSs X body tb)
  (hs:∀x,foldedSetIterable iter X.env x=pure x:=by intro _;rfl):PS X (.For tg iter body [] pos) (Yv wi g tb):=by
 intro pins s σ H D I h
 refine wpAny_For (aR (hi pins s σ H _ I h) λv s1 h1=>aR h1 λEw s2 h2=>?_) hs
 obtain⟨it,fp,tn,J,H2,e,I2,T,xi,f2,W,⟨m0,w0⟩,turn⟩:=h2
 subst e
 have Ez:∀{H':Hp},(∀b∈fp,H' b=none)->∀b∈fp,i9 X pins H' b:=λhn b hb=>⟨hn b hb,(f2 b hb).2⟩
 refine codeAny_forLoop_any (λn s'=>∃i aI H',Inv X pins aI H' s'/\tn i s'.heap/\(∀b∈fp,H' b=none)/\W i n aI H') ?_ m0 ⟨0,σ,H2,I2,xi,λb hb=>(f2 b hb).1,w0⟩
 rintro n s3 ⟨i,kF,H3,I3,Ow,EA,w3⟩
 rcases turn i n kF H3 w3 with⟨stop,qn⟩ | ⟨go,N,hN,step⟩
 ·refine wpAny_passesOwn hp (aR (T.done X rfl rfl rfl hc i pins s3 kF H3 X.xe I3 (Ez EA) Ow stop) λr s4 ⟨hr,I4⟩=>?_)
  subst hr
  exact wpAny_execs_nil ⟨kF,H3,I4,qn⟩
 ·refine wpAny_passesOwn hp (aR (T.item X rfl rfl rfl hc i pins s3 kF H3 X.xe I3 (Ez EA) Ow go) λr s4 ⟨u,hr,h4⟩=>?_)
  subst hr
  refine wpAny_passesOwn hp (aR h4 λ_ s5 ⟨x,H5,I5,r5,y5,qq,xj⟩=>?_)
  have EB:=I5.pinned (Ez xj) (T.obj _ _ qq)
  refine wpAny_passesOwn hp (aR (hg _ s5 kF H5 x u _ EB r5 (step x H5 y5)) λ_ s6 ⟨EC,H6,I6,q6⟩=>?_)
  refine wpAny_passesOwn hp (aR (hb _ s6 EC H6 _ I6 q6) λf s7 q7=>?_)
  have again:∀{kG:St} {H7:Hp},Inv X (pins++xg fp s5.heap) kG H7 s7->N kG H7->∃m,m<n/\∃i aI H',Inv X pins aI H' s7/\tn i s7.heap/\(∀b∈fp,H' b=none)/\W i m aI H':=λ{kG H7} I7 n7=>by
   obtain⟨m',hm,w7⟩:=hN kG H7 n7
   refine⟨m',hm,i+1,kG,H7,I7.xh,T.keep _ _ _ qq λb hb o e=>(I7.pin (b,o) (cZ _ (cZ _ (AR hb e)))).1,λb hb=>?_,w7⟩
   obtain⟨o,e,d⟩:=T.obj _ _ qq b hb
   exact(I7.pin (b,o) (cZ _ (cZ _ (AR hb e)))).2.1
  cases f with
  | next=>obtain⟨kG,H7,I7,n7⟩:=q7;exact again I7 n7
  | cont=>obtain⟨kG,H7,I7,n7⟩:=q7;exact again I7 n7
  | brk=>obtain⟨kG,H7,I7,q7⟩:=q7;exact⟨kG,H7,I7.xh,q7⟩
  | ret v=>obtain⟨x7,kG,H7,I7,r7,q7⟩:=q7;exact⟨x7,kG,H7,I7.xh,r7,q7⟩
end
end L2
namespace L2
open PySem PySem.Spec PyProof.Rows
abbrev R2:=V->V->Hp->VK->Prop
def cN(X:Cx)(f:Value->Value->Sem Value)(r:R2):Prop :=
 ∀(pins:List (Addr × Obj)) (s:Shared) (σ:St) (H:Hp) (x y:V) (v u:Value) (Q:VK),Inv X pins σ H s->RelV x v->RelV y u->r x y H Q ->
  wpAny (model X.prog X.w) X.A (f v u) (EP X pins σ Q) X.xe s
def ED(X:Cx)(f:Value->Sem Value)(r:V->Hp->VK->Prop):Prop :=
 ∀(pins:List (Addr × Obj)) (s:Shared) (σ:St) (H:Hp) (x:V) (v:Value) (Q:VK),Inv X pins σ H s->RelV x v->r x H Q ->
  wpAny (model X.prog X.w) X.A (f v) (EP X pins σ Q) X.xe s
def gq(X:Cx)(f:Value)(r:List V->Hp->VK->Prop):Prop :=
 ∀(pins:List (Addr × Obj)) (s:Shared) (σ:St) (H:Hp) (xs:List V) (us:List Value) (Q:VK),Inv X pins σ H s->Vals xs us->r xs H Q ->
  wpAny (model X.prog X.w) X.A (call f us) (EP X pins σ Q) X.xe s
def xk(r:R2)(ta tb:TE):TE:=λσ H Q=>ta σ H λx H1=>tb σ H1 λy H2=>r x y H2 Q
def Yy(r:V->Hp->VK->Prop)(ta:TE):TE:=λσ H Q=>ta σ H λx H1=>r x H1 Q
def rI(C:Int->Int->Prop)(g:Int->Int->V):R2:=λx y H Q=>∃i j,x=.int i/\y=.int j/\C i j/\Q (g i j) H
def jC(g:Int->Int->V):R2:=λx y H Q=>∃i j,x=.int i/\y=.int j/\Q (g i j) H
def rU(g:Int->V):V->Hp->VK->Prop:=λx H Q=>∃i,x=.int i/\Q (g i) H
section
variable{X:Cx}{a b c:Expr}{ta tb tc:TE}{pos:Pos}
theorem EE(ha:PE X a ta)(hb:PE X b tb){pins:List (Addr × Obj)}{s:Shared}{σ:St}{H:Hp}{R:V->V->Hp->Prop}(I:Inv X pins σ H s)
  (h:ta σ H λx H1=>tb σ H1 λy H2=>R x y H2) {Q:Value->Shared->Prop} {f:Value->Value->Sem Value}
  (hf:∀v u s2 x y H2,Inv X pins σ H2 s2->RelV x v->RelV y u->R x y H2->wpAny (model X.prog X.w) X.A (f v u) Q X.xe s2) :
  wpAny (model X.prog X.w) X.A (eval a X.env) (λv bC=>wpAny (model X.prog X.w) X.A (eval b X.env) (λu kE=>wpAny (model X.prog X.w) X.A (f v u) Q X.xe kE) X.xe bC) X.xe s:=by
 refine aR (ha pins s σ H _ I h) λv s1 ⟨x,H1,I1,r1,q1⟩=>?_
 refine aR (hb pins s1 σ H1 _ I1 q1) λu s2 ⟨y,H2,I2,r2,q2⟩=>?_
 exact hf v u s2 x y H2 I2 r1 r2 q2
theorem xm{op:Operator}{r:R2}(ho:cN X (binaryOp op) r)(ha:PE X a ta)(hb:PE X b tb):PE X (.BinOp a op b pos) (xk r ta tb):=by
 intro pins s σ H Q I h
 exact wpAny_BinOp (EE ha hb I h λv u s2 x y H2 I2 rx ry q=>ho pins s2 σ H2 x y v u Q I2 rx ry q)
theorem Yz{op:UnaryOp}{r:V->Hp->VK->Prop}(ho:ED X (unaryOp op) r)(ha:PE X a ta):PE X (.UnaryOp op a pos) (Yy r ta):=by
 intro pins s σ H Q I h
 exact UnaryOp_ (aR (ha pins s σ H _ I h) λv s1 ⟨x,H1,I1,r1,q1⟩=>ho pins s1 σ H1 x v Q I1 r1 q1)
theorem xn{f:Value->Value->Sem Value}{C:Int->Int->Prop}{g:Int->Int->Int}
  (rule:∀(i j:Int) (t u:Tok) (s:Shared) (Q:Value->Shared->Prop) (E:Value->Shared->Prop),C i j->Q (.int (g i j) s.toks) { s with toks:=s.toks+1 }->wpAny (model X.prog X.w) X.A (f (.int i t) (.int j u)) Q E s) :
  cN X f (rI C λi j=>.int (g i j)):=by
 intro pins s σ H x y v u Q I rx ry h
 obtain⟨i,j,rfl,rfl,hc,q⟩:=h
 obtain⟨t,rfl⟩:=rx
 obtain⟨t',rfl⟩:=ry
 exact rule i j t t' s _ _ hc ⟨.int (g i j),H,I.tok _,⟨_,rfl⟩,q⟩
theorem tT{f:Value->Value->Sem Value}{g:Int->Int->Int}
  (rule:∀(i j:Int) (t u:Tok) (s:Shared) (Q:Value->Shared->Prop) (E:Value->Shared->Prop),Q (.int (g i j) s.toks) { s with toks:=s.toks+1 }->wpAny (model X.prog X.w) X.A (f (.int i t) (.int j u)) Q E s) :
  cN X f (jC λi j=>.int (g i j)):=by
 intro pins s σ H x y v u Q I rx ry h
 obtain⟨i,j,rfl,rfl,q⟩:=h
 obtain⟨t,rfl⟩:=rx
 obtain⟨t',rfl⟩:=ry
 exact rule i j t t' s _ _ ⟨.int (g i j),H,I.tok _,⟨_,rfl⟩,q⟩
theorem AS{f:Value->Value->Sem Value}{g:Int->Int->Bool}
  (rule:∀(i j:Int) (t u:Tok) (s:Shared) (Q:Value->Shared->Prop) (E:Value->Shared->Prop),Q (.bool (g i j)) s->wpAny (model X.prog X.w) X.A (f (.int i t) (.int j u)) Q E s) :
  cN X f (jC λi j=>.bl (g i j)):=by
 intro pins s σ H x y v u Q I rx ry h
 obtain⟨i,j,rfl,rfl,q⟩:=h
 obtain⟨t,rfl⟩:=rx
 obtain⟨t',rfl⟩:=ry
 exact rule i j t t' s _ _ ⟨.bl (g i j),H,I,rfl,q⟩
def ia(i j:Int):Prop:=(-(2 ^ 64)<i/\i<2 ^ 64)\/(-(2 ^ 64)<j/\j<2 ^ 64)
theorem ia.ok{i j:Int}(h:ia i j):IntMulOk i j:=by
 rcases h with⟨h1,h2⟩ | ⟨h1,h2⟩
 ·exact .of_left (intBits_le_64 h1 h2)
 ·exact .of_right (intBits_le_64 h1 h2)
theorem YA(k:Nat):(0:Int)<=2 ^ k:=by
 rw[two_pow_cast]
 exact Nz _
theorem YB:cN X (binaryOp .Add) (jC λi j=>.int (i+j)):=tT λ_ _ _ _ _ _ _ q=>add_int q
theorem EF:cN X (binaryOp .Sub) (jC λi j=>.int (i-j)):=tT λ_ _ _ _ _ _ _ q=>sub_int q
theorem YC:cN X (binaryOp .Mod) (rI (λ_ j=>0<j) λi j=>.int (i%j)):=xn λi j _ _ _ _ _ hc q=>by
 have h1:(0:Int)<j:=hc
 exact mod_int' (by omega) (by rw[Int.fmod_eq_emod_of_nonneg i (by omega)];exact q)
theorem YD:cN X (binaryOp .RShift) (rI (λ_ j=>0<=j) λi j=>.int (i/2 ^ j.toNat)):=xn λi j _ _ _ _ _ hc q =>
 rshift_int hc (by rw[WZ i (YA _)];exact q)
theorem YE:cN X (binaryOp .BitAnd) (jC λi j=>.int (oh i j)):=tT λ_ _ _ _ _ _ _ q=>and_int q
theorem YF:cN X (binaryOp .BitXor) (jC λi j=>.int (oi i j)):=tT λ_ _ _ _ _ _ _ q=>xor_int q
theorem YG:cN X (inplaceOp .Add) (jC λi j=>.int (i+j)):=tT λ_ _ _ _ _ _ _ q=>iadd_int q
theorem YH:cN X (inplaceOp .BitXor) (jC λi j=>.int (oi i j)):=tT λ_ _ _ _ _ _ _ q=>ixor_int q
theorem YI{f:Value->Sem Value}{g:Int->Int}
  (rule:∀(i:Int) (t:Tok) (s:Shared) (Q:Value->Shared->Prop) (E:Value->Shared->Prop),Q (.int (g i) s.toks) { s with toks:=s.toks+1 }->wpAny (model X.prog X.w) X.A (f (.int i t)) Q E s) :
  ED X f (rU λi=>.int (g i)):=by
 intro pins s σ H x v Q I rx h
 obtain⟨i,rfl,q⟩:=h
 obtain⟨t,rfl⟩:=rx
 exact rule i t s _ _ ⟨.int (g i),H,I.tok _,⟨_,rfl⟩,q⟩
theorem YJ:ED X (unaryOp .USub) (rU λi=>.int (-i)):=YI λ_ _ _ _ _ q=>neg_int q
end
section
variable{X:Cx}{a b c:Expr}{ta tb tc:TE}{pos:Pos}
theorem YK{pins:List (Addr × Obj)}{σ:St}{H:Hp}{s:Shared}{Q:VK}{k k':Bool}(I:Inv X pins σ H s)(q:Q (.bl k) H)(e:k=k'):EP X pins σ Q (.bool k') s:=by
 subst e
 exact⟨.bl k,H,I,rfl,q⟩
theorem Ox:cN X (compareOp .Lt) (jC λi j=>.bl (decide (i<j))):=AS λ_ _ _ _ _ _ _ q=>lt_int q
theorem YL:cN X (compareOp .LtE) (jC λi j=>.bl (decide (i<=j))):=AS λ_ _ _ _ _ _ _ q=>le_int q
theorem Oy:cN X (compareOp .Gt) (jC λi j=>.bl (decide (j<i))):=AS λ_ _ _ _ _ _ _ q=>gt_int q
theorem YM:cN X (compareOp .GtE) (jC λi j=>.bl (decide (j<=i))):=AS λ_ _ _ _ _ _ _ q=>ge_int q
theorem YN:cN X (compareOp .IsNot) (λx y H Q=>y=.av/\Q (.bl (!decide (x=.av))) H):=by
 intro pins s σ H x y v u Q I rx ry h
 obtain⟨rfl,q⟩:=h
 cases ry
 refine isnot_none_gen (YK I q ?_)
 cases x<;>first
  | (cases rx;rfl)
  | (obtain⟨t,rfl⟩:=rx;rfl)
theorem cN.or{f:Value->Value->Sem Value}{r r':R2}(h:cN X f r)(h':cN X f r'):cN X f (λx y H Q=>r x y H Q\/r' x y H Q):=by
 intro pins s σ H x y v u Q I rx ry q
 rcases q with q | q
 ·exact h pins s σ H x y v u Q I rx ry q
 ·exact h' pins s σ H x y v u Q I rx ry q
theorem bM(b:Expr){op:CmpOp}(h:op≠.In:=by decide)(h2:op≠.NotIn:=by decide):behindInMarks op b=false:=by
 have e1:(op==CmpOp.In)=false:=by cases op<;>first | rfl | exact absurd rfl h
 have e2:(op==CmpOp.NotIn)=false:=by cases op<;>first | rfl | exact absurd rfl h2
 cases b<;>simp[behindInMarks,e1,e2]
theorem YO{op:CmpOp}{r:R2}(ho:cN X (compareOp op) r)(ha:PE X a ta)(hb:PE X b tb)(hm:behindInMarks op b=false):PE X (.Compare a [op] [b] pos) (xk r ta tb):=by
 intro pins s σ H Q I h
 exact wpAny_Compare1 (EE ha hb I h λv u s2 x y H2 I2 rx ry q=>ho pins s2 σ H2 x y v u Q I2 rx ry q) hm
def Oz(t:TE):TT:=λσ H Q=>t σ H λx H'=>∃k,x=.bl k/\Q k H'
theorem EG{op:CmpOp}{r:R2}(ho:cN X (compareOp op) r)(ha:PE X a ta)(hb:PE X b tb)(hm:behindInMarks op b=false):PT X (.Compare a [op] [b] pos) (Oz (xk r ta tb)):=by
 intro pins s σ H Q I h
 refine wpAny_isTrue_Compare1 (aR (ha pins s σ H _ I h) λv s1 ⟨x,H1,I1,r1,q1⟩=>aR (hb pins s1 σ H1 _ I1 q1) λu s2 ⟨y,H2,I2,r2,q2⟩ =>
  aR (ho pins s2 σ H2 x y v u _ I2 r1 r2 q2) λc s3 ⟨z,H3,I3,r3,k,e,q3⟩=>?_) hm
 subst e
 cases r3
 exact wpAny_truthy_bool ⟨H3,I3,q3⟩
def OA(r r':R2)(ta tb tc:TE):TE:=λσ H Q=>ta σ H λx H1=>tb σ H1 λy H2=>r x y H2 λz H3=>∃k,z=.bl k /\
 (if k=true then tc σ H3 λw' H4=>r' y w' H4 Q else Q (.bl false) H3)
theorem YQ{op qt:CmpOp}{r r':R2}(ho:cN X (compareOp op) r)(kD:cN X (compareOp qt) r')(ha:PE X a ta)(hb:PE X b tb)(hc:PE X c tc)
  (hm:lastMarks [op,qt] [b,c]=false:=by with_unfolding_all rfl):PE X (.Compare a [op,qt] [b,c] pos) (OA r r' ta tb tc):=by
 intro pins s σ H Q I h
 refine Compare_chain (aR (ha pins s σ H _ I h) λv s1 ⟨x,H1,I1,r1,q1⟩=>chain_link (aR (hb pins s1 σ H1 _ I1 q1) λu s2 ⟨y,H2,I2,r2,q2⟩ =>
  aR (ho pins s2 σ H2 x y v u _ I2 r1 r2 q2) λd s3 ⟨z,H3,I3,r3,k,e,q3⟩=>?_)) hm
 subst e
 cases r3
 refine wpAny_truthy_bool ?_
 cases k with
 | false=>exact ite_ff ⟨.bl false,H3,I3,rfl,q3⟩
 | true=>exact ite_tt (chain_last (aR (hc pins s3 σ H3 _ I3 q3) λw' s4 ⟨z',H4,I4,r4,q4⟩=>kD pins s4 σ H4 y z' u w' Q I4 r2 r4 q4))
theorem tU:(sizeLine:Nat)<2 ^ 63:=by rw[sizeLine_eq];decide
theorem YR:cN X (binaryOp .Add) (λx y H Q=>∃i j,x=.str i/\y=.str j/\i.length+j.length<=sizeLine/\Q (.str (i++j)) H):=by
 intro pins s σ H x y v u Q I rx ry h
 obtain⟨i,j,rfl,rfl,hz,q⟩:=h
 obtain⟨t,rfl⟩:=rx
 obtain⟨t',rfl⟩:=ry
 exact add_str (λt' tk=>⟨.str (i++j),H,I.tok _,⟨_,rfl⟩,q⟩) hz
theorem EH{x:V}{us:List Value}(r:Vals [x] us):∃u,us=[u]/\RelV x u:=by
 cases r with
 | cons r1 r2=>cases r2;exact⟨_,rfl,r1⟩
theorem YS{x y:V}{us:List Value}(r:Vals [x,y] us):∃u w',us=[u,w']/\RelV x u/\RelV y w':=by
 cases r with
 | cons r1 r2 =>
  cases r2 with
  | cons r3 r4=>cases r4;exact⟨_,_,rfl,r1,r3⟩
theorem YT(hc:X.calm=true):gq X (.builtin "min") (λxs H Q=>∃i j,xs=[.int i,.int j]/\Q (.int (if j<i then j else i)) H):=by
 intro pins s σ H xs us Q I r h
 obtain⟨i,j,rfl,q⟩:=h
 obtain⟨u,w',rfl,⟨t,rfl⟩,⟨t',rfl⟩⟩:=YS r
 refine min_two_ints (I.ok.hd hc) λh' tk k=>⟨_,H,I.kept k,?_,q⟩
 by_cases hj:j<i
 ·rw[if_pos hj,if_pos hj];exact⟨_,rfl⟩
 ·rw[if_neg hj,if_neg hj];exact⟨_,rfl⟩
end
end L2
namespace L2
open PySem PySem.Spec PyProof.Rows
structure qu(h:Heap)(x dx C:Addr)(mA:Str->Option Value):Prop where
 obj:h.get? x=some (PySem.W.instObj C dx)
 ns:h.Ns1 dx mA
 ne:dx≠x
theorem YU{h:Heap}{dx:Addr}{mA:Str->Option Value}(n:h.Ns1 dx mA):∃od,h.get? dx=some od/\∀name,PySem.W.lookIn name od=some (mA name):=by
 obtain⟨o,es,ep,ho,hd,hk,_,hm⟩:=n
 refine⟨o,ho,λname=>?_⟩
 have e:=hm name
 unfold nsFind findBy at e
 rw[<-Array.find?_toList]at e
 unfold PySem.W.lookIn
 rw[hd]
 dsimp only
 split
 ·rename_i y q
  rw[q]at e
  exact congrArg some e
 ·rename_i q
  rw[q]at e
  have a:es.toList.any (·.refKey)=false:=by
   rw[List.any_eq_false]
   intro y hy
   obtain⟨z,t,YV⟩:=hk y (Array.mem_toList_iff.mp hy)
   simp[DictEntry.refKey,YV]
  have a':¬ es.toList.any (·.refKey)=true:=by rw[a];exact iY
  rw[if_neg a']
  exact congrArg some e
theorem qu.look{h:Heap}{x dx C:Addr}{mA:Str->Option Value}(I:qu h x dx C mA):∃od,PySem.W.InstAt h x (PySem.W.instObj C dx) C (some od)/\∀name,PySem.W.lookIn name od=some (mA name) :=
 let⟨od,ho,hl⟩:=YU I.ns
 ⟨od,⟨I.obj,rfl,rfl,ho⟩,hl⟩
section
variable{prog:Program}{w:World}{A:Around}{E:Value->Shared->Prop}{s:Shared}{K:PySem.W.Frag}{x dx C f:Addr}{mA:Str->Option Value}{name:Str}{v:Value}
theorem YW{expr:Bool}{Q:Value->Shared->Prop}(X:K.In s.heap)(I:qu s.heap x dx C mA)(hg:PySem.W.plainGet K C name=true)(hh:PySem.W.hasDictIn K C=true)
  (ha:PySem.W.findIn K (.ref C) name=some none) (hv:mA name=some v) (YX:PySem.W.handedIn v=true) (h:Q v { s with toks:=s.toks+1 }) :
  wpAny (model prog w) A (getAttr (.ref x) name expr) Q E s:=by
 obtain⟨od,J,hl⟩:=I.look
 exact PySem.W.get_value X J (PySem.W.plainGet_of hg).1 (PySem.W.findObj_own hh ha rfl (by rw[hl,hv])) YX h
theorem YY{pl:Sem Bool}{Q:Value × List Value->Shared->Prop}(X:K.In s.heap)(I:qu s.heap x dx C mA)(hg:PySem.W.plainGet K C name=true)
  (hf:PySem.W.findIn K (.ref C) name=some (some (.ref f))) (ht:PySem.W.isFn K (.ref f)=true) (hv:mA name=none) (h:Q (.ref f,[.ref x]) s) :
  wpAny (model prog w) A (getMethod (.ref x) name pl) Q E s:=by
 obtain⟨od,J,hl⟩:=I.look
 exact PySem.W.method_fn X J (PySem.W.plainGet_of hg).1 (PySem.W.plainGet_of hg).2 hf (beq_iff_eq.mp ht) (by show(PySem.W.lookIn name od).map (·.isSome)=some false;rw[hl,hv];rfl) h
theorem YZ{ns:List Str}{Q:Unit->Shared->Prop}(X:K.In s.heap)(I:qu s.heap x dx C mA)
  (hs:PySem.W.findIn K (.ref C) "__setattr__"=some (some (.builtin "object.__setattr__"))) (hp:PySem.W.plainOver K C=true) (ht:PySem.W.takerIn K C name=some none) (hh:PySem.W.hasDictIn K C=true)
  (hw:PySem.Within mA ns) (lX:ns.length<=sizeLine)
  (h:∀h',qu h' x dx C (λy=>if y=name then some v else mA y)->Heap.SameBut dx s.heap h'->Q () { s with heap:=h',toks:=s.toks+2 }) :
  wpAny (model prog w) A (setAttr (.ref x) name v) Q E s:=by
 obtain⟨od,J,hl⟩:=I.look
 refine PySem.W.set_plain X J hs (PySem.W.osa_open (s:={ s with toks:=s.toks+1 }) (r:=none) X J hp ht λb=>?_)
 obtain⟨cd,hc,wZ⟩:=PySem.W.any_some hh
 have hx:s.heap.get? x=some ⟨.ref C,some dx,.plain,#[]⟩:=I.obj
 refine wpAny_bind (wpAny_pure (wpAny_bind (wpAny_bind (wpAny_loadPart hx (wpAny_bind (PySem.W.Looks.here (s:={ s with toks:=s.toks+1 }) (PySem.W.looks_clsIn X hc) ?_))))))
 rw[wZ]
 refine wpAny_pure (a:=some dx) (wpAny_bind (wpAny_pure (wpAny_bind ?_)))
 refine wpAny_nsSet1 (s:={ s with toks:=s.toks+1 }) I.ns λh' tV ft=>?_
 obtain⟨oD,esD,epD,Y0,Y3,m3⟩:=tV.count (PySem.Within.cons name v hw)
 refine wpAny_bind (wpAny_lookBehind Y0 (by rw[Y3];exact pastItsLine_dict (fk m3 (by rw[jx];omega))) ?_)
 exact wpAny_pure (h _ ⟨(ft.2 _ (fE I.ne)).trans I.obj,tV,I.ne⟩ ft)
theorem Y4{R:Result->Shared->Prop}{vs:List Value}{kw:List (Str × Value)}(X:K.In s.heap)(hm:PySem.W.makesIn K C=true)
  (hi:PySem.W.findIn K (.ref C) "__init__"=some (some (.ref f))) (hf:PySem.W.typeIn K (.ref f)=some (.type "function"))
  (h:codeAny (model prog w) (A.under (.builtin "type.__call__" ⟨.ref C::vs,kw⟩)) (.call (.ref f) ⟨.ref (s.heap.objs.size+1)::vs,kw⟩) (PySem.W.InitBack (s.heap.objs.size+1) R)
   { s with heap:=(s.heap.push PySem.W.emptyDict).push (PySem.W.instObj C s.heap.objs.size) }) :
  codeAny (model prog w) A (.call (.ref C) ⟨vs,kw⟩) R s:=by
 obtain⟨hh,g,d,t,os⟩:=s
 exact PySem.W.make_core (PySem.W.makes_of X hm) (PySem.W.looks_findIn X hi) (λself=>PySem.W.bind_fn X self hf) (.inl rfl) h
end
def bB(f:Str)(v:V):List (Str × V)->List (Str × V)
 | []=>[(f,v)]
 | (g,x)::r=>if g=f then(g,v)::r else(g,x)::bB f v r
theorem OB(f g:Str)(v:V):∀fs:List (Str × V),(bB f v fs).lookup g=if g=f then some v else fs.lookup g
 | []=>by
  show lC g [(f,v)]=_
  by_cases h:g=f
  ·have hb:(g==f)=true:=beq_iff_eq.mpr h
   simp only[lC,hb,if_pos h]
  ·have hb:(g==f)=false:=beq_eq_false_iff_ne.mpr h
   simp only[lC,hb,if_neg h]
 | (k,x)::r=>by
  have ih:=OB f g v r
  rw[show bB f v ((k,x)::r)=(if k=f then(k,v)::r else(k,x)::bB f v r) from rfl]
  by_cases hk:k=f
  ·rw[if_pos hk]
   by_cases h:g=k
   ·have hb:(g==k)=true:=beq_iff_eq.mpr h
    simp only[lC,hb,if_pos (h.trans hk)]
   ·have hb:(g==k)=false:=beq_eq_false_iff_ne.mpr h
    simp only[lC,hb,if_neg (λe:g=f=>h (e.trans hk.symm))]
  ·rw[if_neg hk]
   by_cases h:g=k
   ·have hb:(g==k)=true:=beq_iff_eq.mpr h
    simp only[lC,hb,if_neg (λe:g=f=>hk (h.symm.trans e))]
   ·have hb:(g==k)=false:=beq_eq_false_iff_ne.mpr h
    simp only[lC,hb]
    exact ih
theorem EI(f:Str)(v:V):∀fs:List (Str × V),f∈(bB f v fs).map (·.1)/\∀g,g∈fs.map (·.1)->g∈(bB f v fs).map (·.1)
 | []=>⟨by simp[bB],λg h=>by simp at h⟩
 | (k,x)::r=>by
  obtain⟨i1,i2⟩:=EI f v r
  rw[show bB f v ((k,x)::r)=(if k=f then(k,v)::r else(k,x)::bB f v r) from rfl]
  by_cases hk:k=f
  ·rw[if_pos hk]
   subst hk
   exact⟨by simp,λg h=>by simpa using h⟩
  ·rw[if_neg hk]
   refine⟨?_,λg h=>?_⟩
   ·rw[dn]
    exact gi _ i1
   ·rw[dn]at h ⊢
    rcases cu.mp h with e | e
    ·exact cu.mpr (.inl e)
    ·exact gi _ (i2 g e)
theorem OC(f:Str)(v:V):∀fs:List (Str × V),(bB f v fs).length<=fs.length+1
 | []=>by simp[bB]
 | (k,x)::r=>by
  have ih:=OC f v r
  rw[show bB f v ((k,x)::r)=(if k=f then(k,v)::r else(k,x)::bB f v r) from rfl]
  by_cases hk:k=f
  ·rw[if_pos hk,jx,jx];omega
  ·rw[if_neg hk,jx,jx];omega
theorem lM.some_of{v:V}{o:Option Value}(r:lM (some v) o):∃u,o=some u/\RelV v u:=by
 cases o with
 | none=>exact(show False from r).elim
 | some u=>exact⟨u,rfl,r⟩
theorem lM.none_of{o:Option Value}(r:lM none o):o=none:=by
 cases o with
 | none=>rfl
 | some u=>exact(show False from r).elim
theorem Y5{v:V}{u:Value}(r:RelV v u):PySem.W.handedIn u=true:=by
 cases v with
 | av=>cases(show u=pU from r);rfl
 | bl b=>cases(show u=DQ b from r);rfl
 | int i=>obtain⟨t,e⟩:=(show ∃t,u=og i t from r);cases e;rfl
 | str x=>obtain⟨t,e⟩:=(show ∃t,u=Value.str x t from r);cases e;rfl
 | AD b=>obtain⟨t,e⟩:=(show ∃t,u=Value.bytes b t from r);cases e;rfl
 | qf b=>obtain⟨t,e⟩:=(show ∃t,u=Value.float b t from r);cases e;rfl
 | ref a=>cases(show u=cW a from r);rfl
 | ty n=>cases(show u=Value.type n from r);rfl
section
variable{P:Program}{w:World}{H H':Hp}{h h':Heap}{a C dx:Addr}{fs fs':List (Str × V)}
theorem AU(aK:cL P w H h)(e:H a=some (.ins C dx fs)):∃mA,qu h a dx C mA/\(∀f,lM (fs.lookup f) (mA f))/\PySem.Within mA (fs.map (·.1))/\fs.length<=1000/\H dx=some (.own a):=by
 obtain⟨d,z,ne,ob,mA,n,r,q⟩:=(show dY P w H h a (.ins C dx fs) from aK a _ e)
 exact⟨mA,⟨ob,n,ne⟩,r,q,z,d⟩
end
structure cy(K:PySem.W.Frag)(C:Addr):Prop where
 pg:PySem.W.plainGet K C wB=true
 hd:PySem.W.hasDictIn K C=true
 po:PySem.W.plainOver K C=true
 sa:PySem.W.findIn K (.ref C) "__setattr__"=some (some (.builtin "object.__setattr__"))
theorem cy.get{K:PySem.W.Frag}{C:Addr}(c:cy K C)(f:Str):PySem.W.plainGet K C f=true:=c.pg
def bg(K:PySem.W.Frag)(C:Addr)(f:Str):Prop:=PySem.W.findIn K (.ref C) f=some none
theorem bg.Y6{K:PySem.W.Frag}{C:Addr}{f:Str}(n:bg K C f):PySem.W.takerIn K C f=some none:=by
 unfold PySem.W.takerIn
 rw[show PySem.W.findIn K (.ref C) f=some none from n]
 rfl
structure Meth(K:PySem.W.Frag)(C:Addr)(m:Str)(f:Addr):Prop where
 at_:PySem.W.findIn K (.ref C) m=some (some (.ref f))
 fn:PySem.W.isFn K (.ref f)=true
 kp:PySem.W.keepIn K (.ref f)=true
section
variable{X:Cx}{pins:List (Addr × Obj)}{σ:St}{H:Hp}{s:Shared}{a C dx:Addr}{fs:List (Str × V)}{f:Str}{v:V}{A:Around}{E:Value->Shared->Prop}
theorem Y7{b:Bool}{Q:Value->Shared->Prop}(I:Inv X pins σ H s)(e:H a=some (.ins C dx fs))(c:cy X.K C)(n:bg X.K C f)(l:fs.lookup f=some v)
  (h:∀u s',Inv X pins σ H s'->RelV v u->Q u s'):wpAny (model X.prog X.w) A (getAttr (.ref a) f b) Q E s:=by
 obtain⟨mA,O,r,_,_,_⟩:=AU I.aK e
 obtain⟨u,hu,ru⟩:=lM.some_of (v:=v) (o:=mA f) (by rw[<-l];exact r f)
 exact YW I.da O (c.get f) c.hd n hu (Y5 ru) (h u _ (I.tok _) ru)
theorem AV{m:Str}{g:Addr}{pl:Sem Bool}{Q:Value × List Value->Shared->Prop}(I:Inv X pins σ H s)(e:H a=some (.ins C dx fs))(c:cy X.K C)(k:Meth X.K C m g)(l:fs.lookup m=none)
  (h:Q (.ref g,[.ref a]) s):wpAny (model X.prog X.w) A (getMethod (.ref a) m pl) Q E s:=by
 obtain⟨mA,O,r,_,_,_⟩:=AU I.aK e
 have hn:mA m=none:=lM.none_of (by rw[<-l];exact r m)
 exact YY I.da O (c.get m) k.at_ k.fn hn h
theorem Y8{y:V}{u:Value}{Q:Unit->Shared->Prop}(I:Inv X pins σ H s)(e:H a=some (.ins C dx fs))(c:cy X.K C)(n:bg X.K C f)(hl:fs.length<1000)(ry:RelV y u)
  (h:∀s',Inv X pins σ (upd H a (.ins C dx (bB f y fs))) s'->Q () s'):wpAny (model X.prog X.w) A (setAttr (.ref a) f u) Q E s:=by
 obtain⟨mA,O,r,wi,_,ho⟩:=AU I.aK e
 have hz:(fs.map (·.1)).length<=sizeLine:=by rw[bt,sizeLine_eq];omega
 refine YZ I.da O c.sa c.po n.Y6 c.hd wi hz λh' O' sb=>h _ ?_
 have hd:∃o,h'.get? dx=some o:=let⟨o,_,_,e',_⟩:=O'.ns;⟨o,e'⟩
 refine I.write (x:=a) (e:=dx) (by rw[e];exact sY) (.inr ho) (λb q hb z=>(sb.2 b hb).trans z) hd ?_
 refine⟨by rw[aZ O.ne];exact ho,?_,O.ne,O'.obj,_,O'.ns,λg=>?_,λg hg=>?_⟩
 ·have:=OC f y fs;omega
 ·show lM ((bB f y fs).lookup g) (if g=f then some u else mA g)
  rw[OB]
  by_cases q:g=f
  ·rw[if_pos q,if_pos q];exact ry
  ·rw[if_neg q,if_neg q];exact r g
 ·by_cases q:g=f
  ·rw[q];exact(EI f y fs).1
  ·refine(EI f y fs).2 g (wi g λz=>hg ?_)
   show(if g=f then some u else mA g)=none
   rw[if_neg q];exact z
theorem Inv.made(I:Inv X pins σ H s):Inv X pins σ (upd (upd H s.heap.objs.size (.own (s.heap.objs.size+1))) (s.heap.objs.size+1) (.ins C s.heap.objs.size []))
  { s with heap:=(s.heap.push PySem.W.emptyDict).push (PySem.W.instObj C s.heap.objs.size) }:=by
 have e1:(s.heap.push PySem.W.emptyDict).get? s.heap.objs.size=some PySem.W.emptyDict:=gG s.heap rfl
 have e2:((s.heap.push PySem.W.emptyDict).push (PySem.W.instObj C s.heap.objs.size)).get? (s.heap.objs.size+1)=some (PySem.W.instObj C s.heap.objs.size):=by
  have:=gG (s.heap.push PySem.W.emptyDict) (o:=PySem.W.instObj C s.heap.objs.size) rfl
  rwa [sZ]at this
 have e3:(s.heap.push PySem.W.emptyDict).Ns s.heap.objs.size (λ_=>none):=⟨PySem.W.emptyDict,#[],_,e1,rfl,(λe he=>absurd he (by simp)),λ_=>rfl⟩
 have I1:=I.laid (a:=s.heap.objs.size) (o:=.own (s.heap.objs.size+1)) (h':=s.heap.push PySem.W.emptyDict) (t':=s.toks) (λb u q=>fF _ q) (bG _) ⟨_,e1⟩
 refine I1.laid (a:=s.heap.objs.size+1) (o:=.ins C s.heap.objs.size []) (t':=s.toks) (λb u q=>fF _ q) (Ab (sZ _ _)) ?_
 have ne:s.heap.objs.size≠s.heap.objs.size+1:=fg (Ac _)
 refine⟨by rw[aZ ne,bJ],lD _,ne,e2,λ_=>none,(Heap.Ns1.of_empty e3).at λo q=>fF _ q,λ_=>sY,λy hy=>absurd rfl hy⟩
theorem Y9{prog:Program}{w:World}{env:Env}{e:Expr}{f:Str}{pos:Pos}{s:Shared}{Q:Value->Shared->Prop}(hb:attributeBase e f env (eval e env)=eval e env)
  (h:wpAny (model prog w) A (eval e env) (λo bC=>wpAny (model prog w) A (getAttr o f true) Q E bC) E s):wpAny (model prog w) A (eval (.Attribute e f pos) env) Q E s :=
 Attribute_any_ h (by rw[arm_eval_Attribute,hb])
end
def Za(K:PySem.W.Frag)(ta:TE)(f:Str):TE:=λσ H Q=>ta σ H λx H1=>∃a C dx fs v,x=.ref a/\H1 a=some (.ins C dx fs)/\cy K C/\bg K C f/\fs.lookup f=some v/\Q v H1
def Zb(K:PySem.W.Frag)(ta tv:TE)(f:Str):TS:=λD σ H=>tv σ H λy H1=>ta σ H1 λx H2=>∃a C dx fs,x=.ref a/\H2 a=some (.ins C dx fs)/\cy K C/\bg K C f/\fs.length<1000 /\
 D.nx σ (upd H2 a (.ins C dx (bB f y fs)))
section
variable{X:Cx}{o e value:Expr}{f:Str}{pos pos' qv:Pos}{ta tv:TE}
theorem qw(he:PE X e ta)(hb:attributeBase e f X.env (eval e X.env)=eval e X.env):PE X (.Attribute e f pos) (Za X.K ta f):=by
 intro pins s σ H Q I h
 refine Y9 hb (aR (he pins s σ H _ I h) λu s1 ⟨x,H1,I1,rx,a,C,dx,fs,v,ex,ea,c,n,l,q⟩=>?_)
 subst ex
 obtain rfl:u=cW a:=rx
 exact Y7 I1 ea c n l λu' s2 I2 ru=>⟨v,H1,I2,ru,q⟩
theorem gW(ha:PE X o ta)(hv:PE X value tv)(hs:swapsWith value (some (.Attribute o f pos')) pos.line X.env=pure false):PS X (.Assign [.Attribute o f pos'] value pos) (Zb X.K ta tv f):=by
 intro pins s σ H D I h
 refine plainObj_wpAny_Assign_Attribute (aR (hv pins s σ H _ I h) λu s1 ⟨y,H1,I1,ry,q⟩=>aR (ha pins s1 σ H1 _ I1 q) λov s2 ⟨x,H2,I2,rx,a,C,dx,fs,ex,ea,c,n,l,q2⟩=>?_) hs
 subst ex
 obtain rfl:ov=cW a:=rx
 exact Y8 I2 ea c n l ry λs3 I3=>⟨σ,_,I3,q2⟩
end
section
variable{X:Cx}{pins:List (Addr × Obj)}{σ:St}{H:Hp}{s:Shared}{A:Around}{E:Value->Shared->Prop}{Q:Value->Shared->Prop}{c:Value}{b:Bool}
inductive ib(K:PySem.W.Frag)(H:Hp):V->Value->Prop where
 | av:ib K H .av (.type "NoneType")
 | bl (x:Bool):ib K H (.bl x) (.type "bool")
 | int (i:Int):ib K H (.int i) (.type "int")
 | str (x:Str):ib K H (.str x) (.type "str")
 | qf (x:UInt64):ib K H (.qf x) (.type "float")
 | lst {a:Addr} {xs:List V} (e:H a=some (.lst xs)):ib K H (.ref a) (.type "list")
 | br {a:Addr} {o:Obj} {xs:List V} (e:H a=some (.br o (.lst xs))):ib K H (.ref a) (.type "list")
 | tup {a:Addr} {xs:List V} (e:H a=some (.tup xs)):ib K H (.ref a) (.type "tuple")
 | dK {a:Addr} {dJ:List (Key × V)} (e:H a=some (.dK dJ)):ib K H (.ref a) (.type "dict")
 | dT {a:Addr} {dJ:List (List Key × V)} (e:H a=some (.dT dJ)):ib K H (.ref a) (.type "dict")
 | ins {a C dx:Addr} {fs:List (Str × V)} (e:H a=some (.ins C dx fs)) (cl:cy K C) (ha:PySem.W.findIn K (.ref C) "__class__"=some (some (.builtin "object.__class__")))
   (hn:PySem.W.specialIn K (.builtin "object.__class__") "__get__"=some (some (.builtin "getset_descriptor.__get__"))) (AW:PySem.W.takesIn K (.builtin "object.__class__")=some true)
   (hm:PySem.W.mroIn K C (.type "object")=some true):ib K H (.ref a) (.ref C)
theorem OD{x:V}{u t:Value}(I:Inv X pins σ H s)(rx:RelV x u)(ty:ib X.K H x t)(e:PySem.W.kitOne X.K t c=some b)(h:∀tk,Q (.bool b) { s with toks:=tk }) :
  wpAny (model X.prog X.w) A (call (.builtin "isinstance") [u,c]) Q E s:=by
 cases ty with
 | av=>cases(show u=pU from rx);exact PySem.W.kia_one PySem.W.kitx_none I.da sY e (λz=>nomatch z) h
 | bl y=>cases(show u=DQ y from rx);exact PySem.W.kia_one PySem.W.kitx_bool I.da sY e (λz=>nomatch z) h
 | int i=>obtain⟨t,q⟩:=(show ∃t,u=og i t from rx);cases q;exact PySem.W.kia_one PySem.W.kitx_int I.da sY e (λz=>nomatch z) h
 | str y=>obtain⟨t,q⟩:=(show ∃t,u=Value.str y t from rx);cases q;exact PySem.W.kia_one PySem.W.kitx_str I.da sY e (λz=>nomatch z) h
 | qf y=>obtain⟨t,q⟩:=(show ∃t,u=Value.float y t from rx);cases q;exact PySem.W.kia_one PySem.W.kitx_float I.da sY e (λz=>nomatch z) h
 | @lst a xs ea =>
  cases(show u=cW a from rx)
  obtain⟨_,_,n,_,h1⟩:=(show dY X.prog X.w H s.heap a (.lst xs) from I.aK a _ ea)
  exact PySem.W.kia_one PySem.W.kitx_list I.da ⟨_,h1,rfl⟩ e (λz=>nomatch z) h
 | @br a ob xs ea =>
  cases(show u=cW a from rx)
  obtain⟨_,_,_,n,_,h1⟩:=(show dY X.prog X.w H s.heap a (.br ob (.lst xs)) from I.aK a _ ea)
  exact PySem.W.kia_one PySem.W.kitx_list I.da ⟨_,h1,rfl⟩ e (λz=>nomatch z) h
 | @tup a xs ea =>
  cases(show u=cW a from rx)
  obtain⟨_,_,_,p⟩:=(show dY X.prog X.w H s.heap a (.tup xs) from I.aK a _ ea)
  obtain⟨o,h1,h2,_⟩:=p
  exact PySem.W.kia_one PySem.W.kitx_tuple I.da ⟨o,h1,h2⟩ e (λz=>nomatch z) h
 | @dK a dJ ea =>
  cases(show u=cW a from rx)
  obtain⟨_,_,vs,_,p⟩:=(show dY X.prog X.w H s.heap a (.dK dJ) from I.aK a _ ea)
  obtain⟨o,es,ep,h1,h2,_⟩:=p
  exact PySem.W.kia_one PySem.W.kitx_dict I.da ⟨o,h1,h2.1⟩ e (λz=>nomatch z) h
 | @dT a dJ ea =>
  cases(show u=cW a from rx)
  obtain⟨_,_,xs,_,o,es,ep,h1,h2,_⟩:=(show dY X.prog X.w H s.heap a (.dT dJ) from I.aK a _ ea)
  exact PySem.W.kia_one PySem.W.kitx_dict I.da ⟨o,h1,h2.1⟩ e (λz=>nomatch z) h
 | @ins a C dx fs ea cl ha hn AW hm =>
  cases(show u=cW a from rx)
  obtain⟨mA,O,_⟩:=AU I.aK ea
  obtain⟨od,J,_⟩:=O.look
  exact PySem.W.kia_one (PySem.W.kitx_own (cl.get _) cl.hd ha hn AW hm) I.da J e (λz=>nomatch z) h
end
end L2
namespace L2
open PySem PySem.Spec PyProof.Rows
structure bY(k:Nat)(A:Around):Prop where
 hd:A.handled=none
 dp:A.depth+3*k+5<recursionLimit
 un:A.units+16*k+200<cLine
theorem bY.mono{j k:Nat}{A:Around}(r:bY k A)(h:j<=k):bY j A:=⟨r.hd,by have:=r.dp;omega,by have:=r.un;omega⟩
theorem bY.deeper{k:Nat}{A:Around}(r:bY (k+1) A)(env:Env):bY k (A.deeper env) :=
 ⟨r.hd,by have:=r.dp;show A.depth+1+3*k+5<_;omega,by have:=r.un;show A.units+3+16*k+200<_;omega⟩
theorem Zc{A:Around}{C:Addr}{us:List Value}{kw:List (Str × Value)}:(A.under (.builtin "type.__call__" ⟨.ref C::us,kw⟩)).depth=A.depth+1:=by
 first | rfl | simp[Around.under,Code.weight,Code.isCreation,Code.isGuard,Code.isCaller,Code.frames,Code.isFrame,guardIds]
theorem Zd{A:Around}{C:Addr}{us:List Value}{kw:List (Str × Value)}:(A.under (.builtin "type.__call__" ⟨.ref C::us,kw⟩)).units=A.units+1:=by
 first | rfl | simp[Around.under,Code.cUnits,Code.frames,Code.isFrame]
theorem bY.make{k:Nat}{A:Around}(r:bY (k+1) A)(C:Addr)(us:List Value)(kw:List (Str × Value)):bY k (A.under (.builtin "type.__call__" ⟨.ref C::us,kw⟩)) :=
 ⟨r.hd,by have:=r.dp;rw[Zc];omega,by have:=r.un;rw[Zd];omega⟩
theorem bY.depth{k:Nat}{A:Around}(r:bY k A):A.depth<recursionLimit:=by have:=r.dp;omega
def Ze:TA:=λ_ H Q=>Q [] H
def Zf(ta:TE)(tr:TA):TA:=λσ H Q=>ta σ H λx H1=>tr σ H1 λxs H2=>Q (x::xs) H2
section
variable{X:Cx}{e:Expr}{es:List Expr}{te:TE}{t:TA}{pos:Pos}
theorem eX:PA X [] Ze:=λ_ _ _ _ H Q I h=>Calls.spliced_nil ⟨[],H,I,.nil,h⟩
theorem bV(ha:PE X e te)(hr:PA X es t)(hs:starEach (e::es) X.env=(false,eval e X.env)::starEach es X.env:=by rfl):PA X (e::es) (Zf te t):=by
 intro pos pins s σ H Q I h
 rw[hs]
 show wpAny _ _ (spliced ((false,eval e X.env)::backTo pos (starEach es X.env))) _ _ s
 refine Calls.spliced_cons (aR (ha pins s σ H _ I h) λu s1 ⟨x,H1,I1,r1,q1⟩=>?_)
 exact aR (hr pos pins s1 σ H1 _ I1 q1) λus s2 ⟨xs,H2,I2,r2,q2⟩=>⟨x::xs,H2,I2,.cons r1 r2,q2⟩
def Zg(t:TA):TE:=λσ H Q=>t σ H λxs H1=>xs.length<=sizeLine/\∀p,H1 p=none->Q (.ref p) (upd H1 p (.tup xs))
def Zh(t:TA):TE:=λσ H Q=>t σ H λxs H1=>xs.length<=sizeLine/\∀p,H1 p=none->Q (.ref p) (upd H1 p (.lst xs))
theorem Zi{x1}(h:PA X es t):PE X (.Tuple es x1 pos) (Zg t):=by
 intro pins s σ H Q I hq
 refine wpAny_Tuple_spliced (aR (h pos pins s σ H _ I hq) λus s1 ⟨xs,H1,I1,r,z,q⟩=>⟨by rw[<-r.length];exact z,?_⟩)
 have hf:H1 s1.heap.objs.size=none:=I1.aK.fresh (bG _)
 refine⟨.ref s1.heap.objs.size,upd H1 s1.heap.objs.size (.tup xs),I1.laid (t':=s1.toks) (λb u e=>fF _ e) (bG _) ?_,rfl,q _ hf⟩
 exact⟨z,us,r,⟨_,gG _ rfl,rfl,_,rfl⟩⟩
theorem OE(h:PA X es t):PE X (.List es pos) (Zh t):=by
 intro pins s σ H Q I hq
 refine wpAny_List_spliced (aR (h pos pins s σ H _ I hq) λus s1 ⟨xs,H1,I1,r,z,q⟩=>⟨by rw[<-r.length];exact z,?_⟩)
 have hf:H1 s1.heap.objs.size=none:=I1.aK.fresh (bG _)
 refine⟨.ref s1.heap.objs.size,upd H1 s1.heap.objs.size (.lst xs),I1.laid (t':=s1.toks) (λb u e=>fF _ e) (bG _) ?_,rfl,q _ hf⟩
 exact⟨z,us,0,r,gG _ rfl⟩
end
abbrev Sp:=List V->Hp->VK->XK->Prop
abbrev eQ:=List Env->Hp->Shared->XK->Value->Shared->Prop
structure jc(P:Program)(w:World)(K:PySem.W.Frag)(mg:Str->Option Value)(base:Heap)(A:Around)(outer:List Env)(s:Shared)(H:Hp):Prop where
 frames:A.frames=some outer
 mod:Mod K mg base
 bs:∀b o,base.get? b=some o->s.heap.get? b=some o/\H b=none
 j4:base.objs.size<=s.heap.objs.size
 gS:s.heap.FunFrames base outer
 j5:∀b∈eD outer,H b=none
 aK:cL P w H s.heap
 bare:AllBare s.gens
def CE(outer:List Env)(P:Program)(w:World)(H:Hp)(s:Shared)(Q:VK)(u:Value)(s':Shared):Prop :=
 ∃v H',s'.os=s.os/\AllBare s'.gens/\Un (eD outer) [] H H' s.heap s'.heap/\cL P w H' s'.heap/\RelV v u/\Q v H'
def CR(CX:eQ)(outer:List Env)(P:Program)(w:World)(H:Hp)(s:Shared)(Q:VK)(E:XK)(r:Result)(s':Shared):Prop :=
 match r with
 | .ok (.ret u)=>CE outer P w H s Q u s'
 | .ok _=>False
 | .error e=>CX outer H s E e s'
structure aM(P:Program)(w:World)(K:PySem.W.Frag)(mg:Str->Option Value)(base:Heap)(CX:eQ)(k:Nat)(f:Addr)(fd:FuncData)(ps:List Str)(sp:Sp):Prop where
 len:∀vs H Q E,sp vs H Q E->vs.length=ps.length
 run:∀(A:Around) (outer:List Env) (s:Shared) (H:Hp) (args:Args) (us:List Value) (vs:List V) (Q:VK) (E:XK),bY k A->jc P w K mg base A outer s H->BindsTo s fd args (ps.zip us)->Vals vs us->sp vs H Q E ->
  codeAny (model P w) A (.call (.ref f) args) (CR CX outer P w H s Q E) s
theorem aM.mono{P:Program}{w:World}{K:PySem.W.Frag}{mg:Str->Option Value}{base:Heap}{CX:eQ}{j k:Nat}{f:Addr}{fd:FuncData}{ps:List Str}{sp:Sp}(F:aM P w K mg base CX j f fd ps sp)(h:j<=k) :
  aM P w K mg base CX k f fd ps sp:=⟨F.len,λA outer s H args us vs Q E hr=>F.run A outer s H args us vs Q E (hr.mono h)⟩
theorem aM.imp{P:Program}{w:World}{K:PySem.W.Frag}{mg:Str->Option Value}{base:Heap}{CX:eQ}{k:Nat}{f:Addr}{fd:FuncData}{ps:List Str}{sp OF:Sp}(F:aM P w K mg base CX k f fd ps sp)
  (h:∀vs H Q E,OF vs H Q E->sp vs H Q E):aM P w K mg base CX k f fd ps OF :=
 ⟨λvs H Q E q=>F.len vs H Q E (h _ _ _ _ q),λA outer s H args us vs Q E hr he hb hv hs=>F.run A outer s H args us vs Q E hr he hb hv (h _ _ _ _ hs)⟩
theorem jc.make{P:Program}{w:World}{K:PySem.W.Frag}{mg:Str->Option Value}{base:Heap}{A:Around}{outer:List Env}{s:Shared}{H:Hp}(e:jc P w K mg base A outer s H)(C:Addr)(us:List Value)(kw:List (Str × Value)) :
  jc P w K mg base (A.under (.builtin "type.__call__" ⟨.ref C::us,kw⟩)) outer s H:=⟨by first | exact e.frames | (simpa[Around.under,Code.envs,Code.isFrame,pushEnvs]using e.frames),e.mod,e.bs,e.j4,e.gS,e.j5,e.aK,e.bare⟩
section
variable{X:Cx}{pins:List (Addr × Obj)}{σ:St}{H:Hp}{s s':Shared}
theorem Inv.xo(I:Inv X pins σ H s):jc X.prog X.w X.K X.mg X.base X.A X.stack s H :=
 ⟨I.ok.frames,I.ok.mod,I.bs,fk I.ok.j4 I.sz,I.stack,I.Ei,I.aK,I.bare⟩
theorem Inv.after{Q:VK}{u:Value}(I:Inv X pins σ H s)(h:CE X.stack X.prog X.w H s Q u s'):EP X pins σ Q u s':=by
 obtain⟨v,H',os,bare,un,aK,r,q⟩:=h
 obtain⟨hh,g,d,t,Zj⟩:=s'
 obtain rfl:Zj=s.os:=os
 exact⟨v,H',I.call (h':=hh) (g':=g) (d':=d) (t':=t) (ch:=[]) un aK bare (λb z=>absurd z (by simp)),r,q⟩
end
def Zk(sp:Sp)(fh:List V)(E:XK)(t:TA):TE:=λσ H Q=>t σ H λvs H1=>sp (vs++fh) H1 Q E
def Zl(C:Addr)(m:Str)(sp:Sp)(fh:List V)(E:XK)(ta:TE)(t:TA):TE:=λσ H Q=>ta σ H λx H1=>∃a dx fs,x=.ref a/\H1 a=some (.ins C dx fs)/\fs.lookup m=none /\
 t σ H1 λvs H2=>sp (x::(vs++fh)) H2 Q E
def Zm(C:Addr)(sp:Sp)(fh:List V)(E:XK)(t:TA):TE:=λσ H Q=>t σ H λvs H1=>∀x dx,H1 x=none->H1 dx=none->dx≠x ->
 sp (.ref x::(vs++fh)) (upd (upd H1 dx (.own x)) x (.ins C dx [])) (λv H2=>v=.av/\Q (.ref x) H2) E
def Binds(K:PySem.W.Frag)(fd:FuncData)(ps:List Str)(ds:List Value):Prop :=
 ∀(s:Shared) (us:List Value),K.In s.heap->(us++ds).length=ps.length->BindsTo s fd ⟨us,[]⟩ (ps.zip (us++ds))
theorem Binds.all{K:PySem.W.Frag}{fd:FuncData}{ps:List Str}(h:∀us:List Value,us.length=ps.length->bindArgs fd ⟨us,[]⟩=pure (ps.zip us)):Binds K fd ps []:=λs us _ hl=>by
 rw[fm]at hl ⊢
 exact .of_eq (h us hl)
def j8(CX:eQ)(X:Cx)(E:XK):Prop:=∀(pins:List (Addr × Obj)) (σ:St) (H:Hp) (s:Shared) (e:Value) (s':Shared),Inv X pins σ H s->CX X.stack H s E e s'->X.xe e s'
section
variable{X:Cx}{CX:eQ}{k:Nat}{f C:Addr}{fd:FuncData}{ps:List Str}{sp:Sp}{fh:List V}{ds:List Value}{E:XK}{x m:Str}{p pos apos:Pos}{e o:Expr}{es:List Expr}{ta:TE}{t:TA}
theorem tW{pins:List (Addr × Obj)}{σ:St}{H:Hp}{s:Shared}{Q:VK}{us:List Value}{vs:List V}(F:aM X.prog X.w X.K X.mg X.base CX k f fd ps sp)(hr:bY k X.A)(hb:Binds X.K fd ps ds)(hd:Vals fh ds)(hx:j8 CX X E)
  (I:Inv X pins σ H s) (r:Vals vs us) (h:sp (vs++fh) H Q E):wpAny (model X.prog X.w) X.A (call (.ref f) us) (EP X pins σ Q) X.xe s:=by
 have r2:Vals (vs++fh) (us++ds):=r.append hd
 have hl:(us++ds).length=ps.length:=by rw[<-r2.length];exact F.len _ _ _ _ h
 refine wpAny_call (codeAny_mono (F.run X.A X.stack s H ⟨us,[]⟩ (us++ds) (vs++fh) Q E hr I.xo (hb s us I.da hl) r2 h) λr s' hq=>?_)
 cases r with
 | error e=>exact hx pins σ H s e s' I hq
 | ok fl =>
  cases fl with
  | ret u=>exact I.after hq
  | next=>exact fQ hq
  | brk=>exact fQ hq
  | cont=>exact fQ hq
theorem je(F:aM X.prog X.w X.K X.mg X.base CX k f fd ps sp)(hr:bY k X.A)(hg:Gl X x)(hm:X.mg x=some (.ref f))(hk:PySem.W.keepIn X.K (.ref f)=true)(hb:Binds X.K fd ps ds)(hd:Vals fh ds)(hx:j8 CX X E)
  (ha:PA X (e::es) t) (dZ:(x==("__debug__":Str))=false:=by decide) (he:starEach (e::es) X.env=(false,eval e X.env)::starEach es X.env:=by rfl) (bN:(backTo pos (starEach es X.env)).any (·.1)=false:=by rfl) :
  PE X (.Call (.Name x p) (e::es) [] pos) (Zk sp fh E t):=by
 intro pins s σ H Q I h
 refine wpAny_Call_Name_kw (xb I hg hm ?_ dZ)
 refine PySem.W.callWith_K (h₀:=X.base) I.ok.mod.mZ hk (aR (ha pos pins s σ H _ I h) λus s1 ⟨vs,H1,I1,r,q⟩=>⟨I1.da,?_⟩) he bN
 exact tW F hr hb hd hx I1 r q
theorem Zn{pl:Sem Bool}(he:PE X o ta)(c:cy X.K C)(hm:Meth X.K C m f)(F:aM X.prog X.w X.K X.mg X.base CX k f fd ps sp)(hr:bY k X.A)(hb:Binds X.K fd ps ds)(hd:Vals fh ds)(hx:j8 CX X E)(ha:PA X (e::es) t)
  (de:starEach (e::es) X.env=(false,eval e X.env)::starEach es X.env:=by rfl) (bN:(backTo pos (starEach es X.env)).any (·.1)=false:=by rfl)
  (ht:eval (.Call (.Attribute o m apos) (e::es) [] pos) X.env=(do
   let ov<-eval o X.env
   standAt apos.atName
   let (f,first)<-holding [ov] (getMethod ov m pl)
   callWith pos f first (backTo pos (starEach (e::es) X.env)) (backToKw pos (keywordEach [] X.env))):=by rfl) :
  PE X (.Call (.Attribute o m apos) (e::es) [] pos) (Zl C m sp fh E ta t):=by
 intro pins s σ H Q I h
 refine PySem.W.methodCall_KW (pl:=pl) (aR (he pins s σ H _ I h) λu s1 ⟨x,H1,I1,rx,a,dx,fs,ex,ea,l,q⟩=>?_) ht
 subst ex
 obtain rfl:u=cW a:=rx
 refine AV I1 ea c hm l ?_
 refine PySem.W.callWith_K (first:=[.ref a]) (h₀:=X.base) I.ok.mod.mZ hm.kp (aR (ha pos pins s1 σ H1 _ I1 q) λus s2 ⟨vs,H2,I2,r,q2⟩=>⟨I2.da,?_⟩) de bN
 exact tW (us:=.ref a::us) (vs:=.ref a::vs) F hr hb hd hx I2 (.cons rfl r) q2
structure Mk(K:PySem.W.Frag)(C f:Addr):Prop where
 makes:PySem.W.makesIn K C=true
 init:PySem.W.findIn K (.ref C) "__init__"=some (some (.ref f))
 fn:PySem.W.isFn K (.ref f)=true
 kp:PySem.W.keepIn K (.ref C)=true
theorem Zo{pins:List (Addr × Obj)}{σ:St}{H:Hp}{s:Shared}{Q:VK}{us:List Value}{vs:List V}(M:Mk X.K C f)(F:aM X.prog X.w X.K X.mg X.base CX k f fd ps sp)(hr:bY (k+1) X.A)(hb:Binds X.K fd ps ds)(hd:Vals fh ds)
  (hx:j8 CX X E) (I:Inv X pins σ H s) (r:Vals vs us)
  (h:∀x dx,H x=none->H dx=none->dx≠x->sp (.ref x::(vs++fh)) (upd (upd H dx (.own x)) x (.ins C dx [])) (λv H2=>v=.av/\Q (.ref x) H2) E) :
  wpAny (model X.prog X.w) X.A (call (.ref C) us) (EP X pins σ Q) X.xe s:=by
 have hq:=h (s.heap.objs.size+1) s.heap.objs.size (I.aK.fresh (Nat.le_succ _)) (I.aK.fresh (bG _)) (fg (Ac _))
 have I2:=Inv.made (C:=C) I
 have r2:Vals (V.ref (s.heap.objs.size+1)::(vs++fh)) (cW (s.heap.objs.size+1)::(us++ds)):=.cons rfl (r.append hd)
 have hl:(cW (s.heap.objs.size+1)::us++ds).length=ps.length:=by
  have e:=r2.length
  rw[F.len _ _ _ _ hq]at e
  exact e.symm
 refine wpAny_call (Y4 (f:=f) I.da M.makes M.init (beq_iff_eq.mp M.fn) (codeAny_mono (F.run _ X.stack _ _ ⟨cW (s.heap.objs.size+1)::us,[]⟩ (cW (s.heap.objs.size+1)::(us++ds)) _ _ E (hr.make C us [])
  (I2.xo.make C us []) (hb _ (cW (s.heap.objs.size+1)::us) I2.da hl) r2 hq) λr s' m4=>?_))
 cases r with
 | error e=>exact hx pins σ _ _ e s' I2 m4
 | ok fl =>
  cases fl with
  | ret u =>
   obtain⟨v,H',I3,rv,ev,q3⟩:=I2.after m4
   subst ev
   exact⟨rv,⟨V.ref (s.heap.objs.size+1),H',I3,rfl,q3⟩⟩
  | next=>exact fQ m4
  | brk=>exact fQ m4
  | cont=>exact fQ m4
theorem OG(M:Mk X.K C f)(F:aM X.prog X.w X.K X.mg X.base CX k f fd ps sp)(hr:bY (k+1) X.A)(hg:Gl X x)(hm:X.mg x=some (.ref C))(hb:Binds X.K fd ps ds)(hd:Vals fh ds)(hx:j8 CX X E)
  (ha:PA X (e::es) t) (dZ:(x==("__debug__":Str))=false:=by decide) (he:starEach (e::es) X.env=(false,eval e X.env)::starEach es X.env:=by rfl) (bN:(backTo pos (starEach es X.env)).any (·.1)=false:=by rfl) :
  PE X (.Call (.Name x p) (e::es) [] pos) (Zm C sp fh E t):=by
 intro pins s σ H Q I h
 refine wpAny_Call_Name_kw (xb I hg hm ?_ dZ)
 refine PySem.W.callWith_K (h₀:=X.base) I.ok.mod.mZ M.kp (aR (ha pos pins s σ H _ I h) λus s1 ⟨vs,H1,I1,r,q⟩=>⟨I1.da,?_⟩) he bN
 exact Zo M F hr hb hd hx I1 r q
end
section
variable{X:Cx}{CX:eQ}{k:Nat}{f C:Addr}{fd:FuncData}{ps ks:List Str}{sp:Sp}{E:XK}{x m:Str}{p pos apos ed7:Pos}{e o:Expr}{es:List Expr}{kws:List Keyword}{te ta:TE}{t tk:TA}{nm:Option Str}
variable{g:List Value->List Value->List Value}{gV:List V->List V->List V}
end
structure bc(N P:List Str)(sc:Scope):Prop where
 kind:sc.kind=.function
 co:sc.isCoroutine=false
 gen:sc.isGenerator=false
 nd:N.Nodup
 pre:N.take P.length=P
 par:∀x∈P,sc.names.lookup x=some .local\/sc.names.lookup x=some .cell
 Zp:∀y∈sc.names,y.2≠.free
theorem OH{kindOf:Str->Option NameKind}{x:Str}:∀{binds:List (Str × Value)} {m:Str->Option Value},(∀v,(x,v) ∉ binds)->bindL kindOf binds m x=m x
 | [],_,_=>rfl
 | (n,v)::r,m,h=>by
  unfold bindL
  rw[OH λw hw=>h w (gi _ hw)]
  split
  ·have:x≠n:=by rintro rfl;exact h v iW
   simp[this]
  ·rfl
theorem OI{kindOf:Str->Option NameKind}{x:Str}:∀{binds:List (Str × Value)} {m:Str->Option Value},(∀v,(x,v) ∉ binds)->bindC kindOf binds m x=m x
 | [],_,_=>rfl
 | (n,v)::r,m,h=>by
  unfold bindC
  rw[OI λw hw=>h w (gi _ hw)]
  split
  ·rfl
  ·have:x≠n:=by rintro rfl;exact h v iW
   simp[this]
theorem OJ{kindOf:Str->Option NameKind}{x:Str}{v:Value}:∀{P:List Str} {vs:List Value} {i:Nat} {m:Str->Option Value},P.Nodup->P[i]?=some x->vs[i]?=some v->kindOf x=some .local ->
  bindL kindOf (P.zip vs) m x=some v
 | [],_,_,_,_,h,_,_=>by simp at h
 | _::_,[],_,_,_,_,h,_=>by simp at h
 | p::P,w::vs,0,m,nd,h1,h2,hk=>by
  simp at h1 h2;subst h1;subst h2
  show bindL kindOf ((p,w)::P.zip vs) m p=_
  unfold bindL
  rw[OH λv hv=>(jV.mp nd).1 (s8 hv).1,if_pos hk]
  simp
 | p::P,w::vs,i+1,m,nd,h1,h2,hk=>by
  show bindL kindOf ((p,w)::P.zip vs) m x=_
  unfold bindL
  exact OJ (i:=i) (jV.mp nd).2 (by simpa using h1) (by simpa using h2) hk
theorem OK{kindOf:Str->Option NameKind}{x:Str}{v:Value}:∀{P:List Str} {vs:List Value} {i:Nat} {m:Str->Option Value},P.Nodup->P[i]?=some x->vs[i]?=some v->kindOf x≠some .local ->
  bindC kindOf (P.zip vs) m x=some v
 | [],_,_,_,_,h,_,_=>by simp at h
 | _::_,[],_,_,_,_,h,_=>by simp at h
 | p::P,w::vs,0,m,nd,h1,h2,hk=>by
  simp at h1 h2;subst h1;subst h2
  show bindC kindOf ((p,w)::P.zip vs) m p=_
  unfold bindC
  rw[OI λv hv=>(jV.mp nd).1 (s8 hv).1,if_neg hk]
  simp
 | p::P,w::vs,i+1,m,nd,h1,h2,hk=>by
  show bindC kindOf ((p,w)::P.zip vs) m x=_
  unfold bindC
  exact OK (i:=i) (jV.mp nd).2 (by simpa using h1) (by simpa using h2) hk
def start(N:List Str)(vs:List V):St:=vs.map some++bf (N.length-vs.length) none
def iH(CX:eQ)(P:Program)(w:World)(K:PySem.W.Frag)(mg:Str->Option Value)(base:Heap)(N:List Str)(qual:Str)(scope:Scope)(f:Addr)(cd:Value)(A:Around)(outer:List Env)(s:Shared)(H:Hp)(E:XK):Cx where
 prog:=P
 w:=w
 K:=K
 mg:=mg
 base:=base
 A:=A.deeper (envOfC qual scope s.heap.objs.size f cd)
 N:=N
 cM:=s
 j3:=H
 env:=envOfC qual scope s.heap.objs.size f cd
 outer:=outer
 stack:=envOfC qual scope s.heap.objs.size f cd::outer
 ex:=[]
 calm:=true
 fn:=λ_=>true
 pn:=[]
 xe:=λe s'=>wpAny (model P w) (A.deeper (envOfC qual scope s.heap.objs.size f cd)) (leaving (envOfC qual scope s.heap.objs.size f cd) e) (λ_ qy=>CX outer H s E e qy) (λe' qy=>CX outer H s E e' qy) s'
theorem OL{sc:Scope}{n:Nat}{x:Str}(h:sc.names.lookup x=some .cell):∃c,(cellsFrom n sc.names []).lookup x=some c:=by
 have q:=PySem.W.cellsFrom_some sc.names n [] (.inl h)
 exact Ad.mp q
theorem Zq{CX:eQ}{P:Program}{w:World}{K:PySem.W.Frag}{mg:Str->Option Value}{base:Heap}{N ps:List Str}{qual:Str}{scope:Scope}{f:Addr}{cd:Value}{A:Around}{outer:List Env}{s s1:Shared}{H:Hp}{E:XK}{us:List Value}{vs:List V}
  (S:bc N ps scope) (hd:A.handled=none) (e0:jc P w K mg base A outer s H) (hl:vs.length=ps.length) (r:Vals vs us)
  (x:InCallC s s.heap.objs.size (bindL (envOfC qual scope s.heap.objs.size f cd).kindOf (ps.zip us) λ_=>none) (cellsFrom (s.heap.objs.size+1) scope.names []) (bindC (envOfC qual scope s.heap.objs.size f cd).kindOf (ps.zip us) λ_=>none) s1) :
  Inv (iH CX P w K mg base N qual scope f cd A outer s H E) [] (start N vs) H s1:=by
 have bN:ps.length<=N.length:=by have:=congrArg DS S.pre;rw[iF]at this;omega
 obtain⟨h1,tk,rfl,hk⟩:=x.done
 have xp:∀b:Addr,b ∉ (iH CX P w K mg base N qual scope f cd A outer s H E).ex:=λb z=>absurd (show b∈([]:List Addr) from z) (by simp)
 refine⟨⟨e0.mod,S.kind,rfl,rfl,bG _,λy z c h1 h2=>?_,λy hy=>?_,λy c _ h=>?_,λ_=>hd,Around.frames_deeper e0.frames,.inr ⟨rfl,rfl⟩,λb z=>absurd z (xp b),e0.bs,e0.j4,λb _ _=>xp b,λb z=>absurd z (xp b),e0.gS,e0.j5⟩,
  rfl,e0.bare,Un.kept hk,⟨_,x.toInCall.ns,λi y v h1 h2 h3=>?_⟩,λy c h=>⟨_,x.cell y c h⟩,e0.aK.fresh (bG _),λy c h=>?_,λp hp=>absurd (show p∈([]:List (Addr × Obj)) from hp) (by simp),e0.aK.kept hk,?_⟩
 ·exact name_of_addr x.apart (PySem.mem_of_lookup h1) (PySem.mem_of_lookup h2)
 ·have hy:scope.names.lookup y=some .cell\/scope.names.lookup y=some .free:=hy
  rcases hy with hy | hy
  ·exact OL hy
  ·exact absurd rfl (S.Zp _ (PySem.mem_of_lookup hy))
 ·exact z7 (x.above y c (PySem.mem_of_lookup h))
 ·have hi:i<vs.length:=by
   unfold start at h2
   by_cases hi:i<vs.length
   ·exact hi
   ·rw[kz (by simpa using hi)]at h2
    rw[s9]at h2
    split at h2<;>cases h2
  have ha:vs[i]?=some v:=by
   unfold start at h2
   rw[pV (by simpa using hi),cj]at h2
   cases e:vs[i]? with
   | none=>rw[e]at h2;cases h2
   | some a=>rw[e]at h2;cases h2;rfl
  obtain⟨u,hu,rv⟩:=r.get ha
  have hp:ps[i]?=some y:=by
   rw[<-S.pre,W0 (by omega)];exact h1
  have OM:ps.Nodup:=by rw[<-S.pre];exact S.nd.sublist (List.take_sublist _ _)
  refine⟨u,rv,?_⟩
  rcases S.par y (tf hp)with k | k
  ·exact .inl ⟨k,OJ OM hp hu k⟩
  ·obtain⟨c,e⟩:=OL (n:=s.heap.objs.size+1) k
   refine .inr ⟨.inl k,c,e,?_⟩
   have q:=x.cell y c e
   rw[OK OM hp hu (by show scope.names.lookup y≠_;rw[k];decide)]at q
   exact q
 ·exact e0.aK.fresh (z7 (x.above y c (PySem.mem_of_lookup h)))
 ·unfold start
  show _=N.length
  rw[dG,bt,fS]
  omega
theorem AX{CX:eQ}{P:Program}{w:World}{K:PySem.W.Frag}{mg:Str->Option Value}{base:Heap}{k:Nat}{f:Addr}{name qual:Str}{params:Arguments}{body:List Stmt}{scope:Scope}{dV kV doc pm aC ct oc:Value}{an od:Option Addr}
  {ie:Array (Option Value)} {N ps:List Str} {sp:Sp} (lk:K.lookup f=some ⟨oc,od,.func (PySem.W.fnOf name qual params body scope dV kV doc pm an aC ct),ie⟩) (cF:PySem.W.codeIn K aC qual=true) (S:bc N ps scope)
  (len:∀vs H Q E,sp vs H Q E->vs.length=ps.length)
  (gX:∀(A:Around) (outer:List Env) (s:Shared) (H:Hp) (vs:List V) (Q:VK) (E:XK),bY k (A.deeper (envOfC qual scope s.heap.objs.size f aC))->sp vs H Q E ->
   ∃t,PSs (iH CX P w K mg base N qual scope f aC A outer s H E) body t/\t { nx:=λ_ H'=>Q .av H',rt:=Q } (start N vs) H) :
  aM P w K mg base CX (k+1) f (PySem.W.fnOf name qual params body scope dV kV doc pm an aC ct) ps sp:=by
 refine⟨len,λA outer s H args us vs Q E hr e0 hb r ig=>?_⟩
 have hl:=len _ _ _ _ ig
 have KX:K.In s.heap:=e0.mod.mZ.keeps λb o e=>(e0.bs b o e).1
 have lim:s.heap.NoLimit:=e0.mod.nolimit.keeps λb o e=>(e0.bs b o e).1
 have ij:∀y∈ps.zip us,scope.names.lookup y.1=some .local\/(scope.names.lookup y.1=some .cell/\((cellsFrom (s.heap.objs.size+1) scope.names []).lookup y.1).isSome=true):=λ⟨n,v⟩ hy=>by
  rcases S.par n (s8 hy).1 with q | q
  ·exact .inl q
  ·exact .inr ⟨q,PySem.W.cellsFrom_some _ _ _ (.inl q)⟩
 refine codeAny_call_function hr.depth (KX _ _ lk) rfl S.co S.gen rfl (PySem.W.codeRec_of KX cF) (hb _ _ _ _ ?_)
 refine wpAny_newFunctionEnv_cells S.kind ij λenv he s1 x=>?_
 subst he
 refine⟨lim.keeps x.toInCall.keep,codeAny_func ?_⟩
 obtain⟨t,ht,hq⟩:=gX A outer s H vs Q E (hr.deeper _) ig
 have I:Inv (iH CX P w K mg base N qual scope f aC A outer s H E) [] (start N vs) H s1:=Zq S hr.hd e0 hl r x
 refine wpAny_mono (ht [] s1 (start N vs) H _ I hq) (λfl s' hs=>?_) λe s' hs=>hs
 have fin:∀{aI:St} {H':Hp} {v:V} {u:Value},Inv (iH CX P w K mg base N qual scope f aC A outer s H E) [] aI H' s'->RelV v u->Q v H'->CE outer P w H s Q u s' :=
  λ{aI H' v u} J rv q=>⟨v,H',J.os,J.bare,J.base,J.aK,rv,q⟩
 cases fl with
 | ret u =>
  obtain⟨v,aI,H',J,rv,q⟩:=hs
  exact fin J rv q
 | next =>
  obtain⟨aI,H',J,q⟩:=hs
  exact fin (v:=V.av) (u:=pU) J rfl q
 | brk =>
  obtain⟨_,_,_,q⟩:=hs
  exact fQ q
 | cont =>
  obtain⟨_,_,_,q⟩:=hs
  exact fQ q
end L2
namespace L2
open PySem PySem.Spec PyProof.Rows
section
variable{X:Cx}{x:Str}{p pos:Pos}{e:Expr}{es:List Expr}{t:TA}{id T:String}{r:List V->Hp->VK->Prop}
def EJ(r:List V->Hp->VK->Prop)(t:TA):TE:=λσ H Q=>t σ H λvs H1=>r vs H1 Q
theorem AY(hc:gq X (.builtin id) r)(hg:Gl X x)(hm:X.mg x=none)(hv:bootBuiltins x=some (.builtin id))(ha:PA X (e::es) t)(hn:x≠"__name__":=by decide)(dZ:(x==("__debug__":Str))=false:=by decide)
  (he:starEach (e::es) X.env=(false,eval e X.env)::starEach es X.env:=by rfl) (bN:(backTo pos (starEach es X.env)).any (·.1)=false:=by rfl):PE X (.Call (.Name x p) (e::es) [] pos) (EJ r t):=by
 intro pins s σ H Q I h
 refine wpAny_Call_Name_kw (qj I hg hm hv ?_ hn dZ)
 exact PyProof.Rows.callWith_builtin1 (aR (ha pos pins s σ H _ I h) λus s1 ⟨vs,H1,I1,r1,q1⟩=>hc pins s1 σ H1 vs us Q I1 r1 q1) he bN
theorem Zr(hc:gq X (.type T) r)(hg:Gl X x)(hm:X.mg x=none)(hv:bootBuiltins x=some (.type T))(ha:PA X (e::es) t)(hn:x≠"__name__":=by decide)(dZ:(x==("__debug__":Str))=false:=by decide)
  (he:starEach (e::es) X.env=(false,eval e X.env)::starEach es X.env:=by rfl) (bN:(backTo pos (starEach es X.env)).any (·.1)=false:=by rfl):PE X (.Call (.Name x p) (e::es) [] pos) (EJ r t):=by
 intro pins s σ H Q I h
 refine wpAny_Call_Name_kw (qj I hg hm hv ?_ hn dZ)
 exact Aa (aR (ha pos pins s σ H _ I h) λus s1 ⟨vs,H1,I1,r1,q1⟩=>hc pins s1 σ H1 vs us Q I1 r1 q1) he bN
end
end L2
namespace HT
open PySem PyProof.Rows
section
open PySem.SeqAt
open PySem.AutoSeq1 (wpAny_loadPart')
open PySem.MeetsSeq PySem.MeetsSeq2 PySem.MeetsSeq3
end
section
variable{prog:Program}{w:World}{A:Around}{E:Value->Shared->Prop}{s:Shared}
def df(n d:Nat):Option Int->Nat
 | none=>d
 | some v=>if v<0 then(v+(n:Int)).toNat else min v.toNat n
theorem EK(n d k:Nat):df n d (some (k:Int))=min k n:=by
 show(if(k:Int)<0 then((k:Int)+(n:Int)).toNat else min (k:Int).toNat n)=min k n
 rw[if_neg (by omega),gQ]
end
end HT
namespace L2
open PySem PySem.Spec PyProof.Rows
abbrev TO:=St->Hp->(Option Int->Hp->Prop)->Prop
def PO(X:Cx)(e:Option Expr)(t:TO):Prop :=
 ∀(pins:List (Addr × Obj)) (s:Shared) (σ:St) (H:Hp) (Q:Option Int->Hp->Prop),Inv X pins σ H s->t σ H Q ->
  wpAny (model X.prog X.w) X.A (evalPart e X.env) (λu s'=>∃o H',Inv X pins σ H' s'/\IsPart u o/\Q o H') X.xe s
def Zs:TO:=λ_ H Q=>Q none H
def Zt(t:TE):TO:=λσ H Q=>t σ H λx H1=>∃i,x=.int i/\Q (some i) H1
theorem Zu{ns:List Int}:∀{us:List Value},Vals (ns.map V.int) us->IntsAre us ns:=by
 induction ns with
 | nil=>intro us r;rw[jW]at r;cases r;exact .nil
 | cons n ns ih =>
  intro us r
  rw[dn]at r
  cases r with
  | cons r1 r2 =>
   obtain⟨t,e⟩:=r1
   subst e
   exact .cons n t (ih r2)
section
variable{X:Cx}{e:Expr}{te:TE}{lo hi:Option Expr}{tl th:TO}{pos p2:Pos}
theorem Zv:PO X none Zs:=by
 intro pins s σ H Q I h
 rw[evalPart_none]
 exact wpAny_pure ⟨none,H,I,.none,h⟩
theorem Zw(h:PE X e te):PO X (some e) (Zt te):=by
 intro pins s σ H Q I hw
 rw[evalPart_some]
 refine aR (h pins s σ H _ I hw) λu s1 ⟨x,H1,I1,r1,q1⟩=>?_
 obtain⟨i,rfl,q⟩:=q1
 obtain⟨t,rfl⟩:=r1
 exact⟨some i,H1,I1,.int i t,q⟩
def qA(X:Cx)(r:V->Option Int->Option Int->Hp->VK->Prop):Prop :=
 ∀(pins:List (Addr × Obj)) (s:Shared) (σ:St) (H:Hp) (x:V) (v vl vu:Value) (lo hi:Option Int) (sl:Addr) (Q:VK),Inv X pins σ H s->RelV x v->s.heap.IsSliceOf sl vl vu .none->IsPart vl lo->IsPart vu hi->r x lo hi H Q ->
  ∃T id,typeLookup (.type T) "__getitem__"=pure (some (.builtin id))/\s.TypeIs v T/\wpAny (model X.prog X.w) X.A (getItem v (.ref sl)) (EP X pins σ Q) X.xe s
theorem qA.or{r r':V->Option Int->Option Int->Hp->VK->Prop}(h:qA X r)(h':qA X r'):qA X (λx lo hi H Q=>r x lo hi H Q\/r' x lo hi H Q):=by
 intro pins s σ H x v vl vu lo hi sl Q I rx hs pl pu q
 rcases q with q | q
 ·exact h pins s σ H x v vl vu lo hi sl Q I rx hs pl pu q
 ·exact h' pins s σ H x v vl vu lo hi sl Q I rx hs pl pu q
def Zx(r:V->Option Int->Option Int->Hp->VK->Prop)(te:TE)(tl th:TO):TE:=λσ H Q=>te σ H λx H1=>tl σ H1 λl H2=>th σ H2 λu H3=>r x l u H3 Q
theorem Zy{r:V->Option Int->Option Int->Hp->VK->Prop}(hr:qA X r)(he:PE X e te)(hl:PO X lo tl)(hu:PO X hi th):PE X (.Subscript e (.Slice lo hi none p2) pos) (Zx r te tl th):=by
 intro pins s σ H Q I h
 refine Subscript_ (aR (he pins s σ H _ I h) λv s1 ⟨x,H1,I1,r1,q1⟩=>?_)
 refine wpAny_Slice (aR (hl pins s1 σ H1 _ I1 q1) λvl s2 ⟨l,H2,I2,pl,q2⟩=>aR (hu pins s2 σ H2 _ I2 q2) λvu s3 ⟨u,H3,I3,pu,q3⟩=>?_)
 rw[evalPart_none]
 refine wpAny_pure ?_
 have I4:Inv X pins σ H3 { s3 with heap:=s3.heap.push { cls:=.type "slice",data:=.fields #[vl,vu,.none] } }:=I3.kept (t':=s3.toks) λb ob q=>fF _ q
 obtain⟨T,id,hT,ht,hg⟩:=hr pins { s3 with heap:=s3.heap.push { cls:=.type "slice",data:=.fields #[vl,vu,.none] } } σ H3 x v vl vu l u s3.heap.objs.size Q I4 r1 (Heap.IsSliceOf.new ..) pl pu q3
 show wpAny (model X.prog X.w) X.A (subscriptTail e (.Slice lo hi none p2) v (.ref s3.heap.objs.size)) (EP X pins σ Q) X.xe { s3 with heap:=s3.heap.push { cls:=.type "slice",data:=.fields #[vl,vu,.none] } }
 exact tail_any (ops:=[.ref s3.heap.objs.size,v]) ht hT hg (by with_unfolding_all rfl)
def tX(xs:List V)(lo hi:Option Int):List V:=(xs.drop (HT.df xs.length 0 lo)).take (HT.df xs.length xs.length hi-HT.df xs.length 0 lo)
theorem Zz(xs:List V)(lo hi:Option Int):(tX xs lo hi).length<=xs.length:=by
 unfold tX
 rw[iF,lF]
 omega
end
end L2
namespace L2
open PySem PySem.Spec PyProof.Rows
def gY(n:Nat)(i:Int):Option Nat:=if 0<=i then(if i<n then some i.toNat else none)else if -(n:Int)<=i then some (i+n).toNat else none
def eE{α:Type}(xs:List α)(i:Int):Option α:=(gY xs.length i).bind λj=>xs[j]?
theorem ON{n:Nat}{i:Int}{j:Nat}(h:gY n i=some j):seqIndex? i n=some j/\j<n/\-(n:Int)<=i/\i<n:=by
 unfold gY at h
 by_cases h0:0<=i
 ·rw[if_pos h0]at h
  by_cases h1:i<n
  ·rw[if_pos h1]at h
   have e:i.toNat=j:=cS h
   exact⟨by rw[seqIndex_of h0 h1,e],by omega,by omega,h1⟩
  ·rw[if_neg h1]at h;cases h
 ·rw[if_neg h0]at h
  by_cases h1:-(n:Int)<=i
  ·rw[if_pos h1]at h
   have e:(i+n).toNat=j:=cS h
   exact⟨by rw[seqIndex_neg (by omega) h1,e],by omega,h1,by omega⟩
  ·rw[if_neg h1]at h;cases h
theorem m5{α:Type}{xs:List α}{i:Int}{v:α}(h:eE xs i=some v):∃j,seqIndex? i xs.length=some j/\xs[j]?=some v/\j<xs.length/\-(xs.length:Int)<=i/\i<xs.length:=by
 unfold eE at h
 cases e:gY xs.length i with
 | none=>rw[e]at h;cases h
 | some j =>
  rw[e]at h
  obtain⟨h1,h2,h3,h4⟩:=ON e
  exact⟨j,h1,h,h2,h3,h4⟩
def OO(b:Expr):Prop:=∀o i,subscripted b false o i=operate [o,i] (getItem o i)
def m6(X:Cx)(r:R2):Prop :=
 ∀(value slice:Expr) (pins:List (Addr × Obj)) (s:Shared) (σ:St) (H:Hp) (x y:V) (v u:Value) (Q:VK),Inv X pins σ H s->RelV x v->RelV y u->r x y H Q ->
  subscripted slice false v u=operate [v,u] (getItem v u)->wpAny (model X.prog X.w) X.A (subscriptTail value slice v u) (EP X pins σ Q) X.xe s
def AZ(X:Cx)(id:String)(r:V->List V->Hp->VK->Prop):Prop :=
 ∀(pins:List (Addr × Obj)) (s:Shared) (σ:St) (H:Hp) (x:V) (xs:List V) (v:Value) (us:List Value) (Q:VK),Inv X pins σ H s->RelV x v->Vals xs us->r x xs H Q ->
  wpAny (model X.prog X.w) X.A (call (.builtin id) (v::us)) (EP X pins σ Q) X.xe s
section
variable{X:Cx}{a b:Expr}{ta tb:TE}{pos:Pos}
theorem m6.or{r r':R2}(h:m6 X r)(h':m6 X r'):m6 X (λx y H Q=>r x y H Q\/r' x y H Q):=by
 intro value slice pins s σ H x y v u Q I rx ry q hs
 rcases q with q | q
 ·exact h value slice pins s σ H x y v u Q I rx ry q hs
 ·exact h' value slice pins s σ H x y v u Q I rx ry q hs
theorem OP{r:R2}(hr:m6 X r)(ha:PE X a ta)(hb:PE X b tb)(hs:OO b):PE X (.Subscript a b pos) (xk r ta tb):=by
 intro pins s σ H Q I h
 exact Subscript_ (EE ha hb I h λv u s2 x y H2 I2 rx ry q=>hr a b pins s2 σ H2 x y v u Q I2 rx ry q (hs _ _))
def OQ(K:PySem.W.Frag):R2:=λx y H Q=>∃p xs i v,x=.ref p/\y=.int i/\bK K H p xs/\eE xs i=some v/\Q v H
def OR(K:PySem.W.Frag):R2:=λx y H Q=>∃p xs i v,x=.ref p/\y=.int i/\hW K H p xs/\eE xs i=some v/\Q v H
def OS:R2:=λx y H Q=>∃z i c,x=.str z/\y=.int i/\z.length<=sizeLine/\eE z.cps.toList i=some c/\Q (.str ⟨#[c]⟩) H
theorem OT:m6 X (OQ X.K):=by
 intro value slice pins s σ H x y v u Q I rx ry h hs
 obtain⟨p,xs,i,z,rfl,rfl,hq,he,q⟩:=h
 cases rx
 obtain⟨t,rfl⟩:=ry
 obtain⟨its,r,pl,hz⟩:=I.list hq
 obtain⟨j,h1,h2,h3,h4,h5⟩:=m5 he
 obtain⟨w,ew,gr⟩:=r.get h2
 have hl:=r.length
 have hn:=tU
 have fin:EP X pins σ Q w s:=⟨z,H,I,gr,q⟩
 by_cases h0:0<=i
 ·have hj:i.toNat=j:=by
   rw[seqIndex_of h0 h5]at h1
   exact cS h1
  exact item_listR pl.isList h0 (by omega) (by rw[hj];simpa using ew) fin hs
 ·have hj:(i+(its.toArray.size:Int)).toNat=j:=by
   rw[seqIndex_neg (by omega) h4]at h1
   rw[dH,<- hl]
   exact cS h1
  exact subscriptTail_builtinR (x:=w) pl.isList.typeIs slot_list_getitem.lookup
   (wpAny_getItem_list_neg (Q:=λr s'=>r=w/\EP X pins σ Q r s') pl.isList (by omega) (by rw[dH]<;>omega) (by omega) (by rw[hj];simpa using ew) ⟨rfl,fin⟩) hs
theorem ZA:m6 X (OR X.K):=by
 intro value slice pins s σ H x y v u Q I rx ry h hs
 obtain⟨p,xs,i,z,rfl,rfl,hq,he,q⟩:=h
 cases rx
 obtain⟨t,rfl⟩:=ry
 obtain⟨its,r,pl,hz⟩:=I.tuple hq
 obtain⟨j,h1,h2,h3,h4,h5⟩:=m5 he
 obtain⟨w,ew,gr⟩:=r.get h2
 have hl:=r.length
 have hn:=tU
 have fin:EP X pins σ Q w s:=⟨z,H,I,gr,q⟩
 exact subscriptTail_builtinR (x:=w) pl.typeIs slot_tuple_getitem.lookup
  (getItem_tuple (j:=j) (Q:=λr s'=>r=w/\EP X pins σ Q r s') pl (by omega) (by omega) (by rw[dH,<- hl];exact h1) (by simpa using ew) ⟨rfl,fin⟩) hs
theorem ZC:m6 X OS:=by
 intro value slice pins s σ H x y v u Q I rx ry h hs
 obtain⟨z,i,c,rfl,rfl,hz,he,q⟩:=h
 obtain⟨t,rfl⟩:=rx
 obtain⟨t',rfl⟩:=ry
 obtain⟨j,h1,h2,h3,h4,h5⟩:=m5 he
 have hl:z.cps.toList.length=z.length:=by simp[Str.length]
 rw[hl]at h1 h4 h5
 have hn:=tU
 exact tail_any (typeIs_str s z t) slot_str_getitem.lookup (getItem_str (c:=c) (by
  have e1:decide (i < -(2 ^ 63:Int))=false:=decide_eq_false (by omega)
  have e2:decide (i ≥ 2 ^ 63)=false:=decide_eq_false (by omega)
  rw[e1,e2,wC]) (by rw[h1];simpa using h2) ⟨.str ⟨#[c]⟩,H,I.tok _,⟨_,rfl⟩,q⟩) hs
def ZD(K:PySem.W.Frag):R2:=λx y H Q=>OQ K x y H Q\/OR K x y H Q\/OS x y H Q
theorem ZE:m6 X (ZD X.K):=OT.or (ZA.or ZC)
theorem ZF(its:List Value)(n j:Nat)(u:Value):Ae (·.setIfInBounds j u) { cls:=.type "list",data:=.seq its.toArray n }={ cls:=.type "list",data:=.seq (its.set j u).toArray n }:=by
 simp[Ae]
theorem Inv.lst{pins:List (Addr × Obj)}{σ:St}{H:Hp}{s:Shared}{p:Addr}{xs:List V}(I:Inv X pins σ H s)(h:H p=some (.lst xs)) :
  ∃(its:List Value) (n:Nat),Vals xs its/\s.heap.get? p=some { cls:=.type "list",data:=.seq its.toArray n }/\xs.length<=sizeLine:=by
 obtain⟨z,its,n,r,e⟩:=I.aK p _ h
 exact⟨its,n,r,e,z⟩
theorem Inv.ZG{pins:List (Addr × Obj)}{σ:St}{H:Hp}{s:Shared}{p:Addr}{xs ys:List V}{its its':List Value}{n n':Nat}{f:Obj->Obj}(I:Inv X pins σ H s)(h:H p=some (.lst xs))
  (ho:s.heap.get? p=some { cls:=.type "list",data:=.seq its.toArray n }) (hf:f { cls:=.type "list",data:=.seq its.toArray n }={ cls:=.type "list",data:=.seq its'.toArray n' }) (r:Vals ys its') (hz:ys.length<=sizeLine) (t:Nat) :
  Inv X pins σ (upd H p (.lst ys)) { s with heap:=s.heap.update p f,toks:=t }:=by
 have e:(s.heap.update p f).get? p=some { cls:=.type "list",data:=.seq its'.toArray n' }:=by
  rw[DT f ho (by rw[hf]<;>rfl),hf]
 refine I.write (x:=p) (e:=p) (by rw[h];trivial) (.inl rfl) (λb u hb q=>(pW _ _ (fE hb)).trans q) ⟨_,e⟩ ?_
 exact⟨hz,its',n',r,e⟩
def ZH:V->V->V->Hp->(Hp->Prop)->Prop:=λo i v H Q=>∃p xs k j,o=.ref p/\i=.int k/\H p=some (.lst xs)/\gY xs.length k=some j/\Q (upd H p (.lst (xs.set j v)))
theorem OU:Oj X ZH:=by
 intro pins s σ H o i v ov iv u Q I ro ri rv h
 obtain⟨p,xs,k,j,rfl,rfl,hp,hj,q⟩:=h
 cases ro
 obtain⟨t,rfl⟩:=ri
 obtain⟨its,n,r,ho,hz⟩:=I.lst hp
 obtain⟨h1,h2,h3,h4⟩:=ON hj
 have hl:=r.length
 have hn:=tU
 have I':Inv X pins σ (upd H p (.lst (xs.set j v))) { s with heap:=s.heap.update p (Ae (·.setIfInBounds j u)) } :=
  I.ZG hp ho (ZF its n j u) (r.set rv j) (by rw[jX];exact hz) s.toks
 by_cases h0:0<=k
 ·have hk:k.toNat=j:=by
   rw[seqIndex_of h0 h4]at h1
   exact cS h1
  exact PySem.W.ki_setAt ho h0 (by omega) (by rw[dH,<- hl];exact h4) (by rw[hk];exact⟨_,I',q⟩)
 ·have hk:(k+(its.toArray.size:Int)).toNat=j:=by
   rw[seqIndex_neg (by omega) h3]at h1
   rw[dH,<- hl]
   exact cS h1
  exact PySem.W.ki_setBack ho (by omega) (by rw[dH,<- hl];exact h3) (by omega) (by rw[hk];exact⟨_,I',q⟩)
theorem EL(lo hi:Option Int)(n:Nat):(sliceBounds lo hi none n).1=((HT.df n 0 lo:Nat):Int)/\(sliceBounds lo hi none n).2.1=((HT.df n n hi:Nat):Int)/\(sliceBounds lo hi none n).2.2=1:=by
 refine⟨?_,?_,rfl⟩
 ·cases lo with
  | none=>simp[sliceBounds,HT.df]
  | some i =>
   simp only[sliceBounds,HT.df,tu,show(1:Int)>0 by decide,if_true]
   by_cases h:i<0
   ·simp only[h,if_true]<;>omega
   ·simp only[h,if_false]<;>omega
 ·cases hi with
  | none=>simp[sliceBounds,HT.df]
  | some i =>
   simp only[sliceBounds,HT.df,tu,show(1:Int)>0 by decide,if_true]
   by_cases h:i<0
   ·simp only[h,if_true]<;>omega
   ·simp only[h,if_false]<;>omega
theorem ZI(its:List Value)(lo hi:Option Int):slicePick its.toArray lo hi none=((its.drop (HT.df its.length 0 lo)).take (HT.df its.length its.length hi-HT.df its.length 0 lo)).toArray:=by
 obtain⟨h1,h2,h3⟩:=EL lo hi its.toArray.size
 unfold slicePick
 rw[h1,h2,h3]
 simp only[sliceRange_one,pick_run,dH]<;>rfl
def ZJ(K:PySem.W.Frag):V->Option Int->Option Int->Hp->VK->Prop:=λx lo hi H Q=>∃a xs,x=.ref a/\bK K H a xs/\∀p,H p=none->Q (.ref p) (upd H p (.lst (tX xs lo hi)))
theorem ZK:qA X (ZJ X.K):=by
 intro pins s σ H x v vl vu lo hi sl Q I rx hs pl pu h
 obtain⟨a,xs,rfl,hx,q⟩:=h
 cases rx
 obtain⟨its,r,ht,hz⟩:=I.list hx
 have hlen:=r.length
 refine⟨"list",_,slot_list_getitem.lookup,ht.isList.typeIs,?_⟩
 refine wpAny_getItem_list_slice ht.isList hs pl pu .none (by simp) ?_ (by rw[dH]<;>omega)
 rw[ZI,<- hlen]
 refine⟨.ref s.heap.objs.size,_,I.laid (t':=s.toks) (o:=.lst (tX xs lo hi)) (λb ob q=>fF _ q) (bG _) ?_,rfl,q _ (I.aK.fresh (bG _))⟩
 exact⟨fk (Zz xs lo hi) hz,_,0,(r.drop (HT.df xs.length 0 lo)).take (HT.df xs.length xs.length hi-HT.df xs.length 0 lo),gG _ rfl⟩
def m8:V->Bool
 | .av=>true
 | .bl _=>true
 | .int _=>true
 | .str _=>true
 | _=>false
def lY:V->V->Bool
 | .av,.av=>true
 | .bl a,.bl b=>a==b
 | .bl a,.int b=>(if a then 1 else 0)==b
 | .int a,.bl b=>a==(if b then 1 else 0)
 | .int a,.int b=>a==b
 | .str a,.str b=>a==b
 | _,_=>false
theorem ZL{A:Around}{s:Shared}{y x:V}{u v:Value}(ry:RelV y u)(rx:RelV x v)(fy:m8 y=true)(fx:m8 x=true):DU A s u v (lY y x):=by
 cases y with
 | av =>
  cases ry
  cases x with
  | av=>cases rx;exact SeqAt.EqAt.same _
  | bl b=>cases rx;exact SeqAt.EqAt.none_bool b
  | int b=>obtain⟨t,rfl⟩:=rx;exact SeqAt.EqAt.none_int b t
  | str b=>obtain⟨t,rfl⟩:=rx;exact SeqAt.EqAt.none_str b t
  | _=>exact absurd (show false=true from fx) iY
 | bl a =>
  cases ry
  cases x with
  | av=>cases rx;exact SeqAt.EqAt.bool_none a
  | bl b=>cases rx;exact SeqAt.EqAt.bool_bool a b
  | int b=>obtain⟨t,rfl⟩:=rx;exact SeqAt.EqAt.bool_int a b t
  | str b=>obtain⟨t,rfl⟩:=rx;exact SeqAt.EqAt.bool_str a b t
  | _=>exact absurd (show false=true from fx) iY
 | int a =>
  obtain⟨t',rfl⟩:=ry
  cases x with
  | av=>cases rx;exact SeqAt.EqAt.int_none a t'
  | bl b=>cases rx;exact SeqAt.EqAt.int_bool a t' b
  | int b=>obtain⟨t,rfl⟩:=rx;exact SeqAt.EqAt.int_int a t' b t
  | str b=>obtain⟨t,rfl⟩:=rx;exact SeqAt.EqAt.int_str a t' b t
  | _=>exact absurd (show false=true from fx) iY
 | str a =>
  obtain⟨t',rfl⟩:=ry
  cases x with
  | av=>cases rx;exact SeqAt.EqAt.str_none a t'
  | bl b=>cases rx;exact SeqAt.EqAt.str_bool a t' b
  | int b=>obtain⟨t,rfl⟩:=rx;exact SeqAt.EqAt.str_int a t' b t
  | str b=>obtain⟨t,rfl⟩:=rx;exact SeqAt.EqAt.str_str a t' b t
  | _=>exact absurd (show false=true from fx) iY
 | _=>exact absurd (show false=true from fy) iY
def m9(x:V)(u:Value):Bool:=match u with
 | .none=>lY .av x
 | .bool b=>lY (.bl b) x
 | .int i _=>lY (.int i) x
 | .str z _=>lY (.str z) x
 | _=>false
theorem OV{x y:V}{u:Value}(r:RelV y u)(f:m8 y=true):m9 x u=lY y x:=by
 cases y with
 | av=>cases r;rfl
 | bl b=>cases r;rfl
 | int i=>obtain⟨t,rfl⟩:=r;rfl
 | str z=>obtain⟨t,rfl⟩:=r;rfl
 | _=>exact absurd (show false=true from f) iY
theorem EM{x:V}:∀{xs:List V} {us:List Value},Vals xs us->xs.all m8=true->us.any (m9 x)=xs.any λy=>lY y x
 | _,_,.nil,_=>rfl
 | y::xs,u::us,.cons r t,f=>by
  rw[dq,eC]at f
  rw[List.any_cons,List.any_cons,OV r f.1,EM t f.2]
theorem EN{A:Around}{s:Shared}{x:V}{v:Value}(rx:RelV x v)(fx:m8 x=true):∀{xs:List V} {us:List Value},Vals xs us->xs.all m8=true->∀u∈us,DU A s u v (m9 x u)
 | _,_,.nil,_=>λu hu=>by cases hu
 | y::xs,u::us,.cons r t,f=>λu' hu=>by
  rw[dq,eC]at f
  rcases cu.mp hu with rfl | hu
  ·rw[OV r f.1];exact ZL r rx f.1 fx
  ·exact EN rx fx t f.2 u' hu
def A6(x:V)(xs:List V):Bool:=xs.any λy=>lY y x
def ZM(K:PySem.W.Frag)(neg:Bool):R2:=λx y H Q=>∃p xs,y=.ref p/\(bK K H p xs\/hW K H p xs)/\m8 x=true/\xs.all m8=true/\Q (.bl (if neg then !A6 x xs else A6 x xs)) H
theorem ZN:cN X (compareOp .NotIn) (ZM X.K true):=by
 intro pins s σ H x y v u Q I rx ry h
 obtain⟨p,xs,rfl,hq,fx,fs,q⟩:=h
 cases ry
 rcases hq with hq | hq
 ·obtain⟨its,r,pl,hz⟩:=I.list hq
  refine SeqAt.notIn_listAt (m9 x) pl.isList (λw hw=>EN rx fx r fs w (by simpa using hw)) ⟨.bl _,H,I,rfl,?_⟩
  rw[show its.toArray.any (m9 x)=its.any (m9 x) by simp,EM r fs]
  exact q
 ·obtain⟨its,r,pl,hz⟩:=I.tuple hq
  refine SeqAt.notIn_tupleAt (m9 x) pl (λw hw=>EN rx fx r fs w (by simpa using hw)) ⟨.bl _,H,I,rfl,?_⟩
  rw[show its.toArray.any (m9 x)=its.any (m9 x) by simp,EM r fs]
  exact q
theorem OW:gq X (.builtin "len") (λxs H Q=>∃p ys,xs=[.ref p]/\(bK X.K H p ys\/hW X.K H p ys)/\Q (.int ys.length) H):=by
 intro pins s σ H xs us Q I r h
 obtain⟨p,ys,rfl,hq,q⟩:=h
 obtain⟨u,rfl,rx⟩:=EH r
 cases rx
 have hn:=tU
 rcases hq with hq | hq
 ·obtain⟨its,r',pl,hz⟩:=I.list hq
  have hlen:=r'.length
  exact Calls.call_len_list pl.isList (by simp only[dH]<;>omega) ⟨.int ys.length,H,I.tok _,⟨s.toks+1,by rw[dH,hlen]⟩,q⟩
 ·obtain⟨its,r',pl,hz⟩:=I.tuple hq
  have hlen:=r'.length
  exact len_tuple pl (by simp only[dH]<;>omega) ⟨.int ys.length,H,I.tok _,⟨s.toks+1,by rw[dH,hlen]⟩,q⟩
theorem ZO:gq X (.builtin "len") (λxs H Q=>∃z,xs=[.str z]/\z.length<=sizeLine/\Q (.int z.length) H):=by
 intro pins s σ H xs us Q I r h
 obtain⟨z,rfl,hz,q⟩:=h
 obtain⟨u,rfl,t,rfl⟩:=EH r
 have hn:=tU
 exact len_str (by omega) ⟨.int z.length,H,I.tok _,⟨_,rfl⟩,q⟩
theorem gq.or{f:Value}{r r':List V->Hp->VK->Prop}(h:gq X f r)(h':gq X f r'):gq X f (λxs H Q=>r xs H Q\/r' xs H Q):=by
 intro pins s σ H xs us Q I rs q
 rcases q with q | q
 ·exact h pins s σ H xs us Q I rs q
 ·exact h' pins s σ H xs us Q I rs q
theorem ZP:gq X (.type "list") (λxs H Q=>∃p ys,xs=[.ref p]/\(bK X.K H p ys\/hW X.K H p ys)/\∀l,H l=none->Q (.ref l) (upd H l (.lst ys))):=by
 intro pins s σ H xs us Q I r h
 obtain⟨p,ys,rfl,hq,q⟩:=h
 obtain⟨u,rfl,rx⟩:=EH r
 cases rx
 have fin:∀(its:List Value),Vals ys its->ys.length<=sizeLine->∀(h':Heap) (c':Nat),(∀b o',s.heap.get? b=some o'->h'.get? b=some o') ->
   h'.get? s.heap.objs.size=some { cls:=.type "list",dict:=none,data:=.seq its.toArray c',slots:=#[] }->EP X pins σ Q (.ref s.heap.objs.size) { s with heap:=h' }:=λits r' hz h' c' kp e =>
  ⟨.ref s.heap.objs.size,_,I.laid (t':=s.toks) kp (bG _) (show dY X.prog X.w _ h' _ (.lst ys) from⟨hz,its,c',r',e⟩),rfl,q _ (I.aK.fresh (bG _))⟩
 rcases hq with hq | hq
 ·obtain⟨its,r',pl,hz⟩:=I.list hq
  have hlen:=r'.length
  obtain⟨o,ho,hc,n,hd⟩:=pl.isList
  exact call_list_seq p (.inl rfl) ho hc hd (λh' c' kp e=>fin its r' hz h' c' kp e) (by simp only[dH]<;>omega)
 ·obtain⟨its,r',pl,hz⟩:=I.tuple hq
  have hlen:=r'.length
  obtain⟨o,ho,hc,n,hd⟩:=pl
  exact call_list_seq p (.inr rfl) ho hc hd (λh' c' kp e=>fin its r' hz h' c' kp e) (by simp only[dH]<;>omega)
def EO(K:PySem.W.Frag)(T:String)(x:V)(H:Hp):Prop:=match x with
 | .str _=>T="str"
 | .int _=>T="int"
 | .ref p=>(T="list"/\∃xs,bK K H p xs)\/(T="tuple"/\∃o,K.lookup p=some o/\o.cls=.type "tuple"/\o.dict=none) \/
   (T="dict"/\((∃dJ,H p=some (.dK dJ))\/∃dJ,H p=some (.dT dJ)))\/(T="set"/\∃S n,H p=some (.set S n))
 | _=>False
theorem OX{pins:List (Addr × Obj)}{σ:St}{H:Hp}{s:Shared}{T:String}{x:V}{v:Value}(I:Inv X pins σ H s)(r:RelV x v)(ty:EO X.K T x H) :
  s.TypeIs v T/\∀a,v=.ref a->∃ob,s.heap.get? a=some ob/\ob.dict=none:=by
 cases x with
 | str z =>
  obtain⟨t,rfl⟩:=r
  cases(show T="str" from ty)
  exact⟨typeIs_str s z t,λ_ e=>nomatch e⟩
 | int i =>
  obtain⟨t,rfl⟩:=r
  cases(show T="int" from ty)
  exact⟨typeIs_int s i t,λ_ e=>nomatch e⟩
 | ref p =>
  cases r
  rcases ty with⟨rfl,xs,hq⟩ | ⟨rfl,o,hk,hc,hd⟩ | ⟨rfl,hk⟩ | ⟨rfl,S,n,hk⟩
  ·obtain⟨its,_,pl,_⟩:=I.list hq
   refine⟨pl.isList.typeIs,λa e=>?_⟩
   cases e
   obtain⟨o,n,e,c,hd,_⟩:=pl
   exact⟨o,e,hd⟩
  ·refine⟨⟨o,I.da p o hk,hc⟩,λa e=>?_⟩
   cases e
   exact⟨o,I.da _ o hk,hd⟩
  ·have z:∃o,s.heap.get? p=some o/\o.ExactDict:=by
    rcases hk with⟨dJ,hk⟩ | ⟨dJ,hk⟩
    ·obtain⟨_,_,_,_,o,_,_,e,ex,_⟩:=I.aK p _ hk
     exact⟨o,e,ex⟩
    ·obtain⟨_,_,_,_,o,_,_,e,ex,_⟩:=I.aK p _ hk
     exact⟨o,e,ex⟩
   obtain⟨o,e,ex⟩:=z
   refine⟨⟨o,e,ex.1⟩,λa e2=>?_⟩
   cases e2
   exact⟨o,e,ex.2.1⟩
  ·obtain⟨o,_,_,_,e,ex,_⟩:=I.aK p _ hk
   refine⟨⟨o,e,ex.1⟩,λa e2=>?_⟩
   cases e2
   exact⟨o,e,ex.2.1⟩
 | _=>exact fQ ty
def OY(K:PySem.W.Frag)(T:String)(r:V->List V->Hp->VK->Prop)(to:TE):TE:=λσ H Q=>to σ H λx H1=>EO K T x H1/\r x [] H1 Q
def ZQ(K:PySem.W.Frag)(T:String)(r:V->List V->Hp->VK->Prop)(to:TE)(t:TA):TE:=λσ H Q=>to σ H λx H1=>EO K T x H1/\t σ H1 λxs H2=>r x xs H2 Q
variable{o e:Expr}{es:List Expr}{to:TE}{t:TA}{name:Str}{apos cm:Pos}{T id:String}{r:V->List V->Hp->VK->Prop}
theorem ZR(pa:PlainAttrs T)(slot:Slot T name id)(ER:typeOf (.builtin id)=pure (.type "method_descriptor"))(hm:AZ X id r)(ho:PE X o to)
  (nh:attributeBase o name X.env (eval o X.env)=eval o X.env:=by rfl) (ni:(apos.endLine==cm.line)=true:=by rfl):PE X (.Call (.Attribute o name apos) [] [] cm) (OY X.K T r to):=by
 intro pins s σ H Q I h
 refine wpAny_Call_method0_late nh ni (aR (ho pins s σ H _ I h) λv s1 ⟨x,H1,I1,r1,ty,q1⟩=>?_)
 obtain⟨h1,h2⟩:=OX I1 r1 ty
 exact⟨T,id,pa,slot,ER,h1,h2,Calls.callWith_builtin rfl (PySem.evalArgs_none (hm pins s1 σ H1 x [] v [] Q I1 r1 .nil q1))⟩
theorem ZS(pa:PlainAttrs T)(slot:Slot T name id)(ER:typeOf (.builtin id)=pure (.type "method_descriptor"))(hm:AZ X id r)(ho:PE X o to)(ha:PA X (e::es) t)
  (nh:attributeBase o name X.env (eval o X.env)=eval o X.env:=by rfl)
  (ES:((backTo cm (starEach (e::es) X.env)).all (λx=>!x.1)&&(backToKw cm (keywordEach [] X.env)).all (λx=>x.1.isSome)
   && decide ((e::es).length+([]:List Keyword).length+(if([]:List Keyword).isEmpty then 0 else 1)<30))=true:=by rfl)
  (ni:(apos.endLine==cm.line)=true:=by rfl) (hs:starEach (e::es) X.env=(false,eval e X.env)::starEach es X.env:=by rfl) (ET:(backTo cm (starEach es X.env)).any (·.1)=false:=by rfl) :
  PE X (.Call (.Attribute o name apos) (e::es) [] cm) (ZQ X.K T r to t):=by
 intro pins s σ H Q I h
 refine wpAny_Call_method_late nh ES ni rfl (aR (ho pins s σ H _ I h) λv s1 ⟨x,H1,I1,r1,ty,q1⟩=>?_)
 obtain⟨h1,h2⟩:=OX I1 r1 ty
 refine⟨T,id,pa,slot,ER,h1,h2,?_⟩
 have hA:=ha cm pins s1 σ H1 _ I1 q1
 rw[hs]at hA ⊢
 refine Calls.callWith_builtin (by show(false||(backTo cm (starEach es X.env)).any (·.1))=false;rw[ET]<;>rfl) (Calls.evalArgs_plain ?_)
 exact aR hA λus s2 ⟨vs,H2,I2,r2,q2⟩=>hm pins s2 σ H2 x vs v us Q I2 r1 r2 q2
/- xs.append(e),list.index on a ed9 tuple .. are AZ facts of 06m -/
end
end L2
namespace L2
open PySem PySem.Spec PyProof.Rows
def ZT(X:Cx)(id:String)(r:V->List V->Hp->VK->Prop):Prop :=
 ∀(pins:List (Addr × Obj)) (s:Shared) (σ:St) (H:Hp) (x:V) (xs:List V) (v:Value) (us:List Value) (Q:VK),Inv X pins σ H s->RelV x v->Vals xs us->r x xs H Q ->
  wpAny (model X.prog X.w) X.A (call (.builtin id) (v::us)) (EP X pins σ Q) X.xe s
theorem Vals.one:∀{x:V} {us:List Value},Vals [x] us->∃u,us=[u]/\RelV x u
 | _,_,h=>by cases h with | cons r h=>cases h;exact⟨_,rfl,r⟩
theorem Vals.two:∀{x y:V} {us:List Value},Vals [x,y] us->∃u v,us=[u,v]/\RelV x u/\RelV y v
 | _,_,_,h=>by cases h with | cons r h=>cases h with | cons q h=>cases h;exact⟨_,_,rfl,r,q⟩
theorem Vals.rep{xs:List V}{us:List Value}(h:Vals xs us):∀k:Nat,Vals (bf k xs).flatten (bf k us).flatten
 | 0=>.nil
 | k+1=>by
  rw[pX,pX,tw,tw]
  exact Vals.append h (Vals.rep h k)
theorem OZ(its:List Value):∀(k:Nat) (acc:List Value),
  List.foldl (λx1 x2=>x1++x2) acc.toArray (bf k its.toArray)=(acc++(bf k its).flatten).toArray
 | 0,acc=>by simp
 | k+1,acc=>by
  have e:acc.toArray++its.toArray=(acc++its).toArray:=by simp
  have e2:(acc++its)++(bf k its).flatten=acc++(bf (k+1) its).flatten:=by
   rw[pX,tw,c9]
  rw[<-e2,<- OZ its k (acc++its),<- e,pX,tD]
section
variable{X:Cx}{pins:List (Addr × Obj)}{σ:St}{H:Hp}{s:Shared}{l b:Addr}{xs ys zs:List V}
theorem Inv.ZU{its its':List Value}{n:Nat}{f:Array Value->Array Value}{t':Nat}(I:Inv X pins σ H s)(hH:H l=some (.lst xs))
  (e:s.heap.get? l=some { cls:=.type "list",data:=.seq its.toArray n }) (hf:f its.toArray=its'.toArray) (hv:Vals ys its') (hz:ys.length<=sizeLine) :
  Inv X pins σ (upd H l (.lst ys)) { s with heap:=s.heap.update l (Ae f),toks:=t' }:=by
 have q:=PySem.IsL.update e f
 rw[hf]at q
 refine I.write (x:=l) (e:=l) (by rw[hH];exact trivial) (.inl rfl) (λb' u hb hu=>(pW s.heap (Ae f) (fE hb)).trans hu) ⟨_,q⟩ ?_
 exact⟨hz,its',_,hv,q⟩
theorem Inv.O0{its:List Value}{t':Nat}(I:Inv X pins σ H s)(hv:Vals ys its)(hz:ys.length<=sizeLine) :
  Inv X pins σ (upd H s.heap.objs.size (.lst ys)) { s with heap:=s.heap.push { cls:=.type "list",data:=.seq its.toArray },toks:=t' } :=
 I.laid (λ_ _ q=>fF _ q) (bG _) ⟨hz,its,0,hv,gG _ rfl⟩
theorem Inv.fresh(I:Inv X pins σ H s):H s.heap.objs.size=none:=I.aK.fresh (bG _)
theorem Inv.A8(I:Inv X pins σ H s)(hH:H l=some (.lst xs)):xs.length<=sizeLine/\∃(its:List Value) (n:Nat),Vals xs its/\xs.length=its.length/\s.heap.get? l=some { cls:=.type "list",data:=.seq its.toArray n }:=by
 obtain⟨z,its,n,r,e⟩:=I.aK l _ hH
 exact⟨z,its,n,r,r.length,e⟩
theorem ZV{n:Nat}(h:n<=sizeLine):NA n=false:=by
 unfold NA
 exact decide_eq_false (by omega)
end
section
variable{X:Cx}
def ZW:V->List V->Hp->VK->Prop:=λx vs H Q=>∃l xs y,x=.ref l/\vs=[y]/\H l=some (.lst xs)/\xs.length<sizeLine/\Q .av (upd H l (.lst (xs++[y])))
theorem O1:ZT X "list.append" ZW:=by
 intro pins s σ H x vs v us Q I rx rv h
 obtain⟨l,xs,y,rfl,rfl,hH,hz,q⟩:=h
 cases rx
 obtain⟨u,rfl,ru⟩:=rv.one
 obtain⟨z,its,n,r,hl,e⟩:=I.A8 hH
 refine call_meets F.slot_list_append ⟨_,e,rfl⟩ F.entry_list_append (F.args_list_append_2 _ _) (PySem.list_append l its.toArray n u (by rw[dH];omega)) ⟨e,?_⟩
 refine⟨.av,_,I.ZU (its':=its++[u]) hH e (by simp) (r.append (.cons ru .nil)) ?_,rfl,q⟩
 rw[dG,lH]
 omega
def ZX:R2:=λx y H Q=>∃l b xs zs,x=.ref l/\y=.ref b/\H l=some (.lst xs)/\H b=some (.lst zs)/\xs.length+zs.length<=sizeLine/\∀p,H p=none->Q (.ref p) (upd H p (.lst (xs++zs)))
theorem O2:cN X (binaryOp .Add) ZX:=by
 intro pins s σ H x y v u Q I rx ry h
 obtain⟨l,b,xs,zs,rfl,rfl,hH,hB,hz,q⟩:=h
 cases rx
 cases ry
 obtain⟨z,its,n,r,hl,e⟩:=I.A8 hH
 obtain⟨z2,O3,n2,r2,Ba,e2⟩:=I.A8 hB
 refine PySem.P.add_list e e2 ?_ (by rw[dH,dH];omega)
 have ea:its.toArray++O3.toArray=(its++O3).toArray:=by simp
 rw[ea]
 exact⟨.ref _,_,I.O0 (t':=s.toks) (r.append r2) (by rw[dG];omega),rfl,q _ I.fresh⟩
def ZY:R2:=λx y H Q=>∃l k xs,x=.ref l/\y=.int k/\H l=some (.lst xs)/\-(2 ^ 63)<=k/\k<2 ^ 63/\xs.length*k.toNat<=sizeLine /\
 ∀p,H p=none->Q (.ref p) (upd H p (.lst (bf k.toNat xs).flatten))
theorem ZZ{α:Type}(xs:List α)(k:Nat):(bf k xs).flatten.length=k*xs.length:=by
 induction k with
 | zero=>simp
 | succ k ih=>rw[pX,tw,dG,ih,Nat.succ_mul,NB]
theorem Z0:cN X (binaryOp .Mult) ZY:=by
 intro pins s σ H x y v u Q I rx ry h
 obtain⟨l,k,xs,rfl,rfl,hH,h1,h2,hz,q⟩:=h
 cases rx
 obtain⟨t,rfl⟩:=ry
 obtain⟨z,its,n,r,hl,e⟩:=I.A8 hH
 have hlen:its.toArray.size*k.toNat<=sizeLine:=by rw[dH,<- hl];exact hz
 have Z1:¬ its.toArray.size*k.toNat>(2 ^ 63-1)/8:=by
  have:(sizeLine:Nat)<=(2 ^ 63-1)/8:=by decide
  omega
 have Z2:¬ (!Builtin.List.listFitsIndex k)=true:=by
  rw[fitsIndex_both h1 h2]
  exact iY
 have Z3:¬ NA (its.toArray.size*k.toNat)=true:=by
  rw[ZV hlen]
  exact iY
 have Z4:List.foldl (λx1 x2=>x1++x2) #[] (bf (if its.toArray.isEmpty=true then 0 else k.toNat) its.toArray)=(bf k.toNat its).flatten.toArray:=by
  have f0:∀m:Nat,List.foldl (λx1 x2=>x1++x2) #[] (bf m its.toArray)=(bf m its).flatten.toArray:=λm=>by
   have:=OZ its m []
   rw[tE]at this
   exact this
  rw[f0]
  cases its with
  | nil=>simp
  | cons a r'=>rw[if_neg (by simp)]
 refine wpAny_binaryOp_repeat_ref (T:="list") (U:="int") (by decide) ⟨_,e,rfl⟩ (λs'=>typeIs_int s' k t) noFill_list_mul F.fills_int_mul F.slot_int_rmul repeat_list F.slot_int_index.lookup
  (call_meets F.slot_int_rmul (typeIs_int s k t) F.entry_int_rmul (F.args_int_rmul_2 _ _) (int___rmul___int_list k t l its.toArray n)
   ⟨e,rfl,⟨_,e,rfl⟩,call_meets F.slot_list_mul ⟨_,e,rfl⟩ F.entry_list_mul (F.args_list_mul_2 _ _) (AutoListH.list___mul___list_int_3 l its.toArray n k t Z2 Z1 Z3) ⟨e,?_⟩⟩)
 rw[Z4]
 exact⟨.ref _,_,I.O0 (t':=s.toks) (r.rep k.toNat) (by rw[ZZ,mO];exact hz),rfl,q _ I.fresh⟩
end
section
variable{prog:Program}{w:World}{A:Around}{E:Value->Shared->Prop}{s:Shared}
end
section
variable{X:Cx}
end
end L2
namespace Att
open PySem PySem.W PySem.Calls PyProof.Rows
theorem Z5{P:Params}{h:Heap}:∀(ns:List Int) (vs:List Value),WellAll P h vs (ns.map WData.int)->IntsAre vs ns:=by
 intro ns
 induction ns with
 | nil =>
  intro vs w
  rw[jW]at w
  cases w
  exact .nil
 | cons n ns ih =>
  intro vs w
  rw[dn]at w
  cases w with
  | cons a b =>
   cases a
   exact .cons _ _ (ih _ b)
theorem Z6{l:OpenLaw}{n:Nat}(hn:l.most=some n){P:Params}{h:Heap}{args:List WData}{vals:List Value}
  (Bb:l.row.toRowW.claim.pre args=true) (EU:WellAll P h vals args) :
  ∃a vs ns,vals=[cW a]/\args=[WData.list (ns.map WData.int)]/\h.get? a=some { cls:=.type "list",data:=.seq vs.toArray }/\IntsAre vs ns/\ns.length<=n:=by
 have xq:WShape.hasAll [] args [.list .int]=true:=(pre_splitW Bb).1
 have hc:l.pre.holds [] { args:=args }=true:=(pre_splitW Bb).2
 obtain⟨d,r,rfl,h1,h2⟩:=hasAllW_cons xq
 obtain rfl:=hasAllW_nil h2
 obtain⟨xs,rfl,h3⟩:=hasW_list h1
 obtain⟨ns,rfl⟩:=items_int h3
 have hlen:ns.length<=n:=by
  unfold OpenLaw.pre at hc
  have h4:(WTm.not (.lt (.lit (.int (n:Int))) (.len (.arg 0)))).holds [] { args:=[.list (ns.map .int)] }=true:=by
   have h4:=(holds_andW hc).1
   rw[hn]at h4
   exact h4
  have h5:=condW_of h4 (w_not (w_lt w_lit (w_len_list (w_arg rfl))))
  rw[bt]at h5
  refine Nat.le_of_not_lt λq=>?_
  have q':(n:Int)<((ns.length:Nat):Int):=by omega
  first
   | (rw[decide_eq_true q']at h5;exact absurd h5 (by decide))
   | (simp at h5;omega)
 cases EU with
 | cons w1 w2 =>
  cases w2
  cases w1 with
  | list ho Z7=>exact⟨_,_,ns,rfl,rfl,ho,Z5 ns _ Z7,hlen⟩
theorem Z8(l:OpenLaw)(args:List WData):l.row.toRowW.claim.post args (.bool true) args=true :=
 postW_of (r:=l.row.toRowW) (X:=(true==true))
  (show WShape.has [] (.bool true) .bool=true by first | rfl | decide | simp[WShape.has,WShape.arms,WShape.armsAll])
  (show(WTm.eq .res (.lit (.bool true))).value [] { args:=args,res:=some (.bool true),after:=args }=some (.bool (true==true)) from w_eq_bool (w_res rfl) w_lit) rfl
theorem Z9{l:OpenLaw}{n:Nat}{q:Program}{loose:List Str}{XP:(Str->Option Value)->Heap->Prop}{YP:World->Heap->Prop}{d:DefRec}
  (hn:l.most=some n) (xt:d.params.defaults=[])
  (call:∀(w:World) (cM bC:Shared) (mg mb:Str->Option Value) (fa:Addr) (o:Obj) (pm cd doc:Value) (a:Addr) (vs:List Value) (ns:List Int),
   Ground q loose [] XP w cM mg mb bC.heap->YP w bC.heap ->
   bC.heap.get? fa=some o->o.data=.func (docDef d.name d.params d.body d.scope pm cd doc)->bC.heap.CodeRec cd d.name->mg d.name=some (.ref fa) ->
   bC.heap.get? a=some { cls:=.type "list",data:=.seq vs.toArray }->IntsAre vs ns->ns.length<=n->bC.gens=#[] ->
   codeAny (model l.prog w) callerA (.call (.ref fa) ⟨[.ref a],[]⟩) (λr s'=>r=.ok (.ret (.bool true))/\OldK bC.heap s'.heap/\s'.os=bC.os/\AllBare s'.gens) bC) :
  WalkO q loose XP YP l.row.toRowW d [] (λf vs=>PySem.call f vs):=by
 intro w cM bC mg mb G Y fa o pm cd doc dV kV ho hd cF hD xu hg args vals as Bb ee0 hrd EU eY
 obtain rfl:dV=.none:=Dflts.none hD xt
 obtain rfl:kV=.none:=Dflts.noKw hD
 obtain⟨a,vs,ns,rfl,rfl,EV,hints,hlen⟩:=Z6 hn Bb EU
 refine enter_call (codeAny_mono (call w cM bC mg mb fa o pm cd doc a vs ns G Y ho (fd_plain hd) cF xu EV hints hlen hg) λr s' hq=>?_)
 obtain⟨rfl,h2,h3,h4⟩:=hq
 exact⟨.inl ⟨.bool true,.bool true,[],rfl,λ_=>rfl,.bool true,Z8 l _,λ_=>⟨NC,λ_ hm=>(nomatch hm)⟩⟩,h2,h3,h4⟩
section
variable{prog:Program}{w:World}{A:Around}{E:Value->Shared->Prop}{s:Shared}{K:Frag}
end
end Att
namespace L2
open PySem PySem.Spec PyProof.Rows
theorem O4:∀{vs:List Value} {ns:List Int},IntsAre vs ns->Vals (ns.map V.int) vs
 | _,_,.nil=>.nil
 | _,_,.cons n t h=>.cons ⟨t,rfl⟩ (O4 h)
end L2
namespace L2
open PySem PySem.Spec PyProof.Rows
end L2
/- THE ee3 ee4 (shape;LID,My.* are ee6):
   My.eR: a structure of O5 addresses ee7 ee8 ee9 names (classes,ef0);My.Txt K t: a structure (Prop) of O5 equations over K;
   My.ef1:{K} {implicit addresses ..} (e1:nsIn K mainGlobals "law"=some (some (.ref f))) (e2:K.lookup f=some ⟨oc,od,.func (fnOf "law" "law" params body scope dV kV doc pm an aC ct),sl⟩) (e3:codeIn K aC "law"=true) ..:∃t,My.Txt K t
(O5 tactic k_is has no namespace: write k_is) -/
namespace L2
open PySem PySem.Spec PyProof.Rows
def eo(s:Stmt)(j:Nat):Stmt:=match s with
 | .ClassDef _ _ _ body _ _ _ _ _ _ _=>body.getD j (.Pass ⟨0,0,0,0⟩)
 | _=>.Pass ⟨0,0,0,0⟩
def iJ(s:Stmt):Arguments:=match s with
 | .FunctionDef _ a _ _ _ _ _ _ _ _=>a
 | _=>{ posonlyargs:=[],args:=[],vararg:=none,kwonlyargs:=[],kw_defaults:=[],kwarg:=none,defaults:=[] }
def fH(s:Stmt):List Stmt:=match s with
 | .FunctionDef _ _ b _ _ _ _ _ _ _=>b
 | _=>[]
def aJ(s:Stmt):Scope:=match s with
 | .FunctionDef _ _ _ _ _ _ sc _ _ _=>sc
 | _=>{ kind:=.function,names:=[],isGenerator:=false,isCoroutine:=false }
abbrev aQ:eQ:=λ_ _ _ _ _ _=>False
abbrev E0:XK:=λ_ _ _=>False
theorem aU{X:Cx}:j8 aQ X E0:=λ_ _ _ _ _ _ _ h=>h.elim
structure ay(K:PySem.W.Frag)(x qual:Str)(st:Stmt)(f:Addr)(fd:FuncData):Prop where
 ex:∃(oc:Value) (od:Option Addr) (kV doc pm:Value) (an:Option Addr) (aC ct:Value) (ie:Array (Option Value)),
  fd=PySem.W.fnOf x qual (iJ st) (fH st) (aJ st) .none kV doc pm an aC ct/\K.lookup f=some ⟨oc,od,.func fd,ie⟩/\PySem.W.codeIn K aC qual=true
 kp:PySem.W.keepIn K (.ref f)=true
section
variable{P:Program}{w:World}{K:PySem.W.Frag}{mg:Str->Option Value}{base:Heap}
theorem ay.ok{x qual:Str}{st:Stmt}{f:Addr}{fd:FuncData}{N ps:List Str}{k:Nat}{sp:Sp}(F:ay K x qual st f fd)(S:bc N ps (aJ st))(len:∀vs H Q E,sp vs H Q E->vs.length=ps.length)
  (gX:∀(aC:Value) (A:Around) (outer:List Env) (s:Shared) (H:Hp) (vs:List V) (Q:VK) (E:XK),bY k (A.deeper (envOfC qual (aJ st) s.heap.objs.size f aC))->sp vs H Q E ->
   ∃t,PSs (iH aQ P w K mg base N qual (aJ st) f aC A outer s H E).gn (fH st) t/\t { nx:=λ_ H'=>Q .av H',rt:=Q } (start N vs) H):aM P w K mg base aQ (k+1) f fd ps sp:=by
 obtain⟨oc,od,kV,doc,pm,an,aC,ct,ie,rfl,lk,cF⟩:=F.ex
 refine AX lk cF S len λA outer s H vs Q E hr ig=>?_
 obtain⟨t,h,q⟩:=gX aC A outer s H vs Q E hr ig
 exact⟨t,h.gn,q⟩
theorem ay.binds{x qual:Str}{st:Stmt}{f:Addr}{fd:FuncData}{ps:List Str}(F:ay K x qual st f fd)
  (h:∀(kV doc pm:Value) (an:Option Addr) (aC ct:Value) (us:List Value),us.length=ps.length->bindArgs (PySem.W.fnOf x qual (iJ st) (fH st) (aJ st) .none kV doc pm an aC ct) ⟨us,[]⟩=pure (ps.zip us)):Binds K fd ps []:=by
 obtain⟨oc,od,kV,doc,pm,an,aC,ct,ie,rfl,lk,cF⟩:=F.ex
 exact .all (h kV doc pm an aC ct)
theorem Bc{x qual:Str}{st:Stmt}{f:Addr}{oc:Value}{od an:Option Addr}{ie:Array (Option Value)}{kV doc pm aC ct:Value}(l:K.lookup f=some ⟨oc,od,.func (PySem.W.fnOf x qual (iJ st) (fH st) (aJ st) .none kV doc pm an aC ct),ie⟩)
  (c:PySem.W.codeIn K aC qual=true) (k:PySem.W.keepIn K (.ref f)=true):ay K x qual st f (PySem.W.fnOf x qual (iJ st) (fH st) (aJ st) .none kV doc pm an aC ct):=⟨⟨oc,od,kV,doc,pm,an,aC,ct,ie,rfl,l,c⟩,k⟩
end
section
variable{X:Cx}
theorem pv(i:Nat){x:Str}{pos:Pos}(hN:X.N[i]?=some x:=by rfl)(hv:lQ X.env.scope x:=by first | exact ai rfl | exact aV (ai rfl) | exact aV (aV rfl))(hd:(x==("__debug__":Str))=false:=by decide)
  (cF:(x==("__classdict__":Str))=false:=by decide):PE X (.Name x pos) (Og i):=qi hN hv hd cF
end
theorem jf{A B:Prop}(h:B):if false=true then A else B:=by
 rw[if_neg iY]
 exact h
theorem qB{A B:Prop}(h:A):if true=true then A else B:=by
 rw[if_pos rfl]
 exact h
end L2
namespace Mf
def bl(n:Nat):Nat:=if n=0 then 0 else n.log2+1
theorem eZ{n m:Nat}:bl n<=m↔n<2 ^ m:=by
 unfold bl
 by_cases h:n=0
 ·simp[h,wD]
 ·rw[if_neg h]
  rw[<-Nat.log2_lt h]
  omega
theorem EW{n m:Nat}:m<bl n↔2 ^ m<=n:=by
 have:=@eZ n m
 omega
theorem jg(n:Nat):n<2 ^ bl n:=eZ.mp (bG _)
theorem O6{n:Nat}(h:n≠0):2 ^ (bl n-1)<=n:=by
 have:0<bl n:=by unfold bl;rw[if_neg h];omega
 exact EW.mp (by omega)
theorem ik{n:Nat}(h:n≠0):0<bl n:=by
 unfold bl;rw[if_neg h];omega
theorem nj:bl 0=0:=rfl
theorem tY{n:Nat}(h:n≠0):n.testBit (bl n-1)=true:=by
 have h1:=O6 h
 have h2:=jg n
 have hp:=ik h
 have e:bl n=(bl n-1)+1:=by omega
 rw[e,mP]at h2
 rw[W2]
 have:n/2 ^ (bl n-1)=1:=by
  apply Nat.div_eq_of_lt_le
  ·omega
  ·omega
 rw[this];rfl
theorem γ{x n:Nat}(h:∀i,n<=i->x.testBit i=false):x<2 ^ n:=by
 apply Nat.lt_pow_two_of_testBit
 intro i hi
 exact h i hi
theorem O7{x y n:Nat}(hx:x<2 ^ (n+1))(hy:y<2 ^ (n+1))(tx:x.testBit n=true)(ty:y.testBit n=true):x ^^^ y<2 ^ n:=by
 apply γ
 intro i hi
 rw[mQ]
 by_cases e:i=n
 ·rw[e,tx,ty];rfl
 ·have gH:n+1<=i:=by omega
  have p:2 ^ (n+1)<=2 ^ i:=wF (by decide) gH
  rw[DV (dm hx p),DV (dm hy p)]
  rfl
theorem O8(x y z:Nat):(x ^^^ y) ^^^ (z ^^^ y)=x ^^^ z:=by
 apply Af;intro i;simp only[mQ]
 cases x.testBit i<;>cases y.testBit i<;>cases z.testBit i<;>rfl
theorem O9(x y z t:Nat):(x ^^^ y) ^^^ (z ^^^ t)=(x ^^^ z) ^^^ (y ^^^ t):=by
 apply Af;intro i;simp only[mQ]
 cases x.testBit i<;>cases y.testBit i<;>cases z.testBit i<;>cases t.testBit i<;>rfl
def P(a b:Nat):Nat->Nat
 | 0=>0
 | k+1=>P a b k ^^^ (if b.testBit k then a <<< k else 0)
def cl(a b:Nat):Nat:=P a b (bl b)
theorem Pa{a b k:Nat}(h:b<2 ^ k):∀j,P a b (k+j)=P a b k
 | 0=>rfl
 | j+1=>by
  show P a b (k+j) ^^^ (if b.testBit (k+j)then a <<< (k+j)else 0)=_
  rw[Pa h j]
  have p:2 ^ k<=2 ^ (k+j):=wF (by decide) (by omega)
  rw[DV (dm h p)]
  simp
theorem tZ{a b k:Nat}(h:b<2 ^ k):P a b k=cl a b:=by
 have h1:=eZ.mpr h
 have e:k=bl b+(k-bl b):=by omega
 rw[e,Pa (jg b)]
 rfl
theorem Pb(a a' b:Nat):∀k,P (a ^^^ a') b k=P a b k ^^^ P a' b k
 | 0=>(lJ 0).symm
 | k+1=>by
  show P (a ^^^ a') b k ^^^ _=(P a b k ^^^ _) ^^^ (P a' b k ^^^ _)
  rw[Pb a a' b k]
  by_cases t:b.testBit k=true
  ·rw[if_pos t,if_pos t,if_pos t,W3]
   ac_rfl
  ·rw[if_neg t,if_neg t,if_neg t]
   simp
theorem Pc(a b b':Nat):∀k,P a (b ^^^ b') k=P a b k ^^^ P a b' k
 | 0=>(lJ 0).symm
 | k+1=>by
  show P a (b ^^^ b') k ^^^ _=(P a b k ^^^ _) ^^^ (P a b' k ^^^ _)
  rw[Pc a b b' k,mQ]
  cases b.testBit k<;>cases b'.testBit k<;>simp
  ·ac_rfl
  ·ac_rfl
  ·exact(O8 _ _ _).symm
theorem oE(a a' b:Nat):cl (a ^^^ a') b=cl a b ^^^ cl a' b:=Pb a a' b _
theorem by4{x y n:Nat}(hx:x<2 ^ n)(hy:y<2 ^ n):x ^^^ y<2 ^ n:=Nat.xor_lt_two_pow hx hy
theorem ε(a b b':Nat):cl a (b ^^^ b')=cl a b ^^^ cl a b':=by
 let k:=bl b+bl b'
 have h1:b<2 ^ k:=eZ.mp (by omega)
 have h2:b'<2 ^ k:=eZ.mp (by omega)
 rw[<-tZ (by4 h1 h2),<- tZ h1,<- tZ h2,Pc]
theorem ζ(a:Nat):cl a 0=0:=rfl
theorem Pd(b:Nat):∀k,P 0 b k=0
 | 0=>rfl
 | k+1=>by
  show P 0 b k ^^^ _=0
  rw[Pd b k];simp
theorem oF(b:Nat):cl 0 b=0:=Pd b _
theorem η(b k:Nat):(b/2).testBit k=b.testBit (k+1):=by
 rw[DW]
theorem Pe(a b:Nat):∀k,P a b (k+1)=(if b%2=1 then a else 0) ^^^ P (2*a) (b/2) k
 | 0=>by
  show 0 ^^^ _=_ ^^^ 0
  rw[oj,lJ,Ag]
  simp
 | k+1=>by
  show P a b (k+1) ^^^ _=_ ^^^ (P (2*a) (b/2) k ^^^ _)
  rw[Pe a b k,η,pY]
  have e:a <<< (k+1)=(2*a) <<< k:=by
   rw[kA,kA,mP]
   rw[mO 2 a,tF,mO 2]
  rw[e]
theorem Pf{b k:Nat}(h:b<2 ^ (k+1)):b/2<2 ^ k:=by
 rw[mP]at h;omega
theorem Pg(a b:Nat):cl a b=(if b%2=1 then a else 0) ^^^ cl (2*a) (b/2):=by
 have h:b<2 ^ (bl b+1):=Nat.lt_trans (jg b) (by rw[mP];have:=wD (bl b);omega)
 rw[<-tZ h,Pe,tZ (Pf h)]
theorem Ph(a b:Nat):∀k,P (2*a) b k=2*P a b k
 | 0=>rfl
 | k+1=>by
  show P (2*a) b k ^^^ _=2*(P a b k ^^^ _)
  rw[Ph a b k]
  have d:∀x y:Nat,2*(x ^^^ y)=2*x ^^^ 2*y:=by
   intro x y
   have h:=@W3 1 x y
   rw[kA,kA,kA,Nat.pow_one]at h
   rw[mO 2 (x ^^^ y),mO 2 x,mO 2 y]
   exact h
  rw[d]
  by_cases t:b.testBit k=true
  ·rw[if_pos t,if_pos t,kA,kA,tF]
  ·rw[if_neg t,if_neg t]
theorem EX(a b:Nat):cl (2*a) b=2*cl a b:=Ph a b _
theorem xv(a c t:Nat)(ht:t<2):cl a (2*c+t)=2*cl a c ^^^ (if t=1 then a else 0):=by
 rw[Pg,EX,ND]
 have e1:(2*c+t)/2=c:=by omega
 have e2:(2*c+t)%2=t:=by omega
 rw[e1,e2]
theorem θ(a c:Nat):cl a (2*c)=2*cl a c:=by
 have h:=xv a c 0 (by decide)
 simpa using h
theorem Pj(c t:Nat)(ht:t<2):2*c ^^^ t=2*c+t:=by
 apply Af
 intro i
 cases i with
 | zero =>
  rw[mQ,Ag,Ag,Ag]
  have:t=0\/t=1:=by omega
  rcases this with h | h<;>subst h<;>simp<;>omega
 | succ i =>
  rw[mQ,DW,DW,DW]
  have e1:2*c/2=c:=by omega
  have e2:t/2=0:=by omega
  have e3:(2*c+t)/2=c:=by omega
  rw[e1,e2,e3];simp
theorem EY:∀b:Nat,cl 1 b=b:=by
 intro b
 induction b using DX with
 | ind b ih =>
  by_cases h:b=0
  ·subst h;rfl
  ·have e:b=2*(b/2)+b%2:=by omega
   rw[e,xv 1 (b/2) (b%2) (by omega),ih (b/2) (by omega)]
   have:b%2=0\/b%2=1:=by omega
   rcases this with h | h
   ·rw[h];simp
   ·rw[h];rw[if_pos rfl];exact Pj _ _ (by decide)
theorem xw:∀b a:Nat,cl a b=cl b a:=by
 intro b
 induction b using DX with
 | ind b ih =>
  intro a
  by_cases h:b=0
  ·subst h;rw[oF];rfl
  ·have e:b=2*(b/2)+b%2:=by omega
   have lt:b%2<2:=by omega
   have e':cl b a=cl (2*(b/2) ^^^ b%2) a:=by rw[Pj _ _ lt,<- e]
   rw[e',oE,EX,<- ih (b/2) (by omega) a]
   have ι:cl a b=cl a (2*(b/2)+b%2):=by rw[<-e]
   rw[ι,xv _ _ _ lt]
   have:b%2=0\/b%2=1:=by omega
   rcases this with h | h
   ·rw[h,oF];rfl
   ·rw[h,EY];rfl
theorem EZ{a m:Nat}(h:a<2 ^ m)(b:Nat):∀k,P a b (k+1)<2 ^ (m+k)
 | 0=>by
  show 0 ^^^ _<_
  rw[oj,Nat.add_zero]
  by_cases t:b.testBit 0=true
  ·rw[if_pos t];simpa using h
  ·rw[if_neg t];exact wD m
 | k+1=>by
  show P a b (k+1) ^^^ _<_
  have i:=EZ h b k
  have p:2 ^ (m+k)<=2 ^ (m+(k+1)):=wF (by decide) (by omega)
  apply by4 (dm i p)
  by_cases t:b.testBit (k+1)=true
  ·rw[if_pos t,kA,Nat.pow_add 2 m]
   exact(W4 (wD _)).mpr h
  ·rw[if_neg t];exact wD _
theorem μ{a b m n:Nat}(h:a<2 ^ m)(h':b<2 ^ (n+1)):cl a b<2 ^ (m+n):=by
 rw[<-tZ h'];exact EZ h b n
theorem ν{a b:Nat}(ha:a≠0)(hb:b≠0):2 ^ (bl a-1+(bl b-1))<=cl a b:=by
 have e:bl b=(bl b-1)+1:=by have:=ik hb;omega
 have ta:=tY ha
 have tb:=tY hb
 apply Nat.ge_two_pow_of_testBit
 unfold cl
 rw[e]
 show(P a b (bl b-1) ^^^ _).testBit _=true
 have e2:bl b-1+1-1=bl b-1:=by omega
 rw[e2,mQ,if_pos tb]
 have f:(P a b (bl b-1)).testBit (bl a-1+(bl b-1))=false:=by
  cases q:bl b-1 with
  | zero=>show Nat.testBit 0 _=false;exact Nat.zero_testBit _
  | succ k =>
   apply DV
   have l:=EZ (jg a) b k
   have p:=ik ha
   have e3:bl a-1+(k+1)=bl a+k:=by omega
   rw[e3];exact l
 rw[f,W5]
 have e4:bl a-1+(bl b-1)-(bl b-1)=bl a-1:=by omega
 rw[e4,ta]
 simp
theorem Pk{a b:Nat}(ha:a≠0)(hb:b≠0):bl (cl a b)=bl a+bl b-1:=by
 have p1:=ik ha
 have p2:=ik hb
 have h1:bl (cl a b)<=bl a+(bl b-1):=eZ.mpr (μ (jg a) (by
  have e:bl b-1+1=bl b:=by omega
  rw[e];exact jg b))
 have h2:=EW.mpr (ν ha hb)
 omega
theorem Pl(s b:Nat):cl (2 ^ s) b=b <<< s:=by
 induction s with
 | zero=>rw[Nat.pow_zero,EY];rfl
 | succ s ih =>
  rw[mP,mO,EX,ih,kA,kA,mP]
  rw[<-tF,mO 2,tF,mO 2,<- tF,tF]
theorem ξ{a q b r s:Nat}(h:a=cl q b ^^^ r):a=cl (q ^^^ 2 ^ s) b ^^^ (r ^^^ b <<< s):=by
 rw[oE,Pl,h,O8]
theorem Pm{b r:Nat}(hb:b≠0)(h:bl b<=bl r):bl (r ^^^ b <<< (bl r-bl b))<bl r:=by
 have p:=ik hb
 have hr:r≠0:=by
  intro z;rw[z,nj]at h;omega
 have:r ^^^ b <<< (bl r-bl b)<2 ^ (bl r-1):=by
  apply O7
  ·have e:bl r-1+1=bl r:=by omega
   rw[e];exact jg r
  ·have e:bl r-1+1=bl b+(bl r-bl b):=by omega
   rw[e,kA,Nat.pow_add]
   exact(W4 (wD _)).mpr (jg b)
  ·exact tY hr
  ·rw[W5]
   have e:bl r-1-(bl r-bl b)=bl b-1:=by omega
   rw[e,tY hb]
   simp;omega
 have:=eZ.mpr this
 omega
theorem ο{x y z:Nat}(h:x ^^^ y=z):x=z ^^^ y:=by
 rw[<-h,pY,Ah,lJ]
theorem E1{x y:Nat}(h:x ^^^ y=0):x=y:=by
 have:=ο h
 rwa [oj]at this
theorem π{b q r q' r':Nat}(h:cl q b ^^^ r=cl q' b ^^^ r')(hr:bl r<bl b)(bq:bl r'<bl b):q=q'/\r=r':=by
 have hb:b≠0:=by intro z;rw[z,nj]at hr;omega
 have e:cl (q ^^^ q') b=r ^^^ r':=by
  rw[oE]
  have z:(cl q b ^^^ r) ^^^ (cl q' b ^^^ r')=0:=by rw[h,Ah]
  rw[O9]at z
  exact E1 z
 have lt:bl (r ^^^ r')<bl b:=by
  have h1:r<2 ^ (bl b-1):=eZ.mp (by omega)
  have h2:r'<2 ^ (bl b-1):=eZ.mp (by omega)
  have:=eZ.mpr (by4 h1 h2)
  have:=ik hb
  omega
 have z:q ^^^ q'=0:=by
  apply DY
  intro hq
  have h1:=Pk hq hb
  have h2:=ik hq
  rw[e]at h1
  omega
 have zq:=E1 z
 subst zq
 rw[z,oF]at e
 exact⟨rfl,E1 e.symm⟩
end Mf
namespace Mf
open PySem PySem.Builtin.Int
theorem ρ(x y:Nat):(x ^^^ y)+2*(x &&& y)=x+y:=by
 induction x using DX generalizing y with
 | ind x ih =>
  by_cases h:x=0
  ·subst h;simp
  ·have h1:=ih (x/2) (by omega) (y/2)
   have e1:(x ^^^ y)/2=x/2 ^^^ y/2:=Nat.xor_div_two
   have e2:(x &&& y)/2=x/2 &&& y/2:=Nat.and_div_two
   have t:∀n:Nat,n%2=if n.testBit 0=true then 1 else 0:=by
    intro n
    rw[Ag]
    by_cases h:n%2=1
    ·simp[h]
    ·simp[h];omega
   have m1:(x ^^^ y)%2=(x%2+y%2)%2:=by
    rw[t (x ^^^ y),t x,t y,mQ]
    cases x.testBit 0<;>cases y.testBit 0<;>rfl
   have m2:(x &&& y)%2=x%2*(y%2):=by
    rw[t (x &&& y),t x,t y,NF]
    cases x.testBit 0<;>cases y.testBit 0<;>rfl
   have d1:=Nat.div_add_mod (x ^^^ y) 2
   have d2:=Nat.div_add_mod (x &&& y) 2
   rw[e1]at d1
   rw[e2]at d2
   have hx:x%2=0\/x%2=1:=by omega
   have hy:y%2=0\/y%2=1:=by omega
   rcases hx with hx | hx<;>rcases hy with hy | hy<;>rw[hx,hy]at m1 m2<;>omega
theorem Pn{x y:Int}(hx:0<=x)(hy:0<=y):oh x y=((x.toNat &&& y.toNat:Nat):Int):=by
 unfold oh
 rw[decide_eq_true hx,decide_eq_true hy]
theorem τ{x y:Int}(hx:0<=x)(hy:0<=y):Builtin.bitOr x y=((x.toNat ||| y.toNat:Nat):Int):=by
 unfold Builtin.bitOr oh Builtin.bitNot
 rw[decide_eq_false (by omega),decide_eq_false (by omega)]
 show-(-((((- (-x-1)-1).toNat ||| (-(-y-1)-1).toNat:Nat):Int))-1)-1=_
 have e1:(- (-x-1)-1).toNat=x.toNat:=by omega
 have e2:(- (-y-1)-1).toNat=y.toNat:=by omega
 rw[e1,e2]
 omega
theorem υ(x y:Nat):(x ||| y)=(x ^^^ y)+(x &&& y):=by
 have d:(x ^^^ y) &&& (x &&& y)=0:=by
  apply Af;intro i
  simp only[mQ,NF,Nat.zero_testBit]
  cases x.testBit i<;>cases y.testBit i<;>rfl
 have e:(x ||| y)=(x ^^^ y) ^^^ (x &&& y):=by
  apply Af;intro i
  simp only[mQ,NF,Nat.testBit_or]
  cases x.testBit i<;>cases y.testBit i<;>rfl
 have h:=ρ (x ^^^ y) (x &&& y)
 rw[d]at h
 rw[e];omega
theorem χ{x y:Int}(hx:0<=x)(hy:0<=y):oi x y=((x.toNat ^^^ y.toNat:Nat):Int):=by
 unfold oi
 rw[τ hx hy,Pn hx hy,υ]
 omega
theorem nk(x y:Nat):oi (x:Int) (y:Int)=((x ^^^ y:Nat):Int):=by
 rw[χ (by omega) (by omega)];rfl
theorem Po(x y:Nat):oh (x:Int) (y:Int)=((x &&& y:Nat):Int):=by
 rw[Pn (by omega) (by omega)];rfl
theorem t7(x k:Nat):(x:Int)*2 ^ ((k:Int)).toNat=((x <<< k:Nat):Int):=by
 rw[kA]
 simp
theorem ω(x k:Nat):(x:Int)/2 ^ ((k:Int)).toNat=((x >>> k:Nat):Int):=by
 rw[W6]
 simp
theorem Γ(x k:Nat):((x >>> k) &&& 1=1)↔x.testBit k=true:=by
 rw[W2,W6]
 have:(x/2 ^ k) &&& 1=(x/2 ^ k)%2:=Nat.and_two_pow_sub_one_eq_mod _ 1
 rw[this]
 simp
end Mf
namespace Mf
end Mf
namespace Mf
theorem Pp(a b:Nat):∀c,cl (cl a b) c=cl a (cl b c):=by
 intro c
 induction c using DX with
 | ind c ih =>
  by_cases h:c=0
  ·subst h;rfl
  ·have e:c=2*(c/2)+c%2:=by omega
   have lt:c%2<2:=by omega
   have i:=ih (c/2) (by omega)
   rw[e,xv _ _ _ lt,xv _ _ _ lt,i,ε,θ]
   have:c%2=0\/c%2=1:=by omega
   rcases this with h | h
   ·rw[h];rfl
   ·rw[h];rfl
def t9:Nat->Nat->Nat->Nat
 | 0,a,_=>a
 | n+1,a,b=>if bl a<bl b then a else t9 n (a ^^^ b <<< (bl a-bl b)) b
def md(a b:Nat):Nat:=t9 (bl a+1) a b
theorem Pq{b:Nat}(hb:b≠0):∀n a,bl a<n->(∃q,a=cl q b ^^^ t9 n a b)/\bl (t9 n a b)<bl b
 | 0,_,h=>absurd h (by omega)
 | n+1,a,h=>by
  unfold t9
  by_cases l:bl a<bl b
  ·rw[if_pos l]
   exact⟨⟨0,by rw[oF,oj]⟩,l⟩
  ·rw[if_neg l]
   have less:=Pm hb (show bl b<=bl a by omega)
   obtain⟨⟨q,e⟩,l2⟩:=Pq hb n (a ^^^ b <<< (bl a-bl b)) (by omega)
   refine⟨⟨q ^^^ 2 ^ (bl a-bl b),?_⟩,l2⟩
   rw[oE,Pl]
   have e2:a=(a ^^^ b <<< (bl a-bl b)) ^^^ b <<< (bl a-bl b):=by rw[pY,Ah,lJ]
   rw[e]at e2
   refine e2.trans ?_
   generalize t9 n _ b=r
   rw[pY,ND r,<- pY]
theorem xx{b:Nat}(hb:b≠0)(a:Nat):(∃q,a=cl q b ^^^ md a b)/\bl (md a b)<bl b:=Pq hb _ a (by omega)
theorem xy{a b q r:Nat}(h:a=cl q b ^^^ r)(hr:bl r<bl b):md a b=r:=by
 have hb:b≠0:=by intro z;rw[z,nj]at hr;omega
 obtain⟨⟨q',e⟩,l⟩:=xx hb a
 exact(π (e.symm.trans h) l hr).2
theorem Δ(q:Nat){b:Nat}(hb:b≠0):md (cl q b) b=0 :=
 xy (q:=q) (by rw[lJ]) (by rw[nj];exact ik hb)
end Mf
namespace Mf
theorem Θ(y:Nat):bl (y/2)=bl y-1:=by
 by_cases h:y=0
 ·subst h;rfl
 ·have p:=ik h
  have h1:bl (y/2)<=bl y-1:=eZ.mpr (Pf (by
   have e:bl y-1+1=bl y:=by omega
   rw[e];exact jg y))
  have h2:bl y<=bl (y/2)+1:=eZ.mpr (by
   have:=jg (y/2)
   rw[mP];omega)
  omega
theorem Λ(x:Nat):bl (2*x)<=bl x+1:=eZ.mpr (by
 have:=jg x
 rw[mP];omega)
theorem E2{x y:Nat}(h:x<=y):bl x<=bl y:=eZ.mpr (mR h (jg y))
end Mf
namespace Mf
def al(a:Nat):Bool:=decide (2<=a)&&(aL (2 ^ ((bl a-1)/2+1)-2)).all λi=>md a (2+i) != 0
theorem Ξ{a:Nat}(h:a<2):al a=false:=by
 unfold al;rw[decide_eq_false (by omega)];rfl
theorem Φ{a:Nat}(h:2<=a)(k:∀i,i<2 ^ ((bl a-1)/2+1)-2->md a (2+i)≠0):al a=true:=by
 unfold al
 rw[decide_eq_true h,lK,dr]
 intro i hi
 have:=k i (cX.mp hi)
 simpa using this
theorem Ψ{a i:Nat}(k:i<2 ^ ((bl a-1)/2+1)-2)(z:md a (2+i)=0):al a=false:=by
 unfold al
 rw[Bool.and_eq_false_iff]
 right
 rw[List.all_eq_false]
 exact⟨i,cX.mpr k,by simp[z]⟩
theorem Ω{a:Nat}(h:2<=a){b:Nat}(hb:b<2 ^ ((bl a-1)/2+1)):b<a/\2*bl b<=bl a+1:=by
 have h2:2<=bl a:=by
  have:=EW.mpr (show 2 ^ 1<=a by omega)
  omega
 have l:=eZ.mpr hb
 refine⟨dm hb (fk (wF (by decide) ?_) (O6 (by omega))),by omega⟩
 omega
end Mf
namespace L2
open PySem PySem.Spec PyProof.Rows Mf
theorem fV:bootBuiltins "len"=some (.builtin "len"):=by decide +kernel
theorem Pr:bootBuiltins "isinstance"=some (.builtin "isinstance"):=by decide +kernel
theorem qC:bootBuiltins "min"=some (.builtin "min"):=by decide +kernel
theorem ua:bootBuiltins "all"=some (.builtin "all"):=by decide +kernel
theorem Pt:bootBuiltins "any"=some (.builtin "any"):=by decide +kernel
theorem cz9:bootBuiltins "sum"=some (.builtin "sum"):=by decide +kernel
theorem Pu:bootBuiltins "int"=some (.type "int"):=by decide +kernel
theorem Pw:bootBuiltins "bool"=some (.type "bool"):=by decide +kernel
theorem lZ:bootBuiltins "list"=some (.type "list"):=by decide +kernel
section
variable{X:Cx}{a b o:Expr}{ta tb to:TE}{pos apos cm:Pos}
theorem Px(i:Int):Builtin.Int.intBits i=bl i.natAbs:=by
 unfold Builtin.Int.intBits bl
 by_cases h:i=0
 ·subst h;rfl
 ·have h':¬ i.natAbs=0:=by omega
  rw[if_neg h',if_neg (by simpa using h)]
def Py:V->List V->Hp->VK->Prop:=λx vs H Q=>∃i,x=.int i/\vs=[]/\Q (.int (bl i.natAbs:Nat)) H
theorem b58:AZ X "int.bit_length" Py:=by
 intro pins s σ H x xs v us Q I rx rs h
 obtain⟨i,rfl,rfl,q⟩:=h
 obtain⟨t,rfl⟩:=rx
 cases rs
 refine call_int_bit_length ?_
 rw[Px]
 exact⟨.int _,H,I.tok _,⟨_,rfl⟩,q⟩
theorem E3(ho:PE X o to)(nh:attributeBase o "bit_length" X.env (eval o X.env)=eval o X.env:=by rfl)(ni:(apos.endLine==cm.line)=true:=by rfl) :
  PE X (.Call (.Attribute o "bit_length" apos) [] [] cm) (OY X.K "int" Py to) :=
 ZR PySem.F.plainAttrs_int PySem.F.slot_int_bit_length PySem.F.type_int_bit_length b58 ho nh ni
def Pz(i j:Int):Prop:=0<=j/\((bl i.natAbs:Nat):Int)+j<=134217728
theorem PB:cN X (binaryOp .LShift) (rI Pz λi j=>.int (i*2 ^ j.toNat)):=xn λi j _ _ _ _ _ hc q =>
 lshift_int hc.1 (by rw[Px];exact Int.le_trans hc.2 (by decide)) q
theorem cH8{x:Str}{n:String}(hg:Gl X x)(hm:X.mg x=none)(hv:bootBuiltins x=some (.type n))(hn:x≠"__name__":=by decide)(hd:(x==("__debug__":Str))=false:=by decide):PE X (.Name x pos) (tC (.ty n)) :=
 XO hg hm hv rfl hn hd
def cO6(K:PySem.W.Frag):List V->Hp->VK->Prop:=λxs H Q=>∃x n t b,xs=[x,.ty n]/\ib K H x t/\PySem.W.kitOne K t (.type n)=some b/\Q (.bl b) H
theorem bs9:gq X (.builtin "isinstance") (cO6 X.K):=by
 intro pins s σ H xs us Q I r h
 obtain⟨x,n,t,b,rfl,ty,e,q⟩:=h
 obtain⟨u,v,rfl,ru,rv⟩:=r.two
 cases(show v=Value.type n from rv)
 exact OD I ru ty e λtk=>⟨.bl b,H,I.tok _,rfl,q⟩
end
theorem ck6(b i:Nat):decide (V.int (oh ((b:Int)/2 ^ ((0:Int)+(i:Int)).toNat) 1)=V.int 1)=b.testBit i:=by
 have e:((0:Int)+(i:Int)).toNat=((i:Int)).toNat:=by omega
 rw[e,ω,show(1:Int)=((1:Nat):Int) from rfl,Po,tG,decide_eq_true_iff,<- Γ]
 constructor
 ·intro h;injection h with h;omega
 ·intro h;rw[h]
theorem cc4{a b i:Nat}(h:b.testBit i=true):oi ((P a b i:Nat):Int) ((a:Int)*2 ^ ((0:Int)+(i:Int)).toNat)=((P a b (i+1):Nat):Int):=by
 have e:((0:Int)+(i:Int)).toNat=((i:Int)).toNat:=by omega
 rw[e,t7,nk]
 show _=((P a b i ^^^ (if b.testBit i then a <<< i else 0):Nat):Int)
 rw[if_pos h]
theorem bS6{a b i:Nat}(h:¬ b.testBit i=true):P a b (i+1)=P a b i:=by
 show P a b i ^^^ (if b.testBit i then a <<< i else 0)=_
 rw[if_neg h,lJ]
theorem dI{i j:Int}:decide (V.int i=V.int j)=true↔i=j:=by
 rw[decide_eq_true_iff]
 exact⟨λh=>by injection h,λh=>by rw[h]⟩
end L2
namespace L2
open PySem PySem.Spec PyProof.Rows
section
variable{X:Cx}
end
end L2
namespace L2
open PySem PySem.Spec PyProof.Rows
def Bd(X:Cx)(scope:Scope)(N:List Str)(cl:List (Str × Addr))(C:Addr)(s:Shared)(H:Hp)(fp:List Addr):Cx where
 prog:=X.prog
 w:=X.w
 K:=X.K
 mg:=X.mg
 base:=X.base
 A:=X.A
 N:=N
 cM:=s
 j3:=H
 env:=compEnvC scope cl C X.env
 outer:=X.stack
 stack:=X.stack
 ex:=fp
 fn:=λ_=>false
 calm:=X.calm
 pn:=[]
 xe:=λ_ _=>False
def l6(X:Cx)(scope:Scope)(cl:List (Str × Addr)):List (Str × Nat)->Prop
 | []=>True
 | (y,i)::r=>(X.N[i]?=some y/\(X.env.scope.names.lookup y=some .cell\/X.env.scope.names.lookup y=some .free)/\((relabel scope X.env).names.lookup y=some .cell\/(relabel scope X.env).names.lookup y=some .free)/\∃c,cl.lookup y=some c/\X.env.cells.lookup y=some c)/\l6 X scope cl r
theorem l6.at{X:Cx}{scope:Scope}{cl:List (Str × Addr)}:∀{aD:List (Str × Nat)},l6 X scope cl aD->∀p∈aD,X.N[p.2]?=some p.1/\(X.env.scope.names.lookup p.1=some .cell\/X.env.scope.names.lookup p.1=some .free)/\((relabel scope X.env).names.lookup p.1=some .cell\/(relabel scope X.env).names.lookup p.1=some .free)/\∃c,cl.lookup p.1=some c/\X.env.cells.lookup p.1=some c
 | [],_,p,hp=>absurd hp (by simp)
 | (y,i)::r,h,p,hp=>by
  rcases cu.mp hp with e | e
  ·subst e;exact h.1
  ·exact l6.at h.2 p e
def l7(Y:Cx)(ifs:List Expr)(t:TT):Prop :=
 ∀(pins:List (Addr × Obj)) (s:Shared) (σ:St) (H:Hp) (Q:Bool->Hp->Prop),Inv Y pins σ H s->t σ H Q ->
  wpAny (model Y.prog Y.w) Y.A (forIn ifs true λc r=>if r=true then do let ok<-isTrue c Y.env (eval c Y.env);pure (DZ ok)else pure (DZ r)) (TP Y pins σ Q) Y.xe s
def cO0:TT:=λ_ H Q=>Q true H
theorem cl1{Y:Cx}:l7 Y [] cO0:=λ_ _ _ H _ I h=>wpAny_tests_nil ⟨H,I,h⟩
theorem cp5{Y:Cx}{c:Expr}{t:TT}(h:PT Y c t):l7 Y [c] t:=λpins s σ H Q I q=>wpAny_tests_one (h pins s σ H Q I q)
section
variable{X:Cx}{elt iter:Expr}{x:Str}{px pos:Pos}{ifs:List Expr}{scope:Scope}{cl:List (Str × Addr)}{aD:List (Str × Nat)}{wi:TI}{tt:TT}{te:TE}
end
section
variable{prog:Program}{w:World}{A:Around}{R:Result->Shared->Prop}{s:Shared}
theorem bI7{elt target iter:Expr}{ifs:List Expr}{scope:Scope}{pos:Pos}{it acc:Value}{env:Env}(Iv:Nat->Shared->Prop)
  (turn:∀n s,Iv n s->wpAny (model prog w) A (pyNext it) (λr s1=>match r with
   | none=>R (.ok .next) s1
   | some v=>wpAny (model prog w) A (letOwnedTupleGo target it v) (λ_ t1=>wpAny (model prog w) A (assign target env v) (λ_ s2 =>
     wpAny (model prog w) A (forIn ifs true λc r=>if r=true then do let ok<-isTrue c env (eval c env);pure (DZ ok)else pure (DZ r)) (λok s3 =>
      if ok=true then wpAny (model prog w) A (eval elt env) (λy s4=>wpAny (model prog w) A (call (.builtin "list.append") [acc,y]) (λ_ s5=>∃m,m<n/\Iv m s5) (λ_ _=>False) s4) (λ_ _=>False) s3
      else ∃m,m<n/\Iv m s3) (λ_ _=>False) s2) (λ_ _=>False) t1) (λ_ _=>False) s1) (λ_ _=>False) s)
  (n:Nat) (h:Iv n s):codeAny (model prog w) A (.compLoop (.ListComp elt [⟨target,iter,ifs,0⟩] scope pos) 0 it acc env) R s:=by
 refine codeAny_loop rfl Iv (λn s hI=>?_) n h
 change wpAny _ A (Sem.onRaise (compTurn (.ListComp elt [⟨target,iter,ifs,0⟩] scope pos) 0 it acc env) λx=>do noteFrame x env;theTreesLotGoes x) _ _ s
 refine wpAny_noted (wpAny_mono (E:=λ_ _=>False) ?_ (λ_ _ q=>q) λ_ _ z=>z.elim)
 rw[compTurn_list]
 refine wpAny_bind (wpAny_standAt (wpAny_bind (aR (turn n s hI) λr s1 h1=>?_)))
 cases r with
 | none=>exact wpAny_pure h1
 | some v =>
  refine wpAny_bind (aR h1 λ_ t1 k1=>wpAny_bind (aR k1 λ_ s2 h2=>wpAny_bind (aR h2 λok s3 h3=>?_)))
  cases ok with
  | false=>exact wpAny_pure ⟨rfl,h3⟩
  | true=>exact wpAny_bind (wpAny_bind (aR h3 λy s4 h4=>wpAny_bind (aR h4 λ_ s5 h5=>wpAny_pure (wpAny_pure ⟨rfl,h5⟩))))
end
section
variable{X:Cx}{elt iter:Expr}{x:Str}{px pos:Pos}{ifs:List Expr}{scope:Scope}{cl:List (Str × Addr)}{aD:List (Str × Nat)}{wi:TI}{tt:TT}{te:TE}
end
end L2
namespace L2
open PySem PySem.Spec PyProof.Rows
section
variable{X:Cx}
theorem PC{bs:List Bool}{us:List Value}(r:Vals (bs.map V.bl) us):bs.length=us.length/\∀(i:Nat) (v:Value),us[i]?=some v->∃b,bs[i]?=some b/\v=.bool b:=by
 have l:=r.length
 rw[bt]at l
 refine⟨l,λi v e=>?_⟩
 have hi:i<us.length:=(iX.mp e).1
 have hb:i<bs.length:=by omega
 obtain⟨u,e2,q⟩:=r.get (i:=i) (x:=V.bl bs[i]) (by rw[cj,aP hb];rfl)
 rw[e]at e2
 cases e2
 exact⟨bs[i],aP hb,q⟩
theorem Be{s:Shared}{h':Heap}{o:Obj}(hk:∀b x,b ∉ [s.heap.objs.size]->(s.heap.push o).get? b=some x->h'.get? b=some x)(b:Addr)(x:Obj)(e:s.heap.get? b=some x):h'.get? b=some x :=
 hk b x (λhm=>gF _ (by have:=bP e;rw[eW.mp hm]at this;exact this)) (fF _ e)
theorem ce2(bs:List Bool):((aL bs.length).all λi=>(bs[i]?).getD true)=bs.all id:=by
 rw[tG,dr,dr]
 constructor
 ·intro h b hb
  obtain⟨i,hi,rfl⟩:=kB hb
  have:=h i (cX.mpr hi)
  rwa [aP hi]at this
 ·intro h i hi
  have gH:=cX.mp hi
  rw[aP gH]
  exact h _ (dz gH)
theorem PD(bs:List Bool):((aL bs.length).any λi=>(bs[i]?).getD false)=bs.any id:=by
 rw[tG,NG,NG]
 constructor
 ·rintro⟨i,hi,h⟩
  have gH:=cX.mp hi
  rw[aP gH]at h
  exact⟨_,dz gH,h⟩
 ·rintro⟨b,hb,h⟩
  obtain⟨i,hi,rfl⟩:=kB hb
  exact⟨i,cX.mpr hi,by rw[aP hi];exact h⟩
theorem cb9(hc:X.calm=true):gq X (.builtin "all") (λxs H Q=>∃(p:Addr) (bs:List Bool),xs=[.ref p]/\bK X.K H p (bs.map V.bl)/\Q (.bl (bs.all id)) H):=by
 intro pins s σ H xs us Q I r h
 obtain⟨p,bs,rfl,hS,q⟩:=h
 obtain⟨u,rfl,ru⟩:=r.one
 cases ru
 obtain⟨its,rv,pl,hz⟩:=I.list hS
 obtain⟨hlen,xB⟩:=PC rv
 have hl:=pl.isList
 have fI:p<s.heap.objs.size:=by obtain⟨_,e,_⟩:=hl;exact bP e
 refine call_all_walk (wpAny_pyIter_list hl ?_)
 refine⟨s.heap.objs.size,[s.heap.objs.size,p],[s.heap.objs.size],its.toArray.size,_,_,λi=>(bs[i]?).getD true,rfl,D0 (A:=X.A.in1) (I.ok.hd hc) _ p (fg fI) its.toArray,
  ⟨⟨_,gG _ rfl,rfl,rfl⟩,hl.push _⟩,λi v s' Q' E' hP hQ=>?_,λh' tk hk=>?_⟩
 ·obtain⟨b,e,rfl⟩:=xB i v (by simpa using hP)
  simp only[e,pZ]at hQ
  exact wpAny_truthy_bool hQ
 ·have e:((aL its.toArray.size).all λi=>(bs[i]?).getD true)=bs.all id:=by
   rw[dH,<- hlen];exact ce2 bs
  rw[e]
  exact⟨.bl _,H,I.kept (h':=h') (t':=tk) (Be hk),rfl,q⟩
theorem cd7(hc:X.calm=true):gq X (.builtin "any") (λxs H Q=>∃(p:Addr) (bs:List Bool),xs=[.ref p]/\bK X.K H p (bs.map V.bl)/\Q (.bl (bs.any id)) H):=by
 intro pins s σ H xs us Q I r h
 obtain⟨p,bs,rfl,hS,q⟩:=h
 obtain⟨u,rfl,ru⟩:=r.one
 cases ru
 obtain⟨its,rv,pl,hz⟩:=I.list hS
 obtain⟨hlen,xB⟩:=PC rv
 have hl:=pl.isList
 have fI:p<s.heap.objs.size:=by obtain⟨_,e,_⟩:=hl;exact bP e
 refine call_any_walk (wpAny_pyIter_list hl ?_)
 refine⟨s.heap.objs.size,[s.heap.objs.size,p],[s.heap.objs.size],its.toArray.size,_,_,λi=>(bs[i]?).getD false,rfl,D0 (A:=X.A.in1) (I.ok.hd hc) _ p (fg fI) its.toArray,
  ⟨⟨_,gG _ rfl,rfl,rfl⟩,hl.push _⟩,λi v s' Q' E' hP hQ=>?_,λh' tk hk=>?_⟩
 ·obtain⟨b,e,rfl⟩:=xB i v (by simpa using hP)
  simp only[e,pZ]at hQ
  exact wpAny_truthy_bool hQ
 ·have e:((aL its.toArray.size).any λi=>(bs[i]?).getD false)=bs.any id:=by
   rw[dH,<- hlen];exact PD bs
  rw[e]
  exact⟨.bl _,H,I.kept (h':=h') (t':=tk) (Be hk),rfl,q⟩
end
def l9(X:Cx):List (Str × Addr)->Prop
 | []=>True
 | (y,c)::r=>X.env.cells.lookup y=some c/\l9 X r
theorem l9.all{X:Cx}:∀{cl:List (Str × Addr)},l9 X cl->∀y c,cl.lookup y=some c->X.env.cells.lookup y=some c
 | [],_,y,c,h=>by simp at h
 | (z,d)::r,h,y,c,e=>by
  rw[fU]at e
  cases q:y==z with
  | true =>
   rw[q]at e
   cases e
   rw[eq_of_beq q]
   exact h.1
  | false =>
   rw[q]at e
   exact l9.all h.2 y c e
def mf(cl:List (Str × Addr)):List (Str × NameKind)->Prop
 | []=>True
 | (y,k)::r=>(k=.local\/k=.globalImplicit\/∃c,cl.lookup y=some c)/\mf cl r
theorem mf.all{cl:List (Str × Addr)}:∀{ns:List (Str × NameKind)},mf cl ns->∀y,(ns.lookup y=some .cell\/ns.lookup y=some .free)->∃c,cl.lookup y=some c
 | [],_,y,h=>by simp at h
 | (z,k)::r,h,y,e=>by
  rw[fU]at e
  cases q:y==z with
  | true =>
   rw[q]at e
   rw[eq_of_beq q]
   rcases h.1 with g | g | g
   ·rw[g]at e;rcases e with e | e<;>cases e
   ·rw[g]at e;rcases e with e | e<;>cases e
   ·exact g
  | false =>
   rw[q]at e
   exact mf.all h.2 y e
section
variable{X:Cx}{elt iter:Expr}{x:Str}{px pos:Pos}{ifs:List Expr}{scope:Scope}{cl:List (Str × Addr)}{wi:TI}{tt:TT}{te:TE}
end
end L2
namespace L2
open PySem PySem.Spec PyProof.Rows Mf
end L2
namespace L2
end L2
namespace L2
open PySem PySem.Spec PyProof.Rows
def iq(aD:List (Str × Nat))(n:Nat)(σ:L2.St):St:=(aD.map λp=>(σ[p.2]?).getD none)++bf n none
def PF(J:It)(aD:List (Str × Nat))(n:Nat)(g:TG)(tt:TT)(te:TE)(σ:L2.St)(H1:Hp)(Q:VK):Prop:=∀D,H1 D=none->∃W:Nat->Nat->List V->Hp->Prop,(∃m,W 0 m [] (upd H1 D (.lst []))) /\
 ∀i m acc H2,W i m acc H2->H2 D=some (.lst acc)/\((J.stop i H2/\Q (.ref D) H2)\/(J.go i H2/\∀x H3,J.j7 i H2 x H3->H3 D=some (.lst acc)/\g x (iq aD n σ) H3 λgU H4 =>
  (gU.length=(iq aD n σ).length/\∀j,j<aD.length->gU[j]?=(iq aD n σ)[j]?)/\tt gU H4 λb H5=>H5 D=some (.lst acc) /\
  if b=true then te gU H5 λy H6=>H6 D=some (.lst acc)/\acc.length<sizeLine/\∃m',m'<m/\W (i+1) m' (acc++[y]) (upd H6 D (.lst (acc++[y])))else ∃m',m'<m/\W (i+1) m' acc H5))
def Bf(wi:TI)(aD:List (Str × Nat))(n:Nat)(g:TG)(tt:TT)(te:TE):TE:=λσ H Q=>wi σ H λJ H1=>PF J aD n g tt te σ H1 Q
section
variable{X:Cx}{elt iter tg:Expr}{pos:Pos}{ifs:List Expr}{scope:Scope}{cl:List (Str × Addr)}{wi:TI}{tt:TT}{te:TE}{g:TG}
end
end L2
namespace L2
open PySem PySem.Spec PyProof.Rows
section
variable{X:Cx}{tg:Expr}
end
end L2
namespace L2
open PySem PySem.Spec PyProof.Rows
def E4(h:Heap)(a T:Addr)(cls fl:Value):Prop :=
 ∃oe vs oT ts,h.get? a=some oe/\oe.cls=cls/\oe.dict=none/\oe.data=.fields vs/\vs[1]?=some (.ref T)/\T≠a/\h.get? T=some oT/\oT.data=.fields ts/\ts[3]?=some fl
abbrev qD(h:Heap)(a T:Addr)(cls:Value):Prop:=E4 h a T cls .none
theorem bx4(o:Obj)(f:Array Value->Array Value):(o.mapFields f).dict=o.dict:=by
 obtain⟨c,d,dt,sl⟩:=o
 cases dt<;>rfl
section
variable{M:Model}{A:Around}{E:Value->Shared->Prop}{s:Shared}{base:Heap}{env:Env}{outer:List Env}{L a T:Addr}{cls:Value}{oe:Obj}{vs:Array Value}{Q:Unit->Shared->Prop}
structure Ent(fs:List Addr)(h h':Heap)(a T:Addr)(oe:Obj)(L:Addr):Prop where
 new:h.get? T=none
 ne:T≠a
 keep:∀b o,b≠a->b ∉ fs->h.get? b=some o->h'.get? b=some o
 slot:∀b o,b≠a->h.get? b=some o->∃sl,h'.get? b=some { o with slots:=sl }
 exc:h'.get? a=some (oe.mapFields λz=>z.setIfInBounds 1 (.ref T))
 ent:∃oT ts,h'.get? T=some oT/\oT.data=.fields ts/\ts[3]?=some (rawInt L)
theorem PH{head:Value}{cQ9:Bool}(eG:A.frames=some (env::outer))(hl:s.heap.FunFrames base (env::outer))(hf:env.frame=some L)(he:s.heap.get? a=some oe)(hd:oe.data=.fields vs)(lX:1<vs.size)
  (na:a ∉ (env::outer).filterMap (·.frame)) (k:∀h' T',Ent ((env::outer).filterMap (·.frame)) s.heap h' a T' oe L->Q () { s with heap:=h' }) :
  wpAny M A (do let x<-frameOf env;let pl<-entryPlaceOf L cQ9;let b<-EntryCells.newEntry head x .none (rawInt L) .none pl;setField (.ref a) 1 b) Q E s:=by
 refine wpAny_bind (wpAny_frameOf_fun eG hl hf λg1 so=>wpAny_bind (wpAny_entryPlaceOf λpl ip=>?_))
 unfold EntryCells.newEntry newFields
 have e1:g1.get? a=some oe:=(so.2.1 a na).trans he
 refine wpAny_bind (wpAny_newObj_type ?_ (ip.sizeOk5 _ _ _ _ _))
 generalize PJ:({ cls:=.type "traceback",dict:=none,data:=.fields ([head,cW L,.none,rawInt L,.none]++(if pl.isEmpty then bf 6 pU else pl)).toArray }:Obj)=te
 have e2:(g1.push te).get? a=some oe:=fF te e1
 have hda:te.data=.fields ([head,cW L,.none,rawInt L,.none]++(if pl.isEmpty then bf 6 pU else pl)).toArray:=by rw[<-PJ]
 have nf:te.isFreed=false:=by rw[<-PJ];rfl
 refine wpAny_setField e2 hd lX ?_
 have d3:=D1 hd λz=>z.setIfInBounds 1 (cW g1.objs.size)
 have nT:g1.objs.size≠a:=Ny (bP e1)
 refine k _ g1.objs.size ⟨?_,nT,λb o hb hz q=>?_,λb o hb q=>?_,DT _ e2 (NH d3),⟨te,_,?_,hda,?_⟩⟩
 ·cases q:s.heap.get? g1.objs.size with
  | none=>rfl
  | some o=>obtain⟨sl,z⟩:=so.2.2 _ _ q;exact absurd (bP z) (gF _)
 ·rw[pW _ _ (fE hb)]
  exact fF te ((so.2.1 b hz).trans q)
 ·obtain⟨sl,z⟩:=so.2.2 b o q
  refine⟨sl,?_⟩
  rw[pW _ _ (fE hb)]
  exact fF te z
 ·rw[pW _ _ (fE nT)]
  exact gG g1 nf
 ·first | (simp;done) | (rcases ip with rfl | ⟨_,_,_,_,_,_,_,rfl⟩<;>simp)
structure PK(fs Z:List Addr)(h h':Heap)(a T:Addr)(cls:Value):Prop where
 new:h.get? T=none
 keep:∀b o,b ∉ Z->b ∉ fs->h.get? b=some o->h'.get? b=some o
 slot:∀b o,b ∉ Z->h.get? b=some o->∃sl,h'.get? b=some { o with slots:=sl }
 xC:qD h' a T cls
theorem PL{fl:Value}(tr:E4 s.heap a T cls fl)(k:∀h',(∀b o,b≠T->s.heap.get? b=some o->h'.get? b=some o)->qD h' a T cls->Q () { s with heap:=h' }):wpAny M A (setFlight (.ref a) none) Q E s:=by
 obtain⟨oe,vs,oT,ts,h1,h2,h3,h4,h5,h6,h7,h8,h9⟩:=tr
 have sz:3<ts.size:=(NI.mp h9).1
 unfold setFlight
 refine wpAny_bind (wpAny_field h1 h4 h5 ?_)
 rw[if_pos (by simp)]
 refine wpAny_setField h7 h8 sz (k _ (λb o hb q=>(pW _ _ (fE hb)).trans q) ?_)
 have d:=D1 h8 λz=>z.setIfInBounds 3 ((none:Option Addr).elim pU λf=>rawInt f)
 exact⟨oe,vs,_,_,(pW _ _ h6).trans h1,h2,h3,h4,h5,h6,DT _ h7 (NH d),d,by simp[sz]⟩
theorem Ent.fin{fs:List Addr}{h h':Heap}{a T L:Addr}{oe:Obj}{vs:Array Value}(e:Ent fs h h' a T oe L)(hd:oe.data=.fields vs)(lX:1<vs.size)(hdi:oe.dict=none):E4 h' a T oe.cls (rawInt L):=by
 obtain⟨oT,ts,e1,e2,e3⟩:=e.ent
 exact⟨_,_,oT,ts,e.exc,Obj.cls_mapFields _ _,by rw[bx4];exact hdi,D1 hd _,by simp[lX],e.ne,e1,e2,e3⟩
theorem bL4(eG:A.frames=some (env::outer))(hl:s.heap.FunFrames base (env::outer))(hf:env.frame=some L)(na:a ∉ (env::outer).filterMap (·.frame))(tr:qD s.heap a T cls)
  (k:∀h' T',PK ((env::outer).filterMap (·.frame)) [a,T] s.heap h' a T' cls->Q () { s with heap:=h' }):wpAny M A (noteFrame (.ref a) env) (λ_ kE=>wpAny M A (setFlight (.ref a) none) Q E kE) E s:=by
 obtain⟨oe,vs,oT,ts,h1,h2,h3,h4,h5,h6,h7,h8,h9⟩:=tr
 have s1:1<vs.size:=(NI.mp h5).1
 have s3:3<ts.size:=(NI.mp h9).1
 unfold noteFrame
 simp only[hf]
 refine wpAny_bind (wpAny_field h1 h4 h5 ?_)
 rw[if_pos (by simp)]
 refine wpAny_bind (wpAny_field h7 h8 h9 ?_)
 rw[if_neg (by simp[rawInt])]
 refine wpAny_bind (wpAny_setField h7 h8 s3 ?_)
 generalize hg:s.heap.update T (Obj.mapFields λz=>z.setIfInBounds 3 pU)=g
 have qE:∀b,b≠T->g.get? b=s.heap.get? b:=λb hb=>by rw[<-hg];exact pW _ _ (fE hb)
 have bT:∀b o,s.heap.get? b=some o->(∀ws,o.data≠.fields ws)->b≠T:=λb o q hn z=>by subst z;rw[h7]at q;cases q;exact hn ts h8
 have gT:∃oT',g.get? T=some oT':=⟨_,by rw[<-hg];exact DT _ h7 (NH (D1 h8 _))⟩
 refine PH (s:={ s with heap:=g }) eG (hl.of_keeps λb o q hn=>⟨o,(qE b (bT b o q hn)).trans q,rfl⟩) hf ((qE a (fE h6)).trans h1) h4 s1 na λh' T' en=>?_
 have nT':T'≠T:=λz=>by subst z;obtain⟨o,q⟩:=gT;rw[en.new]at q;cases q
 refine PL (s:={ s with heap:=h' }) (h2 ▸ en.fin h4 s1 h3) λE5 kp E6=>?_
 refine k E5 T' ⟨(qE T' nT').symm.trans en.new,λb o hz hb q=>?_,λb o hz q=>?_,E6⟩
 ·have z1:b≠a:=λz=>hz (by simp[z])
  have z2:b≠T:=λz=>hz (by simp[z])
  have z3:b≠T':=λz=>by have:=en.new;rw[<-z,qE b z2,q]at this;cases this
  exact kp b o z3 (en.keep b o z1 hb ((qE b z2).trans q))
 ·have z1:b≠a:=λz=>hz (by simp[z])
  have z2:b≠T:=λz=>hz (by simp[z])
  have z3:b≠T':=λz=>by have:=en.new;rw[<-z,qE b z2,q]at this;cases this
  obtain⟨sl,r⟩:=en.slot b o z1 ((qE b z2).trans q)
  exact⟨sl,kp b _ z3 r⟩
theorem bL8{h1:Heap}{args:List Value}(eG:A.frames=some (env::outer))(hl:s.heap.FunFrames base (env::outer))(hf:env.frame=some L)(hx:NJ s.heap h1 a cls args)
  (k:∀h' T',PK ((env::outer).filterMap (·.frame)) [] s.heap h' a T' cls->Q () { s with heap:=h' }):wpAny M A (noteFrame (.ref a) env) (λ_ kE=>wpAny M A (setFlight (.ref a) none) Q E kE) E { s with heap:=h1 }:=by
 obtain⟨t,e1,_,_⟩:=hx.there
 have na:a ∉ (env::outer).filterMap (·.frame):=λhb=>by obtain⟨_,o,ho,_⟩:=hl.mem hb;rw[hx.new]at ho;cases ho
 unfold noteFrame
 simp only[hf]
 refine wpAny_bind (wpAny_field (s:={ s with heap:=h1 }) e1 rfl (x:=.none) (by rfl) ?_)
 rw[if_neg (by decide)]
 refine PH (s:={ s with heap:=h1 }) eG (hl.of_keeps λb o q _=>⟨o,hx.keeps b o q,rfl⟩) hf e1 rfl (by simp) na λh' T' en=>?_
 refine PL (s:={ s with heap:=h' }) (en.fin rfl (by simp) rfl) λE5 kp E6=>?_
 have ba:∀b o,s.heap.get? b=some o->b≠a:=λb o q z=>by rw[z,hx.new]at q;cases q
 have bT:∀b o,s.heap.get? b=some o->b≠T':=λb o q z=>by have:=hx.keeps b o q;rw[z,en.new]at this;cases this
 refine k E5 T' ⟨?_,λb o _ hb q=>kp b o (bT b o q) (en.keep b o (ba b o q) hb (hx.keeps b o q)),λb o _ q=>?_,E6⟩
 ·cases q:s.heap.get? T' with
  | none=>rfl
  | some o=>exact absurd rfl (bT T' o q)
 ·obtain⟨sl,r⟩:=en.slot b o (ba b o q) (hx.keeps b o q)
  exact⟨sl,kp b _ (bT b o q) r⟩
end
end L2
namespace L2
open PySem PySem.Spec PyProof.Rows
theorem dY.there{P:Program}{w:World}{H:Hp}{h:Heap}{a:Addr}{o:HO}(x:dY P w H h a o):∃u,h.get? a=some u:=by
 cases o with
 | lst xs=>obtain⟨_,_,_,_,e⟩:=x;exact⟨_,e⟩
 | tup xs=>obtain⟨_,_,_,o,e,_⟩:=x;exact⟨o,e⟩
 | dK dJ=>obtain⟨_,_,_,_,o,_,_,e,_⟩:=x;exact⟨_,e⟩
 | dT dJ=>obtain⟨_,_,_,_,o,_,_,e,_⟩:=x;exact⟨_,e⟩
 | set S n=>obtain⟨o,_,_,_,e,_⟩:=x;exact⟨_,e⟩
 | ins C dx fs=>obtain⟨_,_,_,e,_⟩:=x;exact⟨_,e⟩
 | own y=>exact x
 | xd fs=>obtain⟨_,⟨_,_,_,e,_⟩,_⟩:=x;exact⟨_,e⟩
 | wW lo hi=>obtain⟨_,_,_,e⟩:=x;exact⟨_,e⟩
 | br ob u=>obtain⟨e,_⟩:=x;exact⟨_,e⟩
 | dA ps=>exact⟨_,show h.get? a=some _ from x.1⟩
 | met f y=>exact⟨_,show h.get? a=some _ from x⟩
 | ext φ=>obtain⟨_,e,_⟩:=x;exact e
theorem cL.none{P:Program}{w:World}{H:Hp}{h:Heap}{a:Addr}(x:cL P w H h)(e:h.get? a=.none):H a=.none:=by
 cases q:H a with
 | none=>rfl
 | some u=>obtain⟨o,z⟩:=(x a u q).there;rw[e]at z;cases z
structure Apart(X:Cx)(pins:List (Addr × Obj))(H:Hp)(b:Addr):Prop where
 old:X.cM.heap.get? b=none
 free:H b=none
 loc:b≠X.env.locals
 cell:∀x c,X.env.cells.lookup x=some c->c≠b
 pin:∀p∈X.pn++pins,p.1≠b
 fr:b ∉ eD X.stack
section
variable{X:Cx}{pins:List (Addr × Obj)}{σ:St}{H H':Hp}{s:Shared}{a T b:Addr}{cls:Value}{M:Model}{Q:Unit->Shared->Prop}{E:Value->Shared->Prop}{h':Heap}
theorem Inv.old(I:Inv X pins σ H s)(hex:X.ex=[])(e:s.heap.get? b=none):X.cM.heap.get? b=none:=by
 cases q:X.cM.heap.get? b with
 | none=>rfl
 | some o=>obtain⟨o',z⟩:=I.base.there b o q (by rw[hex];simp);rw[e]at z;cases z
theorem PM(I:Inv X pins σ H s)(de:X.stack=X.env::X.outer)(hex:X.ex=[])(hf:X.env.frame=some X.env.locals)(Z:List Addr)(hZ:∀b∈Z,X.cM.heap.get? b=none/\H b=none)
  (keep:∀b o,b ∉ Z->b ∉ eD X.stack->s.heap.get? b=some o->h'.get? b=some o) (slots:∀b o,b ∉ Z->s.heap.get? b=some o->∃sl,h'.get? b=some { o with slots:=sl }) :
  Un (eD X.outer) [] X.j3 H X.cM.heap h'/\cL X.prog X.w H h':=by
 have E7:∀b o,X.cM.heap.get? b=some o->b ∉ Z:=λb o e z=>by rw[(hZ b z).1]at e;cases e
 have sub:∀b,b∈eD X.stack->b=X.env.locals\/b∈eD X.outer:=λb hb=>by
  rw[de]at hb
  unfold eD at hb
  rw[z9,hf]at hb
  exact cu.mp hb
 have sup:∀b,b∈eD X.outer->b∈eD X.stack:=λb hb=>by
  rw[de]
  unfold eD
  rw[z9,hf]
  exact gi _ hb
 have AH:∀b o,X.cM.heap.get? b=some o->b≠X.env.locals:=λb o e=>fg (dm (bP e) I.ok.above)
 have nx:∀b:Addr,b ∉ X.ex:=λb=>by rw[hex];simp
 refine⟨⟨λb o e n hb _=>?_,λb o e n hb _=>?_,λb o e n _=>I.base.free b o e n (nx b),λb o e _=>?_,I.base.jZ,I.base.jA,I.base.iG⟩,λb ob e=>?_⟩
 ·exact keep b o (E7 b o e) (λz=>(sub b z).elim (AH b o e) hb) (I.base.keep b o e n hb (nx b))
 ·obtain⟨sl,e1⟩:=I.base.slot b o e n hb (nx b)
  exact(slots b _ (E7 b o e) e1).imp λsl h=>h
 ·obtain⟨o',e1⟩:=I.base.there b o e (nx b)
  exact(slots b o' (E7 b o e) e1).elim λsl q=>⟨_,q⟩
 ·refine(I.aK b ob e).kC (λc u hc q=>keep c u (λz=>?_) (λz=>?_) q) (λ_ q=>q) (λ_ _ q=>q) λ_ _ q=>q
  ·have n:=(hZ c z).2
   rcases hc with rfl | hc
   ·rw[n]at e;cases e
   ·rw[n]at hc;cases hc
  ·have n:=I.Ei c z
   rcases hc with rfl | hc
   ·rw[n]at e;cases e
   ·rw[n]at hc;cases hc
structure PN(X:Cx)(H:Hp)(h':Heap)(a T:Addr)(cls:Value):Prop where
 un:Un (eD X.outer) [] X.j3 H X.cM.heap h'
 aK:cL X.prog X.w H h'
 xC:qD h' a T cls
 a0:X.cM.heap.get? a=none
 a1:H a=none
 t0:X.cM.heap.get? T=none
 t1:H T=none
theorem bZ5(I:Inv X pins σ H s)(de:X.stack=X.env::X.outer)(hex:X.ex=[])(hf:X.env.frame=some X.env.locals)(tr:qD s.heap a T cls)(pa:Apart X pins H a)(pT:Apart X pins H T)
  (hQ:∀h' T',PN X H h' a T' cls->Q () { s with heap:=h' }):wpAny M X.A (leaving X.env (.ref a)) Q E s:=by
 have hZ:∀b∈[a,T],X.cM.heap.get? b=none/\H b=none:=λb hb=>by
  rcases cu.mp hb with rfl | hb
  ·exact⟨pa.old,pa.free⟩
  ·rw[eW.mp hb];exact⟨pT.old,pT.free⟩
 have na:a ∉ (X.env::X.outer).filterMap (·.frame):=by have:=pa.fr;rw[de]at this;exact this
 refine wpAny_bind (bL4 (base:=X.base) (by rw[I.ok.frames,de]) (de ▸ I.stack) hf na tr λh' T' st=>?_)
 have kp:∀b o,b ∉ [a,T]->b ∉ eD X.stack->s.heap.get? b=some o->h'.get? b=some o:=λb o hz hb q=>st.keep b o hz (by rw[de]at hb;exact hb) q
 obtain⟨un,aK⟩:=PM (h':=h') I de hex hf [a,T] hZ kp st.slot
 exact hQ h' T' ⟨un,aK,st.xC,pa.old,pa.free,I.old hex st.new,I.aK.none st.new⟩
theorem b66{h1:Heap}{args:List Value}(I:Inv X pins σ H s)(de:X.stack=X.env::X.outer)(hex:X.ex=[])(hf:X.env.frame=some X.env.locals)(hx:NJ s.heap h1 a cls args)
  (hQ:∀h' T',PN X H h' a T' cls->Q () { s with heap:=h' }):wpAny M X.A (leaving X.env (.ref a)) Q E { s with heap:=h1 }:=by
 refine wpAny_bind (bL8 (base:=X.base) (by rw[I.ok.frames,de]) (de ▸ I.stack) hf hx λh' T' st=>?_)
 have kp:∀b o,b ∉ ([]:List Addr)->b ∉ eD X.stack->s.heap.get? b=some o->h'.get? b=some o:=λb o hz hb q=>st.keep b o hz (by rw[de]at hb;exact hb) q
 obtain⟨un,aK⟩:=PM (h':=h') I de hex hf [] (λb hb=>absurd hb (by simp)) kp st.slot
 exact hQ h' T' ⟨un,aK,st.xC,I.old hex hx.new,I.aK.none hx.new,I.old hex st.new,I.aK.none st.new⟩
end
def nq(P:Program)(w:World):eQ:=λouter H s E e s'=>∃a T cls H',e=.ref a/\s'.os=s.os/\AllBare s'.gens/\Un (eD outer) [] H H' s.heap s'.heap/\cL P w H' s'.heap/\qD s'.heap a T cls /\
 s.heap.get? a=none/\H' a=none/\s.heap.get? T=none/\H' T=none/\E cls none H'
section
variable{X:Cx}{pins:List (Addr × Obj)}{σ:St}{H H':Hp}{s:Shared}{a T b:Addr}{cls:Value}{M:Model}{Q:Unit->Shared->Prop}{E:Value->Shared->Prop}{h':Heap}
end
end L2
namespace L2
open PySem PySem.W PySem.Spec PySem.Calls PyProof.Rows
section
variable{prog:Program}{w:World}{A:Around}{E:Value->Shared->Prop}{s:Shared}{K:Frag}{x D:Addr}{ox:Obj}{oG:Option Obj}
theorem b52{tk:Tok}{Q:Fin->Shared->Prop}(X:K.In s.heap)(I:PySem.W.InstAt s.heap x ox D oG)(hf:findObj K D oG "__class__"=some (.bind (.builtin "getset_descriptor.__get__") (.builtin "object.__class__")))(hm:mroIn K D (.type "object")=some true)
  (hq:Q (.done (.ret (.ref D))) s):wpAny (model prog w) A (Builtin.«object.__getattribute__» ⟨[.ref x,.str "__class__" tk],[]⟩) Q E s:=by
 have cg:=λ(R:Result->Shared->Prop) (hR:R (.ok (.ret (.ref D))) s) (A:Around)=>PySem.W.class_get (prog:=prog) (w:=w) (A:=A) (R:=R) (tp:=.ref D) X I hm hR
 obtain⟨hh,g,d,t,os⟩:=s
 have L0:=I.type (M:=model prog w)
 have L1:=looks_find (M:=model prog w) X I hf
 unfold Builtin.«object.__getattribute__»
 repeat (any_goals (first | assumption | refine wpAny_bind (L0.at ?_) | refine wpAny_bind (L1.at ?_) | wp_step))
 exact cg _ (wpAny_pure hq) _
theorem bY6{M:Model}{PQ:Value}{Q:Unit->Shared->Prop}(X:K.In s.heap)(I:PySem.W.InstAt s.heap x ox D oG)(hb:mroIn K D (.type "BaseException")=some true)(hq:Q () s) :
  wpAny M A (checkBuiltinCall "BaseException.__getattribute__" ⟨[.ref x,PQ],[]⟩) Q E s:=by
 obtain⟨hh,g,d,t,os⟩:=s
 have L0:=I.type (M:=M)
 have L1:=looks_mroIn (M:=M) X hb
 have hk:builtinKind "BaseException.__getattribute__"=some .slot:=by decide +kernel
 have cS0:splitId "BaseException.__getattribute__"=some ("BaseException","__getattribute__"):=by decide +kernel
 have ha:=F.args_bexc_ga (.ref x) PQ
 simp only[checkBuiltinCall,hk,cS0]
 refine wpAny_bind ?_
 ·unfold isInstance
  repeat (first | refine wpAny_bind (L0.at ?_) | refine wpAny_bind (L1.at ?_) | refine L1.at ?_ | wp_step)
  exact hq
theorem ce8{tk:Tok}{R:Result->Shared->Prop}(X:K.In s.heap)(I:PySem.W.InstAt s.heap x ox D oG)(hf:findObj K D oG "__class__"=some (.bind (.builtin "getset_descriptor.__get__") (.builtin "object.__class__")))(hm:mroIn K D (.type "object")=some true)(hb:mroIn K D (.type "BaseException")=some true)
  (hq:R (.ok (.ret (.ref D))) s):codeAny (model prog w) A (.call (.builtin "BaseException.__getattribute__") ⟨[.ref x,.str "__class__" tk],[]⟩) R s :=
 codeAny_call_builtin (by decide +kernel) F.entry_bexc_ga (bY6 X I hb (b52 X I hf hm hq))
end
end L2
namespace L2
open PySem PySem.W PySem.Spec PySem.Calls PyProof.Rows
section
variable{prog:Program}{w:World}{A:Around}{E:Value->Shared->Prop}{s:Shared}{K:Frag}{x D:Addr}{ox:Obj}{oG:Option Obj}
theorem b70{Q:Option Value->Shared->Prop}(X:K.In s.heap)(I:PySem.W.InstAt s.heap x ox D oG)(hga:findIn K (.ref D) "__getattribute__"=some (some (.builtin "BaseException.__getattribute__")))(hgt:findIn K (.ref D) "__getattr__"=some none)
  (hf:findObj K D oG "__class__"=some (.bind (.builtin "getset_descriptor.__get__") (.builtin "object.__class__"))) (hm:mroIn K D (.type "object")=some true) (hb:mroIn K D (.type "BaseException")=some true)
  (h:Q (some (.ref D)) { s with toks:=s.toks+1 }):wpAny (model prog w) A (getAttr? (.ref x) "__class__") Q E s:=by
 have xc:=λ(R:Result->Shared->Prop) (tk:Tok) (hR:R (.ok (.ret (.ref D))) { s with toks:=s.toks+1 }) (A:Around)=>ce8 (prog:=prog) (w:=w) (A:=A) (R:=R) (tk:=tk) (s:={ s with toks:=s.toks+1 }) X I hf hm hb hR
 obtain⟨hh,g,d,t,os⟩:=s
 have L0:=I.type (M:=model prog w)
 have L1:=looks_findIn (M:=model prog w) X hga
 have L2:=looks_findIn (M:=model prog w) X hgt
 have f3:=(F.excAttr_ValueError).ga.bind (.ref x)
 have dU:(D2 "BaseException.__getattribute__"==D2 "object.__getattribute__")=false:=by decide +kernel
 have cz:(onTheHeap (cW D)&&D2 "BaseException.__getattribute__"==D2 "object.__getattribute__")=false:=by rw[dU];rfl
 unfold getAttr? getAttrBy? getAttrBy
 refine wpAny_bind (wpAny_mkText (wpAny_bind (wpAny_attempt (wpAny_holding (wpAny_bind (L0.at (wpAny_bind (L1.at ?_))))))))
 dsimp only
 rw[cz]
 simp only[tH,if_false]
 unfold getAttrByItsOwn
 repeat (any_goals (first | assumption | refine wpAny_bind (L0.at ?_) | refine wpAny_bind (L2.at ?_) | wp_step))
 refine xc _ t ?_ _
 show wpAny _ _ (handedOut (.ref D)) _ _ _
 exact handed_on rfl (wpAny_pure h)
structure E8(K:Frag)(C:Addr):Prop where
 cls:(clsIn K C).isSome=true
 ga:findIn K (.ref C) "__getattribute__"=some (some (.builtin "BaseException.__getattribute__"))
 gt:findIn K (.ref C) "__getattr__"=some none
 ca:findIn K (.ref C) "__class__"=some (some (.builtin "object.__class__"))
 hn:specialIn K (.builtin "object.__class__") "__get__"=some (some (.builtin "getset_descriptor.__get__"))
 tk:takesIn K (.builtin "object.__class__")=some true
 mo:mroIn K C (.type "object")=some true
 mb:mroIn K C (.type "BaseException")=some true
def Bg(a C:Addr)(h:Heap):Prop:=∃o,h.get? a=some o/\o.cls=.ref C/\notCls o=true/\o.dict=none
theorem bH8{K:Frag}{C:Addr}{name:Str}{a g:Value}(hc:(clsIn K C).isSome=true)(ha:findIn K (.ref C) name=some (some a))(hg:specialIn K a "__get__"=some (some g))(ht:takesIn K a=some true):findObj K C none name=some (.bind g a):=by
 obtain⟨cd,hc⟩:=Ad.mp hc
 unfold findObj
 rw[hc,W7,ha,W7]
 simp[hg,ht]
theorem PR{a C:Addr}{h:Heap}(p:Bg a C h):∃ox,PySem.W.InstAt h a ox C none:=by
 obtain⟨o,h1,h2,h3,h4⟩:=p
 exact⟨o,h1,h2,h3,by rw[h4];trivial⟩
theorem cb5{a C:Addr}(c:E8 K C):KitX K (.ref a) (.ref C) (Bg a C) where
 ty:=λ_ _ _ p=>let⟨_,I⟩:=PR p;I.type
 it:=λ_ _ X _=>by
  obtain⟨ub,m3⟩:=Ad.mp c.cls
  unfold clsIn at m3
  split at m3
  ·rename_i c' d' cd' Ej ho
   intro A' Q' E' s' k q
   unfold isType loadHead
   exact wpAny_bind (wpAny_loadPart (k _ _ (X _ _ ho)) (wpAny_pure q))
  ·cases m3
 ne:=λh tp dd its n sl X htp=>by
  obtain⟨ub,m3⟩:=Ad.mp c.cls
  refine Bool.eq_false_iff.mpr λq=>?_
  have e:C=tp:=Value.ref.inj (beq_iff_eq.mp q)
  subst e
  unfold clsIn at m3
  split at m3
  ·rename_i c' d' cd' Ej ho
   have z:=(X _ _ ho).symm.trans htp
   cases z
  ·cases m3
 ca:=λX p k=>let⟨_,I⟩:=PR p;b70 X I c.ga c.gt (bH8 c.cls c.ca c.hn c.tk) c.mo c.mb k
end
end L2
namespace L2
open PySem PySem.Spec PyProof.Rows
section
variable{X:Cx}{pins:List (Addr × Obj)}{σ:St}{H:Hp}{s:Shared}{h':Heap}{its:List Addr}{T:Addr}{o:HO}{t':Nat}
theorem Inv.Bh(I:Inv X pins σ H s)(k:∀b o,b ∉ its->s.heap.get? b=some o->h'.get? b=some o)(hf:∀b∈its,i9 X pins H b):Inv X pins σ H { s with heap:=h',toks:=t' }:=by
 have oy:∀b u,H b=some u->b ∉ its:=λb u e z=>by have:=(hf b z).1;rw[this]at e;cases e
 refine I.step (g':=s.gens) (d':=s.drawn) (ch:=its) (λb hb=>?_) (λb o _ _ hc e _=>k b o hc e) (λb o _ _ hc e _=>⟨o.slots,k b o hc e⟩) (λ_ _ _ _ n=>n)
  (λb o hc e=>⟨o,k b o hc e⟩) (λ_ _ e=>e) (λ_ _ _ e=>e) (λb ps e=>⟨#[],by rw[e];simp⟩) (λm hm=>?_) (λb u e=>?_) I.bare
 ·obtain⟨_,h1,_,h2,h3,h4⟩:=hf b hb
  exact⟨h2,h1,h3,h4⟩
 ·obtain⟨o,es,ep,ho,r⟩:=hm
  exact⟨o,es,ep,k _ o (λz=>(hf _ z).2.1 rfl) ho,r⟩
 ·refine(I.aK b u e).kC (λc v hc q=>k c v ?_ q) (λ_ q=>q) (λ_ _ q=>q) λ_ _ q=>q
  rcases hc with z | z
  ·rw[z];exact oy b u e
  ·exact oy c _ z
theorem Inv.PU(I:Inv X pins σ H s)(k:∀b o,b ∉ its->s.heap.get? b=some o->h'.get? b=some o)(hf:∀b∈its,i9 X pins H b)(hT:s.heap.objs.size<=T)(new:dY X.prog X.w (upd H T o) h' T o) :
  Inv X pins σ (upd H T o) { s with heap:=h',toks:=t' }:=by
 have oy:∀b u,H b=some u->b ∉ its:=λb u e z=>by have:=(hf b z).1;rw[this]at e;cases e
 have fT:H T=none:=I.aK.fresh hT
 have neT:∀b u,H b=some u->b≠T:=λb u e z=>by rw[z,fT]at e;cases e
 have neS:∀b u,s.heap.get? b=some u->b≠T:=λb u e z=>absurd (dm (bP e) hT) (by rw[z];exact gF _)
 refine I.step (g':=s.gens) (d':=s.drawn) (ch:=its) (λb hb=>?_) (λb o _ _ hc e _=>k b o hc e) (λb o _ _ hc e _=>⟨o.slots,k b o hc e⟩) (λb u _ e n=>by rw[aZ (neS b u e)];exact n)
  (λb o hc e=>⟨o,k b o hc e⟩) (λb _ e=>by rw[aZ (neT b _ e)];exact e) (λb _ _ e=>by rw[aZ (neT b _ e)];exact e) (λb ps e=>⟨#[],by rw[aZ (neT b _ e),e];simp⟩) (λm hm=>?_) (λb u e=>?_) I.bare
 ·obtain⟨_,h1,_,h2,h3,h4⟩:=hf b hb
  exact⟨h2,h1,h3,h4⟩
 ·obtain⟨o,es,ep,ho,r⟩:=hm
  exact⟨o,es,ep,k _ o (λz=>(hf _ z).2.1 rfl) ho,r⟩
 ·by_cases hb:b=T
  ·subst hb;rw[bJ]at e;cases e;exact new
  ·rw[aZ hb]at e
   refine(I.aK b u e).kC (λc v hc q=>k c v ?_ q) (λc q=>by rw[aZ (neT c _ q)];exact q) (λc _ q=>by rw[aZ (neT c _ q)];exact q) λc _ q=>by rw[aZ (neT c _ q)];exact q
   rcases hc with z | z
   ·rw[z];exact oy b u e
   ·exact oy c _ z
def E9(K:PySem.W.Frag)(a b:Addr):It :=
 ⟨λi H=>∃xs ys x y,bK K H a xs/\bK K H b ys/\xs[i]?=some x/\ys[i]?=some y,
  λi H v H'=>∃T x y,v=.ref T/\H T=none/\H'=upd H T (.tup [x,y])/\(∀xs,bK K H a xs->xs[i]?=some x)/\∀ys,bK K H b ys->ys[i]?=some y,
  λi H=>∃xs ys,bK K H a xs/\bK K H b ys/\(xs.length<=i\/ys.length<=i)⟩
theorem oH{K:PySem.W.Frag}{a c:Addr}{xs:List V}(hk:X.K=K)(I:Inv X pins σ H s)(h:bK K H a xs)(hf:i9 X pins H c)(ho:∃o,s.heap.get? c=some o/\o.cls≠.type "list"):a≠c:=by
 subst hk
 obtain⟨its,rv,p,hz⟩:=I.list h
 obtain⟨o,e,d⟩:=ho
 obtain⟨o',e',c',_⟩:=p.isList
 intro z
 subst z
 rw[e]at e';cases e'
 exact d c'
theorem cb4{P:Program}{w:World}{K:PySem.W.Frag}{elts:List Expr}{k:Nat}{pos:Pos}(a b z TI TO i1 i2:Addr)(D5:[z,TI,TO,i1,i2].Nodup) :
  Turn P w K (.Tuple elts k pos) (E9 K a b) [z,TI,TO,i1,i2] z (λi h=>IsZip h z TI TO .none/\IsPair h TI (.ref i1) (.ref i2)/\(∃u v,IsPair h TO u v)/\h.IsListIter i1 a i/\h.IsListIter i2 b i):=by
 have ap:∀(X:Cx) (pins:List (Addr × Obj)) (s:Shared) (σ:St) (H:Hp) (i:Nat) (xs ys:List V),X.K=K->Inv X pins σ H s->(∀b∈[z,TI,TO,i1,i2],i9 X pins H b)->IsZip s.heap z TI TO .none->(∃u v,IsPair s.heap TO u v)->s.heap.IsListIter i1 a i->s.heap.IsListIter i2 b i ->
   bK K H a xs->bK K H b ys->ZipApart z TI TO i1 i2 a b:=by
  intro X pins s σ H i xs ys hK I hf hz jh h1 h2 hx hy
  simp only[jV,cu,not_or,iZ,not_false_eq_true,and_true]at D5
  obtain⟨⟨d1,d2,d3,d4⟩,⟨d5,d6,d7⟩,⟨d8,d9⟩,d10,_⟩:=D5
  have oz:∃o,s.heap.get? z=some o/\o.cls≠.type "list":=⟨_,hz,by intro q;exact absurd (D3 q) (by decide)⟩
  have PV:∃o,s.heap.get? TO=some o/\o.cls≠.type "list":=by obtain⟨u,v,e⟩:=jh;exact⟨_,e,by intro q;exact absurd (D3 q) (by decide)⟩
  have o1:∃o,s.heap.get? i1=some o/\o.cls≠.type "list":=by obtain⟨o,e,c,d⟩:=h1;exact⟨_,e,by rw[c];intro q;exact absurd (D3 q) (by decide)⟩
  have o2:∃o,s.heap.get? i2=some o/\o.cls≠.type "list":=by obtain⟨o,e,c,d⟩:=h2;exact⟨_,e,by rw[c];intro q;exact absurd (D3 q) (by decide)⟩
  exact⟨fE d1,fE d2,fE d3,fE d4,d5,d6,d7,d8,d9,d10,
   oH hK I hx (hf z (by simp)) oz,oH hK I hx (hf TO (by simp)) PV,oH hK I hx (hf i1 (by simp)) o1,oH hK I hx (hf i2 (by simp)) o2,
   oH hK I hy (hf z (by simp)) oz,oH hK I hy (hf TO (by simp)) PV,oH hK I hy (hf i1 (by simp)) o1,oH hK I hy (hf i2 (by simp)) o2⟩
 refine⟨by simp,λi h st c hc=>?_,λi h h' st kk=>?_,?_,?_,λ_ _ _ _ _ st h=>wpAny_pyIter_zip st.1 h⟩
 ·obtain⟨hz,kH,⟨u,v,jh⟩,⟨o1,e1,c1,d1⟩,⟨o2,e2,c2,d2⟩⟩:=st
  simp only[cu,iZ,or_false]at hc
  rcases hc with rfl | rfl | rfl | rfl | rfl
  ·exact⟨_,hz,λv q=>by cases q⟩
  ·exact⟨_,kH,λv q=>by cases q⟩
  ·exact⟨_,jh,λv q=>by cases q⟩
  ·exact⟨_,e1,λv q=>by rw[d1]at q;cases q⟩
  ·exact⟨_,e2,λv q=>by rw[d2]at q;cases q⟩
 ·obtain⟨hz,kH,⟨u,v,jh⟩,h1,h2⟩:=st
  exact⟨kk _ (by simp) _ hz,kk _ (by simp) _ kH,⟨u,v,kk _ (by simp) _ jh⟩,h1.at λo e=>kk _ (by simp) o e,h2.at λo e=>kk _ (by simp) o e⟩
 ·intro X hP hw hK hc i pins s σ H E I hf st hg
  obtain⟨xs,ys,x,y,hx,hy,ex,ey⟩:=hg
  obtain⟨hz,kH,⟨u,v,jh⟩,h1,h2⟩:=st
  have D:=ap X pins s σ H i xs ys hK I hf hz ⟨u,v,jh⟩ h1 h2 hx hy
  subst hP hw hK
  obtain⟨as,ra,pa,_⟩:=I.list hx
  obtain⟨bs,rb,pb,_⟩:=I.list hy
  obtain⟨ux,Fc,rx⟩:=ra.get ex
  obtain⟨uy,euy,ry⟩:=rb.get ey
  refine wpAny_pyNext_zip_item D hz kH jh h1 h2 pa.isList pb.isList (x:=ux) (y:=uy) (by simpa using Fc) (by simpa using euy) λh' z' TO' j9 jD T' sz kk=>?_
  have fT:H s.heap.objs.size=none:=I.aK.fresh (bG _)
  have I1:Inv X pins σ (upd H s.heap.objs.size (.tup [x,y])) { s with heap:=h',toks:=s.toks }:=I.PU (its:=[z,TO,i1,i2]) (λc o hc e=>kk c o (λq=>hc (by simp[q])) (λq=>hc (by simp[q])) (λq=>hc (by simp[q])) (λq=>hc (by simp[q])) e)
   (λc hc=>hf c (by simp only[cu,iZ,or_false]at hc ⊢;rcases hc with rfl | rfl | rfl | rfl<;>simp)) (bG _) ⟨by show 2<=sizeLine;decide,[ux,uy],.cons rx (.cons ry .nil),⟨_,T',rfl,_,rfl⟩⟩
  have nT:∀c∈[z,TI,TO,i1,i2],c≠s.heap.objs.size:=λc hc q=>by
   have:∃o,s.heap.get? c=some o:=by
    simp only[cu,iZ,or_false]at hc
    rcases hc with rfl | rfl | rfl | rfl | rfl
    ·exact⟨_,hz⟩
    ·exact⟨_,kH⟩
    ·exact⟨_,jh⟩
    ·obtain⟨o,e,_⟩:=h1;exact⟨o,e⟩
    ·obtain⟨o,e,_⟩:=h2;exact⟨o,e⟩
   obtain⟨o,e⟩:=this
   exact absurd (bP e) (by rw[q];exact gF _)
  refine⟨_,rfl,wpAny_letOwnedTupleGo_zip z' λFd Fe sb=>?_⟩
  have Ff:∀c∈[z],i9 X pins (upd H s.heap.objs.size (.tup [x,y])) c:=λc hc=>by
   have e:c=z:=by simpa using hc
   subst e
   obtain⟨f0,fr⟩:=hf c (by simp)
   exact⟨by rw[aZ (nT c (by simp))];exact f0,fr⟩
  have I2:=Inv.Bh (h':=Fd) (its:=[z]) (t':=s.toks) I1 (λc o hc e=>sb.extBut _ _ (λq=>hc (by simp[q])) e) Ff
  refine⟨.ref s.heap.objs.size,_,I2,rfl,⟨_,x,y,rfl,fT,rfl,λxs' cY=>by rw[I.AL cY hx];exact ex,λqF hy'=>by rw[I.AL hy' hy];exact ey⟩,⟨Fe,sb.extBut _ _ D.TIz (kk _ _ D.TIz D.TITO D.TIi1 D.TIi2 kH),⟨ux,uy,sb.extBut _ _ D.TOz TO'⟩,j9.extBut sb.extBut D.i1z,jD.extBut sb.extBut D.i2z⟩,λc hc=>?_⟩
  rw[aZ (nT c hc)]
  exact(hf c hc).1
 ·intro X hP hw hK hc i pins s σ H E I hf st hg
  obtain⟨xs,ys,hx,hy,hl⟩:=hg
  obtain⟨hz,kH,⟨u,v,jh⟩,h1,h2⟩:=st
  have D:=ap X pins s σ H i xs ys hK I hf hz ⟨u,v,jh⟩ h1 h2 hx hy
  subst hP hw hK
  obtain⟨as,ra,pa,_⟩:=I.list hx
  obtain⟨bs,rb,pb,_⟩:=I.list hy
  have la:=ra.length
  have lb:=rb.length
  refine wpAny_pyNext_zip_end (I.ok.hd hc) D hz kH jh h1 h2 pa.isList pb.isList (hl.imp (λq=>by simp;omega) λq=>by simp;omega) λh' kk=>⟨rfl,?_⟩
  exact I.Bh (its:=[z,TO,i1,i2]) (t':=s.toks) (λc o hc e=>kk c o (λq=>hc (by simp[q])) (λq=>hc (by simp[q])) (λq=>hc (by simp[q])) (λq=>hc (by simp[q])) e)
   (λc hc=>hf c (by simp only[cu,iZ,or_false]at hc ⊢;rcases hc with rfl | rfl | rfl | rfl<;>simp))
def Fg(K:PySem.W.Frag)(a:Addr):It :=
 ⟨λi H=>∃xs x,bK K H a xs/\xs[i]?=some x,
  λi H v H'=>∃T x,v=.ref T/\H T=none/\H'=upd H T (.tup [.int i,x])/\∀xs,bK K H a xs->xs[i]?=some x,
  λi H=>∃xs,bK K H a xs/\xs.length<=i⟩
theorem bX4{P:Program}{w:World}{K:PySem.W.Frag}{elts:List Expr}{k:Nat}{pos:Pos}(a z it:Addr)(mh:z≠it) :
  Turn P w K (.Tuple elts k pos) (Fg K a) [z,it] z (λi h=>(∃old,IsEnum h z it i old)/\h.IsListIter it a i):=by
 refine⟨by simp,λi h st c hc=>?_,λi h h' st kk=>?_,?_,?_,λ_ _ _ _ _ st h=>by obtain⟨⟨old,e⟩,_⟩:=st;exact wpAny_pyIter_enum e h⟩
 ·obtain⟨⟨old,hz⟩,⟨o1,e1,c1,d1⟩⟩:=st
  simp only[cu,iZ,or_false]at hc
  rcases hc with rfl | rfl
  ·exact⟨_,hz,λv q=>by cases q⟩
  ·exact⟨_,e1,λv q=>by rw[d1]at q;cases q⟩
 ·obtain⟨⟨old,hz⟩,h1⟩:=st
  exact⟨⟨old,kk _ (by simp) _ hz⟩,h1.at λo e=>kk _ (by simp) o e⟩
 ·intro X hP hw hK hc i pins s σ H E I hf st hg
  subst hP hw hK
  obtain⟨xs,x,hx,ex⟩:=hg
  obtain⟨⟨old,hz⟩,h1⟩:=st
  obtain⟨as,ra,pa,_⟩:=I.list hx
  obtain⟨ux,Fc,rx⟩:=ra.get ex
  refine wpAny_pyNext_enum_item hz h1 pa.isList (x:=ux) (by simpa using Fc) mh λh' z' j9 T' sz kk=>?_
  have fT:H s.heap.objs.size=none:=I.aK.fresh (bG _)
  have I1:Inv X pins σ (upd H s.heap.objs.size (.tup [.int i,x])) { s with heap:=h',toks:=s.toks+1 }:=I.PU (its:=[z,it]) (λc o hc e=>kk c o (λq=>hc (by simp[q])) (λq=>hc (by simp[q])) e)
   (λc hc=>hf c hc) (bG _) ⟨by show 2<=sizeLine;decide,[.int i s.toks,ux],.cons ⟨_,rfl⟩ (.cons rx .nil),⟨_,T',rfl,_,rfl⟩⟩
  have nT:∀c∈[z,it],c≠s.heap.objs.size:=λc hc q=>by
   have:∃o,s.heap.get? c=some o:=by
    simp only[cu,iZ,or_false]at hc
    rcases hc with rfl | rfl
    ·exact⟨_,hz⟩
    ·obtain⟨o,e,_⟩:=h1;exact⟨o,e⟩
   obtain⟨o,e⟩:=this
   exact absurd (bP e) (by rw[q];exact gF _)
  refine⟨_,rfl,wpAny_letOwnedTupleGo_enum z' λFd Fe sb=>?_⟩
  have Ff:∀c∈[z],i9 X pins (upd H s.heap.objs.size (.tup [.int i,x])) c:=λc hc=>by
   have e:c=z:=by simpa using hc
   subst e
   obtain⟨f0,fr⟩:=hf c (by simp)
   exact⟨by rw[aZ (nT c (by simp))];exact f0,fr⟩
  have I2:=Inv.Bh (h':=Fd) (its:=[z]) (t':=s.toks+1) I1 (λc o hc e=>sb.extBut _ _ (λq=>hc (by simp[q])) e) Ff
  refine⟨.ref s.heap.objs.size,_,I2,rfl,⟨_,x,rfl,fT,rfl,λxs' cY=>by rw[I.AL cY hx];exact ex⟩,⟨⟨ux,by simpa using Fe⟩,j9.extBut sb.extBut (fE mh)⟩,λc hc=>?_⟩
  rw[aZ (nT c hc)]
  exact(hf c hc).1
 ·intro X hP hw hK hc i pins s σ H E I hf st hg
  subst hP hw hK
  obtain⟨xs,hx,hl⟩:=hg
  obtain⟨⟨old,hz⟩,h1⟩:=st
  obtain⟨as,ra,pa,_⟩:=I.list hx
  have la:=ra.length
  refine wpAny_pyNext_enum_end (I.ok.hd hc) hz h1 pa.isList (by simp;omega) λh' kk=>⟨rfl,?_⟩
  exact I.Bh (its:=[it]) (t':=s.toks) (λc o hc e=>kk c o (λq=>hc (by simp[q])) e) (λc hc=>hf c (by simp at hc ⊢;simp[hc]))
end
section
variable{X:Cx}{a b:Expr}{ta:TA}{p pos qv:Pos}{elts:List Expr}{x1:Nat}
def cP2(K:PySem.W.Frag)(ta:TA):TI:=λσ H R=>ta σ H λvs H1=>∃a b,vs=[.ref a,.ref b]/\(∃xs,bK K H1 a xs)/\(∃ys,bK K H1 b ys)/\R (E9 K a b) H1
theorem cd8:bootBuiltins "zip"=some (.type "zip"):=by decide +kernel
theorem cD4(hg:Gl X "zip")(hm:X.mg "zip"=none)(ha:PA X [a,b] ta)(hs:starEach [a,b] X.env=[(false,eval a X.env),(false,eval b X.env)]:=by rfl)(ft:starEach [b] X.env=[(false,eval b X.env)]:=by rfl) :
  PI X (.Tuple elts x1 qv) (.Call (.Name "zip" p) [a,b] [] pos) (cP2 X.K ta):=by
 intro pins s σ H R I h
 refine Call_ (qj I hg hm cd8 (Aa (aR (ha pos pins s σ H _ I h) λus s1 zq=>?_) (by rw[hs,ft]) (by rw[ft];rfl)))
 obtain⟨vs,H1,I1,r1,q1⟩:=zq
 obtain⟨a,b,e,⟨xs,hx⟩,⟨ys,hy⟩,q⟩:=q1
 subst e
 cases r1 with
 | cons r rr =>
  cases rr with
  | cons r2 rr =>
   cases rr
   cases r
   cases r2
   obtain⟨as,ra,pa,_⟩:=I1.list hx
   obtain⟨bs,rb,pb,_⟩:=I1.list hy
   refine call_zip_2 pa.isList pb.isList λh' hz kH jh h1 h2 sz kk=>wpAny_pyIter_zip hz ?_
   refine⟨_,[s1.heap.objs.size+4,s1.heap.objs.size+2,s1.heap.objs.size+3,s1.heap.objs.size,s1.heap.objs.size+1],_,_,H1,rfl,I1.kept (t':=s1.toks) kk,cb4 a b _ _ _ _ _ (by simp),⟨hz,kH,⟨_,_,jh⟩,h1,h2⟩,λc hc=>?_,q⟩
   have hle:s1.heap.objs.size<=c:=by
    simp only[cu,iZ,or_false]at hc
    rcases hc with rfl | rfl | rfl | rfl | rfl<;>omega
   exact I1.AQ hle (I1.aK.fresh hle)
def cI0(K:PySem.W.Frag)(ta:TA):TI:=λσ H R=>ta σ H λvs H1=>∃a,vs=[.ref a]/\(∃xs,bK K H1 a xs)/\R (Fg K a) H1
theorem bx7:bootBuiltins "enumerate"=some (.type "enumerate"):=by decide +kernel
theorem cs8(hg:Gl X "enumerate")(hm:X.mg "enumerate"=none)(ha:PA X [a] ta)(hs:starEach [a] X.env=[(false,eval a X.env)]:=by rfl) :
  PI X (.Tuple elts x1 qv) (.Call (.Name "enumerate" p) [a] [] pos) (cI0 X.K ta):=by
 intro pins s σ H R I h
 refine Call_ (qj I hg hm bx7 (Aa (aR (ha pos pins s σ H _ I h) λus s1 zq=>?_) hs rfl))
 obtain⟨vs,H1,I1,r1,q1⟩:=zq
 obtain⟨a,e,⟨xs,hx⟩,q⟩:=q1
 subst e
 cases r1 with
 | cons r rr =>
  cases rr
  cases r
  obtain⟨as,ra,pa,_⟩:=I1.list hx
  refine call_enumerate_list pa.isList λh' hz h1 sz kk=>wpAny_pyIter_enum hz ?_
  refine⟨_,[s1.heap.objs.size+1,s1.heap.objs.size],_,_,H1,rfl,I1.kept (t':=s1.toks) kk,bX4 a (s1.heap.objs.size+1) s1.heap.objs.size (Nat.succ_ne_self _),⟨⟨_,hz⟩,h1⟩,λc hc=>?_,q⟩
  have hle:s1.heap.objs.size<=c:=by
   simp only[cu,iZ,or_false]at hc
   rcases hc with rfl | rfl<;>omega
  exact I1.AQ hle (I1.aK.fresh hle)
end
end L2
namespace L2
open PySem PySem.Spec PyProof.Rows PySem.W PySem.Calls
section
variable{X:Cx}
def ud{α:Type}(xs:List α)(lo hi:Option Int):List α:=(xs.drop (HT.df xs.length 0 lo)).take (HT.df xs.length xs.length hi-HT.df xs.length 0 lo)
theorem b42(x:Str)(lo hi:Option Int):Txt.slice x lo hi=⟨(ud x.cps.toList lo hi).toArray⟩:=by
 have hx:x.length=x.cps.size:=rfl
 have e:(D4 lo hi 1 x.length).filterMap (x.cps[·]?)=ud x.cps.toList lo hi:=by
  obtain⟨h1,h2,h3⟩:=EL lo hi x.length
  have e0:D4 lo hi 1 x.length=sliceRange (sliceBounds lo hi none x.length).1 (sliceBounds lo hi none x.length).2.1 1:=by
   cases lo<;>cases hi<;>rfl
  rw[e0,h1,h2]
  simp only[sliceRange_one,pick_run]
  unfold ud
  rw[hx,wA]
 unfold Txt.slice
 split
 ·rename_i h
  have hl:(D4 lo hi 1 x.length).length=x.length:=by
   rw[eC]at h;exact eq_of_beq h.2
  have hs:(ud x.cps.toList lo hi)=x.cps.toList:=by
   have e2:HT.df x.cps.toList.length x.cps.toList.length hi-HT.df x.cps.toList.length 0 lo=x.length:=by
    obtain⟨h1,h2,h3⟩:=EL lo hi x.length
    have e0:D4 lo hi 1 x.length=sliceRange (sliceBounds lo hi none x.length).1 (sliceBounds lo hi none x.length).2.1 1:=by
     cases lo<;>cases hi<;>rfl
    rw[e0,h1,h2]at hl
    simp only[sliceRange_one,bt,bZ]at hl
    rw[wA,<- hx]
    omega
   unfold ud
   have le:HT.df x.cps.toList.length x.cps.toList.length hi<=x.cps.toList.length:=by
    cases hi with
    | none=>simp[HT.df]
    | some i=>simp only[HT.df];split<;>omega
   have le2:HT.df x.cps.toList.length 0 lo<=x.cps.toList.length:=by
    cases lo with
    | none=>simp[HT.df]
    | some i=>simp only[HT.df];split<;>omega
   rw[wA,<- hx]at e2 le le2 ⊢
   have z:HT.df x.length 0 lo=0:=by omega
   have z2:HT.df x.length x.length hi=x.length:=by omega
   rw[z,z2,List.drop_zero,Nat.sub_zero,hx,<- wA,tI]
  rw[hs]
 ·rw[e]
theorem cy3:qA X (λx lo hi H Q=>∃z,x=.str z/\z.length<=sizeLine/\Q (.str ⟨(ud z.cps.toList lo hi).toArray⟩) H):=by
 intro pins s σ H x v vl vu lo hi sl Q I rx hs pl pu h
 obtain⟨z,rfl,hz,q⟩:=h
 obtain⟨t,rfl⟩:=rx
 refine⟨"str",_,F.slot_str_getitem.lookup,typeIs_str _ _ _,?_⟩
 have fin:∀(l u:Option (Int × Tok)),l.map (·.1)=lo->u.map (·.1)=hi->partValue l=vl->partValue u=vu->wpAny (model X.prog X.w) X.A (getItem (.str z t) (.ref sl)) (EP X pins σ Q) X.xe s:=by
  intro l u h1 h2 h3 h4
  obtain⟨o,e1,e2,e3⟩:=hs
  refine wpAny_getItem_str_slice (l:=l) (u:=u) (st:=none) ⟨o,e1,e2,by rw[e3,h3,h4];rfl⟩ rfl ?_
  have e:Txt.slice z lo hi=(if(((none:Option (Int × Tok)).map (·.1)).getD 1==1&&(slicePicked z l u none).length==z.length)=true then z else⟨((slicePicked z l u none).filterMap (z.cps[·]?)).toArray⟩):=by
   unfold Txt.slice slicePicked;rw[h1,h2];rfl
  refine post_val_or_str ⟨?_,λt' k=>?_⟩
  ·rw[<-e];exact fk (Txt.slice_le z _ _) hz
  ·rw[<-e,b42];exact⟨.str _,H,I.tok _,⟨_,rfl⟩,q⟩
 cases pl with
 | none =>
  cases pu with
  | none=>exact fin none none rfl rfl rfl rfl
  | int j tj=>exact fin none (some (j,tj)) rfl rfl rfl rfl
 | int i ti =>
  cases pu with
  | none=>exact fin (some (i,ti)) none rfl rfl rfl rfl
  | int j tj=>exact fin (some (i,ti)) (some (j,tj)) rfl rfl rfl rfl
end
end L2
namespace L3
open PySem L2
def ji:HO->Bool
 | .dA _=>false
 | _=>true
structure af(H H':Hp):Prop where
 get:∀b o,H b=some o->(h:ji o=true:=by rfl)->H' b=some o
 tb:∀b ps,H b=some (.dA ps)->∃more,H' b=some (.dA (ps++more))
instance {H H':Hp}:CoeFun (af H H') λ_=>∀b o,H b=some o->(h:ji o=true:=by rfl)->H' b=some o:=⟨λs=>@af.get _ _ s⟩
theorem Fh{o:HO}(h:ji o=false):∃ps,o=.dA ps:=by
 cases o with
 | dA ps=>exact⟨ps,rfl⟩
 | _=>cases h
theorem af.of{H H':Hp}(h:∀b o,H b=some o->H' b=some o):af H H':=⟨λb o e _=>h b o e,λb ps e=>⟨#[],by rw[h b _ e];simp⟩⟩
theorem af.refl(H:Hp):af H H:=.of λ_ _ h=>h
theorem af.trans{H H1 H2:Hp}(a:af H H1)(b:af H1 H2):af H H2 :=
 ⟨λc o h n=>b.get c o (a.get c o h n) n,λc ps h=>by
  obtain⟨m1,e1⟩:=a.tb c ps h
  obtain⟨m2,e2⟩:=b.tb c _ e1
  exact⟨m1++m2,by rw[e2,sV]⟩⟩
theorem af.any{H H':Hp}(e:af H H'){l:Addr}{o:HO}(h:H l=some o):∃o',H' l=some o':=by
 cases n:ji o with
 | true=>exact⟨o,e.get l o h n⟩
 | false =>
  obtain⟨ps,rfl⟩:=Fh n
  obtain⟨m,q⟩:=e.tb l ps h
  exact⟨_,q⟩
theorem af.free{H H':Hp}(e:af H H'){l:Addr}(h:H' l=Option.none):H l=Option.none:=by
 cases q:H l with
 | none=>rfl
 | some o =>
  obtain⟨o',z⟩:=e.any q
  rw[z]at h
  cases h
inductive ue where
 | ext (φ:Addr->Heap->Prop)
 | lam (of oc:Obj) (c k:Addr)
instance:Coe (Addr->Heap->Prop) ue:=⟨.ext⟩
def Fj(H:Hp)(k:Addr):Prop:=∃ψ,H k=some (.ext ψ)/\∀h,ψ h->∃q,h.CodeRec (.ref k) q
def jE(of oc:Obj)(c p:Addr):Heap->Prop:=λh=>h.get? p=some of/\h.get? c=some oc
structure ka(H:Hp)(p:Addr)(of oc:Obj)(c k:Addr):Prop where
 fn:H p=some (.ext (jE of oc c p))
 cell:H c=some (.own p)
 Fl:Fj H k
def qG(H:Hp)(p:Addr):ue->Prop
 | .ext φ=>H p=some (.ext (φ p))
 | .lam of oc c k=>ka H p of oc c k
theorem qG.mono{H H':Hp}{p:Addr}:∀{z:ue},qG H p z->(∀a o,H a=some o->(∀ws,o≠.lst ws)->ji o=true->H' a=some o)->qG H' p z
 | .ext φ,x,k=>k _ _ x (λws q=>by cases q) rfl
 | .lam of oc c k',x,k=>⟨k _ _ x.fn (λws q=>by cases q) rfl,k _ _ x.cell (λws q=>by cases q) rfl,let⟨ψ,e,h⟩:=x.Fl;⟨ψ,k _ _ e (λws q=>by cases q) rfl,h⟩⟩
inductive D where
 | av | bl (b:Bool) | int (i:Int) | str (x:Str)
 | lst (o:Bool) (xs:List D)
 | tup (xs:List D)
 | obj (C:Addr) (ns:List Str) (xs:List D)
 | fz (xs:List D)
 | bE (z:ue)
 deriving Inhabited
def D.pl:D->Bool
 | .lst o xs=>!o&&xD xs
 | .tup xs=>xD xs
 | _=>true
where xD:List D->Bool
 | []=>true
 | d::ds=>d.pl&&xD ds
def D.fr:D->Bool
 | .lst o xs=>o&&xE xs
 | .tup xs=>xE xs
 | .obj _ _ _=>false
 | .fz _=>false
 | _=>true
where xE:List D->Bool
 | []=>true
 | d::ds=>d.fr&&xE ds
def D.sh:D->D
 | .lst _ xs=>.lst false (xF xs)
 | .tup xs=>.tup (xF xs)
 | d=>d
where xF:List D->List D
 | []=>[]
 | d::ds=>d.sh::xF ds
theorem PX(ds:List D):D.pl.xD ds=ds.all D.pl:=by induction ds with | nil=>rfl | cons d ds ih=>simp[D.pl.xD,ih]
theorem PY(ds:List D):D.fr.xE ds=ds.all D.fr:=by induction ds with | nil=>rfl | cons d ds ih=>simp[D.fr.xE,ih]
theorem PZ(ds:List D):D.sh.xF ds=ds.map D.sh:=by induction ds with | nil=>rfl | cons d ds ih=>simp[D.sh.xF,ih]
theorem fW(o:Bool)(xs:List D):(D.lst o xs).pl=(!o&&xs.all D.pl):=by simp[D.pl,PX]
theorem kI(xs:List D):(D.tup xs).pl=xs.all D.pl:=by simp[D.pl,PX]
theorem fJ(o:Bool)(xs:List D):(D.lst o xs).fr=(o&&xs.all D.fr):=by simp[D.fr,PY]
theorem qH(xs:List D):(D.tup xs).fr=xs.all D.fr:=by simp[D.fr,PY]
theorem dM(o:Bool)(xs:List D):(D.lst o xs).sh=.lst false (xs.map D.sh):=by simp[D.sh,PZ]
theorem mi(xs:List D):(D.tup xs).sh=.tup (xs.map D.sh):=by simp[D.sh,PZ]
inductive R(F H:Hp):List D->List V->List Addr->Prop
 | nil:R F H [] [] []
 | av {ds vs B}:R F H ds vs B->R F H (.av::ds) (.av::vs) B
 | bl {b ds vs B}:R F H ds vs B->R F H (.bl b::ds) (.bl b::vs) B
 | int {i ds vs B}:R F H ds vs B->R F H (.int i::ds) (.int i::vs) B
 | str {x ds vs B}:R F H ds vs B->R F H (.str x::ds) (.str x::vs) B
 | shr {p ws xs ds vs B}:F p=some (.lst ws)->R F H xs ws []->R F H ds vs B->R F H (.lst false xs::ds) (.ref p::vs) B
 | own {p ws xs A ds vs B}:H p=some (.lst ws)->F p=none->R F H xs ws A->R F H ds vs B->R F H (.lst true xs::ds) (.ref p::vs) (p::(A++B))
 | tup {p ws xs A ds vs B}:H p=some (.tup ws)->R F H xs ws A->R F H ds vs B->R F H (.tup xs::ds) (.ref p::vs) (A++B)
 | obj {p C dx ns ws xs ds vs B}:H p=some (.ins C dx (ns.zip ws))->ns.length=ws.length->R F H xs ws []->R F H ds vs B->R F H (.obj C ns xs::ds) (.ref p::vs) B
 | fz {p o ws xs ds vs B}:F p=some (.br o (.lst ws))->R F H xs ws []->R F H ds vs B->R F H (.fz xs::ds) (.ref p::vs) B
 | bE {p z ds vs B}:qG H p z->R F H ds vs B->R F H (.bE z::ds) (.ref p::vs) B
inductive S(F H:Hp):List D->List V->Prop
 | nil:S F H [] []
 | av {ds vs}:S F H ds vs->S F H (.av::ds) (.av::vs)
 | bl {b ds vs}:S F H ds vs->S F H (.bl b::ds) (.bl b::vs)
 | int {i ds vs}:S F H ds vs->S F H (.int i::ds) (.int i::vs)
 | str {x ds vs}:S F H ds vs->S F H (.str x::ds) (.str x::vs)
 | shr {p ws xs ds vs}:F p=some (.lst ws)->R F H xs ws []->S F H ds vs->S F H (.lst false xs::ds) (.ref p::vs)
 | own {p ws xs ds vs}:H p=some (.lst ws)->S F H xs ws->S F H ds vs->S F H (.lst true xs::ds) (.ref p::vs)
 | tup {p ws xs ds vs}:H p=some (.tup ws)->S F H xs ws->S F H ds vs->S F H (.tup xs::ds) (.ref p::vs)
 | obj {p C dx ns ws xs ds vs}:H p=some (.ins C dx (ns.zip ws))->ns.length=ws.length->R F H xs ws []->S F H ds vs->S F H (.obj C ns xs::ds) (.ref p::vs)
 | fz {p o ws xs ds vs}:F p=some (.br o (.lst ws))->R F H xs ws []->S F H ds vs->S F H (.fz xs::ds) (.ref p::vs)
 | bE {p z ds vs}:qG H p z->S F H ds vs->S F H (.bE z::ds) (.ref p::vs)
section
variable{F F' H H':Hp}{d:D}{ds es:List D}{v:V}{vs ws:List V}{A B:List Addr}
theorem R.length(r:R F H ds vs A):ds.length=vs.length:=by
 induction r<;>simp_all
theorem S.length(r:S F H ds vs):ds.length=vs.length:=by
 induction r<;>simp_all
theorem R.jF{vs:List V}{A:List Addr}(r:R F H [] vs A):vs=[]/\A=[]:=by cases r;exact⟨rfl,rfl⟩
def Rv(F H:Hp)(ds:List D)(v:V)(vs:List V)(B:List Addr):D->Prop
 | .lst true xs=>∃p ws A B',v=.ref p/\H p=some (.lst ws)/\F p=none/\R F H xs ws A/\R F H ds vs B'/\B=p::(A++B')
 | .tup xs=>∃p ws A B',v=.ref p/\H p=some (.tup ws)/\R F H xs ws A/\R F H ds vs B'/\B=A++B'
 | _=>R F H ds vs B
theorem R.rv{d:D}{ds:List D}{v:V}{vs:List V}{B:List Addr}(r:R F H (d::ds) (v::vs) B):Rv F H ds v vs B d:=by
 cases r with
 | av q=>exact q
 | bl q=>exact q
 | int q=>exact q
 | str q=>exact q
 | shr _ _ q=>exact q
 | own h f x q=>exact⟨_,_,_,_,rfl,h,f,x,q,rfl⟩
 | tup h x q=>exact⟨_,_,_,_,rfl,h,x,q,rfl⟩
 | obj _ _ _ q=>exact q
 | fz _ _ q=>exact q
 | bE _ q=>exact q
theorem R.cons(r:R F H [d] [v] A)(q:R F H ds vs B):R F H (d::ds) (v::vs) (A++B):=by
 cases r with
 | av r=>rw[r.jF.2];exact .av q
 | bl r=>rw[r.jF.2];exact .bl q
 | int r=>rw[r.jF.2];exact .int q
 | str r=>rw[r.jF.2];exact .str q
 | shr h x r=>rw[r.jF.2];exact .shr h x q
 | own h f x r=>rw[r.jF.2,fm];exact R.own h f x q
 | tup h x r=>rw[r.jF.2,fm];exact R.tup h x q
 | obj h l x r=>rw[r.jF.2];exact .obj h l x q
 | fz h x r=>rw[r.jF.2];exact .fz h x q
 | bE h r=>rw[r.jF.2];exact .bE h q
theorem R.cO(r:R F H (d::ds) vs A):∃v bR A1 A2,vs=v::bR/\A=A1++A2/\R F H [d] [v] A1/\R F H ds bR A2:=by
 cases r with
 | av r=>exact⟨_,_,[],_,rfl,rfl,.av .nil,r⟩
 | bl r=>exact⟨_,_,[],_,rfl,rfl,.bl .nil,r⟩
 | int r=>exact⟨_,_,[],_,rfl,rfl,.int .nil,r⟩
 | str r=>exact⟨_,_,[],_,rfl,rfl,.str .nil,r⟩
 | shr h x r=>exact⟨_,_,[],_,rfl,rfl,.shr h x .nil,r⟩
 | @own p _ _ A1 _ _ B1 h f x r=>exact⟨_,_,p::A1,B1,rfl,rfl,by simpa using R.own h f x .nil,r⟩
 | @tup p _ _ A1 _ _ B1 h x r=>exact⟨_,_,A1,B1,rfl,rfl,by simpa using R.tup h x .nil,r⟩
 | obj h l x r=>exact⟨_,_,[],_,rfl,rfl,.obj h l x .nil,r⟩
 | fz h x r=>exact⟨_,_,[],_,rfl,rfl,.fz h x .nil,r⟩
 | bE h r=>exact⟨_,_,[],_,rfl,rfl,.bE h .nil,r⟩
theorem S.cons(r:S F H [d] [v])(q:S F H ds vs):S F H (d::ds) (v::vs):=by
 cases r with
 | av r=>exact .av q
 | bl r=>exact .bl q
 | int r=>exact .int q
 | str r=>exact .str q
 | shr h x r=>exact .shr h x q
 | own h x r=>exact .own h x q
 | tup h x r=>exact .tup h x q
 | obj h l x r=>exact .obj h l x q
 | fz h x r=>exact .fz h x q
 | bE h r=>exact .bE h q
theorem S.cO(r:S F H (d::ds) vs):∃v bR,vs=v::bR/\S F H [d] [v]/\S F H ds bR:=by
 cases r with
 | av r=>exact⟨_,_,rfl,.av .nil,r⟩
 | bl r=>exact⟨_,_,rfl,.bl .nil,r⟩
 | int r=>exact⟨_,_,rfl,.int .nil,r⟩
 | str r=>exact⟨_,_,rfl,.str .nil,r⟩
 | shr h x r=>exact⟨_,_,rfl,.shr h x .nil,r⟩
 | own h x r=>exact⟨_,_,rfl,.own h x .nil,r⟩
 | tup h x r=>exact⟨_,_,rfl,.tup h x .nil,r⟩
 | obj h l x r=>exact⟨_,_,rfl,.obj h l x .nil,r⟩
 | fz h x r=>exact⟨_,_,rfl,.fz h x .nil,r⟩
 | bE h r=>exact⟨_,_,rfl,.bE h .nil,r⟩
theorem R.append:∀{ds:List D} {vs:List V} {A:List Addr},R F H ds vs A->R F H es ws B->R F H (ds++es) (vs++ws) (A++B)
 | [],_,_,r,q=>by cases r;exact q
 | d::ds,_,_,r,q=>by
  obtain⟨v,bR,A1,A2,rfl,rfl,h1,h2⟩:=r.cO
  simpa using h1.cons (R.append h2 q)
theorem S.append:∀{ds:List D} {vs:List V},S F H ds vs->S F H es ws->S F H (ds++es) (vs++ws)
 | [],_,r,q=>by cases r;exact q
 | d::ds,_,r,q=>by
  obtain⟨v,bR,rfl,h1,h2⟩:=r.cO
  exact h1.cons (S.append h2 q)
theorem R.split:∀{ds:List D} {vs:List V} {A:List Addr},R F H (ds++es) vs A->∃v1 v2 A1 A2,vs=v1++v2/\A=A1++A2/\R F H ds v1 A1/\R F H es v2 A2
 | [],vs,A,r=>⟨[],vs,[],A,rfl,rfl,.nil,r⟩
 | d::ds,_,_,r=>by
  obtain⟨v,bR,A1,A2,rfl,rfl,h1,h2⟩:=R.cO (ds:=ds++es) r
  obtain⟨v1,v2,B1,B2,rfl,rfl,h3,h4⟩:=R.split (ds:=ds) h2
  exact⟨v::v1,v2,A1++B1,B2,rfl,by simp,h1.cons h3,h4⟩
theorem R.get:∀{ds:List D} {vs:List V} {A:List Addr} {i:Nat},R F H ds vs A->ds[i]?=some d->∃v A1,vs[i]?=some v/\R F H [d] [v] A1/\A1 ⊆ A
 | [],_,_,_,_,e=>by simp at e
 | d'::ds,_,_,i,r,e=>by
  obtain⟨v,bR,A1,A2,rfl,rfl,h1,h2⟩:=r.cO
  cases i with
  | zero=>simp at e;subst e;exact⟨v,A1,rfl,h1,by simp⟩
  | succ i =>
   obtain⟨w,B1,e2,q,sb⟩:=R.get (ds:=ds) (i:=i) h2 (by simpa using e)
   exact⟨w,B1,by simpa using e2,q,λx hx=>cZ _ (sb hx)⟩
theorem S.get:∀{ds:List D} {vs:List V} {i:Nat},S F H ds vs->ds[i]?=some d->∃v,vs[i]?=some v/\S F H [d] [v]
 | [],_,_,_,e=>by simp at e
 | d'::ds,_,i,r,e=>by
  obtain⟨v,bR,rfl,h1,h2⟩:=r.cO
  cases i with
  | zero=>simp at e;subst e;exact⟨v,rfl,h1⟩
  | succ i =>
   obtain⟨w,e2,q⟩:=S.get (ds:=ds) (i:=i) h2 (by simpa using e)
   exact⟨w,by simpa using e2,q⟩
theorem S.get':∀{ds:List D} {vs:List V} {i:Nat},S F H ds vs->vs[i]?=some v->∃d,ds[i]?=some d/\S F H [d] [v]
 | [],_,_,r,e=>by cases r;simp at e
 | d'::ds,_,i,r,e=>by
  obtain⟨v,bR,rfl,h1,h2⟩:=r.cO
  cases i with
  | zero=>simp at e;subst e;exact⟨d',rfl,h1⟩
  | succ i =>
   obtain⟨w,e2,q⟩:=S.get' (ds:=ds) (i:=i) h2 (by simpa using e)
   exact⟨w,by simpa using e2,q⟩
theorem S.take:∀{ds:List D} {vs:List V} (n:Nat),S F H ds vs->S F H (ds.take n) (vs.take n)
 | _,_,0,r=>by simpa using S.nil
 | [],_,n+1,r=>by cases r;exact .nil
 | d::ds,_,n+1,r=>by
  obtain⟨v,bR,rfl,h1,h2⟩:=r.cO
  exact h1.cons (S.take n h2)
theorem S.drop:∀{ds:List D} {vs:List V} (n:Nat),S F H ds vs->S F H (ds.drop n) (vs.drop n)
 | _,_,0,r=>by simpa using r
 | [],_,n+1,r=>by cases r;exact .nil
 | d::ds,_,n+1,r=>by
  obtain⟨v,bR,rfl,h1,h2⟩:=r.cO
  exact S.drop n h2
theorem iK{p:Addr}{o:HO}(h:Rd F p o)(s:af F F')(n:ji o=true:=by rfl):Rd F' p o:=by
 rcases h with h | ⟨u,h⟩
 ·exact .inl (s.get _ _ h n)
 ·exact .inr ⟨u,s _ _ h⟩
theorem R.s(r:R F H ds vs A):S F H ds vs:=by
 induction r with
 | nil=>exact .nil
 | av _ ih=>exact .av ih
 | bl _ ih=>exact .bl ih
 | int _ ih=>exact .int ih
 | str _ ih=>exact .str ih
 | shr h x _ _ ih=>exact .shr h x ih
 | own h f _ _ i1 i2=>exact .own h i1 i2
 | tup h _ _ i1 i2=>exact .tup h i1 i2
 | obj h l x _ _ ih=>exact .obj h l x ih
 | fz h x _ _ ih=>exact .fz h x ih
 | bE h _ ih=>exact .bE h ih
structure fK(W:List Addr)(H H':Hp):Prop where
 get:∀a o,H a=some o->a ∉ W->(h:ji o=true:=by rfl)->H' a=some o
instance {W:List Addr} {H H':Hp}:CoeFun (fK W H H') λ_=>∀a o,H a=some o->a ∉ W->(h:ji o=true:=by rfl)->H' a=some o:=⟨λs=>@fK.get _ _ _ s⟩
def gu(W:List Addr)(H:Hp):Prop:=∀a∈W,∃ws,H a=some (.lst ws)
theorem R.keep{W:List Addr}(hf:af F F')(hb:fK W H H')(hl:gu W H)(r:R F H ds vs A)(hn:∀a∈A,F' a=none)(hd:∀a∈A,a ∉ W):R F' H' ds vs A:=by
 induction r with
 | nil=>exact .nil
 | av _ ih=>exact .av (ih hn hd)
 | bl _ ih=>exact .bl (ih hn hd)
 | int _ ih=>exact .int (ih hn hd)
 | str _ ih=>exact .str (ih hn hd)
 | shr h x _ i1 ih=>exact .shr (hf _ _ h) (i1 (by simp) (by simp)) (ih hn hd)
 | own h f _ _ i1 i2 =>
  refine .own (hb _ _ h (hd _ (by simp))) (hn _ (by simp)) (i1 (λa ha=>hn a ?_) λa ha=>hd a ?_) (i2 (λa ha=>hn a ?_) λa ha=>hd a ?_)<;>simp[ha]
 | @tup p ws _ _ _ _ _ h _ _ i1 i2 =>
  refine .tup (hb _ _ h λz=>?_) (i1 (λa ha=>hn a ?_) λa ha=>hd a ?_) (i2 (λa ha=>hn a ?_) λa ha=>hd a ?_)<;>try simp[ha]
  obtain⟨q,e⟩:=hl _ z
  rw[h]at e;cases e
 | obj h l x _ i1 ih =>
  refine .obj (hb _ _ h λz=>?_) l (i1 (by simp) (by simp)) (ih hn hd)
  obtain⟨q,e⟩:=hl _ z
  rw[h]at e;cases e
 | fz h x _ i1 ih=>exact .fz (hf _ _ h) (i1 (by simp) (by simp)) (ih hn hd)
 | bE h _ ih =>
  exact .bE (h.mono λa o e n t=>hb.get a o e (λz=>by
   obtain⟨q,e'⟩:=hl _ z
   rw[e]at e';cases e';exact n _ rfl) t) (ih hn hd)
theorem fK.same(h:af H H'):fK [] H H':=⟨λa o e _ n=>h.get a o e n⟩
theorem gu.nil:gu [] H:=λa h=>absurd h (by simp)
theorem R.grow(hf:af F F')(hb:af H H')(r:R F H ds vs A)(hn:∀a∈A,F' a=none):R F' H' ds vs A :=
 r.keep hf (fK.same hb) gu.nil hn (by simp)
theorem R.shared(hf:af F F')(hb:af H H')(r:R F H ds vs []):R F' H' ds vs []:=r.grow hf hb (by simp)
theorem S.mono(hf:af F F')(hb:af H H')(r:S F H ds vs):S F' H' ds vs:=by
 induction r with
 | nil=>exact .nil
 | av _ ih=>exact .av ih
 | bl _ ih=>exact .bl ih
 | int _ ih=>exact .int ih
 | str _ ih=>exact .str ih
 | shr h x _ ih=>exact .shr (hf _ _ h) (x.shared hf hb) ih
 | own h _ _ i1 i2=>exact .own (hb _ _ h) i1 i2
 | tup h _ _ i1 i2=>exact .tup (hb _ _ h) i1 i2
 | obj h l x _ ih=>exact .obj (hb _ _ h) l (x.shared hf hb) ih
 | fz h x _ ih=>exact .fz (hf _ _ h) (x.shared hf hb) ih
 | bE h _ ih=>exact .bE (h.mono λa o e _ t=>hb.get a o e t) ih
theorem S.r(s:S F H ds vs)(p:ds.all D.pl=true):R F H ds vs []:=by
 induction s with
 | nil=>exact .nil
 | av _ ih=>exact .av (ih (by simpa[D.pl]using p))
 | bl _ ih=>exact .bl (ih (by simpa[D.pl]using p))
 | int _ ih=>exact .int (ih (by simpa[D.pl]using p))
 | str _ ih=>exact .str (ih (by simpa[D.pl]using p))
 | shr h x _ ih=>exact .shr h x (ih (by simp[fW]at p;simpa using p.2))
 | own h _ _ i1 i2=>simp[fW]at p
 | tup h _ _ i1 i2 =>
  rw[dq,kI,eC]at p
  simpa using R.tup h (i1 p.1) (i2 p.2)
 | obj h l x _ ih=>exact .obj h l x (ih (by simpa[D.pl]using p))
 | fz h x _ ih=>exact .fz h x (ih (by simpa[D.pl]using p))
 | bE h _ ih=>exact .bE h (ih (by simpa[D.pl]using p))
theorem R.pl(r:R F H ds vs []):ds.all D.pl=true:=by
 generalize e:([]:List Addr)=A at r
 induction r with
 | nil=>rfl
 | av _ ih=>simp[D.pl];simpa using ih e
 | bl _ ih=>simp[D.pl];simpa using ih e
 | int _ ih=>simp[D.pl];simpa using ih e
 | str _ ih=>simp[D.pl];simpa using ih e
 | shr h x _ i1 ih=>simp only[dq,fW,i1 rfl,ih e];rfl
 | own h f _ _ i1 i2=>cases e
 | tup h _ _ i1 i2 =>
  obtain⟨e1,e2⟩:=p8.mp e.symm
  simp only[dq,kI,i1 e1.symm,i2 e2.symm];rfl
 | obj h l x _ i1 ih=>simp[D.pl];simpa using ih e
 | fz h x _ i1 ih=>simp[D.pl];simpa using ih e
 | bE h _ ih=>simp[D.pl];simpa using ih e
theorem D.Bi:∀{d:D},d.pl=true->d.sh=d
 | .av,_=>rfl
 | .bl _,_=>rfl
 | .int _,_=>rfl
 | .str _,_=>rfl
 | .obj _ _ _,_=>rfl
 | .fz _,_=>rfl
 | .bE _,_=>rfl
 | .lst o xs,h=>by
  rw[fW,eC]at h
  have:∀(l:List D),(∀x∈l,x∈xs)->l.all D.pl=true->l.map D.sh=l:=by
   intro l hl hp
   induction l with
   | nil=>rfl
   | cons x l ih =>
    simp only[dq,eC]at hp
    have hx:x∈xs:=hl x (by simp)
    rw[dn,D.Bi hp.1,ih (λy hy=>hl y (by simp[hy])) hp.2]
  rw[dM,this xs (λ_ h=>h) h.2]
  cases o<;>simp_all
 | .tup xs,h=>by
  rw[kI]at h
  have:∀(l:List D),(∀x∈l,x∈xs)->l.all D.pl=true->l.map D.sh=l:=by
   intro l hl hp
   induction l with
   | nil=>rfl
   | cons x l ih =>
    simp only[dq,eC]at hp
    have hx:x∈xs:=hl x (by simp)
    rw[dn,D.Bi hp.1,ih (λy hy=>hl y (by simp[hy])) hp.2]
  rw[mi,this xs (λ_ h=>h) h]
termination_by d=>sizeOf d
theorem mj{l:List D}(h:l.all D.pl=true):l.map D.sh=l:=by
 induction l with
 | nil=>rfl
 | cons x l ih =>
  simp only[dq,eC]at h
  rw[dn,D.Bi h.1,ih h.2]
theorem S.frozen(e:af F H)(s:S F H ds vs):R H H (ds.map D.sh) vs []:=by
 induction s with
 | nil=>exact .nil
 | av _ ih=>exact .av ih
 | bl _ ih=>exact .bl ih
 | int _ ih=>exact .int ih
 | str _ ih=>exact .str ih
 | shr h x _ ih =>
  rw[dn,dM,mj x.pl]
  exact .shr (e _ _ h) (x.shared e (af.refl _)) ih
 | own h _ _ i1 i2=>rw[dn,dM];exact .shr h i1 i2
 | tup h _ _ i1 i2=>rw[dn,mi];simpa using R.tup h i1 i2
 | obj h l x _ ih=>exact .obj h l (x.shared e (af.refl _)) ih
 | fz h x _ ih=>exact .fz (e _ _ h) (x.shared e (af.refl _)) ih
 | bE h _ ih=>exact .bE h ih
def br(F H:Hp)(A:List Addr):Hp:=λa=>if a∈A then H a else F a
theorem ir(e:af F H):af F (br F H A):=⟨λa o h n=>by unfold br;split;exact e.get _ _ h n;exact h,λa ps h=>by unfold br;split;exact e.tb _ _ h;exact⟨#[],by rw[h];simp⟩⟩
theorem nt(e:af F H):af (br F H A) H:=⟨λa o h n=>by unfold br at h;split at h;exact h;exact e.get _ _ h n,λa ps h=>by unfold br at h;split at h;exact⟨#[],by rw[h];simp⟩;exact e.tb _ _ h⟩
theorem oI{a:Addr}(h:a ∉ A):br F H A a=F a:=by unfold br;rw[if_neg h]
theorem cw5{a:Addr}(h:a∈A):br F H A a=H a:=by unfold br;rw[if_pos h]
theorem R.br(e:af F H)(r:R F H ds vs A):∀A',A ⊆ A'->R (L3.br F H A') H (ds.map D.sh) vs []:=by
 induction r with
 | nil=>exact λ_ _=>.nil
 | av _ ih=>exact λA' h=>.av (ih A' h)
 | bl _ ih=>exact λA' h=>.bl (ih A' h)
 | int _ ih=>exact λA' h=>.int (ih A' h)
 | str _ ih=>exact λA' h=>.str (ih A' h)
 | shr h x _ i1 ih =>
  intro A' hA
  rw[dn,dM,mj x.pl]
  exact .shr (ir e _ _ h) (x.shared (ir e) (af.refl _)) (ih A' hA)
 | own h f _ _ i1 i2 =>
  intro A' hA
  rw[dn,dM]
  exact .shr ((cw5 (hA (by simp))).trans h) (i1 A' λa ha=>hA (by simp[ha])) (i2 A' λa ha=>hA (by simp[ha]))
 | tup h _ _ i1 i2 =>
  intro A' hA
  rw[dn,mi]
  simpa using R.tup h (i1 A' λa ha=>hA (by simp[ha])) (i2 A' λa ha=>hA (by simp[ha]))
 | obj h l x _ i1 ih=>exact λA' hA=>.obj h l (x.shared (ir e) (af.refl _)) (ih A' hA)
 | fz h x _ i1 ih=>exact λA' hA=>.fz (ir e _ _ h) (x.shared (ir e) (af.refl _)) (ih A' hA)
 | bE h _ ih=>exact λA' hA=>.bE h (ih A' hA)
theorem R.lists(r:R F H ds vs A):∀a∈A,(∃ws,H a=some (.lst ws))/\F a=none:=by
 induction r with
 | nil=>simp
 | av _ ih=>exact ih
 | bl _ ih=>exact ih
 | int _ ih=>exact ih
 | str _ ih=>exact ih
 | shr h x _ i1 ih=>exact ih
 | own h f _ _ i1 i2 =>
  intro a ha
  rcases cu.mp ha with rfl | ha
  ·exact⟨⟨_,h⟩,f⟩
  ·exact(bX.mp ha).elim (i1 a) (i2 a)
 | tup h _ _ i1 i2=>exact λa ha=>(bX.mp ha).elim (i1 a) (i2 a)
 | obj h l x _ i1 ih=>exact ih
 | fz h x _ i1 ih=>exact ih
 | bE h _ ih=>exact ih
theorem R.qI(r:R F H ds vs A)(hd:ds.all D.fr=true)(e:af F' F):R F' H ds vs A:=by
 induction r with
 | nil=>exact .nil
 | av _ ih=>exact .av (ih (by simpa[D.fr]using hd))
 | bl _ ih=>exact .bl (ih (by simpa[D.fr]using hd))
 | int _ ih=>exact .int (ih (by simpa[D.fr]using hd))
 | str _ ih=>exact .str (ih (by simpa[D.fr]using hd))
 | shr h x _ i1 ih=>simp[fJ]at hd
 | own h f _ _ i1 i2 =>
  rw[dq,fJ,eC,lK]at hd
  exact .own h (e.free f) (i1 hd.1) (i2 hd.2)
 | tup h _ _ i1 i2 =>
  rw[dq,qH,eC]at hd
  exact .tup h (i1 hd.1) (i2 hd.2)
 | obj h l x _ i1 ih=>simp[D.fr]at hd
 | fz h x _ i1 ih=>simp[D.fr]at hd
 | bE h _ ih=>exact .bE h (ih (by simpa[D.fr]using hd))
theorem R.inj(r:R F H ds vs A):∀{B:List Addr},R F H ds vs B->A=B:=by
 induction r with
 | nil=>exact λq=>q.jF.2.symm
 | av _ ih=>exact λq=>ih q.rv
 | bl _ ih=>exact λq=>ih q.rv
 | int _ ih=>exact λq=>ih q.rv
 | str _ ih=>exact λq=>ih q.rv
 | shr h x _ i1 ih=>exact λq=>ih q.rv
 | own h f _ _ i1 i2 =>
  intro B q
  obtain⟨p,ws,A,B',e,h',f',x',q',rfl⟩:=q.rv
  cases e
  rw[h]at h';cases h'
  rw[i1 x',i2 q']
 | tup h _ _ i1 i2 =>
  intro B q
  obtain⟨p,ws,A,B',e,h',x',q',rfl⟩:=q.rv
  cases e
  rw[h]at h';cases h'
  rw[i1 x',i2 q']
 | obj h l x _ i1 ih=>exact λq=>ih q.rv
 | fz h x _ i1 ih=>exact λq=>ih q.rv
 | bE h _ ih=>exact λq=>ih q.rv
theorem R.perm{ps qs:List (D × V)}(hp:ps.Perm qs):∀{A:List Addr},R F H (ps.map (·.1)) (ps.map (·.2)) A->∃A',R F H (qs.map (·.1)) (qs.map (·.2)) A'/\A.Perm A':=by
 induction hp with
 | nil=>exact λr=>⟨_,r,.refl _⟩
 | cons x _ ih =>
  intro A r
  obtain⟨v,bR,A1,A2,e,rfl,h1,h2⟩:=R.cO r
  obtain⟨rfl,rfl⟩:=mS e
  obtain⟨A',r',p⟩:=ih h2
  exact⟨A1++A',h1.cons r',p.append_left _⟩
 | swap x y l =>
  intro A r
  obtain⟨v,bR,A1,A2,e,rfl,h1,h2⟩:=R.cO r
  obtain⟨rfl,rfl⟩:=mS e
  obtain⟨v2,Fm,B1,B2,e,rfl,h3,h4⟩:=R.cO h2
  obtain⟨rfl,rfl⟩:=mS e
  exact⟨B1++(A1++B2),h3.cons (h1.cons h4),by rw[<-c9,<- c9];exact om.append_right _⟩
 | trans _ _ i1 i2 =>
  intro A r
  obtain⟨A',r',p⟩:=i1 r
  obtain⟨A2,r2,p2⟩:=i2 r'
  exact⟨A2,r2,p.trans p2⟩
def Full(F H:Hp):Prop:=∀a o,H a=some o->(∀ws,o≠.lst ws)->F a=some o
theorem Full.refl(H:Hp):Full H H:=λ_ _ h _=>h
theorem R.full(hF:Full F H)(hs:af F H')(r:R F H ds vs A)(e:A=[]):R F H' ds vs []:=by
 induction r with
 | nil=>exact .nil
 | av _ ih=>exact .av (ih e)
 | bl _ ih=>exact .bl (ih e)
 | int _ ih=>exact .int (ih e)
 | str _ ih=>exact .str (ih e)
 | shr h x _ i1 ih=>exact .shr h (i1 rfl) (ih e)
 | own h f _ _ i1 i2=>cases e
 | tup h _ _ i1 i2 =>
  obtain⟨e1,e2⟩:=p8.mp e
  exact R.tup (A:=[]) (B:=[]) (hs _ _ (hF _ _ h (by intro ws z;cases z))) (i1 e1) (i2 e2)
 | obj h l x _ i1 ih=>exact .obj (hs _ _ (hF _ _ h (by intro ws z;cases z))) l (i1 rfl) (ih e)
 | fz h x _ i1 ih=>exact .fz h (i1 rfl) (ih e)
 | bE h _ ih=>exact .bE (h.mono λa o e n t=>hs.get a o (hF a o e n) t) (ih e)
open Classical in
def snap(F H:Hp):Hp:=λa=>if(∃o,H a=some o/\∀ws,o≠.lst ws)then H a else F a
theorem uf:Full (snap F H) H:=λa o h n=>by unfold snap;rw[if_pos ⟨o,h,n⟩];exact h
theorem qJ(e:af F H):af F (snap F H):=⟨λa o h n=>by
 unfold snap;split
 ·exact e.get a o h n
 ·exact h,λa ps h=>by
 unfold snap;split
 ·exact e.tb a ps h
 ·exact⟨#[],by rw[h];simp⟩⟩
theorem cf2(e:af F H):af (snap F H) H:=⟨λa o h n=>by
 unfold snap at h;split at h
 ·exact h
 ·exact e.get a o h n,λa ps h=>by
 unfold snap at h;split at h
 ·exact⟨#[],by rw[h];simp⟩
 ·exact e.tb a ps h⟩
theorem b07(e:af F H){a:Addr}{ws:List V}(h:snap F H a=some (.lst ws)):F a=some (.lst ws):=by
 unfold snap at h;split at h
 ·rename_i z
  obtain⟨o,h1,h2⟩:=z
  rw[h]at h1;exact absurd (cS h1).symm (h2 ws)
 ·exact h
theorem bW6{a:Addr}{ws:List V}(h:H a=some (.lst ws))(n:F a=none):snap F H a=none:=by
 unfold snap;split
 ·rename_i z
  obtain⟨o,h1,h2⟩:=z
  rw[h]at h1;exact absurd (cS h1).symm (h2 ws)
 ·exact n
end
end L3
namespace L3
open PySem L2
abbrev Dl:=List (Option D)
inductive RS(F H:Hp):Dl->St->List Addr->Prop
 | nil:RS F H [] [] []
 | av {δ σ o C}:RS F H δ σ C->RS F H (none::δ) (o::σ) C
 | dN {d v A δ σ C}:R F H [d] [v] A->RS F H δ σ C->RS F H (some d::δ) (some v::σ) (A++C)
theorem gv{A B:List Addr}:(A++B).Nodup↔A.Nodup/\B.Nodup/\∀a∈A,a ∉ B:=by
 rw[List.nodup_append]
 constructor
 ·rintro⟨h1,h2,h3⟩;exact⟨h1,h2,λa ha hb=>h3 a ha a hb rfl⟩
 ·rintro⟨h1,h2,h3⟩;exact⟨h1,h2,λa ha b hb e=>h3 a ha (e ▸ hb)⟩
section
variable{F F' H H':Hp}{d:D}{v:V}{δ:Dl}{σ:St}{A C:List Addr}{i:Nat}
theorem RS.length(r:RS F H δ σ C):δ.length=σ.length:=by induction r<;>simp_all
theorem RS.pick:∀{δ:Dl} {σ:St} {C:List Addr} {i:Nat},RS F H δ σ C->δ[i]?=some (some d)->∃v A C',σ[i]?=some (some v)/\R F H [d] [v] A/\RS F H (δ.set i none) σ C'/\C.Perm (A++C')
 | _,_,_,_,.nil,e=>by simp at e
 | _,_,_,i,.av r,e=>by
  cases i with
  | zero=>simp at e
  | succ i =>
   obtain⟨v,A,C',e1,h1,h2,p⟩:=RS.pick r (by simpa using e)
   exact⟨v,A,C',by simpa using e1,h1,.av h2,p⟩
 | _,_,_,i,.dN (A:=A0) (C:=C0) h r,e=>by
  cases i with
  | zero =>
   simp at e;subst e
   exact⟨_,A0,C0,rfl,h,.av r,.refl _⟩
  | succ i =>
   obtain⟨v,A,C',e1,h1,h2,p⟩:=RS.pick r (by simpa using e)
   refine⟨v,A,A0++C',by simpa using e1,h1,.dN h h2,(p.append_left A0).trans ?_⟩
   rw[<-c9,<- c9]
   exact om.append_right _
theorem RS.fill:∀{δ:Dl} {σ:St} {C:List Addr} {i:Nat},RS F H δ σ C->δ[i]?=some none->σ[i]?=some (some v)->R F H [d] [v] A->∃C',RS F H (δ.set i (some d)) σ C'/\C'.Perm (A++C)
 | _,_,_,_,.nil,e,_,_=>by simp at e
 | _,_,_,i,.av r,e,e2,h=>by
  cases i with
  | zero=>simp at e2;subst e2;exact⟨_,.dN h r,.refl _⟩
  | succ i =>
   obtain⟨C',h1,p⟩:=RS.fill r (by simpa using e) (by simpa using e2) h
   exact⟨C',.av h1,p⟩
 | _,_,_,i,.dN (A:=A0) (C:=C0) h0 r,e,e2,h=>by
  cases i with
  | zero=>simp at e
  | succ i =>
   obtain⟨C',h1,p⟩:=RS.fill r (by simpa using e) (by simpa using e2) h
   refine⟨A0++C',.dN h0 h1,(p.append_left A0).trans ?_⟩
   rw[<-c9,<- c9]
   exact om.append_right _
theorem RS.drop:∀{δ:Dl} {σ:St} {C:List Addr} (i:Nat),RS F H δ σ C->∃C',RS F H (δ.set i none) σ C'/\C'.Sublist C
 | _,_,_,_,.nil=>⟨_,.nil,.refl _⟩
 | _,_,_,i,.av r=>by
  cases i with
  | zero=>exact⟨_,.av r,.refl _⟩
  | succ i=>obtain⟨C',h,s⟩:=RS.drop i r;exact⟨C',.av h,s⟩
 | _,_,_,i,.dN (A:=A0) h0 r=>by
  cases i with
  | zero=>exact⟨_,.av r,List.sublist_append_right _ _⟩
  | succ i=>obtain⟨C',h,s⟩:=RS.drop i r;exact⟨_,.dN h0 h,(NK A0).append s⟩
theorem RS.xG:∀{δ:Dl} {σ:St} {C:List Addr} {i:Nat} (o:Option V),RS F H δ σ C->(δ[i]?=some none\/δ[i]?=none)->RS F H δ (σ.set i o) C
 | _,_,_,_,_,.nil,_=>.nil
 | _,_,_,i,_,.av r,e=>by
  cases i with
  | zero=>exact .av r
  | succ i=>exact .av (RS.xG _ r (by simpa using e))
 | _,_,_,i,_,.dN h0 r,e=>by
  cases i with
  | zero=>simp at e
  | succ i=>exact .dN h0 (RS.xG _ r (by simpa using e))
theorem RS.keep{W:List Addr}(hf:af F F')(hb:fK W H H')(hl:gu W H)(r:RS F H δ σ C)(hn:∀a∈C,F' a=none)(hd:∀a∈C,a ∉ W):RS F' H' δ σ C:=by
 induction r with
 | nil=>exact .nil
 | av _ ih=>exact .av (ih hn hd)
 | dN h _ ih=>exact .dN (h.keep hf hb hl (λa ha=>hn a (by simp[ha])) λa ha=>hd a (by simp[ha])) (ih (λa ha=>hn a (by simp[ha])) λa ha=>hd a (by simp[ha]))
theorem RS.lists(r:RS F H δ σ C):∀a∈C,(∃ws,H a=some (.lst ws))/\F a=none:=by
 induction r with
 | nil=>simp
 | av _ ih=>exact ih
 | dN h _ ih=>exact λa ha=>(bX.mp ha).elim (h.lists a) (ih a)
end
structure Bs where
 H0:Hp
 F0:Hp
structure aq(B:Bs)(F H:Hp)(σ:St)(δ:Dl)(ts:List (D × V)):Prop where
 ext:af F H
 b1:af B.H0 H
 b2:af B.F0 F
 b3:∀a ws,F a=some (.lst ws)->B.F0 a=some (.lst ws)\/B.H0 a=none
 own:∃A C,R F H (ts.map (·.1)) (ts.map (·.2)) A/\RS F H δ σ C/\(A++C).Nodup/\∀a∈A++C,B.H0 a=none
section
variable{B:Bs}{F F' H H':Hp}{d:D}{v:V}{δ:Dl}{σ:St}{ts ps:List (D × V)}{A C W:List Addr}{i:Nat}{p:Addr}{xs ys:List D}{vs ws:List V}
theorem aq.look(c:aq B F H σ δ ts)(e:δ[i]?=some (some d)):∃v,σ[i]?=some (some v)/\S F H [d] [v]:=by
 obtain⟨A,C,r,s,nd,fr⟩:=c.own
 obtain⟨v,A',C',e1,h1,h2,p⟩:=s.pick e
 exact⟨v,e1,h1.s⟩
theorem aq.len(c:aq B F H σ δ ts):δ.length=σ.length:=let⟨_,_,_,s,_⟩:=c.own;s.length
theorem aq.grow(c:aq B F H σ δ ts)(h:af H H'):aq B F H' σ δ ts:=by
 obtain⟨A,C,r,s,nd,fr⟩:=c.own
 exact⟨c.ext.trans h,c.b1.trans h,c.b2,c.b3,A,C,r.grow (af.refl _) h λa ha=>(r.lists a ha).2,s.keep (af.refl _) (fK.same h) gu.nil (λa ha=>(s.lists a ha).2) (by simp),nd,fr⟩
theorem aq.pop(c:aq B F H σ δ ((d,v)::ts)):aq B F H σ δ ts:=by
 obtain⟨A,C,r,s,nd,fr⟩:=c.own
 obtain⟨w,bR,A1,A2,e,rfl,h1,h2⟩:=R.cO r
 obtain⟨rfl,rfl⟩:=mS e
 refine⟨c.ext,c.b1,c.b2,c.b3,A2,C,h2,s,?_,λa ha=>fr a (by simp at ha ⊢;exact .inr ha)⟩
 rw[c9]at nd
 exact(gv.mp nd).2.1
theorem aq.top(c:aq B F H σ δ ((d,v)::ts)):S F H [d] [v]:=by
 obtain⟨A,C,r,s,nd,fr⟩:=c.own
 obtain⟨w,bR,A1,A2,e,rfl,h1,h2⟩:=R.cO r
 obtain⟨rfl,rfl⟩:=mS e
 exact h1.s
theorem aq.pushS(c:aq B F H σ δ ts)(s:S F H [d] [v])(pl:d.pl=true):aq B F H σ δ ((d,v)::ts):=by
 obtain⟨A,C,r,q,nd,fr⟩:=c.own
 exact⟨c.ext,c.b1,c.b2,c.b3,A,C,(s.r (by simp[pl])).cons r,q,nd,fr⟩
theorem af.upd{o:HO}(h:H p=none):af H (upd H p o):=.of λb u e=>by rw[aZ (eO e h)];exact e
theorem aq.pack(c:aq B F H σ δ (ps++ts))(hs:af H H')(k:∀A1,R F H' (ps.map (·.1)) (ps.map (·.2)) A1->A1.Nodup->∃A',R F H' [d] [v] A'/\A'.Nodup/\∀a∈A',a∈A1\/H a=none):aq B F H' σ δ ((d,v)::ts):=by
 obtain⟨A,C,r,s,nd,fr⟩:=c.own
 rw[fo,fo]at r
 obtain⟨v1,v2,A1,A2,e,rfl,h1,h2⟩:=R.split r
 have l1:(ps.map (·.2)).length=v1.length:=by rw[<-h1.length];simp
 obtain⟨rfl,rfl⟩:=wH e l1
 rw[c9]at nd fr
 obtain⟨n1,n2,n3⟩:=gv.mp nd
 have g1:=h1.grow (af.refl F) hs λa ha=>(h1.lists a ha).2
 have g2:=h2.grow (af.refl F) hs λa ha=>(h2.lists a ha).2
 have gs:=s.keep (af.refl F) (fK.same hs) gu.nil (λa ha=>(s.lists a ha).2) (by simp)
 obtain⟨A',r',xH,sub⟩:=k A1 g1 n1
 refine⟨c.ext.trans hs,c.b1.trans hs,c.b2,c.b3,A'++A2,C,r'.cons g2,gs,?_,?_⟩
 ·rw[c9]
  refine gv.mpr ⟨xH,n2,λa ha hb=>?_⟩
  rcases sub a ha with z | z
  ·exact n3 a z hb
  ·rcases bX.mp hb with y | y
   ·obtain⟨⟨_,q⟩,_⟩:=h2.lists a y;rw[z]at q;cases q
   ·obtain⟨⟨_,q⟩,_⟩:=s.lists a y;rw[z]at q;cases q
 ·intro a ha
  rw[c9]at ha
  rcases bX.mp ha with y | y
  ·rcases sub a y with z | z
   ·exact fr a (by simp[z])
   ·exact c.b1.free z
  ·exact fr a (cZ _ y)
theorem aq.Fo(c:aq B F H σ δ ts)(hs:af H H')(r:R F H' [d] [v] A)(nd:A.Nodup)(fr:∀a∈A,H a=none):aq B F H' σ δ ((d,v)::ts) :=
 aq.pack (ps:=[]) c hs λ_ _ _=>⟨A,r,nd,λa ha=>.inr (fr a ha)⟩
theorem aq.oJ(c:aq B F H σ δ ts)(hp:H p=none)(s:S F H xs vs)(pl:xs.all D.pl=true):aq B F (upd H p (.lst vs)) σ δ ((.lst true xs,.ref p)::ts) :=
 c.Fo (af.upd hp) (A:=[p]) (by simpa using R.own bJ (c.ext.free hp) ((s.r pl).shared (af.refl _) (af.upd hp)) .nil) (by simp) (by simp[hp])
theorem aq.cV0(c:aq B F H σ δ (ps++ts))(hp:H p=none):aq B F (upd H p (.lst (ps.map (·.2)))) σ δ ((.lst true (ps.map (·.1)),.ref p)::ts):=by
 refine c.pack (af.upd hp) λA1 r nd=>⟨p::A1,by simpa using R.own bJ (c.ext.free hp) r .nil,jV.mpr ⟨λh=>?_,nd⟩,λa ha=>?_⟩
 ·obtain⟨A,C,r0,_,_,_⟩:=c.own
  rw[fo,fo]at r0
  obtain⟨v1,v2,B1,B2,e,rfl,h1,h2⟩:=R.split r0
  have l1:(ps.map (·.2)).length=v1.length:=by rw[<-h1.length];simp
  obtain⟨rfl,rfl⟩:=wH e l1
  have g1:=h1.grow (af.refl F) (af.upd (o:=.lst (ps.map (·.2))) hp) λa ha=>(h1.lists a ha).2
  have:A1=B1:=R.inj r g1
  subst this
  obtain⟨⟨_,q⟩,_⟩:=h1.lists p h
  rw[hp]at q;cases q
 ·rcases cu.mp ha with rfl | h
  ·exact .inr hp
  ·exact .inl h
theorem aq.cV1(c:aq B F H σ δ (ps++ts))(hp:H p=none):aq B F (upd H p (.tup (ps.map (·.2)))) σ δ ((.tup (ps.map (·.1)),.ref p)::ts) :=
 c.pack (af.upd hp) λA1 r nd=>⟨A1,by simpa using R.tup (F:=F) bJ r .nil,nd,λa ha=>.inl ha⟩
theorem aq.perm(c:aq B F H σ δ ps)(h:ps.Perm ts):aq B F H σ δ ts:=by
 obtain⟨A,C,r,s,nd,fr⟩:=c.own
 obtain⟨A',r',p⟩:=r.perm h
 have pp:=p.append_right C
 exact⟨c.ext,c.b1,c.b2,c.b3,A',C,r',s,pp.nodup_iff.mp nd,λa ha=>fr a (pp.mem_iff.mpr ha)⟩
theorem aq.move(c:aq B F H σ δ ts)(e:δ[i]?=some (some d)):∃v,σ[i]?=some (some v)/\aq B F H σ (δ.set i none) ((d,v)::ts):=by
 obtain⟨A,C,r,s,nd,fr⟩:=c.own
 obtain⟨v,A',C',e1,h1,h2,p⟩:=s.pick e
 have pp:(A++C).Perm ((A'++A)++C'):=by
  refine(p.append_left A).trans ?_
  rw[<-c9]
  exact om.append_right _
 exact⟨v,e1,c.ext,c.b1,c.b2,c.b3,A'++A,C',h1.cons r,h2,pp.nodup_iff.mp nd,λa ha=>fr a (pp.mem_iff.mpr ha)⟩
theorem aq.forget(c:aq B F H σ δ ts)(i:Nat):aq B F H σ (δ.set i none) ts:=by
 obtain⟨A,C,r,s,nd,fr⟩:=c.own
 obtain⟨C',h,sb⟩:=s.drop i
 exact⟨c.ext,c.b1,c.b2,c.b3,A,C',r,h,nd.sublist ((NK A).append sb),λa ha=>fr a (((NK A).append sb).subset ha)⟩
theorem aq.fill(c:aq B F H σ δ ((d,v)::ts))(e:δ[i]?=some none)(e2:σ[i]?=some (some v)):aq B F H σ (δ.set i (some d)) ts:=by
 obtain⟨A,C,r,s,nd,fr⟩:=c.own
 obtain⟨w,bR,A1,A2,e',rfl,h1,h2⟩:=R.cO r
 obtain⟨rfl,rfl⟩:=mS e'
 obtain⟨C',s',p⟩:=s.fill e e2 h1
 have pp:((A1++A2)++C).Perm (A2++C'):=by
  refine((om (l₁:=A1) (l₂:=A2)).append_right C).trans ?_
  rw[c9]
  exact(p.symm).append_left A2
 exact⟨c.ext,c.b1,c.b2,c.b3,A2,C',h2,s',pp.nodup_iff.mp nd,λa ha=>fr a (pp.mem_iff.mpr ha)⟩
theorem aq.xG(c:aq B F H σ δ ts)(o:Option V)(e:δ[i]?=some none\/δ[i]?=none):aq B F H (σ.set i o) δ ts:=by
 obtain⟨A,C,r,s,nd,fr⟩:=c.own
 exact⟨c.ext,c.b1,c.b2,c.b3,A,C,r,s.xG o e,nd,fr⟩
theorem aq.store(c:aq B F H σ δ ((d,v)::ts))(i:Nat):aq B F H (σ.set i (some v)) (δ.set i (some d)) ts:=by
 by_cases hi:i<δ.length
 ·have c1:=c.forget i
  have hs:i<σ.length:=by rw[<-c.len];exact hi
  have e:(δ.set i none)[i]?=some none:=by simp[hi]
  have c2:=(c1.xG (some v) (.inl e)).fill (i:=i) e (by simp[hs])
  rwa [Ai]at c2
 ·have hs:¬ i<σ.length:=by rw[<-c.len];exact hi
  rw[W8 (by omega),W8 (by omega)]
  exact c.pop
theorem aq.mut(c:aq B F H σ δ (ps++ts))(e:δ[i]?=some (some (.lst true xs)))(e2:σ[i]?=some (some (.ref p)))
  (k:∀ws A1 A2,H p=some (.lst ws)->R F H xs ws A1->R F H (ps.map (·.1)) (ps.map (·.2)) A2->(A1++A2).Nodup->∃A',R F H ys vs A'/\A'.Nodup/\∀a∈A',a∈A1++A2) :
  aq B F (upd H p (.lst vs)) σ (δ.set i (some (.lst true ys))) ts:=by
 have hi:i<δ.length:=(iX.mp e).1
 obtain⟨v,e3,c1⟩:=c.move e
 rw[e2]at e3;cases e3
 obtain⟨A,C,r,s,nd,fr⟩:=c1.own
 have r':R F H (([.lst true xs]++ps.map (·.1))++ts.map (·.1)) ((.ref p::ps.map (·.2))++ts.map (·.2)) A:=by simpa using r
 obtain⟨v1,v2,A1,A2,e4,rfl,h1,h2⟩:=R.split r'
 have l1:(V.ref p::ps.map (·.2)).length=v1.length:=by rw[<-h1.length];simp
 obtain⟨rfl,rfl⟩:=wH e4 l1
 obtain⟨p',Bj,B1,B2,ep,hH,hF,hx,hr,rfl⟩:=h1.rv
 cases ep
 ·skip
  rw[c9]at nd fr
  obtain⟨n1,n2,n3⟩:=gv.mp nd
  obtain⟨m1,m2⟩:=jV.mp n1
  obtain⟨A',ra,Fp,sub⟩:=k Bj B1 B2 hH hx hr m2
  have pA:p ∉ A':=λz=>m1 (sub _ z)
  have pR:p ∉ A2++C:=λz=>n3 p (by simp) z
  have but:fK [p] H (upd H p (.lst vs)):=⟨λa o q z _=>by rw[aZ (by simpa using z)];exact q⟩
  have hl:gu [p] H:=λa ha=>by rw[eW.mp ha];exact⟨_,hH⟩
  have g1:=ra.keep (af.refl F) but hl (λa ha=>(ra.lists a ha).2) λa ha z=>pA (by rw[<-eW.mp z];exact ha)
  have g2:=h2.keep (af.refl F) but hl (λa ha=>(h2.lists a ha).2) λa ha z=>pR (by rw[<-eW.mp z];exact eV _ ha)
  have gs:=s.keep (af.refl F) but hl (λa ha=>(s.lists a ha).2) λa ha z=>pR (by rw[<-eW.mp z];exact cZ _ ha)
  have fp:B.H0 p=none:=fr p (by simp)
  have b1:af B.H0 (upd H p (.lst vs)):=⟨λa o q n=>by
   rw[aZ (λz=>by rw[z,fp]at q;cases q)]
   exact c1.b1.get a o q n,λa ps q=>by
   rw[aZ (λz=>by rw[z,fp]at q;cases q)]
   exact c1.b1.tb a ps q⟩
  have ext:af F (upd H p (.lst vs)):=⟨λa o q n=>by
   rw[aZ (λz=>by rw[z,hF]at q;cases q)]
   exact c1.ext.get a o q n,λa ps q=>by
   rw[aZ (λz=>by rw[z,hF]at q;cases q)]
   exact c1.ext.tb a ps q⟩
  have c2:aq B F (upd H p (.lst vs)) σ (δ.set i none) ((.lst true ys,.ref p)::ts):=by
   refine⟨ext,b1,c1.b2,c1.b3,(p::A')++A2,C,R.cons (by simpa using R.own bJ hF g1 .nil) g2,gs,?_,?_⟩
   ·rw[c9]
    refine gv.mpr ⟨jV.mpr ⟨pA,Fp⟩,n2,λa ha hb=>?_⟩
    rcases cu.mp ha with rfl | ha
    ·exact pR hb
    ·exact n3 a (gi _ (sub a ha)) hb
   ·intro a ha
    rw[c9]at ha
    rcases bX.mp ha with z | z
    ·rcases cu.mp z with rfl | z
     ·exact fp
     ·exact fr a (eV _ (gi _ (sub a z)))
    ·exact fr a (cZ _ z)
  have c3:=c2.fill (i:=i) (by simp[hi]) e2
  rwa [Ai]at c3
theorem aq.Fq(c:aq B F H σ δ ((d,v)::ts)):∃F',af F F'/\aq B F' H σ δ ((d.sh,v)::ts):=by
 obtain⟨A,C,r,s,nd,fr⟩:=c.own
 obtain⟨w,bR,A1,A2,e',rfl,h1,h2⟩:=R.cO r
 obtain⟨rfl,rfl⟩:=mS e'
 rw[c9]at nd fr
 obtain⟨n1,n2,n3⟩:=gv.mp nd
 have out:∀a∈A2++C,br F H A1 a=F a:=λa ha=>oI λz=>n3 a z ha
 have b3:∀a o,br F H A1 a=some (.lst o)->B.F0 a=some (.lst o)\/B.H0 a=none:=λa o q=>by
  by_cases z:a∈A1
  ·exact .inr (fr a (eV _ z))
  ·rw[oI z]at q;exact c.b3 a o q
 refine⟨br F H A1,ir c.ext,nt c.ext,c.b1,c.b2.trans (ir c.ext),b3,A2,C,?_,?_,n2,λa ha=>fr a (cZ _ ha)⟩
 ·have g1:=h1.br c.ext A1 (λ_ h=>h)
  exact R.cons (A:=[]) g1 (h2.keep (ir c.ext) (fK.same (af.refl H)) gu.nil (λa ha=>by rw[out a (eV _ ha)];exact(h2.lists a ha).2) (by simp))
 ·exact s.keep (ir c.ext) (fK.same (af.refl H)) gu.nil (λa ha=>by rw[out a (cZ _ ha)];exact(s.lists a ha).2) (by simp)
theorem aq.freeze(c:aq B F H σ δ ts)(e:δ[i]?=some (some d)):∃F',af F F'/\aq B F' H σ (δ.set i (some d.sh)) ts:=by
 have hi:i<δ.length:=(iX.mp e).1
 obtain⟨v,e2,c1⟩:=c.move e
 obtain⟨F',s,c2⟩:=c1.Fq
 refine⟨F',s,?_⟩
 have c3:=c2.fill (i:=i) (by simp[hi]) e2
 rwa [Ai]at c3
theorem aq.rebase(c:aq B F H σ δ ts):aq ⟨B.H0,F⟩ F H σ δ ts:=⟨c.ext,c.b1,af.refl _,λ_ _ q=>.inl q,c.own⟩
theorem aq.cV2{F1:Hp}(c:aq ⟨B.H0,F1⟩ F H σ δ ts)(h:af B.F0 F1)(h3:∀a ws,F1 a=some (.lst ws)->B.F0 a=some (.lst ws)\/B.H0 a=none):aq B F H σ δ ts :=
 ⟨c.ext,c.b1,h.trans c.b2,λa o q=>(c.b3 a o q).elim (h3 a o) .inr,c.own⟩
theorem aq.call(c:aq B F H σ δ ts)(hs:af H H')(hf:af F F')(he:af F' H')(h3:∀a ws,F' a=some (.lst ws)->F a=some (.lst ws)\/H a=none)(r:R F' H' [d] [v] A)(nd:A.Nodup)(fr:∀a∈A,H a=none) :
  aq B F' H' σ δ ((d,v)::ts):=by
 obtain⟨A0,C,r0,s,nd0,fr0⟩:=c.own
 have no:∀a,(∃ws,H a=some (.lst ws))/\F a=none->F' a=none:=λa zz=>by
  obtain⟨⟨ws,e⟩,n⟩:=zz
  cases q:F' a with
  | none=>rfl
  | some o =>
   have q2:H' a=some o:=by
    cases n:ji o with
    | true=>exact he.get a o q n
    | false =>
     obtain⟨ps,rfl⟩:=Fh n
     obtain⟨m,z⟩:=he.tb a ps q
     rw[hs a _ e]at z
     cases z
   rw[hs a _ e]at q2
   cases q2
   rcases h3 a ws q with z | z
   ·rw[n]at z;cases z
   ·rw[e]at z;cases z
 refine⟨he,c.b1.trans hs,c.b2.trans hf,λa o q=>(h3 a o q).elim (c.b3 a o) λz=>.inr (c.b1.free z),A++A0,C,R.cons r (r0.grow hf hs λa ha=>no a (r0.lists a ha)),
  s.keep hf (fK.same hs) gu.nil (λa ha=>no a (s.lists a ha)) (by simp),?_,?_⟩
 ·rw[c9]
  refine gv.mpr ⟨nd,nd0,λa ha hb=>?_⟩
  have z:=fr a ha
  rcases bX.mp hb with y | y
  ·obtain⟨⟨_,q⟩,_⟩:=r0.lists a y;rw[z]at q;cases q
  ·obtain⟨⟨_,q⟩,_⟩:=s.lists a y;rw[z]at q;cases q
 ·intro a ha
  rw[c9]at ha
  rcases bX.mp ha with y | y
  ·exact c.b1.free (fr a y)
  ·exact fr0 a y
theorem aq.inS(c:aq B F H σ δ ((d,v)::ts)):aq B F H (some v::σ) (some d::δ) ts:=by
 obtain⟨A,C,r,s,nd,fr⟩:=c.own
 obtain⟨w,bR,A1,A2,e',rfl,h1,h2⟩:=R.cO r
 obtain⟨rfl,rfl⟩:=mS e'
 have pp:((A1++A2)++C).Perm (A2++(A1++C)):=by
  rw[<-c9];exact om.append_right C
 exact⟨c.ext,c.b1,c.b2,c.b3,A2,A1++C,h2,.dN h1 s,pp.nodup_iff.mp nd,λa ha=>fr a (pp.mem_iff.mpr ha)⟩
theorem aq.cV6{w:V}(c:aq B F H (some w::σ) (some d::δ) ts):aq B F H σ δ ((d,w)::ts):=by
 obtain⟨A,C,r,s,nd,fr⟩:=c.own
 cases s with
 | @dN _ _ A1 _ _ C1 h1 s =>
  have pp:(A++(A1++C1)).Perm ((A1++A)++C1):=by
   rw[<-c9];exact om.append_right C1
  exact⟨c.ext,c.b1,c.b2,c.b3,A1++A,C1,R.cons h1 r,s,pp.nodup_iff.mp nd,λa ha=>fr a (pp.mem_iff.mpr ha)⟩
theorem aq.cV7(c:aq B F H σ δ ((d,v)::(.lst true xs,.ref p)::ts))(hp:H p=some (.lst ws)):aq B F (upd H p (.lst (ws++[v]))) σ δ ((.lst true (xs++[d]),.ref p)::ts):=by
 have c1:=(c.perm (List.Perm.swap _ _ _)).inS
 refine(aq.mut (ps:=[(d,v)]) (i:=0) (ys:=xs++[d]) (vs:=ws++[v]) c1 rfl rfl λgI A1 A2 h r1 r2 nd=>?_).cV6
 rw[hp]at h;cases h
 exact⟨A1++A2,r1.append r2,nd,λa ha=>ha⟩
theorem aq.app(c:aq B F H σ δ ((d,v)::ts))(e:δ[i]?=some (some (.lst true xs)))(e2:σ[i]?=some (some (.ref p)))(hp:H p=some (.lst ws)) :
  aq B F (upd H p (.lst (ws++[v]))) σ (δ.set i (some (.lst true (xs++[d])))) ts :=
 aq.mut (ps:=[(d,v)]) c e e2 λgI A1 A2 h r1 r2 nd=>by
  rw[hp]at h;cases h
  exact⟨A1++A2,r1.append r2,nd,λa ha=>ha⟩
theorem R.Fs:∀{xs:List D} {ws:List V} {A1 A2:List Addr} (j:Nat),R F H xs ws A1->R F H [d] [v] A2->(A1++A2).Nodup->∃A',R F H (xs.set j d) (ws.set j v) A'/\A'.Nodup/\∀a∈A',a∈A1++A2
 | [],_,A1,A2,j,r,q,nd=>by cases r;exact⟨[],.nil,by simp,by simp⟩
 | x::xs,_,A1,A2,j,r,q,nd=>by
  obtain⟨w,gI,B1,B2,rfl,rfl,h1,h2⟩:=r.cO
  rw[c9]at nd
  obtain⟨n1,n2,n3⟩:=gv.mp nd
  cases j with
  | zero =>
   refine⟨A2++B2,q.cons h2,(om (l₁:=B2) (l₂:=A2)).nodup_iff.mp n2,λa ha=>?_⟩
   simp only[bX]at ha ⊢
   rcases ha with z | z
   ·exact .inr z
   ·exact .inl (.inr z)
  | succ j =>
   obtain⟨A',r',xH,sub⟩:=R.Fs j h2 q n2
   refine⟨B1++A',h1.cons r',gv.mpr ⟨n1,xH,λa ha hb=>n3 a ha (sub a hb)⟩,λa ha=>?_⟩
   rcases bX.mp ha with z | z
   ·simp[z]
   ·have:=sub a z
    simp only[bX]at this ⊢
    rcases this with z | z
    ·exact .inl (.inr z)
    ·exact .inr z
theorem aq.cV8(c:aq B F H σ δ ((d,v)::ts))(e:δ[i]?=some (some (.lst true xs)))(e2:σ[i]?=some (some (.ref p)))(hp:H p=some (.lst ws))(j:Nat) :
  aq B F (upd H p (.lst (ws.set j v))) σ (δ.set i (some (.lst true (xs.set j d)))) ts :=
 aq.mut (ps:=[(d,v)]) c e e2 λgI A1 A2 h r1 r2 nd=>by
  rw[hp]at h;cases h
  exact r1.Fs j r2 nd
theorem aq.ownAt(c:aq B F H σ δ ts)(e:δ[i]?=some (some (.lst true xs))):∃p ws,σ[i]?=some (some (.ref p))/\H p=some (.lst ws)/\xs.length=ws.length:=by
 obtain⟨v,e1,s⟩:=c.look e
 cases s with
 | own h x _=>exact⟨_,_,e1,h,x.length⟩
theorem RS.start{ds:List D}{vs:List V}(r:R F H ds vs [])(n:Nat):RS F H (ds.map some++bf n none) (vs.map some++bf n none) []:=by
 have z:∀n,RS F H (bf n none) (bf n none) []:=λn=>by
  induction n with
  | zero=>exact .nil
  | succ n ih=>exact .av ih
 have:∀(ds:List D) (vs:List V),R F H ds vs []->RS F H (ds.map some++bf n none) (vs.map some++bf n none) []:=by
  intro ds
  induction ds with
  | nil=>intro vs r;cases r;exact z n
  | cons d ds ih =>
   intro vs r
   obtain⟨v,bR,A1,A2,rfl,e,h1,h2⟩:=r.cO
   obtain⟨rfl,rfl⟩:=p8.mp e.symm
   exact .dN (A:=[]) h1 (ih _ h2)
 exact this ds vs r
theorem aq.start{ds:List D}{vs:List V}(e:af F H)(r:R F H ds vs [])(n:Nat):aq ⟨H,F⟩ F H (vs.map some++bf n none) (ds.map some++bf n none) [] :=
 ⟨e,af.refl _,af.refl _,λ_ _ q=>.inl q,[],[],.nil,RS.start r n,by simp,by simp⟩
theorem aq.snap(c:aq B F H σ δ ts):aq B (L3.snap F H) H σ δ ts:=by
 obtain⟨A,C,r,s,nd,fr⟩:=c.own
 have no:∀a,(∃ws,H a=some (.lst ws))/\F a=none->L3.snap F H a=none:=λa ⟨⟨ws,e⟩,n⟩=>bW6 e n
 exact⟨cf2 c.ext,c.b1,c.b2.trans (qJ c.ext),λa ws q=>c.b3 a ws (b07 c.ext q),A,C,r.grow (qJ c.ext) (af.refl _) λa ha=>no a (r.lists a ha),
  s.keep (qJ c.ext) (fK.same (af.refl _)) gu.nil (λa ha=>no a (s.lists a ha)) (by simp),nd,fr⟩
end
end L3
namespace L3
open PySem L2 PySem.Spec PyProof.Rows
abbrev aN:=Dl->(D->Dl->Prop)->Prop
abbrev gw:=Dl->(Bool->Dl->Prop)->Prop
abbrev cH:=Dl->(List D->Dl->Prop)->Prop
structure ug where
 nx:Dl->Prop
 rt:D->Prop
 bk:Dl->Prop:=λ_=>False
 ct:Dl->Prop:=λ_=>False
 xc:Addr->Dl->Prop:=λ_ _=>False
 xr:Addr->Dl->Prop:=λ_ _=>False
abbrev cI:=ug->Dl->Prop
def lE(t:aN):TE:=λσ H Q=>∃B F δ ts Qd,aq B F H σ δ ts/\t δ Qd/\∀d ah v F' H',Qd d ah->af F F'->af H H'->aq B F' H' σ ah ((d,v)::ts)->Q v H'
def lB(t:aN):TE:=λσ H Q=>∃B F δ ts Qd,aq B F H σ δ ts/\t δ Qd/\∀d ah v F' H',Qd d ah->af F F'->af H H'->aq B F' H' σ ah ts->S F' H' [d] [v]->Q v H'
def lT(t:gw):TT:=λσ H Q=>∃B F δ ts Qd,aq B F H σ δ ts/\t δ Qd/\∀b ah F' H',Qd b ah->af F F'->af H H'->aq B F' H' σ ah ts->Q b H'
def lA(t:cH):TA:=λσ H Q=>∃B F δ ts Qd,aq B F H σ δ ts/\t δ Qd/\∀ds ah vs F' H',Qd ds ah->af F F'->af H H'->aq B F' H' σ ah ts->S F' H' ds vs->Q vs H'
def lO(t:cH):TA:=λσ H Q=>∃B F δ ts Qd,aq B F H σ δ ts/\t δ Qd/\∀(ps:List (D × V)) ah F' H',Qd (ps.map (·.1)) ah->af F F'->af H H'->aq B F' H' σ ah (ps++ts)->Q (ps.map (·.2)) H'
def XL(X:Cx)(B:Bs)(Dd:ug):Prop :=
 (∀C ah pins aI F' H' s' a T,Dd.xc C ah->aq B F' H' aI ah []->Inv X pins aI H' s'->qD s'.heap a T (.ref C)->Apart X pins H' a->Apart X pins H' T->X.xe (.ref a) s') /\
 (∀C ah pins aI F' H' s' h' e vs,Dd.xr C ah->aq B F' H' aI ah []->Inv X pins aI H' s'->NJ s'.heap h' e (.ref C) vs->X.xe (.ref e) { s' with heap:=h' })
theorem XL.none{X:Cx}{B:Bs}{Dd:ug}(h1:∀C δ,¬ Dd.xc C δ)(h2:∀C δ,¬ Dd.xr C δ):XL X B Dd:=⟨λC δ _ _ _ _ _ _ _ h=>absurd h (h1 C δ),λC δ _ _ _ _ _ _ _ _ h=>absurd h (h2 C δ)⟩
def lS(X:Cx)(t:cI):TS:=λD σ H=>∃B F δ Dd,aq B F H σ δ []/\t Dd δ/\(∀ah aI F' H',Dd.nx ah->aq B F' H' aI ah []->D.nx aI H')/\(∀d v ah aI F' H',Dd.rt d->aq B F' H' aI ah [(d,v)]->D.rt v H') /\
 (∀ah aI F' H',Dd.bk ah->aq B F' H' aI ah []->D.bk aI H')/\(∀ah aI F' H',Dd.ct ah->aq B F' H' aI ah []->D.ct aI H')/\XL X B Dd
section
variable{X:Cx}{e a b c:Expr}{es:List Expr}{pos:Pos}{st:Stmt}{xI:List Stmt}
theorem du{t t':TE}(h:PE X e t)(m:∀σ H Q,t' σ H Q->t σ H Q):PE X e t':=λpins s σ H Q I q=>h pins s σ H Q I (m σ H Q q)
theorem Ft{t t':TT}(h:PT X e t)(m:∀σ H Q,t' σ H Q->t σ H Q):PT X e t':=λpins s σ H Q I q=>h pins s σ H Q I (m σ H Q q)
theorem cl7{t t':TT}(h:PW X e t)(m:∀σ H Q,t' σ H Q->t σ H Q):PW X e t':=λwh pins s σ H Q I q=>h wh pins s σ H Q I (m σ H Q q)
theorem xJ{t t':TA}(h:PA X es t)(m:∀σ H Q,t' σ H Q->t σ H Q):PA X es t':=λp pins s σ H Q I q=>h p pins s σ H Q I (m σ H Q q)
theorem jG{t t':TS}(h:PS X st t)(m:∀D σ H,t' D σ H->t D σ H):PS X st t':=λpins s σ H D I q=>h pins s σ H D I (m D σ H q)
theorem Fu{t t':TS}(h:PSs X xI t)(m:∀D σ H,t' D σ H->t D σ H):PSs X xI t':=λpins s σ H D I q=>h pins s σ H D I (m D σ H q)
variable{t u ta tb tc:aN}
theorem aa(h:PE X e (lE t)):PE X e (lB t):=du h λσ H Q zq=>by
 obtain⟨B,F,δ,ts,Qd,c,q,k⟩:=zq
 exact⟨B,F,δ,ts,Qd,c,q,λd ah v F' H' hd sf sh c'=>k d ah v F' H' hd sf sh c'.pop c'.top⟩
def nu(t:aN):aN:=λδ Q=>t δ λd ah=>d.pl=true/\Q d ah
theorem dh(h:PE X e (lB t)):PE X e (lE (nu t)):=du h λσ H Q zq=>by
 obtain⟨B,F,δ,ts,Qd,c,q,k⟩:=zq
 exact⟨B,F,δ,ts,_,c,q,λd ah v F' H' hd sf sh c' s=>k d ah v F' H' hd.2 sf sh (c'.pushS s hd.1)⟩
def oK(i:Nat):aN:=λδ Q=>match δ[i]? with
 | some (some d)=>Q d δ
 | _=>False
def oM(i:Nat):aN:=λδ Q=>match δ[i]? with
 | some (some d)=>Q d (δ.set i none)
 | _=>False
theorem cr2{i:Nat}{δ:Dl}{Q:D->Dl->Prop}(h:oK i δ Q):∃d,δ[i]?=some (some d)/\Q d δ:=by
 unfold oK at h
 split at h
 ·rename_i d e;exact⟨d,e,h⟩
 ·exact h.elim
theorem b91{i:Nat}{δ:Dl}{Q:D->Dl->Prop}(h:oM i δ Q):∃d,δ[i]?=some (some d)/\Q d (δ.set i none):=by
 unfold oM at h
 split at h
 ·rename_i d e;exact⟨d,e,h⟩
 ·exact h.elim
def dC(d:D):aN:=λδ Q=>Q d δ
theorem bv(i:Nat){x:Str}(hN:X.N[i]?=some x:=by rfl)(hv:lQ X.env.scope x:=by first | exact ai rfl | exact aV (ai rfl) | exact aV (aV rfl))(hd:(x==("__debug__":Str))=false:=by decide)
  (cF:(x==("__classdict__":Str))=false:=by decide):PE X (.Name x pos) (lB (oK i)):=du (qi hN hv hd cF) λσ H Q zq=>by
 obtain⟨B,F,δ,ts,Qd,c,q,k⟩:=zq
 obtain⟨d,e,q⟩:=cr2 q
 obtain⟨v,e1,s⟩:=c.look e
 exact⟨v,e1,k d δ v F H q (af.refl _) (af.refl _) c s⟩
theorem em(i:Nat){x:Str}(hN:X.N[i]?=some x:=by rfl)(hv:lQ X.env.scope x:=by first | exact ai rfl | exact aV (ai rfl) | exact aV (aV rfl))(hd:(x==("__debug__":Str))=false:=by decide)
  (cF:(x==("__classdict__":Str))=false:=by decide):PE X (.Name x pos) (lE (oM i)):=du (qi hN hv hd cF) λσ H Q zq=>by
 obtain⟨B,F,δ,ts,Qd,c,q,k⟩:=zq
 obtain⟨d,e,q⟩:=b91 q
 obtain⟨v,e1,c'⟩:=c.move e
 exact⟨v,e1,k d _ v F H q (af.refl _) (af.refl _) c'⟩
theorem Bk{B:Bs}{F H:Hp}{σ:L2.St}{δ:Dl}{ts:List (D × V)}{Qd:D->Dl->Prop}{Q:VK}{d:D}{v:V}(c:aq B F H σ δ ts)(q:Qd d δ)(s:S F H [d] [v])(p:d.pl=true)
  (k:∀d ah v F' H',Qd d ah->af F F'->af H H'->aq B F' H' σ ah ((d,v)::ts)->Q v H'):Q v H:=k d δ v F H q (af.refl _) (af.refl _) (c.pushS s p)
theorem aj{i j}:PE X (.Constant (.int i) j pos) (lE (dC (.int i))):=du oA λσ H Q ⟨B,F,δ,ts,Qd,c,q,k⟩=>Bk c q (.int .nil) rfl k
theorem iM{i j}:PE X (.Constant (.bool i) j pos) (lE (dC (.bl i))):=du XI λσ H Q ⟨B,F,δ,ts,Qd,c,q,k⟩=>Bk c q (.bl .nil) rfl k
theorem Fv{j}:PE X (.Constant .none j pos) (lE (dC .av)):=du XJ λσ H Q ⟨B,F,δ,ts,Qd,c,q,k⟩=>Bk c q (.av .nil) rfl k
theorem P0{x j}:PE X (.Constant (.str x) j pos) (lE (dC (.str x))):=du XM λσ H Q ⟨B,F,δ,ts,Qd,c,q,k⟩=>Bk c q (.str .nil) rfl k
abbrev cU:=D->D->(D->Prop)->Prop
def Bl(r:R2)(rd:cU):Prop:=∀{B:Bs} {F H:Hp} {σ:L2.St} {δ:Dl} {ts:List (D × V)} {x y:D} {v w:V} {Q:VK} {Qd:D->Prop},aq B F H σ δ ts->S F H [x] [v]->S F H [y] [w]->rd x y Qd ->
 (∀d z H',Qd d->af H H'->aq B F H' σ δ ((d,z)::ts)->Q z H')->r v w H Q
def bU(X:Cx)(f:Value->Value->Sem Value)(rd:cU):Prop:=∃r,cN X f r/\Bl r rd
theorem bU.or{f:Value->Value->Sem Value}{r1 r2:cU}(h1:bU X f r1)(h2:bU X f r2):bU X f λx y Q=>r1 x y Q\/r2 x y Q:=by
 obtain⟨q1,a1,b1⟩:=h1
 obtain⟨q2,a2,b2⟩:=h2
 refine⟨_,a1.or a2,λ{B F H σ δ ts x y v w Q Qd} c sx sy h k=>?_⟩
 rcases h with h | h
 ·exact .inl (b1 c sx sy h k)
 ·exact .inr (b2 c sx sy h k)
theorem bU.imp{f:Value->Value->Sem Value}{r1 r2:cU}(h1:bU X f r1)(h:∀x y Q,r2 x y Q->r1 x y Q):bU X f r2:=by
 obtain⟨q1,a1,b1⟩:=h1
 exact⟨q1,a1,λ{B F H σ δ ts x y v w Q Qd} c sx sy h2 k=>b1 c sx sy (h _ _ _ h2) k⟩
def nv(rd:cU)(ta tb:aN):aN:=λδ Q=>ta δ λx ao=>tb ao λy aS=>rd x y λd=>Q d aS
theorem Fw{r:R2}{rd:cU}(hl:Bl r rd):∀σ H Q,lE (nv rd ta tb) σ H Q->xk r (lB ta) (lB tb) σ H Q:=λσ H Q ⟨B,F,δ,ts,Qd,c,q,k⟩ =>
 ⟨B,F,δ,ts,_,c,q,λx ao v F1 H1 q1 f1 h1 c1 s1=>⟨B,F1,ao,ts,_,c1,q1,λy aS w F2 H2 q2 f2 h2 c2 s2 =>
  hl c2 (s1.mono f2 h2) s2 q2 λd z H' hd hs c3=>k d aS z F2 H' hd (f1.trans f2) ((h1.trans h2).trans hs) c3⟩⟩
theorem aB{op:Operator}{rd:cU}(ho:bU X (binaryOp op) rd)(ha:PE X a (lB ta))(hb:PE X b (lB tb)):PE X (.BinOp a op b pos) (lE (nv rd ta tb)):=by
 obtain⟨r,h1,h2⟩:=ho
 exact du (xm h1 ha hb) (Fw h2)
theorem uh{op:CmpOp}{rd:cU}(ho:bU X (compareOp op) rd)(ha:PE X a (lB ta))(hb:PE X b (lB tb))(hm:behindInMarks op b=false):PE X (.Compare a [op] [b] pos) (lE (nv rd ta tb)):=by
 obtain⟨r,h1,h2⟩:=ho
 exact du (YO h1 ha hb hm) (Fw h2)
def dT(t:aN):gw:=λδ Q=>t δ λd ah=>∃k,d=.bl k/\Q k ah
theorem cd3{te:TE}(h:∀σ H Q,lE t σ H Q->te σ H Q):∀σ H Q,lT (dT t) σ H Q->Oz te σ H Q:=λσ H Q zz=>by
 obtain⟨B,F,δ,ts,Qd,c,q,k⟩:=zz
 refine h σ H _ ⟨B,F,δ,ts,_,c,q,λd ah v F' H' hd sf sh c'=>?_⟩
 obtain⟨b,rfl,qb⟩:=hd
 have s:=c'.top
 cases s with
 | bl _=>exact⟨b,rfl,k b ah F' H' qb sf sh c'.pop⟩
theorem b9{op:CmpOp}{rd:cU}(ho:bU X (compareOp op) rd)(ha:PE X a (lB ta))(hb:PE X b (lB tb))(hm:behindInMarks op b=false):PT X (.Compare a [op] [b] pos) (lT (dT (nv rd ta tb))):=by
 obtain⟨r,h1,h2⟩:=ho
 exact Ft (EG h1 ha hb hm) (cd3 (Fw h2))
def qK(r r':cU)(ta tb tc:aN):aN:=λδ Q=>ta δ λx ao=>tb ao λy aS=>r x y λd=>∃k,d=.bl k/\if k=true then tc aS λz iN=>r' y z λd'=>Q d' iN else Q (.bl false) aS
theorem gZ(h:PE X e (lB t))(he:∀whole,isTrue e X.env whole=(do let v<-whole;standAt e.pos;holding [v] (truthy v)):=by intro _;rfl):PT X e (lT (dT t)) :=
 Ft (AJ h he) λσ H Q zq=>by
 obtain⟨B,F,δ,ts,Qd,c,q,k⟩:=zq
 exact⟨B,F,δ,ts,_,c,q,λd ah v F' H' hd sf sh c' s=>by
  obtain⟨b,rfl,qb⟩:=hd
  cases s with
  | bl _=>exact⟨b,rfl,k b ah F' H' qb sf sh c'⟩⟩
variable{tA tB:gw}{rest:List Expr}
def ui(t u:gw):gw:=λδ Q=>t δ λc ao=>if c=true then Q true ao else u ao Q
def uj(t:gw):gw:=λδ Q=>t δ λc ao=>Q (!c) ao
theorem kJ(ha:PT X a (lT tA))(hb:PW X (.BoolOp .Or (b::rest) pos) (lT tB)):PW X (.BoolOp .Or (a::b::rest) pos) (lT (ui tA tB)) :=
 cl7 (Oi ha hb) λσ H Q zq=>by
 obtain⟨B,F,δ,ts,Qd,c,q,k⟩:=zq
 exact⟨B,F,δ,ts,_,c,q,λb ao F1 H1 q1 f1 h1 c1=>by
  cases b with
  | true=>exact qB (k true ao F1 H1 (by simpa using q1) f1 h1 c1)
  | false=>exact jf ⟨B,F1,ao,ts,Qd,c1,by simpa using q1,λb ah F' H' hd sf sh c'=>k b ah F' H' hd (f1.trans sf) (h1.trans sh) c'⟩⟩
theorem mm(ha:PT X a (lT tA)):PT X (.UnaryOp .Not a pos) (lT (uj tA)) :=
 Ft (AK ha) λσ H Q zq=>by
 obtain⟨B,F,δ,ts,Qd,c,q,k⟩:=zq
 exact⟨B,F,δ,ts,_,c,q,λb ao F1 H1 q1 f1 h1 c1=>k _ ao F1 H1 q1 f1 h1 c1⟩
def uk(ta tb:aN):aN:=λδ Q=>ta δ λx ao=>∃c,x=.bl c/\if c=true then tb ao Q else Q (.bl false) ao
def um(ta:aN):aN:=λδ Q=>ta δ λx ao=>∃c,x=.bl c/\Q (.bl (!c)) ao
theorem oN(ha:PE X a (lB ta))(hb:PE X (.BoolOp .And (b::rest) pos) (lE tb)):PE X (.BoolOp .And (a::b::rest) pos) (lE (uk ta tb)) :=
 du (XU ha hb) λσ H Q zq=>by
 obtain⟨B,F,δ,ts,Qd,c,q,k⟩:=zq
 exact⟨B,F,δ,ts,_,c,q,λd ao v F1 H1 q1 f1 h1 c1 s1=>by
  obtain⟨b,rfl,qb⟩:=q1
  cases s1 with
  | bl _ =>
   refine⟨b,rfl,?_⟩
   cases b with
   | true=>exact qB ⟨B,F1,ao,ts,Qd,c1,by simpa using qb,λd ah v F' H' hd sf sh c'=>k d ah v F' H' hd (f1.trans sf) (h1.trans sh) c'⟩
   | false=>exact jf (k _ ao _ F1 H1 (by simpa using qb) f1 h1 (c1.pushS (.bl .nil) rfl))⟩
theorem P1(ha:PE X a (lB ta)):PE X (.UnaryOp .Not a pos) (lE (um ta)) :=
 du (XW ha) λσ H Q zq=>by
 obtain⟨B,F,δ,ts,Qd,c,q,k⟩:=zq
 exact⟨B,F,δ,ts,_,c,q,λd ao v F1 H1 q1 f1 h1 c1 s1=>by
  obtain⟨b,rfl,qb⟩:=q1
  cases s1 with
  | bl _=>exact⟨b,rfl,k _ ao _ F1 H1 qb f1 h1 (c1.pushS (.bl .nil) rfl)⟩⟩
def uo(t:gw)(ta tb:aN):aN:=λδ Q=>t δ λc ao=>if c=true then ta ao Q else tb ao Q
theorem cN9(hc:PT X c (lT tA))(ha:PE X a (lE ta))(hb:PE X b (lE tb)):PE X (.IfExp c a b pos) (lE (uo tA ta tb)) :=
 du (XY hc ha hb) λσ H Q zq=>by
 obtain⟨B,F,δ,ts,Qd,c,q,k⟩:=zq
 exact⟨B,F,δ,ts,_,c,q,λb ao F1 H1 q1 f1 h1 c1=>by
  cases b with
  | true=>exact qB ⟨B,F1,ao,ts,Qd,c1,by simpa using q1,λd ah v F' H' hd sf sh c'=>k d ah v F' H' hd (f1.trans sf) (h1.trans sh) c'⟩
  | false=>exact jf ⟨B,F1,ao,ts,Qd,c1,by simpa using q1,λd ah v F' H' hd sf sh c'=>k d ah v F' H' hd (f1.trans sf) (h1.trans sh) c'⟩⟩
def qL:cH:=λδ Q=>Q [] δ
def qM(t:aN)(r:cH):cH:=λδ Q=>t δ λd ao=>r ao λds aS=>Q (d::ds) aS
theorem aw:PA X [] (lA qL):=xJ eX λσ H Q ⟨B,F,δ,ts,Qd,c,q,k⟩=>k [] δ [] F H q (af.refl _) (af.refl _) c .nil
variable{tr:cH}
theorem ag(ha:PE X e (lB t))(hr:PA X es (lA tr))(hs:starEach (e::es) X.env=(false,eval e X.env)::starEach es X.env:=by rfl):PA X (e::es) (lA (qM t tr)) :=
 xJ (bV ha hr hs) λσ H Q zq=>by
 obtain⟨B,F,δ,ts,Qd,c,q,k⟩:=zq
 exact⟨B,F,δ,ts,_,c,q,λd ao v F1 H1 q1 f1 h1 c1 s1=>⟨B,F1,ao,ts,_,c1,q1,λds aS vs F2 H2 q2 f2 h2 c2 s2 =>
  k (d::ds) aS (v::vs) F2 H2 q2 (f1.trans f2) (h1.trans h2) c2 ((s1.mono f2 h2).cons s2)⟩⟩
theorem cC:PA X [] (lO qL):=xJ eX λσ H Q ⟨B,F,δ,ts,Qd,c,q,k⟩=>k [] δ F H q (af.refl _) (af.refl _) c
theorem cq(ha:PE X e (lE t))(hr:PA X es (lO tr))(hs:starEach (e::es) X.env=(false,eval e X.env)::starEach es X.env:=by rfl):PA X (e::es) (lO (qM t tr)) :=
 xJ (bV ha hr hs) λσ H Q zq=>by
 obtain⟨B,F,δ,ts,Qd,c,q,k⟩:=zq
 exact⟨B,F,δ,ts,_,c,q,λd ao v F1 H1 q1 f1 h1 c1=>⟨B,F1,ao,(d,v)::ts,_,c1,q1,λps aS F2 H2 q2 f2 h2 c2 =>
  k ((d,v)::ps) aS F2 H2 q2 (f1.trans f2) (h1.trans h2) (c2.perm (List.perm_middle))⟩⟩
def qN(t:cH):aN:=λδ Q=>t δ λds ah=>ds.length<=sizeLine/\Q (.lst true ds) ah
def uq(t:cH):aN:=λδ Q=>t δ λds ah=>ds.length<=sizeLine/\Q (.tup ds) ah
theorem dO(h:PA X es (lO tr)):PE X (.List es pos) (lE (qN tr)) :=
 du (OE h) λσ H Q zq=>by
 obtain⟨B,F,δ,ts,Qd,c,q,k⟩:=zq
 exact⟨B,F,δ,ts,_,c,q,λps ao F1 H1 q1 f1 h1 c1=>⟨by simpa using q1.1,λp hp=>k _ ao _ F1 _ q1.2 f1 (h1.trans (af.upd hp)) (c1.cV0 hp)⟩⟩
theorem nz{x1}(h:PA X es (lO tr)):PE X (.Tuple es x1 pos) (lE (uq tr)) :=
 du (Zi h) λσ H Q zq=>by
 obtain⟨B,F,δ,ts,Qd,c,q,k⟩:=zq
 exact⟨B,F,δ,ts,_,c,q,λps ao F1 H1 q1 f1 h1 c1=>⟨by simpa using q1.1,λp hp=>k _ ao _ F1 _ q1.2 f1 (h1.trans (af.upd hp)) (c1.cV1 hp)⟩⟩
end
end L3
namespace L3
open PySem L2 PySem.Spec PyProof.Rows
abbrev bh:=List D->(D->Prop)->Prop
def bj(sp:bh):Sp:=λvs H Q _=>∃F ds Qd,af F H/\R F H ds vs []/\sp ds Qd/\∀d v F' H' A,Qd d->af H H'->af F F'->af F' H'->(∀a ws,F' a=some (.lst ws)->F a=some (.lst ws)\/H a=none)->R F' H' [d] [v] A->A.Nodup->(∀a∈A,H a=none)->Q v H'
def qO(sp:bh)(t:cH):aN:=λδ Q=>t δ λds ah=>sp (ds.map D.sh) λd=>(ds.all D.pl||d.fr)=true/\Q d ah
theorem xK{B:Bs}{F H:Hp}{σ:L2.St}{δ:Dl}{ts:List (D × V)}{Qd:D->Prop}{Q:VK}{E:XK}{ds:List D}{vs:List V}{sp:bh}(c:aq B F H σ δ ts)(s:S F H ds vs)(q:sp (ds.map D.sh) λd=>(ds.all D.pl||d.fr)=true/\Qd d)
  (k:∀d v F' H',Qd d->af F F'->af H H'->aq B F' H' σ δ ((d,v)::ts)->Q v H'):bj sp vs H Q E:=by
 by_cases hp:ds.all D.pl=true
 ·rw[mj hp]at q
  exact⟨F,ds,_,c.ext,s.r hp,q,λd v F' H' A hd hs hf he h3 r nd fr=>k d v F' H' hd.2 hf hs (c.call hs hf he h3 r nd fr)⟩
 ·refine⟨H,ds.map D.sh,_,af.refl _,s.frozen c.ext,q,λd v F' H' A hd hs hf he h3 r nd fr=>?_⟩
  have eG:d.fr=true:=by
   have:=hd.1
   rw[Bool.or_eq_true]at this
   exact this.resolve_left hp
  exact k d v F H' hd.2 (af.refl _) hs (c.Fo hs (r.qI (by simp[eG]) (c.ext.trans hf)) nd fr)
section
variable{X:Cx}{CX:eQ}{n:Nat}{f:Addr}{fd:FuncData}{ps:List Str}{sp:bh}{E:XK}{x:Str}{p pos:Pos}{e:Expr}{es:List Expr}{t:cH}
theorem bu(F:aM X.prog X.w X.K X.mg X.base CX n f fd ps (bj sp))(hr:bY n X.A)(hg:Gl X x)(hm:X.mg x=some (.ref f))(hk:PySem.W.keepIn X.K (.ref f)=true)(hb:Binds X.K fd ps [])(hx:j8 CX X E)
  (ha:PA X (e::es) (lA t)) (dZ:(x==("__debug__":Str))=false:=by decide) (he:starEach (e::es) X.env=(false,eval e X.env)::starEach es X.env:=by rfl) (bN:(backTo pos (starEach es X.env)).any (·.1)=false:=by rfl) :
  PE X (.Call (.Name x p) (e::es) [] pos) (lE (qO sp t)) :=
 du (je F hr hg hm hk hb .nil hx ha dZ he bN) λσ H Q zq=>by
 obtain⟨B,F,δ,ts,Qd,c,q,k⟩:=zq
 exact⟨B,F,δ,ts,_,c,q,λds ao vs F1 H1 q1 f1 h1 c1 s1=>by
  show bj sp (vs++[]) H1 Q E
  rw[fm]
  exact xK c1 s1 q1 λd v F' H' hd hf hs c'=>k d ao v F' H' hd (f1.trans hf) (h1.trans hs) c'⟩
end
def kK(N:List Str)(ds:List D):Dl:=ds.map some++bf (N.length-ds.length) none
section
variable{P:Program}{w:World}{K:PySem.W.Frag}{mg:Str->Option Value}{base:Heap}
theorem bz{x qual:Str}{st:Stmt}{f:Addr}{fd:FuncData}{N ps:List Str}{k:Nat}{sp:bh}(F:ay K x qual st f fd)(S:bc N ps (aJ st))(len:∀ds Q,sp ds Q->ds.length=ps.length)
  (gX:∀(aC:Value) (A:Around) (outer:List Env) (s:Shared) (H:Hp) (E:XK),bY k (A.deeper (envOfC qual (aJ st) s.heap.objs.size f aC)) ->
   ∃t:cI,PSs (iH aQ P w K mg base N qual (aJ st) f aC A outer s H E).gn (fH st) (lS (iH aQ P w K mg base N qual (aJ st) f aC A outer s H E).gn t)/\∀ds Q,sp ds Q->t { nx:=λ_=>Q .av,rt:=Q } (kK N ds)):aM P w K mg base aQ (k+1) f fd ps (bj sp):=by
 refine F.ok S (λvs H Q E ⟨F,ds,Qd,e,r,h,_⟩=>by rw[<-r.length];exact len ds Qd h) λaC A outer s H vs Q E hr zz=>?_
 obtain⟨F,ds,Qd,e,r,h,k⟩:=zz
 obtain⟨t,ht,hq⟩:=gX aC A outer s H E hr
 have fin:∀d v ah aI F' H',Qd d->aq ⟨H,F⟩ F' H' aI ah [(d,v)]->Q v H':=λd v ah aI F' H' hd c=>by
  obtain⟨A,C,r',s',nd,fr⟩:=c.own
  exact k d v F' H' A hd c.b1 c.b2 c.ext c.b3 r' (gv.mp nd).1 λa ha=>fr a (eV _ ha)
 have e1:L2.start N vs=vs.map some++bf (N.length-ds.length) none:=by unfold L2.start;rw[r.length]
 refine⟨_,ht,⟨H,F⟩,F,kK N ds,_,?_,hq ds Qd h,λah aI F' H' hd c=>fin .av .av ah aI F' H' hd (c.pushS (.av .nil) rfl),fin,λ_ _ _ _ z=>z.elim,λ_ _ _ _ z=>z.elim,XL.none (λ_ _ z=>z) λ_ _ z=>z⟩
 rw[e1]
 exact aq.start e r _
end
section
variable{X:Cx}{e a b c:Expr}{es:List Expr}{pos:Pos}{st:Stmt}{xI rest:List Stmt}{t u:cI}{te:aN}{tt:gw}
def ur:cI:=λD δ=>D.nx δ
def P2(t u:cI):cI:=λD δ=>t { D with nx:=u D } δ
theorem az{t u:cI}{En:ug}{δ:Dl}(h:∀U:Dl->Prop,(∀ah,u En ah->U ah)->t { En with nx:=U } δ):P2 t u En δ:=h (u En) λ_ z=>z
theorem cP:PSs X [] (lS X ur):=Fu qk λD σ H ⟨B,F,δ,Dd,c,q,k1,_⟩=>k1 δ σ F H q c
theorem aA(h1:PS X st (lS X t))(h2:PSs X rest (lS X u)):PSs X (st::rest) (lS X (P2 t u)) :=
 Fu (eP h1 h2) λD σ H zq=>by
 obtain⟨B,F,δ,Dd,c,q,k1,k2,k3,k4⟩:=zq
 exact⟨B,F,δ,{ Dd with nx:=u Dd },c,q,λah aI F' H' hq c'=>⟨B,F',ah,Dd,c',hq,k1,k2,k3,k4⟩,k2,k3,k4⟩
theorem aE(h1:PS X st (lS X t)):PSs X [st] (lS X t):=i8 h1
theorem P4:PS X st (lS X λ_ _=>False):=jG qo λD σ H ⟨_,_,_,_,_,q,_⟩=>q.elim
def qP(i:Nat)(t:cI):cI:=λD δ=>∃d,δ[i]?=some (some d)/\t D (δ.set i (some d.sh))
theorem Fx(i:Nat)(h:PSs X xI (lS X t)):PSs X xI (lS X (qP i t)):=Fu h λD σ H zz=>by
 obtain⟨B,F,δ,Dd,c,⟨d,e,q⟩,k⟩:=zz
 obtain⟨F',s,c'⟩:=c.freeze e
 exact⟨B,F',_,Dd,c',q,k⟩
def qQ(i:Nat)(t:aN):cI:=λD δ=>t δ λd ah=>D.nx (ah.set i (some d))
theorem aX{i:Nat}{x:Str}{pos':Pos}(hN:X.N.Nodup)(hi:X.N[i]?=some x)(hx:Loc X.env.scope x)(he:PE X e (lE te))(hs:swapsWith e (some (.Name x pos')) pos.line X.env=pure false:=by rfl)
  (hf:X.fn x=true\/X.env.scope.names.lookup x=some .local:=by first | exact .inl rfl | exact .inr rfl | assumption):PS X (.Assign [.Name x pos'] e pos) (lS X (qQ i te)) :=
 jG (Eu hN hi hx he hs hf) λD σ H zq=>by
 obtain⟨B,F,δ,Dd,c,q,k1,k2,k3,k4⟩:=zq
 exact⟨B,F,δ,[],_,c,q,λd ah v F' H' hd sf sh c'=>k1 _ _ F' H' hd (c'.store i)⟩
def uu(t:aN):cI:=λD δ=>t δ λd _=>D.rt d
theorem aW(he:PE X e (lE te)):PS X (.Return (some e) pos) (lS X (uu te)) :=
 jG (X8 he) λD σ H zq=>by
 obtain⟨B,F,δ,Dd,c,q,k1,k2,k3,k4⟩:=zq
 exact⟨B,F,δ,[],_,c,q,λd ah v F' H' hd sf sh c'=>k2 d v ah σ F' H' hd c'⟩
def uv(t:aN):cI:=λD δ=>t δ λ_ ah=>D.nx ah
theorem Fy(he:PE X e (lB te))(hs:swapsWith e none pos.line X.env=pure false:=by rfl):PS X (.Expr e pos) (lS X (uv te)) :=
 jG (ql he hs) λD σ H zq=>by
 obtain⟨B,F,δ,Dd,c,q,k1,k2,k3,k4⟩:=zq
 exact⟨B,F,δ,[],_,c,q,λd ah v F' H' hd sf sh c' s=>k1 ah σ F' H' hd c'⟩
def uw(tc:gw)(t u:cI):cI:=λD δ=>tc δ λb ah=>if b=true then t D ah else u D ah
theorem cQ{l r:List Stmt}(hc:PT X c (lT tt))(ha:PSs X l (lS X t))(hb:PSs X r (lS X u)):PS X (.If c l r pos) (lS X (uw tt t u)) :=
 jG (qm hc ha hb) λD σ H zq=>by
 obtain⟨B,F,δ,Dd,c,q,k⟩:=zq
 exact⟨B,F,δ,[],_,c,q,λb ah F' H' hq sf sh c'=>by
  cases b with
  | true=>exact qB ⟨B,F',ah,Dd,c',by simpa using hq,k⟩
  | false=>exact jf ⟨B,F',ah,Dd,c',by simpa using hq,k⟩⟩
def uz(i:Nat)(rd:cU)(t:aN):cI:=λD δ=>∃x,δ[i]?=some (some x)/\t δ λy ao=>rd x y λz=>D.nx (ao.set i (some z))
theorem xM{i:Nat}{x:Str}{op:Operator}{rd:cU}{pos':Pos}(hN:X.N.Nodup)(hi:X.N[i]?=some x)(hx:Loc X.env.scope x)(he:PE X e (lB te))(ho:bU X (inplaceOp op) rd)
  (hf:X.fn x=true\/X.env.scope.names.lookup x=some .local:=by first | exact .inl rfl | exact .inr rfl | assumption):PS X (.AugAssign (.Name x pos') op e pos) (lS X (uz i rd te)):=by
 obtain⟨r,h1,h2⟩:=ho
 refine jG (Yj hN hi hx he (ti:=r) h1 hf) λD σ H zz=>?_
 obtain⟨B,F,δ,Dd,c,⟨d0,e0,q⟩,k1,k2,k3,k4⟩:=zz
 obtain⟨v0,e1,s0⟩:=c.look e0
 exact⟨v0,e1,B,F,δ,[],_,c,q,λd ah v F' H' hd sf sh c' s=>h2 c' (s0.mono sf sh) s hd λz w H2 hz h3 c3=>k1 _ _ F' H2 hz (c3.store i)⟩
def uA(tc:gw)(tb:cI):cI:=λD δ=>∃W:Nat->Dl->Prop,(∃m,W m δ)/\∀m δ,W m δ->tc δ λb ah=>if b=true then tb { D with nx:=λah=>∃m',m'<m/\W m' ah,ct:=λah=>∃m',m'<m/\W m' ah,bk:=D.nx } ah else D.nx ah
theorem uB{body:List Stmt}(hp:PassesOwn (model X.prog X.w) X.A X.env X.xe)(hc:PT X c (lT tt))(hb:PSs X body (lS X t)):PS X (.While c body [] pos) (lS X (uA tt t)) :=
 jG (Yn hp hc hb) λD σ H zz=>by
  obtain⟨B,F,δ,Dd,c,⟨W,⟨m0,w0⟩,hw⟩,k1,k2,k3,k4⟩:=zz
  refine⟨λm σ H=>∃F δ,aq B F H σ δ []/\W m δ,⟨m0,F,δ,c,w0⟩,λm σ H ⟨F,δ,c,w⟩=>⟨B,F,δ,[],_,c,hw m δ w,λb ah F' H' hq sf sh c'=>?_⟩⟩
  cases b with
  | true =>
   refine qB ⟨λaI H'=>∃m',m'<m/\∃F δ,aq B F H' aI δ []/\W m' δ,λaI H' z=>z,B,F',ah,{ Dd with nx:=λah=>∃m',m'<m/\W m' ah,ct:=λah=>∃m',m'<m/\W m' ah,bk:=Dd.nx },c',by simpa using hq,λaS lW F2 H2 ⟨m',hm,w2⟩ c2=>⟨m',hm,F2,aS,c2,w2⟩,k2,λaS lW F2 H2 z c2=>k1 aS lW F2 H2 z c2,λaS lW F2 H2 ⟨m',hm,w2⟩ c2=>⟨m',hm,F2,aS,c2,w2⟩,k4.2⟩
  | false=>exact jf (k1 ah σ F' H' (by simpa using hq) c')
end
structure JD(J:It)(F:Hp)(xs:List D):Prop where
 go:∀i H,af F H->i<xs.length->J.go i H
 j7:∀i H x H',af F H->i<xs.length->J.j7 i H x H'->∃d,xs[i]?=some d/\af H H'/\R F H' [d] [x] []
 stop:∀i H,af F H->xs.length<=i->J.stop i H
abbrev jk:=Dl->(Bool->List D->Dl->Prop)->Prop
def lI(t:jk):TI:=λσ H Rr=>∃B F δ ts Qd,aq B F H σ δ ts/\t δ Qd/\∀g xs ah J F' H',Qd g xs ah->af F F'->af H H'->aq B F' H' σ ah ts->JD J H' (xs.map D.sh)->(g=true->xs.all D.pl=true/\JD J F' xs)->Rr J H'
abbrev iu:=D->Dl->(Dl->Prop)->Prop
def lG(m:Nat)(t:iu):TG:=λv σ H Q=>∃B F δ ts d Qd,aq B F H σ δ ((d,v)::ts)/\t d δ Qd/\∀ah aI,Qd ah->aI.length=σ.length->(∀j,j<m->aI[j]?=σ[j]?)->aq B F H aI ah ts->Q aI H
def kb:D->Option (List D)
 | .lst _ xs=>some xs
 | .fz xs=>some xs
 | _=>none
section
variable{B:Bs}{F H F1:Hp}{σ:L2.St}{δ:Dl}{ts:List (D × V)}
end
section
variable{X:Cx}{e a b c tg l iter:Expr}{es:List Expr}{pos:Pos}{t u:cI}{te:aN}{tt:gw}{ta:cH}{m:Nat}
theorem uC{w w':TI}(h:PI X tg iter w)(m:∀σ H Q,w' σ H Q->w σ H Q):PI X tg iter w':=λpins s σ H Q I q=>h pins s σ H Q I (m σ H Q q)
theorem P5{w w':TG}(h:PG X tg w)(m:∀v σ H Q,w' v σ H Q->w v σ H Q):PG X tg w':=λpins s σ H v u Q I r q=>h pins s σ H v u Q I r (m v σ H Q q)
def gN(i:Nat):iu:=λd δ Q=>Q (δ.set i (some d))
theorem cE{i:Nat}{x:Str}(hN:X.N.Nodup)(hi:X.N[i]?=some x)(hx:Loc X.env.scope x)(hm:m<=i:=by decide)(hf:X.fn x=true\/X.env.scope.names.lookup x=some .local:=by first | exact .inl rfl | exact .inr rfl | assumption):PG X (.Name x pos) (lG m (gN i)) :=
 P5 (AO hN hi hx hf) λv σ H Q ⟨B,F,δ,ts,d,Qd,c,q,k⟩=>k _ _ q (by simp) (λj hj=>by rw[sW (by omega)]) (c.store i)
theorem nB{K:PySem.W.Frag}{F H:Hp}{p:Addr}{xs:List D}{ws:List V}(hp:Rd F p (.lst ws))(r:R F H xs ws [])(hF:Full F H):JD (Ey K p) F xs where
 go:=λi H' hs hi=>by
  have l:=r.length
  have gH:i<ws.length:=by omega
  exact⟨ws,ws[i],.inl (iK hp hs),aP gH⟩
 j7:=λi H' x H2 hs hi zz=>by
  obtain⟨e,y⟩:=zz
  subst e
  have hx:=y ws (.inl (iK hp hs))
  obtain⟨v,A1,e2,r1,sub⟩:=(r.full hF hs rfl).get (aP hi)
  rw[hx]at e2;cases e2
  have:A1=[]:=W9.mpr λa ha=>by simpa using sub ha
  subst this
  exact⟨_,aP hi,af.refl _,r1⟩
 stop:=λi H' hs hi=>⟨ws,.inl (iK hp hs),by have:=r.length;omega⟩
theorem Bo{F:Hp}(lo:Int)(n:Nat):JD (xf lo n) F ((aL n).map λ(k:Nat)=>D.int (lo+(k:Int))) where
 go:=λi H' hs hi=>by
  have gH:i<n:=by simpa using hi
  exact gH
 j7:=λi H' x H2 hs hi zz=>by
  obtain⟨e,y⟩:=zz
  subst e y
  have gH:i<n:=by simpa using hi
  exact⟨.int (lo+i),by simp[jY gH],af.refl _,.int .nil⟩
 stop:=λi H' hs hi=>by
  have gH:n<=i:=by simpa using hi
  exact gH
def uD(t:aN):jk:=λδ Q=>t δ λd ah=>∃xs,kb d=some xs/\Q true (xs.map D.sh) ah
theorem cM9(xs:List D){F H:Hp}{ws:List V}(r:R F H (xs.map D.sh) ws []):(xs.map D.sh).map D.sh=xs.map D.sh:=mj r.pl
theorem Bp(h:PE X l (lE te)):PI X tg l (lI (uD te)) :=
 uC (Ou h) λσ H Q zq=>by
 obtain⟨B,F,δ,ts,Qd,c,q,k⟩:=zq
 exact⟨B,F,δ,ts,_,c,q,λd ao v F1 H1 hd f1 h1 c1=>by
  obtain⟨xs,e,hq⟩:=hd
  obtain⟨F2,f2,c2⟩:=c1.Fq
  have tp:=c2.top
  have c3:=c2.pop.snap
  have e2:=c2.ext
  have sn:=qJ e2
  cases d with
  | lst o ys =>
   obtain rfl:=cS e
   rw[dM]at tp
   cases tp with
   | @shr p ws _ _ _ hp r _ =>
    have r3:=r.shared sn (af.refl _)
    refine⟨p,rfl,⟨ws,bK.of (e2 _ _ hp)⟩,k true _ ao _ _ H1 hq ((f1.trans f2).trans sn) h1 c3 ?_ λ_=>⟨r.pl,nB (.inl (sn _ _ hp)) r3 uf⟩⟩
    rw[cM9 _ r]
    exact nB (.inl (e2 _ _ hp)) (r.shared e2 (af.refl _)) (Full.refl _)
  | fz ys =>
   obtain rfl:=cS e
   cases tp with
   | @fz p o ws _ _ _ hp r _ =>
    have r3:=r.shared sn (af.refl _)
    have es:=mj r.pl
    rw[es]at hq
    refine⟨p,rfl,⟨ws,.inl (.inr ⟨o,e2 _ _ hp⟩)⟩,k true _ ao _ _ H1 hq ((f1.trans f2).trans sn) h1 c3 ?_ λ_=>⟨r.pl,nB (.inr ⟨o,sn _ _ hp⟩) r3 uf⟩⟩
    rw[es]
    exact nB (.inr ⟨o,e2 _ _ hp⟩) (r.shared e2 (af.refl _)) (Full.refl _)
  | av=>cases e
  | bl _=>cases e
  | int _=>cases e
  | str _=>cases e
  | tup _=>cases e
  | obj _ _ _=>cases e
  | bE _=>cases e⟩
def uE(t:aN):jk:=λδ Q=>t δ λd ah=>∃xs,kb d=some xs/\Q d.pl xs ah
theorem g8(h:PE X l (lB te)):PI X tg l (lI (uE te)) :=
 uC (Ou h) λσ H Q zq=>by
 obtain⟨B,F,δ,ts,Qd,c,q,k⟩:=zq
 exact⟨B,F,δ,ts,_,c,q,λd ao v F1 H1 hd f1 h1 c1 s=>by
  obtain⟨xs,e,hq⟩:=hd
  have c3:=c1.snap
  have e2:=c1.ext
  have sn:=qJ e2
  cases s with
  | @shr p ws ys _ _ hp r _ =>
   obtain rfl:=cS e
   refine⟨p,rfl,⟨ws,bK.of (e2 _ _ hp)⟩,k _ _ ao _ _ H1 hq (f1.trans sn) h1 c3 ?_ λ_=>⟨r.pl,nB (.inl (sn _ _ hp)) (r.shared sn (af.refl _)) uf⟩⟩
   rw[mj r.pl]
   exact nB (.inl (e2 _ _ hp)) (r.shared e2 (af.refl _)) (Full.refl _)
  | @own p ws ys _ _ hp r _ =>
   obtain rfl:=cS e
   refine⟨p,rfl,⟨ws,bK.of hp⟩,k _ _ ao _ _ H1 hq (f1.trans sn) h1 c3 (nB (.inl hp) (r.frozen e2) (Full.refl _)) λz=>by simp[fW]at z⟩
  | @fz p o ws ys _ _ hp r _ =>
   obtain rfl:=cS e
   refine⟨p,rfl,⟨ws,.inl (.inr ⟨o,e2 _ _ hp⟩)⟩,k _ _ ao _ _ H1 hq (f1.trans sn) h1 c3 ?_ λ_=>⟨r.pl,nB (.inr ⟨o,sn _ _ hp⟩) (r.shared sn (af.refl _)) uf⟩⟩
   rw[mj r.pl]
   exact nB (.inr ⟨o,e2 _ _ hp⟩) (r.shared e2 (af.refl _)) (Full.refl _)
  | av _=>cases e
  | bl _=>cases e
  | int _=>cases e
  | str _=>cases e
  | tup _ _ _=>cases e
  | obj _ _ _ _=>cases e
  | bE _ _=>cases e⟩
theorem xN(f:Nat->Int)(l:List Nat):(l.map λk=>D.int (f k)).map D.sh=l.map λk=>D.int (f k):=by simp[D.sh]
theorem P6(f:Nat->Int)(l:List Nat):(l.map λk=>D.int (f k)).all D.pl=true:=by simp[D.pl]
def uF(t:cH):jk:=λδ Q=>t δ λds ah=>∃j:Int,ds=[.int j]/\(-(2 ^ 62)<=j/\j<2 ^ 62)/\Q true ((aL j.toNat).map λ(k:Nat)=>D.int (0+(k:Int))) ah
theorem jH{p:Pos}(hg:Gl X "range")(hm:X.mg "range"=none)(ha:PA X [a] (lA ta))(hs:starEach [a] X.env=[(false,eval a X.env)]:=by rfl):PI X tg (.Call (.Name "range" p) [a] [] pos) (lI (uF ta)) :=
 uC (Yt hg hm ha hs) λσ H Q zq=>by
 obtain⟨B,F,δ,ts,Qd,c,q,k⟩:=zq
 exact⟨B,F,δ,ts,_,c,q,λds ao vs F1 H1 hd f1 h1 c1 s=>by
  obtain⟨j,rfl,⟨b1,b2⟩,hq⟩:=hd
  cases s with
  | int s =>
   cases s
   refine⟨j,rfl,b1,b2,k true _ ao _ _ H1 hq f1 h1 c1 ?_ λ_=>⟨P6 _ _,Bo 0 _⟩⟩
   rw[xN]
   exact Bo 0 _⟩
def uG(t:cH):jk:=λδ Q=>t δ λds ah=>∃i j:Int,ds=[.int i,.int j]/\(-(2 ^ 62)<=i/\i<2 ^ 62/\-(2 ^ 62)<=j/\j<2 ^ 62)/\Q true ((aL (j-i).toNat).map λ(k:Nat)=>D.int (i+(k:Int))) ah
theorem xO{p:Pos}(hg:Gl X "range")(hm:X.mg "range"=none)(ha:PA X [a,b] (lA ta))(hs:starEach [a,b] X.env=[(false,eval a X.env),(false,eval b X.env)]:=by rfl)(ft:starEach [b] X.env=[(false,eval b X.env)]:=by rfl) :
  PI X tg (.Call (.Name "range" p) [a,b] [] pos) (lI (uG ta)) :=
 uC (Yu hg hm ha hs ft) λσ H Q zq=>by
 obtain⟨B,F,δ,ts,Qd,c,q,k⟩:=zq
 exact⟨B,F,δ,ts,_,c,q,λds ao vs F1 H1 hd f1 h1 c1 s=>by
  obtain⟨i,j,rfl,bd,hq⟩:=hd
  cases s with
  | int s =>
   cases s with
   | int s =>
    cases s
    refine⟨i,j,rfl,bd,k true _ ao _ _ H1 hq f1 h1 c1 ?_ λ_=>⟨P6 _ _,Bo i _⟩⟩
    rw[xN]
    exact Bo i _⟩
def fX(xs:List D)(g:iu)(tb:cI):cI:=λEn ao=>∃Iv:Nat->Dl->Prop,Iv 0 ao /\
 (∀i d ah,xs[i]?=some d->Iv i ah->g d ah λaS=>tb { En with nx:=Iv (i+1),ct:=Iv (i+1),bk:=En.nx } aS)/\∀ah,Iv xs.length ah->En.nx ah
theorem fX.mk{xs:List D}{g:iu}{tb:cI}{En:ug}{δ:Dl}(Iv:Nat->Dl->Prop)(h0:Iv 0 δ)(ht:∀i d ah,xs[i]?=some d->Iv i ah->g d ah λaS=>tb { En with nx:=Iv (i+1),ct:=Iv (i+1),bk:=En.nx } aS)
  (hf:∀ah,Iv xs.length ah->En.nx ah):fX xs g tb En δ:=⟨Iv,h0,ht,hf⟩
def uH(ti:jk)(g:iu)(tb:cI):cI:=λEn δ=>ti δ λsh xs ao=>sh=true/\fX xs g tb En ao
theorem fY{ti:jk}{g:iu}{body:List Stmt}(hp:PassesOwn (model X.prog X.w) X.A X.env X.xe)(hc:X.calm=true)(hi:PI X tg iter (lI ti))(hg:PG X tg (lG 0 g))(hb:PSs X body (lS X t))
  (hs:∀x,foldedSetIterable iter X.env x=pure x:=by intro _;rfl):PS X (.For tg iter body [] pos) (lS X (uH ti g t)) :=
 jG (Yx hp hc hi hg hb hs) λEn σ H zq=>by
 obtain⟨B,F,δ,Dd,c,q,k1,k2,k3,k4⟩:=zq
 exact⟨B,F,δ,[],_,c,q,λsh xs ao J F1 H1 hq f1 h1 c1 _ jd=>by
  obtain⟨xq,Iv,i0,turn,fin⟩:=hq
  obtain⟨bN,jd⟩:=jd xq
  have un:∀{F' H':Hp} {aI:L2.St} {ah:Dl} {ts:List (D × V)},aq ⟨B.H0,F1⟩ F' H' aI ah ts->aq B F' H' aI ah ts:=λc'=>c'.cV2 c1.b2 c1.b3
  refine⟨λi m σ H=>m=xs.length-i/\i<=xs.length/\∃F δ,aq ⟨B.H0,F1⟩ F H σ δ []/\Iv i δ,⟨_,rfl,lD _,F1,ao,c1.rebase,i0⟩,?_⟩
  rintro i m lW H2 ⟨rfl,hi,F2,aS,c2,iv⟩
  have s2:af F1 H2:=c2.b2.trans c2.ext
  by_cases fI:i<xs.length
  ·refine .inr ⟨jd.go i H2 s2 fI,λaI H'=>∃F δ,aq ⟨B.H0,F1⟩ F H' aI δ []/\Iv (i+1) δ,λaI H' z=>⟨xs.length-(i+1),by omega,rfl,fI,z⟩,λx H3 y=>?_⟩
   obtain⟨d,e,s3,r⟩:=jd.j7 i H2 x H3 s2 fI y
   have c3:=(c2.grow s3).pushS (d:=d) (v:=x) ((r.s).mono c2.b2 (af.refl _)) (by have:=r.pl;simpa using this)
   refine⟨⟨B.H0,F1⟩,F2,aS,[],d,_,c3,turn i d aS e iv,λah aI hq _ _ c4=>?_⟩
   exact⟨⟨B.H0,F1⟩,F2,ah,_,c4,hq,λjI nC F5 H5 h5 c5=>⟨F5,jI,c5,h5⟩,λd5 v5 jI nC F5 H5 h5 c5=>k2 d5 v5 jI nC F5 H5 h5 (un c5),λjI nC F5 H5 h5 c5=>k1 jI nC F5 H5 h5 (un c5),λjI nC F5 H5 h5 c5=>⟨F5,jI,c5,h5⟩,⟨λC jI pins nC F5 H5 s5 a T h5 c5=>k4.2.1 C jI pins nC F5 H5 s5 a T h5 (un c5),λC jI pins nC F5 H5 s5 h' e vs h5 c5=>k4.2.2 C jI pins nC F5 H5 s5 h' e vs h5 (un c5)⟩⟩
  ·have e:i=xs.length:=by omega
   subst e
   exact .inl ⟨jd.stop _ H2 s2 (bG _),k1 aS lW F2 H2 (fin aS iv) (un c2)⟩⟩
end
end L3
namespace L3
open PySem L2 PySem.Spec PyProof.Rows
def jJ(δ:Dl)(q:Str × Nat):Option D:=(δ[q.2]?).getD none
def jl(δ:Dl)(q:Str × Nat):Bool:=match jJ δ q with
 | some d=>d.pl
 | none=>true
def gx(aD:List (Str × Nat))(n:Nat)(δ:Dl):Dl:=(aD.map λq=>(jJ δ q).map D.sh)++bf n none
def uI(sh:Bool)(xs:List D)(aD:List (Str × Nat))(n:Nat)(g:iu)(tt:gw)(te:aN)(ao:Dl)(Q:D->Dl->Prop):Prop:=∃(p:D->Bool) (f:D->D),
 (∀x∈xs.map D.sh,g x (gx aD n ao) λaS=>tt aS λb iN=>b=p x/\(p x=true->te iN λd _=>d=f x)) /\
 ((sh&&aD.all (jl ao))=true\/∀x∈xs.map D.sh,p x=true->(f x).fr=true)/\xs.length<=sizeLine/\Q (.lst true (((xs.map D.sh).filter p).map f)) ao
def oO(ti:jk)(aD:List (Str × Nat))(n:Nat)(g:iu)(tt:gw)(te:aN):aN:=λδ Q=>ti δ λsh xs ao=>uI sh xs aD n g tt te ao Q
def mn:gw:=λδ Q=>Q true δ
theorem ca2{sh:Bool}{xs:List D}{aD:List (Str × Nat)}{n m:Nat}{te:aN}{ao:Dl}{Q:D->Dl->Prop}(f:D->D)(hx:∀x∈xs.map D.sh,te ((gx aD n ao).set m (some x)) λd _=>d=f x)
  (eG:(sh&&aD.all (jl ao))=true\/∀x∈xs.map D.sh,(f x).fr=true) (hl:xs.length<=sizeLine) (hq:Q (.lst true ((xs.map D.sh).map f)) ao):uI sh xs aD n (gN m) mn te ao Q :=
 ⟨λ_=>true,f,λx h=>⟨rfl,λ_=>hx x h⟩,eG.imp id λh x hx _=>h x hx,hl,by rw[Xa.mpr (λ_ _=>rfl)];exact hq⟩
section
variable{B:Bs}{F H:Hp}{σ:L2.St}{δ:Dl}{ts:List (D × V)}
theorem P7(c:aq B F H σ δ ts)(n:Nat):∀(aD:List (Str × Nat)),aD.all (jl δ)=true->RS F H (gx aD n δ) (iq aD n σ) []
 | [],_=>by
  have z:∀n,RS F H (bf n none) (bf n none) []:=λn=>by
   induction n with
   | zero=>exact .nil
   | succ n ih=>exact .av ih
  exact z n
 | q::r,h=>by
  rw[dq,eC]at h
  have ih:=P7 c n r h.2
  show RS F H ((jJ δ q).map D.sh::gx r n δ) ((σ[q.2]?).getD none::iq r n σ) []
  cases e:jJ δ q with
  | none=>exact .av ih
  | some d =>
   have e2:δ[q.2]?=some (some d):=by
    unfold jJ at e
    cases z:δ[q.2]? with
    | none=>rw[z]at e;cases e
    | some o=>rw[z]at e;exact congrArg some e
   have hp:d.pl=true:=by have:=h.1;unfold jl at this;rw[e]at this;exact this
   obtain⟨v,e3,s⟩:=c.look e2
   rw[e3]
   show RS F H (some d.sh::_) (some v::_) []
   rw[D.Bi hp]
   exact .dN (A:=[]) (s.r (by simp[hp])) ih
theorem P8(c:aq B F H σ δ ts)(n:Nat):∀(aD:List (Str × Nat)),RS H H (gx aD n δ) (iq aD n σ) []
 | []=>by
  have z:∀n,RS H H (bf n none) (bf n none) []:=λn=>by
   induction n with
   | zero=>exact .nil
   | succ n ih=>exact .av ih
  exact z n
 | q::r=>by
  have ih:=P8 c n r
  show RS H H ((jJ δ q).map D.sh::gx r n δ) ((σ[q.2]?).getD none::iq r n σ) []
  cases e:jJ δ q with
  | none=>exact .av ih
  | some d =>
   have e2:δ[q.2]?=some (some d):=by
    unfold jJ at e
    cases z:δ[q.2]? with
    | none=>rw[z]at e;cases e
    | some o=>rw[z]at e;exact congrArg some e
   obtain⟨v,e3,s⟩:=c.look e2
   rw[e3]
   exact .dN (A:=[]) (s.frozen c.ext) ih
theorem P9{α:Type}(xs:List α)(p:α->Bool)(i:Nat)(x:α)(h:xs[i]?=some x):(xs.take (i+1)).filter p=(xs.take i).filter p++(if p x=true then [x]else []):=by
 rw[mT,h,List.filter_append]
 simp only[NL]
 by_cases hp:p x=true<;>simp[hp]
end
section
variable{X:Cx}{elt iter tg:Expr}{pos:Pos}{ifs:List Expr}{scope:Scope}{cl:List (Str × Addr)}{ti:jk}{tt:gw}{te:aN}{g:iu}
theorem Fz{B:Bs}{F1 H1:Hp}{σ:L2.St}{ao:Dl}{ts:List (D × V)}{J:It}{Qd:D->Dl->Prop}{Q:VK}{xs:List D}{sh:Bool}{aD:List (Str × Nat)}{n:Nat}(c1:aq B F1 H1 σ ao ts)
  (nD:JD J H1 (xs.map D.sh)) (qR:sh=true->xs.all D.pl=true/\JD J F1 xs) (p:D->Bool) (f:D->D)
  (hx:∀x∈xs.map D.sh,g x (gx aD n ao) λaS=>tt aS λb iN=>b=p x/\(p x=true->te iN λd _=>d=f x))
  (eG:(sh&&aD.all (jl ao))=true\/∀x∈xs.map D.sh,p x=true->(f x).fr=true) (hlen:xs.length<=sizeLine) (hq:Qd (.lst true (((xs.map D.sh).filter p).map f)) ao)
  (k:∀d ah v F' H',Qd d ah->af F1 F'->af H1 H'->aq B F' H' σ ah ((d,v)::ts)->Q v H'):PF J aD n (lG aD.length g) (lT tt) (lE te) σ H1 Q:=by
 intro Dp hD
 have cD:aq B F1 (upd H1 Dp (.lst [])) σ ao ((.lst true [],.ref Dp)::ts):=c1.oJ hD .nil rfl
 refine⟨λi m acc H2=>m=xs.length-i/\i<=xs.length/\H2 Dp=some (.lst acc)/\af H1 H2/\acc.length<=i/\∃F2,af F1 F2 /\
  aq B F2 H2 σ ao ((.lst true ((((xs.map D.sh).take i).filter p).map f),.ref Dp)::ts),⟨xs.length,rfl,lD _,bJ,af.upd hD,bG _,F1,af.refl _,by simpa using cD⟩,?_⟩
 rintro i m acc H2 ⟨rfl,hi,FA,xP,hal,F2,nE,c2⟩
 refine⟨FA,?_⟩
 by_cases fI:i<xs.length
 case neg =>
  have e:i=xs.length:=by omega
  subst e
  refine .inl ⟨nD.stop _ H2 xP (by simp),k _ ao _ F2 H2 ?_ nE xP c2⟩
  have:(xs.map D.sh).take xs.length=xs.map D.sh:=by rw[wI (by simp)]
  rw[this]
  exact hq
 case pos =>
  refine .inr ⟨nD.go i H2 xP (by simpa using fI),λx H3 y=>?_⟩
  obtain⟨d0,e0,FC,r0⟩:=nD.j7 i H2 x H3 xP (by simpa using fI) y
  have Qa:d0∈xs.map D.sh:=tf e0
  have Qb:H3 Dp=some (.lst acc):=FC _ _ FA
  have c3:=c2.grow FC
  have FD:=xP.trans FC
  refine⟨Qb,?_⟩
  have gy:=hx d0 Qa
  have turn:∀Fi,af Fi H3->RS Fi H3 (gx aD n ao) (iq aD n σ) []->S Fi H3 [d0] [x]->d0.pl=true ->
    (∀d v F' H' A,d=f d0->p d0=true->af H3 H'->af Fi F'->af F' H'->(∀a ws,F' a=some (.lst ws)->Fi a=some (.lst ws)\/H3 a=none)->R F' H' [d] [v] A->A.Nodup->(∀a∈A,H3 a=none) ->
     ∃F4,af F2 F4/\aq B F4 H' σ ao ((d,v)::(.lst true ((((xs.map D.sh).take i).filter p).map f),.ref Dp)::ts)) ->
    lG aD.length g x (iq aD n σ) H3 λgU H4 =>
     (gU.length=(iq aD n σ).length/\∀j,j<aD.length->gU[j]?=(iq aD n σ)[j]?)/\lT tt gU H4 λb H5=>H5 Dp=some (.lst acc) /\
     if b=true then lE te gU H5 λy H6=>H6 Dp=some (.lst acc)/\acc.length<sizeLine/\∃m',m'<xs.length-i /\
      (m'=xs.length-(i+1)/\i+1<=xs.length/\upd H6 Dp (.lst (acc++[y])) Dp=some (.lst (acc++[y]))/\af H1 (upd H6 Dp (.lst (acc++[y])))/\(acc++[y]).length<=i+1/\∃F2,af F1 F2 /\
       aq B F2 (upd H6 Dp (.lst (acc++[y]))) σ ao ((.lst true ((((xs.map D.sh).take (i+1)).filter p).map f),.ref Dp)::ts))
     else ∃m',m'<xs.length-i/\(m'=xs.length-(i+1)/\i+1<=xs.length/\H5 Dp=some (.lst acc)/\af H1 H5/\acc.length<=i+1/\∃F2,af F1 F2 /\
       aq B F2 H5 σ ao ((.lst true ((((xs.map D.sh).take (i+1)).filter p).map f),.ref Dp)::ts)):=by
   intro Fi hFi hRS hS bN back
   have ci:aq ⟨H3,Fi⟩ Fi H3 (iq aD n σ) (gx aD n ao) []:=⟨hFi,af.refl _,af.refl _,λ_ _ q=>.inl q,[],[],.nil,hRS,by simp,by simp⟩
   refine⟨⟨H3,Fi⟩,Fi,gx aD n ao,[],d0,_,ci.pushS hS bN,gy,λah gU hq1 l1 k1 c4=>⟨⟨l1,k1⟩,⟨H3,Fi⟩,Fi,ah,[],_,c4,hq1,λb jI F5 H5 hb f5 h5 c5=>?_⟩⟩
   obtain⟨hb,ht⟩:=hb
   have Bq:H5 Dp=some (.lst acc):=h5 _ _ Qb
   refine⟨Bq,?_⟩
   by_cases hp:p d0=true
   ·rw[hb,hp]
    refine qB ⟨⟨H3,Fi⟩,F5,jI,[],_,c5,ht hp,λd δ6 v F6 H6 hd f6 h6 c6=>?_⟩
    have Qc:H6 Dp=some (.lst acc):=h6 _ _ Bq
    obtain⟨A,C,r,s,nd,fr⟩:=c6.own
    obtain⟨F4,uJ,c7⟩:=back d v F6 H6 A hd hp c6.b1 c6.b2 c6.ext c6.b3 r (gv.mp nd).1 λa ha=>fr a (eV _ ha)
    have c8:=c7.cV7 Qc
    refine⟨Qc,by omega,xs.length-(i+1),by omega,rfl,fI,bJ,?_,by simpa using hal,F4,nE.trans uJ,?_⟩
    ·have Qe:=FD.trans c6.b1
     exact⟨λa o q n=>by rw[aZ (eO q hD)];exact Qe.get a o q n,λa ps q=>by rw[aZ (eO q hD)];exact Qe.tb a ps q⟩
    ·have e9:(((xs.map D.sh).take (i+1)).filter p).map f=(((xs.map D.sh).take i).filter p).map f++[d]:=by
      rw[P9 _ p i d0 e0,hp,hd];simp
     rw[e9]
     exact c8
   ·have Br:p d0=false:=by simpa using hp
    rw[hb,Br]
    refine jf ⟨xs.length-(i+1),by omega,rfl,fI,Bq,FD.trans h5,by omega,F2,nE,?_⟩
    have e9:(((xs.map D.sh).take (i+1)).filter p).map f=(((xs.map D.sh).take i).filter p).map f:=by
     rw[P9 _ p i d0 e0,Br];simp
    rw[e9]
    exact c3.grow h5
  by_cases hA:(sh&&aD.all (jl ao))=true
  ·rw[eC]at hA
   obtain⟨bN,jd⟩:=qR hA.1
   have xq:=mj bN
   rw[xq]at e0
   obtain⟨d1,e1,_,r1⟩:=jd.j7 i H2 x H3 (nE.trans c2.ext) fI y
   rw[e0]at e1;cases e1
   have cX0:d0.pl=true:=by have:=r1.pl;simpa using this
   refine turn F2 c3.ext (P7 c3 n aD hA.2) ((r1.s).mono nE (af.refl _)) cX0 λd v F' H' A hd hp hs hf he h3 r nd fr=>⟨F',hf,c3.call hs hf he h3 r nd fr⟩
  ·have cX1:=eG.resolve_left hA
   refine turn H3 (af.refl _) (P8 c3 n aD) ((r0.shared FD (af.refl _)).s) (by have:=r0.pl;simpa using this) λd v F' H' A hd hp hs hf he h3 r nd fr=>⟨F2,af.refl _,?_⟩
   exact c3.Fo hs (r.qI (by rw[hd];simp[cX1 d0 Qa hp]) (c3.ext.trans hf)) nd fr
theorem dv{Y:Cx}:l7 Y [] (lT mn):=λ_ _ _ H _ I ⟨B,F,δ,ts,Qd,c,q,k⟩=>cl1 _ _ _ H _ I (k true δ F H q (af.refl _) (af.refl _) c)
theorem FE{Y:Cx}{c:Expr}(h:PT Y c (lT tt)):l7 Y [c] (lT tt):=cp5 h
end
end L3
namespace L3
open PySem L2 PySem.Spec PyProof.Rows
section
variable{X:Cx}{F H:Hp}{v w:V}
def l2(rd:cU):R2:=λv w H Q=>∃B F σ δ ts x y Qd,aq B F H σ δ ts/\S F H [x] [v]/\S F H [y] [w]/\rd x y Qd/\∀d z H',Qd d->af H H'->aq B F H' σ δ ((d,z)::ts)->Q z H'
theorem bU.of{f:Value->Value->Sem Value}{rd:cU}(h:cN X f (l2 rd)):bU X f rd:=⟨_,h,λ{B F H σ δ ts x y v w Q Qd} c sx sy q k=>⟨B,F,σ,δ,ts,x,y,Qd,c,sx,sy,q,k⟩⟩
theorem xQ{f:Value->Value->Sem Value}{C:Int->Int->Prop}{g:Int->Int->V}{gd:Int->Int->D}(ho:cN X f (rI C g))(hg:∀i j F H,S F H [gd i j] [g i j])(hp:∀i j,(gd i j).pl=true):bU X f λx y Q=>∃i j,x=.int i/\y=.int j/\C i j/\Q (gd i j) :=
 ⟨_,ho,λ{B F H σ δ ts x y v w Q Qd} c sx sy h k=>by
  obtain⟨i,j,rfl,rfl,hc,q⟩:=h
  cases sx;cases sy
  exact⟨i,j,rfl,rfl,hc,k _ _ _ q (af.refl _) (c.pushS (hg i j F H) (hp i j))⟩⟩
theorem mq{f:Value->Value->Sem Value}{g:Int->Int->V}{gd:Int->Int->D}(ho:cN X f (jC g))(hg:∀i j F H,S F H [gd i j] [g i j])(hp:∀i j,(gd i j).pl=true):bU X f λx y Q=>∃i j,x=.int i/\y=.int j/\Q (gd i j) :=
 ⟨_,ho,λ{B F H σ δ ts x y v w Q Qd} c sx sy h k=>by
  obtain⟨i,j,rfl,rfl,q⟩:=h
  cases sx;cases sy
  exact⟨i,j,rfl,rfl,k _ _ _ q (af.refl _) (c.pushS (hg i j F H) (hp i j))⟩⟩
theorem jm{o:Bool}{xs:List D}(s:S F H [.lst o xs] [v])(e:af F H):∃p ws,v=.ref p/\H p=some (.lst ws)/\S F H xs ws:=by
 cases s with
 | shr h r _=>exact⟨_,_,rfl,e _ _ h,r.s⟩
 | own h r _=>exact⟨_,_,rfl,h,r⟩
theorem kL{xs:List D}(s:S F H [.tup xs] [v]):∃p ws,v=.ref p/\H p=some (.tup ws)/\S F H xs ws:=by
 cases s with
 | tup h r _=>exact⟨_,_,rfl,h,r⟩
theorem kM{d:D}{xs:List D}(s:S F H [d] [v])(e:af F H)(h:kb d=some xs):∃p ws,v=.ref p/\Rd H p (.lst ws)/\S F H xs ws:=by
 cases s with
 | shr h' r _=>cases h;exact⟨_,_,rfl,.inl (e _ _ h'),r.s⟩
 | own h' r _=>cases h;exact⟨_,_,rfl,.inl h',r⟩
 | fz h' r _=>cases h;exact⟨_,_,rfl,.inr ⟨_,e _ _ h'⟩,r.s⟩
 | av _=>cases h
 | bl _=>cases h
 | int _=>cases h
 | str _=>cases h
 | tup _ _ _=>cases h
 | obj _ _ _ _=>cases h
 | bE _ _=>cases h
theorem S.rep{xs:List D}{ws:List V}(s:S F H xs ws):∀k:Nat,S F H (bf k xs).flatten (bf k ws).flatten
 | 0=>by simpa using S.nil
 | k+1=>by
  rw[pX,pX,tw,tw]
  exact s.append (S.rep s k)
def qS:cU:=λx y Q=>match x,y with
 | .int i,.int j=>Q (.int (i+j))
 | .str a,.str b=>a.length+b.length<=sizeLine/\Q (.str (a++b))
 | .lst _ xs,.lst _ ys=>(xs.length+ys.length<=sizeLine/\xs.all D.pl=true/\ys.all D.pl=true)/\Q (.lst true (xs++ys))
 | _,_=>False
theorem cI6:bU X (binaryOp .Add) λx y Q=>∃o xs o' ys,x=.lst o xs/\y=.lst o' ys/\(xs.length+ys.length<=sizeLine/\xs.all D.pl=true/\ys.all D.pl=true)/\Q (.lst true (xs++ys)) :=
 ⟨_,O2,λ{B F H σ δ ts x y v w Q Qd} c sx sy h k=>by
  obtain⟨o,xs,o',ys,rfl,rfl,⟨hz,h1,h2⟩,q⟩:=h
  obtain⟨p,ws,rfl,e1,s1⟩:=jm sx c.ext
  obtain⟨p',gI,rfl,e2,s2⟩:=jm sy c.ext
  refine⟨p,p',ws,gI,rfl,rfl,e1,e2,by rw[<-s1.length,<- s2.length];exact hz,λr hr=>?_⟩
  exact k _ _ _ q (af.upd hr) (c.oJ hr (s1.append s2) (by simp[h1,h2]))⟩
theorem cX3:bU X (binaryOp .Add) λx y Q=>∃i j,x=.str i/\y=.str j/\i.length+j.length<=sizeLine/\Q (.str (i++j)) :=
 ⟨_,YR,λ{B F H σ δ ts x y v w Q Qd} c sx sy h k=>by
  obtain⟨i,j,rfl,rfl,hz,q⟩:=h
  cases sx;cases sy
  exact⟨i,j,rfl,rfl,hz,k _ _ _ q (af.refl _) (c.pushS (.str .nil) rfl)⟩⟩
theorem cR:bU X (binaryOp .Add) qS:=((mq (gd:=λi j=>.int (i+j)) YB (λ_ _ _ _=>.int .nil) λ_ _=>rfl).or (cX3.or cI6)).imp λx y Q h=>by
 unfold qS at h
 split at h
 ·exact .inl ⟨_,_,rfl,rfl,h⟩
 ·exact .inr (.inl ⟨_,_,rfl,rfl,h.1,h.2⟩)
 ·exact .inr (.inr ⟨_,_,_,_,rfl,rfl,h.1,h.2⟩)
 ·exact h.elim
def iI(C:Int->Int->Prop)(g:Int->Int->D):cU:=λx y Q=>match x,y with
 | .int i,.int j=>C i j/\Q (g i j)
 | _,_=>False
def iw(g:Int->Int->D):cU:=λx y Q=>match x,y with
 | .int i,.int j=>Q (g i j)
 | _,_=>False
theorem Bt{f:Value->Value->Sem Value}{C:Int->Int->Prop}{g:Int->Int->D}(h:bU X f λx y Q=>∃i j,x=.int i/\y=.int j/\C i j/\Q (g i j)):bU X f (iI C g):=h.imp λx y Q h=>by
 unfold iI at h
 split at h
 ·exact⟨_,_,rfl,rfl,h.1,h.2⟩
 ·exact h.elim
theorem nF{f:Value->Value->Sem Value}{g:Int->Int->D}(h:bU X f λx y Q=>∃i j,x=.int i/\y=.int j/\Q (g i j)):bU X f (iw g):=h.imp λx y Q h=>by
 unfold iw at h
 split at h
 ·exact⟨_,_,rfl,rfl,h⟩
 ·exact h.elim
def uK:cU:=iw λi j=>.int (i-j)
theorem dB:bU X (binaryOp .Sub) uK:=nF (mq EF (λ_ _ _ _=>.int .nil) λ_ _=>rfl)
def FF(_ j:Int):Prop:=0<j/\j.natAbs.log2<9000
theorem qT{i j:Int}(h1:0<j)(h2:j<1073741824):FF i j:=⟨h1,by
 have h:j.natAbs<2 ^ 30:=by omega
 have:=(Nat.log2_lt (show j.natAbs≠0 by omega)).mpr h
 omega⟩
theorem cd1:cN X (binaryOp .FloorDiv) (rI FF λi j=>.int (i/j)):=xn λi j _ _ _ _ _ hc q =>
 floordiv_int (show j≠0 by have:=hc.1;omega) (by rw[WZ i (by have:=hc.1;omega)];exact q) (.inl (PyProof.noPylong_of_log2 hc.2))
def uL:cU:=iI FF λi j=>.int (i/j)
theorem qU:bU X (binaryOp .FloorDiv) uL:=Bt (xQ cd1 (λ_ _ _ _=>.int .nil) λ_ _=>rfl)
def uM:cU:=iI (λ_ j=>0<j) λi j=>.int (i%j)
theorem dD:bU X (binaryOp .Mod) uM:=Bt (xQ YC (λ_ _ _ _=>.int .nil) λ_ _=>rfl)
def uN:cU:=iI Pz λi j=>.int (i*2 ^ j.toNat)
theorem uO:bU X (binaryOp .LShift) uN:=Bt (xQ PB (λ_ _ _ _=>.int .nil) λ_ _=>rfl)
def uP:cU:=iI (λ_ j=>0<=j) λi j=>.int (i/2 ^ j.toNat)
theorem Qf:bU X (binaryOp .RShift) uP:=Bt (xQ YD (λ_ _ _ _=>.int .nil) λ_ _=>rfl)
def uQ:cU:=iw λi j=>.int (oh i j)
theorem Qg:bU X (binaryOp .BitAnd) uQ:=nF (mq YE (λ_ _ _ _=>.int .nil) λ_ _=>rfl)
def uR:cU:=iw λi j=>.int (oi i j)
theorem xR:bU X (binaryOp .BitXor) uR:=nF (mq YF (λ_ _ _ _=>.int .nil) λ_ _=>rfl)
theorem ca1:cN X (binaryOp .Mult) (rI IntMulOk λi j=>.int (i*j)):=xn λ_ _ _ _ _ _ _ hc q=>mul_int q hc
def qV:cU:=λx y Q=>match x,y with
 | .int i,.int j=>IntMulOk i j/\Q (.int (i*j))
 | .lst _ xs,.int k=>(-(2 ^ 63)<=k/\k<2 ^ 63/\xs.length*k.toNat<=sizeLine/\xs.all D.pl=true)/\Q (.lst true (bf k.toNat xs).flatten)
 | _,_=>False
theorem cI5:bU X (binaryOp .Mult) λx y Q=>∃o xs k,x=.lst o xs/\y=.int k/\(-(2 ^ 63)<=k/\k<2 ^ 63/\xs.length*k.toNat<=sizeLine/\xs.all D.pl=true)/\Q (.lst true (bf k.toNat xs).flatten) :=
 ⟨_,Z0,λ{B F H σ δ ts x y v w Q Qd} c sx sy h k=>by
  obtain⟨o,xs,n,rfl,rfl,⟨b1,b2,hz,h1⟩,q⟩:=h
  obtain⟨p,ws,rfl,e1,s1⟩:=jm sx c.ext
  cases sy
  refine⟨p,n,ws,rfl,rfl,e1,b1,b2,by rw[<-s1.length];exact hz,λr hr=>?_⟩
  refine k _ _ _ q (af.upd hr) (c.oJ hr (s1.rep _) ?_)
  rw[dr]
  intro x hx
  obtain⟨l,hl,qW⟩:=List.mem_flatten.mp hx
  rw[(Aj.mp hl).2]at qW
  exact dr.mp h1 x qW⟩
theorem fu:bU X (binaryOp .Mult) qV:=((xQ (gd:=λi j=>.int (i*j)) ca1 (λ_ _ _ _=>.int .nil) λ_ _=>rfl).or cI5).imp λx y Q h=>by
 unfold qV at h
 split at h
 ·exact .inl ⟨_,_,rfl,rfl,h.1,h.2⟩
 ·exact .inr ⟨_,_,_,rfl,rfl,h.1,h.2⟩
 ·exact h.elim
theorem cC1:bU X (inplaceOp .Add) (iw λi j=>.int (i+j)):=nF (mq YG (λ_ _ _ _=>.int .nil) λ_ _=>rfl)
theorem Bu:bU X (inplaceOp .BitXor) (iw λi j=>.int (oi i j)):=nF (mq YH (λ_ _ _ _=>.int .nil) λ_ _=>rfl)
def uS:cU:=iw λi j=>.bl (decide (i<j))
def uT:cU:=iw λi j=>.bl (decide (i<=j))
def uU:cU:=iw λi j=>.bl (decide (j<i))
def uV:cU:=iw λi j=>.bl (decide (j<=i))
theorem qX:bU X (compareOp .Lt) uS:=nF (mq Ox (λ_ _ _ _=>.bl .nil) λ_ _=>rfl)
theorem ke:bU X (compareOp .LtE) uT:=nF (mq YL (λ_ _ _ _=>.bl .nil) λ_ _=>rfl)
theorem FG:bU X (compareOp .Gt) uU:=nF (mq Oy (λ_ _ _ _=>.bl .nil) λ_ _=>rfl)
theorem cN4:bU X (compareOp .GtE) uV:=nF (mq YM (λ_ _ _ _=>.bl .nil) λ_ _=>rfl)
def oQ:D->Bool
 | .av=>true
 | _=>false
def qY:cU:=λx y Q=>match y with
 | .av=>Q (.bl (!oQ x))
 | _=>False
theorem cp3{d:D}(s:S F H [d] [v]):decide (v=.av)=oQ d:=by cases s<;>simp[oQ]
theorem cy6:bU X (compareOp .IsNot) qY:=⟨_,YN,λ{B F H σ δ ts x y v w Q Qd} c sx sy h k=>by
 unfold qY at h
 split at h
 ·cases sy
  refine⟨rfl,?_⟩
  rw[cp3 sx]
  exact k _ _ _ h (af.refl _) (c.pushS (.bl .nil) rfl)
 ·exact h.elim⟩
def bF:D->D->Bool
 | .av,.av=>true
 | .bl a,.bl b=>a==b
 | .bl a,.int b=>(if a then 1 else 0)==b
 | .int a,.bl b=>a==(if b then 1 else 0)
 | .int a,.int b=>a==b
 | .str a,.str b=>a==b
 | .lst _ xs,.lst _ ys=>fZ xs ys
 | .tup xs,.tup ys=>fZ xs ys
 | _,_=>false
where fZ:List D->List D->Bool
 | [],[]=>true
 | x::xs,y::ys=>bF x y&&fZ xs ys
 | _,_=>false
def dP:Nat->D->Bool
 | _,.av=>true
 | _,.bl _=>true
 | _,.int _=>true
 | _,.str _=>true
 | n+1,.lst _ xs=>xs.all (dP n)
 | n+1,.tup xs=>xs.all (dP n)
 | _,_=>false
theorem FH:∀(xs ys:List D),xs.length=ys.length->bF.fZ xs ys=(aL xs.length).all λj=>bF (xs.getD j .av) (ys.getD j .av)
 | [],[],_=>rfl
 | x::xs,y::ys,h=>by
  rw[jx,Xb,dq,mU]
  show(bF x y&&bF.fZ xs ys)=_
  rw[FH xs ys (by simpa using h)]
  rfl
theorem FI:∀(xs ys:List D),xs.length≠ys.length->bF.fZ xs ys=false
 | [],[],h=>absurd rfl h
 | [],_::_,_=>rfl
 | _::_,[],_=>rfl
 | x::xs,y::ys,h=>by
  show(bF x y&&bF.fZ xs ys)=false
  rw[FI xs ys (by simpa using h),Bool.and_false]
def ofV:V->D
 | .bl b=>.bl b
 | .int i=>.int i
 | .str z=>.str z
 | _=>.av
theorem xS{x:D}{v:V}(h:dP 0 x=true)(s:S F H [x] [v]):x=ofV v:=by
 cases s with
 | av _=>rfl
 | bl _=>rfl
 | int _=>rfl
 | str _=>rfl
 | _=>cases h
theorem Qh{x:D}(h:dP 0 x=true):bF x x=true:=by
 cases x with
 | av=>rfl
 | bl b=>exact beq_self_eq_true b
 | int i=>exact beq_self_eq_true i
 | str z=>exact beq_self_eq_true z
 | _=>cases h
theorem oR{n:Nat}{x:D}(h:dP (n+1) x=true):dP 0 x=true\/(∃o xs,x=.lst o xs/\xs.all (dP n)=true)\/∃xs,x=.tup xs/\xs.all (dP n)=true:=by
 cases x with
 | lst o xs=>exact .inr (.inl ⟨o,xs,rfl,h⟩)
 | tup xs=>exact .inr (.inr ⟨xs,rfl,h⟩)
 | obj _ _ _=>exact absurd h iY
 | fz _=>exact absurd h iY
 | bE _=>exact absurd h iY
 | _=>exact .inl rfl
theorem Bv{x:D}{p:Addr}(h:dP 0 x=true)(s:S F H [x] [.ref p]):False:=by
 rw[xS h s]at s
 cases s
theorem Qi:∀(n:Nat) {xs ys:List D} {vs:List V},xs.all (dP n)=true->ys.all (dP n)=true->S F H xs vs->S F H ys vs->af F H->bF.fZ xs ys=true:=by
 intro n xs
 induction n generalizing xs with
 | zero =>
  induction xs with
  | nil=>intro ys vs _ _ s1 s2 _;cases s1;cases s2;rfl
  | cons x xs ih =>
   intro ys vs h1 h2 s1 s2 e
   obtain⟨v,bR,rfl,q1,r1⟩:=s1.cO
   cases ys with
   | nil=>cases s2
   | cons y ys =>
    obtain⟨v',Fm,ee,q2,r2⟩:=s2.cO
    obtain⟨rfl,rfl⟩:=mS ee
    rw[dq,eC]at h1 h2
    show(bF x y&&bF.fZ xs ys)=true
    rw[ih h1.2 h2.2 r1 r2 e,mV,xS h2.1 q2,<- xS h1.1 q1]
    exact Qh h1.1
 | succ n Qj =>
  induction xs with
  | nil=>intro ys vs _ _ s1 s2 _;cases s1;cases s2;rfl
  | cons x xs ih =>
   intro ys vs h1 h2 s1 s2 e
   obtain⟨v,bR,rfl,q1,r1⟩:=s1.cO
   cases ys with
   | nil=>cases s2
   | cons y ys =>
    obtain⟨v',Fm,ee,q2,r2⟩:=s2.cO
    obtain⟨rfl,rfl⟩:=mS ee
    rw[dq,eC]at h1 h2
    show(bF x y&&bF.fZ xs ys)=true
    rw[ih h1.2 h2.2 r1 r2 e,mV]
    have h1:=h1.1
    have h2:=h2.1
    clear ih r1 r2 s1 s2
    rcases oR h1 with k1 | ⟨o1,a1,rfl,k1⟩ | ⟨a1,rfl,k1⟩
    ·rcases oR h2 with k2 | ⟨o2,a2,rfl,k2⟩ | ⟨a2,rfl,k2⟩
     ·rw[xS k2 q2,<- xS k1 q1]
      exact Qh k1
     ·obtain⟨p,ws,rfl,_⟩:=jm q2 e
      exact(Bv k1 q1).elim
     ·obtain⟨p,ws,rfl,_⟩:=kL q2
      exact(Bv k1 q1).elim
    ·obtain⟨p,ws,rfl,e1,t1⟩:=jm q1 e
     rcases oR h2 with k2 | ⟨o2,a2,rfl,k2⟩ | ⟨a2,rfl,k2⟩
     ·exact(Bv k2 q2).elim
     ·obtain⟨p2,FJ,ev,e2,t2⟩:=jm q2 e
      cases ev
      cases e1.symm.trans e2
      exact Qj k1 k2 t1 t2 e
     ·obtain⟨p2,FJ,ev,e2,t2⟩:=kL q2
      cases ev
      cases e1.symm.trans e2
    ·obtain⟨p,ws,rfl,e1,t1⟩:=kL q1
     rcases oR h2 with k2 | ⟨o2,a2,rfl,k2⟩ | ⟨a2,rfl,k2⟩
     ·exact(Bv k2 q2).elim
     ·obtain⟨p2,FJ,ev,e2,t2⟩:=jm q2 e
      cases ev
      cases e1.symm.trans e2
     ·obtain⟨p2,FJ,ev,e2,t2⟩:=kL q2
      cases ev
      cases e1.symm.trans e2
      exact Qj k1 k2 t1 t2 e
end
end L3
namespace L3
open PySem L2 PySem.Spec PyProof.Rows
structure Qk(A:Around)(s:Shared)(u w:Value)(b:Bool):Prop where
 rc:SeqAt.RcAt A s u w b
 ne:SeqAt.RcNeAt A s u w (!b)
 eq:DU A s u w b
section
variable{X:Cx}{F H:Hp}{v w:V}
theorem Ql{xs:List V}{us:List Value}(r:Vals xs us){j:Nat}(h:j<us.toArray.size):∃x,xs[j]?=some x/\RelV x us.toArray[j]:=by
 have l:=r.length
 have hj:j<xs.length:=by rw[l];simpa using h
 obtain⟨u,e,q⟩:=r.get (aP hj)
 obtain⟨_,z⟩:=iX.mp e
 refine⟨_,aP hj,?_⟩
 have:us.toArray[j]=u:=by simpa using z
 rw[this];exact q
theorem Qm{xs:List D}{j:Nat}{d:D}(h:xs[j]?=some d):xs.getD j .av=d:=by rw[aT,h];rfl
theorem uW{x:D}{v:V}{u:Value}(h:dP 0 x=true)(s:S F H [x] [v])(r:RelV v u):(x=.av/\u=.none)\/(∃b,x=.bl b/\u=.bool b)\/(∃i t,x=.int i/\u=.int i t)\/∃z t,x=.str z/\u=.str z t:=by
 cases s with
 | av _=>cases r;exact .inl ⟨rfl,rfl⟩
 | bl _=>cases r;exact .inr (.inl ⟨_,rfl,rfl⟩)
 | int _=>obtain⟨t,rfl⟩:=r;exact .inr (.inr (.inl ⟨_,t,rfl,rfl⟩))
 | str _=>obtain⟨t,rfl⟩:=r;exact .inr (.inr (.inr ⟨_,t,rfl,rfl⟩))
 | _=>exact absurd h iY
theorem Qn{x y:D}{u u':Value}{A:Around}{s:Shared}(h1:(x=.av/\u=.none)\/(∃b,x=.bl b/\u=.bool b)\/(∃i t,x=.int i/\u=.int i t)\/∃z t,x=.str z/\u=.str z t)(h2:(y=.av/\u'=.none)\/(∃b,y=.bl b/\u'=.bool b)\/(∃i t,y=.int i/\u'=.int i t)\/∃z t,y=.str z/\u'=.str z t):Qk A s u u' (bF x y):=by
 rcases h1 with⟨rfl,rfl⟩ | ⟨a,rfl,rfl⟩ | ⟨a,t,rfl,rfl⟩ | ⟨a,t,rfl,rfl⟩<;>rcases h2 with⟨rfl,rfl⟩ | ⟨b,rfl,rfl⟩ | ⟨b,t',rfl,rfl⟩ | ⟨b,t',rfl,rfl⟩
 ·exact⟨.none_none,.none_none,.same _⟩
 ·exact⟨.none_bool _,.none_bool _,.none_bool _⟩
 ·exact⟨.none_int _ _,.none_int _ _,.none_int _ _⟩
 ·exact⟨.none_str _ _,.none_str _ _,.none_str _ _⟩
 ·exact⟨.bool_none _,.bool_none _,.bool_none _⟩
 ·exact⟨.bool_bool _ _,.bool_bool _ _,.bool_bool _ _⟩
 ·exact⟨.bool_int _ _ _,.bool_int _ _ _,.bool_int _ _ _⟩
 ·exact⟨.bool_str _ _ _,.bool_str _ _ _,.bool_str _ _ _⟩
 ·exact⟨.int_none _ _,.int_none _ _,.int_none _ _⟩
 ·exact⟨.int_bool _ _ _,.int_bool _ _ _,.int_bool _ _ _⟩
 ·exact⟨.int_int _ _ _ _,.int_int _ _ _ _,.int_int _ _ _ _⟩
 ·exact⟨.int_str _ _ _ _,.int_str _ _ _ _,.int_str _ _ _ _⟩
 ·exact⟨.str_none _ _,.str_none _ _,.str_none _ _⟩
 ·exact⟨.str_bool _ _ _,.str_bool _ _ _,.str_bool _ _ _⟩
 ·exact⟨.str_int _ _ _ _,.str_int _ _ _ _,.str_int _ _ _ _⟩
 ·exact⟨.str_str _ _ _ _,.str_str _ _ _ _,.str_str _ _ _ _⟩
theorem Qo{pins:List (Addr × Obj)}{σ:L2.St}{s:Shared}(I:Inv X pins σ H s)(e:af F H):∀(n:Nat) (x y:D) (v w:V) (u u':Value) (A:Around),dP n x=true->dP n y=true->S F H [x] [v]->S F H [y] [w]->RelV v u->RelV w u' ->
  A.units+n<cLine->Qk A s u u' (bF x y):=by
 intro n
 induction n with
 | zero =>
  intro x y v w u u' A hx hy sx sy rv gr hu
  exact Qn (uW hx sx rv) (uW hy sy gr)
 | succ n ih =>
  intro x y v w u u' A hx hy sx sy rv gr hu
  have bw:A.units<cLine:=mR (Nat.le_add_right ..) hu
  have Qp:A.in1.units+n<cLine:=by show A.units+1+n<cLine;rw[D6,NB 1];exact hu
  have items:∀{xs ys:List D} {vs ws:List V} {us iy:List Value},xs.all (dP n)=true->ys.all (dP n)=true->S F H xs vs->S F H ys ws->Vals vs us->Vals ws iy ->
    ∀j (h1:j<us.toArray.size) (h2:j<iy.toArray.size),DU A.in1 s us.toArray[j] iy.toArray[j] (bF (xs.getD j .av) (ys.getD j .av)):=by
   intro xs ys vs ws us iy hx hy sx sy r1 r2 j h1 h2
   obtain⟨a,e1,q1⟩:=Ql r1 h1
   obtain⟨b,e2,q2⟩:=Ql r2 h2
   obtain⟨d1,g1,t1⟩:=sx.get' e1
   obtain⟨d2,g2,t2⟩:=sy.get' e2
   rw[Qm g1,Qm g2]
   exact(ih d1 d2 a b _ _ A.in1 (dr.mp hx d1 (tf g1)) (dr.mp hy d2 (tf g2)) t1 t2 q1 q2 Qp).eq
  clear ih hu Qp
  rcases oR hx with k1 | ⟨o,xs,rfl,k1⟩ | ⟨xs,rfl,k1⟩
  ·have f:=uW k1 sx rv
   rcases oR hy with k2 | ⟨o',ys,rfl,k2⟩ | ⟨ys,rfl,k2⟩
   ·exact Qn f (uW k2 sy gr)
   ·obtain⟨p',gI,rfl,e2,t2⟩:=jm sy e
    cases gr
    obtain⟨kN,r2,p2,z2⟩:=I.list (bK.of (K:=X.K) e2)
    have p2:=p2.isList
    rcases f with⟨rfl,rfl⟩ | ⟨a,rfl,rfl⟩ | ⟨a,t,rfl,rfl⟩ | ⟨a,t,rfl,rfl⟩
    ·exact⟨.none_list p2 bw,.none_list p2 bw,.none_list p2 bw⟩
    ·exact⟨.bool_list _ p2 bw,.bool_list _ p2 bw,.bool_list _ p2 bw⟩
    ·exact⟨.int_list _ _ p2 bw,.int_list _ _ p2 bw,.int_list _ _ p2 bw⟩
    ·exact⟨.str_list _ _ p2 bw,.str_list _ _ p2 bw,.str_list _ _ p2 bw⟩
   ·obtain⟨p',gI,rfl,e2,t2⟩:=kL sy
    cases gr
    obtain⟨kN,r2,p2,z2⟩:=I.tuple (hW.of (K:=X.K) e2)
    rcases f with⟨rfl,rfl⟩ | ⟨a,rfl,rfl⟩ | ⟨a,t,rfl,rfl⟩ | ⟨a,t,rfl,rfl⟩
    ·exact⟨.none_tuple p2 bw,.none_tuple p2 bw,.none_tuple p2 bw⟩
    ·exact⟨.bool_tuple _ p2 bw,.bool_tuple _ p2 bw,.bool_tuple _ p2 bw⟩
    ·exact⟨.int_tuple _ _ p2 bw,.int_tuple _ _ p2 bw,.int_tuple _ _ p2 bw⟩
    ·exact⟨.str_tuple _ _ p2 bw,.str_tuple _ _ p2 bw,.str_tuple _ _ p2 bw⟩
  ·obtain⟨p,ws,rfl,e1,t1⟩:=jm sx e
   cases rv
   obtain⟨its,r1,p1,z1⟩:=I.list (bK.of (K:=X.K) e1)
   have p1:=p1.isList
   rcases oR hy with k2 | ⟨o',ys,rfl,k2⟩ | ⟨ys,rfl,k2⟩
   ·rcases uW k2 sy gr with⟨rfl,rfl⟩ | ⟨a,rfl,rfl⟩ | ⟨a,t,rfl,rfl⟩ | ⟨a,t,rfl,rfl⟩
    ·exact⟨.list_none p1 bw,.list_none p1 bw,.list_none p1 bw⟩
    ·exact⟨.list_bool _ p1 bw,.list_bool _ p1 bw,.list_bool _ p1 bw⟩
    ·exact⟨.list_int _ _ p1 bw,.list_int _ _ p1 bw,.list_int _ _ p1 bw⟩
    ·exact⟨.list_str _ _ p1 bw,.list_str _ _ p1 bw,.list_str _ _ p1 bw⟩
   ·obtain⟨p',gI,rfl,e2,t2⟩:=jm sy e
    cases gr
    obtain⟨kN,r2,p2,z2⟩:=I.list (bK.of (K:=X.K) e2)
    have p2:=p2.isList
    have qZ:xs.length=its.length:=t1.length.trans r1.length
    have uX:ys.length=kN.length:=t2.length.trans r2.length
    by_cases hl:xs.length=ys.length
    ·have lX:its.toArray.size=kN.toArray.size:=by rw[dH,dH,<- qZ,<- uX];exact hl
     have ev:(aL its.toArray.size).all (λj=>bF (xs.getD j .av) (ys.getD j .av))=bF (.lst o xs) (.lst o' ys):=by
      show _=bF.fZ xs ys
      rw[FH xs ys hl,dH,<- qZ]
     have a:=SeqAt.RcAt.lists (e:=λj=>bF (xs.getD j .av) (ys.getD j .av)) p1 p2 lX bw (items k1 k2 t1 t2 r1 r2)
     have b:=SeqAt.RcNeAt.lists (e:=λj=>bF (xs.getD j .av) (ys.getD j .av)) p1 p2 lX bw (items k1 k2 t1 t2 r1 r2)
     rw[ev]at a b
     refine⟨a,b,?_⟩
     by_cases q8:p=p'
     ·subst q8
      cases e1.symm.trans e2
      rw[show bF (.lst o xs) (.lst o' ys)=true from Qi n k1 k2 t1 t2 e]
      exact .same _
     ·exact .of_refs q8 a
    ·have lX:(its.toArray.size != kN.toArray.size)=true:=bne_iff_ne.mpr (by rw[dH,dH,<- qZ,<- uX];exact hl)
     rw[show bF (.lst o xs) (.lst o' ys)=false from FI xs ys hl]
     have a:=SeqAt.RcAt.lists_lengths p1 p2 lX bw
     refine⟨a,SeqAt.RcNeAt.lists_lengths p1 p2 lX bw,.of_refs (λq8=>?_) a⟩
     subst q8
     cases e1.symm.trans e2
     exact hl (t1.length.trans t2.length.symm)
   ·obtain⟨p',gI,rfl,e2,t2⟩:=kL sy
    cases gr
    obtain⟨kN,r2,p2,z2⟩:=I.tuple (hW.of (K:=X.K) e2)
    exact⟨.list_tuple p1 p2 bw,.list_tuple p1 p2 bw,.list_tuple p1 p2 bw⟩
  ·obtain⟨p,ws,rfl,e1,t1⟩:=kL sx
   cases rv
   obtain⟨its,r1,p1,z1⟩:=I.tuple (hW.of (K:=X.K) e1)
   rcases oR hy with k2 | ⟨o',ys,rfl,k2⟩ | ⟨ys,rfl,k2⟩
   ·rcases uW k2 sy gr with⟨rfl,rfl⟩ | ⟨a,rfl,rfl⟩ | ⟨a,t,rfl,rfl⟩ | ⟨a,t,rfl,rfl⟩
    ·exact⟨.tuple_none p1 bw,.tuple_none p1 bw,.tuple_none p1 bw⟩
    ·exact⟨.tuple_bool _ p1 bw,.tuple_bool _ p1 bw,.tuple_bool _ p1 bw⟩
    ·exact⟨.tuple_int _ _ p1 bw,.tuple_int _ _ p1 bw,.tuple_int _ _ p1 bw⟩
    ·exact⟨.tuple_str _ _ p1 bw,.tuple_str _ _ p1 bw,.tuple_str _ _ p1 bw⟩
   ·obtain⟨p',gI,rfl,e2,t2⟩:=jm sy e
    cases gr
    obtain⟨kN,r2,p2,z2⟩:=I.list (bK.of (K:=X.K) e2)
    have p2:=p2.isList
    exact⟨.tuple_list p1 p2 bw,.tuple_list p1 p2 bw,.tuple_list p1 p2 bw⟩
   ·obtain⟨p',gI,rfl,e2,t2⟩:=kL sy
    cases gr
    obtain⟨kN,r2,p2,z2⟩:=I.tuple (hW.of (K:=X.K) e2)
    have qZ:xs.length=its.length:=t1.length.trans r1.length
    have uX:ys.length=kN.length:=t2.length.trans r2.length
    have ev:((aL (min its.toArray.size kN.toArray.size)).all (λj=>bF (xs.getD j .av) (ys.getD j .av))&&its.toArray.size==kN.toArray.size)=bF (.tup xs) (.tup ys):=by
     show _=bF.fZ xs ys
     rw[dH,dH,<- qZ,<- uX]
     by_cases hl:xs.length=ys.length
     ·rw[FH xs ys hl,<- hl,Ak,beq_self_eq_true,mV]
     ·rw[FI xs ys hl,beq_false_of_ne hl,Bool.and_false]
    have a:=SeqAt.RcAt.tuples (e:=λj=>bF (xs.getD j .av) (ys.getD j .av)) p1 p2 bw (items k1 k2 t1 t2 r1 r2)
    have b:=SeqAt.RcNeAt.tuples (e:=λj=>bF (xs.getD j .av) (ys.getD j .av)) p1 p2 bw (items k1 k2 t1 t2 r1 r2)
    rw[ev]at a b
    refine⟨a,b,?_⟩
    by_cases q8:p=p'
    ·subst q8
     cases e1.symm.trans e2
     rw[show bF (.tup xs) (.tup ys)=true from Qi n k1 k2 t1 t2 e]
     exact .same _
    ·exact .of_refs q8 a
def uY:cU:=λx y Q=>(dP 6 x=true/\dP 6 y=true)/\Q (.bl (bF x y))
def uZ:cU:=λx y Q=>(dP 6 x=true/\dP 6 y=true)/\Q (.bl (!bF x y))
theorem gz(hu:X.A.units+6<cLine):bU X (compareOp .Eq) uY:=bU.of λpins s σ H v w u u' Q I rv gr zz=>by
 obtain⟨B,F,aI,δ,ts,x,y,Qd,c,sx,sy,⟨⟨hx,hy⟩,q⟩,k⟩:=zz
 exact(Qo I c.ext 6 x y v w u u' X.A hx hy sx sy rv gr hu).rc _ _ _ _ ⟨.bl _,H,I,rfl,k _ _ _ q (af.refl _) (c.pushS (.bl .nil) rfl)⟩
theorem gJ(hu:X.A.units+6<cLine):bU X (compareOp .NotEq) uZ:=bU.of λpins s σ H v w u u' Q I rv gr zz=>by
 obtain⟨B,F,aI,δ,ts,x,y,Qd,c,sx,sy,⟨⟨hx,hy⟩,q⟩,k⟩:=zz
 exact(Qo I c.ext 6 x y v w u u' X.A hx hy sx sy rv gr hu).ne _ _ _ _ ⟨.bl _,H,I,rfl,k _ _ _ q (af.refl _) (c.pushS (.bl .nil) rfl)⟩
end
end L3
namespace L3
open PySem L2 PySem.Spec PyProof.Rows
section
variable{X:Cx}{F H:Hp}{v w:V}{e a b c o:Expr}{es:List Expr}{pos p p2 apos cm:Pos}{t ta tb tc te:aN}{tr:cH}{x:Str}
theorem b71{r r':R2}{rd xT:cU}(hl:Bl r rd)(Em:Bl r' xT):∀σ H Q,lE (qK rd xT ta tb tc) σ H Q->OA r r' (lB ta) (lB tb) (lB tc) σ H Q:=λσ H Q ⟨B,F,δ,ts,Qd,c,q,k⟩ =>
 ⟨B,F,δ,ts,_,c,q,λx ao v F1 H1 q1 f1 h1 c1 s1=>⟨B,F1,ao,ts,_,c1,q1,λy aS w F2 H2 q2 f2 h2 c2 s2=>by
  refine hl c2 (s1.mono f2 h2) s2 q2 λd z H' hd hs c3=>?_
  obtain⟨b,rfl,qb⟩:=hd
  have st:=c3.top
  cases st with
  | bl _ =>
   refine⟨b,rfl,?_⟩
   cases b with
   | true =>
    refine qB ⟨B,F2,aS,ts,_,c3.pop,by simpa using qb,λz iN w3 F3 H3 q3 f3 h3 c4 s3=>?_⟩
    exact Em c4 (s2.mono f3 (hs.trans h3)) s3 q3 λd z H' hd hs' c5=>k d iN z F3 H' hd ((f1.trans f2).trans f3) ((((h1.trans h2).trans hs).trans h3).trans hs') c5
   | false=>exact jf (k _ aS _ F2 H' (by simpa using qb) (f1.trans f2) ((h1.trans h2).trans hs) (c3.pop.pushS (.bl .nil) rfl))⟩⟩
theorem q9{op qt:CmpOp}{rd xT:cU}(ho:bU X (compareOp op) rd)(kD:bU X (compareOp qt) xT)(ha:PE X a (lB ta))(hb:PE X b (lB tb))(hc:PE X c (lB tc))
  (hm:lastMarks [op,qt] [b,c]=false:=by with_unfolding_all rfl):PE X (.Compare a [op,qt] [b,c] pos) (lE (qK rd xT ta tb tc)):=by
 obtain⟨r,h1,h2⟩:=ho
 obtain⟨r',j9,jD⟩:=kD
 exact du (YQ h1 j9 ha hb hc hm) (b71 h2 jD)
def u0(t:aN):aN:=λδ Q=>t δ λd ah=>match d with
 | .int i=>Q (.int (-i)) ah
 | _=>False
theorem Qq(ha:PE X a (lB ta)):PE X (.UnaryOp .USub a pos) (lE (u0 ta)):=du (Yz YJ ha) λσ H Q zq=>by
 obtain⟨B,F,δ,ts,Qd,c,q,k⟩:=zq
 exact⟨B,F,δ,ts,_,c,q,λd ao v F1 H1 q1 f1 h1 c1 s1=>by
 cases s1 with
 | int _=>exact⟨_,rfl,k _ ao _ F1 H1 q1 f1 h1 (c1.pushS (.int .nil) rfl)⟩
 | _=>exact q1.elim⟩
abbrev jn:=List D->(D->Prop)->Prop
def lc(rd:jn):List V->Hp->VK->Prop:=λvs H Q=>∃B F σ δ ts ds Qd,aq B F H σ δ ts/\S F H ds vs/\rd ds Qd/\∀d z H',Qd d->af H H'->aq B F H' σ δ ((d,z)::ts)->Q z H'
def gA(X:Cx)(f:Value)(rd:jn):Prop:=gq X f (lc rd)
theorem gA.of{f:Value}{r:List V->Hp->VK->Prop}{rd:jn}(h:gq X f r)(m:∀vs H Q,lc rd vs H Q->r vs H Q):gA X f rd:=λpins s σ H xs us Q I r q=>h pins s σ H xs us Q I r (m xs H Q q)
def oS(rd:jn)(t:cH):aN:=λδ Q=>t δ λds ah=>rd ds λd=>Q d ah
theorem Qr{rd:jn}:∀σ H Q,lE (oS rd tr) σ H Q->EJ (lc rd) (lA tr) σ H Q:=λσ H Q zq=>by
 obtain⟨B,F,δ,ts,Qd,c,q,k⟩:=zq
 exact⟨B,F,δ,ts,_,c,q,λds ao vs F1 H1 q1 f1 h1 c1 s1 =>
 ⟨B,F1,σ,ao,ts,ds,_,c1,s1,q1,λd z H' hd hs c'=>k d ao z F1 H' hd f1 (h1.trans hs) c'⟩⟩
theorem cV{id:String}{rd:jn}(hc:gA X (.builtin id) rd)(hg:Gl X x)(hm:X.mg x=none)(hv:bootBuiltins x=some (.builtin id))(ha:PA X (e::es) (lA tr))(hn:x≠"__name__":=by decide)(dZ:(x==("__debug__":Str))=false:=by decide)
  (he:starEach (e::es) X.env=(false,eval e X.env)::starEach es X.env:=by rfl) (bN:(backTo pos (starEach es X.env)).any (·.1)=false:=by rfl):PE X (.Call (.Name x p) (e::es) [] pos) (lE (oS rd tr)) :=
 du (AY hc hg hm hv ha hn dZ he bN) Qr
theorem rh{T:String}{rd:jn}(hc:gA X (.type T) rd)(hg:Gl X x)(hm:X.mg x=none)(hv:bootBuiltins x=some (.type T))(ha:PA X (e::es) (lA tr))(hn:x≠"__name__":=by decide)(dZ:(x==("__debug__":Str))=false:=by decide)
  (he:starEach (e::es) X.env=(false,eval e X.env)::starEach es X.env:=by rfl) (bN:(backTo pos (starEach es X.env)).any (·.1)=false:=by rfl):PE X (.Call (.Name x p) (e::es) [] pos) (lE (oS rd tr)) :=
 du (Zr hc hg hm hv ha hn dZ he bN) Qr
theorem kg{d:D}{vs:List V}(s:S F H [d] vs):∃v,vs=[v]/\S F H [d] [v]:=by
 obtain⟨v,bR,rfl,h1,h2⟩:=s.cO
 cases h2
 exact⟨v,rfl,h1⟩
theorem cG3{d d':D}{vs:List V}(s:S F H [d,d'] vs):∃v v',vs=[v,v']/\S F H [d] [v]/\S F H [d'] [v']:=by
 obtain⟨v,bR,rfl,h1,h2⟩:=s.cO
 obtain⟨v',rfl,h3⟩:=kg h2
 exact⟨v,v',rfl,h1,h3⟩
theorem kh{K:PySem.W.Frag}{p:Addr}{ws:List V}(h:Rd H p (.lst ws)):bK K H p ws:=.inl h
def rj:jn:=λds Q=>match ds with
 | [.lst _ xs]=>Q (.int xs.length)
 | [.fz xs]=>Q (.int xs.length)
 | [.tup xs]=>Q (.int xs.length)
 | [.str z]=>z.length<=sizeLine/\Q (.int z.length)
 | _=>False
theorem gB:gA X (.builtin "len") rj:=gA.of (OW.or ZO) λvs H Q zz=>by
 obtain⟨B,F,σ,δ,ts,ds,Qd,c,s,q,k⟩:=zz
 unfold rj at q
 split at q
 ·obtain⟨v,rfl,s1⟩:=kg s
  obtain⟨p,ws,rfl,h,t⟩:=kM s1 c.ext rfl
  refine .inl ⟨p,ws,rfl,.inl (kh h),?_⟩
  rw[<-t.length]
  exact k _ _ _ q (af.refl _) (c.pushS (.int .nil) rfl)
 ·obtain⟨v,rfl,s1⟩:=kg s
  obtain⟨p,ws,rfl,h,t⟩:=kM s1 c.ext rfl
  refine .inl ⟨p,ws,rfl,.inl (kh h),?_⟩
  rw[<-t.length]
  exact k _ _ _ q (af.refl _) (c.pushS (.int .nil) rfl)
 ·obtain⟨v,rfl,s1⟩:=kg s
  obtain⟨p,ws,rfl,h,t⟩:=kL s1
  refine .inl ⟨p,ws,rfl,.inr (hW.of h),?_⟩
  rw[<-t.length]
  exact k _ _ _ q (af.refl _) (c.pushS (.int .nil) rfl)
 ·obtain⟨v,rfl,s1⟩:=kg s
  cases s1
  exact .inr ⟨_,rfl,q.1,k _ _ _ q.2 (af.refl _) (c.pushS (.int .nil) rfl)⟩
 ·exact q.elim
def rk:jn:=λds Q=>match ds with
 | [.lst _ xs]=>xs.all D.pl=true/\Q (.lst true xs)
 | [.fz xs]=>Q (.lst true xs)
 | [.tup xs]=>xs.all D.pl=true/\Q (.lst true xs)
 | _=>False
theorem rm:gA X (.type "list") rk:=gA.of ZP λvs H Q zz=>by
 obtain⟨B,F,σ,δ,ts,ds,Qd,c,s,q,k⟩:=zz
 unfold rk at q
 split at q
 ·obtain⟨v,rfl,s1⟩:=kg s
  obtain⟨p,ws,rfl,h,t⟩:=kM s1 c.ext rfl
  exact⟨p,ws,rfl,.inl (kh h),λl hl=>k _ _ _ q.2 (af.upd hl) (c.oJ hl t q.1)⟩
 ·obtain⟨v,rfl,s1⟩:=kg s
  cases s1 with
  | fz h r _=>exact⟨_,_,rfl,.inl (kh (.inr ⟨_,c.ext _ _ h⟩)),λl hl=>k _ _ _ q (af.upd hl) (c.oJ hl r.s r.pl)⟩
 ·obtain⟨v,rfl,s1⟩:=kg s
  obtain⟨p,ws,rfl,h,t⟩:=kL s1
  exact⟨p,ws,rfl,.inr (hW.of h),λl hl=>k _ _ _ q.2 (af.upd hl) (c.oJ hl t q.1)⟩
 ·exact q.elim
def ii(g:Int->Int->Int):jn:=λds Q=>match ds with
 | [.int i,.int j]=>Q (.int (g i j))
 | _=>False
theorem cH6{f:Value}{g:Int->Int->Int}(h:gq X f (λxs H Q=>∃i j,xs=[.int i,.int j]/\Q (.int (g i j)) H)):gA X f (ii g):=gA.of h λvs H Q zz=>by
 obtain⟨B,F,σ,δ,ts,ds,Qd,c,s,q,k⟩:=zz
 unfold ii at q
 split at q
 ·obtain⟨v,v',rfl,s1,s2⟩:=cG3 s
  cases s1;cases s2
  exact⟨_,_,rfl,k _ _ _ q (af.refl _) (c.pushS (.int .nil) rfl)⟩
 ·exact q.elim
theorem rn(hc:X.calm=true):gA X (.builtin "min") (ii λi j=>if j<i then j else i):=cH6 (YT hc)
def mr(bs:List Bool):List D:=bs.map D.bl
theorem FK:∀{bs:List Bool} {ws:List V},S F H (mr bs) ws->ws=bs.map V.bl
 | [],_,s=>by cases s;rfl
 | b::bs,_,s=>by
  cases s with
  | bl s=>rw[FK s];rfl
def rq:jn:=λds Q=>match ds with
 | [.lst _ xs]=>∃bs,xs=mr bs/\Q (.bl (bs.all id))
 | _=>False
def rz:jn:=λds Q=>match ds with
 | [.lst _ xs]=>∃bs,xs=mr bs/\Q (.bl (bs.any id))
 | _=>False
theorem u3(hc:X.calm=true):gA X (.builtin "all") rq:=gA.of (cb9 hc) λvs H Q zz=>by
 obtain⟨B,F,σ,δ,ts,ds,Qd,c,s,q,k⟩:=zz
 unfold rq at q
 split at q
 ·obtain⟨v,rfl,s1⟩:=kg s
  obtain⟨bs,rfl,q⟩:=q
  obtain⟨p,ws,rfl,h,t⟩:=kM s1 c.ext rfl
  rw[FK t]at h
  exact⟨p,bs,rfl,kh h,k _ _ _ q (af.refl _) (c.pushS (.bl .nil) rfl)⟩
 ·exact q.elim
theorem cK5(hc:X.calm=true):gA X (.builtin "any") rz:=gA.of (cd7 hc) λvs H Q zz=>by
 obtain⟨B,F,σ,δ,ts,ds,Qd,c,s,q,k⟩:=zz
 unfold rz at q
 split at q
 ·obtain⟨v,rfl,s1⟩:=kg s
  obtain⟨bs,rfl,q⟩:=q
  obtain⟨p,ws,rfl,h,t⟩:=kM s1 c.ext rfl
  rw[FK t]at h
  exact⟨p,bs,rfl,kh h,k _ _ _ q (af.refl _) (c.pushS (.bl .nil) rfl)⟩
 ·exact q.elim
def FL:D->Option String
 | .int _=>some "int"
 | .bl _=>some "bool"
 | .av=>some "NoneType"
 | .str _=>some "str"
 | .lst _ _=>some "list"
 | .fz _=>some "list"
 | .tup _=>some "tuple"
 | _=>none
def FN(k n:String):Option Bool:=([("int","int",true),("int","bool",false),("int","list",false),("int","tuple",false),("int","str",false),("bool","int",true),("bool","bool",true),("bool","list",false),("bool","tuple",false),("bool","str",false),
 ("NoneType","int",false),("NoneType","bool",false),("NoneType","list",false),("NoneType","tuple",false),("NoneType","str",false),("str","int",false),("str","bool",false),("str","list",false),("str","tuple",false),("str","str",true),
 ("list","int",false),("list","bool",false),("list","list",true),("list","tuple",false),("list","str",false),("tuple","int",false),("tuple","bool",false),("tuple","list",false),("tuple","tuple",true),("tuple","str",false)].find? λz=>z.1==k&&z.2.1==n).map (·.2.2)
def mw(n:String)(d:D):Option Bool:=(FL d).bind λk=>FN k n
theorem cF3{K:PySem.W.Frag}{k n:String}{r:Bool}(h:FN k n=some r):PySem.W.kitOne K (.type k) (.type n)=some r:=by
 unfold FN at h
 obtain⟨z,hz,rfl⟩:=Al.mp h
 have hm:=NM hz
 have hp:=List.find?_some hz
 rw[eC,beq_iff_eq,beq_iff_eq]at hp
 obtain⟨rfl,rfl⟩:=hp
 simp only[cu,iZ,or_false]at hm
 repeat' (rcases hm with hm | hm)
 all_goals rfl
theorem cs9{K:PySem.W.Frag}{d:D}(s:S F H [d] [v])(e:af F H){k:String}(h:FL d=some k):ib K H v (.type k):=by
 cases s with
 | int _=>cases h;exact .int _
 | bl _=>cases h;exact .bl _
 | av _=>cases h;exact .av
 | str _=>cases h;exact .str _
 | shr h' _ _=>cases h;exact .lst (e _ _ h')
 | own h' _ _=>cases h;exact .lst h'
 | fz h' _ _=>cases h;exact .br (e _ _ h')
 | tup h' _ _=>cases h;exact .tup h'
 | obj _ _ _ _=>cases h
 | bE _ _=>cases h
theorem cK8{K:PySem.W.Frag}{d:D}(s:S F H [d] [v])(e:af F H){n:String}{r:Bool}(h:mw n d=some r):∃t,ib K H v t/\PySem.W.kitOne K t (.type n)=some r:=by
 unfold mw at h
 cases hk:FL d with
 | none=>rw[hk]at h;cases h
 | some k=>rw[hk]at h;exact⟨_,cs9 s e hk,cF3 h⟩
def u4(n:String)(t:aN):aN:=λδ Q=>t δ λd ah=>∃r,mw n d=some r/\Q (.bl r) ah
theorem rA{n:String}{y:Str}{q:Pos}(hg:Gl X "isinstance")(hm:X.mg "isinstance"=none)(FP:Gl X y)(Bw:X.mg y=none)(hv2:bootBuiltins y=some (.type n))(ha:PE X a (lB ta))
  (hn:y≠"__name__":=by decide) (hd:(y==("__debug__":Str))=false:=by decide)
  (hs:starEach [a,.Name y q] X.env=(false,eval a X.env)::starEach [.Name y q] X.env:=by rfl) (ft:starEach [.Name y q] X.env=(false,eval (.Name y q) X.env)::starEach [] X.env:=by rfl) (bN:(backTo pos (starEach [.Name y q] X.env)).any (·.1)=false:=by rfl) :
  PE X (.Call (.Name "isinstance" p) [a,.Name y q] [] pos) (lE (u4 n ta)) :=
 du (AY bs9 hg hm Pr (bV ha (bV (cH8 FP Bw hv2 hn hd) eX ft) hs) (by decide) (by decide) hs bN) λσ H Q zq=>by
 obtain⟨B,F,δ,ts,Qd,c,q,k⟩:=zq
 exact⟨B,F,δ,ts,_,c,q,λd ao v F1 H1 q1 f1 h1 c1 s1=>by
  obtain⟨r,e,qr⟩:=q1
  obtain⟨t,h2,h3⟩:=cK8 (K:=X.K) s1 c1.ext e
  exact⟨v,n,t,r,rfl,h2,h3,k _ ao _ F1 H1 qr f1 h1 (c1.pushS (.bl .nil) rfl)⟩⟩
theorem FQ{xs:List D}{ws:List V}{i:Int}{d:D}(s:S F H xs ws)(h:eE xs i=some d):∃v,eE ws i=some v/\S F H [d] [v]:=by
 unfold eE at h ⊢
 rw[<-s.length]
 cases e:gY xs.length i with
 | none=>rw[e]at h;cases h
 | some j =>
  rw[e]at h
  exact s.get h
def rB(x y:D)(Q:D->Prop):Prop:=match x,y with
 | .lst _ xs,.int i=>∃d,eE xs i=some d/\Q d
 | .fz xs,.int i=>∃d,eE xs i=some d/\Q d
 | .tup xs,.int i=>∃d,eE xs i=some d/\Q d
 | .str z,.int i=>z.length<=sizeLine/\∃ch,eE z.cps.toList i=some ch/\Q (.str ⟨#[ch]⟩)
 | _,_=>False
def u5(ta tb:aN):aN:=λδ Q=>ta δ λx ao=>tb ao λy aS=>rB x y λd=>Q d aS
theorem bA(ha:PE X a (lB ta))(hb:PE X b (lB tb))(hs:OO b):PE X (.Subscript a b pos) (lB (u5 ta tb)) :=
 du (OP ZE ha hb hs) λσ H Q zq=>by
 obtain⟨B,F,δ,ts,Qd,c,q,k⟩:=zq
 exact⟨B,F,δ,ts,_,c,q,λx ao v F1 H1 q1 f1 h1 c1 s1=>⟨B,F1,ao,ts,_,c1,q1,λy aS w F2 H2 q2 f2 h2 c2 s2=>by
  have nG:=s1.mono f2 h2
  have fin:∀d z,Qd d aS->S F2 H2 [d] [z]->Q z H2:=λd z hd s=>k d aS z F2 H2 hd (f1.trans f2) (h1.trans h2) c2 s
  unfold rB at q2
  split at q2
  ·obtain⟨d,ed,qd⟩:=q2
   cases s2
   obtain⟨p,ws,rfl,h,t⟩:=kM nG c2.ext rfl
   obtain⟨z,ez,sz⟩:=FQ t ed
   exact .inl ⟨p,ws,_,z,rfl,rfl,kh h,ez,fin d z qd sz⟩
  ·obtain⟨d,ed,qd⟩:=q2
   cases s2
   obtain⟨p,ws,rfl,h,t⟩:=kM nG c2.ext rfl
   obtain⟨z,ez,sz⟩:=FQ t ed
   exact .inl ⟨p,ws,_,z,rfl,rfl,kh h,ez,fin d z qd sz⟩
  ·obtain⟨d,ed,qd⟩:=q2
   cases s2
   obtain⟨p,ws,rfl,h,t⟩:=kL nG
   obtain⟨z,ez,sz⟩:=FQ t ed
   exact .inr (.inl ⟨p,ws,_,z,rfl,rfl,hW.of h,ez,fin d z qd sz⟩)
  ·obtain⟨hz,ch,ec,qc⟩:=q2
   cases nG
   cases s2
   exact .inr (.inr ⟨_,_,ch,rfl,rfl,hz,ec,fin _ _ qc (.str .nil)⟩)
  ·exact q2.elim⟩⟩
abbrev u6:=Dl->(Option Int->Dl->Prop)->Prop
def lP(t:u6):TO:=λσ H Q=>∃B F δ ts Qd,aq B F H σ δ ts/\t δ Qd/\∀o ah F' H',Qd o ah->af F F'->af H H'->aq B F' H' σ ah ts->Q o H'
theorem Qs{oe:Option Expr}{u u':TO}(h:PO X oe u)(m:∀σ H Q,u' σ H Q->u σ H Q):PO X oe u':=λpins s σ H Q I q=>h pins s σ H Q I (m σ H Q q)
def u7:u6:=λδ Q=>Q none δ
def u9(t:aN):u6:=λδ Q=>t δ λd ah=>match d with
 | .int i=>Q (some i) ah
 | _=>False
theorem xU:PO X none (lP u7):=Qs Zv λσ H Q ⟨B,F,δ,ts,Qd,c,q,k⟩=>k none δ F H q (af.refl _) (af.refl _) c
theorem xV(h:PE X e (lB t)):PO X (some e) (lP (u9 t)):=Qs (Zw h) λσ H Q zq=>by
 obtain⟨B,F,δ,ts,Qd,c,q,k⟩:=zq
 exact⟨B,F,δ,ts,_,c,q,λd ao v F1 H1 q1 f1 h1 c1 s1=>by
 cases s1 with
 | int _=>exact⟨_,rfl,k _ ao F1 H1 q1 f1 h1 c1⟩
 | _=>exact q1.elim⟩
def fL{α:Type}(xs:List α)(lo hi:Option Int):List α:=(xs.drop (HT.df xs.length 0 lo)).take (HT.df xs.length xs.length hi-HT.df xs.length 0 lo)
theorem S.cut{xs:List D}{ws:List V}(s:S F H xs ws)(lo hi:Option Int):S F H (fL xs lo hi) (tX ws lo hi):=by
 unfold fL tX
 rw[<-s.length]
 exact(s.drop _).take _
theorem Qt{xs:List D}{p:D->Bool}(h:xs.all p=true)(lo hi:Option Int):(fL xs lo hi).all p=true:=by
 rw[dr]at h ⊢
 intro x hx
 exact h x (p9 (tJ hx))
def va(t:aN):aN:=λδ Q=>t δ λd ah=>match d with
 | .int i=>Q (.int (Mf.bl i.natAbs:Nat)) ah
 | _=>False
theorem nH(ho:PE X o (lB t))(nh:attributeBase o "bit_length" X.env (eval o X.env)=eval o X.env:=by rfl)(ni:(apos.endLine==cm.line)=true:=by rfl):PE X (.Call (.Attribute o "bit_length" apos) [] [] cm) (lE (va t)) :=
 du (E3 ho nh ni) λσ H Q zq=>by
 obtain⟨B,F,δ,ts,Qd,c,q,k⟩:=zq
 exact⟨B,F,δ,ts,_,c,q,λd ao v F1 H1 q1 f1 h1 c1 s1=>by
  cases s1 with
  | int _=>exact⟨rfl,_,rfl,rfl,k _ ao _ F1 H1 q1 f1 h1 (c1.pushS (.int .nil) rfl)⟩
  | _=>exact q1.elim⟩
end
end L3
namespace L3
open PySem L2 PySem.Spec PyProof.Rows
section
variable{X:Cx}{F H:Hp}{v w:V}{e a b c o tg:Expr}{es:List Expr}{pos p p2 apos cm pos':Pos}{t ta tb tc te ti:aN}{tr:cH}{x:Str}{i:Nat}
def vb(i:Nat)(t:aN):cI:=λD δ=>(∃xs,δ[i]?=some (some (.lst true xs)))/\t δ λd ah=>∃xs,ah[i]?=some (some (.lst true xs))/\xs.length<sizeLine/\D.nx (ah.set i (some (.lst true (xs++[d]))))
theorem kO(hN:X.N[i]?=some x)(hv:lQ X.env.scope x)(he:PE X e (lE t))(hd:(x==("__debug__":Str))=false:=by decide)(cF:(x==("__classdict__":Str))=false:=by decide)
  (nh:attributeBase (.Name x p) "append" X.env (eval (.Name x p) X.env)=eval (.Name x p) X.env:=by rfl)
  (ES:((backTo cm (starEach [e] X.env)).all (λx=>!x.1)&&(backToKw cm (keywordEach [] X.env)).all (λx=>x.1.isSome)
   && decide ([e].length+([]:List Keyword).length+(if([]:List Keyword).isEmpty then 0 else 1)<30))=true:=by rfl)
  (ni:(apos.endLine==cm.line)=true:=by rfl) (hs:starEach [e] X.env=(false,eval e X.env)::starEach [] X.env:=by rfl) (ET:(backTo cm (starEach [] X.env)).any (·.1)=false:=by rfl)
  (rC:swapsWith (.Call (.Attribute (.Name x p) "append" apos) [e] [] cm) none pos.line X.env=pure false:=by rfl) :
  PS X (.Expr (.Call (.Attribute (.Name x p) "append" apos) [e] [] cm) pos) (lS X (vb i t)) :=
 jG (ql (ZS PySem.F.plainAttrs_list PySem.F.slot_list_append PySem.F.type_list_append O1 (qi hN hv hd cF) (bV he eX hs) nh ES ni hs ET) rC) λEn σ H zz=>by
  obtain⟨B,F,δ,Dd,c,⟨⟨ys,ey⟩,q⟩,k1,k2,k3,k4⟩:=zz
  obtain⟨p0,Bj,g1,g2,g3⟩:=c.ownAt ey
  refine⟨.ref p0,g1,.inl ⟨rfl,_,bK.of g2⟩,B,F,δ,[],_,c,q,λd ah v F' H' hd sf sh c'=>?_⟩
  obtain⟨xs,ex,hl,hn⟩:=hd
  obtain⟨p1,ws,r1,r2,r3⟩:=c'.ownAt ex
  rw[g1]at r1;cases r1
  exact⟨p0,ws,v,rfl,rfl,r2,by omega,k1 _ _ F' _ hn (c'.app ex g1 r2)⟩
def vd(i:Nat)(te ti:aN):cI:=λD δ=>te δ λd ao=>∃ys,ao[i]?=some (some (.lst true ys))/\nu ti ao λk aS=>match k with
 | .int n=>∃xs j,aS[i]?=some (some (.lst true xs))/\gY xs.length n=some j/\D.nx (aS.set i (some (.lst true (xs.set j d))))
 | _=>False
theorem rD(hN:X.N[i]?=some x)(hv:lQ X.env.scope x)(he:PE X e (lE te))(hi:PE X b (lB ti))(hd:(x==("__debug__":Str))=false:=by decide)(cF:(x==("__classdict__":Str))=false:=by decide)
  (ha:∀v,assign (.Subscript (.Name x p) b pos') X.env v=(do
   let ov<-holding [v] (eval (.Name x p) X.env)
   let iv<-holding [v,ov] (eval b X.env)
   standAt pos'
   holding [v,ov,iv] (setItem ov iv v)
   release [v,ov,iv] []):=by intro _;rfl)
  (hs:swapsWithSole [.Subscript (.Name x p) b pos'] e pos.line X.env=pure false:=by rfl) (hw:swappedStores [.Subscript (.Name x p) b pos'] e X.env=pure none:=by rfl)
  (h1:(assignEach [.Subscript (.Name x p) b pos'] X.env).map (·.2)=[assign (.Subscript (.Name x p) b pos') X.env]:=by rfl) :
  PS X (.Assign [.Subscript (.Name x p) b pos'] e pos) (lS X (vd i te ti)) :=
 jG (Oo he (Om (qi hN hv hd cF) (dh hi) OU ha) hs hw h1) λEn σ H zq=>by
 obtain⟨B,F,δ,Dd,c,q,k1,k2,k3,k4⟩:=zq
 exact⟨B,F,δ,[],_,c,q,λd ao v F1 H1 hq f1 h1 c1=>by
  obtain⟨ys,ey,hq⟩:=hq
  obtain⟨p0,Bj,g1,g2,g3⟩:=c1.ownAt ey
  refine⟨.ref p0,g1,B,F1,ao,[(d,v)],_,c1,hq,λkd aS kv F2 H2 hk f2 h2 c2=>?_⟩
  have st:=c2.top
  split at hk
  ·obtain⟨xs,j,ex,ej,hn⟩:=hk
   cases st
   have c3:=c2.pop
   obtain⟨p1,ws,r1,r2,r3⟩:=c3.ownAt ex
   rw[g1]at r1;cases r1
   exact⟨p0,ws,_,j,rfl,rfl,r2,by rw[<-r3];exact ej,k1 _ _ F2 _ hn (c3.cV8 ex g1 r2 j)⟩
  ·exact hk.elim⟩
end
end L3
namespace L3
open PySem L2 PySem.Spec PyProof.Rows
theorem cJ{A:Around}{k:Nat}(hr:bY k A):A.units+6<cLine:=by have:=hr.un;omega
def aG(ns:List Int):List D:=ns.map D.int
def FR(o:Obj):Bool:=match o.cls with
 | .type n=>n != "list"
 | _=>true
def Qu:bh:=λds Q=>∃ns:List Int,ds=[.fz (aG ns)]/\ns.length<=63/\Q (.bl true)
theorem kP{F H:Hp}:∀ns:List Int,R F H (aG ns) (ns.map V.int) []
 | []=>.nil
 | n::ns=>.int (kP ns)
theorem bN2{K:PySem.W.Frag}{a:Addr}{o:Obj}(h:K.lookup a=some o):(a,o)∈K:=by
 induction K with
 | nil=>cases h
 | cons p K ih =>
  obtain⟨b,u⟩:=p
  rw[fU]at h
  split at h
  ·rename_i z
   have:a=b:=by simpa using z
   cases h;subst this;simp
  ·exact gi _ (ih h)
end L3
namespace L3
open PySem L2 PySem.Spec PyProof.Rows
section
variable{B:Bs}{F H:Hp}{σ:L2.St}{δ:Dl}{ts ps:List (D × V)}{i k:Nat}{p q:Addr}{l1 l2 ys qF:List D}{ws iy:List V}
theorem aq.cZ2(c:aq B F H σ δ (ps++ts))(e:δ[i]?=some (some (.lst true (l1++.lst true ys::l2))))(e2:σ[i]?=some (some (.ref p)))(hp:H p=some (.lst ws))(hq:ws[l1.length]?=some (.ref q))
  (kk:∀us A1 A2,H q=some (.lst us)->R F H ys us A1->R F H (ps.map (·.1)) (ps.map (·.2)) A2->(A1++A2).Nodup->∃A',R F H qF iy A'/\A'.Nodup/\∀a∈A',a∈A1++A2) :
  aq B F (upd H q (.lst iy)) σ (δ.set i (some (.lst true (l1++.lst true qF::l2)))) ts:=by
 have hi:i<δ.length:=(iX.mp e).1
 obtain⟨v,e3,c1⟩:=c.move e
 rw[e2]at e3;cases e3
 obtain⟨A,C,r,s,nd,fr⟩:=c1.own
 have r':R F H ([.lst true (l1++.lst true ys::l2)]++(ps.map (·.1)++ts.map (·.1))) ([.ref p]++(ps.map (·.2)++ts.map (·.2))) A:=by simpa using r
 obtain⟨v1,v2,A1,A2,e4,rfl,h1,h2⟩:=R.split r'
 have l1':v1.length=1:=by rw[<-h1.length];rfl
 obtain⟨rfl,rfl⟩:=wH e4 (by simp[l1'])
 obtain⟨v3,v4,B1,B2,e5,rfl,h3,h4⟩:=R.split h2
 have l3:(ps.map (·.2)).length=v3.length:=by rw[<-h3.length];simp
 obtain⟨rfl,rfl⟩:=wH e5 l3
 obtain⟨p',Bj,Ax,Bx,ep,hH,hF,hx,hr,rfl⟩:=h1.rv
 cases ep
 ·cases hr.jF.2
  rw[hp]at hH;cases hH
  obtain⟨w1,w2,X1,X2,e6,rfl,g1,g2⟩:=R.split hx
  obtain⟨wq,w3,X3,X4,rfl,rfl,g3,g4⟩:=R.cO g2
  have lw:w1.length=l1.length:=g1.length.symm
  have hwq:wq=.ref q:=by
   rw[e6,<- lw,kz (bG _),wJ]at hq
   simpa using hq
  subst hwq
  obtain⟨p',us,Y1,Y2,ep,Qv,FT,hy,FU,rfl⟩:=g3.rv
  cases ep
  ·cases FU.jF.2
   simp only[fm]at *
   have xH:(p::(X1++(q::Y1++X4))++(B1++B2)++C).Nodup:=by simpa[c9]using nd
   have mx:∀a∈p::(X1++(q::Y1++X4))++(B1++B2)++C,B.H0 a=none:=λa ha=>fr a (by simpa[c9]using ha)
   have Qw:=xH
   simp only[mW,c9,jV,gv,bX,cu,not_or]at Qw
   obtain⟨⟨p1,p2,p3,p4,p5,p6,p7⟩,x1,⟨⟨q1,q2,q3,q4,q5⟩,y1,⟨x4,⟨b1',⟨b2',cc,b2c⟩,Qx⟩,Qy⟩,Qz⟩,QB⟩:=Qw
   have ndk:(Y1++B1).Nodup:=gv.mpr ⟨y1,b1',λa ha=>(Qz a ha).2.1⟩
   obtain⟨A',ra,Fp,sub⟩:=kk us Y1 B1 Qv hy h3 ndk
   have ve:∀a∈A',a∈Y1\/a∈B1:=λa ha=>bX.mp (sub a ha)
   have but:fK [q] H (upd H q (.lst iy)):=⟨λa o z w _=>by rw[aZ (by simpa using w)];exact z⟩
   have hl:gu [q] H:=λa ha=>by rw[eW.mp ha];exact⟨_,Qv⟩
   have kp:∀{ds:List D} {vs:List V} {A:List Addr},R F H ds vs A->q ∉ A->R F (upd H q (.lst iy)) ds vs A:=λr n=>r.keep (af.refl F) but hl (λa ha=>(r.lists a ha).2) λa ha z=>n (by rw[<-eW.mp z];exact ha)
   have fq:B.H0 q=none:=mx q (by simp)
   have npq:p≠q:=p2
   have b1:af B.H0 (upd H q (.lst iy)):=⟨λa o z n=>by
    rw[aZ (λw=>by rw[w,fq]at z;cases z)]
    exact c1.b1.get a o z n,λa ps z=>by
    rw[aZ (λw=>by rw[w,fq]at z;cases z)]
    exact c1.b1.tb a ps z⟩
   have ext:af F (upd H q (.lst iy)):=⟨λa o z n=>by
    rw[aZ (λw=>by rw[w,FT]at z;cases z)]
    exact c1.ext.get a o z n,λa ps z=>by
    rw[aZ (λw=>by rw[w,FT]at z;cases z)]
    exact c1.ext.tb a ps z⟩
   have big:R F (upd H q (.lst iy)) [.lst true (l1++.lst true qF::l2)] [.ref p] (p::(X1++(q::(A'++X4)))):=by
    have FV:R F (upd H q (.lst iy)) (l1++.lst true qF::l2) (w1++.ref q::w3) (X1++(q::(A'++X4))) :=
     R.append (kp g1 λz=>(QB q z).1 rfl) (R.own bJ FT (kp ra λz=>(ve q z).elim q1 q3) (kp g4 q2))
    have:=R.own (F:=F) (H:=upd H q (.lst iy)) (p:=p) (by rw[aZ npq,hp,e6]) hF FV .nil
    simpa using this
   have c2:aq B F (upd H q (.lst iy)) σ (δ.set i none) ((.lst true (l1++.lst true qF::l2),.ref p)::ts):=by
    refine⟨ext,b1,c1.b2,c1.b3,(p::(X1++(q::(A'++X4))))++B2,C,R.cons big (kp h4 q4),s.keep (af.refl F) but hl (λa ha=>(s.lists a ha).2) (λa ha z=>?_),?_,?_⟩
    ·exact q5 (eW.mp z ▸ ha)
    ·simp only[mW,c9,jV,gv,bX,cu,not_or]
     refine⟨⟨p1,p2,λz=>(ve _ z).elim p3 p5,p4,p6,p7⟩,x1,⟨⟨λz=>(ve _ z).elim q1 q3,q2,q4,q5⟩,Fp,⟨x4,⟨b2',cc,b2c⟩,λa ha=>?_⟩,λa ha=>?_⟩,λa ha=>?_⟩
     ·obtain⟨z1,z2,z3⟩:=Qy a ha;exact⟨z2,z3⟩
     ·rcases ve a ha with z | z
      ·obtain⟨z1,z2,z3,z4⟩:=Qz a z;exact⟨z1,z3,z4⟩
      ·refine⟨λw=>(Qy a w).1 z,(Qx a z).1,(Qx a z).2⟩
     ·obtain⟨z1,z2,z3,z4,z5,z6⟩:=QB a ha
      exact⟨z1,λw=>(ve a w).elim z2 z4,z3,z5,z6⟩
    ·intro a ha
     simp only[mW,c9,cu,bX]at ha mx
     refine mx a ?_
     rcases ha with h | h | h | h | h | h | h
     ·exact .inl h
     ·exact .inr (.inl h)
     ·exact .inr (.inr (.inl h))
     ·exact(ve a h).elim (λz=>.inr (.inr (.inr (.inl z)))) λz=>.inr (.inr (.inr (.inr (.inr (.inl z)))))
     ·exact .inr (.inr (.inr (.inr (.inl h))))
     ·exact .inr (.inr (.inr (.inr (.inr (.inr (.inl h))))))
     ·exact .inr (.inr (.inr (.inr (.inr (.inr (.inr h))))))
   have c3:=c2.fill (i:=i) (by simp[hi]) e2
   rwa [Ai]at c3
end
section
variable{X:Cx}{F H:Hp}{e b:Expr}{pos p pr apos cm FW:Pos}{t ti te:aN}{x y:Str}{i j:Nat}
end
end L3
namespace L3
open PySem L2 PySem.Spec PyProof.Rows
theorem xW(i:Int):(D.int i).pl=true:=rfl
theorem xX(i:Bool):(D.bl i).pl=true:=rfl
theorem xY(i:Str):(D.str i).pl=true:=rfl
theorem xZ:D.av.pl=true:=rfl
theorem x6(xs:List D):(D.fz xs).pl=true:=rfl
theorem x8(C:Addr)(ns:List Str)(xs:List D):(D.obj C ns xs).pl=true:=rfl
theorem x9(i:Int):(D.int i).fr=true:=rfl
theorem ya(i:Bool):(D.bl i).fr=true:=rfl
theorem yb(i:Str):(D.str i).fr=true:=rfl
theorem yc:D.av.fr=true:=rfl
theorem oU(i:Int):(D.int i).sh=.int i:=rfl
theorem yd(i:Bool):(D.bl i).sh=.bl i:=rfl
theorem ye(i:Str):(D.str i).sh=.str i:=rfl
theorem yf:D.av.sh=.av:=rfl
theorem yg(xs:List D):(D.fz xs).sh=.fz xs:=rfl
theorem yh(C:Addr)(ns:List Str)(xs:List D):(D.obj C ns xs).sh=.obj C ns xs:=rfl
theorem vg{α:Type}(n:Nat)(x:α):(bf n [x]).flatten=bf n x:=by
 induction n with
 | zero=>rfl
 | succ n ih=>rw[pX,tw,ih];rfl
theorem kQ(ns:List Int):(aG ns).length=ns.length:=by simp[aG]
theorem nI(ns:List Int):(aG ns).all D.pl=true:=by simp[aG,D.pl]
theorem rE(ns:List Int):(aG ns).all D.fr=true:=by simp[aG,D.fr]
theorem ki(ns:List Int):(aG ns).map D.sh=aG ns:=by simp[aG,D.sh]
theorem rF(a b:List Int):aG a++aG b=aG (a++b):=by simp[aG]
theorem yi(n:Nat)(i:Int):bf n (D.int i)=aG (bf n i):=by simp[aG]
theorem rG(n:Nat)(i:Int):dP n (.int i)=true:=by cases n<;>rfl
theorem yj(n:Nat)(i:Str):dP n (.str i)=true:=by cases n<;>rfl
theorem jK(i j:Int):bF (.int i) (.int j)=decide (i=j):=by
 show(i==j)=_
 rw[Bool.beq_eq_decide_eq]
theorem QC:∀(a b:List Int),bF.fZ (aG a) (aG b)=decide (a=b)
 | [],[]=>rfl
 | [],_::_=>by simp[aG,bF.fZ]
 | _::_,[]=>by simp[aG,bF.fZ]
 | x::xs,y::ys=>by
  show(bF (.int x) (.int y)&&bF.fZ (aG xs) (aG ys))=_
  rw[QC xs ys,jK,tG];simp
theorem vh(o o':Bool)(a b:List Int):bF (.lst o (aG a)) (.lst o' (aG b))=decide (a=b):=QC a b
theorem QD{ns:List Int}{k:Nat}(h:k<ns.length):(aG ns)[k]?=some (.int ns[k]):=by simp[aG,h]
theorem my{ns:List Int}{k:Int}(h0:0<=k)(h:k<ns.length):eE (aG ns) k=some (.int (ns.getD k.toNat 0)):=by
 unfold eE gY
 rw[if_pos h0,kQ,if_pos h]
 show(aG ns)[k.toNat]?=_
 have hk:k.toNat<ns.length:=by omega
 rw[QD hk,aT,aP hk];rfl
theorem vi(ns:List Int)(lo hi:Option Int):fL (aG ns) lo hi=aG (fL ns lo hi):=by simp[fL,aG,NN,NO]
theorem yk(i:Int):mw "int" (.int i)=some true:=by rfl
theorem yl(i:Int):mw "bool" (.int i)=some false:=by rfl
theorem ym(i:Int):mw "list" (.int i)=some false:=by rfl
theorem yn(o:Bool)(xs:List D):mw "list" (.lst o xs)=some true:=by rfl
theorem yo:mw "int" .av=some false:=by rfl
theorem yp(x:Str):mw "str" (.str x)=some true:=by rfl
theorem yq(xs:List D):mw "tuple" (.tup xs)=some true:=by rfl
theorem sL:sizeLine=16777216:=rfl
theorem yr{p:Prop}[Decidable p]:(decide p=true)=p:=by simp
theorem cs1{α:Type}(xs:List α)(a b:Nat):fL xs (some (a:Int)) (some (b:Int))=(xs.drop a).take (b-a):=by
 unfold fL
 rw[HT.EK,HT.EK]
 by_cases h:a<=xs.length
 ·rw[Nat.min_eq_left h]
  apply NP
  intro i
  rw[Xc,Xc,NQ]
  by_cases hi:i<b-a
  ·rw[if_pos hi]
   by_cases hb:a+i<xs.length
   ·rw[if_pos (by omega)]
   ·rw[gj (by omega)];simp
  ·rw[if_neg hi,if_neg (by omega)]
 ·rw[Nat.min_eq_right (show xs.length<=a by omega),NR (bG _),NR (show xs.length<=a by omega)];simp
end L3
namespace L2
open PySem PySem.Spec PyProof.Rows
section
variable{X:Cx}{e:Expr}{te:TE}{lo hi:Option Expr}{st:Expr}{tl th ts:TO}{pos p2:Pos}
theorem QE(ns:List Int):∀k,k<=ns.length->preSum (λi=>ns.getD i 0) k=(ns.take k).sum
 | 0,_=>rfl
 | k+1,h=>by
  show preSum (λi=>ns.getD i 0) k+ns.getD k 0=_
  rw[QE ns k (by omega),mT,aP (by omega),List.sum_append,aT,aP (by omega)]
  simp
theorem b79(hc:X.calm=true):gq X (.builtin "sum") (λxs H Q=>∃(p:Addr) (ns:List Int),xs=[.ref p]/\bK X.K H p (ns.map V.int)/\Q (.int ns.sum) H):=by
 intro pins s σ H xs us Q I r h
 obtain⟨p,ns,rfl,hS,q⟩:=h
 obtain⟨u,rfl,ru⟩:=r.one
 cases ru
 obtain⟨its,rv,pl,hz⟩:=I.list hS
 have hi:=Zu rv
 have hlen:ns.length=its.length:=by have:=rv.length;simpa using this
 have hl:=pl.isList
 have fI:p<s.heap.objs.size:=by obtain⟨_,e,_⟩:=hl;exact bP e
 refine call_sum_walkG (wpAny_pyIter_list hl ?_)
 refine⟨s.heap.objs.size,[s.heap.objs.size,p],[s.heap.objs.size],its.toArray.size,_,_,λi=>ns.getD i 0,rfl,D0 (A:=X.A.in1) (I.ok.hd hc) _ p (fg fI) its.toArray,
  ⟨⟨_,gG _ rfl,rfl,rfl⟩,hl.push _⟩,λb hb=>?_,λi v hP=>?_,λh' tk t' hk=>?_⟩
 ·simp only[sZ]
  rcases cu.mp hb with rfl | hb
  ·exact Ac _
  ·rw[eW.mp hb];exact NS fI
 ·have e:its[i]?=some v:=by simpa using hP
  obtain⟨x,ex,q2⟩:∃x,(ns.map V.int)[i]?=some x/\RelV x v:=by
   have gH:i<its.length:=(iX.mp e).1
   obtain⟨u,e2,q2⟩:=rv.get (i:=i) (x:=V.int ns[i]) (by rw[cj,aP (by omega)];rfl)
   rw[e]at e2;cases e2
   exact⟨_,by rw[cj,aP (by omega)];rfl,q2⟩
  rw[cj]at ex
  obtain⟨n,en,rfl⟩:=Al.mp ex
  obtain⟨t,rfl⟩:=q2
  exact⟨t,by show og n t=og (ns.getD i 0) t;rw[aT,en];rfl⟩
 ·rw[dH,<- hlen,QE ns _ (bG _),tI]
  exact⟨.int _,H,I.kept (h':=h') (t':=tk) (Be hk),⟨_,rfl⟩,q⟩
end
end L2
namespace L3
open PySem L2 PySem.Spec PyProof.Rows
section
variable{X:Cx}{F H:Hp}{e:Expr}{t:aN}{lo hi:Option Expr}{st:Expr}{tl th td:u6}{pos p2:Pos}
theorem FX:∀{a:List Int} {ws:List V},S F H (aG a) ws->ws=a.map V.int
 | [],_,s=>by cases s;rfl
 | b::bs,_,s=>by
  cases s with
  | int s=>rw[FX s];rfl
def nJ:jn:=λds Q=>match ds with
 | [.lst _ xs]=>∃a,xs=aG a/\Q (.int a.sum)
 | _=>False
theorem cH0(hc:X.calm=true):gA X (.builtin "sum") nJ:=gA.of (b79 hc) λvs H Q zz=>by
 obtain⟨B,F,σ,δ,ts,ds,Qd,c,s,q,k⟩:=zz
 unfold nJ at q
 split at q
 ·obtain⟨v,rfl,s1⟩:=kg s
  obtain⟨a,rfl,q⟩:=q
  obtain⟨p,ws,rfl,h,t⟩:=kM s1 c.ext rfl
  rw[FX t]at h
  exact⟨p,a,rfl,kh h,k _ _ _ q (af.refl _) (c.pushS (.int .nil) rfl)⟩
 ·exact q.elim
def FY:Expr->Option Int
 | .Constant (.int i) _ _=>some i
 | _=>none
def Bz:List Expr->Option (List Int)
 | []=>some []
 | e::es=>(FY e).bind λi=>(Bz es).map (i :: ·)
theorem b89{e:Expr}{i:Int}(h:FY e=some i):∃a b,e=.Constant (.int i) a b:=by
 cases e with
 | Constant c a b =>
  cases c with
  | int j=>cases h;exact⟨_,_,rfl⟩
  | _=>cases h
 | _=>cases h
def cJ1(ns:List Int):cH:=λδ Q=>Q (aG ns) δ
theorem QF:∀(es:List Expr) (ns:List Int),Bz es=some ns->PA X es (lO (cJ1 ns))
 | [],ns,h=>by cases h;exact cC
 | e::es,ns,h=>by
  obtain⟨i,hi,h2⟩:=Option.bind_eq_some_iff.mp (show(FY e).bind (λi=>(Bz es).map (i :: ·))=some ns from h)
  obtain⟨ms,hm,rfl⟩:=Al.mp h2
  obtain⟨a,b,rfl⟩:=b89 hi
  exact xJ (cq (aj (i:=i)) (QF es ms hm)) λ_ _ _ q=>q
def vj(ns:List Int):aN:=λδ Q=>ns.length<=sizeLine/\Q (.lst true (aG ns)) δ
theorem QG{es:List Expr}{ns:List Int}(h:Bz es=some ns):PE X (.List es pos) (lE (vj ns)) :=
 du (dO (QF es ns h)) λ_ _ _ zq=>by
 obtain⟨B,F,δ,ts,Qd,c,q,k⟩:=zq
 exact⟨B,F,δ,ts,Qd,c,by
  show(aG ns).length<=sizeLine/\_
  rw[kQ];exact q,k⟩
theorem b69{ns:List Int}(h:0<ns.length):eE (aG ns) (-1)=some (.int (ns.getD (ns.length-1) 0)):=by
 unfold eE gY
 rw[if_neg (by decide),kQ,if_pos (by omega)]
 have hk:((-1:Int)+ns.length).toNat=ns.length-1:=by omega
 show(aG ns)[((-1:Int)+ns.length).toNat]?=_
 rw[hk,QD (by omega),aT,aP (by omega)];rfl
theorem yt{n:Nat}{g:iu}{tb:cI}{En:ug}{δ:Dl}(Iv:Nat->Dl->Prop)(h0:Iv 0 δ)(ht:∀k ah,k<n->Iv k ah->g (.int k) ah λaS=>tb { En with nx:=Iv (k+1),ct:=Iv (k+1),bk:=En.nx } aS)
  (hf:∀ah,Iv n ah->En.nx ah):fX (qa (λ(k:Nat)=>D.int (0+(k:Int))) (aL (n:Int).toNat)) g tb En δ:=by
 rw[gQ]
 refine fX.mk Iv h0 (λi d ah hd iv=>?_) λah iv=>hf ah (by simpa using iv)
 rw[cj]at hd
 obtain⟨k,hk,rfl⟩:=Al.mp hd
 have hi:i<n:=by have:=(iX.mp hk).1;simpa using this
 rw[jY hi]at hk
 cases hk
 rw[NT]
 exact ht i ah hi iv
theorem m5{xs:List D}{k:Int}{d:D}(h0:0<=k)(h:xs[k.toNat]?=some d):eE xs k=some d:=by
 unfold eE gY
 have hk:k.toNat<xs.length:=(iX.mp h).1
 rw[if_pos h0,if_pos (by omega)]
 exact h
end
end L3
namespace L3
open PySem L2 PySem.Spec PyProof.Rows
abbrev oV:=List D->(D->Prop)->(Addr->Prop)->Prop
def yu(sp:oV):Sp:=λvs H Q E=>∃F ds Qd Ed,af F H/\R F H ds vs []/\sp ds Qd Ed/\(∀d v F' H' A,Qd d->af H H'->af F F'->af F' H'->(∀a ws,F' a=some (.lst ws)->F a=some (.lst ws)\/H a=none)->R F' H' [d] [v] A->A.Nodup->(∀a∈A,H a=none)->Q v H') /\
 ∀C H',Ed C->af H H'->E (.ref C) none H'
section
variable{P:Program}{w:World}{K:PySem.W.Frag}{mg:Str->Option Value}{base:Heap}
theorem QH{x qual:Str}{st:Stmt}{f:Addr}{fd:FuncData}{N ps:List Str}{k:Nat}{sp:oV}(F:ay K x qual st f fd)(S:bc N ps (aJ st))(len:∀ds Q E,sp ds Q E->ds.length=ps.length)
  (gX:∀(aC:Value) (A:Around) (outer:List Env) (s:Shared) (H:Hp) (E:XK),bY k (A.deeper (envOfC qual (aJ st) s.heap.objs.size f aC)) ->
   ∃t:cI,PSs (iH (nq P w) P w K mg base N qual (aJ st) f aC A outer s H E) (fH st) (lS (iH (nq P w) P w K mg base N qual (aJ st) f aC A outer s H E) t) /\
    ∀ds Q Ex,sp ds Q Ex->t { nx:=λ_=>Q .av,rt:=Q,xc:=λC _=>Ex C,xr:=λC _=>Ex C } (kK N ds)):aM P w K mg base (nq P w) (k+1) f fd ps (yu sp):=by
 obtain⟨oc,od,kV,doc,pm,an,aC,ct,ie,rfl,lk,cF⟩:=F.ex
 refine AX lk cF S (λvs H Q E ⟨F,ds,Qd,Ed,e,r,h,_⟩=>by rw[<-r.length];exact len ds Qd Ed h) λA outer s H vs Q E hr zz=>?_
 obtain⟨F,ds,Qd,Ed,e,r,h,k,kx⟩:=zz
 obtain⟨t,ht,hq⟩:=gX aC A outer s H E hr
 have fin:∀d v ah aI F' H',Qd d->aq ⟨H,F⟩ F' H' aI ah [(d,v)]->Q v H':=λd v ah aI F' H' hd c=>by
  obtain⟨A,C,r',s',nd,fr⟩:=c.own
  exact k d v F' H' A hd c.b1 c.b2 c.ext c.b3 r' (gv.mp nd).1 λa ha=>fr a (eV _ ha)
 have e1:L2.start N vs=vs.map some++bf (N.length-ds.length) none:=by unfold L2.start;rw[r.length]
 refine⟨_,ht,⟨H,F⟩,F,kK N ds,_,?_,hq ds Qd Ed h,λah aI F' H' hd c=>fin .av .av ah aI F' H' hd (c.pushS (.av .nil) rfl),fin,λ_ _ _ _ z=>z.elim,λ_ _ _ _ z=>z.elim,λC ah pins aI F' H' s' a T hx c I tr pa pT=>?_,λC ah pins aI F' H' s' h' e vs hx c I hm=>?_⟩
 ·rw[e1]
  exact aq.start e r _
 ·exact bZ5 I rfl rfl rfl tr pa pT λh' T' g=>⟨a,T',.ref C,H',rfl,I.os,I.bare,g.un,g.aK,g.xC,g.a0,g.a1,g.t0,g.t1,kx C H' hx c.b1⟩
 ·exact b66 I rfl rfl rfl hm λh' T' g=>⟨e,T',.ref C,H',rfl,I.os,I.bare,g.un,g.aK,g.xC,g.a0,g.a1,g.t0,g.t1,kx C H' hx c.b1⟩
end
section
variable{X:Cx}{n:Nat}{f:Addr}{fd:FuncData}{ps:List Str}{sp:oV}{x:Str}{p pos:Pos}{e:Expr}{es:List Expr}{t:cH}{tx:ef3}
def vk(t:cI):cI:=λD δ=>t { D with xc:=λ_ _=>False,xr:=λ_ _=>False } δ
theorem cJ0{st:Stmt}{u:cI}(h:PS X.gn st (lS X.gn u)):PS X st (lS X (vk u)):=by
 intro pins s σ H D I zz
 obtain⟨B,F,δ,Dd,c,q,k1,k2,k3,k4,xl⟩:=zz
 exact wpAny_mono (h pins s σ H D (I.j6 _) ⟨B,F,δ,_,c,q,k1,k2,k3,k4,XL.none (λ_ _ z=>z) λ_ _ z=>z⟩) (λ_ _ q=>q.lV) λ_ _ z=>fQ z
def vm(C:Addr)(t:cH):cI:=λD δ=>t δ λds ah=>ds.length<=9/\D.xr C ah
structure FZ(K:PySem.W.Frag)(mg:Str->Option Value)(x:Str)(C:Addr):Prop where
 own:∀h:Heap,K.In h->h.Ns mainGlobals mg->∃newId Bn QI QJ B QK QL BA,OwnCls x C BA newId mg h/\ExcBaseFacts Bn newId QI QJ/\BA.contains (.type Bn)=true/\ExcBaseFacts B QK QL BA
theorem QM{C:Addr}{np cm:Pos}(hm:FZ X.K X.mg x C)(hc:X.calm=true)(hg:Gl X x)(ha:PA X (e::es) (lA t))(dZ:(x==("__debug__":Str))=false:=by decide)
  (he:starEach (e::es) X.env=(false,eval e X.env)::starEach es X.env:=by rfl) (bN:(backTo cm (starEach es X.env)).any (·.1)=false:=by rfl) :
  PS X (.Raise (some (.Call (.Name x np) (e::es) [] cm)) none pos) (lS X (vm C t)):=by
 intro pins s σ H D I zz
 obtain⟨B,F,δ,Dd,c,q,k1,k2,k3,k4,xl⟩:=zz
 obtain⟨newId,Bn,QI,QJ,B',QK,QL,BA,O,Fn,hBn,FB⟩:=hm.own X.base I.ok.mod.mZ I.ok.mod.glob
 obtain⟨tl,N,nm,qn,bs,hdct,sn,sub,ab,col,dd,k0,qZ,uX,k3',k5,mN,hC,hN,mB,T⟩:=O.obj
 refine wpAny_Raise_call_subU (k5:=k5) (k3:=k3') (k2:=uX) (k1:=qZ) (k0:=k0) (dd:=dd) (col:=col) (ab:=ab) (sub:=sub) (sn:=sn) (hdct:=hdct) (bs:=bs) (N:=N) (q:=qn) (nm:=nm) (C:=C) Fn hBn FB (mN:=mN) (T.hasType FB.hasBase) (I.ok.hd hc) (by rw[he];show(false||(backTo cm (starEach es X.env)).any (·.1))=false;rw[bN];rfl) mB (xb I hg O.bound ⟨rfl,?_⟩ dZ)
 have BB:=ha cm pins s σ H (λvs H1=>vs.length<=9/\∃ah F',Dd.xr C ah/\aq B F' H1 σ ah []) I ⟨B,F,δ,[],_,c,q,λds ao vs F1 H1 q1 f1 h1 c1 s1=>⟨by rw[<-s1.length];exact q1.1,ao,F1,q1.2,c1⟩⟩
 rw[he]at BB ⊢
 refine Calls.evalArgs_plain (wpAny_mono BB (λus s2 h2=>?_) λ_ _ y=>y)
 obtain⟨vs,H1,I1,r,hl,ah,F',hx,c'⟩:=h2
 exact⟨rfl,by rw[<-r.length];exact fk hl (by decide),I1.bk _ _ hC,hN.keeps I1.bk,T.keeps I1.bk,λh' e' hm'=>xl.2 C ah pins σ F' H1 s2 h' e' _ hx c' I1 hm'⟩
end
end L3
namespace L3
open PySem L2 PySem.Spec PyProof.Rows
section
variable{X:Cx}{pins Eo:List (Addr × Obj)}{σ:L2.St}{H:Hp}{s:Shared}{a:Addr}
end
section
variable{X:Cx}{tb th:cI}{body c10:List Stmt}{c11:Stmt}{K n:Str}{Kc:Addr}{i:Nat}{kp c12 pos:Pos}
end
end L3
namespace L3
open PySem L2 PySem.Spec PyProof.Rows
def QN:V->Option Value
 | .ref a=>some (.ref a)
 | .ty n=>some (.type n)
 | _=>none
theorem co6{c:V}{u cv:Value}(h:QN c=some cv)(r:RelV c u):u=cv:=by
 cases c<;>cases h<;>exact r
inductive Ga(K:PySem.W.Frag)(H:Hp):V->Value->Prop where
 | ty {v:V} {t:Value} (h:ib K H v t):Ga K H v t
 | exc {a C:Addr} (e:H a=some (.ext (Bg a C))) (x:E8 K C):Ga K H (.ref a) (.ref C)
def cO3(K:PySem.W.Frag):List V->Hp->VK->Prop:=λxs H Q=>∃x c cv t b,xs=[x,c]/\QN c=some cv/\Ga K H x t/\PySem.W.kitOne K t cv=some b/\Q (.bl b) H
section
variable{X:Cx}{F H:Hp}{v:V}{a:Expr}{ta:aN}{p pos:Pos}
theorem b16:gq X (.builtin "isinstance") (cO3 X.K):=by
 intro pins s σ H xs us Q I r h
 obtain⟨x,c,cv,t,b,rfl,hv,ty,e,q⟩:=h
 obtain⟨u,v,rfl,ru,rv⟩:=r.two
 cases co6 hv rv
 cases ty with
 | ty ty=>exact OD I ru ty e λtk=>⟨.bl b,H,I.tok _,rfl,q⟩
 | @exc a C ea x =>
  cases(show u=cW a from ru)
  obtain⟨xa,_,_⟩:=(show dY X.prog X.w H s.heap a (.ext (Bg a C)) from I.aK a _ ea)
  exact PySem.W.kia_one (cb5 x) I.da xa e (λz=>nomatch z) λtk=>⟨.bl b,H,I.tok _,rfl,q⟩
end
section
variable{K:PySem.W.Frag}{mg:Str->Option Value}{x:Str}{C:Addr}
theorem cB4(hm:mg x=some (.ref C))(q:PySem.W.excIn K C [.type "ValueError",.type "Exception",.type "BaseException",.type "object"] "ValueError.__new__"=true):FZ K mg x C:=by
 refine⟨λh X G=>⟨"ValueError.__new__","ValueError",_,_,"ValueError",_,_,[.type "ValueError",.type "Exception",.type "BaseException",.type "object"],?_,PySem.F.excBase_ValueError,rfl,PySem.F.excBase_ValueError⟩⟩
 refine⟨hm,?_⟩
 unfold PySem.W.excIn at q
 split at q
 ·rename_i dd cd sl ho
  split at q
  ·rename_i C' bm k0 k1 k2 k3 n k5 hm hs
   simp only[eC,beq_iff_eq,Bool.not_eq_true']at q
   obtain⟨⟨⟨⟨⟨rfl,rfl⟩,QO⟩,ht⟩,aK⟩,mB⟩:=q
   obtain⟨nm,bs,mro,ns,qn,hd,sn,sub,ab,col,del⟩:=cd
   dsimp only at hm QO aK mB
   subst hm QO
   have hsl:sl=#[k0,k1,k2,k3,some (.builtin "ValueError.__new__"),k5]:=by
    obtain⟨l⟩:=sl
    simp only at hs
    rw[hs]
   subst hsl
   exact⟨bm,ns,nm,qn,bs,hd,sn,sub,ab,col,dd,k0,k1,k2,k3,k5,_,X _ _ ho,.of_isNs (PySem.W.isNs_of_in X aK),PySem.W.nsMap_none_of_in X aK mB,PySem.W.tail_of_in X ht⟩
  ·cases q
 ·cases q
open PySem.W in
theorem yv{t:Value}{b:Bool}(mh:(t==.ref C)=false)(h1:(clsIn K C).isSome=true)(h2:typeIn K (.ref C)=some (.type "type"))(h3:subIn K t (.ref C)=some b):kitOne K t (.ref C)=some b:=by
 unfold kitOne kitCls
 rw[mh]
 simp only[tH,if_false]
 rw[h1,h2,if_pos (by rfl),h3]
end
theorem Gb{P:Program}{w:World}{X:Cx}:j8 (nq P w) X E0:=by
 rintro _ _ _ _ _ _ _ ⟨_,_,_,_,_,_,_,_,_,_,_,_,_,_,z⟩
 exact z.elim
theorem Gd{P:Program}{w:World}{K:PySem.W.Frag}{mg:Str->Option Value}{base:Heap}{k:Nat}{f:Addr}{fd:FuncData}{ps:List Str}{sp:oV}(h:aM P w K mg base (nq P w) k f fd ps (yu sp)) :
  aM P w K mg base (nq P w) k f fd ps (bj λds Q=>sp ds Q λ_=>False) :=
 h.imp λvs H Q E zq=>by
 obtain⟨F,ds,Qd,e,r,q,k⟩:=zq
 exact⟨F,ds,Qd,_,e,r,q,k,λ_ _ z=>z.elim⟩
end L3
namespace L3
open PySem L2 PySem.Spec PyProof.Rows
theorem yw{CX:eQ}{P:Program}{w:World}{K:PySem.W.Frag}{mg:Str->Option Value}{base:Heap}{N:List Str}{q:Str}{sc:Scope}{f:Addr}{aC:Value}{A:Around}{outer:List Env}{s:Shared}{H:Hp}{E:XK}:(iH CX P w K mg base N q sc f aC A outer s H E).K=K:=rfl
theorem yx(φ:ue):(D.bE φ).pl=true:=rfl
theorem yy(φ:ue):(D.bE φ).sh=.bE φ:=rfl
end L3
namespace L3
open PySem L2 PySem.Spec PyProof.Rows
theorem yz{X:Cx}:X.gn.K=X.K:=rfl
end L3
namespace L3
open PySem L2 PySem.Spec PyProof.Rows
def dE(xs ys:List D):List D:=cT (λx y=>D.tup [x,y]) xs ys
def fM(xs:List D):List D:=xs.mapIdx λi x=>D.tup [.int i,x]
theorem QP(xs ys:List D):(dE xs ys).map D.sh=dE (xs.map D.sh) (ys.map D.sh):=by
 unfold dE
 rw[D7,Am]
 congr 1
theorem cr3{xs ys:List D}(h1:xs.all D.pl=true)(h2:ys.all D.pl=true):(dE xs ys).all D.pl=true:=by
 unfold dE
 rw[dr]at h1 h2 ⊢
 intro d hd
 obtain⟨i,hi,e⟩:=kB hd
 rw[List.getElem_zipWith]at e
 subst e
 rw[kI]
 simp only[dq,tK,mV,eC]
 exact⟨h1 _ (dz _),h2 _ (dz _)⟩
theorem b95(xs:List D):(fM xs).map D.sh=fM (xs.map D.sh):=by
 unfold fM
 apply NP
 intro i
 simp only[cj,An,Option.map_map]
 cases xs[i]? with
 | none=>rfl
 | some x =>
  show some (D.sh (.tup [.int i,x]))=some (D.tup [.int i,x.sh])
  rw[mi];rfl
theorem cb6{xs:List D}(h1:xs.all D.pl=true):(fM xs).all D.pl=true:=by
 unfold fM
 rw[dr]at h1 ⊢
 intro d hd
 obtain⟨i,hi,e⟩:=kB hd
 rw[List.getElem_mapIdx]at e
 subst e
 rw[kI]
 simp only[dq,tK,mV,eC]
 exact⟨rfl,h1 _ (dz _)⟩
theorem rH(xs:List D):(fM xs).length=xs.length:=by simp[fM]
theorem Ge(xs ys:List D):(dE xs ys).length=min xs.length ys.length:=by simp[dE]
section
variable{F H:Hp}{d:D}{v:V}{xs ys:List D}{ws us:List V}{p q:Addr}{K:PySem.W.Frag}
theorem Gf(s:S F H [d] [v])(e2:af F H)(e:kb d=some xs):∃p ws,v=.ref p/\Rd H p (.lst ws)/\R H H (xs.map D.sh) ws []/\(d.pl=true->xs.all D.pl=true/\Rd F p (.lst ws)/\R F H xs ws []):=by
 cases s with
 | @shr p ws ys _ _ hp r _ =>
  obtain rfl:=cS e
  refine⟨p,ws,rfl,.inl (e2 _ _ hp),?_,λ_=>⟨r.pl,.inl hp,r⟩⟩
  rw[mj r.pl]
  exact r.shared e2 (af.refl _)
 | @own p ws ys _ _ hp r _ =>
  obtain rfl:=cS e
  exact⟨p,ws,rfl,.inl hp,r.frozen e2,λz=>by simp[fW]at z⟩
 | @fz p o ws ys _ _ hp r _ =>
  obtain rfl:=cS e
  refine⟨p,ws,rfl,.inr ⟨o,e2 _ _ hp⟩,?_,λ_=>⟨r.pl,.inr ⟨o,hp⟩,r⟩⟩
  rw[mj r.pl]
  exact r.shared e2 (af.refl _)
 | av _=>cases e
 | bl _=>cases e
 | int _=>cases e
 | str _=>cases e
 | tup _ _ _=>cases e
 | obj _ _ _ _=>cases e
 | bE _ _=>cases e
theorem Gg(r:R F H xs ws []){i:Nat}(hi:i<xs.length){x:V}(hx:ws[i]?=some x):R F H [xs[i]] [x] []:=by
 obtain⟨v,A1,e2,r1,sub⟩:=r.get (aP hi)
 rw[hx]at e2;cases e2
 have:A1=[]:=W9.mpr λa ha=>by simpa using sub ha
 subst this
 exact r1
theorem QQ(hp:Rd F p (.lst ws))(r:R F H xs ws [])(hq:Rd F q (.lst us))(t:R F H ys us [])(hF:Full F H):JD (E9 K p q) F (dE xs ys) where
 go:=λi H' hs hi=>by
  rw[Ge]at hi
  have l1:=r.length
  have l2:=t.length
  exact⟨ws,us,_,_,.inl (iK hp hs),.inl (iK hq hs),aP (show i<ws.length by omega),aP (show i<us.length by omega)⟩
 j7:=λi H' v H2 hs hi zz=>by
  obtain⟨T,x,y,e1,e2,e3,hx,hy⟩:=zz
  subst e1 e3
  have yA:=hi
  rw[Ge]at yA
  have h1:=Gg (r.full hF hs rfl) (show i<xs.length by omega) (hx ws (.inl (iK hp hs)))
  have h2:=Gg (t.full hF hs rfl) (show i<ys.length by omega) (hy us (.inl (iK hq hs)))
  have sm:=af.upd (o:=.tup [x,y]) e2
  refine⟨_,aP hi,sm,?_⟩
  have eg:(dE xs ys)[i]=.tup [xs[i]'(by omega),ys[i]'(by omega)]:=by simp[dE]
  rw[eg]
  exact R.tup (A:=[]) (B:=[]) bJ ((h1.shared (af.refl _) sm).cons (h2.shared (af.refl _) sm)) .nil
 stop:=λi H' hs hi=>by
  rw[Ge]at hi
  have l1:=r.length
  have l2:=t.length
  exact⟨ws,us,.inl (iK hp hs),.inl (iK hq hs),by omega⟩
theorem QR(hp:Rd F p (.lst ws))(r:R F H xs ws [])(hF:Full F H):JD (Fg K p) F (fM xs) where
 go:=λi H' hs hi=>by
  rw[rH]at hi
  have l1:=r.length
  exact⟨ws,_,.inl (iK hp hs),aP (show i<ws.length by omega)⟩
 j7:=λi H' v H2 hs hi zz=>by
  obtain⟨T,x,e1,e2,e3,hx⟩:=zz
  subst e1 e3
  have yA:=hi
  rw[rH]at yA
  have h1:=Gg (r.full hF hs rfl) yA (hx ws (.inl (iK hp hs)))
  have sm:=af.upd (o:=.tup [.int i,x]) e2
  refine⟨_,aP hi,sm,?_⟩
  have eg:(fM xs)[i]=.tup [.int i,xs[i]]:=by simp[fM]
  rw[eg]
  exact R.tup (A:=[]) (B:=[]) bJ (.int (h1.shared (af.refl _) sm)) .nil
 stop:=λi H' hs hi=>by
  rw[rH]at hi
  have l1:=r.length
  exact⟨ws,.inl (iK hp hs),by omega⟩
end
section
variable{X:Cx}{a b:Expr}{ta:cH}{p pos qv:Pos}{elts:List Expr}{x1:Nat}
def vn(t:cH):jk:=λδ Q=>t δ λds ah=>match ds with
 | [d1,d2]=>∃xs ys,kb d1=some xs/\kb d2=some ys/\Q (d1.pl&&d2.pl) (dE xs ys) ah
 | _=>False
theorem oW(hg:Gl X "zip")(hm:X.mg "zip"=none)(ha:PA X [a,b] (lA ta))(hs:starEach [a,b] X.env=[(false,eval a X.env),(false,eval b X.env)]:=by rfl)(ft:starEach [b] X.env=[(false,eval b X.env)]:=by rfl) :
  PI X (.Tuple elts x1 qv) (.Call (.Name "zip" p) [a,b] [] pos) (lI (vn ta)) :=
 uC (cD4 hg hm ha hs ft) λσ H Q zq=>by
 obtain⟨B,F,δ,ts,Qd,c,q,k⟩:=zq
 exact⟨B,F,δ,ts,_,c,q,λds ao vs F1 H1 hd f1 h1 c1 s=>by
  match ds,hd,s with
  | [d1,d2],⟨xs,ys,i1,i2,hq⟩,s =>
   obtain⟨v1,bR,rfl,s1,s2⟩:=s.cO
   obtain⟨v2,ef4,rfl,s2,s3⟩:=s2.cO
   cases s3
   have e2:=c1.ext
   have sn:=qJ e2
   obtain⟨p1,w1,rfl,r1,t1,u1⟩:=Gf s1 e2 i1
   obtain⟨p2,w2,rfl,r2,t2,u2⟩:=Gf s2 e2 i2
   refine⟨p1,p2,rfl,⟨w1,.inl r1⟩,⟨w2,.inl r2⟩,k _ _ ao _ _ H1 hq (f1.trans sn) h1 c1.snap ?_ λz=>?_⟩
   ·rw[QP]
    exact QQ r1 t1 r2 t2 (Full.refl _)
   ·rw[eC]at z
    obtain⟨a1,a2,a3⟩:=u1 z.1
    obtain⟨b1,b2,b3⟩:=u2 z.2
    exact⟨cr3 a1 b1,QQ (iK a2 sn) (a3.shared sn (af.refl _)) (iK b2 sn) (b3.shared sn (af.refl _)) uf⟩⟩
def vo(t:cH):jk:=λδ Q=>t δ λds ah=>match ds with
 | [d1]=>∃xs,kb d1=some xs/\Q d1.pl (fM xs) ah
 | _=>False
theorem rJ(hg:Gl X "enumerate")(hm:X.mg "enumerate"=none)(ha:PA X [a] (lA ta))(hs:starEach [a] X.env=[(false,eval a X.env)]:=by rfl) :
  PI X (.Tuple elts x1 qv) (.Call (.Name "enumerate" p) [a] [] pos) (lI (vo ta)) :=
 uC (cs8 hg hm ha hs) λσ H Q zq=>by
 obtain⟨B,F,δ,ts,Qd,c,q,k⟩:=zq
 exact⟨B,F,δ,ts,_,c,q,λds ao vs F1 H1 hd f1 h1 c1 s=>by
  match ds,hd,s with
  | [d1],⟨xs,i1,hq⟩,s =>
   obtain⟨v1,bR,rfl,s1,s2⟩:=s.cO
   cases s2
   have e2:=c1.ext
   have sn:=qJ e2
   obtain⟨p1,w1,rfl,r1,t1,u1⟩:=Gf s1 e2 i1
   refine⟨p1,rfl,⟨w1,.inl r1⟩,k _ _ ao _ _ H1 hq (f1.trans sn) h1 c1.snap ?_ λz=>?_⟩
   ·rw[b95]
    exact QR r1 t1 (Full.refl _)
   ·obtain⟨a1,a2,a3⟩:=u1 z
    exact⟨cb6 a1,QR (iK a2 sn) (a3.shared sn (af.refl _)) uf⟩⟩
end
end L3
namespace L3
open PySem L2 PySem.Spec PyProof.Rows
section
variable{X:Cx}{F H:Hp}{e b:Expr}{pos p p2 p3 pr apos cm FW:Pos}{t ti te:aN}{x y:Str}{i j:Nat}
theorem BC{α:Type}{xs:List α}{k:Nat}{v:α}(h:xs[k]?=some v):eE xs (k:Int)=some v:=by
 unfold eE gY
 have hk:k<xs.length:=(iX.mp h).1
 rw[if_pos (by omega),if_pos (by omega)]
 exact h
theorem FV{B:Bs}{σ:L2.St}{δ:Dl}{ts:List (D × V)}{l1 l2 ys:List D}{p0:Addr}{ws:List V}(c:aq B F H σ δ ts)(e1:δ[i]?=some (some (.lst true (l1++.lst true ys::l2))))(g1:σ[i]?=some (some (.ref p0)))(g2:H p0=some (.lst ws)) :
  ∃q us,ws[l1.length]?=some (.ref q)/\H q=some (.lst us)/\ys.length=us.length/\S F H [.lst true ys] [.ref q]:=by
 obtain⟨v,ev,sv⟩:=c.look e1
 rw[g1]at ev;cases ev
 cases sv with
 | own hh sx _ =>
  rw[g2]at hh;cases hh
  obtain⟨v2,e2,s3⟩:=sx.get (i:=l1.length) (d:=D.lst true ys) (by rw[kz (bG _),wJ];rfl)
  have s4:=s3
  cases s3 with
  | own h3 s5 _=>exact⟨_,_,e2,h3,s5.length,s4⟩
end
section
variable{X:Cx}{CX:eQ}{k:Nat}{f:Addr}{fd:FuncData}{ps:List Str}{sp:bh}{E:XK}{fn x1 x2 y1 y2:Str}{i1 i2 j1 j2:Nat}{tk:Nat}
 {tp t1 t2 zp ef5 q1 q2 fp ef6 a1 a2 c22 ef7 ef8 cp FW pr apos cm ef9 pos:Pos}
end
end L3
namespace L3
open PySem L2 PySem.Spec PyProof.Rows
theorem aq.c23{B:Bs}{F H:Hp}{σ:L2.St}{δ:Dl}{ts:List (D × V)}{a b:D}{v:V}(c:aq B F H σ δ ((.tup [a,b],v)::ts)):∃p u w,v=.ref p/\H p=some (.tup [u,w])/\aq B F H σ δ ((a,u)::(b,w)::ts):=by
 obtain⟨A,C,r,s,nd,fr⟩:=c.own
 cases r with
 | @tup p ws xs A1 _ _ B1 hp r1 r2 =>
  obtain⟨u,gI,A2,A3,rfl,rfl,h1,h2⟩:=r1.cO
  obtain⟨w,eg0,A4,A5,rfl,rfl,h3,h4⟩:=h2.cO
  cases h4
  refine⟨p,u,w,rfl,hp,c.ext,c.b1,c.b2,c.b3,A2++(A4++B1),C,h1.cons (h3.cons r2),s,?_,?_⟩
  ·simpa using nd
  ·intro a ha;exact fr a (by simpa using ha)
section
variable{X:Cx}{y1 y2:Str}{i1 i2 tk m:Nat}{t1 t2 tp:Pos}
def jL(i1 i2:Nat):iu:=λd δ Q=>match d with
 | .tup [a,b]=>Q ((δ.set i1 (some a)).set i2 (some b))
 | _=>False
theorem iz(hc:X.calm=true)(QS:X.N.Nodup)(m1:X.N[i1]?=some y1)(l1:Loc X.env.scope y1)(m2:X.N[i2]?=some y2)(l2:Loc X.env.scope y2)(hm1:m<=i1:=by decide)(Bw:m<=i2:=by decide)
  (f1:X.fn y1=true\/X.env.scope.names.lookup y1=some .local:=by first | exact .inl rfl | exact .inr rfl | assumption) (f2:X.fn y2=true\/X.env.scope.names.lookup y2=some .local:=by first | exact .inl rfl | exact .inr rfl | assumption)
  (hag:(assignEach [.Name y1 t1,.Name y2 t2] X.env).map (·.2)=assign (.Name y1 t1) X.env::(assignEach [.Name y2 t2] X.env).map (·.2):=by rfl) (c25:(assignEach [.Name y2 t2] X.env).map (·.2)=assign (.Name y2 t2) X.env::(assignEach [] X.env).map (·.2):=by rfl)
  (hn:(assignEach [.Name y1 t1,.Name y2 t2] X.env).length=2:=by rfl) (de:(assignEach [.Name y1 t1,.Name y2 t2] X.env).findIdx? (·.1)=none:=by rfl) :
  PG X (.Tuple [.Name y1 t1,.Name y2 t2] tk tp) (lG m (jL i1 i2)) :=
 P5 (Yg hc (Ol (AO QS m1 l1 f1) (Ol (AO QS m2 l2 f2) Ye c25) hag) hn de) λv σ H Q zz=>by
  obtain⟨B,F,δ,ts,d,Qd,c,q,k⟩:=zz
  obtain⟨a,b,rfl,q⟩:∃a b,d=D.tup [a,b]/\Qd ((δ.set i1 (some a)).set i2 (some b)):=by
   unfold jL at q
   split at q
   ·exact⟨_,_,rfl,q⟩
   ·exact q.elim
  obtain⟨p,u,w,rfl,hp,c2⟩:=c.c23
  refine⟨p,[u,w],rfl,hW.of hp,rfl,u,[w],rfl,w,[],rfl,rfl,k _ _ q (by simp) (λj hj=>?_) ((c2.store i1).store i2)⟩
  rw[sW (by omega),sW (by omega)]
end
open Classical in
theorem eH{α:Type}{sh:Bool}{xs:List D}{aD:List (Str × Nat)}{n m:Nat}{te:aN}{ao:Dl}{Q:D->Dl->Prop}(l:List α)(e g:α->D)(jo:xs.map D.sh=l.map e)(inj:∀a b,e a=e b->a=b)
  (hx:∀a∈l,te ((gx aD n ao).set m (some (e a))) λd _=>d=g a) (eG:(sh&&aD.all (jl ao))=true\/∀a∈l,(g a).fr=true) (hl:l.length<=sizeLine) (hq:Q (.lst true (l.map g)) ao):uI sh xs aD n (gN m) mn te ao Q:=by
 let f:D->D:=λx=>if h:∃a∈l,e a=x then g h.choose else .av
 have hf:∀a∈l,f (e a)=g a:=λa ha=>by
  have h:∃b∈l,e b=e a:=⟨a,ha,rfl⟩
  show(if h:∃b∈l,e b=e a then g h.choose else .av)=g a
  rw[dif_pos h]
  exact congrArg g (inj _ _ h.choose_spec.2)
 refine ca2 f (λx h=>?_) (eG.imp id λh x hx=>?_) ?_ ?_
 ·rw[jo]at h
  obtain⟨a,ha,rfl⟩:=bD.mp h
  rw[hf a ha];exact hx a ha
 ·rw[jo]at hx
  obtain⟨a,ha,rfl⟩:=bD.mp hx
  rw[hf a ha];exact h a ha
 ·have:=congrArg DS jo
  simp at this
  omega
 ·rw[jo,cw,show l.map (f ∘ e)=l.map g from tL λa ha=>hf a ha]
  exact hq
end L3
namespace L3
open PySem L2 PySem.Spec PyProof.Rows
end L3
namespace L2
open PySem PySem.Spec PyProof.Rows
section
variable{X:Cx}
end
end L2
namespace L3
open PySem L2 PySem.Spec PyProof.Rows
abbrev tx(l:List Nat):D:=.str ⟨l.toArray⟩
section
variable{X:Cx}{F H:Hp}{e:Expr}{es:List Expr}{t:aN}{pos p p2 apos cm:Pos}
def rK(x:D)(lo hi:Option Int)(Q:D->Prop):Prop:=match x with
 | .lst _ xs=>xs.all D.pl=true/\Q (.lst true (fL xs lo hi))
 | .fz xs=>Q (.lst true (fL xs lo hi))
 | .str z=>z.length<=sizeLine/\Q (tx (fL z.cps.toList lo hi))
 | _=>False
def vp(t:aN)(tl th:u6):aN:=λδ Q=>t δ λx ao=>tl ao λl aS=>th aS λu iN=>rK x l u λd=>Q d iN
theorem yB{lo hi:Option Expr}{tl th:u6}(he:PE X e (lB t))(hl:PO X lo (lP tl))(hu:PO X hi (lP th)):PE X (.Subscript e (.Slice lo hi none p2) pos) (lE (vp t tl th)) :=
 du (Zy (ZK.or cy3) he hl hu) λσ H Q zq=>by
 obtain⟨B,F,δ,ts,Qd,c,q,k⟩:=zq
 exact⟨B,F,δ,ts,_,c,q,λx ao v F1 H1 q1 f1 h1 c1 s1=>⟨B,F1,ao,ts,_,c1,q1,λl aS F2 H2 q2 f2 h2 c2=>⟨B,F2,aS,ts,_,c2,q2,λu iN F3 H3 q3 f3 h3 c3=>by
  have nG:=s1.mono (f2.trans f3) (h2.trans h3)
  unfold rK at q3
  split at q3
  ·obtain⟨p,ws,rfl,h,t⟩:=kM nG c3.ext rfl
   exact .inl ⟨p,ws,rfl,kh h,λr hr=>k _ iN _ F3 _ q3.2 ((f1.trans f2).trans f3) (((h1.trans h2).trans h3).trans (af.upd hr)) (c3.oJ hr (t.cut _ _) (Qt q3.1 _ _))⟩
  ·obtain⟨p,ws,rfl,h,t⟩:=kM nG c3.ext rfl
   cases nG with
   | fz h' r _=>exact .inl ⟨_,_,rfl,kh (.inr ⟨_,c3.ext _ _ h'⟩),λr' hr=>k _ iN _ F3 _ q3 ((f1.trans f2).trans f3) (((h1.trans h2).trans h3).trans (af.upd hr)) (c3.oJ hr (r.s.cut _ _) (Qt r.pl _ _))⟩
  ·cases nG with
   | str _=>exact .inr ⟨_,rfl,q3.1,k _ iN _ F3 H3 q3.2 ((f1.trans f2).trans f3) ((h1.trans h2).trans h3) (c3.pushS (.str .nil) rfl)⟩
  ·exact q3.elim⟩⟩⟩
end
theorem yC(a:List Nat):(⟨a.toArray⟩:Str).length=a.length:=by show a.toArray.size=_;simp
end L3
namespace L3
open PySem L2 PySem.Spec PyProof.Rows
def ak(l:List Nat):List D:=aG (l.map λ(n:Nat)=>(n:Int))
theorem dW(l:List Nat):(ak l).length=l.length:=by unfold ak;rw[kQ,bt]
theorem cA(l:List Nat):ak l=l.map λ(n:Nat)=>D.int (n:Int):=by unfold ak aG;rw[cw];rfl
theorem oX(l:List Nat):(ak l).map D.sh=l.map λ(n:Nat)=>D.int (n:Int):=by unfold ak;rw[ki];exact cA l
theorem iO(a b:Nat)(h:D.int (a:Int)=D.int (b:Int)):a=b:=by injection h with h;omega
theorem kR(l:List Nat):(ak l).all D.pl=true:=nI _
theorem rL(l:List Nat):(ak l).map D.sh=ak l:=ki _
theorem nK(a b:List Nat):ak a++ak b=ak (a++b):=by unfold ak;rw[rF,fo]
theorem yD(l:List Nat)(lo hi:Option Int):fL (ak l) lo hi=ak (fL l lo hi):=by
 unfold ak
 rw[vi]
 congr 1
 unfold fL
 rw[bt,NO,NN]
theorem QT{α:Type}(xs:List α)(b:Nat):fL xs none (some (b:Int))=xs.take b:=by
 have:=cs1 xs 0 b
 unfold fL at this ⊢
 simpa[HT.df]using this
theorem Gh{α:Type}(xs:List α)(a:Nat):fL xs (some (a:Int)) none=xs.drop a:=by
 unfold fL
 rw[HT.EK]
 show(xs.drop (min a xs.length)).take (xs.length-min a xs.length)=_
 by_cases h:a<=xs.length
 ·rw[Nat.min_eq_left h,wI (by rw[lF];exact bG _)]
 ·rw[Nat.min_eq_right (by omega),List.drop_length,NR (by omega)];simp
end L3
namespace L2
open PySem PySem.Spec PyProof.Rows
section
variable{X:Cx}{tg l o e:Expr}{tl to te:TE}{apos cm:Pos}
end
end L2
namespace L3
open PySem L2 PySem.Spec PyProof.Rows
section
variable{X:Cx}{F H:Hp}{tg l e:Expr}{te t tb:aN}{apos cm pos:Pos}
variable{o:Expr}
theorem Gi:∀{ns:List Int} {ws:List V},S F H (aG ns) ws->ws=ns.map V.int
 | [],_,s=>by cases s;rfl
 | n::ns,_,s=>by
  cases s with
  | int s=>rw[Gi s];rfl
end
end L3
namespace L3
open PySem L2 PySem.Spec PyProof.Rows
end L3
namespace L2
open PySem PySem.Spec PyProof.Rows
def Tb(ts:List Addr)(H:Hp):Prop:=∀P∈ts,∃ps,H P=some (.dA ps)
structure vq(ts:List Addr)(H:Hp):Prop where
 any:∀b,H b=none\/(∃o xs,H b=some (.br o (.lst xs)))\/(b∈ts/\H b=some (.dA #[]))
 tab:∀P∈ts,H P=some (.dA #[])
theorem vq.tb{ts:List Addr}{H:Hp}(h:vq ts H):Tb ts H:=λP hP=>⟨#[],h.tab P hP⟩
def Bm(mg:Str->Option Value)(base:Heap):Prop:=∃bm o,mg "__builtins__"=some (.ref bm)/\bm≠builtinsNs/\bm≠mainGlobals/\base.get? bm=some o/\o.cls=.type "module"/\o.dict=some builtinsNs/\o.data=.plain
theorem b54{P:Program}{w:World}{K:PySem.W.Frag}{mg mb:Str->Option Value}{CX:eQ}{k:Nat}{fa a:Addr}{fd:FuncData}{x:Str}{sp:Sp}{bC:Shared}{vs:List Value}{ns:List Int}{ts:List Addr}
  (KX:K.In bC.heap) (BD:bC.heap.Ns mainGlobals mg) (hb:bC.heap.Ns builtinsNs mb) (hbb:∀x:Str,x≠"__name__"->mb x=bootBuiltins x) (c28:bC.heap.NoLimit) (hg:bC.gens=#[])
  (ht:∀P∈ts,bC.heap.get? P=some (PySem.W.tabObj #[])) (Gj:∀P∈ts,isCodeTable bC.heap P) (hkt:∀P∈ts,K.lookup P=none)
  (ha:bC.heap.get? a=some { cls:=.type "list",data:=.seq vs.toArray }) (hi:IntsAre vs ns) (hl:ns.length<=sizeLine) (hr:bY k callerA)
  (yE:Bm mg bC.heap) (F:∀base:Heap,K.In base->base.Ns mainGlobals mg->Bm mg base->aM P w K mg base CX k fa fd [x] sp) (c30:∀(s:Shared) (u:Value),BindsTo s fd ⟨[u],[]⟩ [(x,u)])
  (ig:∀H:Hp,vq ts H->bK K H a (ns.map V.int)->sp [.ref a] H (λv _=>v=.bl true) λ_ _ _=>False)
  (Gk:∀H e s',CX [] H bC (λ_ _ _=>False) e s'->False) :
  codeAny (model P w) callerA (.call (.ref fa) ⟨[.ref a],[]⟩) (λr s'=>r=.ok (.ret (.bool true))/\OldK bC.heap s'.heap/\s'.os=bC.os/\AllBare s'.gens) bC:=by
 have rv:=O4 hi
 have c31:=hi.length
 have nat:a ∉ ts:=λz=>by
  have:=ht a z
  rw[ha]at this
  cases this
 have core:∀H:Hp,vq ts H->bK K H a (ns.map V.int)->cL P w H bC.heap->(∀b,H b≠none->b=a\/b∈ts)->(H a≠none->K.lookup a=none) ->
   codeAny (model P w) callerA (.call (.ref fa) ⟨[.ref a],[]⟩) (λr s'=>r=.ok (.ret (.bool true))/\OldK bC.heap s'.heap/\s'.os=bC.os/\AllBare s'.gens) bC:=by
  intro H hO hS aK hA hK
  have Gm:∀{b:Addr} {o:Obj},bC.heap.get? b=some o->H b=none->(lN bC.heap H).get? b=some o:=λe n=>Xy e n
  have xp:∀{b:Addr} {o:Obj} {es:Array DictEntry} {ep:Nat},bC.heap.get? b=some o->o.data=.dict es ep->H b=none:=λ{b o es ep} e d=>by
   cases q:H b with
   | none=>rfl
   | some u =>
    rcases hA b (by rw[q];simp)with e' | e'
    ·subst e'
     rw[ha]at e;cases e
     have d':Data.seq vs.toArray _=Data.dict es ep:=d
     cases d'
    ·rw[ht b e']at e;cases e
     have d':Data.fields #[]=Data.dict es ep:=d
     cases d'
  have BE:∀{b:Addr} {m:Str->Option Value},bC.heap.Ns b m->(lN bC.heap H).Ns b m:=λ{b m} ⟨o,es,ep,e,d,r⟩=>⟨o,es,ep,Gm e (xp e d),d,r⟩
  have QU:K.In (lN bC.heap H):=λb o e=>Gm (KX b o e) (by
   cases q:H b with
   | none=>rfl
   | some u =>
    rcases hA b (by rw[q];simp)with e' | e'
    ·subst e'
     rw[hK (by rw[q];simp)]at e;cases e
    ·rw[hkt b e']at e;cases e)
  have hBm:Bm mg (lN bC.heap H):=by
   obtain⟨bm,o,b1,b2,b3,b4,b5,b6,b7⟩:=yE
   refine⟨bm,o,b1,b2,b3,Gm b4 ?_,b5,b6,b7⟩
   cases q:H bm with
   | none=>rfl
   | some u =>
    rcases hA bm (by rw[q];simp)with e' | e'
    ·rw[e',ha]at b4;cases b4
     have d':Data.seq vs.toArray _=Data.plain:=b7
     cases d'
    ·rw[ht bm e']at b4;cases b4
     have d':Data.fields #[]=Data.plain:=b7
     cases d'
  have hM:Mod K mg (lN bC.heap H):=⟨QU,BE BD,⟨mb,BE hb,hbb⟩,let⟨mc,h1,h2⟩:=c28;⟨mc,BE h1,h2⟩⟩
  have e0:jc P w K mg (lN bC.heap H) callerA [] bC H:=⟨rfl,hM,λb o e=>Xz e,Ab (Xx _ _),trivial,λb hb=>absurd (show b∈([]:List Addr) from hb) (by simp),aK,.of_eq hg⟩
  refine codeAny_mono ((F _ QU (BE BD) hBm).run callerA [] bC H ⟨[.ref a],[]⟩ [.ref a] [.ref a] _ _ hr e0 (c30 bC (.ref a)) (.cons rfl .nil) (ig H hO hS)) λr s' h=>?_
  cases r with
  | error e=>exact(Gk H e s' h).elim
  | ok fl =>
   cases fl with
   | next=>exact fQ h
   | brk=>exact fQ h
   | cont=>exact fQ h
   | ret u =>
    obtain⟨v,H',os,bare,un,QV,r',q⟩:=h
    have q':v=.bl true:=q
    subst q'
    obtain rfl:u=DQ true:=r'
    have each:∀b o,bC.heap.get? b=some o->asItWas bC.heap s'.heap b o/\∃o',s'.heap.get? b=some o':=λb o e=>by
     cases q:H b with
     | none =>
      have z:=un.keep b o e q (by intro z;exact absurd (show b∈([]:List Addr) from z) (by simp)) (by simp)
      exact⟨.inl z,o,z⟩
     | some u =>
      rcases hO.any b with z | ⟨ob,xs,z⟩ | ⟨jM,z⟩
      ·rw[q]at z;cases z
      ·have z2:=un.jA b ob _ z
       obtain⟨e1,_⟩:=aK b _ z
       obtain⟨e2,_⟩:=QV b _ z2
       rw[e]at e1;cases e1
       exact⟨.inl e2,_,e2⟩
      ·obtain⟨more,z2⟩:=un.iG b _ z
       have e2:=(QV b _ z2).1
       rw[ht b jM]at e;cases e
       exact⟨.inr (.inl ⟨Gj b jM,rfl,#[],more,rfl,e2⟩),_,e2⟩
    exact⟨rfl,⟨λb o e=>(each b o e).1,λb o e=>(each b o e).2⟩,os,bare⟩
 have tok:∀(H:Hp) (b:Addr),b∈ts->dY P w H bC.heap b (.dA #[]):=λH b hb=>⟨ht b hb,trivial,λpos cv q=>by cases q⟩
 cases hk:K.lookup a with
 | some o =>
  have e:=KX a o hk
  rw[ha]at e
  cases e
  refine core (λb=>if b∈ts then some (.dA #[])else none) ⟨λb=>?_,λb hb=>if_pos hb⟩ (.inr ⟨_,vs.toArray,_,hk,rfl,rfl,rfl,by rw[dH,c31];exact hl,by simpa using rv⟩) (λb u z=>?_) (λb z=>?_) λz=>absurd (if_neg nat) z
  ·by_cases hb:b∈ts
   ·exact .inr (.inr ⟨hb,if_pos hb⟩)
   ·exact .inl (if_neg hb)
  ·by_cases hb:b∈ts
   ·have z':=(if_pos hb).symm.trans z
    cases z'
    exact tok _ b hb
   ·have z':=(if_neg hb).symm.trans z
    cases z'
  ·by_cases hb:b∈ts
   ·exact .inr hb
   ·exact absurd (if_neg hb) z
 | none =>
  refine core (λb=>if b=a then some (.br { cls:=.type "list",data:=.seq vs.toArray } (.lst (ns.map V.int)))else if b∈ts then some (.dA #[])else none) ⟨λb=>?_,λb hb=>?_⟩ (.inl (.inr ⟨{ cls:=.type "list",data:=.seq vs.toArray },if_pos rfl⟩)) (λb u z=>?_) (λb z=>?_) λ_=>hk
  ·by_cases hb:b=a
   ·exact .inr (.inl ⟨_,_,if_pos hb⟩)
   ·by_cases jM:b∈ts
    ·exact .inr (.inr ⟨jM,(if_neg hb).trans (if_pos jM)⟩)
    ·exact .inl ((if_neg hb).trans (if_neg jM))
  ·have mh:b≠a:=λz=>nat (z ▸ hb)
   exact(if_neg mh).trans (if_pos hb)
  ·by_cases hb:b=a
   ·have z':=(if_pos hb).symm.trans z
    cases z'
    subst hb
    exact⟨ha,by rw[bt];exact hl,vs,_,rv,ha⟩
   ·by_cases jM:b∈ts
    ·have z':=((if_neg hb).trans (if_pos jM)).symm.trans z
     cases z'
     exact tok _ b jM
    ·have z':=((if_neg hb).trans (if_neg jM)).symm.trans z
     cases z'
  ·by_cases hb:b=a
   ·exact .inl hb
   ·by_cases jM:b∈ts
    ·exact .inr jM
    ·exact absurd ((if_neg hb).trans (if_neg jM)) z
theorem c33{l:PySem.W.OpenLaw}{n k:Nat}{q:Program}{loose:List Str}{XP:(Str->Option Value)->Heap->Prop}{YP:World->Heap->Prop}{d:DefRec}{K:Params->PySem.W.Frag}{CX:World->eQ}{sp:World->Sp}{x:Str}{ts:List Addr}
  (hn:l.most=some n) (tV:n<=sizeLine) (xt:d.params.defaults=[]) (hr:bY k callerA)
  (hY:∀(w:World) (h:Heap),YP w h->(K w.params).In h/\∀P∈ts,h.get? P=some (PySem.W.tabObj #[]))
  (hC:∀(w:World) (h:Heap),(K w.params).In h->∀P∈ts,(K w.params).lookup P=none/\∃c,PySem.W.CodeHd h c P)
  (F:∀(w:World) (mg:Str->Option Value) (fa:Addr) (h:Heap),(K w.params).In h->h.Ns mainGlobals mg->mg d.name=some (.ref fa) ->
   ∃fd:FuncData,(∀(s:Shared) (u:Value),BindsTo s fd ⟨[u],[]⟩ [(x,u)]) /\
    ∀base:Heap,(K w.params).In base->base.Ns mainGlobals mg->Bm mg base->aM l.prog w (K w.params) mg base (CX w) k fa fd [x] (sp w))
  (ig:∀(w:World) (H:Hp) (a:Addr) (ns:List Int),ns.length<=n->vq ts H->bK (K w.params) H a (ns.map V.int)->sp w [.ref a] H (λv _=>v=.bl true) λ_ _ _=>False)
  (Gk:∀(w:World) (H:Hp) (s:Shared) (e:Value) (s':Shared),CX w [] H s (λ_ _ _=>False) e s'->False) :
  PySem.W.WalkO q loose XP YP l.row.toRowW d [] (λf vs=>PySem.call f vs):=by
 refine Att.Z9 hn xt λw cM bC mg mb fa o pm cd doc a vs ns G Y ho hd cF xu EV hints hlen hg=>?_
 obtain⟨KX,hT⟩:=hY w _ Y
 obtain⟨fd,hb,hF⟩:=F w mg fa _ KX G.T.g xu
 have Gj:∀P∈ts,isCodeTable bC.heap P:=λP hP=>by
  obtain⟨_,c,C⟩:=hC w _ KX P hP
  exact(C.tab (hT P hP)).isCodeTable
 have yE:Bm mg bC.heap:=by
  obtain⟨bm,ob,b1,b2,b3,b4,b5,b6⟩:=G.T.bmain
  refine⟨bm,ob,b1,b2,λq=>?_,b3,b4,b5,b6⟩
  obtain⟨o,es,ep,e,hd,_⟩:=G.T.g
  rw[q,e]at b3;cases b3;rw[hd]at b6;cases b6
 exact b54 KX G.T.g G.T.b G.T.builtins G.T.nolimit hg hT Gj (λP hP=>(hC w _ KX P hP).1) EV hints (fk hlen tV) hr yE hF hb (λH hO hS=>ig w H a ns hlen hO hS) λH e s'=>Gk w H bC e s'
end L2
namespace L3
open PySem L2 PySem.Spec PyProof.Rows
def vt(ts:List Addr)(sp:Sp):Sp:=λvs H Q E=>Tb ts H/\sp vs H Q E
theorem Gp{X:Cx}{pins:List (Addr × Obj)}{σ:L2.St}{H:Hp}{s:Shared}{ts:List Addr}(I:Inv X pins σ H s)(h:Tb ts X.j3):Tb ts H:=λP hP=>by
 obtain⟨ps,e⟩:=h P hP
 obtain⟨m,e2⟩:=I.base.iG P ps e
 exact⟨_,e2⟩
def BF(ts:List Addr)(K:PySem.W.Frag):Sp:=λvs H Q _=>∃(a:Addr) (ns:List Int),vs=[.ref a]/\vq ts H/\bK K H a (ns.map V.int)/\ns.length<=63/\∀H',Q (.bl true) H'
theorem cb8{ts:List Addr}{K:PySem.W.Frag}(nl:K.all (λp=>FR p.2)=true){vs:List V}{H:Hp}{Q:VK}{E:XK}(h:BF ts K vs H Q E):vt ts (bj Qu) vs H Q E:=by
 obtain⟨a,ns,rfl,hO,hS,hl,q⟩:=h
 have hz:∃o,H a=some (.br o (.lst (ns.map V.int))):=by
  rcases hS with (hS | hS) | ⟨o,its,n,hk,hc,_⟩
  ·rcases hO.any a with z | ⟨o,xs,z⟩ | ⟨_,z⟩
   ·rw[hS]at z;cases z
   ·rw[hS]at z;cases z
   ·rw[hS]at z;cases z
  ·exact hS
  ·have hm:=bN2 hk
   have:=dr.mp nl _ hm
   simp[FR,hc]at this
 obtain⟨o,ho⟩:=hz
 refine⟨hO.tb,H,[.fz (aG ns)],λd=>d=.bl true,af.refl _,.fz ho (kP ns) .nil,⟨ns,rfl,hl,rfl⟩,λd v F' H' A hd hs hf he h3 r nd fr=>?_⟩
 subst hd
 cases r
 exact q H'
end L3
namespace L2
open PySem PySem.Spec PyProof.Rows
def rem(H:Hp)(f c:Addr):Hp:=λb=>if b=f\/b=c then none else H b
def nL(H H':Hp)(f c:Addr):Hp:=λb=>if b=f\/b=c then H b else H' b
section
variable{P:Program}{w:World}{H H':Hp}{h:Heap}{a b f c:Addr}{o:HO}{of oc:Obj}
theorem QW:rem H f c f=none:=if_pos (.inl rfl)
theorem BG:rem H f c c=none:=if_pos (.inr rfl)
theorem iA(h1:b≠f)(h2:b≠c):rem H f c b=H b:=if_neg (by simp[h1,h2])
theorem vv(e:H b=none):rem H f c b=none:=by unfold rem;split;rfl;exact e
theorem QX(e:rem H f c b=some o):b≠f/\b≠c/\H b=some o:=by
 unfold rem at e
 split at e
 ·cases e
 ·rename_i n
  exact⟨λz=>n (.inl z),λz=>n (.inr z),e⟩
theorem oY(h1:b≠f)(h2:b≠c):nL H H' f c b=H' b:=if_neg (by simp[h1,h2])
theorem QY:nL H H' f c f=H f:=if_pos (.inl rfl)
theorem Gq:nL H H' f c c=H c:=if_pos (.inr rfl)
theorem dY.rem{φ:Heap->Prop}(x:dY P w H h a o)(ha:a≠f)(hf:H f=some (.ext φ))(hc:H c=some (.own f)\/H c=none)(Gr:¬ ∀h',φ h'->∃q,h'.CodeRec (.ref f) q):dY P w (rem H f c) h a o:=by
 have own:∀b,H b=some (.own a)->L2.rem H f c b=some (.own a):=λb e=>by
  rw[iA (λz=>by subst z;rw[hf]at e;cases e) (λz=>by subst z;rcases hc with hc | hc<;>(rw[hc]at e;cases e);exact ha rfl)];exact e
 have tup:∀b xs,H b=some (.tup xs)->L2.rem H f c b=some (.tup xs):=λb xs e=>by
  rw[iA (λz=>by subst z;rw[hf]at e;cases e) (λz=>by subst z;rcases hc with hc | hc<;>(rw[hc]at e;cases e))];exact e
 induction o with
 | lst xs=>exact x
 | tup xs=>exact x
 | dK dJ=>exact x
 | dT dJ =>
  obtain⟨z,y,xs,r,ob⟩:=x
  exact⟨z,y,xs,Paired.Eh r λp q z=>⟨z.1,tup _ _ z.2.1,z.2.2⟩,ob⟩
 | set S n=>exact x
 | ins C dx fs =>
  obtain⟨d,r⟩:=x
  exact⟨own _ d,r⟩
 | own y=>exact x
 | xd fs=>exact x
 | wW lo hi=>exact x
 | br ob u ih=>obtain⟨e,q⟩:=x;exact⟨e,ih q⟩
 | dA ps =>
  obtain⟨e,t,cc⟩:=x
  refine⟨e,t,λpos cv q=>?_⟩
  obtain⟨d,φ,e1,e2,e3⟩:=cc pos cv q
  refine⟨d,φ,e1,?_,e3⟩
  rw[iA (λz=>?_) (λz=>by subst z;rcases hc with hc | hc<;>(rw[hc]at e2;cases e2))]
  ·exact e2
  ·subst z
   rw[hf]at e2;cases e2
   exact Gr e3
 | met f y=>exact x
 | ext φ=>obtain⟨p,r,st⟩:=x;exact⟨p,r,λh1 h2 p1 kk=>st h1 h2 p1 λb o hb q=>kk b o (hb.imp id (own b)) q⟩
theorem QZ{φ:Heap->Prop}{fd:FuncData}(p:φ h)(g:∀h',φ h'->h'.get? f=some of)(hd:of.data=.func fd):¬ ∀h',φ h'->∃q,h'.CodeRec (.ref f) q:=λz=>by
 obtain⟨q,k,ok,vs,t,q1,q2,q3,_⟩:=z h p
 cases q1
 rw[g h p]at q2;cases q2
 rw[hd]at q3;cases q3
theorem cL.lam(ok:cL P w H h)(hf:H f=some (.ext (L3.jE of oc c f))):L3.jE of oc c f h:=(ok f _ hf).1
theorem cL.rem{fd:FuncData}(ok:cL P w H h)(hf:H f=some (.ext (L3.jE of oc c f)))(hc:H c=some (.own f))(hd:of.data=.func fd):cL P w (rem H f c) h:=λb o e =>
 let⟨h1,_,h3⟩:=QX e;(ok b o h3).rem h1 hf (.inl hc) (QZ (ok.lam hf) (λ_ p=>p.1) hd)
end
theorem jc.rem{P:Program}{w:World}{K:PySem.W.Frag}{mg:Str->Option Value}{base:Heap}{A:Around}{outer:List Env}{s:Shared}{H:Hp}{f c:Addr}{of oc:Obj}{fd:FuncData}(e:jc P w K mg base A outer s H)
  (hf:H f=some (.ext (L3.jE of oc c f))) (hc:H c=some (.own f)) (hd:of.data=.func fd):jc P w K mg base A outer s (rem H f c) :=
 ⟨e.frames,e.mod,λb o q=>⟨(e.bs b o q).1,vv (e.bs b o q).2⟩,e.j4,e.gS,λb hb=>vv (e.j5 b hb),e.aK.rem hf hc hd,e.bare⟩
theorem CE.add{P:Program}{w:World}{K:PySem.W.Frag}{mg:Str->Option Value}{base:Heap}{A:Around}{outer:List Env}{s s':Shared}{H:Hp}{f c:Addr}{of oc:Obj}{Q Q':VK}{u:Value}(e0:jc P w K mg base A outer s H)
  (hf:H f=some (.ext (L3.jE of oc c f))) (hc:H c=some (.own f)) (h:CE outer P w (rem H f c) s Q u s') (hQ:∀v H',Q v H'->H' f=none->H' c=none->Q' v (nL H H' f c)):CE outer P w H s Q' u s':=by
 obtain⟨v,H',os,bare,un,aK,r,q⟩:=h
 obtain⟨gf,gc⟩:=e0.aK.lam hf
 have Q0:∀{b o},H b=some o->b ∉ eD outer:=λ{b o} e z=>by rw[e0.j5 b z]at e;cases e
 have nf:H' f=none:=un.free f _ gf QW (by simp)
 have nc:H' c=none:=un.free c _ gc BG (by simp)
 have kf:=un.keep f _ gf QW (Q0 hf) (by simp)
 have kc:=un.keep c _ gc BG (Q0 hc) (by simp)
 refine⟨v,nL H H' f c,os,bare,⟨λb o e n=>un.keep b o e (vv n),λb o e n=>un.slot b o e (vv n),λb o e n x=>?_,un.there,λb xs e=>?_,λb ob xs e=>?_,λb ps e=>?_⟩,λb o e=>?_,r,hQ v H' q nf nc⟩
 ·rw[oY (λz=>by subst z;rw[hf]at n;cases n) (λz=>by subst z;rw[hc]at n;cases n)]
  exact un.free b o e (vv n) x
 ·have n1:b≠f:=λz=>by subst z;rw[hf]at e;cases e
  have n2:b≠c:=λz=>by subst z;rw[hc]at e;cases e
  rw[oY n1 n2]
  exact un.jZ b xs (by rw[iA n1 n2];exact e)
 ·have n1:b≠f:=λz=>by subst z;rw[hf]at e;cases e
  have n2:b≠c:=λz=>by subst z;rw[hc]at e;cases e
  rw[oY n1 n2]
  exact un.jA b ob xs (by rw[iA n1 n2];exact e)
 ·have n1:b≠f:=λz=>by subst z;rw[hf]at e;cases e
  have n2:b≠c:=λz=>by subst z;rw[hc]at e;cases e
  rw[oY n1 n2]
  exact un.iG b ps (by rw[iA n1 n2];exact e)
 ·by_cases z:b=f
  ·subst z
   rw[QY,hf]at e;cases e
   refine⟨⟨kf,kc⟩,⟨_,kf⟩,λh1 h2 p kk=>⟨kk b _ (.inl rfl) p.1,kk c _ (.inr ?_) p.2⟩⟩
   rw[Gq];exact hc
  ·by_cases z2:b=c
   ·subst z2
    rw[Gq,hc]at e;cases e
    exact⟨_,kc⟩
   ·rw[oY z z2]at e
    have up:∀{b' o'},H' b'=some o'->nL H H' f c b'=some o':=λ{b' o'} q=>by
     rw[oY (λz=>by subst z;rw[nf]at q;cases q) (λz=>by subst z;rw[nc]at q;cases q)];exact q
    exact(aK b o e).kC (λ_ _ _ q=>q) (λ_ q=>up q) (λ_ _ q=>up q) λ_ _ q=>up q
theorem cb3{prog:Program}{w:World}{A:Around}{R:Result->Shared->Prop}{s:Shared}{a:Addr}{args:Args}{o:Obj}{fd:FuncData}{body:Expr}{q:Str}(c36:A.depth<recursionLimit)
  (ho:s.heap.get? a=some o)
  (wZ:o.data=.func fd) (hco:fd.scope.isCoroutine=false) (c38:fd.scope.isGenerator=false) (gX:fd.body=.expr body) (cF:s.heap.CodeRec fd.code q)
  (h:wpAny (model prog w) A.in1 (bindArgs fd args) (λbinds bC =>
   wpAny (model prog w) A.in1 (newFunctionEnv fd.scope fd.globals fd.closure binds (q++".<locals>.") (some a) fd.code none fd.builtins)
    (λenv kE=>kE.heap.NoLimit/\codeAny (model prog w) A (.expr body env) R kE) (λe s'=>R (.error e) s') bC) (λe s'=>R (.error e) s') s) :
  codeAny (model prog w) A (.call (.ref a) args) R s:=by
 refine codeAny_of_tree ?_
 show wpAny _ A.in1 (callAny (.ref a) args) _ _ s
 simp only[callAny]
 refine wpAny_bind (wpAny_load ho ?_)
 obtain⟨c,oc,vs,tq,hc,i7,Gu,hq⟩:=cF
 simp only[wZ,callFunction,hco,c38,gX,hc]
 rw[hc]at h
 refine wpAny_bind (m:=field (.ref c) 1) (wpAny_field i7 Gu hq (wpAny_bind (wpAny_pure ?_)))
 exact wpAny_bind (wpAny_mono h (λbinds bC BH=>wpAny_bind (wpAny_mono BH (λenv kE Q1=>wpAny_bind (wpAny_enterFrame Q1.1 c36
  (wpAny_pure (And.intro rfl Q1.2)))) λ_ _ h'=>h')) λ_ _ h'=>h')
structure Q2(p1 p2 x:Str)(sc:Scope):Prop where
 kind:sc.kind=.function
 co:sc.isCoroutine=false
 gen:sc.isGenerator=false
 nd:[p1,p2,x].Nodup
 l1:sc.names.lookup p1=some .local
 l2:sc.names.lookup p2=some .local
 Q3:∀y∈sc.names,y.2≠.cell
 only:∀y∈sc.names,y.2=.free->y.1=x
 lx:sc.names.lookup x=some .free
def rM(CX:eQ)(P:Program)(w:World)(K:PySem.W.Frag)(mg:Str->Option Value)(base:Heap)(N:List Str)(qual:Str)(scope:Scope)(f:Addr)(cd:Value)(cl:List (Str × Addr))(A:Around)(outer:List Env)(s:Shared)(H:Hp)(E:XK):Cx where
 prog:=P
 w:=w
 K:=K
 mg:=mg
 base:=base
 A:=A.deeper (PySem.W.envX qual scope s.heap.objs.size f cd cl)
 N:=N
 cM:=s
 j3:=H
 env:=PySem.W.envX qual scope s.heap.objs.size f cd cl
 outer:=outer
 stack:=PySem.W.envX qual scope s.heap.objs.size f cd cl::outer
 ex:=[]
 calm:=true
 fn:=λ_=>false
 pn:=[]
 xe:=λe s'=>wpAny (model P w) (A.deeper (PySem.W.envX qual scope s.heap.objs.size f cd cl)) (leaving (PySem.W.envX qual scope s.heap.objs.size f cd cl) e) (λ_ qy=>CX outer H s E e qy) (λe' qy=>CX outer H s E e' qy) s'
theorem cr8{CX:eQ}{P:Program}{w:World}{K:PySem.W.Frag}{mg:Str->Option Value}{base:Heap}{p1 p2 x qn q:Str}{params:Arguments}{body:Expr}{scope:Scope}{pm jq:Value}{f c c':Addr}{k:Nat}{A:Around}{outer:List Env}{s:Shared}{H:Hp}{E:XK}
  {u1 u2 uc:Value} {v1 v2 vc:V} {Q:VK} {t:TE} {args:Args} (S:Q2 p1 p2 x scope) (e0:jc P w K mg base A outer s H) (hr:bY (k+1) A)
  (hf:s.heap.get? f=some (PySem.W.kla_obj "<lambda>" qn params body scope [(x,c)] pm c' jq)) (hc:s.heap.IsCell c (some uc)) (rc:RelV vc uc) (hH:H c=none) (cF:s.heap.CodeRec (.ref c') q)
  (hb:bindArgs (PySem.W.kla_fn "<lambda>" qn params body scope [(x,c)] pm (.ref c') jq) args=pure [(p1,u1),(p2,u2)]) (r1:RelV v1 u1) (r2:RelV v2 u2)
  (ht:PE (rM CX P w K mg base [p1,p2,x] q scope f (.ref c') [(x,c)] A outer s H E) body t) (h:t [some v1,some v2,some vc] H Q) :
  codeAny (model P w) A (.call (.ref f) args) (CR CX outer P w H s Q E) s:=by
 have lim:s.heap.NoLimit:=e0.mod.nolimit.keeps λb o e=>(e0.bs b o e).1
 refine cb3 hr.depth hf rfl S.co S.gen rfl cF ?_
 rw[hb]
 have c40:∀y∈[(p1,u1),(p2,u2)],scope.names.lookup y.1=some .local:=λy hy=>by
  simp at hy
  rcases hy with rfl | rfl
  ·exact S.l1
  ·exact S.l2
 refine wpAny_pure (wpAny_newFunctionEnv S.Q3 c40 (λBH BD Q4=>⟨lim.fresh _ Q4,?_⟩) S.kind)
 show codeAny _ _ (.expr body (PySem.W.envX q scope s.heap.objs.size f (.ref c') [(x,c)])) _ _
 have hk:∀b o,s.heap.get? b=some o->BH.get? b=some o:=λb o e=>Q4.extBut b o (fg (bP e)) (fF _ e)
 have cz:p1≠p2/\p1≠x/\p2≠x:=by have:=S.nd;simp at this;exact⟨this.1.1,this.1.2,this.2⟩
 have look:∀y d,([(x,c)]:List (Str × Addr)).lookup y=some d->y=x/\d=c:=λy d e=>by
  rw[fU]at e
  split at e
  ·rename_i z;exact⟨beq_iff_eq.mp z,(cS e).symm⟩
  ·cases e
 have I:Inv (rM CX P w K mg base [p1,p2,x] q scope f (.ref c') [(x,c)] A outer s H E) [] [some v1,some v2,some vc] H { s with heap:=BH,toks:=s.toks+[(p1,u1),(p2,u2)].length }:=by
  refine⟨⟨e0.mod,S.kind,rfl,rfl,bG _,λy z d h1 h2=>?_,λy hy=>?_,λy d z _=>absurd z (by simp[rM]),λ_=>hr.hd,Around.frames_deeper e0.frames,.inr ⟨rfl,rfl⟩,λb z=>absurd z (by simp[rM]),e0.bs,e0.j4,λb _ _=>by simp[rM],λb z=>absurd z (by simp[rM]),e0.gS,e0.j5⟩,
   rfl,e0.bare,Un.kept hk,⟨_,BD,λi y v h1 h2 h3=>?_⟩,λy d h=>?_,e0.aK.fresh (bG _),λy d h=>?_,λp hp=>absurd (show p∈([]:List (Addr × Obj)) from hp) (by simp),e0.aK.kept hk,rfl⟩
  ·exact(look y d h1).1.trans (look z d h2).1.symm
  ·have hy:scope.names.lookup y=some .cell\/scope.names.lookup y=some .free:=hy
   rcases hy with hy | hy
   ·exact absurd rfl (S.Q3 _ (PySem.mem_of_lookup hy))
   ·obtain rfl:y=x:=S.only _ (PySem.mem_of_lookup hy) rfl
    exact⟨c,by show([(y,c)]:List (Str × Addr)).lookup y=_;rw[fU,beq_self_eq_true]⟩
  ·match i,h1,h2 with
   | 0,h1,h2 =>
    cases h1;cases h2
    exact⟨u1,r1,.inl ⟨S.l1,by
     show([(p1,u1),(p2,u2)]:List (Str × Value)).reverse.lookup p1=_
     simp[fU,beq_eq_false_iff_ne.mpr cz.1]⟩⟩
   | 1,h1,h2 =>
    cases h1;cases h2
    exact⟨u2,r2,.inl ⟨S.l2,by
     show([(p1,u1),(p2,u2)]:List (Str × Value)).reverse.lookup p2=_
     simp[fU]⟩⟩
   | 2,h1,h2 =>
    cases h1;cases h2
    exact⟨uc,rc,.inr ⟨.inr S.lx,c,by show([(x,c)]:List (Str × Addr)).lookup x=_;rw[fU,beq_self_eq_true],hc.keeps hk⟩⟩
   | n+3,h1,h2=>cases h2
  ·obtain⟨rfl,rfl⟩:=look y d h
   exact⟨_,hc.keeps hk⟩
  ·obtain⟨rfl,rfl⟩:=look y d h
   exact hH
 refine PySem.W.kla_codeExpr (wpAny_mono (ht [] _ _ H _ I h) (λu s' hs=>?_) λe s' hs=>hs)
 obtain⟨v,H',J,rv,q⟩:=hs
 exact⟨v,H',J.os,J.bare,J.base,J.aK,rv,q⟩
end L2
namespace L3
open PySem L2 PySem.Spec PyProof.Rows
theorem af.nL{H H':Hp}{f c:Addr}{o1 o2:HO}(h:af (rem H f c) H')(h1:H f=some o1)(n1:ji o1=true)(h2:H c=some o2)(n2:ji o2=true):af H (nL H H' f c) where
 get b o e n:=by
  by_cases z:b=f
  ·rw[z,QY,<- z];exact e
  ·by_cases z2:b=c
   ·rw[z2,Gq,<- z2];exact e
   ·rw[oY z z2];exact h.get b o (by rw[iA z z2];exact e) n
 tb b ps e:=by
  have z:b≠f:=λz=>by subst z;rw[h1]at e;cases e;cases n1
  have z2:b≠c:=λz=>by subst z;rw[h2]at e;cases e;cases n2
  rw[oY z z2]
  exact h.tb b ps (by rw[iA z z2];exact e)
abbrev vw:=Int->Int->(Int->Prop)->Prop
structure yF(P:Program)(w:World)(K:PySem.W.Frag)(mg:Str->Option Value)(base:Heap)(n:Nat)(of oc:Obj)(c k:Addr)(sp:vw):Prop where
 fn:∃o1 od fd sl,of=⟨o1,od,.func fd,sl⟩
 run:∀(A:Around) (outer:List Env) (s:Shared) (H:Hp) (f:Addr) (t u:Tok) (i j:Int) (Qd:Int->Prop),bY n A->jc P w K mg base A outer s H->s.heap.get? f=some of->s.heap.get? c=some oc->H c=none->(∃q,s.heap.CodeRec (.ref k) q)->sp i j Qd ->
  codeAny (model P w) A (.call (.ref f) ⟨[.int i t,.int j u],[]⟩) (CR aQ outer P w H s (λv H'=>∃r,v=.int r/\Qd r/\af H H') (λ_ _ _=>False)) s
def vx(L:Obj->Obj->Addr->Addr->vw->Prop)(i:Nat)(ta:cH):aN:=λδ Q=>∃of oc c k sp,δ[i]?=some (some (.bE (.lam of oc c k)))/\L of oc c k sp/\ta δ λds ah=>∃a b,ds=[.int a,.int b]/\sp a b λr=>Q (.int r) ah
theorem Q5{X:Cx}{n i:Nat}{x:Str}{p pos:Pos}{e1 e2:Expr}{ta:cH}(hN:X.N[i]?=some x)(hv:lQ X.env.scope x)(hr:bY n X.A)(ha:PA X [e1,e2] (lA ta))
  (hd:(x==("__debug__":Str))=false:=by decide) (cF:(x==("__classdict__":Str))=false:=by decide) (he:starEach [e1,e2] X.env=(false,eval e1 X.env)::starEach [e2] X.env:=by rfl) (bN:(backTo pos (starEach [e2] X.env)).any (·.1)=false:=by rfl) :
  PE X (.Call (.Name x p) [e1,e2] [] pos) (lE (vx (yF X.prog X.w X.K X.mg X.base n) i ta)):=by
 intro pins s σ H Q I zz
 obtain⟨B,F,δ,ts,Qd,c,⟨of,oc,cc,k,sp,ed,L,q⟩,kk⟩:=zz
 obtain⟨v,ev,sv⟩:=c.look ed
 obtain⟨f,rfl,lam⟩:∃f,v=.ref f/\ka H f of oc cc k:=by
  cases sv with
  | bE h _=>exact⟨_,rfl,h⟩
 refine wpAny_Call_Name_kw (aR (qi hN hv hd cF pins s σ H (λv' H'=>v'=.ref f/\H'=H) I ⟨_,ev,rfl,rfl⟩) λu s1 zz=>?_)
 obtain⟨v',H',I1,r1,e1,e2⟩:=zz
 subst e1 e2
 obtain rfl:u=.ref f:=r1
 have fnAt:∀{H1:Hp} {s2:Shared},Inv X pins σ H1 s2->ka H1 f of oc cc k->PySem.W.FnAt f s2.heap:=λ{H1 s2} J l=>by
  obtain⟨o1,od,fd,sl,e⟩:=L.fn
  exact⟨o1,od,fd,sl,by rw[<-e];exact(J.aK.lam l.fn).1⟩
 refine PySem.W.callWith_F (fnAt I1 lam) (aR (ha pos pins s1 σ H' (λvs H2=>∃a b ah F',vs=[.int a,.int b]/\(sp a b λr=>Qd (.int r) ah)/\af F F'/\af H' H2/\aq B F' H2 σ ah ts) I1
  ⟨B,F,δ,ts,_,c,q,λds ah vs F' H2 ⟨a,b,eds,q2⟩ f1 h1 c1 s1=>?_⟩) λus s2 ⟨vs,H2,I2,r2,a,b,ah,F',evs,q2,f1,h1,c1⟩=>⟨fnAt I2 ((show qG H' f (.lam of oc cc k) from lam).mono λa o e _ t=>h1.get a o e t),?_⟩) he bN
 ·subst eds
  refine⟨a,b,ah,F',?_,q2,f1,h1,c1⟩
  cases s1 with
  | int s1=>cases s1 with
   | int s1=>cases s1;rfl
 ·subst evs
  have oZ:ka H2 f of oc cc k:=(show qG H' f (.lam of oc cc k) from lam).mono λa o e _ t=>h1.get a o e t
  obtain⟨o1,od,fd,sl,eof⟩:=L.fn
  have c43:of.data=.func fd:=by rw[eof]
  obtain⟨gf,gc⟩:=I2.aK.lam oZ.fn
  obtain⟨ψ,eψ,yG⟩:=oZ.Fl
  obtain⟨u1,u2,t1,t2,rfl⟩:∃(u1 u2:Unit) (t1 t2:Tok),us=[.int a t1,.int b t2]:=by
   cases r2 with
   | cons ra r2=>cases r2 with
    | cons rb r2 =>
     cases r2
     obtain⟨t1,rfl⟩:=ra
     obtain⟨t2,rfl⟩:=rb
     exact⟨(),(),t1,t2,rfl⟩
  refine wpAny_call (codeAny_mono (L.run X.A X.stack s2 (rem H2 f cc) f t1 t2 a b _ hr (I2.xo.rem oZ.fn oZ.cell c43) gf gc BG (yG _ (I2.aK k _ eψ).1) q2) λr s' hq=>?_)
  cases r with
  | error e=>exact hq.elim
  | ok fl =>
   cases fl with
   | ret u =>
    refine I2.after (CE.add I2.xo oZ.fn oZ.cell hq (Q':=Q) ?_)
    rintro v H3 ⟨r,rfl,hqd,hs⟩ nf nc
    have sm:=hs.nL oZ.fn rfl oZ.cell rfl
    exact kk _ ah _ F' _ hqd f1 (h1.trans sm) ((c1.grow sm).pushS (.int .nil) rfl)
   | next=>exact fQ hq
   | brk=>exact fQ hq
   | cont=>exact fQ hq
end L3
namespace L2
open PySem PySem.Spec PyProof.Rows
theorem bI4{p:Pos}{c:Value}(l:List Value)(h:TriplesOk l):TriplesOk (l++[rawInt p.line,rawInt p.col,c]):=by
 fun_induction TriplesOk l with
 | case1=>simp[TriplesOk,rawInt]
 | case2 a b d e f rest ih=>exact ih h
 | case3=>exact h.elim
theorem bU6{p q:Pos}{c cv:Value}(l:List Value)(h:TriplesOk l)(e:codeAmong q (l++[rawInt p.line,rawInt p.col,c])=some cv):codeAmong q l=some cv\/cv=c:=by
 fun_induction TriplesOk l with
 | case1 =>
  simp only[tE,rawInt,codeAmong]at e
  split at e
  ·exact .inr (cS e).symm
  ·cases e
 | case2 a b d e' f rest ih =>
  simp only[mW,codeAmong]at e ⊢
  split at e
  ·rename_i z;rw[if_pos z];exact .inl e
  ·rename_i z;rw[if_neg z];exact ih h e
 | case3=>exact h.elim
def nM(f:Addr)(o:Obj):Heap->Prop:=λh=>h.get? f=some o
def cO1(P c:Addr)(x:Str)(params:Arguments)(body:Expr)(scope:Scope):TE:=λ_ H Q=>(∃ps,H P=some (.dA ps)) /\
 ∀f k qn pm jq H',H f=none->H' f=some (.ext (nM f (PySem.W.kla_obj "<lambda>" qn params body scope [(x,c)] pm k jq)))->L3.Fj H' k->k≠f->L3.af H H'->(∀a ws,H' a=some (.lst ws)->H a=some (.lst ws))->Q (.ref f) H'
theorem Q6{X:Cx}{P c cc:Addr}{x:Str}{params:Arguments}{body:Expr}{scope:Scope}{pos:Pos}(gC:closureFor scope X.env=pure [(x,c)])(BI:X.env.code=.ref cc)(hK:PySem.W.codeHdIn X.K cc P=true)(yE:Bm X.mg X.base)
  (c50:defaultsOf params X.env=([],[]):=by rfl):PE X (.Lambda params body scope pos) (cO1 P c x params body scope):=by
 intro pins s σ H Q I zz
 obtain⟨⟨ps,hP⟩,q⟩:=zz
 obtain⟨bm,ob,b1,b2,b3,b4,b5,b6,b7⟩:=yE
 have C:=PySem.W.codeHd_of_K I.da hK
 obtain⟨oP,BJ,codes⟩:=I.aK P _ hP
 have hg:=I.mod.glob.keeps I.bk
 have Q7:∀{b o},X.base.get? b=some o->b≠P:=λ{b o} e z=>by
  have:=(I.bs b o e).2
  rw[z,hP]at this;cases this
 have hgP:mainGlobals≠P:=by
  obtain⟨o,es,ep,e,_⟩:=I.mod.glob
  exact Q7 e
 have Q8:s.heap.BuiltinsAt X.mg P:=⟨bm,ob,b1,b2,b3,Q7 b4,I.bk _ _ b4,b5,b6,b7⟩
 refine PySem.W.kla_eval c50 ?_
 have fresh:∀{b:Addr},s.heap.objs.size<=b->H b=none:=λ{b} h=>I.aK.fresh h
 cases Gv:codeAmong pos ps.toList with
 | none =>
  refine PySem.W.kla_makeFunction (mg:=X.mg) gC I.ok.glob hg BI C oP BJ Gv hgP Q8 λk jq h' tk hx yH fI c52 Q9=>?_
  have Gw:P<s.heap.objs.size:=bP oP
  have hPk:k≠P:=λz=>by rw[z]at yH;exact absurd Gw (wK.mpr yH)
  have rN:s.heap.objs.size<=h'.objs.size:=fk yH (z7 fI)
  have hPf:h'.objs.size≠P:=λz=>by rw[<-z]at Gw;exact absurd Gw (wK.mpr rN)
  have Ra:k≠h'.objs.size:=fg fI
  generalize Rb:PySem.W.kla_obj "<lambda>" (X.env.qual++"<lambda>") params body scope [(x,c)] ((X.mg "__name__").getD .none) k jq=obj
  have eG:obj.isFreed=false:=by rw[<-Rb];rfl
  have yI:∀b,b≠P->b≠k->b≠h'.objs.size->upd (upd (upd H P (.dA (ps++#[rawInt pos.line,rawInt pos.col,.ref k]))) k (.ext λh=>∃q,h.CodeRec (.ref k) q)) h'.objs.size (.ext (nM h'.objs.size obj)) b=H b:=λb n1 n2 n3=>by
   rw[aZ n3,aZ n2,aZ n1]
  have BK:upd (upd (upd H P (.dA (ps++#[rawInt pos.line,rawInt pos.col,.ref k]))) k (.ext λh=>∃q,h.CodeRec (.ref k) q)) h'.objs.size (.ext (nM h'.objs.size obj)) h'.objs.size=some (.ext (nM h'.objs.size obj)):=bJ
  have atK:upd (upd (upd H P (.dA (ps++#[rawInt pos.line,rawInt pos.col,.ref k]))) k (.ext λh=>∃q,h.CodeRec (.ref k) q)) h'.objs.size (.ext (nM h'.objs.size obj)) k=some (.ext λh=>∃q,h.CodeRec (.ref k) q):=by rw[aZ Ra,bJ]
  have BL:upd (upd (upd H P (.dA (ps++#[rawInt pos.line,rawInt pos.col,.ref k]))) k (.ext λh=>∃q,h.CodeRec (.ref k) q)) h'.objs.size (.ext (nM h'.objs.size obj)) P=some (.dA (ps++#[rawInt pos.line,rawInt pos.col,.ref k])):=by rw[aZ hPf.symm,aZ hPk.symm,bJ]
  generalize hHn:upd (upd (upd H P (.dA (ps++#[rawInt pos.line,rawInt pos.col,.ref k]))) k (.ext λh=>∃q,h.CodeRec (.ref k) q)) h'.objs.size (.ext (nM h'.objs.size obj))=Hn at yI BK atK BL
  have old:∀{b o},H b=some o->b≠P->Hn b=some o:=λ{b o} e n=>by
   have hb:b<s.heap.objs.size:=I.aK.lt e
   rw[yI b n (λz=>absurd hb (wK.mpr (z ▸ yH))) (λz=>absurd hb (wK.mpr (z ▸ rN)))];exact e
  have kept:∀b o,b≠P->s.heap.get? b=some o->(h'.push obj).get? b=some o:=λb o n e=>fF _ (hx b o n e)
  have un:Un X.fs [] H Hn s.heap (h'.push obj):=by
   refine⟨λb o e n _ _=>kept b o (λz=>by rw[z,hP]at n;cases n) e,λb o e n _ _=>⟨o.slots,kept b o (λz=>by rw[z,hP]at n;cases n) e⟩,λb o e n _=>?_,λb o e _=>?_,λb xs e=>old e (λz=>by rw[z,hP]at e;cases e),λb ob xs e=>old e (λz=>by rw[z,hP]at e;cases e),λb Rc e=>?_⟩
   ·have hb:=bP e
    rw[yI b (λz=>by rw[z,hP]at n;cases n) (λz=>absurd hb (wK.mpr (z ▸ yH))) (λz=>absurd hb (wK.mpr (z ▸ rN)))];exact n
   ·by_cases z:b=P
    ·rw[z];exact⟨_,fF _ Q9⟩
    ·exact⟨o,kept b o z e⟩
   ·by_cases z:b=P
    ·subst z
     rw[hP]at e;cases e
     exact⟨_,BL⟩
    ·exact⟨#[],by rw[old e z];simp⟩
  have aK:cL X.prog X.w Hn (h'.push obj):=λb o e=>by
   by_cases z1:b=h'.objs.size
   ·subst z1
    rw[BK]at e;cases e
    exact⟨gG _ eG,⟨_,gG _ eG⟩,λh1 h2 p kk=>kk _ _ (.inl rfl) p⟩
   ·by_cases z2:b=k
    ·subst z2
     rw[atK]at e;cases e
     have hr:=c52.push obj
     refine⟨⟨_,hr⟩,?_,λh1 h2 ⟨q,c1,o1,vs,t,e1,e2,r⟩ kk=>?_⟩
     ·obtain⟨c1,o1,vs,t,e1,e2,_⟩:=hr
      cases e1
      exact⟨o1,e2⟩
     ·cases e1
      exact⟨q,_,o1,vs,t,rfl,kk _ _ (.inl rfl) e2,r⟩
    ·by_cases z3:b=P
     ·subst z3
      rw[BL]at e;cases e
      refine⟨fF _ Q9,by rw[Xd];exact bI4 _ BJ,λp' cv e'=>?_⟩
      rw[Xd]at e'
      rcases bU6 _ BJ e' with e' | e'
      ·obtain⟨d,φ,e1,e2,e3⟩:=codes p' cv e'
       exact⟨d,φ,e1,old e2 (λz=>by rw[z,hP]at e2;cases e2),e3⟩
      ·exact⟨k,_,e',atK,λh' p=>p⟩
     ·rw[yI b z3 z2 z1]at e
      have nP:∀{b' o'},H b'=some o'->(∀ps,o'≠.dA ps)->b'≠P:=λ{b' o'} e n z=>by rw[z,hP]at e;cases e;exact n _ rfl
      refine(I.aK b o e).kC (λb' u yJ e'=>kept b' u ?_ e') (λb' e'=>old e' (nP e' (λps z=>by cases z))) (λb' xs e'=>old e' (nP e' (λps z=>by cases z))) λb' φ e'=>old e' (nP e' (λps z=>by cases z))
      rcases yJ with rfl | yJ
      ·exact z3
      ·exact nP yJ (λps z=>by cases z)
  refine⟨.ref h'.objs.size,Hn,I.un un aK,rfl,q _ k _ _ _ _ (fresh rN) (by rw[Rb];exact BK) ⟨_,atK,λh p=>p⟩ Ra ⟨λb o e n=>old e (λz=>by rw[z,hP]at e;cases e;cases n),λb Rc e=>?_⟩ λa ws e=>?_⟩
  ·exact un.iG b Rc e
  ·by_cases z1:a=h'.objs.size
   ·subst z1;rw[BK]at e;cases e
   ·by_cases z2:a=k
    ·subst z2;rw[atK]at e;cases e
    ·by_cases z3:a=P
     ·subst z3;rw[BL]at e;cases e
     ·rw[yI a z3 z2 z1]at e;exact e
 | some cv =>
  obtain⟨k,φ,rfl,hk,Gr⟩:=codes pos cv Gv
  refine PySem.W.kla_makeFunctionHit (mg:=X.mg) gC I.ok.glob hg BI C oP BJ Gv Q8 λjq h' tk hx rN=>?_
  have hf:=fresh rN
  refine⟨.ref h'.objs.size,upd H h'.objs.size (.ext (nM h'.objs.size (PySem.W.kla_obj "<lambda>" (X.env.qual++"<lambda>") params body scope [(x,c)] ((X.mg "__name__").getD .none) k jq))),I.laid (λb u e=>fF _ (hx b u e)) rN ?_,rfl,q _ k (X.env.qual++"<lambda>") ((X.mg "__name__").getD .none) jq _ hf bJ ⟨φ,?_,Gr⟩ (eO hk hf) (L3.af.of λb o e=>?_) λa ws e=>?_⟩
  ·exact⟨gG _ rfl,⟨_,gG _ rfl⟩,λh1 h2 p kk=>kk _ _ (.inl rfl) p⟩
  ·rw[aZ (eO hk hf)];exact hk
  ·rw[aZ (eO e hf)];exact e
  ·by_cases z:a=h'.objs.size
   ·subst z;rw[bJ]at e;cases e
   ·rw[aZ z]at e;exact e
end L2
namespace L2
open PySem PySem.Spec PyProof.Rows
structure vy(K:PySem.W.Frag)(C:Addr)(m:Str)(f:Addr):Prop where
 ga:PySem.W.specialIn K (.ref C) "__getattribute__"=some (some (.builtin "type.__getattribute__"))
 rd:PySem.W.readsIn K C (.type "type")=true
 at_:PySem.W.findCls K (.ref C) (.type "type") m=some (.val (.ref f))
 kp:PySem.W.keepIn K (.ref f)=true
section
variable{X:Cx}{CX:eQ}{k:Nat}{f C:Addr}{fd:FuncData}{ps:List Str}{sp:Sp}{E:XK}{x m:Str}{p pos apos:Pos}{e o:Expr}{es:List Expr}{ta:TE}{t:TA}
theorem cd5{pins:List (Addr × Obj)}{σ:St}{H:Hp}{s:Shared}{pl:Sem Bool}{A:Around}{E':Value->Shared->Prop}{Q:Value × List Value->Shared->Prop}(I:Inv X pins σ H s)(M:vy X.K C m f)(h:∀s',Inv X pins σ H s'->Q (.ref f,[]) s') :
  wpAny (model X.prog X.w) A (getMethod (.ref C) m pl) Q E' s :=
 PySem.W.method_cls I.da M.ga (PySem.W.cls_value (mc:=.type "type") I.da M.rd M.at_ rfl (h _ (I.tok _)))
theorem Rh{pins:List (Addr × Obj)}{σ:St}{H:Hp}{s:Shared}{pl:Sem Bool}{Q:Value->Shared->Prop}{QA:List V->Hp->Prop}(I:Inv X pins σ H s)(M:vy X.K C m f)(hg:Gl X x)(hm:X.mg x=some (.ref C))(ha:PA X (e::es) t)(h:t σ H QA)
  (hq:∀us s1 vs H1,Inv X pins σ H1 s1->Vals vs us->QA vs H1->wpAny (model X.prog X.w) X.A (call (.ref f) us) Q X.xe s1)
  (dZ:(x==("__debug__":Str))=false:=by decide) (de:starEach (e::es) X.env=(false,eval e X.env)::starEach es X.env:=by rfl) (bN:(backTo pos (starEach es X.env)).any (·.1)=false:=by rfl)
  (ht:eval (.Call (.Attribute (.Name x p) m apos) (e::es) [] pos) X.env=(do
   let ov<-eval (.Name x p) X.env
   standAt apos.atName
   let (f,first)<-holding [ov] (getMethod ov m pl)
   callWith pos f first (backTo pos (starEach (e::es) X.env)) (backToKw pos (keywordEach [] X.env))):=by rfl) :
  wpAny (model X.prog X.w) X.A (eval (.Call (.Attribute (.Name x p) m apos) (e::es) [] pos) X.env) Q X.xe s:=by
 refine PySem.W.methodCall_KW (pl:=pl) (xb I hg hm ?_ dZ) ht
 refine cd5 I M λs1 I1=>?_
 refine PySem.W.callWith_K (first:=[]) (h₀:=X.base) I.ok.mod.mZ M.kp (aR (ha pos pins s1 σ H _ I1 h) λus s2 ⟨vs,H2,I2,r,q2⟩=>⟨I2.da,?_⟩) de bN
 exact hq us s2 vs H2 I2 r q2
def cK2(sp:Sp)(E:XK)(c:Addr)(i:Nat)(t:TA):TE:=λσ H Q=>t σ H λvs H1=>∃f of fd v,H1 f=some (.ext (nM f of))/\of.data=.func fd/\σ[i]?=some (some v) /\
 ∀oc u,oc.data=.cell (some u)->RelV v u->H1 c=none->c≠f->sp vs (upd (upd H1 f (.ext (L3.jE of oc c f))) c (.own f)) (λr H2=>H2 f=some (.ext (L3.jE of oc c f))/\H2 c=some (.own f)/\Q r (rem H2 f c)) E
theorem Ri{pl:Sem Bool}{y:Str}{c:Addr}{i:Nat}(M:vy X.K C m f)(F:aM X.prog X.w X.K X.mg X.base aQ k f fd ps sp)(hr:bY k X.A)(hb:Binds X.K fd ps [])(hg:Gl X x)(hm:X.mg x=some (.ref C))
  (hN:X.N[i]?=some y) (hy:X.env.scope.names.lookup y=some .cell) (gC:X.env.cells.lookup y=some c) (w5:X.fn y=true) (ha:PA X (e::es) t)
  (dZ:(x==("__debug__":Str))=false:=by decide) (de:starEach (e::es) X.env=(false,eval e X.env)::starEach es X.env:=by rfl) (bN:(backTo pos (starEach es X.env)).any (·.1)=false:=by rfl)
  (ht:eval (.Call (.Attribute (.Name x p) m apos) (e::es) [] pos) X.env=(do
   let ov<-eval (.Name x p) X.env
   standAt apos.atName
   let (f,first)<-holding [ov] (getMethod ov m pl)
   callWith pos f first (backTo pos (starEach (e::es) X.env)) (backToKw pos (keywordEach [] X.env))):=by rfl) :
  PE X (.Call (.Attribute (.Name x p) m apos) (e::es) [] pos) (cK2 sp E c i t):=by
 intro pins s σ H Q I h
 refine Rh (pl:=pl) I M hg hm ha h (λus s1 vs H1 I1 r zq=>?_) dZ de bN ht
 obtain⟨fa,of,fdd,v,hf,hd,hv,hq⟩:=zq
 obtain⟨ml,_,hl⟩:=I1.loc
 obtain⟨u,rv,lk⟩:=hl i y v hN hv (.inr (.inl hy))
 obtain⟨oc,gc,i7⟩:∃oc,s1.heap.get? c=some oc/\oc.data=.cell (some u):=by
  rcases lk with⟨hk,_⟩ | ⟨_,c',w9,ic⟩
  ·rw[show X.env.kindOf y=some .cell from hy]at hk;cases hk
  ·rw[gC]at w9;cases w9;exact ic
 have nc:H1 c=none:=I1.jB y c gC
 have pd:c≠fa:=λz=>by rw[z,hf]at nc;cases nc
 have gf:s1.heap.get? fa=some of:=(I1.aK fa _ hf).1
 have m4:=hq oc u i7 rv nc pd
 have Rj:=I1.ok.qh y c w5 gC
 generalize hH:upd (upd H1 fa (.ext (L3.jE of oc c fa))) c (.own fa)=Hp at m4
 have Rk:Hp c=some (.own fa):=by rw[<-hH,bJ]
 have atf:Hp fa=some (.ext (L3.jE of oc c fa)):=by rw[<-hH,aZ pd.symm,bJ]
 have mC:∀b,b≠fa->b≠c->Hp b=H1 b:=λb n1 n2=>by rw[<-hH,aZ n2,aZ n1]
 have nfs:c ∉ X.fs:=λhb=>by
  obtain⟨_,o,ho,_⟩:=I1.ok.gS.mem hb
  exact absurd (dm (bP ho) Rj) (gF _)
 have nst:∀b∈eD X.stack,b≠c:=λb hb z=>by
  rcases cu.mp (I1.AG b hb)with e | hb
  ·exact I1.ow y c gC (z ▸ e)
  ·exact nfs (z ▸ hb)
 have c60:cL X.prog X.w Hp s1.heap:=λb ob q=>by
  by_cases z1:b=c
  ·subst z1;rw[Rk]at q;cases q;exact⟨_,gc⟩
  ·by_cases z2:b=fa
   ·subst z2;rw[atf]at q;cases q
    exact⟨⟨gf,gc⟩,⟨_,gf⟩,λh1 h2 p kk=>⟨kk _ _ (.inl rfl) p.1,kk _ _ (.inr Rk) p.2⟩⟩
   ·rw[mC b z2 z1]at q
    have x1:=(I1.aK b ob q).rem (f:=fa) (c:=c) z2 hf (.inr nc) (QZ gf (λ_ p=>p) hd)
    have up:∀{b' o'},rem H1 fa c b'=some o'->Hp b'=some o':=λ{b' o'} q=>by
     obtain⟨n1,n2,q'⟩:=QX q
     rw[mC b' n1 n2];exact q'
    exact x1.kC (λ_ _ _ q=>q) (λ_ q=>up q) (λ_ _ q=>up q) λ_ _ q=>up q
 have e0:jc X.prog X.w X.K X.mg X.base X.A X.stack s1 Hp:=by
  have e1:=I1.xo
  refine⟨e1.frames,e1.mod,λb ob q=>⟨(e1.bs b ob q).1,?_⟩,e1.j4,e1.gS,λb hb=>?_,c60,e1.bare⟩
  ·have hb0:=(I1.ok.bs b ob q).1
   rw[mC b (λz=>by have:=(e1.bs b ob q).2;rw[z,hf]at this;cases this) (λz=>absurd (dm (bP hb0) (z ▸ Rj)) (gF _))]
   exact(e1.bs b ob q).2
  ·have nb:=e1.j5 b hb
   rw[mC b (λz=>by rw[z,hf]at nb;cases nb) (nst b hb)];exact nb
 have hlen:us.length=ps.length:=by rw[<-r.length];exact F.len _ _ _ _ m4
 refine wpAny_call (codeAny_mono (F.run X.A X.stack s1 Hp ⟨us,[]⟩ us vs _ E hr e0 (by have:=hb s1 us I1.da (by rw[fm];exact hlen);rwa [fm]at this) r m4) λrr s' hz=>?_)
 cases rr with
 | error e=>exact hz.elim
 | ok fl =>
  cases fl with
  | next=>exact fQ hz
  | brk=>exact fQ hz
  | cont=>exact fQ hz
  | ret u' =>
   obtain⟨v',H2,os,bare,un,Rl,rv',q1,q2,q3⟩:=hz
   obtain⟨_,Rm⟩:=Rl.lam q1
   refine I1.after ⟨v',rem H2 fa c,os,bare,⟨λb ob g n hb hx=>?_,λb ob g n hb hx=>?_,λb ob g n hx=>?_,un.there,λb xs g=>?_,λb ob xs g=>?_,λb ps g=>?_⟩,Rl.rem q1 q2 hd,rv',q3⟩
   ·by_cases z:b=c
    ·rw[z,gc]at g;cases g;rw[z];exact Rm
    ·exact un.keep b ob g (by rw[mC b (λz=>by rw[z,hf]at n;cases n) z];exact n) hb hx
   ·by_cases z:b=c
    ·rw[z,gc]at g;cases g;rw[z];exact⟨_,Rm⟩
    ·exact un.slot b ob g (by rw[mC b (λz=>by rw[z,hf]at n;cases n) z];exact n) hb hx
   ·by_cases z:b=c
    ·rw[z];exact BG
    ·exact vv (un.free b ob g (by rw[mC b (λz=>by rw[z,hf]at n;cases n) z];exact n) hx)
   ·have n1:b≠fa:=λz=>by rw[z,hf]at g;cases g
    have n2:b≠c:=λz=>by rw[z,nc]at g;cases g
    rw[iA n1 n2]
    exact un.jZ b xs (by rw[mC b n1 n2];exact g)
   ·have n1:b≠fa:=λz=>by rw[z,hf]at g;cases g
    have n2:b≠c:=λz=>by rw[z,nc]at g;cases g
    rw[iA n1 n2]
    exact un.jA b ob xs (by rw[mC b n1 n2];exact g)
   ·have n1:b≠fa:=λz=>by rw[z,hf]at g;cases g
    have n2:b≠c:=λz=>by rw[z,nc]at g;cases g
    rw[iA n1 n2]
    exact un.iG b ps (by rw[mC b n1 n2];exact g)
end
end L2
namespace L3
open PySem L2 PySem.Spec PyProof.Rows
theorem yK{ts:List Addr}{H H':Hp}(h:Tb ts H)(s:af H H'):Tb ts H':=λP hP=>by
 obtain⟨ps,e⟩:=h P hP
 obtain⟨m,e2⟩:=s.tb P ps e
 exact⟨_,e2⟩
theorem Rn{P:Program}{w:World}{K:PySem.W.Frag}{mg:Str->Option Value}{base:Heap}{n:Nat}{p1 p2 x qn:Str}{params:Arguments}{body:Expr}{scope:Scope}{pm jq:Value}{oc:Obj}{c k:Addr}{m:Int}{tm:Tok}{sp:vw}(S:Q2 p1 p2 x scope)
  (i7:oc.data=.cell (some (.int m tm))) (hb:∀u1 u2:Value,bindArgs (PySem.W.kla_fn "<lambda>" qn params body scope [(x,c)] pm (.ref k) jq) ⟨[u1,u2],[]⟩=pure [(p1,u1),(p2,u2)])
  (gX:∀(q:Str) (f:Addr) (A:Around) (outer:List Env) (s:Shared) (H:Hp) (E:XK),bY n (A.deeper (PySem.W.envX q scope s.heap.objs.size f (.ref k) [(x,c)])) ->
   ∃t:aN,PE (rM aQ P w K mg base [p1,p2,x] q scope f (.ref k) [(x,c)] A outer s H E).gn body (lE t)/\∀i j Qd,sp i j Qd->t [some (.int i),some (.int j),some (.int m)] λd _=>∃r,d=.int r/\Qd r) :
  yF P w K mg base (n+1) (PySem.W.kla_obj "<lambda>" qn params body scope [(x,c)] pm k jq) oc c k sp where
 fn:=⟨_,_,_,_,rfl⟩
 run A outer s H f t u i j Qd hr e0 gf gc hH cF h:=by
  obtain⟨q,cF⟩:=cF
  obtain⟨tt,ht,hq⟩:=gX q f A outer s H (λ_ _ _=>False) (hr.deeper _)
  refine cr8 (v1:=.int i) (v2:=.int j) (vc:=.int m) (E:=λ_ _ _=>False) S e0 hr gf ⟨oc,gc,i7⟩ ⟨tm,rfl⟩ hH cF (hb _ _) ⟨t,rfl⟩ ⟨u,rfl⟩ ht.gn ?_
  refine⟨⟨H,H⟩,H,_,[],_,?_,hq i j Qd h,λd ah v F' H' hd f1 h1 c1=>?_⟩
  ·exact aq.start (ds:=[.int i,.int j,.int m]) (vs:=[.int i,.int j,.int m]) (af.refl H) (.int (.int (.int .nil))) 0
  ·obtain⟨r,rfl,hd⟩:=hd
   have s1:=c1.top
   cases s1
   exact⟨r,rfl,hd,h1⟩
section
variable{X:Cx}{CX:eQ}{n:Nat}{f:Addr}{fd:FuncData}{ps:List Str}{sp:bh}{E:XK}{x:Str}{p pos:Pos}{e:Expr}{es:List Expr}{t:cH}{tl:List Addr}
theorem Ro(hT:Tb tl X.j3)(F:aM X.prog X.w X.K X.mg X.base CX n f fd ps (vt tl (bj sp)))(hr:bY n X.A)(hg:Gl X x)(hm:X.mg x=some (.ref f))(hk:PySem.W.keepIn X.K (.ref f)=true)(hb:Binds X.K fd ps [])(hx:j8 CX X E)
  (ha:PA X (e::es) (lA t)) (dZ:(x==("__debug__":Str))=false:=by decide) (he:starEach (e::es) X.env=(false,eval e X.env)::starEach es X.env:=by rfl) (bN:(backTo pos (starEach es X.env)).any (·.1)=false:=by rfl) :
  PE X (.Call (.Name x p) (e::es) [] pos) (lE (qO sp t)):=by
 intro pins s σ H Q I zz
 obtain⟨B,F',δ,ts,Qd,c,q,k⟩:=zz
 have tb:=Gp I hT
 refine je F hr hg hm hk hb .nil hx ha dZ he bN pins s σ H Q I ⟨B,F',δ,ts,_,c,q,λds ao vs F1 H1 q1 f1 h1 c1 s1=>?_⟩
 refine⟨yK tb h1,?_⟩
 rw[fm]
 exact xK c1 s1 q1 λd v F' H' hd hf hs c'=>k d ao v F' H' hd (f1.trans hf) (h1.trans hs) c'
end
section
variable{P:Program}{w:World}{K:PySem.W.Frag}{mg:Str->Option Value}{base:Heap}
theorem Gx{x qual:Str}{st:Stmt}{f:Addr}{fd:FuncData}{N ps:List Str}{k:Nat}{sp:bh}{tl:List Addr}(F:ay K x qual st f fd)(S:bc N ps (aJ st))(len:∀ds Q,sp ds Q->ds.length=ps.length)
  (gX:∀(aC:Value) (A:Around) (outer:List Env) (s:Shared) (H:Hp) (E:XK),Tb tl H->bY k (A.deeper (envOfC qual (aJ st) s.heap.objs.size f aC)) ->
   ∃t:cI,PSs (iH aQ P w K mg base N qual (aJ st) f aC A outer s H E).gn (fH st) (lS (iH aQ P w K mg base N qual (aJ st) f aC A outer s H E).gn t)/\∀ds Q,sp ds Q->t { nx:=λ_=>Q .av,rt:=Q } (kK N ds)):aM P w K mg base aQ (k+1) f fd ps (vt tl (bj sp)):=by
 refine F.ok S (λvs H Q E ⟨_,F,ds,Qd,e,r,h,_⟩=>by rw[<-r.length];exact len ds Qd h) λaC A outer s H vs Q E hr zz=>?_
 obtain⟨tb,F,ds,Qd,e,r,h,k⟩:=zz
 obtain⟨t,ht,hq⟩:=gX aC A outer s H E tb hr
 have fin:∀d v ah aI F' H',Qd d->aq ⟨H,F⟩ F' H' aI ah [(d,v)]->Q v H':=λd v ah aI F' H' hd c=>by
  obtain⟨A,C,r',s',nd,fr⟩:=c.own
  exact k d v F' H' A hd c.b1 c.b2 c.ext c.b3 r' (gv.mp nd).1 λa ha=>fr a (eV _ ha)
 have e1:L2.start N vs=vs.map some++bf (N.length-ds.length) none:=by unfold L2.start;rw[r.length]
 refine⟨_,ht,⟨H,F⟩,F,kK N ds,_,?_,hq ds Qd h,λah aI F' H' hd c=>fin .av .av ah aI F' H' hd (c.pushS (.av .nil) rfl),fin,λ_ _ _ _ z=>z.elim,λ_ _ _ _ z=>z.elim,XL.none (λ_ _ z=>z) λ_ _ z=>z⟩
 rw[e1]
 exact aq.start e r _
theorem Rp{x qual:Str}{st:Stmt}{f cc:Addr}{fd:FuncData}{N ps:List Str}{k:Nat}{sp:Sp}(F:ay K x qual st f fd)(BI:fd.code=.ref cc)(S:bc N ps (aJ st))(len:∀vs H Q E,sp vs H Q E->vs.length=ps.length)
  (gX:∀(A:Around) (outer:List Env) (s:Shared) (H:Hp) (vs:List V) (Q:VK) (E:XK),bY k (A.deeper (envOfC qual (aJ st) s.heap.objs.size f (.ref cc)))->sp vs H Q E ->
   ∃t,PSs (iH aQ P w K mg base N qual (aJ st) f (.ref cc) A outer s H E).gn (fH st) t/\t { nx:=λ_ H'=>Q .av H',rt:=Q } (L2.start N vs) H):aM P w K mg base aQ (k+1) f fd ps sp:=by
 obtain⟨oc,od,kV,doc,pm,an,aC,ct,ie,rfl,lk,cF⟩:=F.ex
 obtain rfl:aC=.ref cc:=BI
 refine AX lk cF S len λA outer s H vs Q E hr ig=>?_
 obtain⟨t,h,q⟩:=gX A outer s H vs Q E hr ig
 exact⟨t,h.gn,q⟩
end
end L3
namespace L3
open PySem L2 PySem.Spec PyProof.Rows
theorem bS4{ns:List Str}{xs:List D}{ws:List V}{F H:Hp}{f:Str}{d:D}(r:R F H xs ws [])(h:(ns.zip xs).lookup f=some d):∃w,(ns.zip ws).lookup f=some w/\R F H [d] [w] []:=by
 generalize e:([]:List Addr)=A at r
 induction ns generalizing xs ws A with
 | nil=>simp at h
 | cons n ns ih =>
  cases xs with
  | nil=>simp at h
  | cons x xs =>
   obtain⟨v,bR,A1,A2,rfl,rfl,h1,h2⟩:=R.cO r
   obtain⟨rfl,rfl⟩:=p8.mp e.symm
   rw[Xe]at h ⊢
   by_cases z:f=n
   ·subst z
    rw[fU,beq_self_eq_true]at h
    cases h
    refine⟨v,?_,h1⟩
    rw[fU,beq_self_eq_true]
   ·have z':(f==n)=false:=beq_eq_false_iff_ne.mpr z
    rw[fU,z']at h
    obtain⟨w,e1,e2⟩:=ih h [] rfl h2
    refine⟨w,?_,e2⟩
    rw[fU,z']
    exact e1
theorem Gz{ns:List Str}{ws:List V}{f:Str}(h:f ∉ ns):(ns.zip ws).lookup f=none:=by
 induction ns generalizing ws with
 | nil=>simp
 | cons n ns ih =>
  cases ws with
  | nil=>simp
  | cons w ws =>
   rw[Xe,fU]
   have hn:(f==n)=false:=beq_eq_false_iff_ne.mpr λz=>h (by rw[z];simp)
   simp only[hn]
   exact ih λz=>h (by simp[z])
theorem yL{F H:Hp}{C:Addr}{ns:List Str}{xs:List D}{v:V}(s:S F H [.obj C ns xs] [v]):∃p dx ws,v=.ref p/\H p=some (.ins C dx (ns.zip ws))/\ns.length=ws.length/\R F H xs ws []:=by
 cases s with
 | obj h l r _=>exact⟨_,_,_,rfl,h,l,r⟩
section
variable{X:Cx}{e o:Expr}{es:List Expr}{f m x:Str}{pos p apos:Pos}{t to:aN}{ta:cH}{n:Nat}
def rO(K:PySem.W.Frag)(t:aN)(f:Str):aN:=λδ Q=>t δ λd ah=>∃C ns xs v,d=.obj C ns xs/\cy K C/\bg K C f/\(ns.zip xs).lookup f=some v/\Q v ah
theorem cJ2(he:PE X e (lB t))(hb:attributeBase e f X.env (eval e X.env)=eval e X.env:=by rfl):PE X (.Attribute e f pos) (lB (rO X.K t f)) :=
 du (qw he hb) λσ H Q zq=>by
 obtain⟨B,F,δ,ts,Qd,c,q,k⟩:=zq
 exact⟨B,F,δ,ts,_,c,q,λd ah v F' H' ⟨C,ns,xs,w,ed,hc,hn,hl,hq⟩ f1 h1 c1 s1=>by
  subst ed
  obtain⟨p,dx,ws,rfl,hp,_,r⟩:=yL s1
  obtain⟨u,hu,ru⟩:=bS4 r hl
  exact⟨p,C,dx,_,u,rfl,hp,hc,hn,hu,k w ah u F' H' hq f1 h1 c1 ru.s⟩⟩
structure jN(P:Program)(w:World)(K:PySem.W.Frag)(mg:Str->Option Value)(base:Heap)(n:Nat)(m:Str)(C:Addr)(sp:bh):Prop where
 cls:cy K C
 ex:∃f fd ps,Meth K C m f/\aM P w K mg base aQ n f fd ps (bj sp)/\Binds K fd ps []
def rP(MO:Addr->bh->Prop)(m:Str)(to:aN)(ta:cH):aN:=λδ Q=>to δ λd ao=>∃C ns xs sp,d=.obj C ns xs/\MO C sp/\m ∉ ns/\ta ao λds aS=>sp ((D.obj C ns xs::ds).map D.sh) λr=>((D.obj C ns xs::ds).all D.pl||r.fr)=true/\Q r aS
theorem cy4{pl:Sem Bool}(ho:PE X o (lB to))(hr:bY n X.A)(ha:PA X (e::es) (lA ta))
  (de:starEach (e::es) X.env=(false,eval e X.env)::starEach es X.env:=by rfl) (bN:(backTo pos (starEach es X.env)).any (·.1)=false:=by rfl)
  (ht:eval (.Call (.Attribute o m apos) (e::es) [] pos) X.env=(do
   let ov<-eval o X.env
   standAt apos.atName
   let (f,first)<-holding [ov] (getMethod ov m pl)
   callWith pos f first (backTo pos (starEach (e::es) X.env)) (backToKw pos (keywordEach [] X.env))):=by rfl) :
  PE X (.Call (.Attribute o m apos) (e::es) [] pos) (lE (rP (jN X.prog X.w X.K X.mg X.base n m) m to ta)):=by
 intro pins s σ H Q I zz
 obtain⟨B,F,δ,ts,Qd,c,q,k⟩:=zz
 refine PySem.W.methodCall_KW (pl:=pl) (aR (ho pins s σ H (λx H1=>∃d ao F1,S F1 H1 [d] [x]/\aq B F1 H1 σ ao ts/\af F F1/\af H H1/\∃C ns xs sp,d=.obj C ns xs/\jN X.prog X.w X.K X.mg X.base n m C sp/\m ∉ ns/\ta ao λds aS=>sp ((D.obj C ns xs::ds).map D.sh) λr=>((D.obj C ns xs::ds).all D.pl||r.fr)=true/\Qd r aS) I
  ⟨B,F,δ,ts,_,c,q,λd ao v F1 H1 hq f1 h1 c1 s1=>⟨d,ao,F1,s1,c1,f1,h1,hq⟩⟩) λu s1 zq=>?_) ht
 obtain⟨x,H1,I1,rx,d,ao,F1,sd,c1,f1,h1,C,ns,xs,sp,ed,M,hm,hq⟩:=zq
 subst ed
 obtain⟨a,dx,ws,rfl,ea,hl,r0⟩:=yL sd
 obtain rfl:u=cW a:=rx
 obtain⟨f,fd,ps,pf,FO,hb⟩:=M.ex
 refine AV I1 ea M.cls pf (Gz hm) ?_
 refine PySem.W.callWith_K (first:=[.ref a]) (h₀:=X.base) I.ok.mod.mZ pf.kp (aR (ha pos pins s1 σ H1 (λvs H2=>∃ds aS F2,S F2 H2 ds vs/\aq B F2 H2 σ aS ts/\af F1 F2/\af H1 H2/\sp ((D.obj C ns xs::ds).map D.sh) λr=>((D.obj C ns xs::ds).all D.pl||r.fr)=true/\Qd r aS) I1
  ⟨B,F1,ao,ts,_,c1,hq,λds aS vs F2 H2 hq f2 h2 c2 s2=>⟨ds,aS,F2,s2,c2,f2,h2,hq⟩⟩) λus s2 ⟨vs,H2,I2,r,ds,aS,F2,GA,c2,f2,h2,ig⟩=>⟨I2.da,?_⟩) de bN
 refine tW (us:=.ref a::us) (vs:=.ref a::vs) (fh:=[]) FO hr hb .nil aU I2 (.cons rfl r) ?_
 rw[fm]
 exact xK c2 (.obj (h2 _ _ ea) hl (r0.shared f2 h2) GA) ig λd v F' H' hd hf hs c'=>k d aS v F' H' hd (f1.trans (f2.trans hf)) (h1.trans (h2.trans hs)) c'
def rQ(MO:Addr->bh->Prop)(m:Str)(to:aN):aN:=λδ Q=>to δ λd ao=>∃C ns xs sp,d=.obj C ns xs/\MO C sp/\m ∉ ns/\sp [D.obj C ns xs] λr=>Q r ao
theorem cn0{pl:Sem Bool}(ho:PE X o (lB to))(hr:bY n X.A)
  (ht:eval (.Call (.Attribute o m apos) [] [] pos) X.env=(do
   let ov<-eval o X.env
   standAt apos.atName
   let (f,first)<-holding [ov] (getMethod ov m pl)
   callWith pos f first (backTo pos (starEach [] X.env)) (backToKw pos (keywordEach [] X.env))):=by rfl) :
  PE X (.Call (.Attribute o m apos) [] [] pos) (lE (rQ (jN X.prog X.w X.K X.mg X.base n m) m to)):=by
 intro pins s σ H Q I zz
 obtain⟨B,F,δ,ts,Qd,c,q,k⟩:=zz
 refine PySem.W.methodCall_KW (pl:=pl) (aR (ho pins s σ H (λx H1=>∃d ao F1,S F1 H1 [d] [x]/\aq B F1 H1 σ ao ts/\af F F1/\af H H1/\∃C ns xs sp,d=.obj C ns xs/\jN X.prog X.w X.K X.mg X.base n m C sp/\m ∉ ns/\sp [D.obj C ns xs] λr=>Qd r ao) I
  ⟨B,F,δ,ts,_,c,q,λd ao v F1 H1 hq f1 h1 c1 s1=>⟨d,ao,F1,s1,c1,f1,h1,hq⟩⟩) λu s1 zq=>?_) ht
 obtain⟨x,H1,I1,rx,d,ao,F1,sd,c1,f1,h1,C,ns,xs,sp,ed,M,hm,hq⟩:=zq
 subst ed
 obtain⟨a,dx,ws,rfl,ea,hl,r0⟩:=yL sd
 obtain rfl:u=cW a:=rx
 obtain⟨f,fd,ps,pf,FO,hb⟩:=M.ex
 refine AV I1 ea M.cls pf (Gz hm) ?_
 refine PySem.W.callWith_K0 (first:=[.ref a]) I1.da pf.kp (tW (us:=[.ref a]) (vs:=[.ref a]) (fh:=[]) FO hr hb .nil aU I1 (.cons rfl .nil) ?_)
 show bj sp [.ref a] H1 Q E0
 exact xK (Qd:=λr=>Qd r ao) c1 (.obj ea hl r0 .nil) (by simpa[D.sh,D.pl]using hq) λd v F' H' hd hf hs c'=>k d ao v F' H' hd (f1.trans hf) (h1.trans hs) c'
end
structure bL(x:Addr)(H H':Hp):Prop where
 get:∀b o,b≠x->H b=some o->ji o=true->H' b=some o
 tb:∀b ps,H b=some (.dA ps)->∃more,H' b=some (.dA (ps++more))
theorem bL.trans{x:Addr}{H H1 H2:Hp}(a:bL x H H1)(b:bL x H1 H2):bL x H H2 :=
 ⟨λc o n h t=>b.get c o n (a.get c o n h t) t,λc ps h=>by
  obtain⟨m1,e1⟩:=a.tb c ps h
  obtain⟨m2,e2⟩:=b.tb c _ e1
  exact⟨m1++m2,by rw[e2,sV]⟩⟩
theorem af.x{x:Addr}{H H':Hp}(h:af H H'):bL x H H':=⟨λb o _ e n=>h.get b o e n,h.tb⟩
theorem bL.upd{x C dx:Addr}{H:Hp}{o o':HO}(h:H x=some o)(n:ji o=true):bL x H (upd H x o') :=
 ⟨λb o z e _=>by rw[aZ z];exact e,λb ps e=>⟨#[],by rw[aZ (λz=>by rw[z,h]at e;cases e;cases n),e];simp⟩⟩
def GB(tl:List Addr)(C:Addr)(jO:List D->List Str->List D->Prop):Sp:=λvs H Q _=>∃x dx bR ds ns xs,vs=.ref x::bR/\Tb tl H/\H x=some (.ins C dx [])/\R H H ds bR []/\jO ds ns xs /\
 ∀H' ws A,bL x H H'->H' x=some (.ins C dx (ns.zip ws))->ns.length=ws.length->R (λ_=>none) H' xs ws A->A.Nodup->(∀a∈A,H a=none)->Q .av H'
def vz(C:Addr)(jO:List D->List Str->List D->Prop)(ta:cH):aN:=λδ Q=>ta δ λds ah=>∃ns xs,jO (ds.map D.sh) ns xs/\Q (.obj C ns (xs.map D.sh)) ah
theorem aq.made{B:Bs}{F H H':Hp}{σ:L2.St}{δ:Dl}{ts:List (D × V)}{C dx x:Addr}{ns:List Str}{xs:List D}{ws:List V}{A:List Addr}(c:aq B F H σ δ ts)(hs:af H H')(hx:H' x=some (.ins C dx (ns.zip ws)))(hl:ns.length=ws.length)
  (r:R (λ_=>none) H' xs ws A) (fr:∀a∈A,H a=none):af F (L3.br F H' A)/\aq B (L3.br F H' A) H' σ δ ((.obj C ns (xs.map D.sh),.ref x)::ts):=by
 have c1:=c.grow hs
 have hF:∀a∈A,F a=none:=λa ha=>c.ext.free (fr a ha)
 have r1:R F H' xs ws A:=r.keep (af.of λb o e=>by cases e) (fK.same (af.refl _)) gu.nil hF (by simp)
 have r2:=r1.br c1.ext A (λ_ h=>h)
 have fs:af F (L3.br F H' A):=ir c1.ext
 obtain⟨A',C',r',s',nd,mx⟩:=c.own
 have out:∀a,(∃ws,H a=some (.lst ws))/\F a=none->L3.br F H' A a=none:=λa zz=>by
  obtain⟨⟨ws,h⟩,hf⟩:=zz
  rw[oI (λz=>by rw[fr a z]at h;cases h)];exact hf
 have g1:=r'.grow fs hs λa ha=>out a (r'.lists a ha)
 have g2:=s'.keep fs (fK.same hs) gu.nil (λa ha=>out a (s'.lists a ha)) (by simp)
 refine⟨fs,nt c1.ext,c1.b1,c1.b2.trans fs,λa ws h=>?_,A',C',?_,g2,nd,mx⟩
 ·by_cases z:a∈A
  ·exact .inr (c.b1.free (fr a z))
  ·rw[oI z]at h;exact c.b3 a ws h
 ·exact R.obj hx hl r2 g1
section
variable{X:Cx}{CX:eQ}{n:Nat}{f C:Addr}{fd:FuncData}{ps:List Str}{jO:List D->List Str->List D->Prop}{E:XK}{x:Str}{p pos:Pos}{e:Expr}{es:List Expr}{t:cH}{tl:List Addr}
theorem Rq(hT:Tb tl X.j3)(M:Mk X.K C f)(F:aM X.prog X.w X.K X.mg X.base CX n f fd ps (GB tl C jO))(hr:bY (n+1) X.A)(hg:Gl X x)(hm:X.mg x=some (.ref C))(hb:Binds X.K fd ps [])(hx:j8 CX X E)
  (ha:PA X (e::es) (lA t)) (dZ:(x==("__debug__":Str))=false:=by decide) (he:starEach (e::es) X.env=(false,eval e X.env)::starEach es X.env:=by rfl) (bN:(backTo pos (starEach es X.env)).any (·.1)=false:=by rfl) :
  PE X (.Call (.Name x p) (e::es) [] pos) (lE (vz C jO t)):=by
 intro pins s σ H Q I zz
 obtain⟨B,F',δ,ts,Qd,c,q,k⟩:=zz
 have tb:=Gp I hT
 refine OG M F hr hg hm hb .nil hx ha dZ he bN pins s σ H Q I ⟨B,F',δ,ts,_,c,q,λds ao vs F1 H1 q1 f1 h1 c1 s1=>?_⟩
 intro x dx cz dU mh
 obtain⟨ns,xs,hI,hq⟩:=q1
 have sm:af H1 (upd (upd H1 dx (.own x)) x (.ins C dx [])):=.of λb o e=>by rw[aZ (eO e cz),aZ (eO e dU)];exact e
 refine⟨x,dx,vs,ds.map D.sh,ns,xs,by rw[fm],yK (yK tb h1) sm,bJ,(s1.frozen c1.ext).shared sm sm,hI,λH' ws A yM cY hl r nd fr=>⟨rfl,?_⟩⟩
 have s2:af H1 H':=⟨λb o e n=>yM.get b o (eO e cz) (sm.get b o e n) n,λb ps e=>by
  obtain⟨m1,e1⟩:=sm.tb b ps e
  obtain⟨m2,e2⟩:=yM.tb b _ e1
  exact⟨m1++m2,by rw[e2,sV]⟩⟩
 obtain⟨fs,c2⟩:=c1.made s2 cY hl r λa ha=>sm.free (fr a ha)
 exact k _ ao _ _ H' hq (f1.trans fs) (h1.trans s2) c2
end
end L3
namespace Mf
open PySem L2 L3
def gm(m:Bool × Nat)(a b:Nat):Nat:=if m.1 then md (cl a b) m.2 else a*b%m.2
def ae(m:Bool × Nat):Nat:=if m.1 then 2 ^ (bl m.2-1)else m.2
def BM(g:Nat->Nat->Nat)(a:Nat):Nat->Nat->List Int->Option (List Int)
 | 0,_,_=>none
 | f+1,p,acc=>if p=1 then some acc else if p<64 then BM g a f (g p a) (acc++[(p:Int)])else none
def GC(g:Nat->Nat->Nat)(a:Nat):Option (List Int):=BM g a 64 (g 1 a) [1]
def BN(g:Nat->Nat->Nat)(many:Nat):Nat->Nat->List Int->Option (List Int)
 | 0,_,_=>none
 | f+1,st,l=>if l.length+1<many then(match GC g (st+1)with | some l'=>BN g many f (st+1) l' | none=>none)else some l
def yN(g:Nat->Nat->Nat)(many:Nat):Option (List Int):=match GC g 1 with | some l=>BN g many 62 1 l | none=>none
def yO(g:Nat->Nat->Nat):vw:=λi j Q=>∃a b:Nat,i=a/\j=b/\a<64/\b<64/\Q (g a b:Nat)
def gK:List Nat:=[7,11,13,19,25,31,37,41,47,55,59,61,67,73,87,91,97,103,109,115,117]
def nN:List Nat:=[2,3,5,7,11,13,17,19,23,29,31,37,41,43,47,53,59,61]
def aF:List (Bool × Nat):=gK.map (λn=>(true,n))++nN.map λn=>(false,n)
def nO(l:List Int):Nat->List Int
 | 0=>bf (l.length+1) 0
 | i+1=>(nO l i).set (l.getD i 0).toNat (i:Int)
def eI(l:List Int):List Int:=nO l l.length
theorem yP(l:List Int):∀i,(nO l i).length=l.length+1
 | 0=>by simp[nO]
 | i+1=>by simp[nO,yP l i]
def ph(l g:List Int)(a:Nat):List Int:=if a=0 then bf (l.length+1) 0 else 0::(aL l.length).map λ(b:Nat)=>l.getD ((g.getD a 0+g.getD (b+1) 0)%(l.length:Int)).toNat 0
def vA(l g:List Int)(n:Nat):List D:=(aL n).map λa=>D.lst true (aG (ph l g a))
def pj(l g:List Int):List D:=vA l g (l.length+1)
end Mf
namespace L3
open PySem L2 Mf
def LI(H:Hp)(p:Addr)(ns:List Int):Prop:=H p=some (.lst (ns.map V.int))
theorem LI.same{H H':Hp}{p:Addr}{ns:List Int}(h:LI H p ns)(s:af H H'):LI H' p ns:=s.get _ _ h
theorem LI.upd{H:Hp}{p x:Addr}{ns:List Int}{o o':HO}(h:LI H p ns)(hx:H x=some o)(n:∀ws,o≠.lst ws):LI (upd H x o') p ns:=by
 unfold LI
 rw[aZ (λz=>by rw[z]at h;unfold LI at h;rw[hx]at h;cases h;exact n _ rfl)];exact h
theorem Rt{F' H' H:Hp}{v:V}{A:List Addr}{ns:List Int}(r:R F' H' [.lst true (aG ns)] [v] A)(fr:∀a∈A,H a=none):∃p,v=.ref p/\LI H' p ns/\H p=none:=by
 cases r with
 | @own p ws xs A1 _ _ B1 hp hf r1 r2 =>
  have:=FX r1.s
  subst this
  exact⟨p,rfl,hp,fr p (by simp)⟩
structure c67(K:PySem.W.Frag)(C f:Addr):Prop where
 cls:cy K C
 many:bg K C "many"
 wide:bg K C "wide"
 GD:bg K C "powers"
 c68:bg K C "logs"
 step:bg K C "step"
 sp:Meth K C "step_power" f
structure Ru(g:Nat->Nat->Nat)(many:Nat)(l:List Int)(st:Int):Prop where
 lo:2<=many
 hi:many<=64
 step:yN g many=some l
 len:l.length+1=many
 ins:∀x∈l,0<=x/\x.toNat<=l.length
 st:l[((1:Int)%((many:Int)-1)).toNat]?=some st
def iB(b:Str):List Str:=[b,"many","wide","powers","logs","step"]
def BO(n0:Int)(many:Nat)(p1 p2:Addr)(st:Int):List V:=[.int n0,.int many,.int ((bl many:Nat)-1),.ref p1,.ref p2,.int st]
theorem vB{f:Str}{v:V}:∀{fs:List (Str × V)},(∀p∈fs,p.1≠f)->bB f v fs=fs++[(f,v)]
 | [],_=>rfl
 | (g,x)::r,h=>by
  unfold bB
  rw[if_neg (h (g,x) (by simp)),vB λp hp=>h p (by simp[hp])];rfl
theorem ka.rR{H:Hp}{x C dx f c k:Addr}{fs:List (Str × V)}{o':HO}{of oc:Obj}(h:ka H f of oc c k)(hx:H x=some (.ins C dx fs)):ka (L2.upd H x o') f of oc c k:=by
 obtain⟨ψ,e,yG⟩:=h.Fl
 exact⟨by rw[aZ (λz=>by rw[<-z,h.fn]at hx;cases hx)];exact h.fn,by rw[aZ (λz=>by rw[<-z,h.cell]at hx;cases hx)];exact h.cell,ψ,by rw[aZ (λz=>by rw[<-z,e]at hx;cases hx)];exact e,yG⟩
theorem yQ{H:Hp}{x p:Addr}{o o':HO}(hx:H x=some o)(h:L2.upd H x o' p=none):H p=none:=by
 by_cases z:p=x
 ·subst z;rw[bJ]at h;cases h
 ·rw[aZ z]at h;exact h
theorem BP{α:Type}{b f:Str}{v:α}{r:List (Str × α)}(h:b≠f):((b,v)::r).lookup f=r.lookup f:=by
 rw[fU,beq_eq_false_iff_ne.mpr (fE h)]
section
variable{H2 H3 H':Hp}{x f c p:Addr}{o1 o2:HO}
theorem yR{b:Addr}{o:HO}(e:H3 b=some o)(nb:b≠f)(nc:H3 c=none):L2.upd (L2.upd H3 f o1) c o2 b=some o:=by
 rw[aZ (eO e nc),aZ nb];exact e
theorem Rw(hs:af H2 H3)(nf:H2 f=none)(nc:H3 c=none)(s:bL x (L2.upd (L2.upd H3 f o1) c o2) H'):bL x H2 (rem H' f c) where
 get b o n e t:=by
  have z1:=eO e nf
  have e3:=hs.get b o e t
  rw[iA z1 (eO e3 nc)]
  exact s.get b o n (yR e3 z1 nc) t
 tb b ps e:=by
  have z1:=eO e nf
  obtain⟨m,e3⟩:=hs.tb b ps e
  obtain⟨m2,e4⟩:=s.tb b _ (yR e3 z1 nc)
  exact⟨m++m2,by rw[iA z1 (eO e3 nc),e4,sV]⟩
theorem BQ(hs:af H2 H3)(h:L2.upd (L2.upd H3 f o1) c o2 p=none):H2 p=none:=by
 refine hs.free ?_
 by_cases z:p=c
 ·subst z;rw[bJ]at h;cases h
 ·rw[aZ z]at h
  by_cases z2:p=f
  ·subst z2;rw[bJ]at h;cases h
  ·rw[aZ z2]at h;exact h
theorem LI.rem{l:List Int}{φ:Heap->Prop}{y:Addr}(h:LI H' p l)(hf:H' f=some (.ext φ))(hc:H' c=some (.own y)):LI (rem H' f c) p l:=by
 unfold LI at h ⊢
 rw[iA (λz=>by rw[z,hf]at h;cases h) (λz=>by rw[z,hc]at h;cases h)];exact h
theorem Rx{of oc:Obj}{k:Addr}(mh:c≠f)(nc:H3 c=none)(hk:Fj H3 k)(kf:k≠f):ka (L2.upd (L2.upd H3 f (.ext (jE of oc c f))) c (.own f)) f of oc c k:=by
 obtain⟨ψ,e,yG⟩:=hk
 exact⟨by rw[aZ mh.symm,bJ],bJ,ψ,yR e kf nc,yG⟩
end
def fl(m:Bool × Nat):List Int:=(yN (gm m) (ae m)).getD []
def fst(m:Bool × Nat):Int:=(fl m).getD ((1:Int)%((ae m:Int)-1)).toNat 0
def Ry(m:Bool × Nat):Bool:=decide (2<=ae m)&&decide (ae m<=64)&&(yN (gm m) (ae m)).isSome&&decide ((fl m).length+1=ae m)&&(fl m).all (λx=>decide (0<=x)&&decide (x.toNat<=(fl m).length))&&decide (((1:Int)%((ae m:Int)-1)).toNat<(fl m).length)
theorem cn5:aF.all Ry=true:=by decide +kernel
theorem di{m:Bool × Nat}(h:m∈aF):Ru (gm m) (ae m) (fl m) (fst m):=by
 have h:=dr.mp cn5 m h
 simp only[Ry,eC,decide_eq_true_eq,dr]at h
 obtain⟨⟨⟨⟨⟨h1,h2⟩,h3⟩,h4⟩,h5⟩,h6⟩:=h
 obtain⟨l,e⟩:=Ad.mp h3
 have el:fl m=l:=by unfold fl;rw[e];rfl
 refine⟨h1,h2,by rw[e,el],h4,λx hx=>h5 x hx,?_⟩
 unfold fst
 rw[aT,aP h6];rfl
theorem cc0:∀p∈nN,(decide (2<=(p:Int))&&decide ((p:Int)<=61)&&(aL ((p:Int).toNat-2)).all λi=>(p:Int)%(2+(i:Int)) != 0)=true:=by decide +kernel
theorem cl5:∀p∈gK,(decide (4<=(p:Int))&&decide ((p:Int)<=127)&&al (p:Int).toNat)=true:=by decide +kernel
theorem R.rR{F H:Hp}{x C dx:Addr}{fs:List (Str × V)}{o':HO}{ds:List D}{vs:List V}{A:List Addr}(r:R F H ds vs A)(hx:H x=some (.ins C dx fs))(hd:ds.all D.fr=true):R F (L2.upd H x o') ds vs A:=by
 have up:∀{a o},H a=some o->(∀C dx fs,o≠.ins C dx fs)->L2.upd H x o' a=some o:=λ{a o} e n=>by
  rw[aZ (λz=>by rw[z,hx]at e;cases e;exact n _ _ _ rfl)];exact e
 induction r with
 | nil=>exact .nil
 | av _ ih=>exact .av (ih (by simpa[D.fr]using hd))
 | bl _ ih=>exact .bl (ih (by simpa[D.fr]using hd))
 | int _ ih=>exact .int (ih (by simpa[D.fr]using hd))
 | str _ ih=>exact .str (ih (by simpa[D.fr]using hd))
 | shr h x _ i1 ih=>simp[fJ]at hd
 | own h f _ _ i1 i2 =>
  rw[dq,fJ,eC,lK]at hd
  exact .own (up h λ_ _ _ z=>by cases z) f (i1 hd.1) (i2 hd.2)
 | tup h _ _ i1 i2 =>
  rw[dq,qH,eC]at hd
  exact .tup (up h λ_ _ _ z=>by cases z) (i1 hd.1) (i2 hd.2)
 | obj h l x _ i1 ih=>simp[D.fr]at hd
 | fz h x _ i1 ih=>simp[D.fr]at hd
 | @bE p z _ _ _ h r ih =>
  refine .bE ?_ (ih (by simpa[D.fr]using hd))
  cases z with
  | ext φ=>exact up h λ_ _ _ z=>by cases z
  | lam of oc c k=>exact ka.rR h hx
theorem Rz(l g:List Int):(pj l g).all D.fr=true:=by
 unfold pj vA
 rw[mU,dr]
 intro a _
 show(D.lst true (aG _)).fr=true
 rw[fJ,rE];rfl
theorem bL.free{x a:Addr}{H H':Hp}(s:bL x H H')(hx:H' x≠none)(h:H' a=none):H a=none:=by
 cases q:H a with
 | none=>rfl
 | some o =>
  by_cases z:a=x
  ·subst z;exact absurd h hx
  ·cases n:ji o with
   | true=>rw[s.get a o z q n]at h;cases h
   | false =>
    obtain⟨ps,rfl⟩:=Fh n
    obtain⟨m,e⟩:=s.tb a ps q
    rw[e]at h;cases h
theorem RA(l:List Int):∀i,∀x∈nO l i,0<=x
 | 0=>λx hx=>by rw[(Aj.mp hx).2];exact Int.le_refl _
 | i+1=>λx hx=>by
  unfold nO at hx
  rcases NU hx with h | h
  ·exact RA l i x h
  ·rw[h];exact Nz _
theorem RB:∀p∈gK,bl p<=7:=by decide +kernel
theorem RC:∀p∈gK,1<=bl p:=by decide +kernel
theorem b99(a b:Nat):bl (cl a b)<=bl a+bl b:=by
 by_cases ha:a=0
 ·subst ha;rw[oF];exact lD _
 ·by_cases hb:b=0
  ·subst hb
   have:cl a 0=0:=rfl
   rw[this];exact lD _
  ·rw[Pk ha hb];omega
def nQ(l g:List Int):List D:=(aL (l.length+1)).map λa=>D.lst false (aG (ph l g a))
theorem cd2(l g:List Int):(D.lst true (pj l g)).sh=.lst false (nQ l g):=by
 rw[dM]
 unfold pj vA nQ
 rw[cw]
 congr 1
 apply tL
 intro a _
 show D.sh (.lst true (aG _))=_
 rw[dM,ki]
theorem b32(l g:List Int):(nQ l g).all D.pl=true:=by
 unfold nQ
 rw[mU,dr]
 intro a _
 show(D.lst false (aG _)).pl=true
 rw[fW,nI];rfl
abbrev pD(m:Bool × Nat):List D:=[.int m.2,.int (ae m),.int ((bl (ae m):Nat)-1),.lst false (aG (fl m)),.lst false (aG (eI (fl m))),.int (fst m)]
def rS(C:Addr)(p:Nat):D:=.obj C (iB "prime") (pD (false,p))
def rT(C:Addr)(p:Nat):D:=.obj C (iB "bits"++[("products":Str)]) (pD (true,p)++[.lst false (nQ (fl (true,p)) (eI (fl (true,p))))])
def fD(cb cp:Addr)(m:Bool × Nat):D:=if m.1 then rT cb m.2 else rS cp m.2
end L3
namespace L3
open PySem L2 Mf
theorem yS{u p:Nat}(h:bl u<bl p):md u p=u:=xy (q:=0) (by rw[oF,oj]) h
theorem b21{u v n:Nat}(hu:bl u<n)(hv:bl v<n):bl (u ^^^ v)<n:=by
 have h1:u<2 ^ (n-1):=eZ.mp (by omega)
 have h2:v<2 ^ (n-1):=eZ.mp (by omega)
 have:=eZ.mpr (by4 h1 h2)
 omega
theorem BR{p:Nat}(hp:p≠0)(u v:Nat):md (u ^^^ v) p=md u p ^^^ md v p:=by
 obtain⟨⟨q1,e1⟩,l1⟩:=xx hp u
 obtain⟨⟨q2,e2⟩,l2⟩:=xx hp v
 refine xy (q:=q1 ^^^ q2) ?_ (b21 l1 l2)
 rw[oE,<- O9,<- e1,<- e2]
theorem RD{p:Nat}(hp:p≠0)(w:Nat):md (cl p w) p=0:=by rw[xw];exact Δ w hp
theorem dj:∀m∈aF,0<m.2:=by decide +kernel
theorem iP(m:Bool × Nat)(a b:Nat):gm m a b=gm m b a:=by
 unfold gm
 split
 ·rw[xw]
 ·rw[mO]
theorem RE{n:Nat}(hn:n≠0)(u c:Nat):md (cl (md u n) c) n=md (cl u c) n:=by
 obtain⟨⟨q,e⟩,_⟩:=xx hn u
 have h:cl u c=cl n (cl q c) ^^^ cl (md u n) c:=by
  conv=>lhs;rw[e]
  rw[oE,xw n q,Pp]
 rw[h,BR hn,RD hn,oj]
theorem kj{m:Bool × Nat}(h:0<m.2)(a b c:Nat):gm m (gm m a b) c=gm m a (gm m b c):=by
 unfold gm
 split
 ·rw[RE (by omega),xw (md (cl b c) m.2) a,RE (by omega),Pp a b c,xw (cl b c) a]
 ·rw[wL,NV,<- wL,wL a (b*c%m.2),NV,<- wL,tF]
theorem RF{m:Bool × Nat}(h:m.1=true){a:Nat}:a<ae m↔bl a<=bl m.2-1:=by
 unfold ae
 rw[if_pos h];exact eZ.symm
theorem rV{m:Bool × Nat}{a:Nat}(ha:a<ae m):gm m 1 a=a:=by
 obtain⟨k,n⟩:=m
 cases k with
 | true =>
  show md (cl 1 a) n=a
  rw[EY]
  have h1:=(RF (m:=(true,n)) rfl).mp ha
  have h1:bl a<=bl n-1:=h1
  by_cases z:bl n=0
  ·have a0:a=0:=by
    have:=eZ (n:=a) (m:=0)
    have:=this.mp (by omega)
    omega
   subst a0
   have n0:n=0:=by
    have:=(eZ (n:=n) (m:=0)).mp (by omega)
    omega
   subst n0
   decide
  ·exact yS (by omega)
 | false=>show 1*a%n=a;rw[Nat.one_mul];exact wM ha
theorem rW{m:Bool × Nat}{a:Nat}(ha:a<ae m):gm m a 1=a:=by rw[iP];exact rV ha
def lg(m:Bool × Nat)(a:Nat):Int:=(eI (fl m)).getD a 0
def pw(m:Bool × Nat)(k:Nat):Int:=(fl m).getD k 0
def GF(m:Bool × Nat):Bool:=((aL (ae m-1)).all λk=>decide (1<=pw m k)&&decide (pw m k<ae m)&&decide (lg m (pw m k).toNat=k))&&((aL (ae m-1)).all λa=>decide (0<=lg m (a+1))&&decide (lg m (a+1)<(ae m:Int)-1)&&decide (pw m (lg m (a+1)).toNat=((a+1:Nat):Int)))
theorem RG:aF.all GF=true:=by decide +kernel
theorem BS{m:Bool × Nat}(hm:m∈aF){k:Nat}(hk:k<ae m-1):1<=pw m k/\pw m k<ae m/\lg m (pw m k).toNat=k:=by
 have h:=dr.mp RG m hm
 simp only[GF,eC,dr,decide_eq_true_eq,cX]at h
 have:=h.1 k hk
 exact⟨this.1.1,this.1.2,this.2⟩
theorem BU{m:Bool × Nat}(hm:m∈aF){a:Nat}(h1:1<=a)(h2:a<ae m):0<=lg m a/\lg m a<(ae m:Int)-1/\pw m (lg m a).toNat=a:=by
 have h:=dr.mp RG m hm
 simp only[GF,eC,dr,decide_eq_true_eq,cX]at h
 have:=h.2 (a-1) (by omega)
 rw[show a-1+1=a by omega]at this
 exact⟨this.1.1,this.1.2,this.2⟩
theorem iC(m:Bool × Nat)(b:Nat)(h:0<m.2):gm m 0 b=0:=by
 unfold gm
 split
 ·rw[oF];exact yS (by rw[nj];exact ik (by omega))
 ·rw[Nat.zero_mul,Nat.zero_mod]
theorem kS(m:Bool × Nat)(b:Nat)(h:0<m.2):gm m b 0=0:=by rw[iP];exact iC m b h
def stC(m:Bool × Nat):Bool:=decide (pw m 0=1)&&(aL (ae m-1)).all λk=>decide (gm m (pw m k).toNat (pw m (1%(ae m-1))).toNat=(pw m ((k+1)%(ae m-1))).toNat)
theorem RH:aF.all stC=true:=by decide +kernel
theorem cr7(m:Bool × Nat)(hm:m∈aF):pw m 0=1:=by
 have h:=dr.mp RH m hm
 simp only[stC,eC,decide_eq_true_eq]at h
 exact h.1
def pN(m:Bool × Nat)(k:Nat):Nat:=(pw m (k%(ae m-1))).toNat
theorem cG8{m:Bool × Nat}(hm:m∈aF)(k:Nat):pN m k<ae m:=by
 have eY:=(di hm).lo
 have:=BS hm (tM k (show 0<ae m-1 by omega))
 unfold pN
 omega
theorem RI{m:Bool × Nat}(hm:m∈aF)(k:Nat):gm m (pN m k) (pN m 1)=pN m (k+1):=by
 have eY:=(di hm).lo
 have h:=dr.mp RH m hm
 simp only[stC,eC,decide_eq_true_eq,dr,cX]at h
 have h2:=h.2 (k%(ae m-1)) (tM k (by omega))
 rw[wN]at h2
 exact h2
theorem RJ{m:Bool × Nat}(hm:m∈aF)(i:Nat):∀j,gm m (pN m i) (pN m j)=pN m (i+j)
 | 0=>by
  have e:pN m 0=1:=by unfold pN;rw[Nat.zero_mod,cr7 m hm];rfl
  rw[e,rW (cG8 hm i)];rfl
 | j+1=>by rw[<-RI hm j,<- kj (dj m hm),RJ hm i j,RI hm];rfl
theorem GG{m:Bool × Nat}(hm:m∈aF){a b:Nat}(a1:1<=a)(a2:a<ae m)(b1:1<=b)(b2:b<ae m):((gm m a b:Nat):Int)=pw m ((lg m a+lg m b)%((ae m:Int)-1)).toNat:=by
 have eY:=(di hm).lo
 obtain⟨g0,g1,g2⟩:=BU hm a1 a2
 obtain⟨f0,f1,f2⟩:=BU hm b1 b2
 have ea:pN m (lg m a).toNat=a:=by unfold pN;rw[wM (by omega),g2];rfl
 have eb:pN m (lg m b).toNat=b:=by unfold pN;rw[wM (by omega),f2];rfl
 have e:=RJ hm (lg m a).toNat (lg m b).toNat
 rw[ea,eb]at e
 rw[e]
 have ei:((lg m a+lg m b)%((ae m:Int)-1)).toNat=((lg m a).toNat+(lg m b).toNat)%(ae m-1):=by
  have:(((lg m a).toNat+(lg m b).toNat)%(ae m-1):Nat)=((lg m a+lg m b)%((ae m:Int)-1)):=by
   rw[oo,D8,wO g0,wO f0,Int.natCast_sub (by omega)];rfl
  omega
 rw[ei]
 have:=BS hm (tM ((lg m a).toNat+(lg m b).toNat) (show 0<ae m-1 by omega))
 unfold pN
 omega
theorem cn2{p a:Nat}(hp:p∈gK)(ha:a<ae (true,p)):ph (fl (true,p)) (eI (fl (true,p))) a=(aL (ae (true,p))).map λb=>((gm (true,p) a b:Nat):Int):=by
 have hm:(true,p)∈aF:=eV _ (D9 hp)
 have h0:=dj _ hm
 have hF:=di hm
 have hlen:=hF.len
 unfold ph
 split
 ·rename_i h
  subst h
  rw[hlen]
  refine NW (by simp) λi h1 h2=>?_
  simp[iC _ _ h0]
 ·rename_i h
  rw[<-hlen,Xb,dn,cw,kS _ _ h0]
  congr 1
  apply tL
  intro b hb
  have hb:=cX.mp hb
  show(fl (true,p)).getD (((eI (fl (true,p))).getD a 0+(eI (fl (true,p))).getD (b+1) 0)%((fl (true,p)).length:Int)).toNat 0=((gm (true,p) a (b+1):Nat):Int)
  rw[GG hm (by omega) ha (by omega) (by omega),show(((fl (true,p)).length:Nat):Int)=(ae (true,p):Int)-1 by omega]
  rfl
theorem BV{p a b:Nat}(hp:p∈gK)(ha:a<ae (true,p))(hb:b<ae (true,p)):eE (aG (ph (fl (true,p)) (eI (fl (true,p))) a)) (b:Int)=some (.int (gm (true,p) a b:Nat)):=by
 refine m5 (by omega) ?_
 rw[cn2 hp ha]
 unfold aG
 rw[gQ,cj,cj,jY hb];rfl
theorem BW{p a:Nat}(hp:p∈gK)(ha:a<ae (true,p)):eE (nQ (fl (true,p)) (eI (fl (true,p)))) (a:Int)=some (.lst false (aG (ph (fl (true,p)) (eI (fl (true,p))) a))):=by
 have hF:=di (m:=(true,p)) (eV _ (D9 hp))
 refine m5 (by omega) ?_
 unfold nQ
 rw[gQ,cj,jY (by rw[hF.len];exact ha)];rfl
end L3
namespace L3
open PySem L2 Mf
theorem cD3(C:Addr)(p:Nat):D.obj C (iB "bits"++[("products":Str)]) (qa D.sh [.int p,.int (ae (true,p)),.int ((bl (ae (true,p)):Nat)-1),.lst true (aG (fl (true,p))),.lst true (aG (eI (fl (true,p)))),.int (fst (true,p)),.lst true (pj (fl (true,p)) (eI (fl (true,p))))])=rT C p:=by
 simp only[dn,jW]
 rw[cd2]
 simp only[dM,oU,ki];rfl
theorem b85(C:Addr)(p:Nat):D.obj C (iB "prime") (qa D.sh [.int p,.int p,.int ((bl p:Nat)-1),.lst true (aG (fl (false,p))),.lst true (aG (eI (fl (false,p)))),.int (fst (false,p))])=rS C p:=by
 simp only[dn,jW,dM,oU,ki];rfl
theorem vC{n:Nat}(h:(true,n)∈aF):n∈gK:=by
 rcases bX.mp h with h | h
 ·obtain⟨x,hx,e⟩:=bD.mp h
  cases e;exact hx
 ·obtain⟨x,hx,e⟩:=bD.mp h
  cases e
theorem bM2{n:Nat}(h:(false,n)∈aF):n∈nN:=by
 rcases bX.mp h with h | h
 ·obtain⟨x,hx,e⟩:=bD.mp h
  cases e
 ·obtain⟨x,hx,e⟩:=bD.mp h
  cases e;exact hx
open Classical in
theorem GH{α:Type}{sh:Bool}{xs:List D}{aD:List (Str × Nat)}{n:Nat}{g0:iu}{te:aN}{ao:Dl}{Q:D->Dl->Prop}(l:List α)(e g:α->D)(jo:xs.map D.sh=l.map e)(inj:∀a b,e a=e b->a=b)
  (hx:∀a∈l,g0 (e a) (gx aD n ao) λaS=>te aS λd _=>d=g a) (hg:∀d δ (P P':Dl->Prop),(∀ah,P ah->P' ah)->g0 d δ P->g0 d δ P') (eG:(sh&&aD.all (jl ao))=true\/∀a∈l,(g a).fr=true) (hl:l.length<=sizeLine) (hq:Q (.lst true (l.map g)) ao):uI sh xs aD n g0 mn te ao Q:=by
 let f:D->D:=λx=>if h:∃a∈l,e a=x then g h.choose else .av
 have hf:∀a∈l,f (e a)=g a:=λa ha=>by
  have h:∃b∈l,e b=e a:=⟨a,ha,rfl⟩
  show(if h:∃b∈l,e b=e a then g h.choose else .av)=g a
  rw[dif_pos h]
  exact congrArg g (inj _ _ h.choose_spec.2)
 refine⟨λ_=>true,f,λx h=>?_,eG.imp id λh x hx _=>?_,?_,?_⟩
 ·rw[jo]at h
  obtain⟨a,ha,rfl⟩:=bD.mp h
  rw[hf a ha]
  exact hg _ _ _ _ (λah h=>⟨rfl,λ_=>h⟩) (hx a ha)
 ·rw[jo]at hx
  obtain⟨a,ha,rfl⟩:=bD.mp hx
  rw[hf a ha];exact h a ha
 ·have:=congrArg DS jo
  simp at this
  omega
 ·rw[jo,Xa.mpr (λ_ _=>rfl),cw,show l.map (f ∘ e)=l.map g from tL λa ha=>hf a ha]
  exact hq
theorem GI{i1 i2:Nat}(d:D)(δ:Dl)(P P':Dl->Prop)(h:∀ah,P ah->P' ah)(q:jL i1 i2 d δ P):jL i1 i2 d δ P':=by
 unfold jL at q ⊢
 split at q
 ·exact h _ q
 ·exact q
theorem RK(xs ys:List Int):(dE (aG xs) (aG ys)).map D.sh=(xs.zip ys).map λz=>D.tup [.int z.1,.int z.2]:=by
 rw[QP,ki,ki]
 unfold dE aG
 rw[Am,List.zip,D7]
theorem cq1{p x y:Nat}(hp:p≠0)(hx:bl x<bl p):md (cl x y) p=(if y%2=1 then x else 0) ^^^ md (cl (if bl (2*x)=bl p then 2*x ^^^ p else 2*x) (y/2)) p:=by
 have e0:md (if y%2=1 then x else 0) p=(if y%2=1 then x else 0):=by
  split
  ·exact yS hx
  ·exact yS (by rw[nj];exact ik hp)
 rw[Pg,BR hp,e0]
 congr 1
 split
 ·rw[oE,BR hp,RD hp,lJ]
 ·rfl
theorem co4{p x:Nat}(hp:p≠0)(hx:bl x<bl p):bl (if bl (2*x)=bl p then 2*x ^^^ p else 2*x)<bl p:=by
 have h2:=Λ x
 have h0:=ik hp
 split
 ·rename_i h
  have n0:2*x≠0:=λz=>by rw[z,nj]at h;omega
  have a1:=jg (2*x)
  have a2:=jg p
  have b1:=tY n0
  have b2:=tY hp
  rw[h]at a1 b1
  obtain⟨k,hk⟩:∃k,bl p=k+1:=⟨bl p-1,by omega⟩
  rw[hk]at a1 a2 b1 b2 ⊢
  have:=eZ.mpr (O7 a1 a2 b1 b2)
  omega
 ·omega
end L3
namespace L3
open PySem L2 PySem.Spec PyProof.Rows
structure BX(P:Program)(w:World)(K:PySem.W.Frag)(mg:Str->Option Value)(base:Heap)(n:Nat)(m:Str)(C:Addr)(sp:oV):Prop where
 cls:cy K C
 ex:∃f fd ps,Meth K C m f/\aM P w K mg base (nq P w) n f fd ps (yu sp)/\Binds K fd ps []
section
variable{X:Cx}{e o:Expr}{es:List Expr}{f m x:Str}{pos p apos:Pos}{to:aN}{ta:cH}{n:Nat}
def rX(MO:Addr->oV->Prop)(m:Str)(to:aN)(ta:cH):aN:=λδ Q=>to δ λd ao=>∃C ns xs sp,d=.obj C ns xs/\MO C sp/\m ∉ ns/\ta ao λds aS=>sp ((D.obj C ns xs::ds).map D.sh) (λr=>((D.obj C ns xs::ds).all D.pl||r.fr)=true/\Q r aS) λ_=>False
theorem cm3{pl:Sem Bool}(ho:PE X o (lB to))(hr:bY n X.A)(ha:PA X (e::es) (lA ta))
  (de:starEach (e::es) X.env=(false,eval e X.env)::starEach es X.env:=by rfl) (bN:(backTo pos (starEach es X.env)).any (·.1)=false:=by rfl)
  (ht:eval (.Call (.Attribute o m apos) (e::es) [] pos) X.env=(do
   let ov<-eval o X.env
   standAt apos.atName
   let (f,first)<-holding [ov] (getMethod ov m pl)
   callWith pos f first (backTo pos (starEach (e::es) X.env)) (backToKw pos (keywordEach [] X.env))):=by rfl) :
  PE X (.Call (.Attribute o m apos) (e::es) [] pos) (lE (rX (BX X.prog X.w X.K X.mg X.base n m) m to ta)):=by
 intro pins s σ H Q I zz
 obtain⟨B,F,δ,ts,Qd,c,q,k⟩:=zz
 refine PySem.W.methodCall_KW (pl:=pl) (aR (ho pins s σ H (λx H1=>∃d ao F1,S F1 H1 [d] [x]/\aq B F1 H1 σ ao ts/\af F F1/\af H H1/\∃C ns xs sp,d=.obj C ns xs/\BX X.prog X.w X.K X.mg X.base n m C sp/\m ∉ ns/\ta ao λds aS=>sp ((D.obj C ns xs::ds).map D.sh) (λr=>((D.obj C ns xs::ds).all D.pl||r.fr)=true/\Qd r aS) λ_=>False) I
  ⟨B,F,δ,ts,_,c,q,λd ao v F1 H1 hq f1 h1 c1 s1=>⟨d,ao,F1,s1,c1,f1,h1,hq⟩⟩) λu s1 zq=>?_) ht
 obtain⟨x,H1,I1,rx,d,ao,F1,sd,c1,f1,h1,C,ns,xs,sp,ed,M,hm,hq⟩:=zq
 subst ed
 obtain⟨a,dx,ws,rfl,ea,hl,r0⟩:=yL sd
 obtain rfl:u=cW a:=rx
 obtain⟨f,fd,ps,pf,FO,hb⟩:=M.ex
 refine AV I1 ea M.cls pf (Gz hm) ?_
 refine PySem.W.callWith_K (first:=[.ref a]) (h₀:=X.base) I.ok.mod.mZ pf.kp (aR (ha pos pins s1 σ H1 (λvs H2=>∃ds aS F2,S F2 H2 ds vs/\aq B F2 H2 σ aS ts/\af F1 F2/\af H1 H2/\sp ((D.obj C ns xs::ds).map D.sh) (λr=>((D.obj C ns xs::ds).all D.pl||r.fr)=true/\Qd r aS) λ_=>False) I1
  ⟨B,F1,ao,ts,_,c1,hq,λds aS vs F2 H2 hq f2 h2 c2 s2=>⟨ds,aS,F2,s2,c2,f2,h2,hq⟩⟩) λus s2 ⟨vs,H2,I2,r,ds,aS,F2,GA,c2,f2,h2,ig⟩=>⟨I2.da,?_⟩) de bN
 refine tW (us:=.ref a::us) (vs:=.ref a::vs) (fh:=[]) (Gd FO) hr hb .nil Gb I2 (.cons rfl r) ?_
 rw[fm]
 exact xK (sp:=λds Q=>sp ds Q λ_=>False) c2 (.obj (h2 _ _ ea) hl (r0.shared f2 h2) GA) ig λd v F' H' hd hf hs c'=>k d aS v F' H' hd (f1.trans (f2.trans hf)) (h1.trans (h2.trans hs)) c'
end
section
variable{X:Cx}{tb th:cI}{body c10:List Stmt}{c11:Stmt}{K:Str}{Kc:Addr}{kp c12 pos:Pos}
end
structure rY(K:PySem.W.Frag)(C:Addr):Prop where
 cls:cy K C
 ha:PySem.W.findIn K (.ref C) "__class__"=some (some (.builtin "object.__class__"))
 hn:PySem.W.specialIn K (.builtin "object.__class__") "__get__"=some (some (.builtin "getset_descriptor.__get__"))
 AW:PySem.W.takesIn K (.builtin "object.__class__")=some true
 hm:PySem.W.mroIn K C (.type "object")=some true
def vD(K:PySem.W.Frag)(cv:Value)(t:aN):aN:=λδ Q=>t δ λd ah=>∃C ns xs r,d=.obj C ns xs/\rY K C/\PySem.W.kitOne K (.ref C) cv=some r/\Q (.bl r) ah
theorem cF6{X:Cx}{a:Expr}{ta:aN}{p pos:Pos}{y:Str}{q:Pos}{C:Addr}(hg:Gl X "isinstance")(hm:X.mg "isinstance"=none)(FP:Gl X y)(Bw:X.mg y=some (.ref C))(ha:PE X a (lB ta))(hd:(y==("__debug__":Str))=false:=by decide)
  (hs:starEach [a,.Name y q] X.env=(false,eval a X.env)::starEach [.Name y q] X.env:=by rfl) (ft:starEach [.Name y q] X.env=(false,eval (.Name y q) X.env)::starEach [] X.env:=by rfl) (bN:(backTo pos (starEach [.Name y q] X.env)).any (·.1)=false:=by rfl) :
  PE X (.Call (.Name "isinstance" p) [a,.Name y q] [] pos) (lE (vD X.K (.ref C) ta)) :=
 du (AY b16 hg hm Pr (bV ha (bV (XN (v:=.ref C) FP Bw rfl hd) eX ft) hs) (by decide) (by decide) hs bN) λσ H Q zq=>by
 obtain⟨B,F,δ,ts,Qd,c,q,k⟩:=zq
 exact⟨B,F,δ,ts,_,c,q,λd ao v F1 H1 q1 f1 h1 c1 s1=>by
  obtain⟨C',ns,xs,r,ed,oc,e,qr⟩:=q1
  subst ed
  obtain⟨a,dx,ws,rfl,ea,_,_⟩:=yL s1
  exact⟨.ref a,_,_,.ref C',r,rfl,rfl,.ty (.ins ea oc.cls oc.ha oc.hn oc.AW oc.hm),e,k _ ao _ F1 H1 qr f1 h1 (c1.pushS (.bl .nil) rfl)⟩⟩
end L3
namespace L3
open PySem L2 Mf
theorem RL{m:Bool × Nat}(hm:m∈aF){a b:Nat}(a1:1<=a)(a2:a<ae m)(b1:1<=b)(b2:b<ae m):∃r:Nat,pw m ((lg m a-lg m b)%((ae m:Int)-1)).toNat=r/\r<ae m/\gm m r b=a:=by
 have hF:=di hm
 have eY:=hF.lo
 have n0:=gR (lg m a-lg m b) (show(ae m:Int)-1≠0 by omega)
 have n1:=hV (lg m a-lg m b) (show(0:Int)<(ae m:Int)-1 by omega)
 obtain⟨p1,p2,p3⟩:=BS hm (k:=((lg m a-lg m b)%((ae m:Int)-1)).toNat) (by omega)
 obtain⟨g0,g1,g2⟩:=BU hm a1 a2
 refine⟨(pw m ((lg m a-lg m b)%((ae m:Int)-1)).toNat).toNat,by omega,by omega,?_⟩
 have e:=GG hm (a:=(pw m ((lg m a-lg m b)%((ae m:Int)-1)).toNat).toNat) (by omega) (by omega) b1 b2
 rw[p3,wO n0,Int.emod_add_emod,Int.sub_add_cancel,NX g0 g1,g2]at e
 omega
end L3
namespace L3
open PySem L2 PySem.Spec PyProof.Rows
section
variable{X:Cx}{e o a:Expr}{es:List Expr}{f m y:Str}{pos p apos q:Pos}{t to ta':aN}{ta:cH}{n:Nat}{P:Program}{w:World}{K:PySem.W.Frag}{mg:Str->Option Value}{base:Heap}
theorem dQ(he:PE X e (lB t))(hK:K=X.K:=by rfl)(hb:attributeBase e f X.env (eval e X.env)=eval e X.env:=by rfl):PE X (.Attribute e f pos) (lB (rO K t f)):=by
 subst hK;exact cJ2 he hb
theorem jr{pl:Sem Bool}(ho:PE X o (lB to))(hr:bY n X.A)(ha:PA X (e::es) (lA ta))(hP:P=X.prog:=by rfl)(hw:w=X.w:=by rfl)(hK:K=X.K:=by rfl)(hm:mg=X.mg:=by rfl)(hb:base=X.base:=by rfl)
  (de:starEach (e::es) X.env=(false,eval e X.env)::starEach es X.env:=by rfl) (bN:(backTo pos (starEach es X.env)).any (·.1)=false:=by rfl)
  (ht:eval (.Call (.Attribute o m apos) (e::es) [] pos) X.env=(do
   let ov<-eval o X.env
   standAt apos.atName
   let (f,first)<-holding [ov] (getMethod ov m pl)
   callWith pos f first (backTo pos (starEach (e::es) X.env)) (backToKw pos (keywordEach [] X.env))):=by rfl) :
  PE X (.Call (.Attribute o m apos) (e::es) [] pos) (lE (rP (jN P w K mg base n m) m to ta)):=by
 subst hP hw hK hm hb;exact cy4 ho hr ha de bN ht
theorem kT{pl:Sem Bool}(ho:PE X o (lB to))(hr:bY n X.A)(hP:P=X.prog:=by rfl)(hw:w=X.w:=by rfl)(hK:K=X.K:=by rfl)(hm:mg=X.mg:=by rfl)(hb:base=X.base:=by rfl)
  (ht:eval (.Call (.Attribute o m apos) [] [] pos) X.env=(do
   let ov<-eval o X.env
   standAt apos.atName
   let (f,first)<-holding [ov] (getMethod ov m pl)
   callWith pos f first (backTo pos (starEach [] X.env)) (backToKw pos (keywordEach [] X.env))):=by rfl) :
  PE X (.Call (.Attribute o m apos) [] [] pos) (lE (rQ (jN P w K mg base n m) m to)):=by
 subst hP hw hK hm hb;exact cn0 ho hr ht
theorem RM{pl:Sem Bool}(ho:PE X o (lB to))(hr:bY n X.A)(ha:PA X (e::es) (lA ta))(hP:P=X.prog:=by rfl)(hw:w=X.w:=by rfl)(hK:K=X.K:=by rfl)(hm:mg=X.mg:=by rfl)(hb:base=X.base:=by rfl)
  (de:starEach (e::es) X.env=(false,eval e X.env)::starEach es X.env:=by rfl) (bN:(backTo pos (starEach es X.env)).any (·.1)=false:=by rfl)
  (ht:eval (.Call (.Attribute o m apos) (e::es) [] pos) X.env=(do
   let ov<-eval o X.env
   standAt apos.atName
   let (f,first)<-holding [ov] (getMethod ov m pl)
   callWith pos f first (backTo pos (starEach (e::es) X.env)) (backToKw pos (keywordEach [] X.env))):=by rfl) :
  PE X (.Call (.Attribute o m apos) (e::es) [] pos) (lE (rX (BX P w K mg base n m) m to ta)):=by
 subst hP hw hK hm hb;exact cm3 ho hr ha de bN ht
end
theorem GJ:∀m∈Mf.aF,1<=Mf.bl m.2/\Mf.bl m.2<=7:=by decide +kernel
end L3
namespace L3
open PySem L2 Mf
def gp(m:Bool × Nat)(a b:Nat):Nat:=if m.1 then a ^^^ b else(a+b)%m.2
def gl(m:Bool × Nat)(a b:Nat):Int:=if m.1 then(a ^^^ b:Nat)else((a:Int)-b)%m.2
def gd(m:Bool × Nat)(xs ys:List Nat):Nat:=(cT (gm m) xs ys).foldl (gp m) 0
def pk(c:Int):Bool × Nat:=if c%2=0 then(true,gK.getD (c/2%21).toNat 0)else(false,nN.getD (c/2%18).toNat 0)
theorem cf0(c:Int):pk c∈aF:=by
 unfold pk
 split
 ·refine eV _ (bD.mpr ⟨_,?_,rfl⟩)
  have h:(c/2%21).toNat<gK.length:=by
   have:=hV (c/2) (show(0:Int)<21 by decide)
   show _<21
   omega
  rw[aT,aP h]
  exact dz _
 ·refine cZ _ (bD.mpr ⟨_,?_,rfl⟩)
  have h:(c/2%18).toNat<nN.length:=by
   have:=hV (c/2) (show(0:Int)<18 by decide)
   show _<18
   omega
  rw[aT,aP h]
  exact dz _
def dk(m:Bool × Nat):D:=.tup [.bl m.1,.int m.2]
theorem vE(cb cp:Addr)(m:Bool × Nat):fD cb cp m=.obj (if m.1 then cb else cp) (if m.1 then iB "bits"++[("products":Str)]else iB "prime") (if m.1 then pD (true,m.2)++[.lst false (nQ (fl (true,m.2)) (eI (fl (true,m.2))))]else pD (false,m.2)):=by
 obtain⟨k,n⟩:=m
 cases k<;>rfl
theorem RN(m:Bool × Nat)(x:Str)(h:x ∉ (["bits","prime","many","wide","powers","logs","step","products"]:List Str)):x ∉ (if m.1 then iB "bits"++[("products":Str)]else iB "prime"):=by
 obtain⟨k,n⟩:=m
 intro z
 apply h
 cases k
 ·have z:x∈iB "prime":=z
  simp[iB]at z
  simp only[cu]
  rcases z with z | z | z | z | z | z<;>simp[z]
 ·have z:x∈iB "bits"++[("products":Str)]:=z
  simp[iB]at z
  simp only[cu]
  rcases z with z | z | z | z | z | z | z<;>simp[z]
theorem BY(cb cp:Addr)(m:Bool × Nat):(fD cb cp m).sh=fD cb cp m:=by rw[vE];rfl
theorem RO(cb cp:Addr)(m:Bool × Nat):(fD cb cp m).pl=true:=by rw[vE];rfl
theorem co1(m:Bool × Nat):(dk m).sh=dk m:=rfl
theorem cm1(m:Bool × Nat):(dk m).pl=true:=rfl
def RP(P:Program)(w:World)(K:PySem.W.Frag)(mg:Str->Option Value)(base:Heap)(n:Nat)(cb cp:Addr)(m:Bool × Nat)(x:Str)(ds:List D)(Q:D->Prop):Prop:=∃C ns xs sp,fD cb cp m=.obj C ns xs/\jN P w K mg base n x C sp/\x ∉ ns/\sp (.obj C ns xs::ds) Q
theorem RQ{p:Nat}(hp:0<p):∀(l:List Nat) (acc:Nat),acc<p->l.foldl (gp (false,p)) acc=(acc+l.sum)%p
 | [],acc,h=>by simp[wM h]
 | x::l,acc,h=>by
  rw[tD,show gp (false,p) acc x=(acc+x)%p from rfl,RQ hp l _ (tM _ hp),NY]
  show((acc+x)%p+l.sum)%p=_
  rw[wN,D6]
theorem RU(p:Nat):∀xs ys:List Nat,(cT (gm (false,p)) xs ys).sum%p=(cT (· * ·) xs ys).sum%p
 | [],_=>by simp
 | _::_,[]=>by simp
 | x::xs,y::ys=>by
  simp only[NZ,NY]
  show(x*y%p+_)%p=_
  rw[wN,Nat.add_mod,RU p xs ys,<- Nat.add_mod]
theorem RV:∀xs ys:List Nat,(cT (· * ·) (xs.map λ(n:Nat)=>(n:Int)) (ys.map λ(n:Nat)=>(n:Int))).sum=(((cT (· * ·) xs ys).sum:Nat):Int)
 | [],_=>by simp
 | _::_,[]=>by simp
 | x::xs,y::ys=>by
  simp only[dn,NZ,NY]
  rw[RV xs ys,D8,tN]
theorem pq(m:Bool × Nat)(a b:Nat):gp m a b=gp m b a:=by
 unfold gp
 split
 ·rw[ND]
 ·rw[NB]
theorem GK(m:Bool × Nat)(a b c:Nat):gp m (gp m a b) c=gp m a (gp m b c):=by
 unfold gp
 split
 ·rw[pY]
 ·rw[wN,Nat.add_mod_mod,D6]
theorem GL{m:Bool × Nat}(h:0<m.2)(a b c:Nat):gm m (gp m a b) c=gp m (gm m a c) (gm m b c):=by
 unfold gm gp
 split
 ·rw[oE,BR (by omega)]
 ·rw[wL,NV,<- wL,Nat.add_mul,wN,Nat.add_mod_mod]
theorem RW{m:Bool × Nat}(h:0<m.2)(a b c:Nat):gm m c (gp m a b)=gp m (gm m c a) (gm m c b):=by rw[iP,GL h,iP m a,iP m b]
theorem ca8:∀m∈aF,m.1=true->2<=bl m.2:=by decide +kernel
theorem RX{m:Bool × Nat}(hm:m∈aF){a b:Nat}(ha:a<ae m)(hb:b<ae m):gp m a b<ae m:=by
 have h0:=dj m hm
 obtain⟨k,n⟩:=m
 cases k with
 | true=>exact by4 ha hb
 | false=>exact tM _ h0
theorem dy{m:Bool × Nat}(hm:m∈aF)(a b:Nat):gm m a b<ae m:=by
 have h0:=dj m hm
 obtain⟨k,n⟩:=m
 cases k with
 | true =>
  have h2:=ca8 (true,n) hm rfl
  have:=(xx (show n≠0 by have:0<n:=h0;omega) (cl a b)).2
  refine(RF rfl).mpr ?_
  show bl (md (cl a b) n)<=bl n-1
  omega
 | false=>exact tM _ h0
theorem RY{m:Bool × Nat}{a:Nat}(ha:a<ae m):gp m 0 a=a:=by
 obtain⟨k,n⟩:=m
 cases k with
 | true=>exact oj a
 | false=>show(0+a)%n=a;rw[N0];exact wM ha
theorem yT{m:Bool × Nat}{a:Nat}(ha:a<ae m):gp m a 0=a:=by rw[pq];exact RY ha
theorem cG9{m:Bool × Nat}(hm:m∈aF){a b:Nat}(ha:a<ae m)(hb:b<ae m):∃r:Nat,gl m a b=r/\r<ae m/\gp m r b=a:=by
 have h0:=dj m hm
 obtain⟨k,n⟩:=m
 cases k with
 | true=>exact⟨a ^^^ b,rfl,by4 ha hb,by show a ^^^ b ^^^ b=a;rw[pY,Ah,lJ]⟩
 | false =>
  have h0:0<n:=h0
  have ha:a<n:=ha
  have hb:b<n:=hb
  refine⟨(a+(n-b))%n,?_,tM _ h0,?_⟩
  ·show((a:Int)-b)%n=_
   rw[oo,D8,Int.natCast_sub (by omega),show((a:Int)+((n:Int)-b))=((a:Int)-b)+n by omega,Int.add_emod_right]
  ·show((a+(n-b))%n+b)%n=a
   rw[wN,show a+(n-b)+b=a+n by omega,Nat.add_mod_right,wM ha]
def eS(m:Bool × Nat)(n:Int):Nat:=(pw m (n%((ae m:Int)-1)).toNat).toNat
theorem vF{m:Bool × Nat}(hm:m∈aF)(n:Int):1<=eS m n/\eS m n<ae m/\lg m (eS m n)=n%((ae m:Int)-1)/\pw m (n%((ae m:Int)-1)).toNat=eS m n:=by
 have eY:=(di hm).lo
 have n0:=gR n (show(ae m:Int)-1≠0 by omega)
 have n1:=hV n (show(0:Int)<(ae m:Int)-1 by omega)
 obtain⟨p1,p2,p3⟩:=BS hm (k:=(n%((ae m:Int)-1)).toNat) (by omega)
 unfold eS
 rw[p3]
 omega
theorem cM8{m:Bool × Nat}(hm:m∈aF)(n:Int):eS m n<ae m:=(vF hm n).2.1
theorem cJ3{m:Bool × Nat}(hm:m∈aF)(a b:Int):gm m (eS m a) (eS m b)=eS m (a+b):=by
 obtain⟨a1,a2,a3,_⟩:=vF hm a
 obtain⟨b1,b2,b3,_⟩:=vF hm b
 have e:=GG hm a1 a2 b1 b2
 rw[a3,b3,<- Int.add_emod]at e
 have c:=(vF hm (a+b)).2.2.2
 rw[c]at e
 omega
theorem RZ{m:Bool × Nat}(hm:m∈aF){a:Nat}(h1:1<=a)(h2:a<ae m):eS m (lg m a)=a:=by
 obtain⟨g0,g1,g2⟩:=BU hm h1 h2
 unfold eS
 rw[NX g0 g1,g2];rfl
theorem R0{m:Bool × Nat}(hm:m∈aF)(n:Int):(fl m)[(n%((ae m:Int)-1)).toNat]?=some ((eS m n:Nat):Int):=by
 have hF:=di hm
 have eY:=hF.lo
 have n0:=gR n (show(ae m:Int)-1≠0 by omega)
 have n1:=hV n (show(0:Int)<(ae m:Int)-1 by omega)
 have hk:(n%((ae m:Int)-1)).toNat<(fl m).length:=by have:=hF.len;omega
 rw[<-(vF hm n).2.2.2]
 unfold pw
 rw[aT,aP hk];rfl
theorem cG5{m:Bool × Nat}(hm:m∈aF){a b:Nat}(a1:1<=a)(a2:a<ae m)(b1:1<=b)(b2:b<ae m):gm m a b≠0:=by
 rw[<-RZ hm a1 a2,<- RZ hm b1 b2,cJ3 hm]
 have:=(vF hm (lg m a+lg m b)).1
 omega
end L3
namespace L2
open PySem PySem.Spec PyProof.Rows
section
variable{X:Cx}{a:Expr}{ta:TA}{p pos:Pos}{tg:Expr}
end
end L2
namespace L3
open PySem L2 PySem.Spec PyProof.Rows
section
variable{F H:Hp}{K:PySem.W.Frag}{p:Addr}{ws:List V}{xs:List D}
end
section
variable{X:Cx}{a:Expr}{ta:cH}{p pos:Pos}{tg:Expr}
end
end L3
namespace L3
open PySem L2 Mf
def AllLt(n:Nat)(l:List Nat):Prop:=∀a∈l,a<n
theorem AllLt.getD{n:Nat}{l:List Nat}(h:AllLt n l)(h0:0<n)(k:Nat):l.getD k 0<n:=by
 rw[aT]
 cases e:l[k]? with
 | none=>exact h0
 | some v=>exact h v (tf e)
end L3
namespace L3
open PySem L2 PySem.Spec PyProof.Rows
theorem b41(n:Nat)(l:List Nat):(ak l).all (dP n)=true:=by
 rw[cA,mU,dr]
 intro a _
 exact rG n _
theorem mD(n:Nat)(o:Bool)(l:List Nat):dP (n+1) (.lst o (ak l))=true:=b41 n l
theorem rZ(o o':Bool)(a b:List Nat):bF (.lst o (ak a)) (.lst o' (ak b))=decide (a=b):=by
 unfold ak
 rw[vh]
 congr 1
 apply propext
 constructor
 ·intro h
  have:=congrArg (qa fG) h
  have e:(fG ∘ λ(n:Nat)=>(n:Int))=id:=by funext x;rfl
  rw[cw,cw,e,List.map_id,List.map_id]at this
  exact this
 ·intro h;rw[h]
theorem nR{l:List Nat}{k:Int}(h0:0<=k)(h:k.toNat<l.length):eE (ak l) k=some (.int ((l.getD k.toNat 0:Nat):Int)):=by
 refine m5 h0 ?_
 rw[cA,cj,aP h,aT,aP h];rfl
theorem se{n:Nat}{k:Int}(h0:0<=k)(h:k.toNat<n):gY n k=some k.toNat:=by
 unfold gY
 rw[if_pos h0,if_pos (by omega)]
theorem pz{n:Nat}(k:Int)(h:k=n):(((aL k.toNat).map λ(k:Nat)=>D.int (0+(k:Int))).map D.sh)=(aL n).map λ(i:Nat)=>D.int (i:Int):=by
 subst h
 rw[xN,gQ]
 simp
theorem R1(l:List Nat)(k v:Nat):(ak l).set k (.int (v:Nat))=ak (l.set k v):=by
 rw[cA,cA,wQ]
theorem cd0(l:List Nat):(ak l).all D.fr=true:=rE _
theorem yU(o:Bool)(l:List Nat):(D.lst o (ak l)).sh=.lst false (ak l):=by rw[dM,rL]
theorem g9(l:List Nat):(D.lst true (ak l)).fr=true:=by rw[fJ,cd0];rfl
theorem cr9{xs:List D}{i:Nat}{d:D}(h:(fM xs)[i]?=some d):∃hi:i<xs.length,d=.tup [.int i,xs[i]]:=by
 have hi:i<(fM xs).length:=(iX.mp h).1
 rw[rH]at hi
 refine⟨hi,?_⟩
 unfold fM at h
 rw[An,aP hi]at h
 exact(cS h).symm
theorem cd6{l:List Nat}{i:Nat}{d:D}(h:(fM (ak l))[i]?=some d):∃hi:i<l.length,d=.tup [.int i,.int (l[i]:Nat)]:=by
 obtain⟨hi,e⟩:=cr9 h
 rw[dW]at hi
 refine⟨hi,?_⟩
 rw[e]
 simp only[cA,wR]
theorem cc2{a:Int}{n i:Nat}{d:D}(h:((aL n).map λ(k:Nat)=>D.int (a+(k:Int)))[i]?=some d):i<n/\d=.int (a+i):=by
 have hi:i<n:=by
  have:=(iX.mp h).1
  simpa using this
 refine⟨hi,?_⟩
 rw[cj,jY hi]at h
 exact(cS h).symm
section
variable{X:Cx}
end
end L3
namespace L3
open PySem L2 Mf
def bO(m:Bool × Nat)(a b:Nat):Nat:=(gl m a b).toNat
theorem mE{m:Bool × Nat}(hm:m∈aF){a b:Nat}(ha:a<ae m)(hb:b<ae m):gl m a b=(bO m a b:Nat)/\bO m a b<ae m/\gp m (bO m a b) b=a:=by
 obtain⟨r,e,h1,h2⟩:=cG9 hm ha hb
 have:bO m a b=r:=by unfold bO;rw[e];rfl
 rw[this]
 exact⟨e,h1,h2⟩
theorem GN{n:Nat}{f:Nat->Nat->Nat}:∀{a b:List Nat},(∀x∈a,∀y∈b,f x y<n)->AllLt n (cT f a b)
 | [],_,_=>by intro x hx;simp at hx
 | _::_,[],_=>by intro x hx;simp at hx
 | x::a,y::b,h=>by
  intro z hz
  rw[NZ]at hz
  rcases cu.mp hz with rfl | hz
  ·exact h x (by simp) y (by simp)
  ·exact GN (λx hx y hy=>h x (by simp[hx]) y (by simp[hy])) z hz
theorem bV5(xs ys:List Nat):(dE (ak xs) (ak ys)).map D.sh=(xs.zip ys).map λz=>D.tup [.int (z.1:Int),.int (z.2:Int)]:=by
 unfold ak
 rw[RK,List.zip_map,cw];rfl
theorem GO{sh:Bool}{aD:List (Str × Nat)}{n i1 i2:Nat}{te:aN}{ao:Dl}{Q:D->Dl->Prop}(f:Nat->Nat->Nat){A B:List Nat}(hx:∀x∈A,∀y∈B,jL i1 i2 (.tup [.int (x:Int),.int (y:Int)]) (gx aD n ao) λaS=>te aS λd _=>d=.int ((f x y:Nat):Int))
  (hl:A.length<=100000) (hq:Q (.lst true (ak (cT f A B))) ao):uI sh (dE (ak A) (ak B)) aD n (jL i1 i2) mn te ao Q:=by
 refine GH (A.zip B) (λz=>D.tup [.int (z.1:Int),.int (z.2:Int)]) (λz=>D.int ((f z.1 z.2:Nat):Int)) (bV5 A B) (λa b h=>?_) (λz hz=>hx z.1 (s8 hz).1 z.2 (s8 hz).2) GI (.inr λ_ _=>rfl) (by rw[Ea,sL];omega) ?_
 ·injection h with h
  simp at h
  exact Prod.ext (by omega) (by omega)
 ·rw[show((A.zip B).map λz=>D.int ((f z.1 z.2:Nat):Int))=ak (cT f A B) by rw[cA,List.zip,D7,D7]]
  exact hq
end L3
namespace L3
open PySem L2 PySem.Spec PyProof.Rows
theorem aq.da1{B:Bs}{F H:Hp}{σ:L2.St}{δ:Dl}{ps ts:List (D × V)}{p:Addr}{o:HO}{A1:List Addr}(c:aq B F H σ δ (ps++ts))(hp:H p=none)(r:R F (upd H p o) (ps.map (·.1)) (ps.map (·.2)) A1):p ∉ A1:=λh=>by
 obtain⟨A,C,r0,_,_,_⟩:=c.own
 rw[fo,fo]at r0
 obtain⟨v1,v2,B1,B2,e,rfl,h1,h2⟩:=R.split r0
 have l1:(ps.map (·.2)).length=v1.length:=by rw[<-h1.length];simp
 obtain⟨rfl,rfl⟩:=wH e l1
 have g1:=h1.grow (af.refl F) (af.upd (o:=o) hp) λa ha=>(h1.lists a ha).2
 have:A1=B1:=R.inj r g1
 subst this
 obtain⟨ws,e⟩:=(h1.lists p h).1
 rw[hp]at e;cases e
theorem aq.join{B:Bs}{F H:Hp}{σ:L2.St}{δ:Dl}{ts:List (D × V)}{p p' r:Addr}{xs ys:List D}{ws gI:List V}(c:aq B F H σ δ ((.lst true ys,.ref p')::(.lst true xs,.ref p)::ts))(e1:H p=some (.lst ws))(e2:H p'=some (.lst gI))(hr:H r=none) :
  aq B F (upd H r (.lst (ws++gI))) σ δ ((.lst true (xs++ys),.ref r)::ts):=by
 refine aq.pack (ps:=[(.lst true ys,.ref p'),(.lst true xs,.ref p)]) c (af.upd hr) λA1 r1 nd=>?_
 have nin:=aq.da1 (ps:=[(.lst true ys,.ref p'),(.lst true xs,.ref p)]) (ts:=ts) c hr r1
 have n1:p≠r:=λz=>by rw[z,hr]at e1;cases e1
 have n2:p'≠r:=λz=>by rw[z,hr]at e2;cases e2
 have r1:R F (upd H r (.lst (ws++gI))) [.lst true ys,.lst true xs] [.ref p',.ref p] A1:=r1
 cases r1 with
 | @own _ wy _ Ay _ _ By hy fy ry rb =>
  cases rb with
  | @own _ wx _ Ax _ _ Bx hx fx rx rc =>
   cases rc
   rw[aZ n2,e2]at hy;cases hy
   rw[aZ n1,e1]at hx;cases hx
   refine⟨r::(Ax++Ay),by simpa using R.own bJ (c.ext.free hr) (rx.append ry) .nil,?_,λa ha=>?_⟩
   ·refine jV.mpr ⟨λz=>nin ?_,?_⟩
    ·rcases bX.mp z with z | z<;>simp[z]
    ·have sl:(Ay++Ax).Sublist (p'::Ay++(p::Ax++[])):=by
      rw[fm]
      exact(((Xf p Ax).append_left Ay).trans (Xf p' _))
     exact om.nodup_iff.mp (nd.sublist sl)
   ·simp only[cu,bX]at ha ⊢
    rcases ha with rfl | ha | ha
    ·exact .inr hr
    ·simp[ha]
    ·simp[ha]
section
variable{X:Cx}{a b:Expr}{ta tb:aN}{pos:Pos}
def vG(ta tb:aN):aN:=λδ Q=>ta δ λx ao=>tb ao λy aS=>∃xs ys,x=.lst true xs/\y=.lst true ys/\xs.length+ys.length<=sizeLine/\Q (.lst true (xs++ys)) aS
theorem cA2(ha:PE X a (lE ta))(hb:PE X b (lE tb)):PE X (.BinOp a .Add b pos) (lE (vG ta tb)) :=
 du (xm O2 ha hb) λσ H Q ⟨B,F,δ,ts,Qd,c,q,k⟩ =>
  ⟨B,F,δ,ts,_,c,q,λx ao v F1 H1 q1 f1 h1 c1=>⟨B,F1,ao,(x,v)::ts,_,c1,q1,λy aS w F2 H2 q2 f2 h2 c2=>by
   obtain⟨xs,ys,rfl,rfl,hz,hq⟩:=q2
   obtain⟨p',gI,rfl,e2,s2⟩:=jm c2.top c2.ext
   obtain⟨p,ws,rfl,e1,s1⟩:=jm c2.pop.top c2.ext
   refine⟨p,p',ws,gI,rfl,rfl,e1,e2,by rw[<-s1.length,<- s2.length];exact hz,λr hr=>?_⟩
   exact k _ aS _ F2 _ hq (f1.trans f2) ((h1.trans h2).trans (af.upd hr)) (c2.join e1 e2 hr)⟩⟩
end
theorem bW2{a b:List Nat}(h:ak a=ak b):a=b:=by
 have:=rZ true true a b
 rw[h,show bF (D.lst true (ak b)) (D.lst true (ak b))=true from(rZ _ _ _ _).trans (decide_eq_true rfl)]at this
 exact of_decide_eq_true this.symm
theorem mF{o:Bool}(a b:List Nat)(h:D.lst o (ak a)=D.lst o (ak b)):a=b:=bW2 (by injection h)
end L3
namespace L3
open PySem L2 Mf
end L3
namespace L2
open PySem PySem.Spec PyProof.Rows
end L2
namespace L3
open PySem L2 PySem.Spec PyProof.Rows Mf
end L3
namespace L3
open PySem L2 Mf
def cf(l:List Nat)(k:Nat):Nat:=l.getD k 0
theorem vH{l:List Nat}{k:Nat}(h:l.length<=k):cf l k=0:=by
 unfold cf;rw[aT,gj h];rfl
theorem fO{m:Bool × Nat}(hm:m∈aF){l:List Nat}(h:AllLt (ae m) l)(k:Nat):cf l k<ae m:=h.getD (by have:=(di hm).lo;omega) k
theorem R3(m:Bool × Nat)(x:Nat):bO m x x=0:=by
 obtain⟨k,n⟩:=m
 cases k with
 | true=>show(((x ^^^ x:Nat):Int)).toNat=0;rw[Ah];rfl
 | false=>show(((x:Int)-(x:Int))%(n:Int)).toNat=0;rw[Int.sub_self,Int.zero_emod];rfl
end L3
namespace L3
open PySem L2 PySem.Spec PyProof.Rows
section
variable{B:Bs}{F H:Hp}{σ:L2.St}{δ:Dl}{ts ps:List (D × V)}{i k:Nat}{p q:Addr}{l1 l2 ys qF:List D}{ws iy:List V}
end
section
variable{X:Cx}{F H:Hp}{e b:Expr}{pos p p2 p3 pr apos cm FW:Pos}{t ti te:aN}{x y:Str}{i j:Nat}
end
end L3
namespace L3
structure Rg(N:Nat)(p q:Nat->Nat->Nat):Prop where
 pc:∀a b,p a b=p b a
 pa:∀a b c,p (p a b) c=p a (p b c)
 mc:∀a b,q a b=q b a
 ma:∀{a b c},a<N->b<N->c<N->q (q a b) c=q a (q b c)
 dl:∀a b c,q a (p b c)=p (q a b) (q a c)
 z:∀{a},a<N->p 0 a=a
 qz:∀a,q a 0=0
 one:∀{a},a<N->q 1 a=a
 lp:∀{a b},a<N->b<N->p a b<N
 lq:∀a b,q a b<N
 ng:∀{a},a<N->∃b,b<N/\p a b=0
section
variable{N:Nat}{p q:Nat->Nat->Nat}
def sm(p:Nat->Nat->Nat):Nat->(Nat->Nat)->Nat
 | 0,_=>0
 | n+1,f=>p (sm p n f) (f n)
theorem Rg.pos(r:Rg N p q):0<N:=mR (lD _) (r.lq 0 0)
theorem Rg.z'(r:Rg N p q){a:Nat}(h:a<N):p a 0=a:=by rw[r.pc];exact r.z h
theorem Rg.can(r:Rg N p q){a b c:Nat}(ha:a<N)(hb:b<N)(hc:c<N)(h:p a c=p b c):a=b:=by
 obtain⟨d,_,e⟩:=r.ng hc
 have:=congrArg (λx=>p x d) h
 simp only[r.pa,e]at this
 rw[r.z' ha,r.z' hb]at this
 exact this
theorem Rg.cn(r:Rg N p q){a b:Nat}(ha:a<N)(hb:b<N)(h:p a b=b):a=0:=r.can ha r.pos hb (by rw[h,r.z hb])
theorem eA{f g:Nat->Nat}:∀{n:Nat},(∀j,j<n->f j=g j)->sm p n f=sm p n g
 | 0,_=>rfl
 | n+1,h=>by rw[sm,sm,eA λj hj=>h j (by omega),h n (by omega)]
theorem pB(r:Rg N p q){f:Nat->Nat}:∀{n:Nat},(∀j,j<n->f j<N)->sm p n f<N
 | 0,_=>r.pos
 | n+1,h=>r.lp (pB r λj hj=>h j (by omega)) (h n (by omega))
theorem js(r:Rg N p q){f:Nat->Nat}:∀{n:Nat},(∀j,j<n->f j=0)->sm p n f=0
 | 0,_=>rfl
 | n+1,h=>by rw[sm,js r λj hj=>h j (by omega),h n (by omega)];exact r.z r.pos
theorem Rg.four(r:Rg N p q)(a b c d:Nat):p (p a b) (p c d)=p (p a c) (p b d):=by
 rw[r.pa,r.pa,<- r.pa b,<- r.pa c,r.pc b c]
theorem sg(r:Rg N p q)(f g:Nat->Nat):∀n,sm p n (λj=>p (f j) (g j))=p (sm p n f) (sm p n g)
 | 0=>(r.z r.pos).symm
 | n+1=>by rw[sm,sg r f g n,sm,sm,r.four]
theorem si(r:Rg N p q)(c:Nat)(f:Nat->Nat):∀n,sm p n (λj=>q c (f j))=q c (sm p n f)
 | 0=>(r.qz c).symm
 | n+1=>by rw[sm,si r c f n,sm,r.dl]
theorem R4(r:Rg N p q)(F:Nat->Nat->Nat)(k:Nat):∀n,sm p n (λi=>sm p k λj=>F i j)=sm p k λj=>sm p n λi=>F i j
 | 0=>(js r λ_ _=>rfl).symm
 | n+1=>by
  rw[sm,R4 r F k n,<- sg r];rfl
theorem R5(r:Rg N p q){f:Nat->Nat}(n:Nat):∀k,(∀j,j<n+k->f j<N)->sm p (n+k) f=p (sm p n f) (sm p k λj=>f (n+j))
 | 0,h=>(r.z' (pB r λj hj=>h j (by omega))).symm
 | k+1,h=>by
  rw[<-D6,sm,R5 r n k λj hj=>h j (by omega),sm,r.pa]
end
end L3
namespace L3
section
variable{N:Nat}{p q:Nat->Nat->Nat}
end
end L3
namespace L3
open PySem L2 Mf
theorem rg{m:Bool × Nat}(hm:m∈aF):Rg (ae m) (gp m) (gm m) where
 pc:=pq m
 pa:=GK m
 mc:=iP m
 ma:=λ_ _ _=>kj (dj m hm) _ _ _
 dl:=λa b c=>RW (dj m hm) b c a
 z:=RY
 qz:=λa=>kS m a (dj m hm)
 one:=rV
 lp:=RX hm
 lq:=dy hm
 ng:=λ{a} ha=>by
  have g:=mE hm (a:=0) (b:=a) (by omega) ha
  exact⟨_,g.2.1,(pq m _ _).trans g.2.2⟩
theorem cf1(p:Nat->Nat->Nat)(l:List Nat):l.foldl p 0=sm p l.length λj=>l.getD j 0:=by
 have key:∀n,n<=l.length->(l.take n).foldl p 0=sm p n λj=>l.getD j 0:=by
  intro n
  induction n with
  | zero=>intro _;rfl
  | succ n ih =>
   intro h
   rw[mT,aP (by omega),Ao,ih (by omega),sm,aT,aP (show n<l.length by omega)]
   rfl
 have:=key l.length (bG _)
 rw[tI]at this
 exact this
theorem cx9{m:Bool × Nat}(hm:m∈aF)(f:Nat)(b:List Nat)(j:Nat):cf (b.map (gm m f)) j=gm m f (cf b j):=by
 unfold cf
 rw[aT,cj,aT]
 cases b[j]? with
 | none=>exact(kS m f (dj m hm)).symm
 | some x=>rfl
theorem R6{m:Bool × Nat}(hm:m∈aF){a b:Nat}(ha:a<ae m)(hb:b<ae m)(h0:b≠0):∃r,r<ae m/\gm m r b=a:=by
 by_cases a0:a=0
 ·exact⟨0,by have:=(di hm).lo;omega,by rw[a0];exact iC m b (dj m hm)⟩
 ·obtain⟨r,_,h1,h2⟩:=RL hm (show 1<=a by omega) ha (show 1<=b by omega) hb
  exact⟨r,h1,h2⟩
end L3
namespace L3
open PySem L2 PySem.Spec PyProof.Rows
section
variable{X:Cx}{i j:Nat}{x y:Str}{p pos pos' apos cm:Pos}
end
section
variable{X:Cx}{e:Expr}{t:aN}{p pos:Pos}
end
section
variable{X:Cx}
theorem b96(i:Int)(ns:List Int):A6 (.int i) (ns.map V.int)=decide (i∈ns):=by
 unfold A6
 rw[List.any_map,tG,NG,decide_eq_true_iff]
 exact⟨λ⟨x,hx,he⟩=>(show x=i by simpa[lY]using he) ▸ hx,λhx=>⟨i,hx,by simp[lY]⟩⟩
def sj:cU:=λx y Q=>match x,y with
 | .int i,.lst _ xs=>∃ns:List Int,xs=aG ns/\Q (.bl (!decide (i∈ns)))
 | _,_=>False
theorem cC3:bU X (compareOp .NotIn) sj :=
 ⟨_,ZN,λ{B F H σ δ ts x y v w Q Qd} c sx sy h k=>by
  unfold sj at h
  split at h
  ·rename_i i o xs
   obtain⟨ns,rfl,q⟩:=h
   obtain⟨p,ws,rfl,e1,s1⟩:=jm sy c.ext
   have e:=Gi s1
   subst e
   cases sx
   refine⟨p,_,rfl,.inl (bK.of e1),rfl,by simp[m8],?_⟩
   rw[if_pos rfl,b96]
   exact k _ _ _ q (af.refl _) (c.pushS (.bl .nil) rfl)
  ·exact h.elim⟩
end
end L3
namespace L3
open PySem L2 Mf
def ax(o:Bool)(T:List (List Nat)):List D:=T.map λr=>.lst o (ak r)
theorem km(o:Bool)(T:List (List Nat)):(ax o T).length=T.length:=by unfold ax;rw[bt]
theorem dX(o:Bool)(T:List (List Nat)):(ax o T).map D.sh=ax false T:=by
 unfold ax
 rw[cw]
 exact tL λr _=>yU o r
theorem pE(T:List (List Nat)):(ax false T).all D.pl=true:=by
 unfold ax
 rw[mU,dr]
 intro r _
 show(D.lst false (ak r)).pl=true
 rw[fW,kR];rfl
theorem pF(T:List (List Nat)):(ax true T).all D.fr=true:=by
 unfold ax
 rw[mU,dr]
 intro r _
 exact g9 r
theorem sk(o:Bool)(S T:List (List Nat)):ax o S++ax o T=ax o (S++T):=by unfold ax;rw[fo]
theorem yV(o:Bool)(T:List (List Nat))(lo hi:Option Int):fL (ax o T) lo hi=ax o (fL T lo hi):=by
 unfold ax fL
 rw[bt,NO,NN]
theorem sq(o:Bool){T:List (List Nat)}{i:Nat}(h:i<T.length):eE (ax o T) (i:Int)=some (.lst o (ak T[i])):=by
 refine L3.BC ?_
 unfold ax
 rw[cj,aP h];rfl
theorem b22(n:Nat)(o:Bool)(T:List (List Nat)):(ax o T).all (dP (n+1))=true:=by
 unfold ax
 rw[mU,dr]
 intro r _
 exact mD _ _ _
theorem vI(n:Nat)(o o':Bool)(T:List (List Nat)):dP (n+2) (.lst o (ax o' T))=true:=b22 n o' T
theorem R7(o o':Bool):∀(a b:List (List Nat)),bF.fZ (ax o a) (ax o' b)=decide (a=b)
 | [],[]=>rfl
 | [],_::_=>by simp[ax,bF.fZ]
 | _::_,[]=>by simp[ax,bF.fZ]
 | x::xs,y::ys=>by
  show(bF (.lst o (ak x)) (.lst o' (ak y))&&bF.fZ (ax o xs) (ax o' ys))=_
  rw[R7 o o' xs ys,rZ,tG];simp
theorem R8(o o' o1 o2:Bool)(a b:List (List Nat)):bF (.lst o (ax o1 a)) (.lst o' (ax o2 b))=decide (a=b):=R7 o1 o2 a b
open Classical in
theorem GP{α:Type}{sh:Bool}{xs:List D}{aD:List (Str × Nat)}{n:Nat}{g0:iu}{tt:gw}{te:aN}{ao:Dl}{Q:D->Dl->Prop}(l:List α)(e g:α->D)(kp:α->Bool)(jo:xs.map D.sh=l.map e)(inj:∀a b,e a=e b->a=b)
  (hx:∀a∈l,g0 (e a) (gx aD n ao) λaS=>tt aS λb iN=>b=kp a/\(kp a=true->te iN λd _=>d=g a)) (eG:(sh&&aD.all (jl ao))=true\/∀a∈l,kp a=true->(g a).fr=true) (hl:l.length<=sizeLine) (hq:Q (.lst true ((l.filter kp).map g)) ao):uI sh xs aD n g0 tt te ao Q:=by
 have pick:∀{β:Type} (h:α->β) (z:β),∃f:D->β,∀a∈l,f (e a)=h a:=λh z=>⟨λx=>if w:∃a∈l,e a=x then h w.choose else z,λa ha=>by
  have w:∃b∈l,e b=e a:=⟨a,ha,rfl⟩
  show(if w:∃b∈l,e b=e a then h w.choose else z)=h a
  rw[dif_pos w]
  exact congrArg h (inj _ _ w.choose_spec.2)⟩
 obtain⟨f,hf⟩:=pick g .av
 obtain⟨p,hp⟩:=pick kp false
 refine⟨p,f,λx h=>?_,eG.imp id λh x cY=>?_,?_,?_⟩
 ·rw[jo]at h
  obtain⟨a,ha,rfl⟩:=bD.mp h
  rw[hp a ha,hf a ha]
  exact hx a ha
 ·rw[jo]at cY
  obtain⟨a,ha,rfl⟩:=bD.mp cY
  rw[hp a ha,hf a ha];exact h a ha
 ·have:=congrArg DS jo
  simp at this
  omega
 ·rw[jo,List.filter_map,cw,show l.filter (p ∘ e)=l.filter kp from List.filter_congr λa ha=>hp a ha,show(l.filter kp).map (f ∘ e)=(l.filter kp).map g from tL λa ha=>hf a (sU.mp ha).1]
  exact hq
theorem R9{o:Bool}{G:List (List Nat)}{i:Nat}{d:D}(h:(fM (ax o G))[i]?=some d):∃hi:i<G.length,d=.tup [.int i,.lst o (ak G[i])]:=by
 unfold fM ax at h
 rw[An,cj]at h
 by_cases hi:i<G.length
 ·rw[aP hi]at h
  exact⟨hi,(cS h).symm⟩
 ·rw[gj (by omega)]at h;cases h
theorem GQ(r:List Nat):(fM (ak r)).map D.sh=(aL r.length).map λ(i:Nat)=>D.tup [.int (i:Int),.int ((r.getD i 0:Nat):Int)]:=by
 apply NP
 intro i
 unfold fM
 rw[cA,cj,An,cj,cj]
 by_cases hi:i<r.length
 ·have e:r.getD i 0=r[i]:=by rw[aT,aP hi];rfl
  rw[aP hi,jY hi]
  show _=some (D.tup [D.int (i:Int),D.int ((r.getD i 0:Nat):Int)])
  rw[e];rfl
 ·rw[gj (show r.length<=i by omega),gj (show(aL r.length).length<=i by simpa using hi)];rfl
theorem Sa{r:List Nat}(h:∃x∈r,x≠0):((aL r.length).filter λi=>r.getD i 0 != 0)[0]?=some (r.findIdx (· != 0)):=by
 obtain⟨x,hx,h0⟩:=h
 have hl:r.findIdx (· != 0)<r.length:=N1 ⟨x,hx,by simpa using h0⟩
 rw[<-List.head?_eq_getElem?,List.head?_filter,List.find?_range_eq_some]
 refine⟨?_,cX.mpr hl,λj hj=>?_⟩
 ·rw[aT,aP hl]
  exact Xg (w:=hl)
 ·have:=List.not_of_lt_findIdx hj
  rw[aT,aP (by omega)]
  simpa using this
def au(T:List (List Nat)):Nat:=(T.headD []).length
def jP(T:List (List Nat))(j:Nat):Option Nat:=T.findIdx? λr=>r.getD j 0 != 0
def gL(m:Bool × Nat)(T:List (List Nat))(l:List Nat)(j:Nat):List (List Nat):=T.map λr=>cT (λx y=>bO m x (gm m (r.getD j 0) y)) r l
def mG(m:Bool × Nat)(b:Nat):Nat:=((aL (ae m)).find? λr=>gm m r b==1).getD 0
theorem BZ{m:Bool × Nat}(hm:m∈aF){b r:Nat}(hr:r<ae m)(h:gm m r b=1):mG m b=r:=by
 have m0:=dj m hm
 unfold mG
 cases e:(aL (ae m)).find? λr=>gm m r b==1 with
 | none =>
  have:=N2.mp e r (cX.mpr hr)
  simp[h]at this
 | some r' =>
  have h':gm m r' b=1:=by simpa using List.find?_some e
  have l':r'<ae m:=cX.mp (NM e)
  show r'=r
  rw[<-rW hr,<- h',<- kj m0,iP m r r',kj m0,h,rW l']
def RT(N w:Nat)(T:List (List Nat)):Prop:=∀r∈T,r.length=w/\AllLt N r
theorem RT.app{N w:Nat}{S T:List (List Nat)}(a:RT N w S)(b:RT N w T):RT N w (S++T):=λr hr=>(bX.mp hr).elim (a r) (b r)
theorem Sb{m:Bool × Nat}(hm:m∈aF){w j:Nat}{T:List (List Nat)}{l:List Nat}(h:RT (ae m) w T)(hl:l.length=w):RT (ae m) w (gL m T l j):=λr hr=>by
 obtain⟨r,h1,rfl⟩:=bD.mp hr
 obtain⟨a,b⟩:=h r h1
 exact⟨by rw[i5,a,hl,Ak],GN λx hx y hy=>(mE hm (b x hx) (dy hm _ y)).2.1⟩
def eB(m:Bool × Nat)(T:List (List Nat))(i p:Nat):List Nat:=(T.getD i []).map (gm m (mG m ((T.getD i []).getD p 0)))
def iD(m:Bool × Nat)(s:List (List Nat) × List (List Nat))(p:Nat):List (List Nat) × List (List Nat):=match jP s.2 p with
 | none=>s
 | some i=>(gL m s.1 (eB m s.2 i p) p++[eB m s.2 i p],gL m (s.2.take i++s.2.drop (i+1)) (eB m s.2 i p) p)
def jQ(m:Bool × Nat)(G:List (List Nat))(k:Nat):List (List Nat) × List (List Nat):=(aL k).foldl (iD m) ([],G)
def bW(m:Bool × Nat)(G:List (List Nat)):List (List Nat):=(jQ m G (au G)).1
theorem GR(m:Bool × Nat)(G:List (List Nat))(k:Nat):jQ m G (k+1)=iD m (jQ m G k) k:=by
 unfold jQ
 rw[Eb,Ao];rfl
theorem B0{T:List (List Nat)}{j i:Nat}(h:jP T j=some i):∃hi:i<T.length,T[i].getD j 0≠0/\T.getD i []=T[i]:=by
 obtain⟨hi,h1,_⟩:=Xh.mp h
 exact⟨hi,by simpa using h1,by rw[aT,aP hi];rfl⟩
structure yW(N w n:Nat)(s:List (List Nat) × List (List Nat)):Prop where
 a:RT N w s.1
 b:RT N w s.2
 l:s.1.length+s.2.length<=n
theorem ca9{m:Bool × Nat}(hm:m∈aF){w n p:Nat}{s:List (List Nat) × List (List Nat)}(h:yW (ae m) w n s):yW (ae m) w n (iD m s p):=by
 unfold iD
 split
 ·exact h
 ·rename_i i e
  obtain⟨hi,h1,h2⟩:=B0 e
  have hl:(eB m s.2 i p).length=w:=by unfold eB;rw[bt,h2];exact(h.b _ (dz hi)).1
  have hr:RT (ae m) w [eB m s.2 i p]:=λr hr=>by
   rw[eW]at hr
   refine⟨by rw[hr];exact hl,λx hx=>?_⟩
   rw[hr]at hx
   obtain⟨y,_,rfl⟩:=bD.mp hx
   exact dy hm _ _
  refine⟨(Sb hm h.a hl).app hr,Sb hm (λr hr=>h.b r ?_) hl,?_⟩
  ·rcases bX.mp hr with hr | hr
   ·exact tJ hr
   ·exact p9 hr
  ·have:=h.l
   unfold gL
   rw[dG,bt,bt,dG,iF,lF]
   show s.1.length+1+_<=n
   omega
theorem B4{m:Bool × Nat}(hm:m∈aF){w:Nat}{G:List (List Nat)}(h:RT (ae m) w G):∀k,yW (ae m) w G.length (jQ m G k)
 | 0=>⟨(λr hr=>nomatch hr),h,Ab (N0 _)⟩
 | k+1=>by rw[GR];exact ca9 hm (B4 hm h k)
theorem cf3(j:Nat)(l:List Nat):decide ((j:Int)∈l.map λ(n:Nat)=>(n:Int))=l.contains j:=by
 rw[tG,decide_eq_true_iff,Ec,bD]
 exact⟨λ⟨a,h,e⟩=>(show a=j by omega) ▸ h,λh=>⟨j,h,rfl⟩⟩
theorem ct4{o:Bool}{G:List (List Nat)}{f:List Nat->Nat}{k:Nat}{d:D}(h:(dE (ak (G.map f)) (ax o G))[k]?=some d):∃hk:k<G.length,d=.tup [.int ((f G[k]:Nat):Int),.lst o (ak G[k])]:=by
 unfold dE ax at h
 rw[cA,mX,cj,cj,cj]at h
 by_cases hk:k<G.length
 ·rw[aP hk]at h
  exact⟨hk,(cS h).symm⟩
 ·rw[gj (by omega)]at h;cases h
theorem Sd{α:Type}(a:α->Nat)(b:α->Nat):∀(l:List α) (x:List Nat),(l.foldl (λx z=>x.set (a z) (b z)) x).length=x.length
 | [],_=>rfl
 | z::l,x=>by rw[tD,Sd a b l,jX]
end L3
namespace L2
open PySem PySem.Spec PyProof.Rows
theorem bS7{M:Model}{A:Around}{E:Value->Shared->Prop}{s:Shared}{scope:Scope}{globals:Addr}{cl:List (Str × Addr)}{qual:Str}{env:Env}{bi:Addr}{Q:Env->Shared->Prop}
  (hQ:Q (newEnv scope s.heap.objs.size globals (cellsFrom (s.heap.objs.size+1) scope.names cl) qual none .none (some env) bi) { s with heap:=pushCells (s.heap.push { cls:=.type "dict",data:=.dict #[] }) scope.names }) :
  wpAny M A (newFunctionEnv scope globals cl [] qual none .none (some env) bi) Q E s:=by
 simp only[newFunctionEnv,Option.isSome_some,if_true]
 refine wpAny_bind (wpAny_alloc (wpAny_bind (wpAny_layCells _ (λname kind cells=>by cases e:kind==Ee<;>simp[e]) _ _ _ _ ?_)))
 rw[List.forIn_nil]
 refine wpAny_bind (wpAny_pure (wpAny_pure ?_))
 have z:({ s with heap:=s.heap.push { cls:=.type "dict",data:=.dict #[] } }:Shared).heap.objs.size=s.heap.objs.size+1:=sZ ..
 rw[z]
 exact hQ
theorem yX:∀(ns:List (Str × NameKind)) (n:Nat) (acc:List (Str × Addr)) (y:Str) (c:Addr),(cellsFrom n ns acc).lookup y=some c->(n<=c/\(y,Ee)∈ns)\/acc.lookup y=some c
 | [],_,_,_,_,h=>.inr h
 | (z,k)::r,n,acc,y,c,h=>by
  unfold cellsFrom at h
  split at h
  ·rename_i hk
   rcases yX r (n+1) _ y c h with⟨h1,h2⟩ | h1
   ·exact .inl ⟨by omega,gi _ h2⟩
   ·rw[fU]at h1
    cases q:y==z with
    | true =>
     rw[q]at h1;cases h1
     exact .inl ⟨bG _,by rw[eq_of_beq q,eq_of_beq hk];exact iW⟩
    | false=>rw[q]at h1;exact .inr h1
  ·rcases yX r n acc y c h with⟨h1,h2⟩ | h1
   ·exact .inl ⟨h1,gi _ h2⟩
   ·exact .inr h1
theorem GS:∀(ns:List (Str × NameKind)) (n:Nat) (acc:List (Str × Addr)),(∀y z c,acc.lookup y=some c->acc.lookup z=some c->y=z)->(∀y c,acc.lookup y=some c->c<n) ->
  ∀y z c,(cellsFrom n ns acc).lookup y=some c->(cellsFrom n ns acc).lookup z=some c->y=z
 | [],_,_,i,_,y,z,c,h1,h2=>i y z c h1 h2
 | (u,k)::r,n,acc,i,b,y,z,c,h1,h2=>by
  unfold cellsFrom at h1 h2
  split at h1
  ·rw[if_pos (by assumption)]at h2
   refine GS r (n+1) ((u,n)::acc) (λy z c e1 e2=>?_) (λy c e=>?_) y z c h1 h2
   ·rw[fU]at e1 e2
    cases q1:y==u with
    | true =>
     rw[q1]at e1;cases e1
     cases q2:z==u with
     | true=>rw[eq_of_beq q1,eq_of_beq q2]
     | false=>rw[q2]at e2;exact absurd (b _ _ e2) (gF _)
    | false =>
     rw[q1]at e1
     cases q2:z==u with
     | true=>rw[q2]at e2;cases e2;exact absurd (b _ _ e1) (gF _)
     | false=>rw[q2]at e2;exact i y z c e1 e2
   ·rw[fU]at e
    cases q:y==u with
    | true=>rw[q]at e;cases e;exact Ac _
    | false=>rw[q]at e;exact NS (b _ _ e)
  ·rw[if_neg (by assumption)]at h2
   exact GS r n acc i b y z c h1 h2
theorem GU:∀(ns:List (Str × NameKind)) (n:Nat) (acc:List (Str × Addr)) (y:Str) (c:Addr),(y,Ee)∈ns->(cellsFrom n ns acc).lookup y=some c->n<=c
 | [],_,_,_,_,m,_=>nomatch m
 | (z,k)::r,n,acc,y,c,m,h=>by
  unfold cellsFrom at h
  split at h
  ·rename_i hk
   rcases cu.mp m with e | m
   ·have e1:y=z:=(Prod.mk.inj e).1
    rcases yX r (n+1) _ y c h with⟨h1,_⟩ | h1
    ·exact Ap h1
    ·rw[fU,e1,beq_self_eq_true]at h1
     exact Ab (cS h1)
   ·exact Ap (GU r (n+1) _ y c m h)
  ·rename_i hk
   rcases cu.mp m with e | m
   ·cases e;exact absurd rfl hk
   ·exact GU r n acc y c m h
def dF(X:Cx)(scope:Scope)(N:List Str)(cl:List (Str × Addr))(C:Addr)(s:Shared)(H:Hp)(fp:List Addr):Cx :=
 { Bd X scope N (cellsFrom (C+1) scope.names cl) C s H fp with fn:=λy=>scope.names.contains (y,Ee) }
section
variable{X:Cx}{scope:Scope}{cl:List (Str × Addr)}
theorem b84{pins:List (Addr × Obj)}{σ:St}{H:Hp}{s:Shared}{fp:List Addr}{C:Addr}(I:Inv X pins σ H s)(ij:scope.kind=.function)(hC:s.heap.objs.size<=C)
  (gC:∀y c,cl.lookup y=some c->X.env.cells.lookup y=some c) (db6:∀y,((relabel scope X.env).names.lookup y=some .cell\/(relabel scope X.env).names.lookup y=some .free)->∃c,(cellsFrom (C+1) scope.names cl).lookup y=some c)
  (hf:∀b∈fp,i9 X pins H b) (ho:∀b∈fp,∃o,s.heap.get? b=some o/\∀v,o.data≠.cell v) (N:List Str):(dF X scope N cl C s H fp).Ok where
 mod:=I.ok.mod
 kind:=ij
 glob:=I.ok.glob
 blt:=I.ok.blt
 above:=hC
 inj:=GS scope.names (C+1) cl (λy z c h1 h2=>I.ok.inj y z c (gC _ _ h1) (gC _ _ h2)) λy c e=>by
  obtain⟨v,o,ho,_⟩:=I.cell y c (gC y c e)
  exact Nat.lt_succ_of_le (z7 (dm (bP ho) hC))
 has:=db6
 qh:=λy c h e=>fk hC (Ap (GU _ _ _ y c (Ec.mp h) e))
 hd:=I.ok.hd
 frames:=I.ok.frames
 wX:=.inl rfl
 wY:=λb hb=>⟨by
  obtain⟨o,e,_⟩:=ho b hb
  exact fg (dm (bP e) hC),λy c e z=>by
  rcases yX _ _ _ y c e with⟨h1,_⟩ | h1
  ·obtain⟨o,e,_⟩:=ho b hb
   rw[z]at h1
   exact absurd (dm (bP e) (fk hC (Ap h1))) (gF _)
  ·exact(hf b hb).2.2.2.2.1 y c (gC _ _ h1) z⟩
 bs:=I.bs
 j4:=fk I.ok.j4 I.sz
 tP:=λb o e hb=>by
  rcases(hf b hb).2.2.2.1 with z | z
  ·exact I.ok.tP b o e z
  ·exact absurd (dm (bP (I.ok.bs b o e).1) z) (gF _)
 tQ:=λb hb z=>(cu.mp (I.AG b z)).elim (hf b hb).2.1 (hf b hb).2.2.1
 gS:=I.stack
 j5:=I.Ei
end
theorem GV:∀(ns:List (Str × NameKind)) (h:Heap) (acc:List (Str × Addr)) (y:Str) (c:Addr),(cellsFrom h.objs.size ns acc).lookup y=some c->(∃o,(pushCells h ns).get? c=some o/\o.data=.cell none)\/acc.lookup y=some c
 | [],_,_,_,_,e=>.inr e
 | (z,k)::r,h,acc,y,c,e=>by
  unfold cellsFrom at e
  unfold pushCells
  split at e
  ·rename_i hk
   rw[if_pos hk]
   rw[<-sZ h { cls:=.type "cell",data:=.cell none }]at e
   rcases GV r _ _ y c e with h1 | h1
   ·exact .inl h1
   ·rw[fU]at h1
    cases q:y==z with
    | true =>
     rw[q]at h1;cases h1
     exact .inl ⟨_,pushCells_keeps _ _ _ _ (gG _ rfl),rfl⟩
    | false=>rw[q]at h1;exact .inr h1
  ·rename_i hk
   rw[if_neg hk]
   exact GV r h acc y c e
end L2
namespace L2
open PySem PySem.Spec PyProof.Rows
section
variable{X:Cx}{elt iter tg:Expr}{pos:Pos}{ifs:List Expr}{scope:Scope}{cl:List (Str × Addr)}{wi:TI}{tt:TT}{te:TE}{g:TG}
theorem Se(aD:List (Str × Nat))(bH:List Str)(hc:X.calm=true)(hi:PI X tg iter wi)
  (hg:∀C s H fp,PG (dF X scope (aD.map (·.1)++bH) cl C s H fp) tg g)
  (ht:∀C s H fp,l7 (dF X scope (aD.map (·.1)++bH) cl C s H fp) ifs tt) (he:∀C s H fp,PE (dF X scope (aD.map (·.1)++bH) cl C s H fp) elt te)
  (kU:closureFor scope X.env=pure cl) (kW:l9 X cl) (kX:∀C:Addr,mf (cellsFrom (C+1) scope.names cl) (relabel scope X.env).names) (kY:∀C:Addr,l6 X scope (cellsFrom (C+1) scope.names cl) aD)
  (ij:scope.kind=.function) (kZ:∀y∈scope.names,y.2=.local->scope.names.lookup y.1=some .local)
  (hs:∀x,foldedSetIterable iter X.env x=pure x:=by intro _;rfl) {pins:List (Addr × Obj)} {s:Shared} {σ:L2.St} {H:Hp} {Q:VK} {use:Option (Value->Sem Unit)} {cm:Pos} {Rf:Value->Shared->Prop} (I:Inv X pins σ H s) (h:Bf wi aD bH.length g tt te σ H Q)
  (db7:∀(s':Shared) (H':Hp) (C Da:Addr) (m:Str->Option Value),Inv X pins σ H' s'->s'.heap.Ns C m->H' C=none->C≠X.env.locals->X.cM.heap.objs.size<=C->(∀x c,X.env.cells.lookup x=some c->c≠C)->(∀p∈X.pn++pins,p.1≠C)->C ∉ X.fs->Q (.ref Da) H' ->
   compPost (model X.prog X.w) X.A X.xe use Rf (.ref Da) C (.ok .next) s') :
  wpAny (model X.prog X.w) X.A (comprehension (.ListComp elt [⟨tg,iter,ifs,0⟩] scope pos) scope X.env cm (newList []) false (eval iter X.env) use) Rf X.xe s:=by
 have gC:=kW.all
 refine wpAny_comprehension_free (use:=use) rfl hs kU ij kZ (aR (hi pins s σ H _ I h) λv s1 h1=>aR h1 λEw s2 h2=>?_)
 obtain⟨it,fp,tn,J,H2,e,I2,T,xi,f2,q⟩:=h2
 subst e
 refine wpAny_newList ?_
 refine bS7 ?_
 have hD:H2 s2.heap.objs.size=none:=I2.aK.fresh (bG _)
 obtain⟨W,⟨m0,w0⟩,turn⟩:=q s2.heap.objs.size hD
 generalize GW:s2.heap.push { cls:=.type "list",data:=.seq ([]:List Value).toArray }=g0 at ⊢
 have hCs:g0.objs.size=s2.heap.objs.size+1:=by rw[<-GW,sZ]
 have hDC:s2.heap.objs.size≠g0.objs.size:=by omega
 have hle:s2.heap.objs.size<=g0.objs.size:=by omega
 have tR:∀b o,s2.heap.get? b=some o->b≠g0.objs.size:=λb o e=>fg (dm (bP e) hle)
 obtain⟨g1,B5⟩:∃g1,g1=pushCells (g0.push { cls:=.type "dict",data:=.dict #[] }) scope.names:=⟨_,rfl⟩
 have ns1:g1.Ns g0.objs.size (λ_=>none):=by rw[B5];exact(Heap.Ns.new g0 (.type "dict")).keeps (pushCells_keeps _ _)
 have Sf:∀b o,g0.get? b=some o->g1.get? b=some o:=λb o e=>by rw[B5];exact pushCells_keeps _ _ b o (fF _ e)
 have old:∀b o,s2.heap.get? b=some o->g1.get? b=some o:=λb o e=>Sf b o (GW ▸ fF _ e)
 rw[<-B5]
 have hDg:g1.get? s2.heap.objs.size=some { cls:=.type "list",data:=.seq ([]:List Value).toArray }:=Sf _ _ (GW ▸ gG _ rfl)
 have Sg:∀b∈fp,∃o,s2.heap.get? b=some o/\∀v,o.data≠.cell v:=T.obj _ _ xi
 have B6:=b84 (scope:=scope) (cl:=cl) (C:=g0.objs.size) I2 ij hle gC (kX g0.objs.size).all f2 Sg (aD.map (·.1)++bH)
 have I4:Inv (dF X scope (aD.map (·.1)++bH) cl g0.objs.size s2 H2 fp) [] (iq aD bH.length σ) (upd H2 s2.heap.objs.size (.lst [])) { s2 with heap:=g1 }:=by
  refine⟨B6,rfl,I2.bare,Un.laid old (bG _) hD,⟨_,ns1,λi y v h1 h2 h3=>?_⟩,λy c e=>?_,?_,λy c e=>?_,λp hp=>absurd hp (by simp[dF,Bd]),I2.aK.laid old (bG _) ⟨lD _,[],0,.nil,hDg⟩,by simp[iq,dF,Bd]⟩
  ·by_cases GX:i<aD.length
   case neg =>
    have jD:((aD.map λp=>(σ[p.2]?).getD none)++bf bH.length none)[i]?=some (some v):=h2
    rw[kz (by simpa using GX),s9]at jD
    split at jD<;>cases jD
   case pos =>
    have j9:(aD.map (·.1))[i]?=some y:=by
     have z:(aD.map (·.1)++bH)[i]?=some y:=h1
     rwa [pV (by simpa using GX)]at z
    have jD:(aD.map λp=>(σ[p.2]?).getD none)[i]?=some (some v):=by
     have z:((aD.map λp=>(σ[p.2]?).getD none)++bf bH.length none)[i]?=some (some v):=h2
     rwa [pV (by simpa using GX)]at z
    rw[cj]at j9 jD
    cases hj:aD[i]? with
    | none=>rw[hj]at j9;cases j9
    | some p =>
     rw[hj]at j9 jD
     have ey:p.1=y:=cS j9
     have ev:(σ[p.2]?).getD none=some v:=cS jD
     obtain⟨hN,hk,Sh,c,e1,e2⟩:=(kY g0.objs.size).at p (tf hj)
     obtain⟨m,hn,hl⟩:=I2.loc
     have es:σ[p.2]?=some (some v):=by
      cases z:σ[p.2]? with
      | none=>rw[z]at ev;cases ev
      | some o=>rw[z]at ev;exact congrArg some ev
     obtain⟨u,ru,lk⟩:=hl p.2 p.1 v hN es (hk.elim (λz=>.inr (.inl z)) λz=>.inr (.inr z))
     refine⟨u,ru,?_⟩
     rcases lk with⟨lk,_⟩ | ⟨_,c',e3,ic⟩
     ·rcases hk with hk | hk
      ·have:=hk.symm.trans lk;cases this
      ·have:=hk.symm.trans lk;cases this
     ·rw[e2]at e3
      cases e3
      subst ey
      obtain⟨oc,i7,Gu⟩:=ic
      exact .inr ⟨Sh,c,e1,oc,old _ _ i7,Gu⟩
  ·rcases GV _ _ _ y c (show(cellsFrom (g0.push { cls:=.type "dict",data:=.dict #[] }).objs.size scope.names cl).lookup y=some c by rw[sZ];exact e)with h1 | h1
   ·rw[<-B5]at h1
    exact⟨none,h1⟩
   ·obtain⟨v,o,ho,hd⟩:=I2.cell y c (gC y c h1)
    exact⟨v,o,old _ _ ho,hd⟩
  ·show upd H2 _ _ g0.objs.size=none
   rw[aZ (fE hDC)]
   exact I2.aK.fresh hle
  ·rcases yX _ _ _ y c e with⟨h1,_⟩ | h1
   ·rw[aZ (Ny (mR hle h1))]
    exact I2.aK.fresh (fk hle (Ap h1))
   ·obtain⟨v,o,ho,hd⟩:=I2.cell y c (gC y c h1)
    rw[aZ (fg (bP ho))]
    exact I2.jB y c (gC y c h1)
 have fin:∀(s':Shared) (H':Hp) (aI:L2.St),Inv (dF X scope (aD.map (·.1)++bH) cl g0.objs.size s2 H2 fp) [] aI H' s'->Q (.ref s2.heap.objs.size) H' ->
   compPost (model X.prog X.w) X.A X.xe use Rf (.ref s2.heap.objs.size) g0.objs.size (.ok .next) s':=by
  intro s' H' aI I' q'
  obtain⟨m,hn,_⟩:=I'.loc
  have u:=I'.base
  have hC':H' g0.objs.size=none:=I'.free
  have IX:Inv X pins σ H' s':=I2.XH (s':=s') (ch:=fp) I'.os ⟨u.keep,u.slot,u.free,u.there,u.jZ,u.jA,u.iG⟩ I'.aK I'.bare λb hb=>by
   obtain⟨_,y1,y2,y3,y4,y5⟩:=f2 b hb
   exact⟨y3,y1,y4,y5⟩
  have Si:∀b,(∃o,s2.heap.get? b=some o)->b≠g0.objs.size:=λb ⟨o,e⟩=>tR b o e
  refine db7 s' H' g0.objs.size s2.heap.objs.size m IX hn hC' (λz=>?_) (fk I2.sz hle) (λx c e z=>?_) (λp hp z=>?_) (λz=>?_) q'
  ·have h0:X.env.locals<s2.heap.objs.size:=I2.lt
   rw[<-z]at h0
   exact gF _ (dm h0 hle)
  ·obtain⟨v,o,ho,_⟩:=I2.cell x c e
   exact Si c ⟨o,ho⟩ z
  ·exact Si p.1 ⟨_,(I2.pin p hp).1⟩ z
  ·exact I2.Oa hle z
 have GY:∀(H':Hp),(∀b∈fp,H' b=none)->∀b∈fp,i9 (dF X scope (aD.map (·.1)++bH) cl g0.objs.size s2 H2 fp) [] H' b:=λH' hn b hb =>
  ⟨hn b hb,(B6.wY b hb).1,B6.tQ b hb,.inl hb,(B6.wY b hb).2,λp hp=>absurd hp (by simp[dF,Bd])⟩
 have loop:codeAny (model X.prog X.w) X.A (.compLoop (.ListComp elt [⟨tg,iter,ifs,0⟩] scope pos) 0 (.ref it) (.ref s2.heap.objs.size) (compEnvC scope (cellsFrom (g0.objs.size+1) scope.names cl) g0.objs.size X.env))
   (compPost (model X.prog X.w) X.A X.xe use Rf (.ref s2.heap.objs.size) g0.objs.size) { s2 with heap:=g1 }:=by
  refine bI7 (λn s'=>∃i acc H',Inv (dF X scope (aD.map (·.1)++bH) cl g0.objs.size s2 H2 fp) [] (iq aD bH.length σ) H' s'/\tn i s'.heap/\(∀b∈fp,H' b=none)/\W i n acc H') ?_ m0
   ⟨0,[],_,I4,T.keep _ _ _ xi λb hb o e=>old b o e,λb hb=>?_,w0⟩
  ·rintro n s' ⟨i,acc,H',I',oB,mx,w'⟩
   obtain⟨FA,⟨stop,qn⟩ | ⟨go,step⟩⟩:=turn i n acc H' w'
   ·refine aR (T.done (dF X scope (aD.map (·.1)++bH) cl g0.objs.size s2 H2 fp) rfl rfl rfl hc i [] s' _ H' (λ_ _=>False) I' (GY H' mx) oB stop) λr t1 zz=>?_
    obtain⟨hr,I1⟩:=zz
    subst hr
    exact fin _ _ _ I1 qn
   ·refine aR (T.item (dF X scope (aD.map (·.1)++bH) cl g0.objs.size s2 H2 fp) rfl rfl rfl hc i [] s' _ H' (λ_ _=>False) I' (GY H' mx) oB go) λr t1 zz=>?_
    obtain⟨u,hr,h4⟩:=zz
    subst hr
    refine aR h4 λ_ t2 zz=>?_
    obtain⟨x5,H5,I5,r5,y5,qq,xj⟩:=zz
    obtain⟨Bq,st6⟩:=step x5 H5 y5
    have EB:=I5.pinned (GY H5 xj) (T.obj _ _ qq)
    refine aR (hg _ _ _ _ _ t2 _ H5 x5 u _ EB r5 st6) λ_ t3 zz=>?_
    obtain⟨EC,H6,I6,⟨dc3,dc4⟩,st7⟩:=zz
    have back:∀(s7:Shared) (H7:Hp) (GZ:List V) (m7:Nat),Inv (dF X scope (aD.map (·.1)++bH) cl g0.objs.size s2 H2 fp) ([]++xg fp t2.heap) EC H7 s7->W (i+1) m7 GZ H7 ->
      ∃i acc H',Inv (dF X scope (aD.map (·.1)++bH) cl g0.objs.size s2 H2 fp) [] (iq aD bH.length σ) H' s7/\tn i s7.heap/\(∀b∈fp,H' b=none)/\W i m7 acc H':=λs7 H7 GZ m7 I7 w7 =>
     ⟨i+1,GZ,H7,(I7.xh).weak dc3.symm λj v z=>by
       by_cases hj:j<aD.length
       ·rw[dc4 j hj];exact z
       ·have z':((aD.map λp=>(σ[p.2]?).getD none)++bf bH.length none)[j]?=some (some v):=z
        rw[kz (by simpa using hj),s9]at z'
        split at z'<;>(cases z'),
      T.keep _ _ _ qq λb hb o e=>(I7.pin (b,o) (cZ _ (cZ _ (AR hb e)))).1,λb hb=>by
       obtain⟨o,e,d⟩:=T.obj _ _ qq b hb
       exact(I7.pin (b,o) (cZ _ (cZ _ (AR hb e)))).2.1,w7⟩
    refine aR (ht _ _ _ _ _ t3 _ H6 _ I6 st7) λok t4 zz=>?_
    obtain⟨H7,I7,hD7,q7⟩:=zz
    cases ok with
    | false =>
     obtain⟨m',hm,w7⟩:=(show ∃m',m'<n/\W (i+1) m' acc H7 from q7)
     exact⟨m',hm,back t4 H7 acc m' I7 w7⟩
    | true =>
     refine aR (he _ _ _ _ _ t4 _ H7 _ I7 q7) λy t5 zz=>?_
     obtain⟨v8,H8,I8,r8,hD8,hl8,m',hm,w8⟩:=zz
     exact aR (O1 _ t5 _ H8 (.ref s2.heap.objs.size) [v8] (.ref s2.heap.objs.size) [y] (λ_ H9=>H9=upd H8 s2.heap.objs.size (.lst (acc++[v8]))) I8 rfl (.cons r8 .nil) ⟨_,acc,v8,rfl,rfl,hD8,hl8,rfl⟩) λ_ t6 zz=>by
      obtain⟨_,H9,I9,_,e9⟩:=zz
      subst e9
      exact⟨m',hm,back t6 _ _ m' I9 w8⟩
  ·obtain⟨o,e,_⟩:=Sg b hb
   rw[aZ (fg (bP e))]
   exact(f2 b hb).1
 exact codeAny_compStart_list loop (T.self _ 0 _ _ _ (T.keep _ _ _ xi λb hb o e=>old b o e) loop)
theorem b97(aD:List (Str × Nat))(bH:List Str)(hc:X.calm=true)(hi:PI X tg iter wi)
  (hg:∀C s H fp,PG (dF X scope (aD.map (·.1)++bH) cl C s H fp) tg g)
  (ht:∀C s H fp,l7 (dF X scope (aD.map (·.1)++bH) cl C s H fp) ifs tt) (he:∀C s H fp,PE (dF X scope (aD.map (·.1)++bH) cl C s H fp) elt te)
  (kU:closureFor scope X.env=pure cl) (kW:l9 X cl) (kX:∀C:Addr,mf (cellsFrom (C+1) scope.names cl) (relabel scope X.env).names) (kY:∀C:Addr,l6 X scope (cellsFrom (C+1) scope.names cl) aD)
  (ij:scope.kind=.function) (kZ:∀y∈scope.names,y.2=.local->scope.names.lookup y.1=some .local)
  (hs:∀x,foldedSetIterable iter X.env x=pure x:=by intro _;rfl):PE X (.ListComp elt [⟨tg,iter,ifs,0⟩] scope pos) (Bf wi aD bH.length g tt te):=by
 intro pins s σ H Q I h
 rw[eval_ListComp]
 refine Se aD bH hc hi hg ht he kU kW kX kY ij kZ hs I h λs' H' C Da m IX hn hC hL h1 h2 h3 h4 q'=>?_
 exact⟨m,hn,λh' sb=>⟨.ref Da,H',IX.turned (t':=s'.toks) (λb o hb e=>sb.extBut b o hb e) hC hL (.inr h1) h2 h3,rfl,q'⟩⟩
theorem Sj{i:Nat}{x:Str}{pos' apos:Pos}(hN:X.N.Nodup)(mB:X.N[i]?=some x)(hx:Loc X.env.scope x)(hf:X.fn x=true\/X.env.scope.names.lookup x=some .local)(aD:List (Str × Nat))(bH:List Str)(hc:X.calm=true)(hi:PI X tg iter wi)
  (hg:∀C s H fp,PG (dF X scope (aD.map (·.1)++bH) cl C s H fp) tg g)
  (ht:∀C s H fp,l7 (dF X scope (aD.map (·.1)++bH) cl C s H fp) ifs tt) (he:∀C s H fp,PE (dF X scope (aD.map (·.1)++bH) cl C s H fp) elt te)
  (kU:closureFor scope X.env=pure cl) (kW:l9 X cl) (kX:∀C:Addr,mf (cellsFrom (C+1) scope.names cl) (relabel scope X.env).names) (kY:∀C:Addr,l6 X scope (cellsFrom (C+1) scope.names cl) aD)
  (ij:scope.kind=.function) (kZ:∀y∈scope.names,y.2=.local->scope.names.lookup y.1=some .local)
  (rC:swapsWith (.ListComp elt [⟨tg,iter,ifs,0⟩] scope pos) (some (.Name x pos')) apos.line X.env=pure true) (hs:∀x,foldedSetIterable iter X.env x=pure x:=by intro _;rfl):PS X (.Assign [.Name x pos'] (.ListComp elt [⟨tg,iter,ifs,0⟩] scope pos) apos) (Et (Bf wi aD bH.length g tt te) (AN i)):=by
 intro pins s σ H D I h
 rw[exec_Assign_Name_used x pos' _ apos rC]
 refine wpAny_bind (wpAny_standAt (wpAny_bind ?_))
 have hh:Bf wi aD bH.length g tt te σ H λv H1=>D.nx (σ.set i (some v)) H1:=h
 show wpAny _ _ (comprehension (.ListComp elt [⟨tg,iter,ifs,0⟩] scope pos) scope X.env (firstIterPos [⟨tg,iter,ifs,0⟩] pos) (newList []) false (eval iter X.env) (some (assign (.Name x pos') X.env)) >>= λ_=>pure ()) _ _ _
 refine wpAny_bind (Se (use:=some (assign (.Name x pos') X.env)) (pos:=pos) aD bH hc hi hg ht he kU kW kX kY ij kZ hs I hh λs' H' C Da m IX hn hC hL h1 h2 h3 h4 q'=>?_)
 obtain⟨oC,es,ep,hoC,Sk,rest⟩:=id hn
 have IP:Inv X (pins++[(C,oC)]) σ H' s':=⟨IX.ok,IX.os,IX.bare,IX.base,IX.loc,IX.cell,IX.free,IX.jB,λp hp=>by
  rcases bX.mp hp with z | z
  ·exact IX.pin p (eV _ z)
  ·rcases bX.mp z with z | z
   ·exact IX.pin p (cZ _ z)
   ·obtain rfl:=eW.mp z
    exact⟨hoC,hC,hL,h4,λv w=>by rw[Sk]at w;cases w⟩,IX.aK,IX.len⟩
 refine aR (AO (X:=X) hN mB hx hf _ s' σ H' (.ref Da) (.ref Da) (λlW H2=>lW=σ.set i (some (.ref Da))/\H2=H') IP rfl ⟨rfl,rfl⟩) λ_ s2 zz=>?_
 obtain⟨lW,H2,I2,e1,e2⟩:=zz
 subst e1 e2
 have pC:=I2.pin (C,oC) (cZ _ (cZ _ (by simp)))
 refine⟨m,⟨oC,es,ep,pC.1,Sk,rest⟩,λh' sb=>wpAny_pure (wpAny_pure ?_)⟩
 exact⟨σ.set i (some (.ref Da)),H2,(I2.xh).turned (t':=s2.toks) (λb o hb e=>sb.extBut b o hb e) hC hL (.inr h1) h2 h3,q'⟩
end
end L2
namespace L3
open PySem L2 PySem.Spec PyProof.Rows
section
variable{X:Cx}{elt iter tg:Expr}{pos:Pos}{ifs:List Expr}{scope:Scope}{cl:List (Str × Addr)}{ti:jk}{tt:gw}{te:aN}{g:iu}
theorem dR(aD:List (Str × Nat))(bH:List Str)(hc:X.calm=true)(hi:PI X tg iter (lI ti))
  (hg:∀C s H fp,PG (dF X scope (aD.map (·.1)++bH) cl C s H fp) tg (lG aD.length g))
  (ht:∀C s H fp,l7 (dF X scope (aD.map (·.1)++bH) cl C s H fp) ifs (lT tt)) (he:∀C s H fp,PE (dF X scope (aD.map (·.1)++bH) cl C s H fp) elt (lE te))
  (kU:closureFor scope X.env=pure cl) (kW:l9 X cl) (kX:∀C:Addr,mf (cellsFrom (C+1) scope.names cl) (relabel scope X.env).names) (kY:∀C:Addr,l6 X scope (cellsFrom (C+1) scope.names cl) aD)
  (ij:scope.kind=.function) (kZ:∀y∈scope.names,y.2=.local->scope.names.lookup y.1=some .local)
  (hs:∀x,foldedSetIterable iter X.env x=pure x:=by intro _;rfl):PE X (.ListComp elt [⟨tg,iter,ifs,0⟩] scope pos) (lE (oO ti aD bH.length g tt te)) :=
 du (b97 aD bH hc hi hg ht he kU kW kX kY ij kZ hs) λσ H Q zq=>by
 obtain⟨B,F,δ,ts,Qd,c,q,k⟩:=zq
 exact⟨B,F,δ,ts,_,c,q,λsh xs ao J F1 H1 hq f1 h1 c1 nD qR=>by
  obtain⟨p,f,hx,eG,hlen,hQ⟩:=hq
  exact Fz c1 nD qR p f hx eG hlen hQ λd ah v F' H' hd hf hs c'=>k d ah v F' H' hd (f1.trans hf) (h1.trans hs) c'⟩
theorem B7{i:Nat}{x:Str}{pos' apos:Pos}(hN:X.N.Nodup)(mB:X.N[i]?=some x)(hx:L2.Loc X.env.scope x)(aD:List (Str × Nat))(bH:List Str)(hc:X.calm=true)(hi:PI X tg iter (lI ti))
  (hg:∀C s H fp,PG (dF X scope (aD.map (·.1)++bH) cl C s H fp) tg (lG aD.length g))
  (ht:∀C s H fp,l7 (dF X scope (aD.map (·.1)++bH) cl C s H fp) ifs (lT tt)) (he:∀C s H fp,PE (dF X scope (aD.map (·.1)++bH) cl C s H fp) elt (lE te))
  (kU:closureFor scope X.env=pure cl) (kW:l9 X cl) (kX:∀C:Addr,mf (cellsFrom (C+1) scope.names cl) (relabel scope X.env).names) (kY:∀C:Addr,l6 X scope (cellsFrom (C+1) scope.names cl) aD)
  (ij:scope.kind=.function) (kZ:∀y∈scope.names,y.2=.local->scope.names.lookup y.1=some .local)
  (rC:swapsWith (.ListComp elt [⟨tg,iter,ifs,0⟩] scope pos) (some (.Name x pos')) apos.line X.env=pure true:=by rfl) (hf:X.fn x=true\/X.env.scope.names.lookup x=some .local:=by first | exact .inl rfl | exact .inr rfl)
  (hs:∀x,foldedSetIterable iter X.env x=pure x:=by intro _;rfl):PS X (.Assign [.Name x pos'] (.ListComp elt [⟨tg,iter,ifs,0⟩] scope pos) apos) (lS X (qQ i (oO ti aD bH.length g tt te))) :=
 jG (Sj hN mB hx hf aD bH hc hi hg ht he kU kW kX kY ij kZ rC hs) λEn σ H zq=>by
 obtain⟨B,F,δ,Dd,c,q,k1,k2,k3,k4⟩:=zq
 exact⟨B,F,δ,[],_,c,q,λsh xs ao J F1 H1 hq f1 h1 c1 nD qR=>by
  obtain⟨p,f,hx,eG,hlen,hQ⟩:=hq
  exact Fz (Qd:=λd ah=>Dd.nx (ah.set i (some d))) c1 nD qR p f hx eG hlen hQ λd ah v F' H' hd hf hs c'=>k1 _ _ F' H' hd (c'.store i)⟩
end
end L3
namespace L3
open PySem L2 Mf
theorem lo1{m:Bool × Nat}(hm:m∈aF):1<ae m:=by have:=(di hm).lo;omega
inductive Sp(N:Nat)(p q:Nat->Nat->Nat)(S:(Nat->Nat)->Prop):(Nat->Nat)->Prop
 | mem {f:Nat->Nat}:S f->Sp N p q S f
 | zero:Sp N p q S λ_=>0
 | add {f g:Nat->Nat}:Sp N p q S f->Sp N p q S g->Sp N p q S λk=>p (f k) (g k)
 | mul {f:Nat->Nat} (c:Nat):c<N->Sp N p q S f->Sp N p q S λk=>q c (f k)
theorem Sp.trans{N:Nat}{p q:Nat->Nat->Nat}{S S':(Nat->Nat)->Prop}(h:∀f,S f->Sp N p q S' f){f:Nat->Nat}(s:Sp N p q S f):Sp N p q S' f:=by
 induction s with
 | mem a=>exact h _ a
 | zero=>exact .zero
 | add _ _ a b=>exact .add a b
 | mul c hc _ a=>exact .mul c hc a
def Gn(T:List (List Nat))(f:Nat->Nat):Prop:=∃r∈T,f=cf r
def cK(m:Bool × Nat)(T:List (List Nat))(f:Nat->Nat):Prop:=Sp (ae m) (gp m) (gm m) (Gn T) f
theorem cK.of{m:Bool × Nat}{T:List (List Nat)}{r:List Nat}(h:r∈T):cK m T (cf r):=.mem ⟨r,h,rfl⟩
theorem ca3{m:Bool × Nat}(hm:m∈aF){a:Nat}(ha:a<ae m){f f' l:Nat->Nat}(hf':∀k,f' k<ae m)(hl:∀k,l k<ae m)(h:∀k,gp m (f' k) (gm m a (l k))=f k):∃b,b<ae m/\f'=λk=>gp m (f k) (gm m b (l k)):=by
 have r:=rg hm
 obtain⟨b,hb,e⟩:=r.ng ha
 refine⟨b,hb,funext λk=>?_⟩
 rw[<-h k,r.pa,r.mc a,r.mc b,<- r.dl,e,r.qz,r.z' (hf' k)]
theorem G0{m:Bool × Nat}(hm:m∈aF){r l:List Nat}{w:Nat}(hr:r.length=w)(hl:l.length=w)(a k:Nat):cf (cT (λx y=>bO m x (gm m a y)) r l) k=bO m (cf r k) (gm m a (cf l k)):=by
 by_cases h:k<w
 ·unfold cf
  rw[aT,mX,aP (by omega),aP (by omega),aT,aP (by omega),aT,aP (by omega)]
  rfl
 ·rw[vH (by rw[i5];omega),vH (l:=r) (by omega),vH (l:=l) (by omega),kS m _ (dj m hm),R3]
theorem B8{m:Bool × Nat}(hm:m∈aF){r l:List Nat}{w a:Nat}(hr:r.length=w)(hl:l.length=w)(ar:AllLt (ae m) r)(k:Nat):gp m (cf (cT (λx y=>bO m x (gm m a y)) r l) k) (gm m a (cf l k))=cf r k:=by
 rw[G0 hm hr hl]
 exact(mE hm (fO hm ar k) (dy hm _ _)).2.2
theorem G1{m:Bool × Nat}(hm:m∈aF){r l:List Nat}{w:Nat}(hr:r.length=w)(hl:l.length=w)(ar:AllLt (ae m) r)(a k:Nat):cf (cT (λx y=>bO m x (gm m a y)) r l) k<ae m:=by
 rw[G0 hm hr hl]
 exact(mE hm (fO hm ar k) (dy hm _ _)).2.1
theorem Sl{m:Bool × Nat}(hm:m∈aF){w p i:Nat}{T:List (List Nat)}(hT:RT (ae m) w T)(e:jP T p=some i):∃(g:List Nat) (c:Nat),g∈T/\T.getD i []=g/\g.length=w/\AllLt (ae m) g/\c<ae m/\gm m c (cf g p)=1/\(eB m T i p).length=w/\AllLt (ae m) (eB m T i p)/\(∀k,cf (eB m T i p) k=gm m c (cf g k))/\cf (eB m T i p) p=1/\∀k,gm m (cf g p) (cf (eB m T i p) k)=cf g k:=by
 obtain⟨hi,h1,h2⟩:=B0 e
 obtain⟨a,b⟩:=hT _ (dz hi)
 have l1:1<ae m:=lo1 hm
 obtain⟨c,hc,B9⟩:=R6 hm l1 (fO hm b p) h1
 have ec:mG m (cf T[i] p)=c:=BZ hm hc B9
 have el:eB m T i p=T[i].map (gm m c):=by unfold eB;rw[h2,<- ec];rfl
 have ek:∀k,cf (eB m T i p) k=gm m c (cf T[i] k):=λk=>by rw[el];exact cx9 hm _ _ _
 refine⟨T[i],c,dz hi,h2,a,b,hc,B9,by rw[el,bt,a],λx hx=>?_,ek,by rw[ek];exact B9,λk=>?_⟩
 ·rw[el]at hx
  obtain⟨y,_,rfl⟩:=bD.mp hx
  exact dy hm _ _
 ·rw[ek,<- kj (dj m hm),iP m _ c,B9,rV (fO hm b k)]
theorem Sm{m:Bool × Nat}{s:List (List Nat) × List (List Nat)}{p i:Nat}(e:jP s.2 p=some i):iD m s p=(gL m s.1 (eB m s.2 i p) p++[eB m s.2 i p],gL m (s.2.take i++s.2.drop (i+1)) (eB m s.2 i p) p):=by unfold iD;rw[e]
theorem Sn{m:Bool × Nat}{s:List (List Nat) × List (List Nat)}{p:Nat}(e:jP s.2 p=none):iD m s p=s:=by unfold iD;rw[e]
theorem Ca{α:Type}{T:List α}{i:Nat}{r:α}(h:r∈T.take i++T.drop (i+1)):r∈T:=(bX.mp h).elim tJ p9
theorem ca0{α:Type}{T:List α}{i:Nat}{r:α}(h:r∈T)(hi:i<T.length):r=T[i]\/r∈T.take i++T.drop (i+1):=by
 obtain⟨j,hj,rfl⟩:=kB h
 rcases Nat.lt_trichotomy j i with h | h | h
 ·exact .inr (bX.mpr (.inl (List.mem_take_iff_getElem.mpr ⟨j,by omega,rfl⟩)))
 ·subst h;exact .inl rfl
 ·exact .inr (bX.mpr (.inr (List.mem_drop_iff_getElem.mpr ⟨j-(i+1),by omega,by congr 1;omega⟩)))
theorem bU3{m:Bool × Nat}(hm:m∈aF){w n p:Nat}{s:List (List Nat) × List (List Nat)}(h:yW (ae m) w n s)(f:Nat->Nat):cK m (s.1++s.2) f↔cK m ((iD m s p).1++(iD m s p).2) f:=by
 cases e:jP s.2 p with
 | none=>rw[Sn e]
 | some i =>
  obtain⟨g,c,g1,g2,g3,g4,c1,c2,l1,l2,l3,l4,l5⟩:=Sl hm h.b e
  obtain⟨hi,_,hg⟩:=B0 e
  rw[Sm e]
  generalize eB m s.2 i p=l at l1 l2 l3 l4 l5
  have ll:=fO hm l2
  have row:∀{T:List (List Nat)},RT (ae m) w T->∀r'∈gL m T l p,∃r∈T,∃b,b<ae m/\cf r'=λk=>gp m (cf r k) (gm m b (cf l k)):=λ{T} hT r' bq=>by
   obtain⟨r,hr,rfl⟩:=bD.mp bq
   obtain⟨a1,a2⟩:=hT r hr
   exact⟨r,hr,ca3 hm (fO hm a2 p) (G1 hm a1 l1 a2 _) ll (B8 hm a1 l1 a2)⟩
  have So:∀{T:List (List Nat)},RT (ae m) w T->∀r∈T,∃r'∈gL m T l p,cf r=λk=>gp m (cf r' k) (gm m (cf r p) (cf l k)):=λ{T} hT r hr=>by
   obtain⟨a1,a2⟩:=hT r hr
   exact⟨_,bD.mpr ⟨r,hr,rfl⟩,funext λk=>(B8 hm a1 l1 a2 k).symm⟩
  have hB:RT (ae m) w (s.2.take i++s.2.drop (i+1)):=λr hr=>h.b r (Ca hr)
  constructor
  ·refine Sp.trans ?_
   rintro f ⟨r,hr,rfl⟩
   have hl:cK m ((gL m s.1 l p++[l])++gL m (s.2.take i++s.2.drop (i+1)) l p) (cf l):=cK.of (by simp)
   rcases bX.mp hr with hr | hr
   ·obtain⟨r',h1,h2⟩:=So h.a r hr
    rw[h2]
    exact .add (cK.of (by simp[h1])) (.mul _ (fO hm (h.a r hr).2 p) hl)
   ·rcases ca0 hr hi with e' | bq
    ·have:cf r=λk=>gm m (cf g p) (cf l k):=funext λk=>by rw[l5 k,e',<- hg,g2]
     rw[this]
     exact .mul _ (fO hm g4 p) hl
    ·obtain⟨r',h1,h2⟩:=So hB r bq
     rw[h2]
     exact .add (cK.of (by simp[h1])) (.mul _ (fO hm (h.b r hr).2 p) hl)
  ·refine Sp.trans ?_
   rintro f ⟨r,hr,rfl⟩
   have hl:cK m (s.1++s.2) (cf l):=by
    have:cf l=λk=>gm m c (cf g k):=funext l3
    rw[this]
    exact .mul _ c1 (cK.of (cZ _ g1))
   rcases bX.mp hr with hr | hr
   ·rcases bX.mp hr with hr | hr
    ·obtain⟨r1,h1,b,hb,h2⟩:=row h.a r hr
     rw[h2]
     exact .add (cK.of (eV _ h1)) (.mul _ hb hl)
    ·rw[eW]at hr
     rw[hr];exact hl
   ·obtain⟨r1,h1,b,hb,h2⟩:=row hB r hr
    rw[h2]
    exact .add (cK.of (cZ _ (Ca h1))) (.mul _ hb hl)
structure RR(w:Nat)(R:List (List Nat))(H:Nat->Nat):Prop where
 u:∀i j,i<R.length->j<R.length->cf (R.getD i []) (H j)=if i=j then 1 else 0
 z:∀i,i<R.length->∀t,t<H i->cf (R.getD i []) t=0
 i:∀i j,i<j->j<R.length->H i<H j
 l:∀i,i<R.length->H i<w
theorem pG{α β:Type}(f:α->β){l:List α}{i:Nat}(h:i<l.length)(a:α)(b:β):(l.map f).getD i b=f (l.getD i a):=by
 rw[aT,cj,aT,aP h];rfl
theorem fv{α:Type}{l:List α}{i:Nat}(h:i<l.length)(a:α):l.getD i a∈l:=by
 rw[aT,aP h];exact dz h
theorem bK5{m:Bool × Nat}(hm:m∈aF){w n p:Nat}{s:List (List Nat) × List (List Nat)}(h:yW (ae m) w n s){H:Nat->Nat}(I:RR p s.1 H)(e2:∀r∈s.2,∀t,t<p->cf r t=0):∃H',RR (p+1) (iD m s p).1 H'/\∀r∈(iD m s p).2,∀t,t<p+1->cf r t=0:=by
 cases e:jP s.2 p with
 | none =>
  rw[Sn e]
  refine⟨H,⟨I.u,I.z,I.i,λi hi=>NS (I.l i hi)⟩,λr hr t ht=>?_⟩
  rcases N3 t p with h1 | h1
  ·exact e2 r hr t h1
  ·have:=Xi.mp e r hr
   have z:r.getD p 0=0:=by simpa using this
   rw[show t=p by omega]
   exact z
 | some i0 =>
  obtain⟨g,c,g1,g2,g3,g4,c1,c2,l1,l2,l3,l4,l5⟩:=Sl hm h.b e
  rw[Sm e]
  generalize eB m s.2 i0 p=l at l1 l2 l3 l4 l5
  have m0:=dj m hm
  have lz:∀t,t<p->cf l t=0:=λt ht=>by rw[l3,e2 g g1 t ht,kS m _ m0]
  have yY:∀{r:List Nat},r.length=w->AllLt (ae m) r->(∀t,t<p->cf (cT (λx y=>bO m x (gm m (r.getD p 0) y)) r l) t=cf r t)/\cf (cT (λx y=>bO m x (gm m (r.getD p 0) y)) r l) p=0:=λ{r} a1 a2=>by
   constructor
   ·intro t ht
    have:=B8 hm (a:=r.getD p 0) a1 l1 a2 t
    rw[lz t ht,kS m _ m0,yT (G1 hm a1 l1 a2 _ _)]at this
    exact this
   ·rw[G0 hm a1 l1,l4]
    show bO m (r.getD p 0) (gm m (r.getD p 0) 1)=0
    rw[rW (show r.getD p 0<ae m from fO hm a2 p),R3]
  have nl:(gL m s.1 l p).length=s.1.length:=by unfold gL;rw[bt]
  have Sq:∀i,i<s.1.length->∃r,s.1.getD i []=r/\r.length=w/\AllLt (ae m) r/\(gL m s.1 l p++[l]).getD i []=cT (λx y=>bO m x (gm m (r.getD p 0) y)) r l:=λi hi=>by
   refine⟨_,rfl,(h.a _ (fv hi [])).1,(h.a _ (fv hi [])).2,?_⟩
   rw[aT,pV (by omega),<- aT]
   exact pG _ hi [] []
  have Sr:(gL m s.1 l p++[l]).getD s.1.length []=l:=by
   rw[aT,kz (by omega),nl,wJ];rfl
  have le:(gL m s.1 l p++[l]).length=s.1.length+1:=by rw[dG,nl];rfl
  refine⟨λi=>if i<s.1.length then H i else p,⟨λi j hi hj=>?_,λi hi t ht=>?_,λi j yZ hj=>?_,λi hi=>?_⟩,λr hr t ht=>?_⟩
  ·show cf ((gL m s.1 l p++[l]).getD i []) _=_
   dsimp only at hi hj ⊢
   rw[le]at hi hj
   by_cases h1:i<s.1.length
   ·obtain⟨r,r1,r2,r3,r4⟩:=Sq i h1
    rw[r4]
    by_cases h2:j<s.1.length
    ·rw[if_pos h2,(yY r2 r3).1 _ (I.l j h2),<- r1]
     exact I.u i j h1 h2
    ·rw[if_neg h2,(yY r2 r3).2,if_neg (by omega)]
   ·have e1:i=s.1.length:=by omega
    rw[e1,Sr]
    by_cases h2:j<s.1.length
    ·rw[if_pos h2,lz _ (I.l j h2),if_neg (by omega)]
    ·rw[if_neg h2,l4,if_pos (by omega)]
  ·dsimp only at hi ht ⊢
   rw[le]at hi
   by_cases h1:i<s.1.length
   ·rw[if_pos h1]at ht
    obtain⟨r,r1,r2,r3,r4⟩:=Sq i h1
    rw[r4,(yY r2 r3).1 _ (by have:=I.l i h1;omega),<- r1]
    exact I.z i h1 t ht
   ·rw[if_neg h1]at ht
    have e1:i=s.1.length:=by omega
    rw[e1,Sr];exact lz t ht
  ·dsimp only at hj ⊢
   rw[le]at hj
   rw[if_pos (by omega)]
   by_cases h2:j<s.1.length
   ·rw[if_pos h2];exact I.i i j yZ h2
   ·rw[if_neg h2];exact I.l i (by omega)
  ·dsimp only at hi ⊢
   rw[le]at hi
   split
   ·have:=I.l i (by omega);omega
   ·omega
  ·obtain⟨r1,Cb,rfl⟩:=bD.mp hr
   obtain⟨a1,a2⟩:=h.b r1 (Ca Cb)
   rcases N3 t p with h1 | h1
   ·rw[(yY a1 a2).1 t h1];exact e2 _ (Ca Cb) t h1
   ·rw[show t=p by omega];exact(yY a1 a2).2
theorem Ss{m:Bool × Nat}(hm:m∈aF){w:Nat}{G:List (List Nat)}(h:RT (ae m) w G):∀k,(∃H,RR k (jQ m G k).1 H/\∀r∈(jQ m G k).2,∀t,t<k->cf r t=0)/\∀f,cK m G f↔cK m ((jQ m G k).1++(jQ m G k).2) f
 | 0=>⟨⟨λ_=>0,⟨(λ_ _ h=>nomatch h),(λ_ h=>nomatch h),(λ_ _ _ h=>nomatch h),(λ_ h=>nomatch h)⟩,λr _ t ht=>nomatch ht⟩,λf=>.rfl⟩
 | k+1=>by
  obtain⟨⟨H,h1,h2⟩,h3⟩:=Ss hm h k
  have D:=B4 hm h k
  rw[GR]
  exact⟨bK5 hm D h1 h2,λf=>(h3 f).trans (bU3 hm D f)⟩
theorem mH{m:Bool × Nat}(hm:m∈aF){G:List (List Nat)}(h:RT (ae m) (au G) G):(∃H,RR (au G) (bW m G) H)/\RT (ae m) (au G) (bW m G)/\(bW m G).length<=G.length/\∀f,cK m G f↔cK m (bW m G) f:=by
 obtain⟨⟨H,h1,h2⟩,h3⟩:=Ss hm h (au G)
 have D:=B4 hm h (au G)
 refine⟨⟨H,h1⟩,D.a,by have:=D.l;show(jQ m G (au G)).1.length<=_;omega,λf=>(h3 f).trans ⟨Sp.trans ?_,Sp.trans ?_⟩⟩
 ·rintro f ⟨r,hr,rfl⟩
  rcases bX.mp hr with hr | hr
  ·exact cK.of hr
  ·have:cf r=λ_=>0:=funext λt=>by
    rcases N3 t (au G)with h4 | h4
    ·exact h2 r hr t h4
    ·exact vH (by rw[(D.b r hr).1];exact h4)
   rw[this];exact .zero
 ·rintro f ⟨r,hr,rfl⟩
  exact cK.of (eV _ hr)
theorem vJ{N:Nat}{p q:Nat->Nat->Nat}(r:Rg N p q){f:Nat->Nat}{j0:Nat}(hf:f j0<N):∀{n:Nat},j0<n->(∀j,j<n->j≠j0->f j=0)->sm p n f=f j0
 | 0,h,_=>nomatch h
 | n+1,h,hz=>by
  rw[sm]
  by_cases e:j0=n
  ·subst e
   rw[js r λj hj=>hz j (by omega) (by omega),r.z hf]
  ·rw[vJ r hf (by omega) λj hj=>hz j (by omega),hz n (by omega) (by omega),r.z' hf]
theorem cK.sum{m:Bool × Nat}(hm:m∈aF){w:Nat}{R:List (List Nat)}(hR:RT (ae m) w R){f:Nat->Nat}(s:cK m R f):∃c:Nat->Nat,(∀i,c i<ae m)/\∀k,f k=sm (gp m) R.length λi=>gm m (c i) (cf (R.getD i []) k):=by
 have r:=rg hm
 have m0:=dj m hm
 have l1:=lo1 hm
 induction s with
 | mem a =>
  obtain⟨x,hx,rfl⟩:=a
  obtain⟨i,hi,rfl⟩:=kB hx
  have ei:R[i]=R.getD i []:=by rw[aT,aP hi];rfl
  refine⟨λj=>if j=i then 1 else 0,λj=>by dsimp only;split<;>omega,λk=>?_⟩
  refine((vJ r (f:=λa=>gm m (if a=i then 1 else 0) (cf (R.getD a []) k)) (j0:=i) (dy hm _ _) hi λj hj hn=>?_).trans ?_).symm
  ·rw[if_neg hn,iC m _ m0]
  ·rw[if_pos rfl,ei]
   exact rV (fO hm (hR _ (fv hi [])).2 k)
 | zero=>exact⟨λ_=>0,λ_=>r.pos,λk=>(js r λj _=>iC m _ m0).symm⟩
 | add _ _ a b =>
  obtain⟨c,hc,a⟩:=a
  obtain⟨d,hd,b⟩:=b
  refine⟨λi=>gp m (c i) (d i),λi=>r.lp (hc i) (hd i),λk=>?_⟩
  dsimp only
  rw[a k,b k,<- sg r]
  refine eA λj _=>?_
  rw[r.mc (gp m _ _),r.dl,r.mc _ (cf _ k),r.mc _ (cf _ k)]
 | mul e he _ a =>
  obtain⟨c,hc,a⟩:=a
  refine⟨λi=>gm m e (c i),λi=>dy hm _ _,λk=>?_⟩
  dsimp only
  rw[a k,<- si r]
  refine eA λj _=>?_
  rw[kj m0]
theorem cK.ann{m:Bool × Nat}(hm:m∈aF){R:List (List Nat)}{n:Nat}{y:Nat->Nat}(h:∀x∈R,sm (gp m) n (λj=>gm m (cf x j) (y j))=0){f:Nat->Nat}(s:cK m R f):sm (gp m) n (λj=>gm m (f j) (y j))=0:=by
 have r:=rg hm
 have m0:=dj m hm
 induction s with
 | mem a=>obtain⟨x,hx,rfl⟩:=a;exact h x hx
 | zero=>exact js r λj _=>iC m _ m0
 | @add f g _ _ a b =>
  rw[eA (g:=λj=>gp m (gm m (f j) (y j)) (gm m (g j) (y j))) λj _=>by dsimp only;rw[r.mc (gp m _ _),r.dl,r.mc (y j),r.mc (y j)],sg r,a,b,r.z r.pos]
 | @mul f e he _ a =>
  rw[eA (g:=λj=>gm m e (gm m (f j) (y j))) λj _=>kj m0 _ _ _,si r,a,r.qz]
theorem RR.G2{m:Bool × Nat}(hm:m∈aF){w:Nat}{R:List (List Nat)}{H:Nat->Nat}(hR:RT (ae m) w R)(I:RR w R H){i:Nat}(hi:i<R.length):(R.getD i []).findIdx (· != 0)=H i/\∃x∈R.getD i [],x≠0:=by
 have a:=(hR _ (fv hi [])).1
 have l:=I.l i hi
 have u:=I.u i i hi hi
 rw[if_pos rfl]at u
 have eu:(R.getD i [])[H i]'(by omega)=1:=by
  unfold cf at u
  rw[aT (l:=R.getD i []),aP (by omega)]at u
  exact u
 refine⟨?_,_,dz (show H i<(R.getD i []).length by omega),by rw[eu];decide⟩
 rw[List.findIdx_eq (by omega)]
 refine⟨by rw[eu];rfl,λj hj=>?_⟩
 have z:=I.z i hi j hj
 unfold cf at z
 rw[aT (l:=R.getD i []),aP (by omega)]at z
 simpa using z
theorem Cc{a b:List Nat}{w:Nat}(ha:a.length=w)(hb:b.length=w)(h:∀k,k<w->cf a k=cf b k):a=b:=by
 refine NW (ha.trans hb.symm) λk h1 h2=>?_
 have:=h k (by omega)
 unfold cf at this
 rw[aT,aT,aP h1,aP h2]at this
 exact this
theorem Cd(f:Nat->Nat){w k:Nat}(h:k<w):cf ((aL w).map f) k=f k:=by
 unfold cf
 rw[aT,cj,jY h];rfl
theorem G3(m:Bool × Nat){xs ys:List Nat}(h:xs.length=ys.length):gd m xs ys=sm (gp m) xs.length λj=>gm m (cf xs j) (cf ys j):=by
 unfold gd
 rw[cf1,i5,h,Ak]
 refine eA λj hj=>?_
 unfold cf
 rw[aT,mX,aP (by omega),aP (by omega),aT,aP (by omega),aT,aP (by omega)]
 rfl
def kn(m:Bool × Nat)(xs:List Nat)(T:List (List Nat))(w:Nat):List Nat:=(aL w).map λk=>gd m xs (T.map λr=>r.getD k 0)
theorem Su{T:List (List Nat)}(k i:Nat):cf (T.map λr=>r.getD k 0) i=cf (T.getD i []) k:=by
 by_cases h:i<T.length
 ·exact pG (λr:List Nat=>r.getD k 0) h [] 0
 ·rw[vH (by rw[bt];omega),aT,gj (by omega)];rfl
theorem G4(m:Bool × Nat)(xs:List Nat)(T:List (List Nat))(w:Nat):(kn m xs T w).length=w:=by unfold kn;rw[bt,bZ]
theorem G5(m:Bool × Nat){xs:List Nat}{T:List (List Nat)}{w k:Nat}(h:xs.length=T.length)(hk:k<w):cf (kn m xs T w) k=sm (gp m) T.length λi=>gm m (cf xs i) (cf (T.getD i []) k):=by
 unfold kn
 rw[Cd _ hk,G3 m (by rw[bt,h]),h]
 exact eA λj _=>by rw[Su]
theorem cw3{m:Bool × Nat}(hm:m∈aF){xs ys:List Nat}(h:xs.length=ys.length):gd m xs ys<ae m:=by
 rw[G3 m h];exact pB (rg hm) λj _=>dy hm _ _
theorem cz8{m:Bool × Nat}(hm:m∈aF){xs:List Nat}{T:List (List Nat)}(w:Nat)(h:xs.length=T.length):AllLt (ae m) (kn m xs T w):=λx hx=>by
 obtain⟨k,_,rfl⟩:=bD.mp hx
 exact cw3 hm (by rw[bt,h])
theorem cC7{m:Bool × Nat}{xs u:List Nat}{T:List (List Nat)}{w:Nat}(h:xs.length=T.length)(hu:u.length=w)(hk:∀k,k<w->cf u k=sm (gp m) T.length λi=>gm m (cf xs i) (cf (T.getD i []) k)):kn m xs T w=u :=
 Cc (G4 m xs T w) hu λk h1=>by rw[G5 m h h1,hk k h1]
def aY(r:List Nat):Nat:=r.findIdx (· != 0)
theorem Ce{α:Type}(a b:α->Nat){j:Nat}:∀(l:List α) (x:List Nat),(∀z∈l,a z≠j)->cf (l.foldl (λx z=>x.set (a z) (b z)) x) j=cf x j
 | [],_,_=>rfl
 | z::l,x,h=>by
  rw[tD,Ce a b l _ λy hy=>h y (gi _ hy)]
  unfold cf
  rw[aT,sW (h z iW),<- aT]
theorem Sv{α:Type}(a b:α->Nat):∀(l:List α) (x:List Nat),l.Pairwise (λy z=>a y≠a z)->∀z∈l,a z<x.length->cf (l.foldl (λx z=>x.set (a z) (b z)) x) (a z)=b z
 | [],_,_,_,h,_=>nomatch h
 | y::l,x,hp,z,hz,hl=>by
  rw[tD]
  rw[Ef]at hp
  rcases cu.mp hz with rfl | hz
  ·rw[Ce a b l _ λy hy=>fE (hp.1 y hy)]
   unfold cf
   rw[aT,DR hl];rfl
  ·exact Sv a b l _ hp.2 z hz (by rw[jX];exact hl)
theorem Sw{α:Type}(a b:α->Nat):∀(l:List α) (x:List Nat),(l.foldl (λx z=>x.set (a z) (b z)) x).length=x.length
 | [],_=>rfl
 | z::l,x=>by rw[tD,Sw a b l,jX]
def eJ(T:List (List Nat)):List (List Nat):=(aL (au T)).map λj=>T.map λr=>r.getD j 0
theorem Sx{T:List (List Nat)}{a:Nat}(h:a<au T):(eJ T).getD a []=T.map λr=>r.getD a 0:=by
 unfold eJ
 rw[aT,cj,jY h];rfl
theorem Sy{N:Nat}{T:List (List Nat)}(h0:0<N)(hw:0<au T)(hT:RT N (au T) T):(eJ T).length=au T/\au (eJ T)=T.length/\RT N T.length (eJ T):=by
 have a:(eJ T).length=au T:=by unfold eJ;rw[bt,bZ]
 have c:RT N T.length (eJ T):=λr hr=>by
  obtain⟨j,_,rfl⟩:=bD.mp hr
  refine⟨bt _,λx hx=>?_⟩
  obtain⟨y,hy,rfl⟩:=bD.mp hx
  exact(hT y hy).2.getD h0 j
 refine⟨a,?_,c⟩
 have:=Sx hw
 have e:au (eJ T)=((eJ T).getD 0 []).length:=by
  unfold au
  cases eJ T<;>rfl
 rw[e,this,bt]
end L3
namespace L3
open PySem L2 Mf
def fP(T:List (List Nat))(w:Nat):List Nat:=(aL w).filter λj=>!(T.map aY).contains j
def gM(m:Bool × Nat)(T:List (List Nat))(w f:Nat):List Nat:=(((T.map aY).zip T).foldl (λx z=>x.set z.1 (bO m 0 (z.2.getD f 0))) ((bf w 0).set f 1))
def iQ(m:Bool × Nat)(T:List (List Nat))(w:Nat):List (List Nat):=(fP T w).map (gM m T w)
theorem RR.heads{m:Bool × Nat}(hm:m∈aF){w:Nat}{R:List (List Nat)}{H:Nat->Nat}(hR:RT (ae m) w R)(I:RR w R H):R.map aY=(aL R.length).map H:=by
 refine NW (by rw[bt,bt,bZ]) λi h1 h2=>?_
 rw[bt]at h1
 rw[wR,wR,N4,<- (I.G2 hm hR h1).1,aT,aP h1];rfl
theorem RR.mem{m:Bool × Nat}(hm:m∈aF){w:Nat}{R:List (List Nat)}{H:Nat->Nat}(hR:RT (ae m) w R)(I:RR w R H)(j:Nat):j∈R.map aY↔∃i,i<R.length/\H i=j:=by
 rw[I.heads hm hR,bD]
 exact⟨λ⟨i,a,b⟩=>⟨i,cX.mp a,b⟩,λ⟨i,a,b⟩=>⟨i,cX.mpr a,b⟩⟩
theorem RR.free{m:Bool × Nat}(hm:m∈aF){w:Nat}{R:List (List Nat)}{H:Nat->Nat}(hR:RT (ae m) w R)(I:RR w R H)(j:Nat):j∈fP R w↔j<w/\∀i,i<R.length->H i≠j:=by
 unfold fP
 rw[sU,cX,Bool.not_eq_true',<- Bool.not_eq_true,Ec,I.mem hm hR]
 exact and_congr_right λ_=>⟨λh i a b=>h ⟨i,a,b⟩,λh ⟨i,a,b⟩=>h i a b⟩
theorem RR.G6{m:Bool × Nat}(hm:m∈aF){w:Nat}{R:List (List Nat)}{H:Nat->Nat}(hR:RT (ae m) w R)(I:RR w R H):(fP R w).length+R.length=w:=by
 have nd:(R.map aY).Nodup:=by
  rw[I.heads hm hR]
  unfold List.Nodup
  rw[Xj]
  intro i j hi hj yZ
  rw[bt,bZ]at hi hj
  rw[wR,wR,N4,N4]
  have:=I.i i j yZ hj
  omega
 have pe:((aL w).filter λj=>(R.map aY).contains j).Perm (R.map aY):=by
  refine(List.perm_ext_iff_of_nodup (Xk _ List.nodup_range) nd).mpr λj=>?_
  rw[sU,Ec,cX]
  refine⟨λh=>h.2,λh=>⟨?_,h⟩⟩
  obtain⟨i,hi,rfl⟩:=(I.mem hm hR j).mp h
  exact I.l i hi
 have l1:=pe.length_eq
 rw[bt]at l1
 have l2:=List.length_eq_countP_add_countP (λj=>(R.map aY).contains j) (l:=aL w)
 rw[bZ,Xl,Xl,l1]at l2
 unfold fP
 have e:((aL w).filter λa=>decide ¬(R.map aY).contains a=true)=(aL w).filter λj=>!(R.map aY).contains j:=List.filter_congr λx _=>by
  cases(R.map aY).contains x<;>rfl
 rw[e]at l2
 omega
theorem Cf{m:Bool × Nat}(hm:m∈aF){w f:Nat}{R:List (List Nat)}{H:Nat->Nat}(hR:RT (ae m) w R)(I:RR w R H)(hf:f∈fP R w):(gM m R w f).length=w/\AllLt (ae m) (gM m R w f)/\cf (gM m R w f) f=1/\(∀i,i<R.length->cf (gM m R w f) (H i)=bO m 0 (cf (R.getD i []) f))/\∀j,j≠f->(∀i,i<R.length->H i≠j)->cf (gM m R w f) j=0:=by
 obtain⟨f1,f2⟩:=(I.free hm hR f).mp hf
 have l1:=lo1 hm
 have zl:((R.map aY).zip R).length=R.length:=by rw[Ea,bt,Ak]
 have zg:∀i (h:i<R.length),((R.map aY).zip R)[i]'(by omega)=(H i,R.getD i []):=λi h=>by
  rw[List.getElem_zip,wR]
  have e:R.getD i []=R[i]:=by rw[aT,aP h];rfl
  have:=(I.G2 hm hR h).1
  rw[e]at this ⊢
  exact Prod.ext this rfl
 have zm:∀z∈(R.map aY).zip R,∃i,i<R.length/\z=(H i,R.getD i []):=λz hz=>by
  obtain⟨i,hi,rfl⟩:=kB hz
  exact⟨i,by omega,zg i (by omega)⟩
 have mz:∀i,i<R.length->(H i,R.getD i [])∈(R.map aY).zip R:=λi h=>by
  rw[<-zg i h];exact dz _
 have bd:∀z∈(R.map aY).zip R,bO m 0 (z.2.getD f 0)<ae m:=λz hz=>by
  obtain⟨i,hi,rfl⟩:=zm z hz
  exact(mE hm (by omega) (fO hm (hR _ (fv hi [])).2 f)).2.1
 refine⟨?_,?_,?_,λi hi=>?_,λj hj hj2=>?_⟩
 ·unfold gM
  rw[Sw (λz:Nat × List Nat=>z.1) (λz=>bO m 0 (z.2.getD f 0)),jX,fS]
 ·have key:∀(l:List (Nat × List Nat)) (x:List Nat),(∀z∈l,bO m 0 (z.2.getD f 0)<ae m)->AllLt (ae m) x->AllLt (ae m) (l.foldl (λx z=>x.set z.1 (bO m 0 (z.2.getD f 0))) x):=by
   intro l
   induction l with
   | nil=>exact λx _ h=>h
   | cons z l ih =>
    intro x hz h
    rw[tD]
    refine ih _ (λy hy=>hz y (gi _ hy)) λy hy=>?_
    rcases NU hy with h1 | h1
    ·exact h y h1
    ·rw[h1];exact hz z iW
  refine key _ _ bd λx hx=>?_
  rcases NU hx with h1 | h1
  ·rw[(Aj.mp h1).2];omega
  ·omega
 ·unfold gM
  rw[Ce (λz:Nat × List Nat=>z.1) (λz=>bO m 0 (z.2.getD f 0)) _ _ λz hz=>?_]
  ·unfold cf
   rw[aT,DR (by rw[fS];exact f1)];rfl
  ·obtain⟨i,hi,rfl⟩:=zm z hz
   exact f2 i hi
 ·have hp:((R.map aY).zip R).Pairwise (λy z:Nat × List Nat=>y.1≠z.1):=by
   rw[Xj]
   intro i j hi hj yZ
   rw[zg i (by omega),zg j (by omega)]
   have:=I.i i j yZ (by omega)
   show H i≠H j
   omega
  exact Sv (λz:Nat × List Nat=>z.1) (λz=>bO m 0 (z.2.getD f 0)) _ _ hp _ (mz i hi) (by rw[jX,fS];exact I.l i hi)
 ·unfold gM
  rw[Ce (λz:Nat × List Nat=>z.1) (λz=>bO m 0 (z.2.getD f 0)) _ _ λz hz=>?_]
  ·unfold cf
   rw[aT,sW (fE hj),s9]
   split<;>rfl
  ·obtain⟨i,hi,rfl⟩:=zm z hz
   exact hj2 i hi
theorem cD2{N:Nat}{p q:Nat->Nat->Nat}(r:Rg N p q){f:Nat->Nat}{a b n:Nat}(ha:a<n)(hb:b<n)(hn:a≠b)(fa:f a<N)(fb:f b<N)(hz:∀j,j<n->j≠a->j≠b->f j=0):sm p n f=p (f a) (f b):=by
 have h1:=vJ r (f:=λj=>if j=a then f a else 0) (j0:=a) (n:=n) (by rw[if_pos rfl];exact fa) ha λj _ h=>if_neg h
 have h2:=vJ r (f:=λj=>if j=b then f b else 0) (j0:=b) (n:=n) (by rw[if_pos rfl];exact fb) hb λj _ h=>if_neg h
 rw[if_pos rfl]at h1 h2
 rw[<-h1,<- h2,<- sg r]
 refine eA λj hj=>?_
 by_cases ja:j=a
 ·rw[if_pos ja,if_neg (by omega),r.z' fa,ja]
 ·by_cases jb:j=b
  ·rw[if_neg ja,if_pos jb,r.z fb,jb]
  ·rw[if_neg ja,if_neg jb,hz j hj ja jb,r.z r.pos]
def dt(m:Bool × Nat)(w:Nat)(x y:Nat->Nat):Nat:=sm (gp m) w λj=>gm m (x j) (y j)
theorem cE5{m:Bool × Nat}(hm:m∈aF)(w:Nat)(x y z:Nat->Nat):dt m w x (λk=>gp m (y k) (z k))=gp m (dt m w x y) (dt m w x z):=by
 have r:=rg hm
 unfold dt
 rw[<-sg r]
 exact eA λj _=>r.dl _ _ _
theorem cB9{m:Bool × Nat}(hm:m∈aF)(w c:Nat)(x y:Nat->Nat):dt m w x (λk=>gm m c (y k))=gm m c (dt m w x y):=by
 have r:=rg hm
 have m0:=dj m hm
 unfold dt
 rw[<-si r]
 exact eA λj _=>by rw[<-kj m0,iP m (x j),kj m0]
theorem Sz{m:Bool × Nat}(hm:m∈aF)(w:Nat)(x:Nat->Nat)(c:Nat->Nat)(F:Nat->Nat->Nat):∀n,dt m w x (λk=>sm (gp m) n λi=>gm m (c i) (F i k))=sm (gp m) n λi=>gm m (c i) (dt m w x (F i))
 | 0=>js (rg hm) λj _=>(rg hm).qz _
 | n+1=>by
  rw[sm,<- Sz hm w x c F n,<- cB9 hm,<- cE5 hm];rfl
theorem SA{m:Bool × Nat}(hm:m∈aF){w f:Nat}{R:List (List Nat)}{H:Nat->Nat}(hR:RT (ae m) w R)(I:RR w R H)(hf:f∈fP R w){i:Nat}(hi:i<R.length):dt m w (cf (R.getD i [])) (cf (gM m R w f))=0:=by
 have r:=rg hm
 obtain⟨f1,f2⟩:=(I.free hm hR f).mp hf
 obtain⟨k1,k2,k3,k4,k5⟩:=Cf hm hR I hf
 have il:=fO hm (hR _ (fv hi [])).2
 have g:=mE hm (a:=0) r.pos (il f)
 unfold dt
 rw[cD2 r (f:=λj=>gm m (cf (R.getD i []) j) (cf (gM m R w f) j)) (a:=H i) (b:=f) (I.l i hi) f1 (f2 i hi) (dy hm _ _) (dy hm _ _) λj hj ja jb=>?_]
 ·rw[k3,k4 i hi,I.u i i hi hi,if_pos rfl,rV g.2.1,rW (il f)]
  exact g.2.2
 ·by_cases c:∃i',i'<R.length/\H i'=j
  ·obtain⟨i',h1,rfl⟩:=c
   rw[I.u i i' hi h1,if_neg (λz:i=i'=>ja (by rw[z])),iC m _ (dj m hm)]
  ·rw[k5 j jb λi' h1 h2=>c ⟨i',h1,h2⟩,r.qz]
theorem cK.dt{m:Bool × Nat}(hm:m∈aF){R:List (List Nat)}{n:Nat}{y:Nat->Nat}(h:∀i,i<R.length->dt m n (cf (R.getD i [])) y=0){f:Nat->Nat}(s:cK m R f):dt m n f y=0:=by
 refine s.ann hm λx hx=>?_
 obtain⟨i,hi,rfl⟩:=kB hx
 have:=h i hi
 rw[aT,aP hi]at this
 exact this
theorem sr{N n:Nat}{M:List (List Nat)}(h:RT N n M)(h0:M≠[]):au M=n:=by
 cases M with
 | nil=>exact absurd rfl h0
 | cons g M=>exact(h g iW).1
theorem SD{m:Bool × Nat}(hm:m∈aF){n:Nat}{M:List (List Nat)}(h:RT (ae m) n M)(hl:M.length<n):∃(x:Nat->Nat) (f:Nat),f<n/\(∀k,x k<ae m)/\x f=1/\∀i,i<M.length->dt m n (cf (M.getD i [])) x=0:=by
 by_cases h0:M=[]
 ·subst h0
  exact⟨λ_=>1,0,hl,λ_=>lo1 hm,rfl,λi hi=>nomatch hi⟩
 ·have hw:=sr h h0
  obtain⟨⟨H,I⟩,iR,il,sp⟩:=mH hm (G:=M) (by rw[hw];exact h)
  rw[hw]at I iR
  have fl:=I.G6 hm iR
  have f0:0<(fP (bW m M) n).length:=by omega
  have hf:=fv f0 0
  obtain⟨k1,k2,k3,k4,k5⟩:=Cf hm iR I hf
  refine⟨cf (gM m (bW m M) n ((fP (bW m M) n).getD 0 0)),_,((I.free hm iR _).mp hf).1,fO hm k2,k3,λi hi=>?_⟩
  exact cK.dt hm (λi' gH=>SA hm iR I hf gH) ((sp _).mp (cK.of (fv hi [])))
theorem RR.vK{m:Bool × Nat}(hm:m∈aF){w v:Nat}{S R:List (List Nat)}{H:Nat->Nat}(hS:RT (ae m) w S)(I:RR w S H)(hR:RT (ae m) v R)(h:∀i,i<S.length->cK m R (cf (S.getD i []))):S.length<=R.length:=by
 have r:=rg hm
 refine Nat.le_of_not_lt λhl=>?_
 have hc:∀i,∃c:Nat->Nat,i<S.length->(∀j,c j<ae m)/\∀k,cf (S.getD i []) k=sm (gp m) R.length λj=>gm m (c j) (cf (R.getD j []) k):=λi=>by
  by_cases hi:i<S.length
  ·obtain⟨c,a,b⟩:=(h i hi).sum hm hR
   exact⟨c,λ_=>⟨a,b⟩⟩
  ·exact⟨λ_=>0,λz=>absurd z hi⟩
 obtain⟨C,hC⟩:=Classical.axiomOfChoice hc
 have cl:∀i,i<S.length->∀j,C i j<ae m:=λi hi=>(hC i hi).1
 obtain⟨x,f,f1,x1,x2,x3⟩:=SD hm (n:=S.length) (M:=(aL R.length).map λj=>(aL S.length).map λi=>C i j) (λy hy=>by
  obtain⟨j,_,rfl⟩:=bD.mp hy
  refine⟨by rw[bt,bZ],λz hz=>?_⟩
  obtain⟨i,hi,rfl⟩:=bD.mp hz
  exact cl i (cX.mp hi) j) (by rw[bt,bZ];exact hl)
 rw[bt,bZ]at x3
 have x4:∀j,j<R.length->sm (gp m) S.length (λi=>gm m (C i j) (x i))=0:=λj hj=>by
  rw[<-x3 j hj]
  refine eA λi hi=>?_
  rw[pG (λj=>(aL S.length).map λi=>C i j) (by rw[bZ];exact hj) 0 [],Cd _ hi,aT,jY hj];rfl
 have x5:∀k,sm (gp m) S.length (λi=>gm m (x i) (cf (S.getD i []) k))=0:=λk=>by
  rw[eA (g:=λi=>sm (gp m) R.length λj=>gm m (gm m (C i j) (x i)) (cf (R.getD j []) k)) λi hi=>?_,R4 r,js r λj hj=>?_]
  ·rw[eA (g:=λi=>gm m (cf (R.getD j []) k) (gm m (C i j) (x i))) λi hi=>iP m _ _,si r,x4 j hj,r.qz]
  ·rw[(hC i hi).2 k,<- si r]
   exact eA λj _=>by rw[<-kj (dj m hm),iP m (x i)]
 have:=x5 (H f)
 rw[vJ r (f:=λi=>gm m (x i) (cf (S.getD i []) (H f))) (dy hm _ _) f1 λj hj hn=>by rw[I.u j f hj f1,if_neg hn,r.qz],I.u f f f1 f1,if_pos rfl,x2,rV (lo1 hm)]at this
 omega
theorem cn3{m:Bool × Nat}(hm:m∈aF){v:Nat}{G R:List (List Nat)}(hG:RT (ae m) (au G) G)(hR:RT (ae m) v R)(h:∀i,i<G.length->cK m R (cf (G.getD i []))):(bW m G).length<=R.length:=by
 obtain⟨⟨H,I⟩,iR,il,sp⟩:=mH hm hG
 refine I.vK hm iR hR λi hi=>?_
 refine Sp.trans (λf hf=>?_) ((sp _).mpr (cK.of (fv hi [])))
 obtain⟨x,hx,rfl⟩:=hf
 obtain⟨i,hi,rfl⟩:=kB hx
 have:=h i hi
 rw[aT,aP hi]at this
 exact this
theorem cF5{T:List (List Nat)}{i:Nat}(h:i<T.length):T.getD i []=T[i]:=by rw[aT,aP h];rfl
theorem cK.red{m:Bool × Nat}(hm:m∈aF){G:List (List Nat)}(hG:RT (ae m) (au G) G){f:Nat->Nat}(h:cK m G f):cK m (bW m G) f:=((mH hm hG).2.2.2 f).mp h
end L3
namespace L3
open PySem L2 PySem.Spec PyProof.Rows
section
variable{X:Cx}{F H:Hp}{e b:Expr}{pos pos' p p2 p3 apos cm:Pos}{ti te:aN}{x y:Str}{i j:Nat}
def y0(i j:Nat)(te ti:aN):cI:=λD δ=>te δ λd ao=>∃l1 ys l2,ao[i]?=some (some (.lst true (l1++.lst true ys::l2)))/\ao[j]?=some (some (.int l1.length))/\nu ti ao λk aS=>match k with
 | .int n=>∃jj,aS[i]?=some (some (.lst true (l1++.lst true ys::l2)))/\gY ys.length n=some jj/\D.nx (aS.set i (some (.lst true (l1++.lst true (ys.set jj d)::l2))))
 | _=>False
def vL(i:Nat)(n:Int)(te ti:aN):cI:=λD δ=>te δ λd ao=>∃l1 ys l2,ao[i]?=some (some (.lst true (l1++.lst true ys::l2)))/\n=l1.length/\nu ti ao λk aS=>match k with
 | .int n=>∃jj,aS[i]?=some (some (.lst true (l1++.lst true ys::l2)))/\gY ys.length n=some jj/\D.nx (aS.set i (some (.lst true (l1++.lst true (ys.set jj d)::l2))))
 | _=>False
theorem SE{n:Int}{tk:Nat}(hN:X.N[i]?=some x)(hv:lQ X.env.scope x)(he:PE X e (lE te))(hi:PE X b (lB ti))(hd:(x==("__debug__":Str))=false:=by decide)(cF:(x==("__classdict__":Str))=false:=by decide)
  (ha:∀v,assign (.Subscript (.Subscript (.Name x p) (.Constant (.int n) tk p2) p3) b pos') X.env v=(do
   let ov<-holding [v] (eval (.Subscript (.Name x p) (.Constant (.int n) tk p2) p3) X.env)
   let iv<-holding [v,ov] (eval b X.env)
   standAt pos'
   holding [v,ov,iv] (setItem ov iv v)
   release [v,ov,iv] []):=by intro _;rfl)
  (hs:swapsWithSole [.Subscript (.Subscript (.Name x p) (.Constant (.int n) tk p2) p3) b pos'] e pos.line X.env=pure false:=by rfl) (hw:swappedStores [.Subscript (.Subscript (.Name x p) (.Constant (.int n) tk p2) p3) b pos'] e X.env=pure none:=by rfl)
  (h1:(assignEach [.Subscript (.Subscript (.Name x p) (.Constant (.int n) tk p2) p3) b pos'] X.env).map (·.2)=[assign (.Subscript (.Subscript (.Name x p) (.Constant (.int n) tk p2) p3) b pos') X.env]:=by rfl) :
  PS X (.Assign [.Subscript (.Subscript (.Name x p) (.Constant (.int n) tk p2) p3) b pos'] e pos) (lS X (vL i n te ti)) :=
 jG (Oo he (Om (OP OT (qi hN hv hd cF) oA (λ_ _=>rfl)) (dh hi) OU ha) hs hw h1) λEn σ H zq=>by
 obtain⟨B,F,δ,Dd,c,q,k1,k2,k3,k4⟩:=zq
 exact⟨B,F,δ,[],_,c,q,λd ao v F1 H1 hq f1 h1 c1=>by
  obtain⟨l1,ys,l2,e1,e2,hq⟩:=hq
  obtain⟨p0,ws,g1,g2,g3⟩:=c1.ownAt e1
  obtain⟨q0,us,g5,g6,g7,_⟩:=FV c1 e1 g1 g2
  subst e2
  refine⟨.ref p0,g1,p0,ws,_,.ref q0,rfl,rfl,bK.of g2,BC g5,B,F1,ao,[(d,v)],_,c1,hq,λkd aS kv F2 H2 hk f2 h2 c2=>?_⟩
  have st:=c2.top
  split at hk
  ·obtain⟨jj,ex,ej,hn⟩:=hk
   cases st
   have c3:=c2.pop
   refine⟨q0,us,_,jj,rfl,rfl,h2 _ _ g6,by rw[<-g7];exact ej,k1 _ _ F2 _ hn ?_⟩
   exact aq.cZ2 (ps:=[(d,v)]) (ts:=[]) c3 ex g1 (h2 _ _ g2) g5 λus0 A1 A2 z r1 r2 nd=>by
    rw[h2 _ _ g6]at z;cases z
    exact R.Fs jj r1 r2 nd
  ·exact hk.elim⟩
end
section
variable{X:Cx}
end
section
variable{X:Cx}{es:List Expr}{tr:cH}{pos:Pos}
theorem cy8(h:PA X es (lA tr)):PE X (.List es pos) (lB (qN tr)) :=
 du (OE h) λσ H Q zq=>by
 obtain⟨B,F,δ,ts,Qd,c,q,k⟩:=zq
 exact⟨B,F,δ,ts,_,c,q,λds ao vs F1 H1 q1 f1 h1 c1 s1=>⟨by rw[<-s1.length];exact q1.1,λp hp=>k _ ao _ F1 _ q1.2 f1 (h1.trans (af.upd hp)) (c1.grow (af.upd hp)) (.own bJ (s1.mono (af.refl _) (af.upd hp)) .nil)⟩⟩
end
end L3
namespace L3
open PySem L2 Mf
end L3
namespace L3
open PySem L2 Mf
end L3
namespace L3
open PySem L2 Mf
end L3
namespace L2
open PySem PySem.Spec PyProof.Rows
section
variable{X:Cx}
theorem SF:∀{ns:List Int} {its:List Value},Vals (ns.map V.int) its->ns.length=its.length/\∀(i:Nat) (v:Value),its[i]?=some v->∃n t,ns[i]?=some n/\v=og n t
 | [],_,r=>by cases r;exact⟨rfl,λi v h=>by simp at h⟩
 | n::ns,_,r=>by
  cases r with
  | cons a b =>
   obtain⟨h1,h2⟩:=SF b
   obtain⟨t,rfl⟩:=a
   refine⟨by simp[h1],λi v h=>?_⟩
   cases i with
   | zero=>simp at h;exact⟨n,t,rfl,h.symm⟩
   | succ i=>simpa using h2 i v (by simpa using h)
theorem b20(hc:X.calm=true):gq X (.builtin "any") (λxs H Q=>∃(p:Addr) (ns:List Int),xs=[.ref p]/\bK X.K H p (ns.map V.int)/\Q (.bl (ns.any (· != 0))) H):=by
 intro pins s σ H xs us Q I r h
 obtain⟨p,ns,rfl,hS,q⟩:=h
 obtain⟨u,rfl,ru⟩:=r.one
 cases ru
 obtain⟨its,rv,pl,hz⟩:=I.list hS
 obtain⟨hlen,xB⟩:=SF rv
 have hl:=pl.isList
 have fI:p<s.heap.objs.size:=by obtain⟨_,e,_⟩:=hl;exact bP e
 refine call_any_walk (wpAny_pyIter_list hl ?_)
 refine⟨s.heap.objs.size,[s.heap.objs.size,p],[s.heap.objs.size],its.toArray.size,_,_,λi=>((ns.map (· != 0))[i]?).getD false,rfl,D0 (A:=X.A.in1) (I.ok.hd hc) _ p (fg fI) its.toArray,
  ⟨⟨_,gG _ rfl,rfl,rfl⟩,hl.push _⟩,λi v s' Q' E' hP hQ=>?_,λh' tk hk=>?_⟩
 ·obtain⟨n,t,e,rfl⟩:=xB i v (by simpa using hP)
  simp only[cj,e,wU,pZ]at hQ
  exact PyProof.Rows.truthy_int hQ
 ·have e:((aL its.toArray.size).any λi=>((ns.map (· != 0))[i]?).getD false)=(ns.map (· != 0)).any id:=by
   rw[dH,<- hlen,<- bt (f:=(· != 0)) (as:=ns)];exact PD _
  rw[e,List.any_map]
  exact⟨.bl _,H,I.kept (h':=h') (t':=tk) (Be hk),rfl,q⟩
end
end L2
namespace L3
open PySem L2 PySem.Spec PyProof.Rows
section
variable{X:Cx}
def su:jn:=λds Q=>match ds with
 | [.lst _ xs]=>∃ns,xs=aG ns/\Q (.bl (ns.any (· != 0)))
 | _=>False
theorem cE3(hc:X.calm=true):gA X (.builtin "any") su:=gA.of (b20 hc) λvs H Q zz=>by
 obtain⟨B,F,σ,δ,ts,ds,Qd,c,s,q,k⟩:=zz
 unfold su at q
 split at q
 ·obtain⟨v,rfl,s1⟩:=kg s
  obtain⟨ns,rfl,q⟩:=q
  obtain⟨p,ws,rfl,h,t⟩:=kM s1 c.ext rfl
  rw[Gi t]at h
  exact⟨p,ns,rfl,kh h,k _ _ _ q (af.refl _) (c.pushS (.bl .nil) rfl)⟩
 ·exact q.elim
end
end L3
namespace L2
open PySem PySem.Spec PyProof.Rows
section
variable{X:Cx}{a:Expr}{ta:TE}{p p2 pos y6:Pos}
end
end L2
namespace L3
open PySem L2 PySem.Spec PyProof.Rows
section
variable{X:Cx}{a:Expr}{t:aN}{p p2 pos y6:Pos}
end
end L3
namespace L3
open PySem L2 PySem.Spec PyProof.Rows
section
variable{F H:Hp}
end
section
variable{X:Cx}{e:Expr}{t:aN}{p2 pos:Pos}
end
end L3
namespace L3
open PySem L2 PySem.Spec PyProof.Rows
section
variable{F H:Hp}
end
section
variable{P:Program}{w:World}{K:PySem.W.Frag}{mg:Str->Option Value}{base:Heap}
end
section
variable{X:Cx}{CX:eQ}{n i:Nat}{f:Addr}{fd:FuncData}{ps:List Str}{sp:bh}{E:XK}{fn x:Str}{e:Expr}{te:aN}{p p2 pos pos' y6:Pos}
end
end L3
namespace L2
section
variable{α:Type}{P:List α->Prop}
theorem cA5(h:P []):∀us:List α,us.length=0->P us:=by
 intro us hl;rcases us with _ | ⟨a,t⟩
 ·exact h
 ·cases hl
theorem fw(h:∀a,P [a]):∀us:List α,us.length=1->P us:=by
 intro us hl;rcases us with _ | ⟨a,t⟩
 ·cases hl
 ·exact cA5 (P:=λt=>P (a::t)) (h a) t (Aq hl)
theorem eU(h:∀a b,P [a,b]):∀us:List α,us.length=2->P us:=by
 intro us hl;rcases us with _ | ⟨a,t⟩
 ·cases hl
 ·exact fw (P:=λt=>P (a::t)) (h a) t (Aq hl)
theorem gb(h:∀a b c,P [a,b,c]):∀us:List α,us.length=3->P us:=by
 intro us hl;rcases us with _ | ⟨a,t⟩
 ·cases hl
 ·exact eU (P:=λt=>P (a::t)) (h a) t (Aq hl)
theorem pH(h:∀a b c d,P [a,b,c,d]):∀us:List α,us.length=4->P us:=by
 intro us hl;rcases us with _ | ⟨a,t⟩
 ·cases hl
 ·exact gb (P:=λt=>P (a::t)) (h a) t (Aq hl)
theorem SG(h:∀a b c d e,P [a,b,c,d,e]):∀us:List α,us.length=5->P us:=by
 intro us hl;rcases us with _ | ⟨a,t⟩
 ·cases hl
 ·exact pH (P:=λt=>P (a::t)) (h a) t (Aq hl)
end
end L2
namespace L3
open PySem L2 PySem.Spec PyProof.Rows
section
variable{B:Bs}{F H:Hp}{σ:L2.St}{δ:Dl}{ts:List (D × V)}
end
section
variable{X:Cx}{elt iter tg:Expr}{pos:Pos}{scope:Scope}{cl:List (Str × Addr)}{ti:jk}{te:aN}{g:iu}
end
end L3
namespace L2
open PySem PySem.Spec PyProof.Rows
section
variable{X:Cx}
end
end L2
namespace L3
open PySem L2 PySem.Spec PyProof.Rows
section
variable{X:Cx}
end
end L3
namespace L3
open PySem L2 Mf
theorem SH{m:Bool × Nat}(hm:m∈aF){a b:Nat}(ha:a<ae m)(hb:b<ae m):gm m a b=0↔a=0\/b=0:=by
 constructor
 ·intro h
  by_cases a0:a=0
  ·exact .inl a0
  ·by_cases b0:b=0
   ·exact .inr b0
   ·exact absurd h (cG5 hm (by omega) ha (by omega) hb)
 ·rintro (rfl | rfl)
  ·exact iC m _ (dj m hm)
  ·exact kS m _ (dj m hm)
theorem ct5{xs ys:List Nat}{i:Nat}{d:D}(h:(dE (ak xs) (ak ys))[i]?=some d):∃(hi:i<xs.length) (hj:i<ys.length),d=.tup [.int (xs[i]:Nat),.int (ys[i]:Nat)]:=by
 unfold dE at h
 rw[cA,cA,Am]at h
 have hl:=(iX.mp h).1
 rw[i5]at hl
 have hi:i<xs.length:=by omega
 have hj:i<ys.length:=by omega
 rw[mX,aP hi,aP hj]at h
 exact⟨hi,hj,(cS h).symm⟩
theorem b86(xs ys:List Nat):(dE (ak xs) (ak ys)).length=min xs.length ys.length:=by unfold dE;rw[i5,dW,dW]
def fi(m:Bool × Nat)(b:Nat)(ps:List Nat)(n:Nat):List (List Nat):=(aL n).map λ(i:Nat)=>ps.map λ(p:Nat)=>eS m (((b:Int)+(i:Int))*(p:Int))
theorem Cg{m:Bool × Nat}(hm:m∈aF)(b:Nat)(ps:List Nat)(n:Nat):RT (ae m) ps.length (fi m b ps n)/\(fi m b ps n).length=n:=by
 refine⟨λr hr=>?_,by unfold fi;rw[bt,bZ]⟩
 obtain⟨i,_,rfl⟩:=bD.mp hr
 refine⟨by rw[bt],λx hx=>?_⟩
 obtain⟨p,_,rfl⟩:=bD.mp hx
 exact cM8 hm _
end L3
namespace L3
open PySem L2 Mf
def gO(m:Bool × Nat)(c:List Nat)(os:List (List Nat)):List (List Nat):=os.map λo =>
 (cT (λx y=>bO m x (gm m (gm m (o.getD (aY c) 0) (mG m (c.getD (aY c) 0))) y)) o c).take (aY c)++(cT (λx y=>bO m x (gm m (gm m (o.getD (aY c) 0) (mG m (c.getD (aY c) 0))) y)) o c).drop (aY c+1)
abbrev Cs:=List Nat × List (List Nat)
def nul(c:List Nat):Bool:=c.all (·==0)
def iS(m:Bool × Nat)(w:Nat)(z:Cs × Nat):Cs:=(z.1.1++[w-z.1.2.length+z.2],gO m (z.1.2.getD z.2 []) (z.1.2.drop (z.2+1)))
def fA(s:Cs):List (Cs × Nat):=(aL s.2.length).map λi=>(s,i)
def dS(l:List Cs):List (Cs × Nat):=l.flatMap fA
def nS(z:Cs × Nat):Bool:=nul (z.1.2.getD z.2 [])
def sA(m:Bool × Nat)(w:Nat):Nat->List Cs->Option (List Nat)
 | 0,_=>none
 | f+1,l=>if l=[]then none else match (dS l).find? nS with
  | some z=>some (z.1.1++[w-z.1.2.length+z.2])
  | none=>sA m w f ((dS l).map (iS m w))
def gD(m:Bool × Nat)(C:Nat->Nat->Nat)(ps:List Nat)(c:Nat->Nat)(k:Nat):Nat:=sm (gp m) ps.length λt=>gm m (c t) (C (ps.getD t 0) k)
def vM(m:Bool × Nat)(C:Nat->Nat->Nat)(ps:List Nat):Prop:=∀c:Nat->Nat,(∀t,c t<ae m)->(∀k,gD m C ps c k=0)->∀t,t<ps.length->c t=0
structure Gs(m:Bool × Nat)(C:Nat->Nat->Nat)(w:Nat)(s:Cs):Prop where
 le:s.2.length<=w
 inc:s.1.Pairwise (· < ·)
 off:∀p∈s.1,p<w-s.2.length
 nx:∀j,(∀p∈s.1,p<j)->w-s.2.length<=j
 rt:∃h,RT (ae m) h s.2
 rel:∀a:Nat->Nat,(∀i,a i<ae m)->((∀k,sm (gp m) s.2.length (λi=>gm m (a i) (cf (s.2.getD i []) k))=0)↔∃c:Nat->Nat,(∀t,c t<ae m)/\∀k,gp m (sm (gp m) s.2.length λi=>gm m (a i) (C (w-s.2.length+i) k)) (gD m C s.1 c k)=0)
 ind:vM m C s.1
section
variable{m:Bool × Nat}{C:Nat->Nat->Nat}{w:Nat}
theorem cA7(hm:m∈aF)(C:Nat->Nat->Nat)(ps:List Nat)(c:Nat->Nat)(k:Nat):gD m C ps c k<ae m:=pB (rg hm) λ_ _=>dy hm _ _
theorem Ci(hm:m∈aF)(C:Nat->Nat->Nat)(ps:List Nat)(j:Nat)(c:Nat->Nat)(k:Nat):gD m C (ps++[j]) c k=gp m (gD m C ps c k) (gm m (c ps.length) (C j k)):=by
 unfold gD
 rw[dG,lH,sm]
 congr 1
 ·refine eA λt ht=>?_
  rw[aT,pV ht,<- aT]
 ·rw[aT,kz (bG _),wJ];rfl
theorem SI{ps:List Nat}{c c':Nat->Nat}{k:Nat}(h:∀t,t<ps.length->c t=c' t):gD m C ps c k=gD m C ps c' k:=eA λt ht=>by rw[h t ht]
theorem pI(hm:m∈aF){n i e:Nat}(hi:i<n)(a' X:Nat->Nat):sm (gp m) n (λj=>gm m (if j<i then 0 else if j=i then e else a' (j-i-1)) (X j))=gp m (sm (gp m) (n-i-1) λj=>gm m (a' j) (X (i+1+j))) (gm m e (X i)):=by
 have r:=rg hm
 have h0:=dj m hm
 obtain⟨d,rfl⟩:∃d,n=(i+1)+d:=⟨n-i-1,by omega⟩
 rw[R5 r (i+1) d λ_ _=>dy hm _ _,sm,js r λj hj=>by rw[if_pos hj,iC m _ h0],if_neg (gF _),if_pos rfl,r.z (dy hm _ _),pq]
 congr 1
 rw[show i+1+d-i-1=d by omega]
 refine eA λj hj=>?_
 rw[if_neg (by omega),if_neg (by omega),show i+1+j-i-1=j by omega]
theorem SJ{c:List Nat}:nul c=true↔∀k,cf c k=0:=by
 unfold nul
 rw[dr]
 constructor
 ·intro h k
  by_cases hk:k<c.length
  ·unfold cf
   have:=h _ (fv hk 0)
   exact beq_iff_eq.mp this
  ·exact vH (by omega)
 ·intro h x hx
  obtain⟨k,hk,rfl⟩:=kB hx
  have:=h k
  unfold cf at this
  rw[aT,aP hk]at this
  exact beq_iff_eq.mpr this
theorem G7{c:List Nat}(h:nul c=false):aY c<c.length/\cf c (aY c)≠0:=by
 have hx:∃x∈c,(x != 0)=true:=by
  refine DY λz=>?_
  have:nul c=true:=by
   unfold nul
   rw[dr]
   intro x hx
   refine DY λy=>z ⟨x,hx,?_⟩
   simpa using y
  rw[h]at this;cases this
 have hl:aY c<c.length:=N1 hx
 refine⟨hl,?_⟩
 have h2:(c[aY c] != 0)=true:=Xg (xs:=c) (p:=(· != 0)) (w:=hl)
 unfold cf
 rw[aT,aP hl]
 simpa using h2
theorem cm6(hm:m∈aF){b:List Nat}{os:List (List Nat)}{h:Nat}(hb:b.length=h)(ab:AllLt (ae m) b)(k7:RT (ae m) h os)(nb:nul b=false){a:Nat->Nat}(ha:∀i,a i<ae m) :
  (∀k,sm (gp m) os.length (λj=>gm m (a j) (cf ((gO m b os).getD j []) k))=0)↔∃e,e<ae m/\∀k,gp m (sm (gp m) os.length λj=>gm m (a j) (cf (os.getD j []) k)) (gm m e (cf b k))=0:=by
 have r:=rg hm
 have h0:=dj m hm
 have eY:=lo1 hm
 obtain⟨hp,bp⟩:=G7 nb
 have SK:=fO hm ab (aY b)
 obtain⟨iv,iv1,SM⟩:=R6 hm (a:=1) (by omega) SK bp
 have G8:mG m (b.getD (aY b) 0)=iv:=BZ hm iv1 SM
 obtain⟨D,hD⟩:∃D:Nat->List Nat,∀j,D j=cT (λx y=>bO m x (gm m (gm m ((os.getD j []).getD (aY b) 0) iv) y)) (os.getD j []) b:=⟨_,λ_=>rfl⟩
 have SN:∀j,j<os.length->∀k,gp m (cf (D j) k) (gm m (gm m (cf (os.getD j []) (aY b)) iv) (cf b k))=cf (os.getD j []) k:=λj hj k=>by
  rw[hD]
  exact B8 hm (k7 _ (fv hj [])).1 hb (k7 _ (fv hj [])).2 k
 have Dlt:∀j,j<os.length->∀k,cf (D j) k<ae m:=λj hj k=>by
  rw[hD]
  exact G1 hm (k7 _ (fv hj [])).1 hb (k7 _ (fv hj [])).2 _ k
 have Dp:∀j,j<os.length->cf (D j) (aY b)=0:=λj hj=>by
  have l1:=fO hm (k7 _ (fv hj [])).2 (aY b)
  have:=SN j hj (aY b)
  rw[kj h0,SM,rW l1]at this
  exact r.cn (Dlt j hj _) l1 this
 have df5:∀j,j<os.length->(D j).length=h:=λj hj=>by
  rw[hD,i5,(k7 _ (fv hj [])).1,hb,Ak]
 have G9:∀j,j<os.length->∀k,cf ((gO m b os).getD j []) k=cf (D j) (if k<aY b then k else k+1):=λj hj k=>by
  have e1:(gO m b os).getD j []=(D j).take (aY b)++(D j).drop (aY b+1):=by
   unfold gO
   rw[pG _ hj [] [],G8,hD]
  rw[e1]
  have lt:((D j).take (aY b)).length=aY b:=by rw[iF,df5 j hj];omega
  unfold cf
  by_cases hk:k<aY b
  ·rw[if_pos hk,aT,pV (by omega),W0 hk,<- aT]
  ·rw[if_neg hk,aT,kz (by omega),lt,NQ,show aY b+1+(k-aY b)=k+1 by omega,<- aT]
 obtain⟨F,hF⟩:∃F,F=sm (gp m) os.length λj=>gm m (a j) (gm m (cf (os.getD j []) (aY b)) iv):=⟨_,rfl⟩
 have Flt:F<ae m:=by rw[hF];exact pB r λ_ _=>dy hm _ _
 have SO:∀k,(sm (gp m) os.length λj=>gm m (a j) (cf (os.getD j []) k))=gp m (sm (gp m) os.length λj=>gm m (a j) (cf (D j) k)) (gm m F (cf b k)):=λk=>by
  rw[eA (g:=λj=>gp m (gm m (a j) (cf (D j) k)) (gm m (cf b k) (gm m (a j) (gm m (cf (os.getD j []) (aY b)) iv)))) λj hj=>?_,sg r,si r,<- hF,iP m (cf b k)]
  rw[<-SN j hj k,RW h0]
  congr 1
  rw[<-kj h0,iP m _ (cf b k)]
 have nJ:(∀k,sm (gp m) os.length (λj=>gm m (a j) (cf ((gO m b os).getD j []) k))=0)↔∀k,sm (gp m) os.length (λj=>gm m (a j) (cf (D j) k))=0:=by
  constructor
  ·intro h k
   by_cases e:k=aY b
   ·exact js r λj hj=>by rw[e,Dp j hj,kS m _ h0]
   ·by_cases c:k<aY b
    ·rw[<-h k]
     exact eA λj hj=>by rw[G9 j hj,if_pos c]
    ·rw[<-h (k-1)]
     exact eA λj hj=>by rw[G9 j hj,if_neg (by omega),show k-1+1=k by omega]
  ·intro h k
   rw[eA λj hj=>by rw[G9 j hj]]
   exact h _
 rw[nJ]
 constructor
 ·intro h
  obtain⟨e,e1,e2⟩:=r.ng Flt
  refine⟨e,e1,λk=>?_⟩
  rw[SO k,h k,r.z (dy hm _ _),<- GL h0,e2,iC m _ h0]
 ·rintro⟨e,e1,h⟩
  have key:∀k,gp m (sm (gp m) os.length λj=>gm m (a j) (cf (D j) k)) (gm m (gp m F e) (cf b k))=0:=λk=>by
   rw[GL h0,<- GK,<- SO k]
   exact h k
  have fe:gp m F e=0:=by
   have:=key (aY b)
   rw[js r λj hj=>by rw[Dp j hj,kS m _ h0],r.z (dy hm _ _)]at this
   rcases(SH hm (RX hm Flt e1) SK).mp this with z | z
   ·exact z
   ·exact absurd z bp
  intro k
  have:=key k
  rw[fe,iC m _ h0,yT (pB r λ_ _=>dy hm _ _)]at this
  exact this
theorem SQ(m:Bool × Nat)(b:List Nat)(os:List (List Nat)):(gO m b os).length=os.length:=by unfold gO;rw[bt]
theorem cE7(hm:m∈aF){b:List Nat}{os:List (List Nat)}{h:Nat}(hb:b.length=h)(k7:RT (ae m) h os)(nb:nul b=false):RT (ae m) (h-1) (gO m b os):=λx hx=>by
 obtain⟨o,ho,rfl⟩:=bD.mp hx
 obtain⟨hp,_⟩:=G7 nb
 obtain⟨l1,l2⟩:=k7 o ho
 refine⟨by rw[dG,iF,lF,i5,l1,hb];omega,λy hy=>?_⟩
 have:AllLt (ae m) (cT (λx y=>bO m x (gm m (gm m (o.getD (aY b) 0) (mG m (b.getD (aY b) 0))) y)) o b):=GN λx hx y _=>(mE hm (l2 x hx) (dy hm _ y)).2.1
 rcases bX.mp hy with z | z
 ·exact this y (tJ z)
 ·exact this y (p9 z)
theorem Gs.next(hm:m∈aF){s:Cs}(G:Gs m C w s){i:Nat}(hi:i<s.2.length)(nb:nul (s.2.getD i [])=false)(hC:∀j k,C j k<ae m):Gs m C w (iS m w (s,i)):=by
 have r:=rg hm
 have h0:=dj m hm
 have eY:=lo1 hm
 have hle:=G.le
 obtain⟨h,Cj⟩:=G.rt
 obtain⟨bl,ba⟩:=Cj _ (fv hi [])
 have SR:RT (ae m) h (s.2.drop (i+1)):=λx hx=>Cj x (p9 hx)
 have kl:(iS m w (s,i)).2.length=s.2.length-i-1:=by
  show(gO m _ _).length=_
  rw[SQ,lF]
  show s.2.length-(i+1)=_
  omega
 have dl:(s.2.drop (i+1)).length=s.2.length-i-1:=by rw[lF];omega
 have ko:w-(iS m w (s,i)).2.length=w-s.2.length+i+1:=by omega
 have dg:∀j,(s.2.drop (i+1)).getD j []=s.2.getD (i+1+j) []:=λj=>by rw[aT,NQ,<- aT]
 refine⟨by omega,?_,λp hp=>?_,λj hj=>?_,⟨h-1,cE7 hm bl SR nb⟩,λa ha=>?_,λc hc hz t ht=>?_⟩
 ·refine Ar.mpr ⟨G.inc,N5 _ _,λx hx y hy=>?_⟩
  rw[eW.mp hy]
  have:=G.off x hx
  show x<w-s.2.length+i
  omega
 ·rw[ko]
  rcases bX.mp hp with z | z
  ·have:=G.off p z;omega
  ·rw[eW.mp z];exact Ac _
 ·rw[ko]
  have:=hj (w-s.2.length+i) (cZ _ (eW.mpr rfl))
  omega
 ·have e1:(∀k,sm (gp m) (iS m w (s,i)).2.length (λj=>gm m (a j) (cf ((iS m w (s,i)).2.getD j []) k))=0)↔∃e,e<ae m/\∀k,gp m (sm (gp m) (s.2.length-i-1) λj=>gm m (a j) (cf (s.2.getD (i+1+j) []) k)) (gm m e (cf (s.2.getD i []) k))=0:=by
   have:=cm6 hm bl ba SR nb ha
   rw[dl]at this
   rw[kl]
   refine this.trans ?_
   constructor
   ·rintro⟨e,e1,e2⟩
    exact⟨e,e1,λk=>by rw[<-e2 k,eA λj _=>by rw[<-dg j]]⟩
   ·rintro⟨e,e1,e2⟩
    exact⟨e,e1,λk=>by rw[<-e2 k,eA λj _=>by rw[dg j]]⟩
  rw[e1]
  have al:∀e,e<ae m->∀j,(if j<i then 0 else if j=i then e else a (j-i-1))<ae m:=λe he j=>by
   split
   ·omega
   ·split
    ·exact he
    ·exact ha _
  have SS:∀(c:Nat->Nat) (e k:Nat),gp m (sm (gp m) s.2.length λj=>gm m (if j<i then 0 else if j=i then e else a (j-i-1)) (C (w-s.2.length+j) k)) (gD m C s.1 c k)=gp m (sm (gp m) (s.2.length-i-1) λj=>gm m (a j) (C (w-s.2.length+i+1+j) k)) (gp m (gD m C s.1 c k) (gm m e (C (w-s.2.length+i) k))):=λc e k=>by
   rw[pI hm hi a (λj=>C (w-s.2.length+j) k),GK,pq m (gm m e _)]
   congr 1
   exact eA λj _=>by rw[show w-s.2.length+(i+1+j)=w-s.2.length+i+1+j by omega]
  have ln:∀c k,gD m C (iS m w (s,i)).1 c k=gp m (gD m C s.1 c k) (gm m (c s.1.length) (C (w-s.2.length+i) k)):=λc k=>Ci hm C s.1 _ c k
  constructor
  ·rintro⟨e,e1,e2⟩
   obtain⟨c,c1,c2⟩:=(G.rel _ (al e e1)).mp λk=>by
    rw[pI hm hi a (λj=>cf (s.2.getD j []) k)]
    exact e2 k
   refine⟨λt=>if t=s.1.length then e else c t,λt=>by
    show(if t=s.1.length then e else c t)<ae m
    split
    ·exact e1
    ·exact c1 t,λk=>?_⟩
   rw[ln,ko,kl,if_pos rfl,SI (c':=c) λt ht=>if_neg (fg ht),<- SS c e k]
   exact c2 k
  ·rintro⟨c,c1,c2⟩
   refine⟨c s.1.length,c1 _,λk=>?_⟩
   have:=(G.rel _ (al _ (c1 s.1.length))).mpr ⟨c,c1,λk=>by
    rw[SS c _ k]
    have:=c2 k
    rw[ln,ko,kl]at this
    exact this⟩ k
   rw[pI hm hi a (λj=>cf (s.2.getD j []) k)]at this
   exact this
 ·have ln:∀k,gp m (gD m C s.1 c k) (gm m (c s.1.length) (C (w-s.2.length+i) k))=0:=λk=>by
   rw[<-Ci hm C s.1 _ c k]
   exact hz k
  have e0:c s.1.length=0:=by
   refine DY λz=>?_
   have al:∀j,(if j<i then 0 else if j=i then c s.1.length else(λ_=>0) (j-i-1))<ae m:=λj=>by
    split
    ·omega
    ·split
     ·exact hc _
     ·show 0<_;omega
   have z0:∀(n:Nat) (X:Nat->Nat),sm (gp m) n (λj=>gm m ((λ_=>0) j) (X j))=0:=λn X=>js r λ_ _=>iC m _ h0
   have:=(G.rel _ al).mpr ⟨c,hc,λk=>by
    rw[pI hm hi (λ_=>0) (λj=>C (w-s.2.length+j) k),z0,r.z (dy hm _ _),pq]
    exact ln k⟩
   have nn:nul (s.2.getD i [])=true:=SJ.mpr λk=>by
    have q:=this k
    rw[pI hm hi (λ_=>0) (λj=>cf (s.2.getD j []) k),z0,r.z (dy hm _ _)]at q
    rcases(SH hm (hc _) (fO hm ba k)).mp q with y | y
    ·exact absurd y z
    ·exact y
   rw[nb]at nn;cases nn
  have hs:∀k,gD m C s.1 c k=0:=λk=>by
   have:=ln k
   rw[e0,iC m _ h0,yT (cA7 hm C _ c k)]at this
   exact this
  have hl:(iS m w (s,i)).1.length=s.1.length+1:=by show(s.1++[_]).length=_;rw[dG];rfl
  by_cases ct:t<s.1.length
  ·exact G.ind c hc hs t ct
  ·rw[show t=s.1.length by omega];exact e0
theorem Gs.bound(hm:m∈aF){s:Cs}(G:Gs m C w s){i:Nat}(hi:i<s.2.length)(hC:∀j k,C j k<ae m):nul (s.2.getD i [])=true↔∃c:Nat->Nat,(∀t,c t<ae m)/\c s.1.length=1/\∀k,gD m C (s.1++[w-s.2.length+i]) c k=0:=by
 have r:=rg hm
 have h0:=dj m hm
 have eY:=lo1 hm
 obtain⟨h,Cj⟩:=G.rt
 obtain⟨bl,ba⟩:=Cj _ (fv hi [])
 have al:∀j,(if j<i then 0 else if j=i then 1 else(λ_=>0) (j-i-1))<ae m:=λj=>by
  split
  ·omega
  ·split
   ·omega
   ·show 0<_;omega
 have z0:∀(n:Nat) (X:Nat->Nat),sm (gp m) n (λj=>gm m ((λ_=>0) j) (X j))=0:=λn X=>js r λ_ _=>iC m _ h0
 have e1:nul (s.2.getD i [])=true↔∀k,sm (gp m) s.2.length (λj=>gm m (if j<i then 0 else if j=i then 1 else(λ_=>0) (j-i-1)) (cf (s.2.getD j []) k))=0:=by
  rw[SJ]
  refine forall_congr' λk=>?_
  rw[pI hm hi (λ_=>0) (λj=>cf (s.2.getD j []) k),z0,r.z (dy hm _ _),rV (fO hm ba k)]
 rw[e1,G.rel _ al]
 constructor
 ·rintro⟨c,c1,c2⟩
  refine⟨λt=>if t=s.1.length then 1 else c t,λt=>by
   show(if t=s.1.length then 1 else c t)<ae m
   split
   ·omega
   ·exact c1 t,if_pos rfl,λk=>?_⟩
  rw[Ci hm,if_pos rfl,SI (c':=c) λt ht=>if_neg (fg ht),pq,<- c2 k,pI hm hi (λ_=>0) (λj=>C (w-s.2.length+j) k),z0,r.z (dy hm _ _)]
 ·rintro⟨c,c1,c2,c3⟩
  refine⟨c,c1,λk=>?_⟩
  have:=c3 k
  rw[Ci hm,c2]at this
  rw[pI hm hi (λ_=>0) (λj=>C (w-s.2.length+j) k),z0,r.z (dy hm _ _),pq]
  exact this
end
end L3
namespace L3
open PySem L2 Mf
def jR:List Nat->List Nat->Prop
 | a::as,b::bs=>a<b\/(a=b/\jR as bs)
 | _,_=>False
theorem SU:∀l:List Nat,¬ jR l l
 | [],h=>h
 | a::l,h=>h.elim (λz=>gF _ z) λz=>SU l z.2
theorem SV:∀a b:List Nat,jR a b->¬ jR b a
 | [],_,h,_=>h
 | _::_,[],h,_=>h
 | a::as,b::bs,h,h'=>by
  rcases h with h | ⟨rfl,h⟩
  ·rcases h' with h' | ⟨e,_⟩
   ·omega
   ·omega
  ·rcases h' with h' | ⟨_,h'⟩
   ·omega
   ·exact SV as bs h h'
theorem SW:∀(a b:List Nat) (x y:List Nat),a.length=b.length->jR a b->jR (a++x) (b++y)
 | [],_,_,_,_,h=>h.elim
 | _::_,[],_,_,_,h=>h.elim
 | a::as,b::bs,x,y,hl,h=>by
  rcases h with h | ⟨e,h⟩
  ·exact .inl h
  ·exact .inr ⟨e,SW as bs x y (by simpa using hl) h⟩
theorem SX:∀(a:List Nat) (x y:Nat),x<y->jR (a++[x]) (a++[y])
 | [],_,_,h=>.inl h
 | _::as,x,y,h=>.inr ⟨rfl,SX as x y h⟩
def jt(w:Nat)(S:List Nat):Prop:=S.Pairwise (· < ·)/\∀x∈S,x<w
theorem SY:∀(S:List Nat) (lo w:Nat),S.Pairwise (· < ·)->(∀x∈S,lo<=x/\x<w)->S.length<=w-lo
 | [],_,_,_,_=>lD _
 | a::S,lo,w,hp,h=>by
  rw[Ef]at hp
  have ih:=SY S (a+1) w hp.2 λx hx=>⟨hp.1 x hx,(h x (gi _ hx)).2⟩
  have ha:=h a (iW ..)
  rw[jx]
  omega
theorem jt.len{S:List Nat}{w:Nat}(h:jt w S):S.length<=w:=SY S 0 w h.1 λx hx=>⟨lD _,h.2 x hx⟩
theorem jt.take{S:List Nat}{w:Nat}(h:jt w S)(k:Nat):jt w (S.take k):=⟨h.1.sublist (List.take_sublist k S),λx hx=>h.2 x (tJ hx)⟩
def jS(w:Nat)(z:Cs × Nat):List Nat:=z.1.1++[w-z.1.2.length+z.2]
structure Lv(m:Bool × Nat)(C:Nat->Nat->Nat)(w k:Nat)(l:List Cs):Prop where
 gs:∀s∈l,Gs m C w s/\s.1.length=k
 all:∀S,jt w S->S.length=k->∃s∈l,s.1=S
 ord:(l.map (·.1)).Pairwise jR
theorem vN{l:List Cs}{z:Cs × Nat}:z∈dS l↔z.1∈l/\z.2<z.1.2.length:=by
 unfold dS
 rw[List.mem_flatMap]
 constructor
 ·rintro⟨s,hs,hz⟩
  obtain⟨i,hi,rfl⟩:=bD.mp hz
  exact⟨hs,cX.mp hi⟩
 ·rintro⟨h1,h2⟩
  exact⟨z.1,h1,bD.mpr ⟨z.2,cX.mpr h2,rfl⟩⟩
section
variable{m:Bool × Nat}{C:Nat->Nat->Nat}{w:Nat}
theorem Ha{k:Nat}:∀{l:List Cs},(∀s∈l,s.1.length=k)->(l.map (·.1)).Pairwise jR->((dS l).map (jS w)).Pairwise jR
 | [],_,_=>NC
 | s::l,hl,ho=>by
  rw[dn,Ef]at ho
  show(((fA s)++dS l).map (jS w)).Pairwise jR
  rw[fo,Ar]
  refine⟨?_,Ha (λs hs=>hl s (gi _ hs)) ho.2,λa ha b hb=>?_⟩
  ·unfold fA
   rw[cw]
   refine List.pairwise_map.mpr (Xm.imp λ{a b} hab=>?_)
   exact SX s.1 _ _ (show w-s.2.length+a<w-s.2.length+b by omega)
  ·obtain⟨z,hz,rfl⟩:=bD.mp ha
   obtain⟨i,_,rfl⟩:=bD.mp hz
   obtain⟨y,hy,rfl⟩:=bD.mp hb
   obtain⟨h1,_⟩:=vN.mp hy
   exact SW _ _ _ _ (by rw[hl s (iW ..),hl _ (gi _ h1)]) (ho.1 _ (bD.mpr ⟨_,h1,rfl⟩))
theorem Lv.meets(L:Lv m C w k l){S:List Nat}(hS:jt w S)(hk:S.length=k+1):∃z∈dS l,jS w z=S:=by
 have e:S=S.take k++[S.getD k 0]:=by
  have h1:S.drop k=[S.getD k 0]:=by
   rw[List.drop_eq_getElem_cons (by omega),List.drop_of_length_le (by omega),aT,aP (by omega)];rfl
  conv=>lhs;rw[<-N6 k S,h1]
 obtain⟨s,hs,es⟩:=L.all _ (hS.take k) (by rw[iF];omega)
 obtain⟨G,_⟩:=L.gs s hs
 have hj:∀p∈s.1,p<S.getD k 0:=λp hp=>by
  rw[es]at hp
  have:=hS.1
  rw[e,Ar]at this
  exact this.2.2 p hp _ (eW.mpr rfl)
 have h1:=G.nx _ hj
 have h2:=hS.2 (S.getD k 0) (fv (by omega) 0)
 have h3:=G.le
 refine⟨(s,S.getD k 0-(w-s.2.length)),vN.mpr ⟨hs,?_⟩,?_⟩
 ·show S.getD k 0-(w-s.2.length)<s.2.length
  omega
 ·show s.1++[w-s.2.length+(S.getD k 0-(w-s.2.length))]=S
  rw[show w-s.2.length+(S.getD k 0-(w-s.2.length))=S.getD k 0 by omega,es]
  exact e.symm
theorem Lv.next(hm:m∈aF)(hC:∀j k,C j k<ae m)(L:Lv m C w k l)(hn:∀z∈dS l,nS z=false):Lv m C w (k+1) ((dS l).map (iS m w)) where
 gs:=λs hs=>by
  obtain⟨z,hz,rfl⟩:=bD.mp hs
  obtain⟨h1,h2⟩:=vN.mp hz
  obtain⟨G,hl⟩:=L.gs _ h1
  refine⟨G.next hm h2 (hn z hz) hC,?_⟩
  show(z.1.1++[_]).length=_
  rw[dG,hl];rfl
 all:=λS hS hk=>by
  obtain⟨z,hz,e⟩:=L.meets hS hk
  exact⟨iS m w z,bD.mpr ⟨z,hz,rfl⟩,e⟩
 ord:=by
  rw[cw]
  exact Ha (λs hs=>(L.gs s hs).2) L.ord
theorem S0(hm:m∈aF)(hC:∀j k,C j k<ae m):∀(f k:Nat) (l:List Cs),Lv m C w k l->w+1<=f+k ->
  match sA m w f l with
  | none=>∀S,jt w S->k<=S.length->vM m C S
  | some F=>jt w F/\k<F.length/\(∃c:Nat->Nat,(∀t,c t<ae m)/\c (F.length-1)=1/\∀j,gD m C F c j=0)/\∀S,jt w S->k<=S.length->S.length<F.length\/(S.length=F.length/\jR S F)->vM m C S
 | 0,k,l,L,hf=>λS hS hk=>absurd hS.len (by omega)
 | f+1,k,l,L,hf=>by
  have here:∀S,jt w S->S.length=k->vM m C S:=λS hS hk=>by
   obtain⟨s,hs,rfl⟩:=L.all S hS hk
   exact(L.gs s hs).1.ind
  rw[sA]
  by_cases l0:l=[]
  ·rw[if_pos l0]
   subst l0
   intro S hS hk
   obtain⟨s,hs,_⟩:=L.all (S.take k) (hS.take k) (by rw[iF];omega)
   cases hs
  ·rw[if_neg l0]
   cases e:(dS l).find? nS with
   | some z =>
    obtain⟨hz,as,bs,eL,pJ⟩:=Xn.mp e
    obtain⟨h1,h2⟩:=vN.mp (NM e)
    obtain⟨G,hl⟩:=L.gs _ h1
    have hle:=G.le
    have fl:(jS w z).length=k+1:=by show(z.1.1++[_]).length=_;rw[dG,hl];rfl
    refine⟨⟨?_,λx hx=>?_⟩,by show k<(jS w z).length;omega,?_,λS hS hk hc=>?_⟩
    ·refine Ar.mpr ⟨G.inc,N5 _ _,λx hx y hy=>?_⟩
     rw[eW.mp hy]
     have:=G.off x hx
     omega
    ·rcases bX.mp hx with q | q
     ·have:=G.off x q;omega
     ·rw[eW.mp q];omega
    ·obtain⟨c,c1,c2,c3⟩:=(G.bound hm h2 hC).mp hz
     refine⟨c,c1,?_,c3⟩
     show c ((jS w z).length-1)=1
     rw[fl,Nat.add_sub_cancel,<- hl]
     exact c2
    ·by_cases ck:S.length=k
     ·exact here S hS ck
     have cl:S.length=k+1/\jR S (jS w z):=by
      rcases hc with q | ⟨q1,q2⟩
      ·exact absurd (show S.length<(jS w z).length from q) (by omega)
      ·exact⟨(show S.length=(jS w z).length from q1).trans fl,q2⟩
     obtain⟨y,hy,ey⟩:=L.meets hS cl.1
     obtain⟨y1,y2⟩:=vN.mp hy
     obtain⟨Gy,_⟩:=L.gs _ y1
     cases ny:nS y with
     | false =>
      have:=(Gy.next hm y2 ny hC).ind
      rwa [show(iS m w (y.1,y.2)).1=S from ey]at this
     | true =>
      exfalso
      have od:=Ha (w:=w) (λs hs=>(L.gs s hs).2) L.ord
      rw[eL]at hy od
      rw[fo,dn,Ar]at od
      have od2:=(Ef.mp od.2.1).1
      rcases bX.mp hy with q | q
      ·have:=pJ y q
       rw[ny]at this;simp at this
      ·rcases cu.mp q with q | q
       ·rw[q]at ey
        rw[<-ey]at cl
        exact SU _ cl.2
       ·have:=od2 _ (bD.mpr ⟨y,q,rfl⟩)
        rw[ey]at this
        exact SV _ _ this cl.2
   | none =>
    have hn:∀z∈dS l,nS z=false:=λz hz=>by
     have:=N2.mp e z hz
     simpa using this
    have ih:=S0 hm hC f (k+1) _ (L.next hm hC hn) (by omega)
    dsimp only
    split
    ·rename_i e2
     rw[e2]at ih
     intro S hS hk
     by_cases ck:S.length=k
     ·exact here S hS ck
     ·exact ih S hS (by omega)
    ·rename_i F e2
     rw[e2]at ih
     obtain⟨i1,i2,i3,i4⟩:=ih
     refine⟨i1,by omega,i3,λS hS hk hc=>?_⟩
     by_cases ck:S.length=k
     ·exact here S hS ck
     ·exact i4 S hS (by omega) hc
end
end L3
namespace L3
open PySem L2 Mf
def jT(T:List (List Nat))(j k:Nat):Nat:=cf (T.getD k []) j
theorem S1{m:Bool × Nat}(hm:m∈aF){w:Nat}{T:List (List Nat)}(hT:RT (ae m) w T)(j k:Nat):jT T j k<ae m:=by
 unfold jT
 by_cases hk:k<T.length
 ·exact fO hm (hT _ (fv hk [])).2 j
 ·have e:T.getD k []=[]:=by rw[aT,gj (by omega)];rfl
  rw[e]
  have:=lo1 hm
  show 0<_
  omega
theorem Lv.start{m:Bool × Nat}(hm:m∈aF){T:List (List Nat)}(hw:0<au T)(hT:RT (ae m) (au T) T):Lv m (jT T) (au T) 0 [([],eJ T)]:=by
 have r:=rg hm
 obtain⟨t1,t2,t3⟩:=Sy (Nat.lt_trans Nat.zero_lt_one (lo1 hm)) hw hT
 refine⟨λs hs=>?_,λS _ h=>⟨_,eW.mpr rfl,(List.length_eq_zero_iff.mp h).symm⟩,N5 _ _⟩
 rw[eW.mp hs]
 refine⟨⟨Ab t1,NC,λp hp=>absurd hp (iZ),λj _=>by show au T-(eJ T).length<=j;omega,⟨_,t3⟩,λa ha=>?_,λc _ _ t ht=>absurd ht (by show ¬ t<0;omega)⟩,rfl⟩
 have e:∀k,sm (gp m) (eJ T).length (λi=>gm m (a i) (cf ((eJ T).getD i []) k))=sm (gp m) (eJ T).length λi=>gm m (a i) (jT T (au T-(eJ T).length+i) k):=λk=>eA λi hi=>by
  rw[Sx (by omega),Su,show au T-(eJ T).length+i=i by omega];rfl
 have z:∀c k,gD m (jT T) [] c k=0:=λ_ _=>rfl
 constructor
 ·intro h
  refine⟨λ_=>0,λ_=>by have:=lo1 hm;show 0<_;omega,λk=>?_⟩
  rw[z,yT (pB r λ_ _=>dy hm _ _),<- e k]
  exact h k
 ·rintro⟨c,_,h⟩ k
  have:=h k
  rw[z,yT (pB r λ_ _=>dy hm _ _),<- e k]at this
  exact this
def nU(m:Bool × Nat)(T:List (List Nat)):Option (List Nat):=sA m (au T) (au T+1) [([],eJ T)]
section
variable{m:Bool × Nat}{C:Nat->Nat->Nat}
end
def vO(T:List (List Nat))(F:List Nat):List (List Nat):=T.map λr=>F.map λj=>r.getD j 0
theorem cE4{N w:Nat}{T:List (List Nat)}{F:List Nat}(h0:0<N)(hT:RT N w T):RT N F.length (vO T F)/\(vO T F).length=T.length:=by
 refine⟨λx hx=>?_,by unfold vO;rw[bt]⟩
 obtain⟨r,hr,rfl⟩:=bD.mp hx
 refine⟨by rw[bt],λy hy=>?_⟩
 obtain⟨j,_,rfl⟩:=bD.mp hy
 exact(hT r hr).2.getD h0 j
theorem cE0{T:List (List Nat)}{F:List Nat}{k t:Nat}(hk:k<T.length)(ht:t<F.length):cf ((vO T F).getD k []) t=jT T (F.getD t 0) k:=by
 unfold vO jT cf
 rw[pG _ hk [] [],pG _ ht 0 0]
theorem cB0(m:Bool × Nat){T:List (List Nat)}{F:List Nat}{k:Nat}(hk:k<T.length)(x:Nat->Nat):dt m F.length (cf ((vO T F).getD k [])) x=gD m (jT T) F x k:=by
 unfold dt gD
 exact eA λt ht=>by rw[cE0 hk ht,iP]
theorem ce1{o:Bool}{G:List (List Nat)}{i:Nat}{d:D}(hd:(ax o G)[i]?=some d):∃hi:i<G.length,d=.lst o (ak G[i]):=by
 unfold ax at hd
 rw[cj]at hd
 by_cases hi:i<G.length
 ·rw[aP hi]at hd
  exact⟨hi,(cS hd).symm⟩
 ·rw[gj (by omega)]at hd;cases hd
end L3
namespace L3
open PySem L2 PySem.Spec PyProof.Rows
section
variable{B:Bs}{F H:Hp}{σ:L2.St}{δ:Dl}{ts:List (D × V)}
end
section
variable{X:Cx}{a:Expr}{ta:aN}{pos p2:Pos}{tk:Nat}
end
end L3
namespace L3
open PySem L2 PySem.Spec PyProof.Rows
section
variable{X:Cx}{a b:Expr}{ta tb:aN}{elts:List Expr}{x1:Nat}{qv p pos:Pos}
end
end L3
namespace L3
open PySem L2 Mf
section
variable{m:Bool × Nat}
theorem ck5(hm:m∈aF){T:List (List Nat)}(hw:0<au T)(hT:RT (ae m) (au T) T)(h:nU m T=none):∀S,jt (au T) S->vM m (jT T) S:=by
 have:=S0 hm (S1 hm hT) (au T+1) 0 _ (Lv.start hm hw hT) (by omega)
 unfold nU at h
 rw[h]at this
 exact λS hS=>this S hS (lD _)
theorem b23{n W:Nat}(h:n<=W):jt W (aL n):=⟨Xm,λx hx=>by have:=cX.mp hx;omega⟩
theorem bS8(hm:m∈aF){W:Nat}{T:List (List Nat)}(hT:RT (ae m) W T){F:List Nat}(hF:T.length<F.length):¬ vM m (jT T) F:=λI=>by
 have eY:=lo1 hm
 obtain⟨p1,p2⟩:=cE4 (F:=F) (by omega) hT
 obtain⟨x,f,hf,hx,x1,hz⟩:=SD hm p1 (by omega)
 have:=I x hx (λk=>by
  by_cases hk:k<T.length
  ·rw[<-cB0 m hk];exact hz k (by omega)
  ·refine js (rg hm) λt _=>?_
   have e:jT T (F.getD t 0) k=0:=by
    unfold jT
    rw[show T.getD k []=[] by rw[aT,gj (by omega)];rfl];rfl
   rw[e,kS m _ (dj m hm)]) f hf
 omega
end
end L3
namespace L2
open PySem PySem.Spec PyProof.Rows
section
variable{X:Cx}
end
end L2
namespace L3
open PySem L2 PySem.Spec PyProof.Rows
section
variable{X:Cx}{o e:Expr}{t tb:aN}{apos cm:Pos}
end
section
variable{X:Cx}{i:Nat}{x:Str}{p pos apos cm c22 y6:Pos}{a b:List Stmt}{t u:cI}{k:Int}{j}
end
end L3
namespace L3
open PySem L2 Mf
section
variable{N:Nat}{p q:Nat->Nat->Nat}
variable{ng:Nat->Nat}{c:Nat}
end
section
variable{m:Bool × Nat}
end
end L3
namespace L2
open PySem PySem.Spec PyProof.Rows
section
variable{prog:Program}{w:World}{A:Around}{E:Value->Shared->Prop}{s:Shared}
end
section
variable{X:Cx}{e:Expr}{ta:TA}{p p2 pos y6:Pos}
end
end L2
namespace L3
open PySem L2 PySem.Spec PyProof.Rows
section
variable{X:Cx}{e:Expr}{tr:cH}{p p2 pos y6:Pos}
end
end L3
namespace L3
open PySem L2 Mf
section
variable{m:Bool × Nat}
section
variable{b e L o:Nat}{y:List (Option Nat)}{w c:List Nat}{bb:Nat->Nat}
end
end
end L3
namespace L3
open PySem L2 Mf
section
variable{m:Bool × Nat}
end
end L3
namespace L3
open PySem L2 Mf
section
variable{m:Bool × Nat}
end
end L3
namespace L3
open PySem L2 Mf
section
variable{m:Bool × Nat}
end
end L3
namespace L3
open PySem L2 Mf
section
variable{m:Bool × Nat}
end
end L3
namespace L3
open PySem L2 PySem.Spec PyProof.Rows
section
variable{X:Cx}{e:Expr}{t:aN}
def vP(t:aN):aN:=λδ Q=>t δ λd ah=>Q d.sh ah
theorem S2(h:PE X e (lE t)):PE X e (lB (vP t)):=du h λσ H Q ⟨B,F,δ,ts,Qd,c,q,k⟩=>⟨B,F,δ,ts,_,c,q,λd ah v F' H' hd sf sh c'=>by
 obtain⟨F2,f2,c2⟩:=c'.Fq
 exact k d.sh ah v F2 H' hd (sf.trans f2) sh c2.pop c2.top⟩
end
end L3
namespace L3
open PySem L2 Mf
section
variable{m:Bool × Nat}
theorem Hb(hm:m∈aF){T:List (List Nat)}(hT:RT (ae m) (au T) T):RT (ae m) (au T) (iQ m (bW m T) (au T))/\(iQ m (bW m T) (au T)).length<=au T:=by
 obtain⟨⟨Hd,I⟩,iR,_,_⟩:=mH hm hT
 refine⟨λr hr=>?_,?_⟩
 ·obtain⟨f,hf,rfl⟩:=bD.mp hr
  obtain⟨k1,k2,_⟩:=Cf hm iR I hf
  exact⟨k1,k2⟩
 ·unfold iQ fP
  rw[bt]
  exact fk (Xo ..) (by rw[bZ];exact bG _)
theorem cz2(hm:m∈aF){T:List (List Nat)}(hT:RT (ae m) (au T) T):∀r∈bW m T,∃x∈r,x≠0:=λr bq=>by
 obtain⟨⟨Hd,I⟩,iR,_,_⟩:=mH hm hT
 obtain⟨j,hj,rfl⟩:=kB bq
 have:=(I.G2 hm iR hj).2
 rw[cF5 hj]at this
 exact this
theorem cr4(hm:m∈aF){T:List (List Nat)}{xs:List Nat}(hT:RT (ae m) (au T) T)(hx:xs.length=(iQ m (bW m T) (au T)).length):∀r∈T,gd m r (kn m xs (iQ m (bW m T) (au T)) (au T))=0:=λr hr=>by
 have h0:=dj m hm
 obtain⟨⟨Hd,I⟩,iR,_,_⟩:=mH hm hT
 have s:cK m (bW m T) (cf r):=cK.red hm hT (cK.of hr)
 rw[G3 m ((hT r hr).1.trans (G4 ..).symm),(hT r hr).1]
 rw[eA (g:=λj=>gm m (cf r j) (sm (gp m) (iQ m (bW m T) (au T)).length λi=>gm m (cf xs i) (cf ((iQ m (bW m T) (au T)).getD i []) j))) λj hj=>by rw[G5 m hx hj]]
 have e:=Sz hm (au T) (cf r) (cf xs) (λi=>cf ((iQ m (bW m T) (au T)).getD i [])) (iQ m (bW m T) (au T)).length
 unfold dt at e
 rw[e]
 refine js (rg hm) λi hi=>?_
 have z:=fv hi []
 generalize (iQ m (bW m T) (au T)).getD i []=K at z
 obtain⟨f,hf,rfl⟩:=bD.mp z
 have:=cK.dt hm (R:=bW m T) (n:=au T) (y:=cf (gM m (bW m T) (au T) f)) (λi hi=>SA hm iR I hf hi) s
 unfold dt at this
 rw[this,kS m _ h0]
end
end L3
namespace L3
open PySem L2 Mf
section
variable{m:Bool × Nat}
end
end L3
namespace L2
open PySem PySem.Spec PyProof.Rows
section
variable{X:Cx}{CX:eQ}{k:Nat}{f C:Addr}{fd:FuncData}{ps:List Str}{sp:Sp}{E:XK}{x m:Str}{p pos apos:Pos}{e:Expr}{es:List Expr}{t:TA}
def tCM(sp:Sp)(E:XK)(t:TA):TE:=λσ H Q=>t σ H λvs H1=>sp vs H1 Q E
theorem Hc{pl:Sem Bool}(M:vy X.K C m f)(F:aM X.prog X.w X.K X.mg X.base CX k f fd ps sp)(hr:bY k X.A)(hb:Binds X.K fd ps [])(hx:j8 CX X E)(hg:Gl X x)(hm:X.mg x=some (.ref C))(ha:PA X (e::es) t)
  (dZ:(x==("__debug__":Str))=false:=by decide) (de:starEach (e::es) X.env=(false,eval e X.env)::starEach es X.env:=by rfl) (bN:(backTo pos (starEach es X.env)).any (·.1)=false:=by rfl)
  (ht:eval (.Call (.Attribute (.Name x p) m apos) (e::es) [] pos) X.env=(do
   let ov<-eval (.Name x p) X.env
   standAt apos.atName
   let (f,first)<-holding [ov] (getMethod ov m pl)
   callWith pos f first (backTo pos (starEach (e::es) X.env)) (backToKw pos (keywordEach [] X.env))):=by rfl) :
  PE X (.Call (.Attribute (.Name x p) m apos) (e::es) [] pos) (tCM sp E t):=by
 intro pins s σ H Q I h
 exact Rh (pl:=pl) I M hg hm ha h (λus s1 vs H1 I1 r q=>tW (fh:=[]) F hr hb .nil hx I1 r (by rw[fm];exact q)) dZ de bN ht
end
end L2
namespace L3
open PySem L2 PySem.Spec PyProof.Rows
end L3
namespace L3
open PySem L2 PySem.Spec PyProof.Rows
def Ck(tl:List Addr)(C:Addr)(jO:List D->List Str->List D->Prop):L2.Sp:=λvs H Q _=>∃F H0 x dx bR ds ns xs,vs=.ref x::bR/\Tb tl H/\af F H0/\H0 x=none/\af H0 H/\H x=some (.ins C dx [])/\R F H0 ds bR []/\jO ds ns xs /\
 ∀H' ws A,bL x H H'->H' x=some (.ins C dx (ns.zip ws))->ns.length=ws.length->R F H' xs ws A->A.Nodup->(∀a∈A,H a=none)->Q .av H'
def vQ(C:Addr)(jO:List D->List Str->List D->Prop)(ta:cH):aN:=λδ Q=>ta δ λds ah=>ds.all D.pl=true/\∃ns xs,jO ds ns xs/\Q (.obj C ns (xs.map D.sh)) ah
theorem aq.dg8{B:Bs}{F H H':Hp}{σ:L2.St}{δ:Dl}{ts:List (D × V)}{C dx x:Addr}{ns:List Str}{xs:List D}{ws:List V}{A:List Addr}(c:aq B F H σ δ ts)(hs:af H H')(hx:H' x=some (.ins C dx (ns.zip ws)))(hl:ns.length=ws.length)
  (r1:R F H' xs ws A) (fr:∀a∈A,H a=none):af F (L3.br F H' A)/\aq B (L3.br F H' A) H' σ δ ((.obj C ns (xs.map D.sh),.ref x)::ts):=by
 have c1:=c.grow hs
 have r2:=r1.br c1.ext A (λ_ h=>h)
 have fs:af F (L3.br F H' A):=ir c1.ext
 obtain⟨A',C',r',s',nd,mx⟩:=c.own
 have out:∀a,(∃ws,H a=some (.lst ws))/\F a=none->L3.br F H' A a=none:=λa zz=>by
  obtain⟨⟨ws,h⟩,hf⟩:=zz
  rw[oI (λz=>by rw[fr a z]at h;cases h)];exact hf
 have g1:=r'.grow fs hs λa ha=>out a (r'.lists a ha)
 have g2:=s'.keep fs (fK.same hs) gu.nil (λa ha=>out a (s'.lists a ha)) (by simp)
 refine⟨fs,nt c1.ext,c1.b1,c1.b2.trans fs,λa ws h=>?_,A',C',?_,g2,nd,mx⟩
 ·by_cases z:a∈A
  ·exact .inr (c.b1.free (fr a z))
  ·rw[oI z]at h;exact c.b3 a ws h
 ·exact R.obj hx hl r2 g1
section
variable{X:Cx}{CX:eQ}{n:Nat}{f C:Addr}{fd:FuncData}{ps:List Str}{jO:List D->List Str->List D->Prop}{E:XK}{x:Str}{p pos:Pos}{e:Expr}{es:List Expr}{t:cH}{tl:List Addr}
theorem Cm(hT:Tb tl X.j3)(M:L2.Mk X.K C f)(F:aM X.prog X.w X.K X.mg X.base CX n f fd ps (Ck tl C jO))(hr:bY (n+1) X.A)(hg:Gl X x)(hm:X.mg x=some (.ref C))(hb:Binds X.K fd ps [])(hx:j8 CX X E)
  (ha:PA X (e::es) (lA t)) (dZ:(x==("__debug__":Str))=false:=by decide) (he:starEach (e::es) X.env=(false,eval e X.env)::starEach es X.env:=by rfl) (bN:(backTo pos (starEach es X.env)).any (·.1)=false:=by rfl) :
  PE X (.Call (.Name x p) (e::es) [] pos) (lE (vQ C jO t)):=by
 intro pins s σ H Q I zz
 obtain⟨B,F',δ,ts,Qd,c,q,k⟩:=zz
 have tb:=Gp I hT
 refine OG M F hr hg hm hb .nil hx ha dZ he bN pins s σ H Q I ⟨B,F',δ,ts,_,c,q,λds ao vs F1 H1 q1 f1 h1 c1 s1=>?_⟩
 intro x dx cz dU mh
 obtain⟨hp,ns,xs,hI,hq⟩:=q1
 have sm:af H1 (upd (upd H1 dx (.own x)) x (.ins C dx [])):=.of λb o e=>by rw[aZ (eO e cz),aZ (eO e dU)];exact e
 refine⟨F1,H1,x,dx,vs,ds,ns,xs,by rw[fm],yK (yK tb h1) sm,c1.ext,cz,sm,bJ,s1.r hp,hI,λH' ws A yM cY hl r nd fr=>⟨rfl,?_⟩⟩
 have s2:af H1 H':=⟨λb o e n=>yM.get b o (eO e cz) (sm.get b o e n) n,λb ps e=>by
  obtain⟨m1,e1⟩:=sm.tb b ps e
  obtain⟨m2,e2⟩:=yM.tb b _ e1
  exact⟨m1++m2,by rw[e2,sV]⟩⟩
 obtain⟨fs,c2⟩:=c1.dg8 s2 cY hl r λa ha=>sm.free (fr a ha)
 exact k _ ao _ _ H' hq (f1.trans fs) (h1.trans s2) c2
end
section
variable{X:Cx}{e:Expr}{te:aN}{x:Str}{p pos:Pos}{i:Nat}
end
theorem bL.of0{x:Addr}{H0 H H':Hp}(h0:H0 x=none)(s:af H0 H)(sx:bL x H H'):af H0 H' :=
 ⟨λb o e n=>sx.get b o (λz=>by rw[z,h0]at e;cases e) (s.get b o e n) n,λb ps e=>by
  obtain⟨m1,e1⟩:=s.tb b ps e
  obtain⟨m2,e2⟩:=sx.tb b _ e1
  exact⟨m1++m2,by rw[e2,sV]⟩⟩
theorem vR{F H:Hp}{v:V}{A:List Addr}{xs:List D}(r:R F H [.lst true xs] [v] A):∃p,v=.ref p:=by
 cases r
 exact⟨_,rfl⟩
theorem S3{F H F' H':Hp}:∀{l:List Int} {ws:List V} {A:List Addr},R F H (aG l) ws A->R F' H' (aG l) ws A
 | [],_,_,r=>by cases r;exact .nil
 | i::l,_,_,r=>by
  cases r with
  | int r=>exact .int (S3 r)
theorem S4{F H H':Hp}:∀{G:List (List Nat)} {ws:List V} {A:List Addr},R F H (ax true G) ws A->(∀a∈A,H' a=H a)->R F H' (ax true G) ws A
 | [],_,_,r,_=>by cases r;exact .nil
 | g::G,_,_,r,h=>by
  cases r with
  | own e f x y=>exact .own (by rw[h _ iW];exact e) f (S3 (l:=g.map λ(n:Nat)=>(n:Int)) x) (S4 y λa ha=>h a (gi _ (cZ _ ha)))
theorem S5{F H H':Hp}{G:List (List Nat)}{v:V}{A:List Addr}(r:R F H [.lst true (ax true G)] [v] A)(h:∀a∈A,H' a=H a):R F H' [.lst true (ax true G)] [v] A:=by
 cases r with
 | own e f x y =>
  cases y
  exact .own (by rw[h _ iW];exact e) f (S4 x λa ha=>h a (gi _ (eV _ ha))) .nil
abbrev nV:List Str:=["field","length","check_rows","word_rows","message_places","size"]
structure dg9(K:PySem.W.Frag)(C:Addr):Prop where
 cls:cy K C
 field:bg K C "field"
 length:bg K C "length"
 dh0:bg K C "check_rows"
 dh1:bg K C "word_rows"
 S6:bg K C "message_places"
 size:bg K C "size"
end L3
namespace L3
open PySem L2 Mf
section
variable{m:Bool × Nat}
def kq(m:Bool × Nat)(n i:Nat):List Nat:=bf i 0++[1]++bf (n-2-i) 0++[bO m 0 1]
def hE(m:Bool × Nat)(n:Nat):List (List Nat):=(aL (n-1)).map (kq m n)
theorem cE1{n i:Nat}(hi:i<n-1)(j:Nat):cf (kq m n i) j=if j=i then 1 else if j=n-1 then bO m 0 1 else 0:=by
 unfold kq cf
 rw[aT]
 by_cases c1:j<i
 ·rw[if_neg (by omega),if_neg (by omega),c9,c9,pV (by rw[fS];exact c1),s9,if_pos c1];rfl
 ·by_cases c2:j=i
  ·rw[if_pos c2,c9,c9,kz (by rw[fS];omega),fS,c2,wJ];rfl
  ·rw[if_neg c2]
   by_cases c3:j<n-1
   ·rw[if_neg (by omega),pV (by simp only[dG,fS,lH];omega),kz (by simp only[dG,fS,lH];omega),s9]
    split<;>rfl
   ·rw[kz (by simp only[dG,fS,lH];omega)]
    simp only[dG,fS,lH]
    by_cases c4:j=n-1
    ·rw[if_pos c4,show j-(i+1+(n-2-i))=0 by omega];rfl
    ·rw[if_neg c4,gj (by rw[lH];omega)];rfl
theorem S7(hm:m∈aF){n:Nat}(h2:2<=n):RT (ae m) n (hE m n)/\(hE m n).length=n-1/\au (hE m n)=n:=by
 have eY:=lo1 hm
 have g:=(mE hm (show 0<ae m by omega) (show 1<ae m by omega)).2.1
 have l:(hE m n).length=n-1:=by unfold hE;rw[bt,bZ]
 have r:RT (ae m) n (hE m n):=λx hx=>by
  obtain⟨i,hi,rfl⟩:=bD.mp hx
  have hi:=cX.mp hi
  unfold kq
  refine⟨by simp only[dG,fS,lH];omega,λa ha=>?_⟩
  simp only[bX,Aj,eW]at ha
  rcases ha with ((⟨_,rfl⟩ | rfl) | ⟨_,rfl⟩) | rfl
  ·omega
  ·omega
  ·omega
  ·exact g
 exact⟨r,l,sr r λz=>by rw[z]at l;exact absurd l (by show ¬ (0=n-1);omega)⟩
end
end L3
namespace L2
open PySem PySem.Spec PyProof.Rows
structure Cn(K:PySem.W.Frag)(x qual:Str)(st:Stmt)(f:Addr)(fd:FuncData):Prop where
 ex:∃(oc:Value) (od:Option Addr) (dV kV doc pm:Value) (an:Option Addr) (aC ct:Value) (ie:Array (Option Value)),
  fd=PySem.W.fnOf x qual (iJ st) (fH st) (aJ st) dV kV doc pm an aC ct/\K.lookup f=some ⟨oc,od,.func fd,ie⟩/\PySem.W.codeIn K aC qual=true
 kp:PySem.W.keepIn K (.ref f)=true
section
variable{P:Program}{w:World}{K:PySem.W.Frag}{mg:Str->Option Value}{base:Heap}
theorem Cn.ok{x qual:Str}{st:Stmt}{f:Addr}{fd:FuncData}{N ps:List Str}{k:Nat}{sp:Sp}(F:Cn K x qual st f fd)(S:bc N ps (aJ st))(len:∀vs H Q E,sp vs H Q E->vs.length=ps.length)
  (gX:∀(aC:Value) (A:Around) (outer:List Env) (s:Shared) (H:Hp) (vs:List V) (Q:VK) (E:XK),bY k (A.deeper (envOfC qual (aJ st) s.heap.objs.size f aC))->sp vs H Q E ->
   ∃t,PSs (iH aQ P w K mg base N qual (aJ st) f aC A outer s H E).gn (fH st) t/\t { nx:=λ_ H'=>Q .av H',rt:=Q } (start N vs) H):aM P w K mg base aQ (k+1) f fd ps sp:=by
 obtain⟨oc,od,dV,kV,doc,pm,an,aC,ct,ie,rfl,lk,cF⟩:=F.ex
 refine AX lk cF S len λA outer s H vs Q E hr ig=>?_
 obtain⟨t,h,q⟩:=gX aC A outer s H vs Q E hr ig
 exact⟨t,h.gn,q⟩
theorem cq7{x qual:Str}{st:Stmt}{f:Addr}{oc:Value}{od an:Option Addr}{ie:Array (Option Value)}{dV kV doc pm aC ct:Value}(l:K.lookup f=some ⟨oc,od,.func (PySem.W.fnOf x qual (iJ st) (fH st) (aJ st) dV kV doc pm an aC ct),ie⟩)
  (c:PySem.W.codeIn K aC qual=true) (k:PySem.W.keepIn K (.ref f)=true):Cn K x qual st f (PySem.W.fnOf x qual (iJ st) (fH st) (aJ st) dV kV doc pm an aC ct):=⟨⟨oc,od,dV,kV,doc,pm,an,aC,ct,ie,rfl,l,c⟩,k⟩
theorem cz3{fd:FuncData}{ps:List Str}{T:Addr}{o:Obj}{items:Array Value}{n:Nat}(hd:fd.defaults=.ref T)(ho:K.lookup T=some o)(hs:o.data=.seq items n)
  (h:∀us:List Value,us.length=ps.length->∃k,bindArgs fd ⟨us,[]⟩=seqItems? fd.defaults >>= k/\k (some items)=pure (ps.zip us)):Binds K fd ps []:=λs us KX hl=>by
 rw[fm]at hl ⊢
 obtain⟨k,h1,h2⟩:=h us hl
 exact .of_defaults hd (KX _ _ ho) hs h1 h2
end
end L2
namespace L3
open PySem L2 Mf
inductive Kd
 | y7 (b:Nat) | rep | He (e f:Nat)
structure sC(pre:List (Str × V)):Prop where
 put:∀(n:Str) (v:V) (l:List (Str × V)),n∈nV->bB n v (pre++l)=pre++bB n v l
 look:∀(n:Str) (l:List (Str × V)),n∈nV->(pre++l).lookup n=l.lookup n
 len:pre.length<=2
theorem sC.nil:sC []:=⟨λ_ _ _ _=>rfl,λ_ _ _=>rfl,by decide⟩
theorem sC.two(e f:V):sC [("extra",e),("first",f)]:=by
 have h1:∀n∈nV,("extra":Str)≠n/\("first":Str)≠n:=by decide
 refine⟨λn v l hn=>?_,λn l hn=>?_,bG 2⟩
 ·obtain⟨a,b⟩:=h1 n hn
  show bB n v (("extra",e)::("first",f)::l)=_
  rw[bB,if_neg a,bB,if_neg b];rfl
 ·obtain⟨a,b⟩:=h1 n hn
  show lC n (("extra",e)::("first",f)::l)=_
  rw[fU,beq_false_of_ne a.symm,fU,beq_false_of_ne b.symm]
theorem sC.lt{pre l:List (Str × V)}(h:sC pre)(hl:l.length<=6):(pre++l).length<1000:=by
 have:=h.len
 rw[dG];omega
section
variable{m:Bool × Nat}{G:List (List Nat)}
def gE(m:Bool × Nat)(G:List (List Nat)):List (List Nat):=iQ m (bW m G) (au G)
def bS(m:Bool × Nat)(G:List (List Nat)):List Nat:=fP (bW m G) (au G)
def mI(cb cp:Addr)(o:Bool)(m:Bool × Nat)(G:List (List Nat)):List D:=[fD cb cp m,.int (au G:Nat),.lst o (ax o G),.lst o (ax o (gE m G)),.lst o (ak (bS m G)),.int ((bS m G).length:Nat)]
def ub(cb cp cc cr cs:Addr)(m:Bool × Nat)(G:List (List Nat)):Kd->D
 | .y7 b=>.obj cc ["field","length","check_rows","word_rows","message_places","size","bound"] (mI cb cp false m G++[.int (b:Nat)])
 | .rep=>.obj cr nV (mI cb cp false m G)
 | .He e f=>.obj cs ["extra","first","field","length","check_rows","word_rows","message_places","size"] ([.int (e:Nat),.int (f:Nat)]++mI cb cp false m G)
theorem Co(cb cp:Addr)(o:Bool)(m:Bool × Nat)(G:List (List Nat)):(mI cb cp o m G).map D.sh=mI cb cp false m G:=by
 unfold mI
 simp only[dn,jW,BY,dM,dX,oX,<- cA,oU]
theorem cx5(cb cp cc cr cs:Addr)(m:Bool × Nat)(G:List (List Nat))(k:Kd):(ub cb cp cc cr cs m G k).sh=ub cb cp cc cr cs m G k:=by cases k<;>rfl
theorem cy2(cb cp cc cr cs:Addr)(m:Bool × Nat)(G:List (List Nat))(k:Kd):(ub cb cp cc cr cs m G k).pl=true:=by cases k<;>rfl
structure fj(m:Bool × Nat)(G:List (List Nat)):Prop where
 hm:m∈aF
 rt:RT (ae m) (au G) G
 len:G.length<=64
 Cp:au G<=64
 sz:0<(bS m G).length
theorem fj.red(h:fj m G):(∃H,RR (au G) (bW m G) H)/\RT (ae m) (au G) (bW m G):=⟨(mH h.hm h.rt).1,(mH h.hm h.rt).2.1⟩
theorem mJ(m:Bool × Nat)(G:List (List Nat)):(gE m G).length=(bS m G).length:=by unfold gE bS iQ;rw[bt]
theorem cz1{j:Nat}(hj:j<(bS m G).length):(gE m G).getD j []=gM m (bW m G) (au G) ((bS m G).getD j 0):=pG (gM m (bW m G) (au G)) hj 0 []
theorem S8{j:Nat}(hj:j<(bS m G).length):(bS m G).getD j 0∈fP (bW m G) (au G):=by
 rw[aT,aP hj];exact dz hj
theorem cB6(m:Bool × Nat)(G:List (List Nat)):(bS m G).Nodup:=Xk _ List.nodup_range
theorem cz4{j:Nat}(hj:j∈bS m G):j<au G:=cX.mp (sU.mp hj).1
theorem fj.rows(h:fj m G):RT (ae m) (au G) (gE m G):=(Hb h.hm h.rt).1
theorem fj.vK(h:fj m G):(bS m G).length<=au G:=by rw[<-mJ];exact(Hb h.hm h.rt).2
theorem fj.wide(h:fj m G):au (gE m G)=au G:=sr h.rows λz=>by
 have:=h.sz
 rw[<-mJ,z]at this
 exact absurd this (by decide)
def e7(m:Bool × Nat)(G:List (List Nat))(l:List Nat):List Nat:=kn m l (gE m G) (au G)
theorem S9(m:Bool × Nat)(G:List (List Nat))(l:List Nat):(e7 m G l).length=au G:=G4 ..
theorem fj.wlt(h:fj m G){l:List Nat}(hl:l.length=(bS m G).length):AllLt (ae m) (e7 m G l):=cz8 h.hm _ (by rw[mJ];exact hl)
theorem fj.word(h:fj m G){l:List Nat}(hl:l.length=(bS m G).length):∀r∈G,gd m r (e7 m G l)=0:=cr4 h.hm h.rt (by rw[hl,<- mJ];rfl)
theorem fj.at(h:fj m G){l:List Nat}(hl:l.length=(bS m G).length)(al:AllLt (ae m) l){j:Nat}(hj:j<(bS m G).length):cf (e7 m G l) ((bS m G).getD j 0)=cf l j:=by
 have hm:=h.hm
 have g:=rg hm
 obtain⟨⟨H,I⟩,hR⟩:=h.red
 have fr:=λ{k:Nat} (hk:k<(bS m G).length)=>(I.free hm hR _).mp (S8 hk)
 unfold e7
 rw[G5 m (by rw[mJ];exact hl) (fr hj).1,mJ]
 have k1:∀i,i<(bS m G).length->cf ((gE m G).getD i []) ((bS m G).getD j 0)=if i=j then 1 else 0:=λi hi=>by
  rw[cz1 hi]
  obtain⟨_,_,a,_,b⟩:=Cf hm hR I (S8 hi)
  by_cases c:i=j
  ·rw[if_pos c,<- c];exact a
  ·rw[if_neg c]
   refine b _ (λz=>c ?_) (fr hj).2
   rw[aT,aT,aP hi,aP hj]at z
   exact((List.getElem_inj (cB6 m G)).mp z).symm
 rw[vJ g (f:=λi=>gm m (cf l i) (cf ((gE m G).getD i []) ((bS m G).getD j 0))) (j0:=j) (dy hm _ _) hj λi hi c=>by rw[k1 i hi,if_neg c,iP m _ 0,iC m _ (dj m hm)],k1 j hj,if_pos rfl,rW (fO hm al j)]
theorem fj.read(h:fj m G){l:List Nat}(hl:l.length=(bS m G).length)(al:AllLt (ae m) l):((bS m G).map λj=>cf (e7 m G l) j)=l:=by
 refine Cc (w:=(bS m G).length) (bt ..) hl λk hk=>?_
 rw[show cf ((bS m G).map λj=>cf (e7 m G l) j) k=cf (e7 m G l) ((bS m G).getD k 0) from pG (λj=>cf (e7 m G l) j) hk 0 0]
 exact h.at hl al hk
end
end L3
namespace L3
open PySem L2 PySem.Spec PyProof.Rows
section
variable{X:Cx}{scope:Scope}{tg iter elt:Expr}{ifs:List Expr}{pos:Pos}{cl:List (Str × Addr)}{ti:jk}{g:iu}{tt:gw}{te:aN}
theorem cf6{i:Nat}{x:Str}{pos' apos:Pos}(hN:X.N.Nodup)(mB:X.N[i]?=some x)(hx:L2.Loc X.env.scope x)(aD:List (Str × Nat))(bH:List Str)(hc:X.calm=true)(hi:PI X tg iter (lI ti))
  (hg:∀C s H fp,PG (dF X scope (aD.map (·.1)++bH) cl C s H fp) tg (lG aD.length g))
  (ht:∀C s H fp,l7 (dF X scope (aD.map (·.1)++bH) cl C s H fp) ifs (lT tt)) (he:∀C s H fp,PE (dF X scope (aD.map (·.1)++bH) cl C s H fp) elt (lE te))
  (kU:closureFor scope X.env=pure cl) (kW:l9 X cl) (kX:∀C:Addr,mf (cellsFrom (C+1) scope.names cl) (relabel scope X.env).names) (kY:∀C:Addr,l6 X scope (cellsFrom (C+1) scope.names cl) aD)
  (ij:scope.kind=.function) (kZ:∀y∈scope.names,y.2=.local->scope.names.lookup y.1=some .local)
  (rC:swapsWith (.ListComp elt [⟨tg,iter,ifs,0⟩] scope pos) (some (.Name x pos')) apos.line X.env=pure true:=by rfl) (hf:X.fn x=true\/X.env.scope.names.lookup x=some .local:=by first | exact .inl rfl | exact .inr rfl)
  (hs:∀x,foldedSetIterable iter X.env x=pure x:=by intro _;rfl):PS X (.Assign [.Name x pos'] (.ListComp elt [⟨tg,iter,ifs,0⟩] scope pos) apos) (λEn σ H=>lE (oO ti aD bH.length g tt te) σ H λv H'=>En.nx (σ.set i (some v)) H') :=
 jG (Sj hN mB hx hf aD bH hc hi hg ht he kU kW kX kY ij kZ rC hs) λEn σ H ⟨B,F,δ,ts,Qd,c,q,k⟩=>⟨B,F,δ,ts,_,c,q,λsh xs ao J F1 H1 hq f1 h1 c1 nD qR=>by
  obtain⟨p,f,hx,eG,hlen,hQ⟩:=hq
  exact Fz c1 nD qR p f hx eG hlen hQ λd ah v F' H' hd hf hs c'=>k d ah v F' H' hd (f1.trans hf) (h1.trans hs) c'⟩
end
theorem aq.self{F H:Hp}{σ:L2.St}{δ:Dl}{o:Option V}(e:af F H)(r:RS F H δ σ []):aq ⟨H,F⟩ F H (o::σ) (none::δ) []:=⟨e,af.refl _,af.refl _,λ_ _ q=>.inl q,[],[],.nil,.av r,by simp,by simp⟩
end L3
namespace L2
open PySem
theorem bo{N P:List Str}{sc:Scope}(a:sc.kind=.function:=by rfl)(b:sc.isCoroutine=false:=by rfl)(c:sc.isGenerator=false:=by rfl)(d:N.Nodup:=by decide +kernel)(e:N.take P.length=P:=by rfl)(f:∀x∈P,sc.names.lookup x=some .local\/sc.names.lookup x=some .cell:=by decide +kernel)(g:∀y∈sc.names,y.2≠.free:=by decide +kernel):bc N P sc:=⟨a,b,c,d,e,f,g⟩
end L2
namespace L2
open PySem
end L2
namespace L3
open PySem L2 Mf
section
variable{m:Bool × Nat}
variable{G:List (List Nat)}
end
end L3
namespace HK34
open PySem renaming lookup_relabel_local→lr1
open PySem.W (Frag codeHdIn kitOne nsIn findIn isFn specialIn plainGet hasDictIn plainOver makesIn keepIn mroIn typeIn subIn fnOf codeIn clsIn mg_of mg_none_of CodeHd)
open PySem L2 L3 Mf
seal L2.PSs L2.PS L2.PE L2.PT L2.PA L2.PI L2.PG L2.PO L2.PW
local macro_rules | `(tactic| nofun) => do
  let l ← (("ur qQ uu uv uw dT nv oK oM dC nu qO qM qL qN uq oS u5 rB u7 u9 ui uj uk um uo qK u0 rj rk ii qS uK qV uL uM uN uP uQ uR iI iw uS uT uU uV qY oQ uY uZ gN va u4 uz uD uE uF uG uH vb vd oO mn gx jJ jl pZ tu wU As qP kK kb rq rz nJ vj vk vm yw vp rK vn jL yz yx yy dn jW mW tE jx Au bf oq ot jy jz wV exists_eq_left' exists_eq_left D.bl.injEq D.int.injEq D.lst.injEq D.fz.injEq D.str.injEq D.tup.injEq Av and_true true_and dq tK mV lK xW xX xY xZ x6 x8 fW kI oU yd ye yf yg yh dM mi x9 ya yb yc fJ qH Aw Az sX lL AA AB wC yk yl ym yn yo yp yq kQ nI rE ki rF yi vi vg rG yj jK vh if_true tH if_false reduceIte yr decide_eq_true_eq dW kR rL yD nK yC uA vx rX vD vo rO rP rQ vz vG y0 vL su dX pE km yV sj vP vQ sL BY RO co1 cm1 mD rZ".splitOn " ").toArray.map fun (s : String) => Lean.mkIdent s.toName).mapM fun i => `(Lean.Parser.Tactic.simpLemma| $i:term)
  `(tactic| (try dsimp only [$l,*]) <;> (try simp only [$l,*]))
def top (i:Nat):Stmt:=PySem.Challenge.pw_mendfield_k34_message_written.main.body.getD i (.Pass ⟨0,0,0,0⟩)
abbrev Hf:Stmt:=top 89
theorem Hg:bc ["_law_cell_here","_law_some","_law_primes"] ["_law_cell_here"] (aJ Hf):=bo
abbrev Hh:Stmt:=top 90
theorem aQ2:bc ["_law_told_here"] ["_law_told_here"] (aJ Hh):=bo
abbrev Hi:Stmt:=top 56
theorem Cq:bc ["a","product","found","power"] ["a","product"] (aJ Hi):=bo
abbrev Hj:Stmt:=top 57
theorem y8:bc ["many","product","step","found"] ["many","product"] (aJ Hj):=bo
abbrev Hk:Stmt:=top 58
theorem Hl:bc ["powers","logs","n","a"] ["powers"] (aJ Hk):=bo
abbrev Hm:Stmt:=eo (top 62) 8
theorem ay8:bc ["self","n"] ["self","n"] (aJ Hm):=bo
abbrev Ho:Stmt:=eo (top 62) 0
theorem aN5:bc ["self","many","product"] ["self","many","product"] (aJ Ho):=bo
abbrev Hq:Stmt:=top 61
theorem aw4:bc ["prime"] ["prime"] (aJ Hq):=bo
abbrev nW:Stmt:=eo (top 64) 0
theorem aA1:bc ["self","prime"] ["self","prime"] (aJ nW):=bo
abbrev Hr:Stmt:=top 59
theorem Cr:bc ["powers","logs","many","rows","a"] ["powers","logs"] (aJ Hr):=bo
abbrev Hs:Stmt:=top 53
theorem vS:bc ["a","b","quotient","rest","shift"] ["a","b"] (aJ Hs):=bo
abbrev Ht:Stmt:=top 54
theorem Hu:bc ["a","half","b"] ["a"] (aJ Ht):=bo
abbrev Hv:Stmt:=top 60
theorem aA2:bc ["bits"] ["bits"] (aJ Hv):=bo
abbrev Hw:Stmt:=top 52
theorem Ct:bc ["a","b","product","k"] ["a","b"] (aJ Hw):=bo
abbrev nX:Stmt:=eo (top 63) 0
theorem Ta:bc ["self","bits","many"] ["self","bits"] (aJ nX):=bo
abbrev Hx:Stmt:=top 93
theorem aN6:bc ["_law_told_here"] ["_law_told_here"] (aJ Hx):=bo
abbrev Hy:Stmt:=top 87
theorem aQ3:bc ["_law_script","_law_k"] ["_law_script","_law_k"] (aJ Hy):=bo
abbrev Hz:Stmt:=top 95
theorem aN7:bc ["_law_cell_here","_law_k"] ["_law_cell_here","_law_k"] (aJ Hz):=bo
abbrev HA:Stmt:=top 98
theorem y9:bc ["_law_many_here","_law_length","_law_extra","_law_cell_here","_law_sparse","_law_table","_law_i","_law_row"] ["_law_many_here","_law_length","_law_extra","_law_cell_here","_law_sparse"] (aJ HA):=bo
abbrev HB:Stmt:=top 15
theorem aT5:bc ["table"] ["table"] (aJ HB):=bo
abbrev HC:Stmt:=top 20
theorem Tc:bc ["rows","place","number","row"] ["rows","place"] (aJ HC):=bo
abbrev HD:Stmt:=eo (top 63) 6
theorem Td:bc ["self","a","row","by_a"] ["self","a","row"] (aJ HD):=bo
abbrev HE:Stmt:=eo (top 64) 6
theorem Te:bc ["self","a","row","prime"] ["self","a","row"] (aJ HE):=bo
abbrev HF:Stmt:=eo (top 63) 7
theorem Tf:bc ["self","row","a","other","by_a"] ["self","row","a","other"] (aJ HF):=bo
abbrev HG:Stmt:=eo (top 64) 7
theorem Tg:bc ["self","row","a","other","prime"] ["self","row","a","other"] (aJ HG):=bo
abbrev HH:Stmt:=top 21
theorem aU8:bc ["field","rows","lead_row","place"] ["field","rows","lead_row","place"] (aJ HH):=bo
abbrev HI:Stmt:=eo (top 62) 5
theorem aN8:bc ["self","a","b"] ["self","a","b"] (aJ HI):=bo
abbrev HJ:Stmt:=top 22
theorem pK:bc ["field","table","done","left","place","number","lead_row"] ["field","table"] (aJ HJ):=bo
abbrev HK:Stmt:=top 28
theorem aV3:bc ["table"] ["table"] (aJ HK):=bo
abbrev HL:Stmt:=top 23
theorem cd4:bc ["rows"] ["rows"] (aJ HL):=bo
abbrev HM:Stmt:=top 25
theorem Th:bc ["rows","width","taken"] ["rows","width"] (aJ HM):=bo
abbrev HN:Stmt:=eo (top 63) 2
theorem aE1:bc ["self","a","b"] ["self","a","b"] (aJ HN):=bo
abbrev HP:Stmt:=eo (top 64) 2
theorem ay9:bc ["self","a","b"] ["self","a","b"] (aJ HP):=bo
abbrev HQ:Stmt:=top 26
theorem vT:bc ["field","rows","width","taken","found","free","x","lead","row"] ["field","rows","width"] (aJ HQ):=bo
abbrev HR:Stmt:=eo (top 32) 0
theorem Ti:bc ["self","field","checks","rows"] ["self","field","checks"] (aJ HR):=bo
abbrev HS:Stmt:=eo (top 62) 1
theorem aL3:bc ["self","x"] ["self","x"] (aJ HS):=bo
abbrev HU:Stmt:=top 49
theorem Tj:bc ["field","table","width"] ["field","table"] (aJ HU):=bo
abbrev HV:Stmt:=top 24
theorem cl0:bc ["field","table"] ["field","table"] (aJ HV):=bo
abbrev HW:Stmt:=top 16
theorem aV4:bc ["table"] ["table"] (aJ HW):=bo
abbrev HX:Stmt:=top 36
theorem aQ4:bc ["column"] ["column"] (aJ HX):=bo
abbrev HY:Stmt:=eo (top 63) 3
theorem aE2:bc ["self","a","b"] ["self","a","b"] (aJ HY):=bo
abbrev HZ:Stmt:=eo (top 64) 3
theorem az0:bc ["self","a","b"] ["self","a","b"] (aJ HZ):=bo
abbrev Ia:Stmt:=top 37
theorem vU:bc ["field","column","others","place","inverse","found","other","left"] ["field","column","others"] (aJ Ia):=bo
abbrev Ib:Stmt:=top 38
theorem pL:bc ["field","table","width","sets","larger","places","behind","number","column","bigger"] ["field","table"] (aJ Ib):=bo
abbrev Ic:Stmt:=eo (top 50) 0
theorem aE3:bc ["self","field","table"] ["self","field","table"] (aJ Ic):=bo
abbrev Ie:Stmt:=top 92
theorem vV:bc ["_law_told_here","_law_a","_law_b","_law_total"] ["_law_told_here","_law_a","_law_b"] (aJ Ie):=bo
abbrev Ig:Stmt:=top 94
theorem Ih:bc ["_law_told_here","_law_a","_law_powers_here"] ["_law_told_here"] (aJ Ig):=bo
abbrev Ii:Stmt:=top 97
theorem Cu:bc ["_law_told_here","_law_length","_law_extra","_law_first","_law_powers_here","_law_table","_law_i"] ["_law_told_here","_law_length","_law_extra","_law_first"] (aJ Ii):=bo
abbrev Ij:Stmt:=top 84
theorem aA4:bc ["many","length","extra","first"] ["many","length","extra","first"] (aJ Ij):=bo
abbrev nY:Stmt:=eo (top 85) 0
theorem Tn:bc ["self","field","length","extra","first","checks"] ["self","field","length","extra","first"] (aJ nY):=bo
abbrev Ik:Stmt:=eo (top 50) 1
theorem av4:bc ["self"] ["self"] (aJ Ik):=bo
abbrev To:Stmt:=eo (top 34) 1
abbrev Tp:Stmt:=eo (top 85) 2
abbrev Il:Stmt:=top 33
theorem Tq:bc ["field","length","less_one"] ["field","length"] (aJ Il):=bo
abbrev Im:Stmt:=eo (top 34) 0
theorem aA5:bc ["self","field","length"] ["self","field","length"] (aJ Im):=bo
abbrev Io:Stmt:=top 96
theorem Cv:bc ["_law_told_here","_law_length","_law_table","_law_i","_law_row"] ["_law_told_here","_law_length"] (aJ Io):=bo
abbrev Ip:Stmt:=top 99
theorem ju:bc ["_law_script","_law_told_here","_law_many_here","_law_field_here","_law_kind","_law_length","_law_extra","_law_table","_law_code_here","_law_first"] ["_law_script","_law_told_here"] (aJ Ip):=bo
abbrev Iq:Stmt:=top 101
theorem aJ4:bc ["_law_script","_law_at","_law_size","_law_many_here"] ["_law_script","_law_at","_law_size","_law_many_here"] (aJ Iq):=bo
abbrev Ir:Stmt:=top 29
theorem aH0:bc ["signs","length"] ["signs","length"] (aJ Ir):=bo
abbrev Iu:Stmt:=top 30
theorem Tr:bc ["field","signs","place","sign"] ["field","signs"] (aJ Iu):=bo
abbrev Iw:Stmt:=eo (top 63) 5
theorem za:bc ["self","xs","ys","products","total","x","y"] ["self","xs","ys"] (aJ Iw):=bo
abbrev Iy:Stmt:=eo (top 64) 5
theorem aE4:bc ["self","xs","ys"] ["self","xs","ys"] (aJ Iy):=bo
abbrev Iz:Stmt:=top 18
theorem aV5:bc ["field","row","table"] ["field","row","table"] (aJ Iz):=bo
abbrev IA:Stmt:=eo (top 32) 5
theorem aJ5:bc ["self","message"] ["self","message"] (aJ IA):=bo
abbrev IB:Stmt:=eo (top 32) 2
theorem aQ5:bc ["self"] ["self"] (aJ IB):=bo
abbrev IC:Stmt:=eo (top 32) 3
theorem aL4:bc ["self"] ["self"] (aJ IC):=bo
abbrev ID:Stmt:=eo (top 32) 1
theorem aL5:bc ["self"] ["self"] (aJ ID):=bo
abbrev IE:Stmt:=top 103
theorem zb:bc ["_law_code_here","_law_message_here","_law_word","_law_rows","_law_places","_law_checks"] ["_law_code_here","_law_message_here"] (aJ IE):=bo
abbrev IF:Stmt:=top 91
theorem aQ6:bc ["_law_told_here","_law_a","_law_b"] ["_law_told_here","_law_a","_law_b"] (aJ IF):=bo
abbrev IG:Stmt:=top 102
theorem Cw:bc ["_law_told_here","_law_rows","_law_message_here","_law_length","_law_word","_law_sign","_law_row"] ["_law_told_here","_law_rows","_law_message_here","_law_length"] (aJ IG):=bo
abbrev IH:Stmt:=top 100
theorem vW:bc ["_law_told_here","_law_table","_law_word","_law_sums_here","_law_row","_law_total","_law_x","_law_y"] ["_law_told_here","_law_table","_law_word"] (aJ IH):=bo
abbrev II:Stmt:=top 88
theorem aN9:bc ["_law_x"] ["_law_x"] (aJ II):=bo
abbrev nZ:Stmt:=top 104
theorem k9:bc ["_law_script","_law_told_here","_law_many_here","_law_made","_law_code_here","_law_message_here","_law_handed","_law_word","_law_places","_law_rows"] ["_law_script"] (aJ nZ):=bo
set_option genInjectivity false in
set_option genSizeOf false in
structure eR where
 IJ:Addr
 IK:FuncData
 IL:Addr
 IM:FuncData
 IQ:Addr
 IS:FuncData
 IT:Addr
 IU:FuncData
 IV:Addr
 IW:FuncData
 zc:Addr
 IY:FuncData
 IZ:Addr
 I0:FuncData
 Ja:Addr
 Jb:FuncData
 Jc:Addr
 Cy:FuncData
 Jd:Addr
 Je:FuncData
 Jf:Addr
 Jg:FuncData
 Jh:Addr
 Ji:FuncData
 Jj:Addr
 Jk:FuncData
 Jl:Addr
 Jm:FuncData
 Jn:Addr
 Cz:FuncData
 Jo:Addr
 Jp:FuncData
 Jq:Addr
 Jr:FuncData
 Js:Addr
 Jt:FuncData
 Ju:Addr
 Jv:FuncData
 Jw:Addr
 Jx:FuncData
 Jy:Addr
 Jz:FuncData
 JA:Addr
 JB:FuncData
 JC:Addr
 JE:FuncData
 JF:Addr
 JG:FuncData
 JH:Addr
 JI:FuncData
 JJ:Addr
 JK:FuncData
 CA:Addr
 JL:FuncData
 JM:Addr
 JN:FuncData
 JO:Addr
 JP:FuncData
 JQ:Addr
 JR:FuncData
 JS:Addr
 JT:FuncData
 JU:Addr
 JV:FuncData
 JW:Addr
 JX:FuncData
 JY:Addr
 JZ:FuncData
 J0:Addr
 J1:FuncData
 CB:Addr
 J2:FuncData
 J3:Addr
 J4:FuncData
 J5:Addr
 J6:FuncData
 J7:Addr
 J8:FuncData
 J9:Addr
 Ka:FuncData
 Kb:Addr
 Ke:FuncData
 Kf:Addr
 Kg:FuncData
 Kh:Addr
 Ki:FuncData
 Kj:Addr
 Kk:FuncData
 Kl:Addr
 Km:FuncData
 Kn:Addr
 Ko:FuncData
 Kp:Addr
 Kq:FuncData
 Kr:Addr
 Ks:FuncData
 Kt:Addr
 Ku:FuncData
 Kv:Addr
 Kw:FuncData
 Kx:Addr
 Ky:FuncData
 Ts:Addr
 Tt:FuncData
 Tu:Addr
 Tv:FuncData
 Kz:Addr
 KA:FuncData
 KC:Addr
 KD:FuncData
 KG:Addr
 KH:FuncData
 KI:Addr
 KJ:FuncData
 KL:Addr
 KN:FuncData
 KO:Addr
 KP:FuncData
 KQ:Addr
 KR:FuncData
 KS:Addr
 KU:FuncData
 KW:Addr
 KY:FuncData
 KZ:Addr
 K0:FuncData
 zd:Addr
 K1:FuncData
 ze:Addr
 K2:FuncData
 zf:Addr
 K3:FuncData
 zh:Addr
 K4:FuncData
 K5:Addr
 K6:FuncData
 K7:Addr
 K8:FuncData
 K9:Addr
 La:FuncData
 Lb:Addr
 Lc:FuncData
 Ld:Addr
 Le:FuncData
 Lf:Addr
 Lg:FuncData
 Tw:Addr
 iT:Addr
 Tx:Addr
 iU:Addr
 aH:Addr
 iE:Addr
 bI:Addr
 cB:Addr
 kr:Addr
 aO:Addr
 bQ:Addr
 bx:Addr
structure Txt(K:Frag)(mg:Str->Option Value)(t:eR):Prop where
 Tz:ay K "_law_told" "_law_told" Hf t.IJ t.IK
 aT6:mg "_law_told"=some (.ref t.IJ)
 aT7:Binds K t.IK ["_law_cell_here"] []
 zi:ay K "_law_many" "_law_many" Hh t.IL t.IM
 CC:mg "_law_many"=some (.ref t.IL)
 CD:Binds K t.IM ["_law_told_here"] []
 Lh:ay K "powers_of" "powers_of" Hi t.IQ t.IS
 TB:mg "powers_of"=some (.ref t.IQ)
 TC:Binds K t.IS ["a","product"] []
 TF:ay K "step_powers" "step_powers" Hj t.IT t.IU
 dm0:mg "step_powers"=some (.ref t.IT)
 dm1:Binds K t.IU ["many","product"] []
 TH:ay K "logs_of" "logs_of" Hk t.IV t.IW
 dm2:mg "logs_of"=some (.ref t.IV)
 dm3:Binds K t.IW ["powers"] []
 aA6:ay K "step_power" "Field.step_power" Hm t.zc t.IY
 zj:Binds K t.IY ["self","n"] []
 aQ7:ay K "__init__" "Field.__init__" Ho t.IZ t.I0
 TJ:Binds K t.I0 ["self","many","product"] []
 TK:ay K "makes_prime_field" "makes_prime_field" Hq t.Ja t.Jb
 dm6:mg "makes_prime_field"=some (.ref t.Ja)
 dm7:Binds K t.Jb ["prime"] []
 aE5:ay K "__init__" "PrimeField.__init__" nW t.Jc t.Cy
 aE6:Binds K t.Cy ["self","prime"] []
 TL:ay K "product_rows" "product_rows" Hr t.Jd t.Je
 dn0:mg "product_rows"=some (.ref t.Jd)
 dn1:Binds K t.Je ["powers","logs"] []
 Li:ay K "bits_divided" "bits_divided" Hs t.Jf t.Jg
 TM:mg "bits_divided"=some (.ref t.Jf)
 TN:Binds K t.Jg ["a","b"] []
 TQ:ay K "stands_alone" "stands_alone" Ht t.Jh t.Ji
 dn2:mg "stands_alone"=some (.ref t.Jh)
 dn3:Binds K t.Ji ["a"] []
 TR:ay K "makes_bit_field" "makes_bit_field" Hv t.Jj t.Jk
 dn4:mg "makes_bit_field"=some (.ref t.Jj)
 dn5:Binds K t.Jk ["bits"] []
 TU:ay K "bits_times" "bits_times" Hw t.Jl t.Jm
 dn6:mg "bits_times"=some (.ref t.Jl)
 dn7:Binds K t.Jm ["a","b"] []
 aJ6:ay K "__init__" "BitField.__init__" nX t.Jn t.Cz
 aJ7:Binds K t.Cz ["self","bits"] []
 TV:ay K "_law_field" "_law_field" Hx t.Jo t.Jp
 aQ8:mg "_law_field"=some (.ref t.Jo)
 aQ9:Binds K t.Jp ["_law_told_here"] []
 ku:ay K "_law_cell" "_law_cell" Hy t.Jq t.Jr
 lh:mg "_law_cell"=some (.ref t.Jq)
 lj:Binds K t.Jr ["_law_script","_law_k"] []
 CF:ay K "_law_mixed" "_law_mixed" Hz t.Js t.Jt
 Lj:mg "_law_mixed"=some (.ref t.Js)
 Lk:Binds K t.Jt ["_law_cell_here","_law_k"] []
 TX:ay K "_law_free_table" "_law_free_table" HA t.Ju t.Jv
 aE7:mg "_law_free_table"=some (.ref t.Ju)
 aE8:Binds K t.Jv ["_law_many_here","_law_length","_law_extra","_law_cell_here","_law_sparse"] []
 zk:ay K "width_of" "width_of" HB t.Jw t.Jx
 CG:mg "width_of"=some (.ref t.Jw)
 CH:Binds K t.Jx ["table"] []
 TY:ay K "first_with" "first_with" HC t.Jy t.Jz
 do4:mg "first_with"=some (.ref t.Jy)
 do5:Binds K t.Jz ["rows","place"] []
 aE9:ay K "scaled" "BitField.scaled" HD t.JA t.JB
 aF0:Binds K t.JB ["self","a","row"] []
 az1:ay K "scaled" "PrimeField.scaled" HE t.JC t.JE
 az2:Binds K t.JE ["self","a","row"] []
 az3:ay K "lessened" "BitField.lessened" HF t.JF t.JG
 az4:Binds K t.JG ["self","row","a","other"] []
 av5:ay K "lessened" "PrimeField.lessened" HG t.JH t.JI
 av6:Binds K t.JI ["self","row","a","other"] []
 Ll:ay K "cleared" "cleared" HH t.JJ t.JK
 TZ:mg "cleared"=some (.ref t.JJ)
 T1:Binds K t.JK ["field","rows","lead_row","place"] []
 aR0:ay K "over" "Field.over" HI t.CA t.JL
 T2:Binds K t.JL ["self","a","b"] []
 Lm:ay K "reduced" "reduced" HJ t.JM t.JN
 T3:mg "reduced"=some (.ref t.JM)
 T4:Binds K t.JN ["field","table"] []
 CI:ay K "copied" "copied" HK t.JO t.JP
 Ln:mg "copied"=some (.ref t.JO)
 Lo:Binds K t.JP ["table"] []
 Lp:ay K "leads" "leads" HL t.JQ t.JR
 T5:mg "leads"=some (.ref t.JQ)
 T6:Binds K t.JR ["rows"] []
 Lq:ay K "free_places" "free_places" HM t.JS t.JT
 T7:mg "free_places"=some (.ref t.JS)
 T8:Binds K t.JT ["rows","width"] []
 aH1:ay K "minus" "BitField.minus" HN t.JU t.JV
 aH2:Binds K t.JV ["self","a","b"] []
 aB0:ay K "minus" "PrimeField.minus" HP t.JW t.JX
 aB1:Binds K t.JX ["self","a","b"] []
 T9:ay K "kernel_of_reduced" "kernel_of_reduced" HQ t.JY t.JZ
 dp9:mg "kernel_of_reduced"=some (.ref t.JY)
 dq0:Binds K t.JZ ["field","rows","width"] []
 dq1:ay K "__init__" "Code.__init__" HR t.J0 t.J1
 Lr:Binds K t.J1 ["self","field","checks"] []
 aO0:ay K "holds" "Field.holds" HS t.CB t.J2
 Ua:Binds K t.J2 ["self","x"] []
 Ub:ay K "is_small_table" "is_small_table" HU t.J3 t.J4
 dq3:mg "is_small_table"=some (.ref t.J3)
 dq4:Binds K t.J4 ["field","table"] []
 Uc:ay K "rank" "rank" HV t.J5 t.J6
 dq5:mg "rank"=some (.ref t.J5)
 dq6:Binds K t.J6 ["field","table"] []
 Lu:ay K "turned" "turned" HW t.J7 t.J8
 Ud:mg "turned"=some (.ref t.J7)
 Ue:Binds K t.J8 ["table"] []
 Ug:ay K "is_nought" "is_nought" HX t.J9 t.Ka
 dq7:mg "is_nought"=some (.ref t.J9)
 dq8:Binds K t.Ka ["column"] []
 aH3:ay K "times" "BitField.times" HY t.Kb t.Ke
 aH4:Binds K t.Ke ["self","a","b"] []
 aB2:ay K "times" "PrimeField.times" HZ t.Kf t.Kg
 aB3:Binds K t.Kg ["self","a","b"] []
 Uh:ay K "past" "past" Ia t.Kh t.Ki
 dr3:mg "past"=some (.ref t.Kh)
 dr4:Binds K t.Ki ["field","column","others"] []
 Ui:ay K "first_bound" "first_bound" Ib t.Kj t.Kk
 dr5:mg "first_bound"=some (.ref t.Kj)
 dr6:Binds K t.Kk ["field","table"] []
 dr7:ay K "__init__" "CheckCode.__init__" Ic t.Kl t.Km
 Uj:Binds K t.Km ["self","field","table"] []
 zo:ay K "_law_times" "_law_times" Ie t.Kn t.Ko
 CJ:mg "_law_times"=some (.ref t.Kn)
 CK:Binds K t.Ko ["_law_told_here","_law_a","_law_b"] []
 Uk:ay K "_law_powers" "_law_powers" Ig t.Kp t.Kq
 aO1:mg "_law_powers"=some (.ref t.Kp)
 aO2:Binds K t.Kq ["_law_told_here"] []
 Lw:ay K "_law_root_table" "_law_root_table" Ii t.Kr t.Ks
 Ul:mg "_law_root_table"=some (.ref t.Kr)
 Um:Binds K t.Ks ["_law_told_here","_law_length","_law_extra","_law_first"] []
 Uo:ay K "makes_root_code" "makes_root_code" Ij t.Kt t.Ku
 ds0:mg "makes_root_code"=some (.ref t.Kt)
 ds1:Binds K t.Ku ["many","length","extra","first"] []
 ds2:Cn K "__init__" "RootCode.__init__" nY t.Kv t.Kw
 ds3:Binds K t.Kw ["self","field","length","extra","first"] []
 ds4:ay K "distance" "CheckCode.distance" Ik t.Kx t.Ky
 ds5:Binds K t.Ky ["self"] []
 eg9:ay K "distance" "RepeatCode.distance" To t.Ts t.Tt
 eh0:Binds K t.Tt ["self"] []
 eh1:ay K "distance" "RootCode.distance" Tp t.Tu t.Tv
 eh2:Binds K t.Tv ["self"] []
 Up:ay K "repeat_checks" "repeat_checks" Il t.Kz t.KA
 ds6:mg "repeat_checks"=some (.ref t.Kz)
 ds7:Binds K t.KA ["field","length"] []
 ds8:ay K "__init__" "RepeatCode.__init__" Im t.KC t.KD
 ds9:Binds K t.KD ["self","field","length"] []
 Uq:ay K "_law_repeat_table" "_law_repeat_table" Io t.KG t.KH
 az5:mg "_law_repeat_table"=some (.ref t.KG)
 az6:Binds K t.KH ["_law_told_here","_law_length"] []
 Ur:ay K "_law_code" "_law_code" Ip t.KI t.KJ
 aT8:mg "_law_code"=some (.ref t.KI)
 aT9:Binds K t.KJ ["_law_script","_law_told_here"] []
 Us:ay K "_law_message" "_law_message" Iq t.KL t.KN
 aL6:mg "_law_message"=some (.ref t.KL)
 aL7:Binds K t.KN ["_law_script","_law_at","_law_size","_law_many_here"] []
 Ut:ay K "refuse_length" "refuse_length" Ir t.KO t.KP
 dt6:mg "refuse_length"=some (.ref t.KO)
 dt7:Binds K t.KP ["signs","length"] []
 Uu:ay K "refuse_no_sign" "refuse_no_sign" Iu t.KQ t.KR
 dt8:mg "refuse_no_sign"=some (.ref t.KQ)
 dt9:Binds K t.KR ["field","signs"] []
 aL8:ay K "dot" "BitField.dot" Iw t.KS t.KU
 aL9:Binds K t.KU ["self","xs","ys"] []
 aH5:ay K "dot" "PrimeField.dot" Iy t.KW t.KY
 aH6:Binds K t.KY ["self","xs","ys"] []
 Uv:ay K "row_by" "row_by" Iz t.KZ t.K0
 du4:mg "row_by"=some (.ref t.KZ)
 du5:Binds K t.K0 ["field","row","table"] []
 du6:ay K "written" "Code.written" IA t.zd t.K1
 Lx:Binds K t.K1 ["self","message"] []
 du7:ay K "rows" "Code.rows" IB t.ze t.K2
 CL:Binds K t.K2 ["self"] []
 du8:ay K "places" "Code.places" IC t.zf t.K3
 CM:Binds K t.K3 ["self"] []
 du9:ay K "checks" "Code.checks" ID t.zh t.K4
 Uw:Binds K t.K4 ["self"] []
 Ux:ay K "_law_spoilt" "_law_spoilt" IE t.K5 t.K6
 aO3:mg "_law_spoilt"=some (.ref t.K5)
 aO4:Binds K t.K6 ["_law_code_here","_law_message_here"] []
 Ly:ay K "_law_plus" "_law_plus" IF t.K7 t.K8
 Uy:mg "_law_plus"=some (.ref t.K7)
 Uz:Binds K t.K8 ["_law_told_here","_law_a","_law_b"] []
 UA:ay K "_law_by_rows" "_law_by_rows" IG t.K9 t.La
 aM0:mg "_law_by_rows"=some (.ref t.K9)
 aM1:Binds K t.La ["_law_told_here","_law_rows","_law_message_here","_law_length"] []
 UB:ay K "_law_sums" "_law_sums" IH t.Lb t.Lc
 aU0:mg "_law_sums"=some (.ref t.Lb)
 aU1:Binds K t.Lc ["_law_told_here","_law_table","_law_word"] []
 UC:ay K "_law_whole" "_law_whole" II t.Ld t.Le
 aR1:mg "_law_whole"=some (.ref t.Ld)
 aR2:Binds K t.Le ["_law_x"] []
 dv8:ay K "law" "law" nZ t.Lf t.Lg
 eh3:mg "law"=some (.ref t.Lf)
 eh4:Binds K t.Lg ["_law_script"] []
 aB5:t.Cy.code=.ref t.Tw
 aB6:codeHdIn K t.Tw t.iT=true
 aH7:t.Cz.code=.ref t.Tx
 aH8:codeHdIn K t.Tx t.iU=true
 fc:cy K t.aH
 Lz:Mk K t.aH t.Jn
 aW8:rY K t.aH
 aW3:kitOne K (.ref t.aH) (.ref t.cB)=some false
 LA:bg K t.aH "bits"
 vX:bg K t.aH "logs"
 sD:bg K t.aH "many"
 vY:bg K t.aH "powers"
 sE:bg K t.aH "products"
 LB:bg K t.aH "step"
 LC:bg K t.aH "wide"
 aJ8:Meth K t.aH "dot" t.KS
 LD:Meth K t.aH "holds" t.CB
 aw5:Meth K t.aH "lessened" t.JF
 aF1:Meth K t.aH "minus" t.JU
 LF:Meth K t.aH "over" t.CA
 aB7:Meth K t.aH "scaled" t.JA
 zr:Meth K t.aH "step_power" t.zc
 aF2:Meth K t.aH "times" t.Kb
 vZ:cy K t.bI
 CN:Mk K t.bI t.Kl
 dw8:rY K t.bI
 dw9:kitOne K (.ref t.bI) (.ref t.cB)=some true
 CO:bg K t.bI "bound"
 CP:bg K t.bI "check_rows"
 CQ:bg K t.bI "field"
 CS:bg K t.bI "length"
 CT:bg K t.bI "message_places"
 CU:bg K t.bI "size"
 CV:bg K t.bI "word_rows"
 CW:Meth K t.bI "checks" t.zh
 dx0:Meth K t.bI "distance" t.Kx
 v7:Meth K t.bI "places" t.zf
 v9:Meth K t.bI "rows" t.ze
 zt:Meth K t.bI "written" t.zd
 fB:cy K t.aO
 LG:Mk K t.aO t.Jc
 aW6:rY K t.aO
 aV6:kitOne K (.ref t.aO) (.ref t.cB)=some false
 zu:bg K t.aO "logs"
 sF:bg K t.aO "many"
 zw:bg K t.aO "powers"
 pM:bg K t.aO "prime"
 LH:bg K t.aO "step"
 LJ:bg K t.aO "wide"
 aF3:Meth K t.aO "dot" t.KW
 LK:Meth K t.aO "holds" t.CB
 av1:Meth K t.aO "lessened" t.JH
 az7:Meth K t.aO "minus" t.JW
 LL:Meth K t.aO "over" t.CA
 aw6:Meth K t.aO "scaled" t.JC
 zx:Meth K t.aO "step_power" t.zc
 az8:Meth K t.aO "times" t.Kf
 LM:cy K t.bQ
 LN:Mk K t.bQ t.KC
 dx6:rY K t.bQ
 dx7:kitOne K (.ref t.bQ) (.ref t.cB)=some true
 CY:bg K t.bQ "check_rows"
 CZ:bg K t.bQ "field"
 C2:bg K t.bQ "length"
 C5:bg K t.bQ "message_places"
 C6:bg K t.bQ "size"
 C7:bg K t.bQ "word_rows"
 C8:Meth K t.bQ "checks" t.zh
 eh9:Meth K t.bQ "distance" t.Ts
 wb:Meth K t.bQ "places" t.zf
 wc:Meth K t.bQ "rows" t.ze
 zy:Meth K t.bQ "written" t.zd
 zA:cy K t.bx
 LO:Mk K t.bx t.Kv
 dx8:rY K t.bx
 dx9:kitOne K (.ref t.bx) (.ref t.cB)=some true
 C9:bg K t.bx "check_rows"
 LP:bg K t.bx "extra"
 Dc:bg K t.bx "field"
 LQ:bg K t.bx "first"
 De:bg K t.bx "length"
 Df:bg K t.bx "message_places"
 Dg:bg K t.bx "size"
 Dh:bg K t.bx "word_rows"
 Di:Meth K t.bx "checks" t.zh
 ei0:Meth K t.bx "distance" t.Tu
 we:Meth K t.bx "places" t.zf
 wg:Meth K t.bx "rows" t.ze
 zB:Meth K t.bx "written" t.zd
 LR:vy K t.cB "__init__" t.J0
 UD:vy K t.kr "__init__" t.IZ
 wj:mg "all"=none
 UE:mg "any"=none
 UG:mg "bool"=none
 sG:mg "enumerate"=none
 UH:mg "int"=none
 pO:mg "isinstance"=none
 gg:mg "len"=none
 mK:mg "list"=none
 sH:mg "min"=none
 gP:mg "range"=none
 dy0:mg "sum"=none
 pP:mg "zip"=none
 LS:mg "BitField"=some (.ref t.aH)
 LU:mg "ByNought"=some (.ref t.iE)
 Dj:mg "CheckCode"=some (.ref t.bI)
 wk:mg "Code"=some (.ref t.cB)
 Dk:mg "Field"=some (.ref t.kr)
 LV:mg "PrimeField"=some (.ref t.aO)
 LW:mg "RepeatCode"=some (.ref t.bQ)
 LX:mg "RootCode"=some (.ref t.bx)
 UI:FZ K mg "ByNought" t.iE
 aW9:E8 K t.iE
section
variable{P:Program}{w:World}{K:Frag}{mg:Str->Option Value}{base:Heap}{t:eR}
theorem cz5(T:Txt K mg t)(m:Bool × Nat){Q:D->Prop}(q:Q (.int (ae m))):∃C ns xs v,fD t.aH t.aO m=.obj C ns xs/\cy K C/\bg K C "many"/\(ns.zip xs).lookup ("many":Str)=some v/\Q v:=by
 obtain⟨k,n⟩:=m
 cases k with
 | true=>exact⟨_,_,_,_,rfl,T.fc,T.sD,rfl,q⟩
 | false=>exact⟨_,_,_,_,rfl,T.fB,T.sF,rfl,q⟩
abbrev gh(t:eR)(m:Bool × Nat)(G:List (List Nat))(k:Kd):D:=ub t.aH t.aO t.bI t.bQ t.bx m G k
theorem wm(T:Txt K mg t)(m:Bool × Nat)(G:List (List Nat))(k:Kd){a:Str}{v:D}(n1:bg K t.bI a)(n2:bg K t.bQ a)(n3:bg K t.bx a)(ha:a∈nV)(h:(nV.zip (mI t.aH t.aO false m G)).lookup a=some v){Q:D->Prop}(q:Q v):∃C ns xs v,gh t m G k=.obj C ns xs/\cy K C/\bg K C a/\(ns.zip xs).lookup a=some v/\Q v:=by
 have ha:a="field"\/a="length"\/a="check_rows"\/a="word_rows"\/a="message_places"\/a="size":=by simpa only[cu,iZ,or_false]using ha
 rcases ha with rfl | rfl | rfl | rfl | rfl | rfl<;>cases k
 all_goals first | exact⟨_,_,_,v,rfl,T.vZ,n1,h,q⟩ | exact⟨_,_,_,v,rfl,T.LM,n2,h,q⟩ | exact⟨_,_,_,v,rfl,T.zA,n3,h,q⟩
theorem UJ(T:Txt K mg t)(m:Bool × Nat)(G:List (List Nat))(k:Kd){Q:D->Prop}(q:Q (fD t.aH t.aO m)):∃C ns xs v,gh t m G k=.obj C ns xs/\cy K C/\bg K C "field"/\(ns.zip xs).lookup ("field":Str)=some v/\Q v:=wm T m G k T.CQ T.CZ T.Dc (by decide) rfl q
theorem UK(T:Txt K mg t)(m:Bool × Nat)(G:List (List Nat))(k:Kd){Q:D->Prop}(q:Q (.int (au G:Nat))):∃C ns xs v,gh t m G k=.obj C ns xs/\cy K C/\bg K C "length"/\(ns.zip xs).lookup ("length":Str)=some v/\Q v:=wm T m G k T.CS T.C2 T.De (by decide) rfl q
theorem b01(T:Txt K mg t)(m:Bool × Nat)(G:List (List Nat))(k:Kd){Q:D->Prop}(q:Q (.lst false (ax false G))):∃C ns xs v,gh t m G k=.obj C ns xs/\cy K C/\bg K C "check_rows"/\(ns.zip xs).lookup ("check_rows":Str)=some v/\Q v:=wm T m G k T.CP T.CY T.C9 (by decide) rfl q
theorem UL(T:Txt K mg t)(m:Bool × Nat)(G:List (List Nat))(k:Kd){Q:D->Prop}(q:Q (.lst false (ax false (gE m G)))):∃C ns xs v,gh t m G k=.obj C ns xs/\cy K C/\bg K C "word_rows"/\(ns.zip xs).lookup ("word_rows":Str)=some v/\Q v:=wm T m G k T.CV T.C7 T.Dh (by decide) rfl q
theorem b33(T:Txt K mg t)(m:Bool × Nat)(G:List (List Nat))(k:Kd){Q:D->Prop}(q:Q (.lst false (ak (bS m G)))):∃C ns xs v,gh t m G k=.obj C ns xs/\cy K C/\bg K C "message_places"/\(ns.zip xs).lookup ("message_places":Str)=some v/\Q v:=wm T m G k T.CT T.C5 T.Df (by decide) rfl q
theorem zC(T:Txt K mg t)(m:Bool × Nat)(G:List (List Nat))(k:Kd){Q:D->Prop}(q:Q (.int ((bS m G).length:Nat))):∃C ns xs v,gh t m G k=.obj C ns xs/\cy K C/\bg K C "size"/\(ns.zip xs).lookup ("size":Str)=some v/\Q v:=wm T m G k T.CU T.C6 T.Dg (by decide) rfl q
theorem jU(T:Txt K mg t){m:Bool × Nat}{G:List (List Nat)}{k:Kd}{me:Str}{n:Nat}{f:Addr}{fd:FuncData}{ps:List Str}{sp:bh}(h1:Meth K t.bI me f)(h2:Meth K t.bQ me f)(h3:Meth K t.bx me f)(F:aM P w K mg base aQ n f fd ps (bj sp))(b:Binds K fd ps [])(nm:me ∉ (["extra","first","field","length","check_rows","word_rows","message_places","size","bound"]:List Str)){ds:List D}{Q:D->Prop}(q:sp (gh t m G k::ds) Q):∃C ns zs sp,gh t m G k=.obj C ns zs/\jN P w K mg base n me C sp/\me ∉ ns/\sp (.obj C ns zs::ds) Q:=by
 simp only[cu,iZ,or_false,not_or]at nm
 cases k
 ·exact⟨_,_,_,sp,rfl,⟨T.vZ,_,_,_,h1,F,b⟩,by simp[nm],q⟩
 ·exact⟨_,_,_,sp,rfl,⟨T.LM,_,_,_,h2,F,b⟩,by simp[nm],q⟩
 ·exact⟨_,_,_,sp,rfl,⟨T.zA,_,_,_,h3,F,b⟩,by simp[nm],q⟩
abbrev aR3:bh:=λds Q=>∃c:Int,ds=[.int c]/\Q (dk (pk c))
theorem aR4(T:Txt K mg t):aM P w K mg base aQ 1 t.IJ t.IK ["_law_cell_here"] (bj (aR3 )):=by
 refine bz T.Tz Hg ?_ ?_
 ·intro ds Q h
  obtain⟨c,rfl,q⟩:=h<;>rfl
 ·intro aC A outer s H E hr
  refine⟨_,(aA (aX (i:=1) Hg.nd rfl (ai rfl) (QG (ns:=[7,11,13,19,25,31,37,41,47,55,59,61,67,73,87,91,97,103,109,115,117]) (by decide +kernel)))
   (aA (aX (i:=2) Hg.nd rfl (ai rfl) (QG (ns:=[2,3,5,7,11,13,17,19,23,29,31,37,41,43,47,53,59,61]) (by decide +kernel)))
   (aA (cQ (b9 (gz (cJ hr)) (aa (aB dD (bv 0) (aa aj))) (aa aj) (bM _)) (aE (aW (nz (cq iM (cq (dh (bA (bv 1) (aa (aB dD (aa (aB qU (bv 0) (aa aj))) (aa aj))) (λ_ _=>rfl))) cC))))) cP)
   (aE (aW (nz (cq iM (cq (dh (bA (bv 2) (aa (aB dD (aa (aB qU (bv 0) (aa aj))) (aa aj))) (λ_ _=>rfl))) cC)))))))),λds Q h=>?_⟩
  obtain⟨c,rfl,q⟩:=h
  refine az λU hU=>?_
  nofun
  refine⟨by decide,hU _ ?_⟩
  clear hU U
  refine az λU hU=>?_
  nofun
  refine⟨by decide,hU _ ?_⟩
  clear hU U
  refine az λU hU=>?_
  nofun
  refine⟨by decide,?_⟩
  have n1:=gR (c/2) (show(21:Int)≠0 by decide)
  have n2:=hV (c/2) (show(0:Int)<21 by decide)
  have n3:=gR (c/2) (show(18:Int)≠0 by decide)
  have n4:=hV (c/2) (show(0:Int)<18 by decide)
  split
  ·rename_i hc
   refine⟨qT (by decide) (by decide),by decide,_,my n1 (by simpa using n2),rfl,by decide,?_⟩
   have e:dk (pk c)=.tup [.bl true,.int (([7,11,13,19,25,31,37,41,47,55,59,61,67,73,87,91,97,103,109,115,117]:List Int).getD (c/2%21).toNat 0)]:=by
    unfold pk dk
    rw[if_pos hc]
    have:∀k:Nat,((gK.getD k 0:Nat):Int)=([7,11,13,19,25,31,37,41,47,55,59,61,67,73,87,91,97,103,109,115,117]:List Int).getD k 0:=λk=>by
     show _=(gK.map (λ(n:Nat)=>(n:Int))).getD k ((0:Nat):Int)
     rw[aT,aT,cj]
     cases gK[k]?<;>rfl
    rw[<-this]
   rw[<-e];exact q
  ·rename_i hc
   refine hU _ ?_
   nofun
   refine⟨qT (by decide) (by decide),by decide,_,my n3 (by simpa using n4),rfl,by decide,?_⟩
   have e:dk (pk c)=.tup [.bl false,.int (([2,3,5,7,11,13,17,19,23,29,31,37,41,43,47,53,59,61]:List Int).getD (c/2%18).toNat 0)]:=by
    unfold pk dk
    rw[if_neg hc]
    have:∀k:Nat,((nN.getD k 0:Nat):Int)=([2,3,5,7,11,13,17,19,23,29,31,37,41,43,47,53,59,61]:List Int).getD k 0:=λk=>by
     show _=(nN.map (λ(n:Nat)=>(n:Int))).getD k ((0:Nat):Int)
     rw[aT,aT,cj]
     cases nN[k]?<;>rfl
    rw[<-this]
   rw[<-e];exact q
abbrev aR5:bh:=λds Q=>∃m:Bool × Nat,ds=[dk m]/\bl m.2<=1000/\1<=bl m.2/\Q (.int (ae m:Nat))
theorem Dm(T:Txt K mg t):aM P w K mg base aQ 1 t.IL t.IM ["_law_told_here"] (bj (aR5 )):=by
 refine bz T.zi aQ2 ?_ ?_
 ·intro ds Q h
  obtain⟨m,rfl,h1,h2,q⟩:=h<;>rfl
 ·intro aC A outer s H E hr
  refine⟨_,(aA (cQ (gZ (bA (bv 0) (aa aj) (λ_ _=>rfl))) (aE (aW (aB uO (aa aj) (aa (aB dB (aa (nH (bA (bv 0) (aa aj) (λ_ _=>rfl)))) (aa aj)))))) cP)
   (aE (aW (dh (bA (bv 0) (aa aj) (λ_ _=>rfl)))))),λds Q h=>?_⟩
  obtain⟨m,rfl,h1,h2,q⟩:=h
  unfold dk at *
  refine az λU hU=>?_
  nofun
  obtain⟨b,n⟩:=m
  cases b with
  | true =>
   refine⟨_,rfl,true,rfl,?_⟩
   rw[if_pos rfl]
   refine⟨_,rfl,?_⟩
   have o1:bl (1:Int).natAbs=1:=by decide
   have e:(1:Int)*2 ^ (((bl ((n:Int)).natAbs:Nat):Int)-1).toNat=((ae (true,n):Nat):Int):=by
    have jD:1<=bl n:=h2
    rw[i6,show(((bl n:Nat):Int)-1)=((bl n-1:Nat):Int) by omega,show(1:Int)=((1:Nat):Int) from rfl,t7,Eg];rfl
   refine⟨?_,by rw[e];exact q⟩
   rw[i6]
   have j9:bl n<=1000:=h1
   have jD:1<=bl n:=h2
   exact⟨by omega,by omega⟩
  | false =>
   refine⟨_,rfl,false,rfl,?_⟩
   rw[if_neg (by decide)]
   refine hU _ ?_
   nofun
   exact⟨_,rfl,rfl,q⟩
abbrev aR6(L:Obj->Obj->Addr->Addr->vw->Prop):bh:=λds Q=>∃(a:Nat) (of oc:Obj) (c k:Addr) (g:Nat->Nat->Nat) (l:List Int),ds=[.int a,.bE (.lam of oc c k)]/\L of oc c k (yO g)/\a<64/\GC g a=some l/\Q (.lst true (aG l))
theorem UM(T:Txt K mg t):aM P w K mg base aQ 5 t.IQ t.IS ["a","product"] (bj (aR6 (yF P w K mg base 4))):=by
 refine bz T.Lh Cq ?_ ?_
 ·intro ds Q h
  obtain⟨a,of,oc,c,k,g,l,rfl,hL,ha,hp,q⟩:=h<;>rfl
 ·intro aC A outer s H E hr
  refine⟨_,(aA (aX (i:=2) Cq.nd rfl (ai rfl) (dO (cq aj cC)))
   (aA (aX (i:=3) Cq.nd rfl (ai rfl) (Q5 (n:=4) (i:=1) rfl (by first | exact ai rfl | exact aV (ai rfl)) (hr.mono (by decide)) (ag (aa aj) (ag (bv 0) aw))))
   (aA (uB eN (b9 (gJ (cJ hr)) (bv 3) (aa aj) (bM _))
    (aA (kO (i:=2) rfl (by first | exact ai rfl | exact aV (ai rfl)) (dh (bv 3)))
    (aE (aX (i:=3) Cq.nd rfl (ai rfl) (Q5 (n:=4) (i:=1) rfl (by first | exact ai rfl | exact aV (ai rfl)) (hr.mono (by decide)) (ag (bv 3) (ag (bv 0) aw)))))))
   (aE (aW (em 2)))))),λds Q h=>?_⟩
  obtain⟨a,of,oc,c,k,g,l,rfl,hL,ha,hp,q⟩:=h
  refine az λU hU=>?_
  nofun
  refine⟨by decide,hU _ ?_⟩
  clear hU U
  refine az λU hU=>?_
  nofun
  refine⟨of,oc,c,k,yO g,rfl,hL,1,a,⟨rfl,rfl⟩,1,a,rfl,rfl,by decide,ha,hU _ ?_⟩
  clear hU U
  refine az λU hU=>?_
  nofun
  refine⟨λm δ=>∃(p:Nat) (acc:List Int),δ=[some (.int a),some (.bE (.lam of oc c k)),some (.lst true (aG acc)),some (.int p)]/\acc.length+m<=70/\BM g a m p acc=some l,⟨64,_,[1],rfl,by decide,hp⟩,?_⟩
  rintro m δ ⟨p,acc,rfl,hn,hg⟩
  nofun
  cases m with
  | zero=>cases hg
  | succ m =>
   unfold BM at hg
   split at hg
   ·rename_i h1
    subst h1
    cases hg
    rw[if_neg (by simp)]
    refine hU _ ?_
    nofun
    exact q
   ·rename_i h1
    rw[if_pos (by simp;omega)]
    split at hg
    ·rename_i h2
     clear hU
     refine az λU hU=>?_
     nofun
     refine⟨⟨_,rfl⟩,by omega,hU _ ?_⟩
     clear hU
     nofun
     exact⟨of,oc,c,k,yO g,rfl,hL,p,a,⟨rfl,rfl⟩,p,a,rfl,rfl,h2,ha,m,by omega,g p a,acc++[(p:Int)],⟨by rw[<-rF];rfl,rfl⟩,by simp;omega,hg⟩
    ·cases hg
abbrev aM2(L:Obj->Obj->Addr->Addr->vw->Prop):bh:=λds Q=>∃(n:Nat) (of oc:Obj) (c k:Addr) (g:Nat->Nat->Nat) (l:List Int),ds=[.int n,.bE (.lam of oc c k)]/\L of oc c k (yO g)/\yN g n=some l/\Q (.lst true (aG l))
theorem aM3(T:Txt K mg t):aM P w K mg base aQ 6 t.IT t.IU ["many","product"] (bj (aM2 (yF P w K mg base 4))):=by
 refine bz T.TF y8 ?_ ?_
 ·intro ds Q h
  obtain⟨n,of,oc,c,k,g,l,rfl,hL,hp,q⟩:=h<;>rfl
 ·intro aC A outer s H E hr
  refine⟨_,(aA (aX (i:=2) y8.nd rfl (ai rfl) aj)
   (aA (aX (i:=3) y8.nd rfl (ai rfl) (bu ((UM T).mono (by decide)) hr rfl T.TB T.Lh.kp T.TC aU (ag (bv 2) (ag (bv 1) aw))))
   (aA (uB eN (b9 qX (aa (cV (gB) (by rfl) T.gg fV (ag (bv 3) aw))) (aa (aB dB (bv 0) (aa aj))) (bM _))
    (aA (xM (i:=2) y8.nd rfl (ai rfl) (aa aj) cC1)
    (aE (aX (i:=3) y8.nd rfl (ai rfl) (bu ((UM T).mono (by decide)) hr rfl T.TB T.Lh.kp T.TC aU (ag (bv 2) (ag (bv 1) aw)))))))
   (aE (aW (em 3)))))),λds Q h=>?_⟩
  obtain⟨n,of,oc,c,k,g,l,rfl,hL,hp,q⟩:=h
  unfold yN at hp
  split at hp
  ·rename_i l0 h0
   refine az λU hU=>?_
   nofun
   refine hU _ ?_
   clear hU U
   refine az λU hU=>?_
   nofun
   refine⟨1,of,oc,c,k,g,l0,rfl,hL,by decide,h0,hU _ ?_⟩
   clear hU U
   refine az λU hU=>?_
   nofun
   refine⟨λm δ=>∃(st:Nat) (l1:List Int),δ=[some (.int n),some (.bE (.lam of oc c k)),some (.int st),some (.lst true (aG l1))]/\st+m<=63/\BN g n m st l1=some l,⟨62,1,l0,rfl,by decide,hp⟩,?_⟩
   rintro m δ ⟨st,l1,rfl,hn,hg⟩
   nofun
   cases m with
   | zero=>cases hg
   | succ m =>
    unfold BN at hg
    split at hg
    ·rename_i h1
     rw[if_pos (by omega)]
     split at hg
     ·rename_i l2 h2
      clear hU
      refine az λU hU=>?_
      nofun
      refine hU _ ?_
      clear hU
      nofun
      exact⟨st+1,of,oc,c,k,g,l2,rfl,hL,by omega,h2,m,by omega,st+1,l2,⟨rfl,rfl⟩,by omega,hg⟩
     ·cases hg
    ·rename_i h1
     rw[if_neg (by omega)]
     cases hg
     refine hU _ ?_
     nofun
     exact q
  ·cases hp
abbrev aU9:bh:=λds Q=>∃(l:List Int),ds=[.lst false (aG l)]/\l.length<=64/\(∀x∈l,0<=x/\x.toNat<=l.length)/\Q (.lst true (aG (eI l)))
theorem aV0(T:Txt K mg t):aM P w K mg base aQ 1 t.IV t.IW ["powers"] (bj (aU9 )):=by
 refine bz T.TH Hl ?_ ?_
 ·intro ds Q h
  obtain⟨l,rfl,hl,hx,q⟩:=h<;>rfl
 ·intro aC A outer s H E hr
  refine⟨_,(aA (aX (i:=1) Hl.nd rfl (ai rfl) (aB fu (aa (dO (cq aj cC))) (aa (aB cR (aa (cV (gB) (by rfl) T.gg fV (ag (bv 0) aw))) (aa aj)))))
   (aA (fY eN rfl (rJ rfl T.sG (ag (bv 0) aw)) (iz (i1:=2) (i2:=3) rfl Hl.nd rfl (ai rfl) rfl (ai rfl))
    (aE (rD (i:=1) rfl (by first | exact ai rfl | exact aV (ai rfl)) (dh (bv 2)) (bv 3))))
   (aE (aW (em 1))))),λds Q h=>?_⟩
  obtain⟨l,rfl,hl,hx,q⟩:=h
  refine az λU hU=>?_
  nofun
  refine⟨by decide,⟨by omega,by omega,by omega⟩,hU _ ?_⟩
  clear hU U
  refine az λU hU=>?_
  nofun
  refine fX.mk (λi δ=>∃o1 o2,δ=[some (.lst false (aG l)),some (.lst true (aG (nO l i))),o1,o2]) ⟨none,none,?_⟩ ?_ ?_
  ·rw[show((l.length:Int)+1).toNat=l.length+1 by omega];rfl
  ·rintro i d δ hd ⟨o1,o2,rfl⟩
   obtain⟨hi,rfl⟩:∃h:i<l.length,d=.tup [.int i,.int l[i]]:=by
    unfold fM aG at hd
    rw[An,cj]at hd
    by_cases hi:i<l.length
    ·rw[aP hi]at hd
     simp at hd
     exact⟨hi,hd.symm⟩
    ·rw[gj (by omega)]at hd;simp at hd
   have cz:=hx l[i] (dz _)
   nofun
   refine⟨_,(l[i]).toNat,rfl,?_,_,_,?_,rfl,rfl⟩
   ·unfold gY
    rw[kQ,yP,if_pos cz.1,if_pos (by omega)]
   ·unfold aG
    rw[<-wQ]
    congr 1
    show _=(nO l i).set (l.getD i 0).toNat (i:Int)
    rw[aT,aP hi];rfl
  ·rintro δ ⟨o1,o2,rfl⟩
   refine hU _ ?_
   simp only[ur,qQ,uu,uv,uw,dT,nv,oK,oM,dC,nu,qO,qM,qL,qN,uq,oS,u5,rB,u7,u9,ui,uj,uk,um,uo,qK,u0,rj,rk,ii,qS,uK,qV,uL,uM,uN,uP,uQ,uR,iI,iw,uS,uT,uU,uV,qY,oQ,uY,uZ,gN,va,u4,uz,uD,uE,uF,uG,uH,vb,vd,oO,mn,gx,jJ,jl,pZ,tu,wU,As,qP,kK,kb,rq,rz,nJ,vj,vk,vm,yw,vp,rK,vn,jL,yz,yx,yy,dn,jW,mW,tE,jx,Au,bf,oq,ot,jy,jz,wV,exists_eq_left',exists_eq_left,D.bl.injEq,D.int.injEq,D.lst.injEq,D.fz.injEq,D.str.injEq,D.tup.injEq,Av,and_true,true_and,dq,tK,mV,lK,xW,xX,xY,xZ,x6,x8,fW,kI,oU,yd,ye,yf,yg,yh,dM,mi,x9,ya,yb,yc,fJ,qH,Aw,Az,sX,lL,AA,AB,wC,yk,yl,ym,yn,yo,yp,yq,kQ,nI,rE,ki,rF,yi,vi,vg,rG,yj,jK,vh,if_true,tH,if_false,reduceIte,yr,decide_eq_true_eq,dW,kR,rL,yD,nK,yC,uA,vx,rX,vD,vo,rO,rP,rQ,vz,vG,y0,vL,su,dX,pE,km,yV,sj,vP,vQ,rH]
   exact q
abbrev zD(K:Frag):bh:=λds Q=>∃(C:Addr) (ns:List Str) (xs:List D) (n:Int) (many:Nat) (l:List Int) (r:Int),ds=[.obj C ns xs,.int n]/\cy K C/\bg K C "powers"/\bg K C "many"/\(ns.zip xs).lookup ("powers":Str)=some (.lst false (aG l))/\(ns.zip xs).lookup ("many":Str)=some (.int many)/\2<=many/\l[(n%((many:Int)-1)).toNat]?=some r/\Q (.int r)
theorem zE(T:Txt K mg t):aM P w K mg base aQ 1 t.zc t.IY ["self","n"] (bj (zD K)):=by
 refine bz T.aA6 ay8 ?_ ?_
 ·intro ds Q h
  obtain⟨C,ns,xs,n,many,l,r,rfl,hC,h1,h2,h3,h4,h5,h6,q⟩:=h<;>rfl
 ·intro aC A outer s H E hr
  refine⟨_,(aE (aW (dh (bA (dQ (K:=K) (bv 0)) (aa (aB dD (bv 1) (aa (aB dB (dQ (K:=K) (bv 0)) (aa aj))))) (λ_ _=>rfl))))),λds Q h=>?_⟩
  obtain⟨C,ns,xs,n,many,l,r,rfl,hC,h1,h2,h3,h4,h5,h6,q⟩:=h
  nofun
  refine⟨C,ns,xs,_,rfl,hC,h1,h3,C,ns,xs,_,rfl,hC,h2,h4,?_⟩
  refine⟨by omega,_,m5 (d:=.int r) (gR _ (by omega)) ?_,rfl,q⟩
  unfold aG
  rw[cj,h6];rfl
theorem bG2(T:Txt K mg t){m:Bool × Nat}(hm:m∈aF){n:Int}{Q:D->Prop}(q:Q (.int (eS m n:Nat))):RP P w K mg base 1 t.aH t.aO m "step_power" [.int n] Q:=by
 have hF:=di hm
 have hl:=R0 hm n
 obtain⟨k,b⟩:=m
 cases k with
 | true=>exact⟨_,_,_,zD K,rfl,⟨T.fc,_,_,_,T.zr,zE T,T.zj⟩,by decide,_,_,_,_,ae (true,b),fl (true,b),_,rfl,T.fc,T.vY,T.sD,rfl,rfl,hF.lo,hl,q⟩
 | false=>exact⟨_,_,_,zD K,rfl,⟨T.fB,_,_,_,T.zx,zE T,T.zj⟩,by decide,_,_,_,_,ae (false,b),fl (false,b),_,rfl,T.fB,T.zw,T.sF,rfl,rfl,hF.lo,hl,q⟩
abbrev aO5(P:Program)(w:World)(K:Frag)(mg:Str->Option Value)(base:Heap)(fs:Addr):Sp:=λvs H Q _=>∃(x dx f C:Addr) (b:Str) (n0:Int) (many:Nat) (of oc:Obj) (c k:Addr) (g:Nat->Nat->Nat) (l:List Int) (st:Int),
 vs=[.ref x,.int many,.ref f]/\H x=some (.ins C dx [(b,.int n0)])/\(∀n∈(["many","wide","powers","logs","step","step_power"]:List Str),b≠n)/\c67 K C fs/\ka H f of oc c k/\yF P w K mg base 4 of oc c k (yO g)/\Ru g many l st /\
 ∀H' p1 p2,bL x H H'->H' x=some (.ins C dx ((iB b).zip (BO n0 many p1 p2 st)))->LI H' p1 l->LI H' p2 (eI l)->p1≠p2->H p1=none->H p2=none->Q .av H'
theorem UN(T:Txt K mg t):aM P w K mg base aQ 7 t.IZ t.I0 ["self","many","product"] (aO5 P w K mg base t.zc):=by
 refine T.aQ7.ok aN5 (λvs H Q E h=>?_) λaC A outer s H vs Q E hr h=>?_
 ·obtain⟨x,dx,f,C,b,n0,many,of,oc,c,k,g,l,st,rfl,_⟩:=h;rfl
 obtain⟨x,dx,f,C,b,n0,many,of,oc,c,k,g,l,st,rfl,hx,hb,hC,dz4,hL,hF,q⟩:=h
 refine⟨_,eP (gW (pv 0) (pv 1) rfl) (eP (gW (pv 0) (xm EF (E3 (pv 1)) oA) rfl)
  (eP (gW (pv 0) (je ((aM3 T).mono (by decide)) hr rfl T.dm0 T.TF.kp T.dm1 .nil aU (bV (pv 1) (bV (pv 2) eX))) rfl)
  (eP (gW (pv 0) (je ((aV0 T).mono (by decide)) hr rfl T.dm2 T.TH.kp T.dm3 .nil aU (bV (qw (pv 0) rfl) eX)) rfl)
  (i8 (gW (pv 0) (Zn (pv 0) hC.cls hC.sp ((zE T).mono (by decide)) hr T.zj .nil aU (bV oA eX)) rfl))))),?_⟩
 have nb:∀n∈(["many","wide","powers","logs","step","step_power"]:List Str),b≠n:=hb
 refine⟨.int many,rfl,.ref x,rfl,x,C,dx,_,rfl,hx,hC.cls,hC.many,mR (bG 1) (by decide),?_⟩
 rw[vB (by simpa using nb "many" (by simp))]
 generalize e1:upd H x (HO.ins C dx ([(b,V.int n0)]++[(("many":Str),V.int many)]))=H1
 have cz:H1 x=some (.ins C dx [(b,V.int n0),(("many":Str),V.int many)]):=by rw[<-e1,bJ];rfl
 have s1:bL x H H1:=by rw[<-e1];exact bL.upd (C:=C) (dx:=dx) hx rfl
 have l1:ka H1 f of oc c k:=by rw[<-e1];exact dz4.rR hx
 have n1:∀p,H1 p=none->H p=none:=λp h=>yQ hx (by rw[e1];exact h)
 refine⟨_,rfl,rfl,_,rfl,rfl,_,_,rfl,rfl,.ref x,rfl,x,C,dx,_,rfl,cz,hC.cls,hC.wide,mR (bG 2) (by decide),?_⟩
 rw[vB (by simp;exact⟨nb "wide" (by simp),by decide⟩),i6]
 generalize e2:upd H1 x (HO.ins C dx ([(b,V.int n0),(("many":Str),V.int many)]++[(("wide":Str),V.int ((bl many:Nat)-1))]))=H2
 have dU:H2 x=some (.ins C dx [(b,V.int n0),(("many":Str),V.int many),(("wide":Str),V.int ((bl many:Nat)-1))]):=by rw[<-e2,bJ];rfl
 have s2:bL x H H2:=by rw[<-e2];exact s1.trans (bL.upd (C:=C) (dx:=dx) cz rfl)
 have l2:ka H2 f of oc c k:=by rw[<-e2];exact l1.rR cz
 have n2:∀p,H2 p=none->H p=none:=λp h=>n1 p (yQ cz (by rw[e2];exact h))
 refine⟨_,rfl,_,rfl,H2,[.int many,.bE (.lam of oc c k)],λd=>d=.lst true (aG l),af.refl _,.int (.bE l2 .nil),⟨many,of,oc,c,k,g,l,rfl,hL,hF.step,rfl⟩,λd v F' H3 A' hd hs hf he h3 r nd fr=>?_⟩
 subst hd
 obtain⟨p1,rfl,hp1,zF⟩:=Rt r fr
 have ff:=hs.get _ _ dU
 have s3:=s2.trans (hs.x (x:=x))
 refine⟨.ref x,rfl,x,C,dx,_,rfl,ff,hC.cls,hC.GD,mR (bG 3) (by decide),?_⟩
 rw[vB (by simp;exact⟨nb "powers" (by simp),by decide,by decide⟩)]
 generalize e4:upd H3 x (HO.ins C dx ([(b,V.int n0),(("many":Str),V.int many),(("wide":Str),V.int ((bl many:Nat)-1))]++[(("powers":Str),V.ref p1)]))=H4
 have jv:H4 x=some (.ins C dx [(b,V.int n0),(("many":Str),V.int many),(("wide":Str),V.int ((bl many:Nat)-1)),(("powers":Str),V.ref p1)]):=by rw[<-e4,bJ];rfl
 have s4:bL x H H4:=by rw[<-e4];exact s3.trans (bL.upd (C:=C) (dx:=dx) ff rfl)
 have p4:LI H4 p1 l:=by rw[<-e4];exact hp1.upd ff (λws z=>by cases z)
 have n4:∀p,H4 p=none->H p=none:=λp h=>n2 p (hs.free (yQ ff (by rw[e4];exact h)))
 refine⟨.ref x,rfl,x,C,dx,_,.ref p1,rfl,jv,hC.cls,hC.GD,by rw[BP (nb "powers" (by simp))];rfl,H4,[.lst false (aG l)],λd=>d=.lst true (aG (eI l)),af.refl _,.shr p4 (kP l) .nil,⟨l,rfl,by have:=hF.len;have:=hF.hi;omega,hF.ins,rfl⟩,λd v F' H5 A' hd ky hf he h3 r nd fr=>?_⟩
 subst hd
 obtain⟨p2,rfl,UO,sI⟩:=Rt r fr
 have iV:=ky.get _ _ jv
 have s5:=s4.trans (ky.x (x:=x))
 have dz6:p1≠p2:=λz=>by rw[<-z]at sI;unfold LI at p4;rw[sI]at p4;cases p4
 refine⟨.ref x,rfl,x,C,dx,_,rfl,iV,hC.cls,hC.c68,mR (bG 4) (by decide),?_⟩
 rw[vB (by simp;exact⟨nb "logs" (by simp),by decide,by decide,by decide⟩)]
 generalize e6:upd H5 x (HO.ins C dx ([(b,V.int n0),(("many":Str),V.int many),(("wide":Str),V.int ((bl many:Nat)-1)),(("powers":Str),V.ref p1)]++[(("logs":Str),V.ref p2)]))=H6
 have pQ:H6 x=some (.ins C dx (([b,"many","wide","powers","logs"]:List Str).zip [V.int n0,V.int many,V.int ((bl many:Nat)-1),V.ref p1,V.ref p2])):=by rw[<-e6,bJ];rfl
 have s6:bL x H H6:=by rw[<-e6];exact s5.trans (bL.upd (C:=C) (dx:=dx) iV rfl)
 have p6:LI H6 p1 l:=by rw[<-e6];exact(p4.same ky).upd iV (λws z=>by cases z)
 have q6:LI H6 p2 (eI l):=by rw[<-e6];exact UO.upd iV (λws z=>by cases z)
 refine⟨.ref x,rfl,x,dx,_,rfl,pQ,by show lC ("step_power":Str) ((b,V.int n0)::_)=none;rw[BP (nb "step_power" (by simp))];rfl,H6,[.obj C [b,"many","wide","powers","logs"] [.int n0,.int many,.int ((bl many:Nat)-1),.lst false (aG l),.lst false (aG (eI l))],.int 1],λd=>d=.int st,af.refl _,
  .obj pQ rfl (.int (.int (.int (.shr p6 (kP l) (.shr q6 (kP _) .nil))))) (.int .nil),⟨C,_,_,1,many,l,st,rfl,hC.cls,hC.GD,hC.many,by show lC ("powers":Str) ((b,D.int n0)::_)=_;rw[BP (nb "powers" (by simp))];rfl,by show lC ("many":Str) ((b,D.int n0)::_)=_;rw[BP (nb "many" (by simp))];rfl,hF.lo,hF.st,rfl⟩,λd v F' H7 A' hd n6 hf he h3 r nd fr=>?_⟩
 subst hd
 cases r
 have mL:=n6.get _ _ pQ
 refine⟨.ref x,rfl,x,C,dx,_,rfl,mL,hC.cls,hC.step,mR (bG 5) (by decide),?_⟩
 rw[vB (by simp;exact⟨nb "step" (by simp),by decide,by decide,by decide,by decide⟩)]
 refine q _ p1 p2 ((s6.trans (n6.x (x:=x))).trans (bL.upd (C:=C) (dx:=dx) mL rfl)) (by rw[bJ];rfl) ((p6.same n6).upd mL (λws z=>by cases z)) ((q6.same n6).upd mL (λws z=>by cases z)) dz6 (n2 p1 zF) (n4 p2 sI)
abbrev aw9:bh:=λds Q=>∃a:Int,ds=[.int a]/\Q (.bl (decide (2<=a)&&decide (a<=61)&&(aL (a.toNat-2)).all λi=>a%(2+(i:Int)) != 0))
theorem ax0(T:Txt K mg t):aM P w K mg base aQ 1 t.Ja t.Jb ["prime"] (bj (aw9 )):=by
 refine bz T.TK aw4 ?_ ?_
 ·intro ds Q h
  obtain⟨a,rfl,q⟩:=h<;>rfl
 ·intro aC A outer s H E hr
  refine⟨_,(aE (aW (oN (aa (q9 ke ke (aa aj) (bv 0) (aa aj))) (tS (cV (u3 rfl) (by rfl) T.wj ua (ag (aa (dR [("prime",0)] ["d"] rfl (xO rfl T.gP (ag (aa aj) (ag (bv 0) aw))) (λ_ _ _ _=>(cE (i:=1) (show(["prime","d"]:List Str).Nodup by decide +kernel) rfl (ai (lr1 rfl)) (by decide) (aV (lr1 rfl)))) (λ_ _ _ _=>dv) (λ_ _ _ _=>(uh (gJ (cJ hr)) (aa (aB dD (bv 0) (bv 1))) (aa aj) (bM _))) rfl ⟨rfl,trivial⟩ (λ_=>by repeat' (first | exact trivial | refine⟨.inl rfl,?_⟩ | refine⟨.inr (.inl rfl),?_⟩ | refine⟨.inr (.inr ⟨_,rfl⟩),?_⟩)) (λ_=>⟨⟨rfl,.inl rfl,.inl rfl,_,rfl,rfl⟩,trivial⟩) rfl (by decide +kernel))) aw)))))),λds Q h=>?_⟩
  obtain⟨a,rfl,q⟩:=h
  nofun
  split
  ·rename_i h1
   split
   ·rename_i h2
    refine⟨2,a,⟨rfl,rfl⟩,⟨by decide,by decide,by omega,by omega⟩,?_⟩
    have e0:(a-2).toNat=a.toNat-2:=by omega
    rw[e0]
    refine eH (aL (a.toNat-2)) (λ(k:Nat)=>D.int (2+(k:Int))) (λ(k:Nat)=>D.bl (a%(2+(k:Int)) != 0)) (by rw[xN]) (λx y h=>by injection h with h;omega) (λk hk=>?_) (.inr λ_ _=>rfl) (by rw[bZ,sL];omega) ?_
    ·nofun
     refine⟨by omega,?_⟩
     by_cases z:a%(2+(k:Int))=0<;>simp[z]
    ·refine⟨(aL (a.toNat-2)).map λ(k:Nat)=>a%(2+(k:Int)) != 0,?_,?_⟩
     ·unfold mr;rw[cw];rfl
     ·have e:(decide (2<=a)&&decide (a<=61)&&(aL (a.toNat-2)).all λi=>a%(2+(i:Int)) != 0)=((aL (a.toNat-2)).map λ(k:Nat)=>a%(2+(k:Int)) != 0).all id:=by
       simp[h1,h2,mU]
      rw[<-e];exact q
   ·rename_i h2
    have e:(decide (2<=a)&&decide (a<=61)&&(aL (a.toNat-2)).all λi=>a%(2+(i:Int)) != 0)=false:=by simp[h2]
    rw[e]at q;exact q
  ·rename_i h1
   have e:(decide (2<=a)&&decide (a<=61)&&(aL (a.toNat-2)).all λi=>a%(2+(i:Int)) != 0)=false:=by simp[h1]
   rw[e]at q;exact q
abbrev aM4:List D->List Str->List D->Prop:=λds ns xs=>∃p:Nat,ds=[.int p]/\p∈nN/\ns=iB "prime"/\xs=[.int p,.int p,.int ((bl p:Nat)-1),.lst true (aG (fl (false,p))),.lst true (aG (eI (fl (false,p)))),.int (fst (false,p))]
theorem aB9(T:Txt K mg t)(hB:Bm mg base):aM P w K mg base aQ 8 t.Jc t.Cy ["self","prime"] (GB [t.iT,t.iU] t.aO aM4):=by
 refine Rp T.aE5 T.aB5 aA1 (λvs H Q E h=>?_) λA outer s H vs Q E hr h=>?_
 ·obtain⟨x,dx,bR,ds,ns,xs,rfl,_,_,r,⟨p,rfl,_⟩,_⟩:=h
  have:=r.length
  simp at this
  simp[this]
 obtain⟨x,dx,bR,ds,ns,xs,rfl,tb,hx,r,⟨p,rfl,hp,rfl,rfl⟩,q⟩:=h
 obtain rfl:bR=[.int p]:=by
  cases r with
  | int r=>cases r;rfl
 have hm:(false,p)∈aF:=cZ _ (D9 hp)
 have hF:=di hm
 refine⟨_,eP (qm (AK (AJ (je ((ax0 T).mono (by decide)) hr rfl T.dm6 T.TK.kp T.dm7 .nil aU (bV (pv 1) eX)))) (i8 qo) qk)
  (eP (gW (pv 0) (pv 1) rfl)
  (i8 (ql (Ri (E:=E0) (i:=1) T.UD ((UN T).mono (by decide)) hr T.TJ rfl T.Dk rfl rfl rfl rfl (bV (pv 0) (bV (pv 1) (bV (Q6 rfl rfl T.aB6 hB) eX))))))),?_⟩
 refine⟨_,rfl,H,[.int p],λd=>d=.bl true,af.refl _,.int .nil,⟨p,rfl,by rw[cc0 p hp]⟩,λd v F' H1 A1 hd eK hf he h3 r nd fr=>?_⟩
 subst hd
 cases r
 refine⟨true,rfl,?_⟩
 refine jf ?_
 have cz:=eK.get _ _ hx
 refine⟨.int p,rfl,.ref x,rfl,x,t.aO,dx,_,rfl,cz,T.fB,T.pM,by decide,?_⟩
 generalize e2:upd H1 x (HO.ins t.aO dx (bB "prime" (.int p) []))=H2
 have dU:H2 x=some (.ins t.aO dx [(("prime":Str),.int p)]):=by rw[<-e2,bJ];rfl
 have s2:bL x H H2:=by rw[<-e2];exact(eK.x (x:=x)).trans (bL.upd (C:=x) (dx:=dx) cz rfl)
 have n2:∀p,H2 p=none->H p=none:=λp h=>eK.free (yQ cz (by rw[e2];exact h))
 obtain⟨ps,hP⟩:=tb t.iT (by simp)
 obtain⟨more,LY⟩:=s2.tb _ ps hP
 refine⟨.ref x,rfl,.int p,rfl,⟨_,LY⟩,λf k qn pm jq H3 nf zG hk kf hJ hl3=>?_⟩
 refine⟨f,_,_,.int p,zG,rfl,rfl,λoc u i7 hu nc pd=>?_⟩
 obtain⟨tm,rfl⟩:∃tm,u=og p tm:=hu
 have ff:=hJ.get _ _ dU
 refine⟨x,dx,f,t.aO,"prime",p,p,_,oc,_,k,gm (false,p),fl (false,p),fst (false,p),rfl,yR ff (λz=>by rw[z,nf]at dU;cases dU) nc,by decide,⟨T.fB,T.sF,T.LJ,T.zw,T.zu,T.LH,T.zx⟩,Rx pd nc hk kf,?_,hF,λH' p1 p2 sx cY LZ Ba ne zF sI=>?_⟩
 ·refine Rn (n:=3) ⟨rfl,rfl,rfl,by decide,rfl,rfl,by decide,by decide,rfl⟩ i7 (λu1 u2=>rfl) λq f A outer s H E hr=>?_
  refine⟨_,aB dD (aa (aB fu (bv 0) (bv 1))) (bv 2),λi j Qd h=>?_⟩
  obtain⟨a,b,rfl,rfl,ha,hb,hq⟩:=h
  nofun
  have hp0:2<=p:=hF.lo
  refine⟨ia.ok (.inr ⟨by omega,by omega⟩),by omega,?_⟩
  have e:((gm (false,p) a b:Nat):Int)=(a:Int)*b%p:=by
   show((a*b%p:Nat):Int)=_
   rw[oo,tN]
  rw[<-e];exact hq
 ·have gf:H' f=some (.ext (jE _ oc _ f)):=sx.get f _ (λz=>by rw[z]at nf;rw[nf]at dU;cases dU) (by rw[aZ pd.symm,bJ]) rfl
  have gc:=sx.get _ _ (eO ff nc).symm bJ rfl
  refine⟨gf,gc,?_⟩
  refine q _ (BO p p p1 p2 (fst (false,p))) [p1,p2] (s2.trans (Rw hJ nf nc sx)) ?_ rfl ?_ (by simp[ne]) (λa ha=>?_)
  ·rw[iA (λz=>by rw[z,gf]at cY;cases cY) (λz=>by rw[z,gc]at cY;cases cY)];exact cY
  ·exact .int (.int (.int (.own (LZ.rem gf gc) rfl (kP _) (.own (Ba.rem gf gc) rfl (kP _) (.int .nil)))))
  ·simp at ha
   rcases ha with rfl | rfl
   ·exact n2 _ (BQ hJ zF)
   ·exact n2 _ (BQ hJ sI)
abbrev aK0:bh:=λds Q=>∃(l g:List Int),ds=[.lst false (aG l),.lst false (aG g)]/\1<=l.length/\l.length<=63/\g.length=l.length+1/\(∀x∈g,0<=x)/\Q (.lst true (pj l g))
theorem aK1(T:Txt K mg t):aM P w K mg base aQ 1 t.Jd t.Je ["powers","logs"] (bj (aK0 )):=by
 refine bz T.TL Cr ?_ ?_
 ·intro ds Q h
  obtain⟨l,g,rfl,h1,h2,h3,h4,q⟩:=h<;>rfl
 ·intro aC A outer s H E hr
  refine⟨_,(aA (aX (i:=2) Cr.nd rfl (aV rfl) (aB cR (aa (cV (gB) (by rfl) T.gg fV (ag (bv 0) aw))) (aa aj)))
   (aA (aX (i:=3) Cr.nd rfl (ai rfl) (dO (cq (aB fu (aa (dO (cq aj cC))) (bv 2)) cC)))
   (aA (fY eN rfl (xO rfl T.gP (ag (aa aj) (ag (bv 2) aw))) (cE (i:=4) Cr.nd rfl (aV rfl))
    (aE (kO (i:=3) rfl (by first | exact ai rfl | exact aV (ai rfl)) (aB cR (aa (dO (cq aj cC))) (aa (dR [("powers",0),("many",2),("logs",1),("a",4)] ["b"] rfl (xO rfl T.gP (ag (aa aj) (ag (bv 2) aw))) (λ_ _ _ _=>(cE (i:=4) (show(["powers","many","logs","a","b"]:List Str).Nodup by decide +kernel) rfl (ai (lr1 rfl)) (by decide) (aV (lr1 rfl)))) (λ_ _ _ _=>dv) (λ_ _ _ _=>(dh (bA (bv 0) (aa (aB dD (aa (aB cR (bA (bv 2) (bv 3) (λ_ _=>rfl)) (bA (bv 2) (bv 4) (λ_ _=>rfl)))) (aa (aB dB (bv 1) (aa aj))))) (λ_ _=>rfl)))) rfl ⟨rfl,⟨rfl,⟨rfl,⟨rfl,trivial⟩⟩⟩⟩ (λ_=>by repeat' (first | exact trivial | refine⟨.inl rfl,?_⟩ | refine⟨.inr (.inl rfl),?_⟩ | refine⟨.inr (.inr ⟨_,rfl⟩),?_⟩)) (λ_=>⟨⟨rfl,.inl rfl,.inl rfl,_,rfl,rfl⟩,⟨⟨rfl,.inl rfl,.inl rfl,_,rfl,rfl⟩,⟨⟨rfl,.inl rfl,.inl rfl,_,rfl,rfl⟩,⟨⟨rfl,.inl rfl,.inl rfl,_,rfl,rfl⟩,trivial⟩⟩⟩⟩) rfl (by decide +kernel)))))))
   (aE (aW (em 3)))))),λds Q h=>?_⟩
  obtain⟨l,g,rfl,h1,h2,h3,h4,q⟩:=h
  refine az λU hU=>?_
  nofun
  refine hU _ ?_
  clear hU U
  refine az λU hU=>?_
  nofun
  refine⟨by decide,⟨by omega,by omega,by omega⟩,by decide,hU _ ?_⟩
  clear hU U
  refine az λU hU=>?_
  nofun
  refine⟨1,(l.length:Int)+1,⟨rfl,rfl⟩,⟨by decide,by decide,by omega,by omega⟩,?_⟩
  have en:((l.length:Int)+1-1).toNat=l.length:=by omega
  rw[en]
  refine fX.mk (λi δ=>∃o,δ=[some (.lst false (aG l)),some (.lst false (aG g)),some (.int ((l.length:Int)+1)),some (.lst true (vA l g (i+1))),o]) ⟨none,?_⟩ ?_ ?_
  ·rw[show((l.length:Int)+1).toNat=l.length+1 by omega];rfl
  ·rintro i d δ hd ⟨o,rfl⟩
   obtain⟨hi,rfl⟩:i<l.length/\d=.int (1+(i:Int)):=by
    rw[cj]at hd
    by_cases hi:i<l.length
    ·rw[jY hi]at hd
     exact⟨hi,(cS hd).symm⟩
    ·rw[gj (by simpa using hi)]at hd;cases hd
   nofun
   refine⟨⟨_,rfl⟩,by decide,1,(l.length:Int)+1,⟨rfl,rfl⟩,⟨by decide,by decide,by omega,by omega⟩,?_⟩
   rw[en]
   refine eH (aL l.length) (λ(k:Nat)=>D.int (1+(k:Int))) (λ(k:Nat)=>D.int (l.getD ((g.getD (i+1) 0+g.getD (k+1) 0)%(l.length:Int)).toNat 0)) (by rw[xN]) (λx y h=>by injection h with h;omega) (λk hk=>?_) (.inr λ_ _=>rfl) (by rw[bZ,sL];omega) ?_
   ·have Sh:=cX.mp hk
    nofun
    have e1:(1+(i:Int)).toNat=i+1:=by omega
    have e2:(1+(k:Int)).toNat=k+1:=by omega
    have e3:(l.length:Int)+1-1=l.length:=by omega
    have n0:=gR (g.getD (i+1) 0+g.getD (k+1) 0) (show(l.length:Int)≠0 by omega)
    have n1:=hV (g.getD (i+1) 0+g.getD (k+1) 0) (show(0:Int)<l.length by omega)
    refine⟨_,my (by omega) (by omega),_,my (by omega) (by omega),?_⟩
    rw[e1,e2,e3]
    exact⟨by omega,_,my n0 n1,rfl,rfl⟩
   ·nofun
    refine⟨⟨by simp;omega,by rw[mU,dr];intro x _;rfl⟩,by simp[vA];omega,_,?_,rfl⟩
    unfold vA
    rw[Eb (n:=i+1),fo]
    congr 1
    show _=[D.lst true (aG (ph l g (i+1)))]
    unfold ph
    rw[if_neg (by omega)]
    unfold aG
    rw[dn,cw];rfl
  ·rintro δ ⟨o,rfl⟩
   refine hU _ ?_
   simp only[ur,qQ,uu,uv,uw,dT,nv,oK,oM,dC,nu,qO,qM,qL,qN,uq,oS,u5,rB,u7,u9,ui,uj,uk,um,uo,qK,u0,rj,rk,ii,qS,uK,qV,uL,uM,uN,uP,uQ,uR,iI,iw,uS,uT,uU,uV,qY,oQ,uY,uZ,gN,va,u4,uz,uD,uE,uF,uG,uH,vb,vd,oO,mn,gx,jJ,jl,pZ,tu,wU,As,qP,kK,kb,rq,rz,nJ,vj,vk,vm,yw,vp,rK,vn,jL,yz,yx,yy,dn,jW,mW,tE,jx,Au,bf,oq,ot,jy,jz,wV,exists_eq_left',exists_eq_left,D.bl.injEq,D.int.injEq,D.lst.injEq,D.fz.injEq,D.str.injEq,D.tup.injEq,Av,and_true,true_and,dq,tK,mV,lK,xW,xX,xY,xZ,x6,x8,fW,kI,oU,yd,ye,yf,yg,yh,dM,mi,x9,ya,yb,yc,fJ,qH,Aw,Az,sX,lL,AA,AB,wC,yk,yl,ym,yn,yo,yp,yq,kQ,nI,rE,ki,rF,yi,vi,vg,rG,yj,jK,vh,if_true,tH,if_false,reduceIte,yr,decide_eq_true_eq,dW,kR,rL,yD,nK,yC,uA,vx,rX,vD,vo,rO,rP,rQ,vz,vG,y0,vL,su,dX,pE,km,yV,sj,vP,vQ,bt,bZ]
   exact q
abbrev aK2(t:eR):oV:=λds Q Ex=>∃a b:Nat,ds=[.int a,.int b]/\bl a<=1000000/\bl b<=1000000/\(b=0->Ex t.iE)/\(b≠0->∀q r:Nat,a=cl q b ^^^ r->bl r<bl b->Q (.tup [.int q,.int r]))
theorem UP(T:Txt K mg t):aM P w K mg base (nq P w) 1 t.Jf t.Jg ["a","b"] (yu (aK2 t )):=by
 refine QH T.Li vS ?_ ?_
 ·intro ds Q Ex h
  obtain⟨a,b,rfl,ha,hb,qx,q⟩:=h<;>rfl
 ·intro aC A outer s H E hr
  refine⟨_,(aA (cQ (b9 (gz (cJ hr)) (bv 1) (aa aj) (bM _)) (aE (QM T.UI rfl (by rfl) (ag (aa P0) aw))) cP)
   (aA (aX (i:=2) vS.nd rfl (ai rfl) aj)
   (aA (aX (i:=3) vS.nd rfl (ai rfl) (em 0))
   (aA (cJ0 (uB eN (b9 cN4 (aa (nH (bv 3))) (aa (nH (bv 1))) (bM _))
    (aA (aX (i:=4) vS.nd rfl (ai rfl) (aB dB (aa (nH (bv 3))) (aa (nH (bv 1)))))
    (aA (xM (i:=2) vS.nd rfl (ai rfl) (aa (aB uO (aa aj) (bv 4))) Bu)
    (aE (xM (i:=3) vS.nd rfl (ai rfl) (aa (aB uO (bv 1) (bv 4))) Bu))))))
   (aE (aW (nz (cq (em 2) (cq (em 3) cC))))))))),λds Q Ex h=>?_⟩
  obtain⟨a,b,rfl,ha,hb,qx,q⟩:=h
  refine az λU hU=>?_
  nofun
  split
  ·rename_i h0
   exact⟨by decide,qx (by omega)⟩
  ·rename_i h0
   have b0:b≠0:=by omega
   refine hU _ ?_
   clear hU U
   refine az λU hU=>?_
   nofun
   refine hU _ ?_
   clear hU U
   refine az λU hU=>?_
   nofun
   refine hU _ ?_
   clear hU U
   refine az λU hU=>?_
   nofun
   refine⟨λm δ=>∃(x r:Nat) (o sh:Option D),δ=[o,some (.int b),some (.int (x:Nat)),some (.int (r:Nat)),sh]/\a=cl x b ^^^ r/\bl r<=bl a/\m=bl r,
    ⟨bl a,0,a,_,none,rfl,by rw[oF,oj],bG _,rfl⟩,?_⟩
   rintro m δ ⟨x,r,o,sh,rfl,inv,hra,rfl⟩
   simp only[ur,qQ,uu,uv,uw,dT,nv,oK,oM,dC,nu,qO,qM,qL,qN,uq,oS,u5,rB,u7,u9,ui,uj,uk,um,uo,qK,u0,rj,rk,ii,qS,uK,qV,uL,uM,uN,uP,uQ,uR,iI,iw,uS,uT,uU,uV,qY,oQ,uY,uZ,gN,va,u4,uz,uD,uE,uF,uG,uH,vb,vd,oO,mn,gx,jJ,jl,pZ,tu,wU,As,qP,kK,kb,rq,rz,nJ,vj,vk,vm,yw,vp,rK,vn,jL,yz,yx,yy,dn,jW,mW,tE,jx,Au,bf,oq,ot,jy,jz,wV,exists_eq_left',exists_eq_left,D.bl.injEq,D.int.injEq,D.lst.injEq,D.fz.injEq,D.str.injEq,D.tup.injEq,Av,and_true,true_and,dq,tK,mV,lK,xW,xX,xY,xZ,x6,x8,fW,kI,oU,yd,ye,yf,yg,yh,dM,mi,x9,ya,yb,yc,fJ,qH,Aw,Az,sX,lL,AA,AB,wC,yk,yl,ym,yn,yo,yp,yq,kQ,nI,rE,ki,rF,yi,vi,vg,rG,yj,jK,vh,if_true,tH,if_false,reduceIte,yr,decide_eq_true_eq,dW,kR,rL,yD,nK,yC,uA,vx,rX,vD,vo,rO,rP,rQ,vz,vG,y0,vL,su,dX,pE,km,yV,sj,vP,vQ,i6]
   split
   ·rename_i hc
    have hle:bl b<=bl r:=by omega
    have less:=Pm b0 hle
    have es:(((bl r:Nat):Int)-((bl b:Nat):Int))=((bl r-bl b:Nat):Int):=by omega
    clear hU
    refine az λU hU=>?_
    nofun
    simp only[i6,es]
    refine hU _ ?_
    clear hU
    refine az λU hU=>?_
    nofun
    have o1:bl (1:Int).natAbs=1:=by decide
    refine⟨⟨by omega,by omega⟩,hU _ ?_⟩
    clear hU
    simp only[ur,qQ,uu,uv,uw,dT,nv,oK,oM,dC,nu,qO,qM,qL,qN,uq,oS,u5,rB,u7,u9,ui,uj,uk,um,uo,qK,u0,rj,rk,ii,qS,uK,qV,uL,uM,uN,uP,uQ,uR,iI,iw,uS,uT,uU,uV,qY,oQ,uY,uZ,gN,va,u4,uz,uD,uE,uF,uG,uH,vb,vd,oO,mn,gx,jJ,jl,pZ,tu,wU,As,qP,kK,kb,rq,rz,nJ,vj,vk,vm,yw,vp,rK,vn,jL,yz,yx,yy,dn,jW,mW,tE,jx,Au,bf,oq,ot,jy,jz,wV,exists_eq_left',exists_eq_left,D.bl.injEq,D.int.injEq,D.lst.injEq,D.fz.injEq,D.str.injEq,D.tup.injEq,Av,and_true,true_and,dq,tK,mV,lK,xW,xX,xY,xZ,x6,x8,fW,kI,oU,yd,ye,yf,yg,yh,dM,mi,x9,ya,yb,yc,fJ,qH,Aw,Az,sX,lL,AA,AB,wC,yk,yl,ym,yn,yo,yp,yq,kQ,nI,rE,ki,rF,yi,vi,vg,rG,yj,jK,vh,if_true,tH,if_false,reduceIte,yr,decide_eq_true_eq,dW,kR,rL,yD,nK,yC,uA,vx,rX,vD,vo,rO,rP,rQ,vz,vG,y0,vL,su,dX,pE,km,yV,sj,vP,vQ,i6]
    refine⟨⟨by omega,by rw[i6];omega⟩,_,less,x ^^^ 2 ^ (bl r-bl b),r ^^^ b <<< (bl r-bl b),o,_,⟨rfl,?_,?_,rfl⟩,ξ inv,by omega,rfl⟩
    ·rw[show(1:Int)=((1:Nat):Int) from rfl,t7,nk,Eg]
    ·rw[t7,nk]
   ·rename_i hc
    refine hU _ ?_
    nofun
    refine⟨by decide,q b0 x r inv (by omega)⟩
abbrev aK3:bh:=λds Q=>∃a:Nat,ds=[.int a]/\bl a<=60/\Q (.bl (al a))
theorem aK4(T:Txt K mg t):aM P w K mg base aQ 2 t.Jh t.Ji ["a"] (bj (aK3 )):=by
 refine bz T.TQ Hu ?_ ?_
 ·intro ds Q h
  obtain⟨a,rfl,ha,q⟩:=h<;>rfl
 ·intro aC A outer s H E hr
  refine⟨_,(aA (cQ (b9 qX (bv 0) (aa aj) (bM _)) (aE (aW iM)) cP)
   (aA (aX (i:=1) Hu.nd rfl (ai rfl) (aB qU (aa (aB dB (aa (nH (bv 0))) (aa aj))) (aa aj)))
   (aA (fY eN rfl (xO rfl T.gP (ag (aa aj) (ag (aa (aB uO (aa aj) (aa (aB cR (bv 1) (aa aj))))) aw))) (cE (i:=2) Hu.nd rfl (ai rfl))
    (aE (cQ (b9 (gz (cJ hr)) (bA (aa (bu (Gd ((UP T).mono (by decide))) hr rfl T.TM T.Li.kp T.TN Gb (ag (bv 0) (ag (bv 2) aw)))) (aa aj) (λ_ _=>rfl)) (aa aj) (bM _)) (aE (aW iM)) cP)))
   (aE (aW iM))))),λds Q h=>?_⟩
  obtain⟨a,rfl,ha,q⟩:=h
  refine az λU hU=>?_
  nofun
  split
  ·rename_i h2
   rw[Ξ (by omega)]at q;exact q
  ·rename_i h2
   have h2:2<=a:=by omega
   have hp:=ik (show a≠0 by omega)
   refine hU _ ?_
   clear hU U
   refine az λU hU=>?_
   nofun
   simp only[i6]
   refine⟨qT (by omega) (by omega),hU _ ?_⟩
   clear hU U
   have eh:((((bl a:Nat):Int)-1)/2+1)=(((bl a-1)/2+1:Nat):Int):=by omega
   have e1:(1:Int)*2 ^ ((((bl a:Nat):Int)-1)/2+1).toNat=((2 ^ ((bl a-1)/2+1):Nat):Int):=by
    rw[eh,show(1:Int)=((1:Nat):Int) from rfl,t7,Eg]
   have big:2 ^ ((bl a-1)/2+1)<=2 ^ 40:=wF (by decide) (by omega)
   have o1:bl (1:Int).natAbs=1:=by decide
   refine az λU hU=>?_
   nofun
   rw[e1]
   have ei4:((2 ^ ((bl a-1)/2+1):Nat):Int)<=2 ^ 40:=by exact_mod_cast big
   have nn:(0:Int)<=((2 ^ ((bl a-1)/2+1):Nat):Int):=Nz _
   refine⟨⟨by omega,by omega⟩,_,_,⟨rfl,rfl⟩,⟨by decide,by decide,by omega,by omega⟩,?_⟩
   have en:(((2 ^ ((bl a-1)/2+1):Nat):Int)-2).toNat=2 ^ ((bl a-1)/2+1)-2:=by omega
   rw[en]
   refine fX.mk (λi δ=>(∃o1 o2,δ=[some (.int a),o1,o2])/\∀j,j<i->md a (2+j)≠0) ⟨⟨_,_,rfl⟩,λj hj=>absurd hj (by omega)⟩ ?_ ?_
   ·rintro i d δ hd ⟨⟨o1,o2,rfl⟩,inv⟩
    obtain⟨hi,rfl⟩:i<2 ^ ((bl a-1)/2+1)-2/\d=.int (2+(i:Int)):=by
     rw[cj]at hd
     by_cases hi:i<2 ^ ((bl a-1)/2+1)-2
     ·rw[jY hi]at hd
      exact⟨hi,(cS hd).symm⟩
     ·rw[gj (by simpa using hi)]at hd;cases hd
    have bi:bl (2+i)<=60:=by
     have:=(Ω h2 (show 2+i<2 ^ ((bl a-1)/2+1) by omega)).2
     omega
    nofun
    refine⟨a,2+i,by rw[show((2+i:Nat):Int)=2+(i:Int) by omega],by omega,by omega,by omega,λ_ x r e l=>?_⟩
    have em:md a (2+i)=r:=xy e l
    refine⟨.int r,rfl,rfl,?_⟩
    rw[jK]
    split
    ·rename_i hz
     have r0:r=0:=by have:=of_decide_eq_true hz;omega
     rw[Ψ hi (em.trans r0)]at q
     exact q
    ·rename_i hz
     refine⟨⟨_,_,rfl,rfl⟩,λj hj=>?_⟩
     by_cases ej:j=i
     ·rw[ej,em]
      intro r0
      exact hz (decide_eq_true (by omega))
     ·exact inv j (by omega)
   ·rintro δ ⟨⟨o1,o2,rfl⟩,inv⟩
    rw[bt,bZ]at inv
    rw[Φ h2 inv]at q
    refine hU _ ?_
    nofun
    exact q
abbrev aC0:bh:=λds Q=>∃a:Int,ds=[.int a]/\Q (.bl (decide (4<=a)&&decide (a<=127)&&al a.toNat))
theorem aC1(T:Txt K mg t):aM P w K mg base aQ 3 t.Jj t.Jk ["bits"] (bj (aC0 )):=by
 refine bz T.TR aA2 ?_ ?_
 ·intro ds Q h
  obtain⟨a,rfl,q⟩:=h<;>rfl
 ·intro aC A outer s H E hr
  refine⟨_,(aE (aW (oN (aa (q9 ke ke (aa aj) (bv 0) (aa aj))) (tS (bu ((aK4 T).mono (by decide)) hr rfl T.dn2 T.TQ.kp T.dn3 aU (ag (bv 0) aw)))))),λds Q h=>?_⟩
  obtain⟨a,rfl,q⟩:=h
  nofun
  split
  ·rename_i h1
   split
   ·rename_i h2
    refine⟨a.toNat,by rw[wO (by omega)],?_,?_⟩
    ·have:bl a.toNat<=bl 127:=E2 (by omega)
     exact fk this (by decide)
    ·have e:(decide (4<=a)&&decide (a<=127)&&al a.toNat)=al a.toNat:=by simp[h1,h2]
     rw[e]at q;exact q
   ·rename_i h2
    have e:(decide (4<=a)&&decide (a<=127)&&al a.toNat)=false:=by simp[h2]
    rw[e]at q;exact q
  ·rename_i h1
   have e:(decide (4<=a)&&decide (a<=127)&&al a.toNat)=false:=by simp[h1]
   rw[e]at q;exact q
abbrev aO6:bh:=λds Q=>∃a b:Nat,ds=[.int a,.int b]/\bl a<=1000/\bl b<=1000/\Q (.int (cl a b:Nat))
theorem aO7(T:Txt K mg t):aM P w K mg base aQ 1 t.Jl t.Jm ["a","b"] (bj (aO6 )):=by
 refine bz T.TU Ct ?_ ?_
 ·intro ds Q h
  obtain⟨a,b,rfl,ha,hb,q⟩:=h<;>rfl
 ·intro aC A outer s H E hr
  refine⟨_,(aA (aX (i:=2) Ct.nd rfl (ai rfl) aj)
   (aA (fY eN rfl (jH rfl T.gP (ag (aa (nH (bv 1))) aw)) (cE (i:=3) Ct.nd rfl (ai rfl))
    (aE (cQ (b9 (gz (cJ hr)) (aa (aB Qg (aa (aB Qf (bv 1) (bv 3))) (aa aj))) (aa aj) (bM _)) (aE (xM (i:=2) Ct.nd rfl (ai rfl) (aa (aB uO (bv 0) (bv 3))) Bu)) cP)))
   (aE (aW (em 2))))),λds Q h=>?_⟩
  obtain⟨a,b,rfl,ha,hb,q⟩:=h
  refine az λU hU=>?_
  nofun
  refine hU _ ?_
  clear hU U
  refine az λU hU=>?_
  nofun
  simp only[i6]
  refine⟨⟨by omega,by omega⟩,yt (λi δ=>∃o,δ=[some (.int a),some (.int b),some (.int (Mf.P a b i:Nat)),o]) ⟨none,rfl⟩ ?_ ?_⟩
  ·rintro i δ hi ⟨o,rfl⟩
   nofun
   refine⟨by omega,?_⟩
   have Dn:(oh ((b:Int)/2 ^ ((i:Int)).toNat) 1=1)↔b.testBit i=true:=by
    have h:=ck6 b i
    rw[NT]at h
    rw[<-h,dI]
   split
   ·rename_i hc
    have h:=cc4 (a:=a) (Dn.mp hc)
    rw[NT]at h
    exact⟨⟨by omega,by rw[i6];omega⟩,_,h,rfl⟩
   ·rename_i hc
    exact⟨_,by rw[bS6 (λz=>hc (Dn.mpr z))],rfl⟩
  ·rintro δ ⟨o,rfl⟩
   refine hU _ ?_
   nofun
   exact q
abbrev aR7:List D->List Str->List D->Prop:=λds ns xs=>∃p:Nat,ds=[.int p]/\p∈gK/\ns=iB "bits"++[("products":Str)]/\xs=[.int p,.int (ae (true,p)),.int ((bl (ae (true,p)):Nat)-1),.lst true (aG (fl (true,p))),.lst true (aG (eI (fl (true,p)))),.int (fst (true,p)),.lst true (pj (fl (true,p)) (eI (fl (true,p))))]
theorem aH9(T:Txt K mg t)(hB:Bm mg base):aM P w K mg base aQ 8 t.Jn t.Cz ["self","bits"] (GB [t.iT,t.iU] t.aH aR7):=by
 refine Rp T.aJ6 T.aH7 Ta (λvs H Q E h=>?_) λA outer s H vs Q E hr h=>?_
 ·obtain⟨x,dx,bR,ds,ns,xs,rfl,_,_,r,⟨p,rfl,_⟩,_⟩:=h
  have:=r.length
  simp at this
  simp[this]
 obtain⟨x,dx,bR,ds,ns,xs,rfl,tb,hx,r,⟨p,rfl,hp,rfl,rfl⟩,q⟩:=h
 obtain rfl:bR=[.int p]:=by
  cases r with
  | int r=>cases r;rfl
 have hm:(true,p)∈aF:=eV _ (D9 hp)
 have hF:=di hm
 refine⟨_,eP (qm (AK (AJ (je ((aC1 T).mono (by decide)) hr rfl T.dn4 T.TR.kp T.dn5 .nil aU (bV (pv 1) eX)))) (i8 qo) qk)
  (eP (gW (pv 0) (pv 1) rfl)
  (eP (Eu (i:=2) Ta.nd rfl (ai rfl) (xm PB oA (xm EF (E3 (pv 1)) oA)))
  (eP (ql (Ri (E:=E0) (i:=1) T.UD ((UN T).mono (by decide)) hr T.TJ rfl T.Dk rfl rfl rfl rfl (bV (pv 0) (bV (pv 2) (bV (Q6 rfl rfl T.aH8 hB) eX)))))
  (i8 (gW (pv 0) (je ((aK1 T).mono (by decide)) hr rfl T.dn0 T.TL.kp T.dn1 .nil aU (bV (qw (pv 0) rfl) (bV (qw (pv 0) rfl) eX))) rfl))))),?_⟩
 refine⟨_,rfl,H,[.int p],λd=>d=.bl true,af.refl _,.int .nil,⟨p,rfl,by rw[cl5 p hp]⟩,λd v F' H1 A1 hd eK hf he h3 r nd fr=>?_⟩
 subst hd
 cases r
 refine⟨true,rfl,?_⟩
 refine jf ?_
 have cz:=eK.get _ _ hx
 refine⟨.int p,rfl,.ref x,rfl,x,t.aH,dx,_,rfl,cz,T.fc,T.LA,by decide,?_⟩
 generalize e2:upd H1 x (HO.ins t.aH dx (bB "bits" (.int p) []))=H2
 have dU:H2 x=some (.ins t.aH dx [(("bits":Str),.int p)]):=by rw[<-e2,bJ];rfl
 have s2:bL x H H2:=by rw[<-e2];exact(eK.x (x:=x)).trans (bL.upd (C:=x) (dx:=dx) cz rfl)
 have n2:∀p,H2 p=none->H p=none:=λp h=>eK.free (yQ cz (by rw[e2];exact h))
 obtain⟨ps,hP⟩:=tb t.iU (by simp)
 obtain⟨more,LY⟩:=s2.tb _ ps hP
 have bp:bl p<=7:=RB p hp
 have Dq:1<=bl p:=RC p hp
 refine⟨.int p,rfl,rfl,p,rfl,rfl,_,_,rfl,rfl,_,_,rfl,rfl,?_,?_⟩
 ·have o1:bl (1:Int).natAbs=1:=by decide
  rw[i6]
  exact⟨by omega,by omega⟩
 have em:(1:Int)*2 ^ (((bl ((p:Int)).natAbs:Nat):Int)-1).toNat=((ae (true,p):Nat):Int):=by
  rw[i6,show(((bl p:Nat):Int)-1)=((bl p-1:Nat):Int) by omega,show(1:Int)=((1:Nat):Int) from rfl,t7,Eg];rfl
 show AN 2 (.int ((1:Int)*2 ^ (((bl ((p:Int)).natAbs:Nat):Int)-1).toNat)) _ _ _
 rw[em]
 refine⟨.ref x,rfl,.int (ae (true,p)),rfl,⟨_,LY⟩,λf k qn pm jq H3 nf zG hk kf hJ hl3=>?_⟩
 refine⟨f,_,_,.int p,zG,rfl,rfl,λoc u i7 hu nc pd=>?_⟩
 obtain⟨tm,rfl⟩:∃tm,u=og p tm:=hu
 have ff:=hJ.get _ _ dU
 refine⟨x,dx,f,t.aH,"bits",p,ae (true,p),_,oc,_,k,gm (true,p),fl (true,p),fst (true,p),rfl,yR ff (λz=>by rw[z,nf]at dU;cases dU) nc,by decide,⟨T.fc,T.sD,T.LC,T.vY,T.vX,T.LB,T.zr⟩,Rx pd nc hk kf,?_,hF,λH' p1 p2 sx cY LZ Ba ne zF sI=>?_⟩
 ·refine Rn (n:=3) ⟨rfl,rfl,rfl,by decide,rfl,rfl,by decide,by decide,rfl⟩ i7 (λu1 u2=>rfl) λq f A outer s H E hr=>?_
  refine⟨_,dh (bA (aa (bu (Gd ((UP T).mono (by decide))) hr rfl T.TM T.Li.kp T.TN Gb (ag (aa (bu ((aO7 T).mono (by decide)) hr rfl T.dn6 T.TU.kp T.dn7 aU (ag (bv 0) (ag (bv 1) aw)))) (ag (bv 2) aw)))) (aa aj) (λ_ _=>rfl)),λi j Qd h=>?_⟩
  obtain⟨a,b,rfl,rfl,ha,hb,hq⟩:=h
  nofun
  have b1:bl a<=6:=by
   have:bl a<=bl 63:=E2 (by omega)
   exact fk this (by decide)
  have b2:bl b<=6:=by
   have:bl b<=bl 63:=E2 (by omega)
   exact fk this (by decide)
  have p0:p≠0:=by
   intro z
   rw[z]at Dq
   exact absurd Dq (by decide)
  refine⟨a,b,rfl,by omega,by omega,cl a b,p,rfl,fk (b99 a b) (by omega),by omega,λz=>p0 z,λ_ x r e l=>⟨by simp[D.pl],.int r,rfl,rfl,r,rfl,?_⟩⟩
  have er:gm (true,p) a b=r:=xy e l
  rw[<-er];exact hq
 ·have gf:H' f=some (.ext (jE _ oc _ f)):=sx.get f _ (λz=>by rw[z]at nf;rw[nf]at dU;cases dU) (by rw[aZ pd.symm,bJ]) rfl
  have gc:=sx.get _ _ (eO ff nc).symm bJ rfl
  refine⟨gf,gc,?_⟩
  have s4:=s2.trans (Rw hJ nf nc sx)
  have f1:=n2 _ (BQ hJ zF)
  have f2:=n2 _ (BQ hJ sI)
  have l1:=LZ.rem gf gc
  have l2:=Ba.rem gf gc
  have jv:rem H' f (s.heap.objs.size+1) x=some (.ins t.aH dx ((iB "bits").zip (BO p (ae (true,p)) p1 p2 (fst (true,p))))):=by
   rw[iA (λz=>by rw[z,gf]at cY;cases cY) (λz=>by rw[z,gc]at cY;cases cY)];exact cY
  generalize rem H' f (s.heap.objs.size+1)=H4 at s4 l1 l2 jv
  refine⟨.ref x,rfl,x,t.aH,dx,_,.ref p1,rfl,jv,T.fc,T.vY,rfl,.ref x,rfl,x,t.aH,dx,_,.ref p2,rfl,jv,T.fc,T.vX,rfl,H4,[.lst false (aG (fl (true,p))),.lst false (aG (eI (fl (true,p))))],λd=>d=.lst true (pj (fl (true,p)) (eI (fl (true,p)))),af.refl _,.shr l1 (kP _) (.shr l2 (kP _) .nil),
   ⟨_,_,rfl,by have:=hF.len;have:=hF.lo;omega,by have:=hF.len;have:=hF.hi;omega,yP _ _,RA _ _,rfl⟩,λd v F' H5 A' hd ky hf he h3 r nd fr=>?_⟩
  subst hd
  obtain⟨p3,rfl⟩:∃p3,v=.ref p3:=by cases r;exact⟨_,rfl⟩
  have iV:=ky.get _ _ jv
  have nA:∀{a ws},H4 a=some (.lst ws)->a ∉ A':=λ{a ws} e z=>by rw[fr a z]at e;cases e
  refine⟨.ref x,rfl,x,t.aH,dx,_,rfl,iV,T.fc,T.sE,mR (bG 6) (by decide),?_⟩
  refine q _ (BO p (ae (true,p)) p1 p2 (fst (true,p))++[.ref p3]) (p1::p2::A') ((s4.trans (ky.x (x:=x))).trans (bL.upd (C:=x) (dx:=dx) iV rfl)) (by rw[bJ];rfl) rfl ?_ ?_ ?_
  ·exact .int (.int (.int (.own ((l1.same ky).upd iV (λws z=>by cases z)) rfl (kP _) (.own ((l2.same ky).upd iV (λws z=>by cases z)) rfl (kP _) (.int ((r.qI (by simp[fJ,Rz]) (af.of λb o e=>by cases e)).rR iV (by simp[fJ,Rz])))))))
  ·exact jV.mpr ⟨by simp[ne];exact nA l1,jV.mpr ⟨nA l2,nd⟩⟩
  ·intro a ha
   rcases cu.mp ha with rfl | ha
   ·exact f1
   ·rcases cu.mp ha with rfl | ha
    ·exact f2
    ·exact s4.free (by rw[jv];simp) (fr a ha)
abbrev aO8(cb cp:Addr):bh:=λds Q=>∃m:Bool × Nat,ds=[dk m]/\m∈aF/\Q (fD cb cp m)
theorem aO9(T:Txt K mg t)(hB:Bm mg base):aM P w K mg base aQ 10 t.Jo t.Jp ["_law_told_here"] (vt [t.iT,t.iU] (bj (aO8 t.aH t.aO))):=by
 refine Gx T.TV aN6 ?_ ?_
 ·intro ds Q h
  obtain⟨m,rfl,hm,q⟩:=h<;>rfl
 ·intro aC A outer s H E hT hr
  refine⟨_,(aA (cQ (gZ (bA (bv 0) (aa aj) (λ_ _=>rfl))) (aE (aW (Rq hT T.Lz ((aH9 T hB).mono (by decide)) hr rfl T.LS T.aJ7 aU (ag (bA (bv 0) (aa aj) (λ_ _=>rfl)) aw)))) cP)
   (aE (aW (Rq hT T.LG ((aB9 T hB).mono (by decide)) hr rfl T.LV T.aE6 aU (ag (bA (bv 0) (aa aj) (λ_ _=>rfl)) aw))))),λds Q h=>?_⟩
  obtain⟨m,rfl,hm,q⟩:=h
  unfold dk at *
  refine az λU hU=>?_
  nofun
  obtain⟨b,n⟩:=m
  cases b with
  | true =>
   refine⟨_,rfl,true,rfl,?_⟩
   rw[if_pos rfl]
   refine⟨_,rfl,_,_,⟨n,rfl,vC hm,rfl,rfl⟩,?_⟩
   rw[cD3];exact q
  | false =>
   refine⟨_,rfl,false,rfl,?_⟩
   rw[if_neg (by decide)]
   refine hU _ ?_
   nofun
   refine⟨_,rfl,_,_,⟨n,rfl,bM2 hm,rfl,rfl⟩,?_⟩
   rw[b85];exact q
abbrev aR8:bh:=λds Q=>∃(ns:List Int) (k:Int),ds=[.fz (aG ns),.int k]/\0<=k/\Q (.int (ns.getD k.toNat 0))
theorem lu(T:Txt K mg t):aM P w K mg base aQ 1 t.Jq t.Jr ["_law_script","_law_k"] (bj (aR8 )):=by
 refine bz T.ku aQ3 ?_ ?_
 ·intro ds Q h
  obtain⟨ns,k,rfl,hk,q⟩:=h<;>rfl
 ·intro aC A outer s H E hr
  refine⟨_,(aA (cQ (b9 qX (bv 1) (aa (cV (gB) (by rfl) T.gg fV (ag (bv 0) aw))) (bM _)) (aE (aW (dh (bA (bv 0) (bv 1) (λ_ _=>rfl))))) cP)
   (aE (aW aj))),λds Q h=>?_⟩
  obtain⟨ns,k,rfl,hk,q⟩:=h
  refine az λU hU=>?_
  nofun
  split
  ·rename_i h
   exact⟨_,my hk h,rfl,q⟩
  ·rename_i h
   refine hU _ ?_
   nofun
   rw[aT,gj (by omega)]at q
   exact q
def ly(c k:Int):Int:=(c%999983+7*k+1)*(k*k+48271)%1000003
abbrev aP0:bh:=λds Q=>∃(c k:Int),ds=[.int c,.int k]/\0<=k/\k<=100000/\Q (.int (ly c k))
theorem L4(T:Txt K mg t):aM P w K mg base aQ 1 t.Js t.Jt ["_law_cell_here","_law_k"] (bj (aP0 )):=by
 refine bz T.CF aN7 ?_ ?_
 ·intro ds Q h
  obtain⟨c,k,rfl,k0,k1,q⟩:=h<;>rfl
 ·intro aC A outer s H E hr
  refine⟨_,(aE (aW (aB dD (aa (aB fu (aa (aB cR (aa (aB cR (aa (aB dD (bv 0) (aa aj))) (aa (aB fu (aa aj) (bv 1))))) (aa aj))) (aa (aB cR (aa (aB fu (bv 1) (bv 1))) (aa aj))))) (aa aj)))),λds Q h=>?_⟩
  obtain⟨c,k,rfl,k0,k1,q⟩:=h
  nofun
  have c0:=gR c (show(999983:Int)≠0 by decide)
  have c1:=hV c (show(0:Int)<999983 by decide)
  exact⟨by decide,ia.ok (.inl ⟨by decide,by decide⟩),ia.ok (.inl ⟨by omega,by omega⟩),ia.ok (.inl ⟨by omega,by omega⟩),by decide,q⟩
abbrev aC2:bh:=λds Q=>∃(M n e:Nat) (c:Int) (b:Bool),ds=[.int M,.int n,.int e,.int c,.bl b]/\1<=M/\M<=64/\n<=16/\e<=16/\∀T:List (List Nat),T.length=e->RT M n T->Q (.lst true (ax true T))
theorem aC3(T:Txt K mg t):aM P w K mg base aQ 2 t.Ju t.Jv ["_law_many_here","_law_length","_law_extra","_law_cell_here","_law_sparse"] (bj (aC2 )):=by
 refine bz T.TX y9 ?_ ?_
 ·intro ds Q h
  obtain⟨M,n,e,c,b,rfl,hM,dB9,hn,he,q⟩:=h<;>rfl
 ·intro aC A outer s H E hr
  refine⟨_,(aA (aX (i:=5) y9.nd rfl (ai rfl) (dO cC))
   (aA (fY eN rfl (jH rfl T.gP (ag (bv 2) aw)) (cE (i:=6) y9.nd rfl (aV rfl))
    (aA (B7 (i:=7) y9.nd rfl (ai rfl) [("_law_many_here",0),("_law_cell_here",3),("_law_i",6)] ["_law_at"] rfl (jH rfl T.gP (ag (bv 1) aw)) (λ_ _ _ _=>(cE (i:=3) (show(["_law_many_here","_law_cell_here","_law_i","_law_at"]:List Str).Nodup by decide +kernel) rfl (ai (lr1 rfl)) (by decide) (aV (lr1 rfl)))) (λ_ _ _ _=>dv) (λ_ _ _ _=>(aB dD (aa (aB qU (aa (bu ((L4 T).mono (by decide)) hr rfl T.Lj T.CF.kp T.Lk aU (ag (bv 1) (ag (aa (aB cR (aa (aB fu (bv 2) (aa aj))) (bv 3))) aw)))) (aa aj))) (bv 0))) rfl ⟨rfl,⟨rfl,⟨rfl,trivial⟩⟩⟩ (λ_=>by repeat' (first | exact trivial | refine⟨.inl rfl,?_⟩ | refine⟨.inr (.inl rfl),?_⟩ | refine⟨.inr (.inr ⟨_,rfl⟩),?_⟩)) (λ_=>⟨⟨rfl,.inl rfl,.inl rfl,_,rfl,rfl⟩,⟨⟨rfl,.inl rfl,.inl rfl,_,rfl,rfl⟩,⟨⟨rfl,.inl rfl,.inl rfl,_,rfl,rfl⟩,trivial⟩⟩⟩) rfl (by decide +kernel))
    (aA (cQ (gZ (bv 4)) (aE (B7 (i:=7) y9.nd rfl (ai rfl) [("_law_cell_here",3),("_law_i",6)] ["_law_at","_law_x"] rfl (rJ rfl T.sG (ag (bv 7) aw)) (λ_ _ _ _=>(iz (i1:=2) (i2:=3) rfl (show(["_law_cell_here","_law_i","_law_at","_law_x"]:List Str).Nodup by decide +kernel) rfl (ai (lr1 rfl)) rfl (ai (lr1 rfl)) (by decide) (by decide) (aV (lr1 rfl)) (aV (lr1 rfl)))) (λ_ _ _ _=>dv) (λ_ _ _ _=>(aB fu (bv 3) (aa (aB dD (aa (aB qU (aa (bu ((L4 T).mono (by decide)) hr rfl T.Lj T.CF.kp T.Lk aU (ag (aa (aB cR (bv 0) (aa aj))) (ag (aa (aB cR (aa (aB fu (bv 1) (aa aj))) (bv 2))) aw)))) (aa aj))) (aa aj))))) rfl ⟨rfl,⟨rfl,trivial⟩⟩ (λ_=>by repeat' (first | exact trivial | refine⟨.inl rfl,?_⟩ | refine⟨.inr (.inl rfl),?_⟩ | refine⟨.inr (.inr ⟨_,rfl⟩),?_⟩)) (λ_=>⟨⟨rfl,.inl rfl,.inl rfl,_,rfl,rfl⟩,⟨⟨rfl,.inl rfl,.inl rfl,_,rfl,rfl⟩,trivial⟩⟩) rfl (by decide +kernel))) cP)
    (aE (kO (i:=5) rfl (by first | exact ai rfl | exact aV (ai rfl)) (em 7))))))
   (aE (aW (em 5))))),λds Q h=>?_⟩
  obtain⟨M,n,e,c,b,rfl,hM,dB9,hn,he,q⟩:=h
  have L5:∀z:Int,z%(M:Int)=(((z%(M:Int)).toNat:Nat):Int):=λz=>by
   have n0:=gR z (show(M:Int)≠0 by omega)
   omega
  have L6:∀z:Int,(z%(M:Int)).toNat<M:=λz=>by
   have n1:=hV z (show(0:Int)<(M:Int) by omega)
   omega
  refine az λU hU=>?_
  nofun
  refine⟨by decide,hU _ ?_⟩
  clear hU U
  refine az λU hU=>?_
  nofun
  refine⟨⟨by omega,by omega⟩,yt (λi δ=>∃(G:List (List Nat)) (o1 o2:Option D),δ=[some (.int M),some (.int n),some (.int e),some (.int c),some (.bl b),some (.lst true (ax true G)),o1,o2]/\G.length=i/\RT M n G) ⟨[],_,_,rfl,rfl,λ_ h=>nomatch h⟩ ?_ ?_⟩
  ·rintro i δ hi ⟨G,o1,o2,rfl,hG,hR⟩
   simp only[gN,jz,jy]
   clear hU
   refine az λU hU=>?_
   nofun
   refine⟨⟨by omega,by omega⟩,eH (aL n) (λ(i:Nat)=>D.int (i:Int)) (λk=>D.int (((ly c ((i:Int)*16+(k:Int))/5%(M:Int)).toNat:Nat):Int)) (pz _ rfl) iO (λk hk=>?_) (.inr λ_ _=>rfl) (by rw[bZ,sL];omega) ?_⟩
   ·have hk:=cX.mp hk
    nofun
    exact⟨ia.ok (.inl ⟨by omega,by omega⟩),_,_,rfl,by omega,by omega,qT (by decide) (by decide),by omega,L5 _⟩
   obtain⟨row,er,sJ,sM⟩:∃wd:List Nat,((aL n).map λ(k:Nat)=>D.int (((ly c ((i:Int)*16+(k:Int))/5%(M:Int)).toNat:Nat):Int))=ak wd/\AllLt M wd/\wd.length=n:=by
    refine⟨(aL n).map λ(k:Nat)=>(ly c ((i:Int)*16+(k:Int))/5%(M:Int)).toNat,by rw[cA,cw];rfl,λa ha=>?_,by simp⟩
    obtain⟨k,_,rfl⟩:=bD.mp ha
    exact L6 _
   rw[er]
   refine hU _ ?_
   clear hU
   refine az λU hU=>?_
   nofun
   have fin:∀row:List Nat,AllLt M row->row.length=n->U [some (D.int M),some (D.int n),some (D.int e),some (D.int c),some (D.bl b),some (D.lst true (ax true G)),some (D.int i),some (D.lst true (ak row))]:=by
    clear er sJ sM row
    intro row sJ sM
    refine hU _ ?_
    nofun
    refine⟨⟨_,rfl⟩,by omega,G++[row],_,_,⟨sk true G [row],rfl,rfl⟩,by rw[dG,hG];rfl,hR.app λx hx=>?_⟩
    rw[eW]at hx
    rw[hx];exact⟨sM,sJ⟩
   clear hU
   cases b with
   | false=>exact fin row sJ sM
   | true =>
    rw[if_pos rfl]
    have e2:∀z:Int,z%2=0\/z%2=1:=λz=>by omega
    refine GH (aL row.length) (λ(k:Nat)=>D.tup [.int (k:Int),.int ((row.getD k 0:Nat):Int)]) (λk=>D.int ((row.getD k 0*(ly (c+7) ((i:Int)*16+(k:Int))/3%2).toNat:Nat):Int)) (GQ row) (λa b h=>by injection h with h;simp at h;omega) (λk hk=>?_) GI (.inr λ_ _=>rfl) (by rw[bZ,sL];omega) ?_
    ·have hk:=cX.mp hk
     nofun
     refine⟨ia.ok (.inl ⟨by omega,by omega⟩),_,_,rfl,by omega,by omega,qT (by decide) (by decide),by decide,ia.ok (.inr ⟨by omega,by omega⟩),?_⟩
     rw[tN,wO (by omega)]
    dsimp only[jz,jy]
    rw[show((aL row.length).map λ(k:Nat)=>D.int ((row.getD k 0*(ly (c+7) ((i:Int)*16+(k:Int))/3%2).toNat:Nat):Int))=ak ((aL row.length).map λk=>row.getD k 0*(ly (c+7) ((i:Int)*16+(k:Int))/3%2).toNat) by rw[cA,cw];rfl]
    refine fin _ (λa ha=>?_) (by rw[bt,bZ,sM])
    obtain⟨k,_,rfl⟩:=bD.mp ha
    have h1:=sJ.getD (show 0<M by omega) k
    rcases e2 (ly (c+7) ((i:Int)*16+(k:Int))/3)with h | h
    ·rw[h];show row.getD k 0*0<M;omega
    ·rw[h];show row.getD k 0*1<M;omega
  ·rintro δ ⟨G,o1,o2,rfl,hG,hR⟩
   refine hU _ ?_
   nofun
   exact q G hG hR
abbrev aU2:bh:=λds Q=>∃T:List (List Nat),ds=[.lst false (ax false T)]/\T.length<=1000/\(∀r∈T,r.length<=1000)/\Q (.int (au T:Nat))
theorem Dr(T:Txt K mg t):aM P w K mg base aQ 1 t.Jw t.Jx ["table"] (bj (aU2 )):=by
 refine bz T.zk aT5 ?_ ?_
 ·intro ds Q h
  obtain⟨G,rfl,hG,hr,q⟩:=h<;>rfl
 ·intro aC A outer s H E hr
  refine⟨_,(aE (aW (cN9 (b9 (gJ (cJ hr)) (bv 0) (aa (dO cC)) (bM _)) (cV (gB) (by rfl) T.gg fV (ag (bA (bv 0) (aa aj) (λ_ _=>rfl)) aw)) aj))),λds Q h=>?_⟩
  obtain⟨G,rfl,hG,hr,q⟩:=h
  nofun
  refine⟨by decide,⟨vI 4 _ _ _,rfl⟩,?_⟩
  rw[show(D.lst true ([]:List D))=D.lst true (ax true []) from rfl,R8]
  cases G with
  | nil=>rw[if_neg (by simp)];exact q
  | cons r G =>
   rw[if_pos (by simp)]
   refine⟨.lst false (ak r),sq false (T:=r::G) (i:=0) (ou _),?_⟩
   show Q (D.int ((ak r).length:Nat))
   rw[dW];exact q
abbrev aP1:bh:=λds Q=>∃(T:List (List Nat)) (j:Nat),ds=[.lst false (ax false T),.int j]/\T.length<=1000/\(∀r∈T,j<r.length)/\Q (match jP T j with | some i=>.int (i:Nat) | none=>.av)
theorem aP2(T:Txt K mg t):aM P w K mg base aQ 1 t.Jy t.Jz ["rows","place"] (bj (aP1 )):=by
 refine bz T.TY Tc ?_ ?_
 ·intro ds Q h
  obtain⟨G,j,rfl,hG,hr,q⟩:=h<;>rfl
 ·intro aC A outer s H E hr
  refine⟨_,(aA (fY eN rfl (rJ rfl T.sG (ag (bv 0) aw)) (iz (i1:=2) (i2:=3) rfl Tc.nd rfl (ai rfl) rfl (ai rfl))
    (aE (cQ (b9 (gJ (cJ hr)) (bA (bv 3) (bv 1) (λ_ _=>rfl)) (aa aj) (bM _)) (aE (aW (em 2))) cP)))
   (aE (aW Fv))),λds Q h=>?_⟩
  obtain⟨G,j,rfl,hG,hr,q⟩:=h
  refine az λU hU=>?_
  nofun
  refine fX.mk (λi δ=>∃o1 o2,δ=[some (D.lst false (ax false G)),some (D.int j),o1,o2]/\∀k,k<i->(G.getD k []).getD j 0=0) ⟨_,_,rfl,λk hk=>absurd hk (Nat.not_lt_zero k)⟩ ?_ ?_
  ·rintro i d δ hd ⟨o1,o2,rfl,hz⟩
   obtain⟨hi,rfl⟩:=R9 hd
   have hj:=hr _ (dz hi)
   have eg:G.getD i []=G[i]:=by rw[aT,aP hi];rfl
   nofun
   refine⟨.int (G[i].getD j 0:Nat),by rw[nR (by omega) (by omega),gQ],rfl,?_⟩
   rw[jK]
   by_cases h0:G[i].getD j 0=0
   ·rw[if_neg (by rw[h0];decide)]
    refine⟨_,_,⟨rfl,rfl⟩,λk hk=>?_⟩
    by_cases e:k=i
    ·rw[e,eg];exact h0
    ·exact hz k (by omega)
   ·rw[if_pos (by rw[decide_eq_false (by omega)];rfl)]
    have ef:jP G j=some i:=by
     unfold jP
     rw[Xh]
     refine⟨hi,by simpa using h0,λk hk=>?_⟩
     have:=hz k hk
     rw[aT (l:=G),aP (by omega)]at this
     simpa using this
    rw[ef]at q
    exact q
  ·rintro δ ⟨o1,o2,rfl,hz⟩
   refine hU _ ?_
   nofun
   have ef:jP G j=none:=by
    unfold jP
    rw[Xi]
    intro r bq
    obtain⟨i,hi,rfl⟩:=kB bq
    have:=hz i (by rw[rH,km];exact hi)
    rw[aT (l:=G),aP hi]at this
    simpa using this
   rw[ef]at q
   exact q
abbrev UQ(K:Frag):bh:=λds Q=>∃(C:Addr) (p a:Nat) (xs:List Nat),ds=[rT C p,.int a,.lst false (ak xs)]/\cy K C/\bg K C "products"/\p∈gK/\a<ae (true,p)/\(∀y∈xs,y<ae (true,p))/\xs.length<=1000/\Q (.lst true (ak (xs.map (gm (true,p) a))))
theorem aC4(T:Txt K mg t):aM P w K mg base aQ 1 t.JA t.JB ["self","a","row"] (bj (UQ K)):=by
 refine bz T.aE9 Td ?_ ?_
 ·intro ds Q h
  obtain⟨C,p,a,xs,rfl,hC,hn,hp,ha,hy,hl,q⟩:=h<;>rfl
 ·intro aC A outer s H E hr
  refine⟨_,(aA (aX (i:=3) Td.nd rfl (aV rfl) (dh (bA (dQ (K:=K) (bv 0)) (bv 1) (λ_ _=>rfl))))
   (aE (aW (dR [("by_a",3)] ["x"] rfl (g8 (bv 2)) (λ_ _ _ _=>(cE (i:=1) (show(["by_a","x"]:List Str).Nodup by decide +kernel) rfl (ai (lr1 rfl)) (by decide) (aV (lr1 rfl)))) (λ_ _ _ _=>dv) (λ_ _ _ _=>(dh (bA (bv 0) (bv 1) (λ_ _=>rfl)))) rfl ⟨rfl,trivial⟩ (λ_=>by repeat' (first | exact trivial | refine⟨.inl rfl,?_⟩ | refine⟨.inr (.inl rfl),?_⟩ | refine⟨.inr (.inr ⟨_,rfl⟩),?_⟩)) (λ_=>⟨⟨rfl,.inl rfl,.inl rfl,_,rfl,rfl⟩,trivial⟩) rfl (by decide +kernel))))),λds Q h=>?_⟩
  obtain⟨C,p,a,xs,rfl,hC,hn,hp,ha,hy,hl,q⟩:=h
  refine az λU hU=>?_
  nofun
  refine⟨C,_,_,_,rfl,hC,hn,rfl,_,BW hp ha,?_⟩
  refine⟨by rw[fW,nI];rfl,hU _ ?_⟩
  clear hU U
  nofun
  refine eH xs (λ(i:Nat)=>D.int (i:Int)) (λx=>D.int ((gm (true,p) a x:Nat):Int)) (oX xs) iO (λx hx=>?_) (.inr λ_ _=>rfl) (by rw[sL];omega) ?_
  ·nofun
   exact⟨_,BV hp ha (hy x hx),rfl,rfl⟩
  ·rw[cA,cw]at q
   exact q
abbrev UR(K:Frag):bh:=λds Q=>∃(C:Addr) (p a:Nat) (xs:List Nat),ds=[rS C p,.int a,.lst false (ak xs)]/\cy K C/\bg K C "prime"/\0<p/\a<64/\(∀y∈xs,y<64)/\xs.length<=1000/\Q (.lst true (ak (xs.map (gm (false,p) a))))
theorem ax1(T:Txt K mg t):aM P w K mg base aQ 1 t.JC t.JE ["self","a","row"] (bj (UR K)):=by
 refine bz T.az1 Te ?_ ?_
 ·intro ds Q h
  obtain⟨C,p,a,xs,rfl,hC,hn,hp,ha,hy,hl,q⟩:=h<;>rfl
 ·intro aC A outer s H E hr
  refine⟨_,(aA (aX (i:=3) Te.nd rfl (aV rfl) (dh (dQ (K:=K) (bv 0))))
   (aE (aW (dR [("prime",3),("a",1)] ["x"] rfl (g8 (bv 2)) (λ_ _ _ _=>(cE (i:=2) (show(["prime","a","x"]:List Str).Nodup by decide +kernel) rfl (ai (lr1 rfl)) (by decide) (aV (lr1 rfl)))) (λ_ _ _ _=>dv) (λ_ _ _ _=>(aB dD (aa (aB fu (bv 1) (bv 2))) (bv 0))) rfl ⟨rfl,⟨rfl,trivial⟩⟩ (λ_=>by repeat' (first | exact trivial | refine⟨.inl rfl,?_⟩ | refine⟨.inr (.inl rfl),?_⟩ | refine⟨.inr (.inr ⟨_,rfl⟩),?_⟩)) (λ_=>⟨⟨rfl,.inl rfl,.inl rfl,_,rfl,rfl⟩,⟨⟨rfl,.inl rfl,.inl rfl,_,rfl,rfl⟩,trivial⟩⟩) rfl (by decide +kernel))))),λds Q h=>?_⟩
  obtain⟨C,p,a,xs,rfl,hC,hn,hp,ha,hy,hl,q⟩:=h
  refine az λU hU=>?_
  nofun
  refine⟨C,_,_,.int p,rfl,hC,hn,rfl,rfl,hU _ ?_⟩
  clear hU U
  nofun
  refine eH xs (λ(i:Nat)=>D.int (i:Int)) (λx=>D.int ((gm (false,p) a x:Nat):Int)) (oX xs) iO (λx hx=>?_) (.inr λ_ _=>rfl) (by rw[sL];omega) ?_
  ·have h2:=hy x hx
   nofun
   refine⟨ia.ok (.inr ⟨by omega,by omega⟩),by omega,?_⟩
   show _=((a*x%p:Nat):Int)
   rw[oo,tN]
  ·rw[cA,cw]at q
   exact q
theorem b83(T:Txt K mg t){m:Bool × Nat}(hm:m∈aF):∃C ns zs sp,fD t.aH t.aO m=.obj C ns zs/\jN P w K mg base 1 "scaled" C sp/\("scaled":Str) ∉ ns/\∀(xs:List Nat) (a:Nat) (Q:D->Prop),a<ae m->(∀y∈xs,y<ae m)->xs.length<=1000->Q (.lst true (ak (xs.map (gm m a))))->sp [.obj C ns zs,.int a,.lst false (ak xs)] Q:=by
 have hF:=di hm
 obtain⟨k,n⟩:=m
 cases k with
 | true=>exact⟨_,_,_,UQ K,rfl,⟨T.fc,_,_,_,T.aB7,aC4 T,T.aF0⟩,by decide,λxs a Q ha hy hl q=>⟨_,n,a,xs,rfl,T.fc,T.sE,vC hm,ha,hy,hl,q⟩⟩
 | false =>
  have pS:n<=64:=hF.hi
  have l2:2<=n:=hF.lo
  exact⟨_,_,_,UR K,rfl,⟨T.fB,_,_,_,T.aw6,ax1 T,T.az2⟩,by decide,λxs a Q ha hy hl q=>⟨_,n,a,xs,rfl,T.fB,T.pM,by omega,dm (show a<n from ha) pS,λy h=>dm (show y<n from hy y h) pS,hl,q⟩⟩
abbrev US(K:Frag):bh:=λds Q=>∃(C:Addr) (p a:Nat) (xs ys:List Nat),ds=[rT C p,.lst false (ak xs),.int a,.lst false (ak ys)]/\cy K C/\bg K C "products"/\p∈gK/\a<ae (true,p)/\(∀y∈ys,y<ae (true,p))/\xs.length<=1000/\Q (.lst true (ak (cT (λx y=>bO (true,p) x (gm (true,p) a y)) xs ys)))
theorem ax2(T:Txt K mg t):aM P w K mg base aQ 1 t.JF t.JG ["self","row","a","other"] (bj (US K)):=by
 refine bz T.az3 Tf ?_ ?_
 ·intro ds Q h
  obtain⟨C,p,a,xs,ys,rfl,hC,hn,hp,ha,hy,hl,q⟩:=h<;>rfl
 ·intro aC A outer s H E hr
  refine⟨_,(aA (aX (i:=4) Tf.nd rfl (aV rfl) (dh (bA (dQ (K:=K) (bv 0)) (bv 2) (λ_ _=>rfl))))
   (aE (aW (dR [("by_a",4)] ["x","y"] rfl (oW rfl T.pP (ag (bv 1) (ag (bv 3) aw))) (λ_ _ _ _=>(iz (i1:=1) (i2:=2) rfl (show(["by_a","x","y"]:List Str).Nodup by decide +kernel) rfl (ai (lr1 rfl)) rfl (ai (lr1 rfl)) (by decide) (by decide) (aV (lr1 rfl)) (aV (lr1 rfl)))) (λ_ _ _ _=>dv) (λ_ _ _ _=>(aB xR (bv 1) (bA (bv 0) (bv 2) (λ_ _=>rfl)))) rfl ⟨rfl,trivial⟩ (λ_=>by repeat' (first | exact trivial | refine⟨.inl rfl,?_⟩ | refine⟨.inr (.inl rfl),?_⟩ | refine⟨.inr (.inr ⟨_,rfl⟩),?_⟩)) (λ_=>⟨⟨rfl,.inl rfl,.inl rfl,_,rfl,rfl⟩,trivial⟩) rfl (by decide +kernel))))),λds Q h=>?_⟩
  obtain⟨C,p,a,xs,ys,rfl,hC,hn,hp,ha,hy,hl,q⟩:=h
  refine az λU hU=>?_
  nofun
  refine⟨C,_,_,_,rfl,hC,hn,rfl,_,BW hp ha,?_⟩
  refine⟨by rw[fW,nI];rfl,hU _ ?_⟩
  clear hU U
  nofun
  refine⟨_,_,rfl,rfl,GO (λx y=>bO (true,p) x (gm (true,p) a y)) (λx hx y Ds=>?_) (by omega) q⟩
  nofun
  refine⟨_,BV hp ha (hy y Ds),?_⟩
  show oi (x:Int) ((gm (true,p) a y:Nat):Int)=_
  rw[nk];rfl
abbrev UT(K:Frag):bh:=λds Q=>∃(C:Addr) (p a:Nat) (xs ys:List Nat),ds=[rS C p,.lst false (ak xs),.int a,.lst false (ak ys)]/\cy K C/\bg K C "prime"/\0<p/\a<64/\(∀y∈ys,y<64)/\xs.length<=1000/\Q (.lst true (ak (cT (λx y=>bO (false,p) x (gm (false,p) a y)) xs ys)))
theorem av2(T:Txt K mg t):aM P w K mg base aQ 1 t.JH t.JI ["self","row","a","other"] (bj (UT K)):=by
 refine bz T.av5 Tg ?_ ?_
 ·intro ds Q h
  obtain⟨C,p,a,xs,ys,rfl,hC,hn,hp,ha,hy,hl,q⟩:=h<;>rfl
 ·intro aC A outer s H E hr
  refine⟨_,(aA (aX (i:=4) Tg.nd rfl (aV rfl) (dh (dQ (K:=K) (bv 0))))
   (aE (aW (dR [("prime",4),("a",2)] ["x","y"] rfl (oW rfl T.pP (ag (bv 1) (ag (bv 3) aw))) (λ_ _ _ _=>(iz (i1:=2) (i2:=3) rfl (show(["prime","a","x","y"]:List Str).Nodup by decide +kernel) rfl (ai (lr1 rfl)) rfl (ai (lr1 rfl)) (by decide) (by decide) (aV (lr1 rfl)) (aV (lr1 rfl)))) (λ_ _ _ _=>dv) (λ_ _ _ _=>(aB dD (aa (aB dB (bv 2) (aa (aB fu (bv 1) (bv 3))))) (bv 0))) rfl ⟨rfl,⟨rfl,trivial⟩⟩ (λ_=>by repeat' (first | exact trivial | refine⟨.inl rfl,?_⟩ | refine⟨.inr (.inl rfl),?_⟩ | refine⟨.inr (.inr ⟨_,rfl⟩),?_⟩)) (λ_=>⟨⟨rfl,.inl rfl,.inl rfl,_,rfl,rfl⟩,⟨⟨rfl,.inl rfl,.inl rfl,_,rfl,rfl⟩,trivial⟩⟩) rfl (by decide +kernel))))),λds Q h=>?_⟩
  obtain⟨C,p,a,xs,ys,rfl,hC,hn,hp,ha,hy,hl,q⟩:=h
  refine az λU hU=>?_
  nofun
  refine⟨C,_,_,.int p,rfl,hC,hn,rfl,rfl,hU _ ?_⟩
  clear hU U
  nofun
  refine⟨_,_,rfl,rfl,GO (λx y=>bO (false,p) x (gm (false,p) a y)) (λx hx y Ds=>?_) (by omega) q⟩
  have h2:=hy y Ds
  nofun
  refine⟨ia.ok (.inr ⟨by omega,by omega⟩),by omega,?_⟩
  have e:((x:Int)-((a*y%p:Nat):Int))%(p:Int)=((x:Int)-(a:Int)*y)%p:=by
   rw[oo,tN,Int.sub_emod,Int.emod_emod,<- Int.sub_emod]
  show _=(((((x:Int)-((a*y%p:Nat):Int))%(p:Int)).toNat:Nat):Int)
  rw[e,wO (gR _ (by omega))]
theorem UU(T:Txt K mg t){m:Bool × Nat}(hm:m∈aF):∃C ns zs sp,fD t.aH t.aO m=.obj C ns zs/\jN P w K mg base 1 "lessened" C sp/\("lessened":Str) ∉ ns/\∀(xs ys:List Nat) (a:Nat) (Q:D->Prop),a<ae m->(∀y∈ys,y<ae m)->xs.length<=1000->Q (.lst true (ak (cT (λx y=>bO m x (gm m a y)) xs ys)))->sp [.obj C ns zs,.lst false (ak xs),.int a,.lst false (ak ys)] Q:=by
 have hF:=di hm
 obtain⟨k,n⟩:=m
 cases k with
 | true=>exact⟨_,_,_,US K,rfl,⟨T.fc,_,_,_,T.aw5,ax2 T,T.az4⟩,by decide,λxs ys a Q ha hy hl q=>⟨_,n,a,xs,ys,rfl,T.fc,T.sE,vC hm,ha,hy,hl,q⟩⟩
 | false =>
  have pS:n<=64:=hF.hi
  have l2:2<=n:=hF.lo
  exact⟨_,_,_,UT K,rfl,⟨T.fB,_,_,_,T.av1,av2 T,T.av6⟩,by decide,λxs ys a Q ha hy hl q=>⟨_,n,a,xs,ys,rfl,T.fB,T.pM,by omega,dm (show a<n from ha) pS,λy h=>dm (show y<n from hy y h) pS,hl,q⟩⟩
abbrev aV1(cb cp:Addr):bh:=λds Q=>∃(m:Bool × Nat) (T:List (List Nat)) (l:List Nat) (j:Nat),ds=[fD cb cp m,.lst false (ax false T),.lst false (ak l),.int j]/\m∈aF/\T.length<=1000/\AllLt (ae m) l/\(∀r∈T,j<r.length/\r.length<=1000/\AllLt (ae m) r)/\Q (.lst true (ax true (T.map λr=>cT (λx y=>bO m x (gm m (r.getD j 0) y)) r l)))
theorem UW(T:Txt K mg t):aM P w K mg base aQ 2 t.JJ t.JK ["field","rows","lead_row","place"] (bj (aV1 t.aH t.aO)):=by
 refine bz T.Ll aU8 ?_ ?_
 ·intro ds Q h
  obtain⟨m,G,l,j,rfl,hm,hG,hl,hr,q⟩:=h<;>rfl
 ·intro aC A outer s H E hr
  refine⟨_,(aE (aW (dR [("lead_row",2),("field",0),("place",3)] ["row"] rfl (g8 (bv 1)) (λ_ _ _ _=>(cE (i:=3) (show(["lead_row","field","place","row"]:List Str).Nodup by decide +kernel) rfl (ai (lr1 rfl)) (by decide) (aV (lr1 rfl)))) (λ_ _ _ _=>dv) (λ_ _ _ _=>(jr (P:=P) (w:=w) (K:=K) (mg:=mg) (base:=base) (n:=1) (bv 1) (hr.mono (by decide)) (ag (bv 3) (ag (bA (bv 3) (bv 2) (λ_ _=>rfl)) (ag (bv 0) aw))))) rfl ⟨rfl,⟨rfl,⟨rfl,trivial⟩⟩⟩ (λ_=>by repeat' (first | exact trivial | refine⟨.inl rfl,?_⟩ | refine⟨.inr (.inl rfl),?_⟩ | refine⟨.inr (.inr ⟨_,rfl⟩),?_⟩)) (λ_=>⟨⟨rfl,.inl rfl,.inl rfl,_,rfl,rfl⟩,⟨⟨rfl,.inl rfl,.inl rfl,_,rfl,rfl⟩,⟨⟨rfl,.inl rfl,.inl rfl,_,rfl,rfl⟩,trivial⟩⟩⟩) rfl (by decide +kernel)))),λds Q h=>?_⟩
  obtain⟨m,G,l,j,rfl,hm,hG,hl,hr,q⟩:=h
  nofun
  refine eH G (λr=>D.lst false (ak r)) (λr=>D.lst true (ak (cT (λx y=>bO m x (gm m (r.getD j 0) y)) r l))) (by rw[dX];rfl) (λa b h=>mF a b h) (λr bq=>?_) (.inr λr _=>g9 _) (by rw[sL];omega) ?_
  ·obtain⟨h1,h2,h3⟩:=hr r bq
   obtain⟨C,ns,zs,sp,e1,e2,e3,e4⟩:=UU (P:=P) (w:=w) (base:=base) T hm
   nofun
   refine⟨C,ns,zs,sp,e1,e2,e3,.int (r.getD j 0:Nat),by rw[nR (by omega) (by omega),gQ],e4 _ _ _ _ (h3.getD (by have:=(di hm).lo;omega) j) hl h2 ⟨rfl,rfl⟩⟩
  ·rw[ax,cw]at q
   exact q
abbrev UX(t:eR)(P:Program)(w:World)(K:Frag)(mg:Str->Option Value)(base:Heap):oV:=λds Q Ex=>∃(m:Bool × Nat) (a b:Nat),ds=[fD t.aH t.aO m,.int a,.int b]/\m∈aF/\a<ae m/\b<ae m/\(b=0->Ex t.iE)/\(b≠0->∀r:Nat,r<ae m->gm m r b=a->Q (.int (r:Nat)))
theorem UY(T:Txt K mg t):aM P w K mg base (nq P w) 2 t.CA t.JL ["self","a","b"] (yu (UX t P w K mg base)):=by
 refine QH T.aR0 aN8 ?_ ?_
 ·intro ds Q Ex h
  obtain⟨m,a,b,rfl,hm,ha,hb,qx,q⟩:=h<;>rfl
 ·intro aC A outer s H E hr
  refine⟨_,(aA (cQ (b9 (gz (cJ hr)) (bv 2) (aa aj) (bM _)) (aE (QM T.UI rfl (by rfl) (ag (aa P0) aw))) cP)
   (aA (cQ (b9 (gz (cJ hr)) (bv 1) (aa aj) (bM _)) (aE (aW aj)) cP)
   (aE (aW (jr (P:=P) (w:=w) (K:=K) (mg:=mg) (base:=base) (n:=1) (bv 0) (hr.mono (by decide)) (ag (aa (aB dB (bA (dQ (K:=K) (bv 0)) (bv 1) (λ_ _=>rfl)) (bA (dQ (K:=K) (bv 0)) (bv 2) (λ_ _=>rfl)))) aw)))))),λds Q Ex h=>?_⟩
  obtain⟨m,a,b,rfl,hm,ha,hb,qx,q⟩:=h
  refine az λU hU=>?_
  nofun
  split
  ·rename_i h0
   exact⟨by decide,qx (by omega)⟩
  ·rename_i h0
   have b0:b≠0:=by omega
   refine hU _ ?_
   clear hU U
   refine az λU hU=>?_
   nofun
   split
   ·rename_i h1
    have a0:a=0:=by omega
    subst a0
    exact q b0 0 ha (iC m b (dj m hm))
   ·rename_i h1
    have a0:a≠0:=by omega
    refine hU _ ?_
    clear hU U
    have hF:=di hm
    obtain⟨r,e,Cb,FU⟩:=RL hm (show 1<=a by omega) ha (show 1<=b by omega) hb
    have qr:=q b0 r Cb FU
    obtain⟨k,n⟩:=m
    cases k with
    | true =>
     nofun
     have ll:(eI (fl (true,n))).length=ae (true,n):=(yP _ _).trans hF.len
     have n0:=gR (lg (true,n) a-lg (true,n) b) (show(ae (true,n):Int)-1≠0 by have:=hF.lo;omega)
     have n1:=hV (lg (true,n) a-lg (true,n) b) (show(0:Int)<(ae (true,n):Int)-1 by have:=hF.lo;omega)
     refine⟨_,_,_,zD K,rfl,⟨T.fc,_,_,_,T.zr,zE T,T.zj⟩,by decide,_,_,_,_,rfl,T.fc,T.vX,rfl,_,my (by omega) (by rw[ll];omega),_,_,_,_,rfl,T.fc,T.vX,rfl,_,my (by omega) (by rw[ll];omega),?_⟩
     refine⟨_,_,_,_,ae (true,n),fl (true,n),r,rfl,T.fc,T.vY,T.sD,rfl,rfl,hF.lo,?_,qr⟩
     have hk:((lg (true,n) a-lg (true,n) b)%((ae (true,n):Int)-1)).toNat<(fl (true,n)).length:=by have:=hF.len;omega
     show(fl (true,n))[((lg (true,n) a-lg (true,n) b)%((ae (true,n):Int)-1)).toNat]?=some (r:Int)
     rw[<-e]
     unfold pw
     rw[aT,aP hk];rfl
    | false =>
     nofun
     have ll:(eI (fl (false,n))).length=ae (false,n):=(yP _ _).trans hF.len
     have n0:=gR (lg (false,n) a-lg (false,n) b) (show(ae (false,n):Int)-1≠0 by have:=hF.lo;omega)
     have n1:=hV (lg (false,n) a-lg (false,n) b) (show(0:Int)<(ae (false,n):Int)-1 by have:=hF.lo;omega)
     refine⟨_,_,_,zD K,rfl,⟨T.fB,_,_,_,T.zx,zE T,T.zj⟩,by decide,_,_,_,_,rfl,T.fB,T.zu,rfl,_,my (by omega) (by rw[ll];omega),_,_,_,_,rfl,T.fB,T.zu,rfl,_,my (by omega) (by rw[ll];omega),?_⟩
     refine⟨_,_,_,_,ae (false,n),fl (false,n),r,rfl,T.fB,T.zw,T.sF,rfl,rfl,hF.lo,?_,qr⟩
     have hk:((lg (false,n) a-lg (false,n) b)%((ae (false,n):Int)-1)).toNat<(fl (false,n)).length:=by have:=hF.len;omega
     show(fl (false,n))[((lg (false,n) a-lg (false,n) b)%((ae (false,n):Int)-1)).toNat]?=some (r:Int)
     rw[<-e]
     unfold pw
     rw[aT,aP hk];rfl
theorem UZ(T:Txt K mg t)(m:Bool × Nat):BX P w K mg base 2 "over" (if m.1 then t.aH else t.aO) (UX t P w K mg base):=by
 obtain⟨k,n⟩:=m
 cases k with
 | true=>exact⟨T.fc,_,_,_,T.LF,UY T,T.T2⟩
 | false=>exact⟨T.fB,_,_,_,T.LL,UY T,T.T2⟩
abbrev aV2(t:eR)(P:Program)(w:World)(K:Frag)(mg:Str->Option Value)(base:Heap):bh:=λds Q=>∃(m:Bool × Nat) (G:List (List Nat)),ds=[fD t.aH t.aO m,.lst false (ax false G)]/\m∈aF/\G.length<=900/\RT (ae m) (au G) G/\au G<=900/\Q (.lst true (ax true (bW m G)))
theorem U0(T:Txt K mg t):aM P w K mg base aQ 3 t.JM t.JN ["field","table"] (bj (aV2 t P w K mg base)):=by
 refine bz T.Lm pK ?_ ?_
 ·intro ds Q h
  obtain⟨m,G,rfl,hm,hG,hR,hw,q⟩:=h<;>rfl
 ·intro aC A outer s H E hr
  refine⟨_,(aA (aX (i:=2) pK.nd rfl (ai rfl) (dO cC))
   (aA (aX (i:=3) pK.nd rfl (ai rfl) (dh (bv 1)))
   (aA (fY eN rfl (jH rfl T.gP (ag (aa (bu ((Dr T).mono (by decide)) hr rfl T.CG T.zk.kp T.CH aU (ag (bv 1) aw))) aw)) (cE (i:=4) pK.nd rfl (ai rfl))
    (Fx 3 (aA (aX (i:=5) pK.nd rfl (ai rfl) (bu ((aP2 T).mono (by decide)) hr rfl T.do4 T.TY.kp T.do5 aU (ag (bv 3) (ag (bv 4) aw))))
    (aE (cQ (b9 cy6 (bv 5) (aa Fv) (bM _)) (aA (aX (i:=6) pK.nd rfl (ai rfl) (jr (P:=P) (w:=w) (K:=K) (mg:=mg) (base:=base) (n:=1) (bv 0) (hr.mono (by decide)) (ag (aa (RM (P:=P) (w:=w) (K:=K) (mg:=mg) (base:=base) (n:=2) (bv 0) (hr.mono (by decide)) (ag (aa aj) (ag (bA (bA (bv 3) (bv 5) (λ_ _=>rfl)) (bv 4) (λ_ _=>rfl)) aw)))) (ag (bA (bv 3) (bv 5) (λ_ _=>rfl)) aw))))
     (aA (aX (i:=3) pK.nd rfl (ai rfl) (bu ((UW T).mono (by decide)) hr rfl T.TZ T.Ll.kp T.T1 aU (ag (bv 0) (ag (aa (aB cR (aa (yB (bv 3) xU (xV (bv 5)))) (aa (yB (bv 3) (xV (aa (aB cR (bv 5) (aa aj)))) xU)))) (ag (bv 6) (ag (bv 4) aw))))))
     (aE (aX (i:=2) pK.nd rfl (ai rfl) (cA2 (bu ((UW T).mono (by decide)) hr rfl T.TZ T.Ll.kp T.T1 aU (ag (bv 0) (ag (bv 2) (ag (bv 6) (ag (bv 4) aw))))) (dO (cq (em 6) cC))))))) cP)))))
   (aE (aW (em 2)))))),λds Q h=>?_⟩
  obtain⟨m,G,rfl,hm,hG,hR,hw,q⟩:=h
  have eY:=(di hm).lo
  refine az λU hU=>?_
  nofun
  refine⟨by decide,hU _ ?_⟩
  clear hU U
  refine az λU hU=>?_
  nofun
  refine hU _ ?_
  clear hU U
  refine az λU hU=>?_
  nofun
  refine⟨G,rfl,by omega,λr bq=>?_,?_⟩
  ·rw[(hR r bq).1];omega
  refine⟨_,rfl,⟨by omega,by omega⟩,?_⟩
  refine yt (λk δ=>∃(o:Bool) (o1 o2 o3:Option D),δ=[some (fD t.aH t.aO m),some (D.lst false (ax false G)),some (D.lst true (ax true (jQ m G k).1)),some (D.lst o (ax o (jQ m G k).2)),o1,o2,o3]) ⟨false,none,none,none,rfl⟩ ?_ ?_
  ·rintro k δ hk ⟨o,o1,o2,o3,rfl⟩
   have I:=B4 hm hR k
   rw[GR]
   generalize jQ m G k=s at I ⊢
   simp only[gN,qP,jz,jy,ot,oq,wV,exists_eq_left',dM,dX]
   clear hU
   have il:=I.l
   refine az λU hU=>?_
   nofun
   refine⟨s.2,k,rfl,by omega,λr bq=>by rw[(I.b r bq).1];omega,?_⟩
   cases e:jP s.2 k with
   | none =>
    rw[show iD m s k=s by unfold iD;rw[e]]at hU
    refine hU _ ?_
    nofun
    exact⟨false,_,_,_,⟨rfl,rfl⟩,rfl,rfl,rfl⟩
   | some i =>
    obtain⟨hi,h1,h2⟩:=B0 e
    have er:iD m s k=(gL m s.1 (eB m s.2 i k) k++[eB m s.2 i k],gL m (s.2.take i++s.2.drop (i+1)) (eB m s.2 i k) k):=by unfold iD;rw[e]
    rw[er]at hU
    refine hU _ ?_
    clear hU
    nofun
    obtain⟨C,ns,xs,sp,e1,e2,e3,e4⟩:=b83 (P:=P) (w:=w) (base:=base) T hm
    refine az λU hU=>?_
    nofun
    obtain⟨lw,lr⟩:=I.b _ (dz hi)
    have bk:=lr.getD (show 0<ae m by omega) k
    refine⟨C,ns,xs,sp,e1,e2,e3,_,_,_,_,vE _ _ m,UZ T m,RN m _ (by decide),.lst false (ak s.2[i]),sq false hi,?_⟩
    dsimp only
    refine⟨.int (s.2[i].getD k 0:Nat),by rw[nR (by omega) (by omega),gQ],m,1,s.2[i].getD k 0,by rw[vE];rfl,hm,eY,bk,λz=>absurd z h1,λ_ f hf hfo=>⟨rfl,.lst false (ak s.2[i]),sq false hi,?_⟩⟩
    have ef:mG m (s.2[i].getD k 0)=f:=BZ hm hf hfo
    rw[yU]
    refine e4 _ _ _ hf lr (by omega) ⟨by rw[g9,lL],hU _ ?_⟩
    have el:s.2[i].map (gm m f)=eB m s.2 i k:=by unfold eB;rw[h2,ef]
    rw[el]
    have ll:(eB m s.2 i k).length=au G:=by rw[<-el,bt];exact lw
    have la:AllLt (ae m) (eB m s.2 i k):=λx hx=>by
     rw[<-el]at hx
     obtain⟨y,_,rfl⟩:=bD.mp hx
     exact dy hm _ _
    generalize eB m s.2 i k=ld at ll la ⊢
    clear hU
    refine az λU hU=>?_
    nofun
    have L7:∀r∈s.2.take i++s.2.drop (i+1),r.length=au G/\AllLt (ae m) r:=λr bq=>by
     rcases bX.mp bq with h | h
     ·exact I.b r (tJ h)
     ·exact I.b r (p9 h)
    have U1:∀X:List (List Nat),(D.lst true (ax true X)).fr=true:=λX=>by rw[fJ,pF];rfl
    rw[QT,show((i:Int)+1)=((i+1:Nat):Int) by omega,Gh,sk,dX]
    refine⟨by rw[iF,lF];omega,m,_,ld,k,rfl,hm,by rw[dG,iF,lF];omega,la,λr bq=>⟨by rw[(L7 r bq).1];exact hk,by rw[(L7 r bq).1];omega,(L7 r bq).2⟩,U1 _,hU _ ?_⟩
    clear hU
    nofun
    refine⟨m,s.1,ld,k,rfl,hm,by omega,la,λr bq=>⟨by rw[(I.a r bq).1];exact hk,by rw[(I.a r bq).1];omega,(I.a r bq).2⟩,U1 _,by decide,_,_,rfl,rfl,?_,true,_,_,_,sk true _ [ld],⟨rfl,rfl⟩,rfl,rfl,rfl⟩
    rw[km,bt]
    show s.1.length+1<=_
    omega
  ·rintro δ ⟨o,o1,o2,o3,rfl⟩
   refine hU _ ?_
   nofun
   exact q
abbrev aV7:bh:=λds Q=>∃T:List (List Nat),ds=[.lst false (ax false T)]/\T.length<=1000/\Q (.lst true (ax true T))
theorem L8(T:Txt K mg t):aM P w K mg base aQ 1 t.JO t.JP ["table"] (bj (aV7 )):=by
 refine bz T.CI aV3 ?_ ?_
 ·intro ds Q h
  obtain⟨G,rfl,hG,q⟩:=h<;>rfl
 ·intro aC A outer s H E hr
  refine⟨_,(aE (aW (dR [] ["row"] rfl (g8 (bv 0)) (λ_ _ _ _=>(cE (i:=0) (show(["row"]:List Str).Nodup by decide +kernel) rfl (ai (lr1 rfl)) (by decide) (aV (lr1 rfl)))) (λ_ _ _ _=>dv) (λ_ _ _ _=>(rh (rm) (by rfl) T.mK lZ (ag (bv 0) aw))) rfl trivial (λ_=>by repeat' (first | exact trivial | refine⟨.inl rfl,?_⟩ | refine⟨.inr (.inl rfl),?_⟩ | refine⟨.inr (.inr ⟨_,rfl⟩),?_⟩)) (λ_=>trivial) rfl (by decide +kernel)))),λds Q h=>?_⟩
  obtain⟨G,rfl,hG,q⟩:=h
  nofun
  refine eH G (λr=>D.lst false (ak r)) (λr=>D.lst true (ak r)) (by rw[dX];rfl) (λa b h=>mF a b h) (λr bq=>?_) (.inr λr _=>g9 r) (by rw[sL];omega) q
  nofun
abbrev ca4:bh:=λds Q=>∃T:List (List Nat),ds=[.lst false (ax false T)]/\T.length<=1000/\(∀r∈T,r.length<=1000/\∃x∈r,x≠0)/\Q (.lst true (ak (T.map aY)))
theorem U2(T:Txt K mg t):aM P w K mg base aQ 1 t.JQ t.JR ["rows"] (bj (ca4 )):=by
 refine bz T.Lp cd4 ?_ ?_
 ·intro ds Q h
  obtain⟨G,rfl,hG,hr,q⟩:=h<;>rfl
 ·intro aC A outer s H E hr
  refine⟨_,(aE (aW (dR [] ["row"] rfl (g8 (bv 0)) (λ_ _ _ _=>(cE (i:=0) (show(["row"]:List Str).Nodup by decide +kernel) rfl (ai (lr1 rfl)) (by decide) (aV (lr1 rfl)))) (λ_ _ _ _=>dv) (by exact λ_ _ _ _=>(dh (bA (aa (dR [] ["place","x"] rfl (rJ rfl T.sG (ag (bv 0) aw)) (λ_ _ _ _=>(iz (i1:=0) (i2:=1) rfl (show(["place","x"]:List Str).Nodup by decide +kernel) rfl (ai (lr1 rfl)) rfl (ai (lr1 rfl)) (by decide) (by decide) (aV (lr1 rfl)) (aV (lr1 rfl)))) (λ_ _ _ _=>(FE (b9 (gJ (cJ hr)) (bv 1) (aa aj) (bM _)))) (λ_ _ _ _=>(dh (bv 0))) rfl trivial (λ_=>by repeat' (first | exact trivial | refine⟨.inl rfl,?_⟩ | refine⟨.inr (.inl rfl),?_⟩ | refine⟨.inr (.inr ⟨_,rfl⟩),?_⟩)) (λ_=>trivial) rfl (by decide +kernel))) (aa aj) (λ_ _=>rfl)))) rfl trivial (λ_=>by repeat' (first | exact trivial | refine⟨.inl rfl,?_⟩ | refine⟨.inr (.inl rfl),?_⟩ | refine⟨.inr (.inr ⟨_,rfl⟩),?_⟩)) (λ_=>trivial) rfl (by decide +kernel)))),λds Q h=>?_⟩
  obtain⟨G,rfl,hG,hr,q⟩:=h
  nofun
  refine eH G (λr=>D.lst false (ak r)) (λr=>D.int (aY r:Nat)) (by rw[dX];rfl) (λa b h=>mF a b h) (λr bq=>?_) (.inr λr _=>rfl) (by rw[sL];omega) ?_
  ·obtain⟨h1,x,hx,h3⟩:=hr r bq
   nofun
   refine GP (aL r.length) (λ(i:Nat)=>D.tup [.int (i:Int),.int ((r.getD i 0:Nat):Int)]) (λ(i:Nat)=>D.int (i:Int)) (λi=>r.getD i 0 != 0) (GQ r) (λa b h=>by injection h with h;simp at h;omega) (λi hi=>?_) (.inr λ_ _ _=>rfl) (by rw[bZ,sL];omega) ?_
   ·nofun
    refine⟨?_,λ_=>trivial⟩
    by_cases h0:r.getD i 0=0
    ·rw[h0];rfl
    ·rw[decide_eq_false (by omega),bne_iff_ne.mpr h0];rfl
   ·refine⟨.int (aY r:Nat),L3.BC (k:=0) ?_,rfl,rfl⟩
    rw[cj,Sa ⟨x,hx,h3⟩];rfl
  ·rw[cA,cw]at q
   exact q
abbrev aM5:bh:=λds Q=>∃(T:List (List Nat)) (w:Nat),ds=[.lst false (ax false T),.int w]/\T.length<=1000/\w<=1000/\(∀r∈T,r.length<=1000/\∃x∈r,x≠0)/\Q (.lst true (ak (fP T w)))
theorem U3(T:Txt K mg t):aM P w K mg base aQ 2 t.JS t.JT ["rows","width"] (bj (aM5 )):=by
 refine bz T.Lq Th ?_ ?_
 ·intro ds Q h
  obtain⟨G,w,rfl,hG,hw,hr,q⟩:=h<;>rfl
 ·intro aC A outer s H E hr
  refine⟨_,(aA (aX (i:=2) Th.nd rfl (aV rfl) (bu ((U2 T).mono (by decide)) hr rfl T.T5 T.Lp.kp T.T6 aU (ag (bv 0) aw)))
   (aE (aW (dR [("taken",2)] ["place"] rfl (jH rfl T.gP (ag (bv 1) aw)) (λ_ _ _ _=>(cE (i:=1) (show(["taken","place"]:List Str).Nodup by decide +kernel) rfl (ai (lr1 rfl)) (by decide) (aV (lr1 rfl)))) (λ_ _ _ _=>(FE (b9 cC3 (bv 1) (bv 0) (by with_unfolding_all rfl)))) (λ_ _ _ _=>(dh (bv 1))) rfl ⟨rfl,trivial⟩ (λ_=>by repeat' (first | exact trivial | refine⟨.inl rfl,?_⟩ | refine⟨.inr (.inl rfl),?_⟩ | refine⟨.inr (.inr ⟨_,rfl⟩),?_⟩)) (λ_=>⟨⟨rfl,.inl rfl,.inl rfl,_,rfl,rfl⟩,trivial⟩) rfl (by decide +kernel))))),λds Q h=>?_⟩
  obtain⟨G,w,rfl,hG,hw,hr,q⟩:=h
  refine az λU hU=>?_
  nofun
  refine⟨G,rfl,hG,hr,?_⟩
  refine hU _ ?_
  clear hU U
  nofun
  refine⟨⟨by omega,by omega⟩,GP (aL w) (λ(i:Nat)=>D.int (i:Int)) (λ(i:Nat)=>D.int (i:Int)) (λj=>!(G.map aY).contains j) (pz _ rfl) iO (λj hj=>?_) (.inr λ_ _ _=>rfl) (by rw[bZ,sL];omega) ?_⟩
  ·nofun
   exact⟨_,rfl,by rw[cf3],λ_=>trivial⟩
  ·rw[cA]at q
   exact q
abbrev U4:bh:=λds Q=>∃(d:D) (a b:Nat),ds=[d,.int a,.int b]/\Q (.int (a ^^^ b:Nat))
theorem aF4(T:Txt K mg t):aM P w K mg base aQ 1 t.JU t.JV ["self","a","b"] (bj (U4 )):=by
 refine bz T.aH1 aE1 ?_ ?_
 ·intro ds Q h
  obtain⟨d,a,b,rfl,q⟩:=h<;>rfl
 ·intro aC A outer s H E hr
  refine⟨_,(aE (aW (aB xR (bv 1) (bv 2)))),λds Q h=>?_⟩
  obtain⟨d,a,b,rfl,q⟩:=h
  nofun
  rw[nk];exact q
abbrev U5(K:Frag):bh:=λds Q=>∃(C:Addr) (p:Nat) (a b:Int),ds=[rS C p,.int a,.int b]/\cy K C/\bg K C "prime"/\0<p/\Q (.int ((a-b)%p))
theorem az9(T:Txt K mg t):aM P w K mg base aQ 1 t.JW t.JX ["self","a","b"] (bj (U5 K)):=by
 refine bz T.aB0 ay9 ?_ ?_
 ·intro ds Q h
  obtain⟨C,p,a,b,rfl,hC,hn,hp,q⟩:=h<;>rfl
 ·intro aC A outer s H E hr
  refine⟨_,(aE (aW (aB dD (aa (aB dB (bv 1) (bv 2))) (dQ (K:=K) (bv 0))))),λds Q h=>?_⟩
  obtain⟨C,p,a,b,rfl,hC,hn,hp,q⟩:=h
  nofun
  refine⟨C,_,_,.int p,rfl,hC,hn,rfl,?_⟩
  exact⟨by omega,q⟩
theorem U6(T:Txt K mg t){m:Bool × Nat}(h0:0<m.2):∃C ns xs sp,fD t.aH t.aO m=.obj C ns xs/\jN P w K mg base 1 "minus" C sp/\("minus":Str) ∉ ns/\∀(a b:Nat) (Q:D->Prop),Q (.int (gl m a b))->sp [.obj C ns xs,.int a,.int b] Q:=by
 obtain⟨k,n⟩:=m
 cases k with
 | true=>exact⟨_,_,_,U4,rfl,⟨T.fc,_,_,_,T.aF1,aF4 T,T.aH2⟩,by decide,λa b Q q=>⟨_,a,b,rfl,q⟩⟩
 | false=>exact⟨_,_,_,U5 K,rfl,⟨T.fB,_,_,_,T.az7,az9 T,T.aB1⟩,by decide,λa b Q q=>⟨_,n,a,b,rfl,T.fB,T.pM,h0,q⟩⟩
abbrev ax3(cb cp:Addr):bh:=λds Q=>∃(m:Bool × Nat) (T:List (List Nat)) (w:Nat),ds=[fD cb cp m,.lst false (ax false T),.int w]/\m∈aF/\T.length<=1000/\w<=1000/\RT (ae m) w T/\(∀r∈T,∃x∈r,x≠0)/\Q (.lst true (ax true (iQ m T w)))
theorem ax4(T:Txt K mg t):aM P w K mg base aQ 3 t.JY t.JZ ["field","rows","width"] (bj (ax3 t.aH t.aO)):=by
 refine bz T.T9 vT ?_ ?_
 ·intro ds Q h
  obtain⟨m,G,wi,rfl,hm,hG,hw,hR,hr,q⟩:=h<;>rfl
 ·intro aC A outer s H E hr
  refine⟨_,(aA (aX (i:=3) vT.nd rfl (ai rfl) (bu ((U2 T).mono (by decide)) hr rfl T.T5 T.Lp.kp T.T6 aU (ag (bv 1) aw)))
   (aA (aX (i:=4) vT.nd rfl (ai rfl) (dO cC))
   (Fx 3 (aA (fY eN rfl (Bp (bu ((U3 T).mono (by decide)) hr rfl T.T7 T.Lq.kp T.T8 aU (ag (bv 1) (ag (bv 2) aw)))) (cE (i:=5) vT.nd rfl (ai rfl))
    (aA (aX (i:=6) vT.nd rfl (ai rfl) (aB fu (aa (dO (cq aj cC))) (bv 2)))
    (aA (rD (i:=6) rfl (by first | exact ai rfl | exact aV (ai rfl)) aj (bv 5))
    (aA (fY eN rfl (oW rfl T.pP (ag (bv 3) (ag (bv 1) aw))) (iz (i1:=7) (i2:=8) rfl vT.nd rfl (ai rfl) rfl (ai rfl))
     (aE (rD (i:=6) rfl (by first | exact ai rfl | exact aV (ai rfl)) (jr (P:=P) (w:=w) (K:=K) (mg:=mg) (base:=base) (n:=1) (bv 0) (hr.mono (by decide)) (ag (aa aj) (ag (bA (bv 8) (bv 5) (λ_ _=>rfl)) aw))) (bv 7))))
    (aE (kO (i:=4) rfl (by first | exact ai rfl | exact aV (ai rfl)) (em 6)))))))
   (aE (aW (em 4))))))),λds Q h=>?_⟩
  obtain⟨m,G,wi,rfl,hm,hG,hw,hR,hr,q⟩:=h
  have m0:=dj m hm
  have eY:=(di hm).lo
  refine az λU hU=>?_
  nofun
  refine⟨G,rfl,hG,λr bq=>⟨by rw[(hR r bq).1];exact hw,hr r bq⟩,hU _ ?_⟩
  clear hU U
  refine az λU hU=>?_
  nofun
  refine⟨by decide,hU _ ?_⟩
  clear hU U
  refine⟨_,rfl,?_⟩
  rw[yU]
  simp only[jz,jy]
  refine az λU hU=>?_
  nofun
  refine⟨G,wi,rfl,hG,hw,λr bq=>⟨by rw[(hR r bq).1];exact hw,hr r bq⟩,?_⟩
  refine⟨_,rfl,?_⟩
  have hfp:∀j∈fP G wi,j<wi:=λj hj=>cX.mp (sU.mp hj).1
  have lfp:(fP G wi).length<=wi:=by
   have:=Xo (λj=>!(G.map aY).contains j) (aL wi)
   rw[bZ]at this
   exact this
  rw[rL]
  refine fX.mk (λi δ=>∃o1 o2 o3 o4,δ=[some (fD t.aH t.aO m),some (D.lst false (ax false G)),some (D.int wi),some (D.lst false (ak (G.map aY))),some (D.lst true (ax true (((fP G wi).take i).map (gM m G wi)))),o1,o2,o3,o4]) ⟨_,_,_,_,rfl⟩ ?_ ?_
  ·rintro i d δ hd ⟨o1,o2,o3,o4,rfl⟩
   rw[cA,cj]at hd
   obtain⟨f,hf,rfl⟩:=Al.mp hd
   have hfw:=hfp f (tf hf)
   clear hd
   refine az λU hU=>?_
   nofun
   have er:aG (bf wi 0)=ak (bf wi 0):=by
    rw[cA,qe];unfold aG;rw[qe];rfl
   rw[gQ,er]
   refine⟨by decide,⟨by omega,by omega,by omega⟩,hU _ ?_⟩
   clear hU
   refine az λU hU=>?_
   nofun
   refine⟨_,f,rfl,?_,?_⟩
   ·rw[se (by omega) (by rw[dW,fS];omega)];rfl
   rw[show(ak (bf wi 0)).set f (D.int 1)=ak ((bf wi 0).set f 1) from R1 _ _ 1]
   refine hU _ ?_
   clear hU
   refine az λU hU=>?_
   nofun
   refine⟨_,_,rfl,rfl,?_⟩
   refine fX.mk (λk δ=>∃o3 o4,δ=[some (fD t.aH t.aO m),some (D.lst false (ax false G)),some (D.int wi),some (D.lst false (ak (G.map aY))),some (D.lst true (ax true (((fP G wi).take i).map (gM m G wi)))),some (D.int f),some (D.lst true (ak ((((G.map aY).zip G).take k).foldl (λx z=>x.set z.1 (bO m 0 (z.2.getD f 0))) ((bf wi 0).set f 1)))),o3,o4]) ⟨_,_,rfl⟩ ?_ ?_
   ·rintro k d δ hd ⟨o3,o4,rfl⟩
    obtain⟨hk,rfl⟩:=ct4 hd
    clear hd
    obtain⟨lw,la⟩:=hR _ (dz hk)
    have xl:=Sd (λz:Nat × List Nat=>z.1) (λz=>bO m 0 (z.2.getD f 0)) (((G.map aY).zip G).take k) ((bf wi 0).set f 1)
    rw[jX,fS]at xl
    obtain⟨C,ns,xs,sp,e1,e2,e3,e4⟩:=U6 (P:=P) (w:=w) (base:=base) T m0
    have hld:aY G[k]<wi:=by
     rw[<-lw]
     obtain⟨x,hx,h0⟩:=hr _ (dz hk)
     exact N1 ⟨x,hx,by simpa using h0⟩
    have ga:=mE hm (a:=0) (b:=G[k].getD f 0) (by omega) (la.getD (by omega) f)
    nofun
    refine⟨C,ns,xs,sp,e1,e2,e3,.int (G[k].getD f 0:Nat),by rw[nR (by omega) (by omega),gQ],e4 0 (G[k].getD f 0) _ ⟨rfl,_,aY G[k],rfl,?_,_,_,?_,rfl,rfl⟩⟩
    ·rw[se (by omega) (by rw[dW,xl];omega)];rfl
    ·rw[ga.1,R1,mT,Ao]
     have ez:((G.map aY).zip G)[k]?=some (aY G[k],G[k]):=by
      rw[List.zip,mX,cj,aP hk];rfl
     rw[ez];rfl
   ·rintro δ ⟨o3,o4,rfl⟩
    refine hU _ ?_
    nofun
    refine⟨⟨_,rfl⟩,by rw[bt,iF];omega,_,_,_,_,?_,rfl,rfl,rfl,rfl⟩
    rw[show((G.map aY).zip G).take (dE (ak (G.map aY)) (ax false G)).length=(G.map aY).zip G from wI (by unfold dE;rw[Ea,i5,dW,km];exact bG _),mT,hf,fo]
    exact sk true _ [gM m G wi f]
  ·rintro δ ⟨o1,o2,o3,o4,rfl⟩
   refine hU _ ?_
   nofun
   rw[tI]
   exact q
abbrev aR9(t:eR)(K:Frag):L2.Sp:=λvs H Q _=>∃(F H0:Hp) (x dx C:Addr) (vf vc:V) (m:Bool × Nat) (G:List (List Nat)) (pre:List (Str × V)),vs=[.ref x,vf,vc]/\L3.af F H0/\H0 x=none/\L3.af H0 H/\H x=some (.ins C dx (pre++[]))/\sC pre/\dg9 K C /\
 R F H0 [fD t.aH t.aO m] [vf] []/\R F H0 [.lst false (ax false G)] [vc] []/\m∈aF/\RT (ae m) (au G) G/\G.length<=64/\au G<=64 /\
 ∀H' p1 p2 p3 A1 A2 A3,bL x H H'->H' x=some (.ins C dx (pre++nV.zip [vf,.int (au G:Nat),.ref p1,.ref p2,.ref p3,.int ((fP (bW m G) (au G)).length:Nat)]))->R (λ_=>none) H' [.lst true (ax true G)] [.ref p1] A1->R (λ_=>none) H' [.lst true (ax true (iQ m (bW m G) (au G)))] [.ref p2] A2->R (λ_=>none) H' [.lst true (ak (fP (bW m G) (au G)))] [.ref p3] A3->(A1++(A2++A3)).Nodup->(∀a∈A1++(A2++A3),H a=none)->Q .av H'
theorem at2(T:Txt K mg t):aM P w K mg base aQ 4 t.J0 t.J1 ["self","field","checks"] (aR9 t K):=by
 refine T.dq1.ok Ti (λvs H Q E h=>?_) λaC A outer s H vs Q E hr h=>?_
 ·obtain⟨F,H0,x,dx,C,vf,vc,m,G,pre,rfl,_⟩:=h;rfl
 obtain⟨F,H0,x,dx,C,vf,vc,m,G,pre,rfl,e0,gy,s0,hx,hp,hC,rf,rc,hm,hG,hGl,hGw,q⟩:=h
 refine⟨_,eP (Eu (i:=3) Ti.nd rfl (ai rfl) (je ((U0 T).mono (by decide)) hr rfl T.T3 T.Lm.kp T.T4 .nil aU (bV (pv 1) (bV (pv 2) eX))))
  (eP (gW (pv 0) (pv 1) rfl)
  (eP (gW (pv 0) (je ((Dr T).mono (by decide)) hr rfl T.CG T.zk.kp T.CH .nil aU (bV (pv 2) eX)) rfl)
  (eP (gW (pv 0) (je ((L8 T).mono (by decide)) hr rfl T.Ln T.CI.kp T.Lo .nil aU (bV (pv 2) eX)) rfl)
  (eP (gW (pv 0) (je ((ax4 T).mono (by decide)) hr rfl T.dp9 T.T9.kp T.dq0 .nil aU (bV (pv 1) (bV (pv 3) (bV (qw (pv 0) rfl) eX)))) rfl)
  (eP (gW (pv 0) (je ((U3 T).mono (by decide)) hr rfl T.T7 T.Lq.kp T.T8 .nil aU (bV (pv 3) (bV (qw (pv 0) rfl) eX))) rfl)
  (i8 (gW (pv 0) (AY OW rfl T.gg fV (bV (qw (pv 0) rfl) eX)) rfl))))))),?_⟩
 have hn:=cz2 hm hG
 have hk:=Hb hm hG
 obtain⟨_,iR,iL,_⟩:=mH hm hG
 have fR:∀X:List (List Nat),[D.lst true (ax true X)].all D.fr=true:=λX=>by rw[dq,fJ,pF];rfl
 have fN:∀X:List Nat,[D.lst true (ak X)].all D.fr=true:=λX=>by rw[dq,g9];rfl
 refine⟨_,rfl,_,rfl,F,[fD t.aH t.aO m,.lst false (ax false G)],λd=>d=.lst true (ax true (bW m G)),e0.trans s0,R.cons (A:=[]) (rf.shared (L3.af.refl _) s0) (rc.shared (L3.af.refl _) s0),⟨m,G,rfl,hm,by omega,hG,by omega,rfl⟩,λd v F1 H1 A1 hd eK zH L9 U7 r1 U8 Ma=>?_⟩
 subst hd
 obtain⟨p0,rfl⟩:=vR r1
 have cz:=eK.get _ _ hx rfl
 have z1:bL x H H1:=eK.x
 have r1:=r1.qI (fR _) zH
 have wo:∀X:List (List Nat),[D.lst true (ax true X)].map D.sh=[D.lst false (ax false X)]:=λX=>by rw[dn,dM,dX];rfl
 have av:∀{F' H':Hp} {d:D} {v:V} {A':List Addr},R F' H' [d] [v] A'->[d].all D.fr=true->R (λ_=>none) H' [d] [v] A':=λr h=>r.qI h (L3.af.of λb o e=>by cases e)
 have mv:∀{F' H' wt:Hp} {ds:List D} {vs:List V} {A':List Addr} {fs fs':List (Str × V)},R F' H' ds vs A'->L3.af H' wt->wt x=some (.ins C dx fs)->ds.all D.fr=true->R F' (upd wt x (.ins C dx fs')) ds vs A':=λr h cY hd=>(r.grow (L3.af.refl _) h λa ha=>(r.lists a ha).2).rR cY hd
 refine⟨vf,rfl,.ref x,rfl,x,C,dx,_,rfl,cz,hC.cls,hC.field,hp.lt (by decide),?_⟩
 have r2:=mv r1 (L3.af.refl _) cz (fR _) (fs':=bB "field" vf (pre++[]))
 have z2:=z1.trans (bL.upd (C:=x) (dx:=dx) cz rfl (o':=.ins C dx (bB "field" vf (pre++[]))))
 have dU:upd H1 x (.ins C dx (bB "field" vf (pre++[]))) x=some (.ins C dx (pre++([("field",vf)]:List (Str × V)))):=by rw[bJ,hp.put _ _ _ (by decide)];rfl
 generalize upd H1 x (.ins C dx (bB "field" vf (pre++[])))=H2 at r2 z2 dU ⊢
 have t2:=bL.of0 gy s0 z2
 refine⟨_,rfl,F,[.lst false (ax false G)],λd=>d=.int (au G:Nat),e0.trans t2,rc.shared (L3.af.refl _) t2,⟨G,rfl,by omega,λr bq=>by rw[(hG r bq).1];omega,rfl⟩,λd v F3 H3 A3 hd hJ zG he3 h33 r3 nd3 EA=>?_⟩
 subst hd
 cases r3
 have ff:=hJ.get _ _ dU rfl
 refine⟨.ref x,rfl,x,C,dx,_,rfl,ff,hC.cls,hC.length,hp.lt (by show 1<=6;decide),?_⟩
 have r4:=mv r2 hJ ff (fR _) (fs':=bB "length" (.int (au G:Nat)) (pre++([("field",vf)]:List (Str × V))))
 have z4:=(z2.trans (hJ.x (x:=x))).trans (bL.upd (C:=x) (dx:=dx) ff rfl (o':=.ins C dx (bB "length" (.int (au G:Nat)) (pre++([("field",vf)]:List (Str × V))))))
 have jv:upd H3 x (.ins C dx (bB "length" (.int (au G:Nat)) (pre++([("field",vf)]:List (Str × V))))) x=some (.ins C dx (pre++([("field",vf),("length",.int (au G:Nat))]:List (Str × V)))):=by rw[bJ,hp.put _ _ _ (by decide)];rfl
 generalize upd H3 x (.ins C dx (bB "length" (.int (au G:Nat)) (pre++([("field",vf)]:List (Str × V)))))=H4 at r4 z4 jv ⊢
 have t4:=bL.of0 gy s0 z4
 refine⟨_,rfl,F,[.lst false (ax false G)],λd=>d=.lst true (ax true G),e0.trans t4,rc.shared (L3.af.refl _) t4,⟨G,rfl,by omega,rfl⟩,λd v F5 H5 A5 hd ky hf5 he5 h35 r5 nd5 xj=>?_⟩
 subst hd
 obtain⟨p1,rfl⟩:=vR r5
 have iV:=ky.get _ _ jv rfl
 refine⟨.ref x,rfl,x,C,dx,_,rfl,iV,hC.cls,hC.dh0,hp.lt (by show 2<=6;decide),?_⟩
 have r6:=mv r4 ky iV (fR _) (fs':=bB "check_rows" (.ref p1) (pre++([("field",vf),("length",.int (au G:Nat))]:List (Str × V))))
 have k6:=mv (av r5 (fR _)) (L3.af.refl _) iV (fR _) (fs':=bB "check_rows" (.ref p1) (pre++([("field",vf),("length",.int (au G:Nat))]:List (Str × V))))
 have z6:=(z4.trans (ky.x (x:=x))).trans (bL.upd (C:=x) (dx:=dx) iV rfl (o':=.ins C dx (bB "check_rows" (.ref p1) (pre++([("field",vf),("length",.int (au G:Nat))]:List (Str × V))))))
 have pQ:upd H5 x (.ins C dx (bB "check_rows" (.ref p1) (pre++([("field",vf),("length",.int (au G:Nat))]:List (Str × V))))) x=some (.ins C dx (pre++([("field",vf),("length",.int (au G:Nat)),("check_rows",.ref p1)]:List (Str × V)))):=by rw[bJ,hp.put _ _ _ (by decide)];rfl
 generalize upd H5 x (.ins C dx (bB "check_rows" (.ref p1) (pre++([("field",vf),("length",.int (au G:Nat))]:List (Str × V)))))=H6 at r6 k6 z6 pQ ⊢
 have n5:∀a∈A5,H a=none:=λa ha=>z4.free (by rw[jv];simp) (xj a ha)
 have t6:=bL.of0 gy s0 z6
 have e6:=e0.trans t6
 refine⟨_,rfl,_,rfl,.ref x,rfl,x,C,dx,_,.int (au G:Nat),rfl,pQ,hC.cls,hC.length,(hp.look _ _ (by decide)).trans rfl,L3.br F H6 A1,[fD t.aH t.aO m,.lst false (ax false (bW m G)),.int (au G:Nat)],λd=>d=.lst true (ax true (iQ m (bW m G) (au G))),nt e6,R.cons (A:=[]) (rf.shared (ir e6) t6) (R.cons (A:=[]) (wo _ ▸ r6.br e6 A1 λ_ h=>h) (.int .nil)),⟨m,bW m G,au G,rfl,hm,by omega,by omega,iR,hn,rfl⟩,λd v F7 H7 A7 hd n6 hf7 he7 h37 r7 nd7 U9=>?_⟩
 subst hd
 obtain⟨p2,rfl⟩:=vR r7
 have mL:=n6.get _ _ pQ rfl
 refine⟨.ref x,rfl,x,C,dx,_,rfl,mL,hC.cls,hC.dh1,hp.lt (by show 3<=6;decide),?_⟩
 have r8:=mv r6 n6 mL (fR _) (fs':=bB "word_rows" (.ref p2) (pre++([("field",vf),("length",.int (au G:Nat)),("check_rows",.ref p1)]:List (Str × V))))
 have k8:=mv k6 n6 mL (fR _) (fs':=bB "word_rows" (.ref p2) (pre++([("field",vf),("length",.int (au G:Nat)),("check_rows",.ref p1)]:List (Str × V))))
 have w8:=mv (av r7 (fR _)) (L3.af.refl _) mL (fR _) (fs':=bB "word_rows" (.ref p2) (pre++([("field",vf),("length",.int (au G:Nat)),("check_rows",.ref p1)]:List (Str × V))))
 have z8:=(z6.trans (n6.x (x:=x))).trans (bL.upd (C:=x) (dx:=dx) mL rfl (o':=.ins C dx (bB "word_rows" (.ref p2) (pre++([("field",vf),("length",.int (au G:Nat)),("check_rows",.ref p1)]:List (Str × V))))))
 have Dt:upd H7 x (.ins C dx (bB "word_rows" (.ref p2) (pre++([("field",vf),("length",.int (au G:Nat)),("check_rows",.ref p1)]:List (Str × V))))) x=some (.ins C dx (pre++([("field",vf),("length",.int (au G:Nat)),("check_rows",.ref p1),("word_rows",.ref p2)]:List (Str × V)))):=by rw[bJ,hp.put _ _ _ (by decide)];rfl
 generalize upd H7 x (.ins C dx (bB "word_rows" (.ref p2) (pre++([("field",vf),("length",.int (au G:Nat)),("check_rows",.ref p1)]:List (Str × V)))))=H8 at r8 k8 w8 z8 Dt ⊢
 have n7:∀a∈A7,H a=none:=λa ha=>z6.free (by rw[pQ];simp) (U9 a ha)
 have d57:∀a∈A5,a ∉ A7:=λa ha hb=>by
  obtain⟨⟨ws,e⟩,_⟩:=k6.lists a ha
  rw[U9 a hb]at e;cases e
 have t8:=bL.of0 gy s0 z8
 have e8:=e0.trans t8
 refine⟨_,rfl,.ref x,rfl,x,C,dx,_,.int (au G:Nat),rfl,Dt,hC.cls,hC.length,(hp.look _ _ (by decide)).trans rfl,L3.br F H8 A1,[.lst false (ax false (bW m G)),.int (au G:Nat)],λd=>d=.lst true (ak (fP (bW m G) (au G))),nt e8,R.cons (A:=[]) (wo _ ▸ r8.br e8 A1 λ_ h=>h) (.int .nil),⟨bW m G,au G,rfl,by omega,by omega,λr bq=>⟨by rw[(iR r bq).1];omega,hn r bq⟩,rfl⟩,λd v F9 H9 A9 hd Du hf9 he9 h39 r9 nd9 Mb=>?_⟩
 subst hd
 obtain⟨p3,rfl⟩:=vR r9
 have zI:=Du.get _ _ Dt rfl
 refine⟨.ref x,rfl,x,C,dx,_,rfl,zI,hC.cls,hC.S6,hp.lt (by show 4<=6;decide),?_⟩
 have Va:=mv k8 Du zI (fR _) (fs':=bB "message_places" (.ref p3) (pre++([("field",vf),("length",.int (au G:Nat)),("check_rows",.ref p1),("word_rows",.ref p2)]:List (Str × V))))
 have Vb:=mv w8 Du zI (fR _) (fs':=bB "message_places" (.ref p3) (pre++([("field",vf),("length",.int (au G:Nat)),("check_rows",.ref p1),("word_rows",.ref p2)]:List (Str × V))))
 have Mc:=mv (av r9 (fN _)) (L3.af.refl _) zI (fN _) (fs':=bB "message_places" (.ref p3) (pre++([("field",vf),("length",.int (au G:Nat)),("check_rows",.ref p1),("word_rows",.ref p2)]:List (Str × V))))
 have Vc:=(z8.trans (Du.x (x:=x))).trans (bL.upd (C:=x) (dx:=dx) zI rfl (o':=.ins C dx (bB "message_places" (.ref p3) (pre++([("field",vf),("length",.int (au G:Nat)),("check_rows",.ref p1),("word_rows",.ref p2)]:List (Str × V))))))
 have sN:upd H9 x (.ins C dx (bB "message_places" (.ref p3) (pre++([("field",vf),("length",.int (au G:Nat)),("check_rows",.ref p1),("word_rows",.ref p2)]:List (Str × V))))) x=some (.ins C dx (pre++([("field",vf),("length",.int (au G:Nat)),("check_rows",.ref p1),("word_rows",.ref p2),("message_places",.ref p3)]:List (Str × V)))):=by rw[bJ,hp.put _ _ _ (by decide)];rfl
 generalize upd H9 x (.ins C dx (bB "message_places" (.ref p3) (pre++([("field",vf),("length",.int (au G:Nat)),("check_rows",.ref p1),("word_rows",.ref p2)]:List (Str × V)))))=H10 at Va Vb Mc Vc sN ⊢
 have n9:∀a∈A9,H a=none:=λa ha=>z8.free (by rw[Dt];simp) (Mb a ha)
 have d59:∀a∈A5,a ∉ A9:=λa ha hb=>by
  obtain⟨⟨ws,e⟩,_⟩:=k8.lists a ha
  rw[Mb a hb]at e;cases e
 have d79:∀a∈A7,a ∉ A9:=λa ha hb=>by
  obtain⟨⟨ws,e⟩,_⟩:=w8.lists a ha
  rw[Mb a hb]at e;cases e
 obtain⟨ws,lw,ew⟩:∃ws,ws.length=(fP (bW m G) (au G)).length/\H10 p3=some (.lst ws):=by
  cases Mc with
  | own h _ r _=>exact⟨_,by rw[<-r.length,dW],h⟩
 refine⟨.ref x,rfl,x,C,dx,_,.ref p3,rfl,sN,hC.cls,hC.S6,(hp.look _ _ (by decide)).trans rfl,p3,ws,rfl,.inl (bK.of ew),.ref x,rfl,x,C,dx,_,rfl,sN,hC.cls,hC.size,hp.lt (by show 5<=6;decide),?_⟩
 rw[lw]
 refine q _ p1 p2 p3 A5 A7 A9 (Vc.trans (bL.upd (C:=x) (dx:=dx) sN rfl)) (by rw[bJ,hp.put _ _ _ (by decide)];rfl) (mv Va (L3.af.refl _) sN (fR _)) (mv Vb (L3.af.refl _) sN (fR _)) (mv Mc (L3.af.refl _) sN (fN _)) ?_ ?_
 ·exact gv.mpr ⟨nd5,gv.mpr ⟨nd7,nd9,d79⟩,λa ha hb=>(bX.mp hb).elim (d57 a ha) (d59 a ha)⟩
 ·intro a ha
  rcases bX.mp ha with ha | ha
  ·exact n5 a ha
  ·exact(bX.mp ha).elim (n7 a) (n9 a)
abbrev Md(K:Frag):bh:=λds Q=>∃(C:Addr) (ns:List Str) (xs:List D) (n:Nat) (x:D),ds=[.obj C ns xs,x]/\cy K C/\bg K C "many"/\(ns.zip xs).lookup ("many":Str)=some (.int n)/\((∃i,x=.int i/\Q (.bl (decide (0<=i)&&decide (i<n))))\/(x=.av/\Q (.bl false)))
theorem Vd(T:Txt K mg t):aM P w K mg base aQ 1 t.CB t.J2 ["self","x"] (bj (Md K)):=by
 refine bz T.aO0 aL3 ?_ ?_
 ·intro ds Q h
  obtain⟨C,ns,xs,n,x,rfl,h1,h2,h3,q⟩:=h<;>rfl
 ·intro aC A outer s H E hr
  refine⟨_,(aE (aW (oN (aa (rA (by rfl) T.pO (by rfl) T.UH Pu (bv 1))) (oN (aa (P1 (aa (rA (by rfl) T.pO (by rfl) T.UG Pw (bv 1))))) (tS (q9 ke qX (aa aj) (bv 1) (dQ (K:=K) (bv 0)))))))),λds Q h=>?_⟩
  obtain⟨C,ns,xs,n,x,rfl,h1,h2,h3,q⟩:=h
  rcases q with⟨i,rfl,q⟩ | ⟨rfl,q⟩
  ·nofun
   split
   ·rename_i h0
    refine⟨C,ns,xs,_,rfl,h1,h2,h3,?_⟩
    dsimp only
    rw[decide_eq_true h0,lK]at q
    exact q
   ·rename_i h0
    rw[decide_eq_false h0,sX]at q
    exact q
  ·nofun
   exact q
theorem Ve(T:Txt K mg t)(m:Bool × Nat){x:D}{Q:D->Prop}(h:(∃i,x=.int i/\Q (.bl (decide (0<=i)&&decide (i<ae m))))\/(x=.av/\Q (.bl false))):RP P w K mg base 1 t.aH t.aO m "holds" [x] Q:=by
 obtain⟨k,n⟩:=m
 cases k with
 | true=>exact⟨_,_,_,Md K,rfl,⟨T.fc,_,_,_,T.LD,Vd T,T.Ua⟩,by decide,_,_,_,ae (true,n),x,rfl,T.fc,T.sD,rfl,h⟩
 | false=>exact⟨_,_,_,Md K,rfl,⟨T.fB,_,_,_,T.LK,Vd T,T.Ua⟩,by decide,_,_,_,ae (false,n),x,rfl,T.fB,T.sF,rfl,h⟩
abbrev aF5(t:eR):bh:=λds Q=>∃(m:Bool × Nat) (G:List (List Nat)),ds=[fD t.aH t.aO m,.lst false (ax false G)]/\m∈aF/\RT (ae m) (au G) G/\1<=G.length/\G.length<=12/\2<=au G/\au G<=12/\Q (.bl true)
theorem aF6(T:Txt K mg t):aM P w K mg base aQ 2 t.J3 t.J4 ["field","table"] (bj (aF5 t)):=by
 refine bz T.Ub Tj ?_ ?_
 ·intro ds Q h
  obtain⟨m,G,rfl,hm,hR,g1,zJ,w2,Vf,q⟩:=h<;>rfl
 ·intro aC A outer s H E hr
  refine⟨_,(aA (cQ (PW.pt (kJ (b9 qX (aa (cV (gB) (by rfl) T.gg fV (ag (bv 1) aw))) (aa aj) (bM _)) (lU (b9 FG (aa (cV (gB) (by rfl) T.gg fV (ag (bv 1) aw))) (aa aj) (bM _))))) (aE (aW iM)) cP)
   (aA (aX (i:=2) Tj.nd rfl (aV rfl) (cV (gB) (by rfl) T.gg fV (ag (bA (bv 1) (aa aj) (λ_ _=>rfl)) aw)))
   (aA (cQ (PW.pt (kJ (b9 qX (bv 2) (aa aj) (bM _)) (kJ (b9 FG (bv 2) (aa aj) (bM _)) (lU (gZ (aa (cV (cK5 rfl) (by rfl) T.UE Pt (ag (aa (dR [("width",2)] ["row"] rfl (g8 (bv 1)) (λ_ _ _ _=>(cE (i:=1) (show(["width","row"]:List Str).Nodup by decide +kernel) rfl (ai (lr1 rfl)) (by decide) (aV (lr1 rfl)))) (λ_ _ _ _=>dv) (λ_ _ _ _=>(uh (gJ (cJ hr)) (aa (cV (gB) (by rfl) T.gg fV (ag (bv 1) aw))) (bv 0) (bM _))) rfl ⟨rfl,trivial⟩ (λ_=>by repeat' (first | exact trivial | refine⟨.inl rfl,?_⟩ | refine⟨.inr (.inl rfl),?_⟩ | refine⟨.inr (.inr ⟨_,rfl⟩),?_⟩)) (λ_=>⟨⟨rfl,.inl rfl,.inl rfl,_,rfl,rfl⟩,trivial⟩) rfl (by decide +kernel))) aw)))))))) (aE (aW iM)) cP)
   (aE (aW (cV (u3 rfl) (by rfl) T.wj ua (ag (aa (dR [("field",0)] ["row"] rfl (g8 (bv 1)) (λ_ _ _ _=>(cE (i:=1) (show(["field","row"]:List Str).Nodup by decide +kernel) rfl (ai (lr1 rfl)) (by decide) (aV (lr1 rfl)))) (λ_ _ _ _=>dv) (by exact λ_ _ _ _=>(cV (u3 rfl) (by rfl) T.wj ua (ag (aa (dR [("field",0)] ["x"] rfl (g8 (bv 1)) (λ_ _ _ _=>(cE (i:=1) (show(["field","x"]:List Str).Nodup by decide +kernel) rfl (ai (lr1 rfl)) (by decide) (aV (lr1 rfl)))) (λ_ _ _ _=>dv) (λ_ _ _ _=>(jr (P:=P) (w:=w) (K:=K) (mg:=mg) (base:=base) (n:=1) (bv 0) (hr.mono (by decide)) (ag (bv 1) aw))) rfl ⟨rfl,trivial⟩ (λ_=>by repeat' (first | exact trivial | refine⟨.inl rfl,?_⟩ | refine⟨.inr (.inl rfl),?_⟩ | refine⟨.inr (.inr ⟨_,rfl⟩),?_⟩)) (λ_=>⟨⟨rfl,.inl rfl,.inl rfl,_,rfl,rfl⟩,trivial⟩) rfl (by decide +kernel))) aw))) rfl ⟨rfl,trivial⟩ (λ_=>by repeat' (first | exact trivial | refine⟨.inl rfl,?_⟩ | refine⟨.inr (.inl rfl),?_⟩ | refine⟨.inr (.inr ⟨_,rfl⟩),?_⟩)) (λ_=>⟨⟨rfl,.inl rfl,.inl rfl,_,rfl,rfl⟩,trivial⟩) rfl (by decide +kernel))) aw))))))),λds Q h=>?_⟩
  obtain⟨m,G,rfl,hm,hR,g1,zJ,w2,Vf,q⟩:=h
  obtain⟨g,G',rfl⟩:∃g G',G=g::G':=by
   cases G with
   | nil=>exact absurd g1 (by decide)
   | cons g G'=>exact⟨g,G',rfl⟩
  refine az λU hU=>?_
  nofun
  rw[if_neg (by omega),if_neg (by rw[jx]at zJ;omega)]
  refine hU _ ?_
  clear hU U
  refine az λU hU=>?_
  nofun
  refine⟨.lst false (ak g),sq false (T:=g::G') (i:=0) (ou _),?_⟩
  show U [some (fD t.aH t.aO m),some (.lst false (ax false (g::G'))),some (.int ((ak g).length:Nat))]
  have gl:(ak g).length=au (g::G'):=by rw[dW];rfl
  rw[gl]
  generalize g::G'=G at hR g1 zJ w2 Vf gl hU ⊢
  refine hU _ ?_
  clear hU U
  refine az λU hU=>?_
  nofun
  rw[if_neg (by omega),if_neg (by omega)]
  refine eH G (λr=>D.lst false (ak r)) (λ_=>D.bl false) (by rw[dX];rfl) (λa b h=>mF a b h) (λr bq=>?_) (.inr λr _=>rfl) (by rw[sL];omega) ?_
  ·have:=(hR r bq).1
   nofun
   rw[decide_eq_true (by omega)];rfl
  refine⟨G.map λ_=>false,by unfold mr;rw[cw];rfl,?_⟩
  rw[if_neg (by simp)]
  refine hU _ ?_
  clear hU U
  nofun
  refine eH G (λr=>D.lst false (ak r)) (λ_=>D.bl true) (by rw[dX];rfl) (λa b h=>mF a b h) (λr bq=>?_) (.inr λr _=>rfl) (by rw[sL];omega) ?_
  ·obtain⟨r1,r2⟩:=hR r bq
   nofun
   refine eH r (λ(i:Nat)=>D.int (i:Int)) (λ_=>D.bl true) (oX _) iO (λi hi=>?_) (.inr λ_ _=>rfl) (by rw[sL];omega) ?_
   ·have:=r2 i hi
    nofun
    refine Ve T m (.inl ⟨_,rfl,?_⟩)
    rw[decide_eq_true (by omega),decide_eq_true (by omega)];rfl
   ·refine⟨r.map λ_=>true,by unfold mr;rw[cw];rfl,?_⟩
    simp
  ·refine⟨G.map λ_=>true,by unfold mr;rw[cw];rfl,?_⟩
   rw[show(G.map λ_=>true).all id=true by simp]
   exact q
abbrev cp9(t:eR)(P:Program)(w:World)(K:Frag)(mg:Str->Option Value)(base:Heap):bh:=λds Q=>∃(m:Bool × Nat) (G:List (List Nat)),ds=[fD t.aH t.aO m,.lst false (ax false G)]/\m∈aF/\G.length<=900/\RT (ae m) (au G) G/\au G<=900/\Q (.int (bW m G).length)
theorem cn4(T:Txt K mg t):aM P w K mg base aQ 4 t.J5 t.J6 ["field","table"] (bj (cp9 t P w K mg base)):=by
 refine bz T.Uc cl0 ?_ ?_
 ·intro ds Q h
  obtain⟨m,G,rfl,hm,hG,hR,hw,q⟩:=h<;>rfl
 ·intro aC A outer s H E hr
  refine⟨_,(aE (aW (cV (gB) (by rfl) T.gg fV (ag (aa (bu ((U0 T).mono (by decide)) hr rfl T.T3 T.Lm.kp T.T4 aU (ag (bv 0) (ag (bv 1) aw)))) aw)))),λds Q h=>?_⟩
  obtain⟨m,G,rfl,hm,hG,hR,hw,q⟩:=h
  nofun
  refine⟨m,G,rfl,hm,hG,hR,hw,?_⟩
  dsimp only
  rw[km];exact q
abbrev aV8:bh:=λds Q=>∃T:List (List Nat),ds=[.lst false (ax false T)]/\T.length<=1000/\(∀r∈T,r.length=au T)/\au T<=1000/\Q (.lst true (ax true (eJ T)))
theorem Vg(T:Txt K mg t):aM P w K mg base aQ 2 t.J7 t.J8 ["table"] (bj (aV8 )):=by
 refine bz T.Lu aV4 ?_ ?_
 ·intro ds Q h
  obtain⟨G,rfl,hG,hr,hw,q⟩:=h<;>rfl
 ·intro aC A outer s H E hr
  refine⟨_,(aE (aW (dR [("table",0)] ["j"] rfl (jH rfl T.gP (ag (aa (bu ((Dr T).mono (by decide)) hr rfl T.CG T.zk.kp T.CH aU (ag (bv 0) aw))) aw)) (λ_ _ _ _=>(cE (i:=1) (show(["table","j"]:List Str).Nodup by decide +kernel) rfl (aV rfl) (by decide) (ai rfl))) (λ_ _ _ _=>dv) (by exact λ_ _ _ _=>(dR [("j",1)] ["row"] rfl (g8 (bv 0)) (λ_ _ _ _=>(cE (i:=1) (show(["j","row"]:List Str).Nodup by decide +kernel) rfl (ai (lr1 rfl)) (by decide) (aV (lr1 rfl)))) (λ_ _ _ _=>dv) (λ_ _ _ _=>(dh (bA (bv 1) (bv 0) (λ_ _=>rfl)))) rfl ⟨rfl,trivial⟩ (λ_=>by repeat' (first | exact trivial | refine⟨.inl rfl,?_⟩ | refine⟨.inr (.inl rfl),?_⟩ | refine⟨.inr (.inr ⟨_,rfl⟩),?_⟩)) (λ_=>⟨⟨rfl,.inl rfl,.inl rfl,_,rfl,rfl⟩,trivial⟩) rfl (by decide +kernel))) rfl ⟨rfl,trivial⟩ (λ_=>by repeat' (first | exact trivial | refine⟨.inl rfl,?_⟩ | refine⟨.inr (.inl rfl),?_⟩ | refine⟨.inr (.inr ⟨_,rfl⟩),?_⟩)) (λ_=>⟨⟨rfl,.inl rfl,.inl rfl,_,rfl,rfl⟩,trivial⟩) rfl (by decide +kernel)))),λds Q h=>?_⟩
  obtain⟨G,rfl,hG,hr,hw,q⟩:=h
  nofun
  refine⟨G,rfl,hG,λr bq=>by rw[hr r bq];exact hw,?_⟩
  dsimp only
  refine⟨_,rfl,⟨by omega,by omega⟩,?_⟩
  refine eH (aL (au G)) (λ(i:Nat)=>D.int (i:Int)) (λj=>D.lst true (ak (G.map λr=>r.getD j 0))) (pz _ rfl) iO (λj hj=>?_) (.inr λj _=>g9 _) (by rw[bZ,sL];omega) ?_
  ·have hj:=cX.mp hj
   nofun
   refine eH G (λr=>D.lst false (ak r)) (λr=>D.int ((r.getD j 0:Nat):Int)) (by rw[dX];rfl) (λa b h=>mF a b h) (λr bq=>?_) (.inr λr _=>rfl) (by rw[sL];omega) ?_
   ·nofun
    have hl:=hr r bq
    exact⟨.int (r.getD j 0:Nat),by rw[nR (by omega) (by omega),gQ],rfl,rfl⟩
   ·rw[cA,cw];rfl
  ·unfold eJ ax at q
   rw[cw]at q
   exact q
abbrev aS0:bh:=λds Q=>∃c:List Nat,ds=[.lst false (ak c)]/\c.length<=1000/\Q (.bl (nul c))
theorem aS1(T:Txt K mg t):aM P w K mg base aQ 1 t.J9 t.Ka ["column"] (bj (aS0 )):=by
 refine bz T.Ug aQ4 ?_ ?_
 ·intro ds Q h
  obtain⟨c,rfl,hc,q⟩:=h<;>rfl
 ·intro aC A outer s H E hr
  refine⟨_,(aE (aW (cV (u3 rfl) (by rfl) T.wj ua (ag (aa (dR [] ["x"] rfl (g8 (bv 0)) (λ_ _ _ _=>(cE (i:=0) (show(["x"]:List Str).Nodup by decide +kernel) rfl (ai (lr1 rfl)) (by decide) (aV (lr1 rfl)))) (λ_ _ _ _=>dv) (λ_ _ _ _=>(uh (gz (cJ hr)) (bv 0) (aa aj) (bM _))) rfl trivial (λ_=>by repeat' (first | exact trivial | refine⟨.inl rfl,?_⟩ | refine⟨.inr (.inl rfl),?_⟩ | refine⟨.inr (.inr ⟨_,rfl⟩),?_⟩)) (λ_=>trivial) rfl (by decide +kernel))) aw)))),λds Q h=>?_⟩
  obtain⟨c,rfl,hc,q⟩:=h
  nofun
  refine eH c (λ(i:Nat)=>D.int (i:Int)) (λ(x:Nat)=>D.bl (x==0)) (oX _) iO (λx hx=>?_) (.inr λ_ _=>rfl) (by rw[sL];omega) ?_
  ·nofun
   congr 1
   exact propext (by omega)
  dsimp only
  refine⟨c.map (·==0),by unfold mr;rw[cw];rfl,?_⟩
  rw[mU]
  exact q
abbrev Vh(K:Frag):bh:=λds Q=>∃(C:Addr) (p a b:Nat),ds=[rT C p,.int a,.int b]/\cy K C/\bg K C "products"/\p∈gK/\a<ae (true,p)/\b<ae (true,p)/\Q (.int (gm (true,p) a b:Nat))
theorem aF7(T:Txt K mg t):aM P w K mg base aQ 1 t.Kb t.Ke ["self","a","b"] (bj (Vh K)):=by
 refine bz T.aH3 aE2 ?_ ?_
 ·intro ds Q h
  obtain⟨C,p,a,b,rfl,hC,hn,hp,ha,hb,q⟩:=h<;>rfl
 ·intro aC A outer s H E hr
  refine⟨_,(aE (aW (dh (bA (bA (dQ (K:=K) (bv 0)) (bv 1) (λ_ _=>rfl)) (bv 2) (λ_ _=>rfl))))),λds Q h=>?_⟩
  obtain⟨C,p,a,b,rfl,hC,hn,hp,ha,hb,q⟩:=h
  nofun
  refine⟨C,_,_,_,rfl,hC,hn,rfl,?_⟩
  exact⟨_,BW hp ha,_,BV hp ha hb,rfl,q⟩
abbrev Vi(K:Frag):bh:=λds Q=>∃(C:Addr) (p:Nat) (a b:Int),ds=[rS C p,.int a,.int b]/\cy K C/\bg K C "prime"/\0<p/\IntMulOk a b/\Q (.int (a*b%p))
theorem aA0(T:Txt K mg t):aM P w K mg base aQ 1 t.Kf t.Kg ["self","a","b"] (bj (Vi K)):=by
 refine bz T.aB2 az0 ?_ ?_
 ·intro ds Q h
  obtain⟨C,p,a,b,rfl,hC,hn,hp,hm,q⟩:=h<;>rfl
 ·intro aC A outer s H E hr
  refine⟨_,(aE (aW (aB dD (aa (aB fu (bv 1) (bv 2))) (dQ (K:=K) (bv 0))))),λds Q h=>?_⟩
  obtain⟨C,p,a,b,rfl,hC,hn,hp,hm,q⟩:=h
  nofun
  exact⟨hm,C,_,_,.int p,rfl,hC,hn,rfl,by omega,q⟩
theorem cm7(T:Txt K mg t){m:Bool × Nat}(hm:m∈aF):∃C ns xs sp,fD t.aH t.aO m=.obj C ns xs/\jN P w K mg base 1 "times" C sp/\("times":Str) ∉ ns/\∀(a b:Nat) (Q:D->Prop),a<ae m->b<ae m->Q (.int (gm m a b:Nat))->sp [.obj C ns xs,.int a,.int b] Q:=by
 have hF:=di hm
 obtain⟨k,n⟩:=m
 cases k with
 | true=>exact⟨_,_,_,Vh K,rfl,⟨T.fc,_,_,_,T.aF2,aF7 T,T.aH4⟩,by decide,λa b Q ha hb q=>⟨_,n,a,b,rfl,T.fc,T.sE,vC hm,ha,hb,q⟩⟩
 | false =>
  have pS:n<=64:=hF.hi
  refine⟨_,_,_,Vi K,rfl,⟨T.fB,_,_,_,T.az8,aA0 T,T.aB3⟩,by decide,λa b Q ha hb q=>?_⟩
  have BB:a<n:=ha
  have yJ:b<n:=hb
  refine⟨_,n,a,b,rfl,T.fB,T.pM,by omega,ia.ok (.inr ⟨by omega,by omega⟩),?_⟩
  have e:((gm (false,n) a b:Nat):Int)=(a:Int)*b%n:=by
   show((a*b%n:Nat):Int)=_
   rw[oo,tN]
  rw[<-e];exact q
abbrev cs2(t:eR)(P:Program)(w:World)(K:Frag)(mg:Str->Option Value)(base:Heap):bh:=λds Q=>∃(m:Bool × Nat) (c:List Nat) (os:List (List Nat)),ds=[fD t.aH t.aO m,.lst false (ak c),.lst false (ax false os)]/\m∈aF/\nul c=false/\c.length<=64/\AllLt (ae m) c/\RT (ae m) c.length os/\os.length<=1000/\Q (.lst true (ax true (gO m c os)))
theorem cs0(T:Txt K mg t):aM P w K mg base aQ 3 t.Kh t.Ki ["field","column","others"] (bj (cs2 t P w K mg base)):=by
 refine bz T.Uh vU ?_ ?_
 ·intro ds Q h
  obtain⟨m,c,os,rfl,hm,hn,hc,Me,k7,hol,q⟩:=h<;>rfl
 ·intro aC A outer s H E hr
  refine⟨_,(aA (aX (i:=3) vU.nd rfl (ai rfl) (dh (bA (aa (dR [] ["k","x"] rfl (rJ rfl T.sG (ag (bv 1) aw)) (λ_ _ _ _=>(iz (i1:=0) (i2:=1) rfl (show(["k","x"]:List Str).Nodup by decide +kernel) rfl (ai (lr1 rfl)) rfl (ai (lr1 rfl)) (by decide) (by decide) (aV (lr1 rfl)) (aV (lr1 rfl)))) (λ_ _ _ _=>(FE (b9 (gJ (cJ hr)) (bv 1) (aa aj) (bM _)))) (λ_ _ _ _=>(dh (bv 0))) rfl trivial (λ_=>by repeat' (first | exact trivial | refine⟨.inl rfl,?_⟩ | refine⟨.inr (.inl rfl),?_⟩ | refine⟨.inr (.inr ⟨_,rfl⟩),?_⟩)) (λ_=>trivial) rfl (by decide +kernel))) (aa aj) (λ_ _=>rfl))))
   (aA (aX (i:=4) vU.nd rfl (ai rfl) (RM (P:=P) (w:=w) (K:=K) (mg:=mg) (base:=base) (n:=2) (bv 0) (hr.mono (by decide)) (ag (aa aj) (ag (bA (bv 1) (bv 3) (λ_ _=>rfl)) aw))))
   (aA (aX (i:=5) vU.nd rfl (ai rfl) (dO cC))
   (aA (fY eN rfl (Bp (dh (bv 2))) (cE (i:=6) vU.nd rfl (ai rfl))
    (aA (aX (i:=7) vU.nd rfl (ai rfl) (jr (P:=P) (w:=w) (K:=K) (mg:=mg) (base:=base) (n:=1) (bv 0) (hr.mono (by decide)) (ag (bv 6) (ag (aa (jr (P:=P) (w:=w) (K:=K) (mg:=mg) (base:=base) (n:=1) (bv 0) (hr.mono (by decide)) (ag (bA (bv 6) (bv 3) (λ_ _=>rfl)) (ag (bv 4) aw)))) (ag (bv 1) aw)))))
    (aE (kO (i:=5) rfl (by first | exact ai rfl | exact aV (ai rfl)) (aB cR (aa (yB (bv 7) xU (xV (bv 3)))) (aa (yB (bv 7) (xV (aa (aB cR (bv 3) (aa aj)))) xU)))))))
   (aE (aW (em 5))))))),λds Q h=>?_⟩
  obtain⟨m,c,os,rfl,hm,hn,hc,Me,k7,hol,q⟩:=h
  have eY:=(di hm).lo
  obtain⟨pl,pn⟩:=G7 hn
  have cp:=Me.getD (show 0<ae m by omega) (aY c)
  have cx:∃x∈c,x≠0:=⟨_,fv pl 0,pn⟩
  refine az λU hU=>?_
  nofun
  refine GP (aL c.length) (λ(i:Nat)=>D.tup [.int (i:Int),.int ((c.getD i 0:Nat):Int)]) (λ(i:Nat)=>D.int (i:Int)) (λi=>c.getD i 0 != 0) (GQ c) (λa b h=>by injection h with h;simp at h;omega) (λi hi=>?_) (.inr λ_ _ _=>rfl) (by rw[bZ,sL];omega) ?_
  ·nofun
   refine⟨?_,λ_=>trivial⟩
   by_cases h0:c.getD i 0=0
   ·rw[h0];rfl
   ·rw[decide_eq_false (by omega),bne_iff_ne.mpr h0];rfl
  dsimp only
  refine⟨.int (aY c:Nat),L3.BC (k:=0) (by rw[cj,Sa cx];rfl),rfl,hU _ ?_⟩
  clear hU U
  refine az λU hU=>?_
  nofun
  refine⟨_,_,_,_,vE _ _ m,UZ T m,RN m _ (by decide),.int (c.getD (aY c) 0:Nat),by rw[nR (by omega) (by omega),gQ],m,1,c.getD (aY c) 0,by rw[vE];rfl,hm,eY,cp,λz=>absurd z pn,λ_ iv Vj G8=>?_⟩
  have ei:mG m (c.getD (aY c) 0)=iv:=BZ hm Vj G8
  refine⟨rfl,hU _ ?_⟩
  clear hU U
  refine az λU hU=>?_
  nofun
  refine⟨by decide,hU _ ?_⟩
  clear hU U
  refine az λU hU=>?_
  nofun
  refine fX.mk (λi δ=>∃o6 o7,δ=[some (fD t.aH t.aO m),some (D.lst false (ak c)),some (D.lst false (ax false os)),some (D.int (aY c)),some (D.int iv),some (D.lst true (ax true (gO m c (os.take i)))),o6,o7]) ⟨_,_,rfl⟩ ?_ ?_
  ·rintro i d δ hd ⟨o6,o7,rfl⟩
   obtain⟨hi,rfl⟩:=ce1 hd
   clear hd hU
   obtain⟨ol,oa⟩:=k7 _ (dz hi)
   have op:=oa.getD (show 0<ae m by omega) (aY c)
   obtain⟨C,ns,xs,sp,e1,e2,e3,e4⟩:=UU (P:=P) (w:=w) (base:=base) T hm
   refine az λU hU=>?_
   nofun
   obtain⟨C1,n1,x1,sp1,g1,g2,g3,g4⟩:=cm7 (P:=P) (w:=w) (base:=base) T hm
   refine⟨C,ns,xs,sp,e1,e2,e3,C1,n1,x1,sp1,g1,g2,g3,.int (os[i].getD (aY c) 0:Nat),by rw[nR (by omega) (by omega),gQ],g4 _ iv _ op Vj ⟨rfl,e4 os[i] c (gm m (os[i].getD (aY c) 0) iv) _ (dy hm _ _) Me (by omega) ⟨rfl,hU _ ?_⟩⟩⟩
   clear hU
   have ep:gO m c (os.take (i+1))=gO m c (os.take i)++[(cT (λx y=>bO m x (gm m (gm m (os[i].getD (aY c) 0) iv) y)) os[i] c).take (aY c)++(cT (λx y=>bO m x (gm m (gm m (os[i].getD (aY c) 0) iv) y)) os[i] c).drop (aY c+1)]:=by
    unfold gO
    rw[mT,aP hi,NL,fo,dn,jW,ei]
   rw[ep]
   have ll:(cT (λx y=>bO m x (gm m (gm m (os[i].getD (aY c) 0) iv) y)) os[i] c).length<=64:=by rw[i5];omega
   generalize cT (λx y=>bO m x (gm m (gm m (os[i].getD (aY c) 0) iv) y)) os[i] c=lf at ll ⊢
   have pl2:(gO m c (os.take i)).length<=1000:=by rw[SQ,iF];omega
   nofun
   rw[QT,show((aY c:Int)+1)=((aY c+1:Nat):Int) by omega,Gh]
   exact⟨⟨_,rfl⟩,by rw[iF,lF];omega,by omega,_,_,sk true _ [lf.take (aY c)++lf.drop (aY c+1)],rfl,rfl⟩
  ·rintro δ ⟨o6,o7,rfl⟩
   refine hU _ ?_
   nofun
   rw[tI]
   exact q
def fC(o:Bool)(l:List Cs):List D:=l.map λs=>.tup [.lst o (ak s.1),.lst o (ax o s.2)]
theorem Vk(o:Bool)(l:List Cs):(fC o l).map D.sh=fC false l:=by
 unfold fC
 rw[cw]
 refine tL λs _=>?_
 show(D.tup [.lst o (ak s.1),.lst o (ax o s.2)]).sh=_
 rw[mi,dn,dn,jW,yU,dM,dX]
theorem cp8(l:List Cs):(fC false l).all D.pl=true:=by
 rw[dr]
 intro d hd
 obtain⟨s,_,rfl⟩:=bD.mp hd
 show(D.tup [.lst false (ak s.1),.lst false (ax false s.2)]).pl=true
 rw[kI,dq,dq,fW,fW,kR,pE];rfl
theorem ce3(o:Bool)(a b:List Cs):fC o a++fC o b=fC o (a++b):=by unfold fC;rw[fo]
theorem cp1{o:Bool}{l:List Cs}{i:Nat}{d:D}(hd:(fC o l)[i]?=some d):∃hi:i<l.length,d=.tup [.lst o (ak l[i].1),.lst o (ax o l[i].2)]:=by
 unfold fC at hd
 rw[cj]at hd
 by_cases hi:i<l.length
 ·rw[aP hi]at hd
  exact⟨hi,(cS hd).symm⟩
 ·rw[gj (by omega)]at hd;cases hd
theorem cc7(o:Bool)(l:List Cs):dP 6 (.lst o (fC o l))=true:=by
 show(fC o l).all (dP 5)=true
 rw[dr]
 intro d hd
 obtain⟨s,_,rfl⟩:=bD.mp hd
 show([D.lst o (ak s.1),.lst o (ax o s.2)]).all (dP 4)=true
 rw[dq,dq,mD 3 o s.1,vI 2 o o s.2];rfl
theorem bX6{m:Bool × Nat}{c:List Nat}{os:List (List Nat)}{N:Nat}(h:∀o∈os,o.length<=N):∀x∈gO m c os,x.length<=N:=λx hx=>by
 obtain⟨o,ho,rfl⟩:=bD.mp hx
 have:=h o ho
 rw[dG,iF,lF,i5]
 omega
theorem Mg{W:Nat}:∀{l:List Cs},(∀s∈l,s.2.length<=W)->(dS l).length<=l.length*W
 | [],_=>lD _
 | s::l,h=>by
  have ih:=Mg (λs hs=>h s (gi _ hs))
  have h1:=h s (iW ..)
  show(fA s++dS l).length<=_
  rw[dG,show(fA s).length=s.2.length by unfold fA;rw[bt,bZ],jx,Nat.succ_mul]
  omega
def cN1:Option (List Nat)->D
 | some l=>.lst true (ak l)
 | none=>.av
abbrev aM6(t:eR)(P:Program)(w:World)(K:Frag)(mg:Str->Option Value)(base:Heap):bh:=λds Q=>∃(m:Bool × Nat) (G:List (List Nat)),ds=[fD t.aH t.aO m,.lst false (ax false G)]/\m∈aF/\G.length<=64/\RT (ae m) (au G) G/\0<au G/\au G<=6/\Q (cN1 (nU m G))
theorem aM7(T:Txt K mg t):aM P w K mg base aQ 4 t.Kj t.Kk ["field","table"] (bj (aM6 t P w K mg base)):=by
 refine bz T.Ui pL ?_ ?_
 ·intro ds Q h
  obtain⟨m,G,rfl,hm,hG,hR,Mh,hw,q⟩:=h<;>rfl
 ·intro aC A outer s H E hr
  refine⟨_,(aA (aX (i:=2) pL.nd rfl (ai rfl) (bu ((Dr T).mono (by decide)) hr rfl T.CG T.zk.kp T.CH aU (ag (bv 1) aw)))
   (aA (aX (i:=3) pL.nd rfl (ai rfl) (dO (cq (nz (cq (dO cC) (cq (bu ((Vg T).mono (by decide)) hr rfl T.Ud T.Lu.kp T.Ue aU (ag (bv 1) aw)) cC))) cC)))
   (aA (uB eN (b9 (gJ (cJ hr)) (bv 3) (aa (dO cC)) (bM _))
    (aA (aX (i:=4) pL.nd rfl (ai rfl) (dO cC))
    (Fx 3 (aA (fY eN rfl (Bp (dh (bv 3))) (iz (i1:=5) (i2:=6) rfl pL.nd rfl (ai rfl) rfl (ai rfl))
     (aE (fY eN rfl (rJ rfl T.sG (ag (bv 6) aw)) (iz (i1:=7) (i2:=8) rfl pL.nd rfl (ai rfl) rfl (ai rfl))
      (aA (aX (i:=9) pL.nd rfl (ai rfl) (aB cR (bv 5) (aa (dO (cq (aB cR (aa (aB dB (bv 2) (aa (cV (gB) (by rfl) T.gg fV (ag (bv 6) aw))))) (bv 7)) cC)))))
      (aA (cQ (gZ (aa (bu ((aS1 T).mono (by decide)) hr rfl T.dq7 T.Ug.kp T.dq8 aU (ag (bv 8) aw)))) (aE (aW (em 9))) cP)
      (aE (kO (i:=4) rfl (by first | exact ai rfl | exact aV (ai rfl)) (nz (cq (em 9) (cq (bu ((cs0 T).mono (by decide)) hr rfl T.dr3 T.Uh.kp T.dr4 aU (ag (bv 0) (ag (bv 8) (ag (aa (yB (bv 6) (xV (aa (aB cR (bv 7) (aa aj)))) xU)) aw)))) cC))))))))))
    (aE (aX (i:=3) pL.nd rfl (ai rfl) (em 4)))))))
   (aE (aW Fv))))),λds Q h=>?_⟩
  obtain⟨m,G,rfl,hm,hG,hR,Mh,hw,q⟩:=h
  have eY:=(di hm).lo
  refine az λU hU=>?_
  nofun
  refine⟨G,rfl,by omega,λr bq=>by rw[(hR r bq).1];omega,hU _ ?_⟩
  clear hU U
  refine az λU hU=>?_
  nofun
  refine⟨by decide,G,rfl,by omega,λr bq=>(hR r bq).1,by omega,by decide,by decide,hU _ ?_⟩
  clear hU U
  have Ls:=Lv.start hm Mh hR
  refine az λU hU=>?_
  nofun
  refine⟨λn δ=>∃(l:List Cs) (k:Nat) (o4 o5 o6 o7 o8 o9:Option D),δ=[some (fD t.aH t.aO m),some (D.lst false (ax false G)),some (D.int (au G)),some (D.lst true (fC true l)),o4,o5,o6,o7,o8,o9]/\Lv m (jT G) (au G) k l/\k+n=au G+1/\sA m (au G) n l=nU m G/\l.length<=6 ^ k/\∀s∈l,∀r∈s.2,r.length<=64,⟨au G+1,[([],eJ G)],0,_,_,_,_,_,_,rfl,Ls,by omega,rfl,bG _,λs hs r bq=>?_⟩,?_⟩
  ·rw[eW.mp hs]at bq
   have:=((Sy (by omega) Mh hR).2.2 r bq).1
   omega
  rintro n δ ⟨l,k,o4,o5,o6,o7,o8,o9,rfl,L,hk,Mi,Mj,mM⟩
  nofun
  refine⟨by decide,⟨cc7 true l,rfl⟩,?_⟩
  by_cases l0:l=[]
  ·subst l0
   rw[show bF (D.lst true (fC true [])) (D.lst true [])=true from rfl,if_neg (by decide)]
   refine hU _ ?_
   nofun
   have e0:nU m G=none:=by
    rw[<-Mi]
    cases n with
    | zero=>rfl
    | succ n=>rfl
   rw[e0]at q
   exact q
  have d0:bF (D.lst true (fC true l)) (D.lst true [])=false:=by
   cases l with
   | nil=>exact absurd rfl l0
   | cons s l=>rfl
  rw[d0,if_pos (by decide)]
  have zK:∀s∈l,jt (au G) s.1/\s.2.length<=6:=λs hs=>by
   have g:=(L.gs s hs).1
   have gl:=g.le
   exact⟨⟨g.inc,λx hx=>by have:=g.off x hx;omega⟩,by omega⟩
  obtain⟨n,rfl⟩:∃n',n=n'+1:=by
   cases n with
   | succ n=>exact⟨n,rfl⟩
   | zero =>
    exfalso
    cases l with
    | nil=>exact l0 rfl
    | cons s l =>
     have h1:=(zK s (iW ..)).1.len
     have h2:=(L.gs s (iW ..)).2
     omega
  clear hU
  have k6:6 ^ k*6<=279936:=by
   have:6 ^ (k+1)<=6 ^ 7:=wF (by decide) (by omega)
   rw[mP]at this
   exact this
  have dH1:∀a,(dS (l.take a)).length<=279936:=λa=>by
   have h1:=Mg (W:=6) (l:=l.take a) λs hs=>(zK s (tJ hs)).2
   have h2:(l.take a).length<=6 ^ k:=by rw[iF];omega
   have:=Xp 6 h2
   omega
  refine az λU hU=>?_
  nofun
  refine⟨by decide,hU _ ?_⟩
  clear hU
  refine⟨_,rfl,?_⟩
  rw[dM,Vk]
  simp only[jz,jy]
  refine az λU hU=>?_
  nofun
  refine⟨cp8 l,?_⟩
  rw[Vk]
  refine fX.mk (λa δ=>(∀z∈dS (l.take a),nS z=false)/\∃o5 o6 o7 o8 o9,δ=[some (fD t.aH t.aO m),some (D.lst false (ax false G)),some (D.int (au G)),some (D.lst false (fC false l)),some (D.lst true (fC true ((dS (l.take a)).map (iS m (au G))))),o5,o6,o7,o8,o9]) ⟨λz hz=>absurd hz iZ,_,_,_,_,_,rfl⟩ ?_ ?_
  ·rintro a d δ hd ⟨pJ,o5,o6,o7,o8,o9,rfl⟩
   obtain⟨ha,rfl⟩:=cp1 hd
   clear hd hU
   have hs:=dz ha
   obtain⟨gs,gk⟩:=L.gs _ hs
   obtain⟨hh,Ml⟩:=gs.rt
   have g6:=(zK _ hs).2
   have et:dS (l.take (a+1))=dS (l.take a)++fA l[a]:=by
    unfold dS
    rw[mT,aP ha,NL,Xq,List.flatMap_cons,List.flatMap_nil,fm]
   rw[et]
   have Vl:=dH1 (a+1)
   rw[et,dG]at Vl
   generalize hS:l[a]=s0 at hs gs gk Ml g6 et Vl ⊢
   have l1:(fA s0).length=s0.2.length:=by unfold fA;rw[bt,bZ]
   nofun
   refine fX.mk (λi δ=>(∀z∈(fA s0).take i,nS z=false)/\∃o7 o8 o9,δ=[some (fD t.aH t.aO m),some (D.lst false (ax false G)),some (D.int (au G)),some (D.lst false (fC false l)),some (D.lst true (fC true ((dS (l.take a)++(fA s0).take i).map (iS m (au G))))),some (D.lst false (ak s0.1)),some (D.lst false (ax false s0.2)),o7,o8,o9]) ⟨λz hz=>absurd hz iZ,_,_,_,by rw[List.take_zero,fm]⟩ ?_ ?_
   ·rintro i d δ hd ⟨zL,o7,o8,o9,rfl⟩
    obtain⟨hi,rfl⟩:=R9 hd
    clear hd
    obtain⟨cl,ca⟩:=Ml _ (dz hi)
    have gc:s0.2.getD i []=s0.2[i]:=by rw[aT,aP hi];rfl
    have gle:=gs.le
    have ei:(fA s0).take (i+1)=(fA s0).take i++[(s0,i)]:=by
     rw[mT]
     congr 1
     unfold fA
     rw[cj,jY hi];rfl
    have hh6:hh<=64:=by have:=mM _ hs _ (dz hi);omega
    have il1:=(zK _ hs).1.len
    simp only[jL,jz,jy]
    refine az λU hU=>?_
    nofun
    have eb:ak s0.1++[D.int ((au G:Int)-(s0.2.length:Int)+(i:Int))]=ak (jS (au G) (s0,i)):=by
     unfold jS
     rw[cA,cA,fo]
     show _=_++[D.int ((au G-s0.2.length+i:Nat):Int)]
     rw[show(au G:Int)-(s0.2.length:Int)+(i:Int)=((au G-s0.2.length+i:Nat):Int) by omega]
    rw[eb]
    refine⟨by decide,by omega,hU _ ?_⟩
    clear hU
    refine az λU hU=>?_
    nofun
    refine⟨s0.2[i],rfl,by omega,nul s0.2[i],rfl,?_⟩
    cases hz:nul s0.2[i]with
    | true =>
     rw[if_pos rfl]
     have ef:nU m G=some (jS (au G) (s0,i)):=by
      rw[<-Mi,sA,if_neg l0]
      have:(dS l).find? nS=some (s0,i):=by
       refine Xn.mpr ⟨by show nul (s0.2.getD i [])=true;rw[gc];exact hz,dS (l.take a)++(fA s0).take i,(fA s0).drop (i+1)++dS (l.drop (a+1)),?_,λz Mm=>?_⟩
       ·have e1:dS l=dS (l.take (a+1))++dS (l.drop (a+1)):=by
         conv=>lhs;rw[<-N6 (a+1) l]
         unfold dS
         rw[Xq]
        have e2:fA s0=(fA s0).take i++(s0,i)::(fA s0).drop (i+1):=by
         conv=>lhs;rw[<-N6 (i+1) (fA s0),ei,c9]
         rfl
        rw[e1,et]
        conv=>lhs;rw[e2]
        simp only[c9,mW]
       ·have:=(bX.mp Mm).elim (pJ z) (zL z)
        rw[this];rfl
      rw[this];rfl
     rw[ef]at q
     exact q
    | false =>
     rw[if_neg (by decide)]
     refine hU _ ?_
     clear hU
     nofun
     rw[show((i:Int)+1)=((i+1:Nat):Int) by omega,Gh,ei]
     refine⟨⟨_,rfl⟩,m,s0.2[i],s0.2.drop (i+1),rfl,hm,hz,by omega,ca,λr bq=>by rw[cl];exact Ml r (p9 bq),by rw[lF];omega,by rw[fJ,pF];rfl,by decide,?_,λz Mm=>?_,_,_,_,?_,rfl,rfl,rfl⟩
     ·unfold fC
      rw[bt,bt,dG,iF]
      omega
     ·rcases bX.mp Mm with y | y
      ·exact zL z y
      ·rw[eW.mp y]
       show nul (s0.2.getD i [])=false
       rw[gc];exact hz
     ·rw[<-c9,fo (l₁:=dS (l.take a)++(fA s0).take i),<- ce3]
      congr 1
      show _=[D.tup [.lst true (ak (iS m (au G) (s0,i)).1),.lst true (ax true (iS m (au G) (s0,i)).2)]]
      show _=[D.tup [.lst true (ak (jS (au G) (s0,i))),.lst true (ax true (gO m (s0.2.getD i []) (s0.2.drop (i+1))))]]
      rw[gc]
   ·rintro δ ⟨zL,o7,o8,o9,rfl⟩
    rw[show(fM (ax false s0.2)).length=(fA s0).length by rw[rH,km,l1],tI]at zL ⊢
    exact⟨λz hz=>(bX.mp hz).elim (pJ z) (zL z),_,_,_,_,_,rfl⟩
  ·rintro δ ⟨pJ,o5,o6,o7,o8,o9,rfl⟩
   refine hU _ ?_
   clear hU
   rw[show(fC false l).length=l.length by unfold fC;rw[bt],tI]at pJ ⊢
   nofun
   have hf:(dS l).find? nS=none:=N2.mpr λz hz=>by rw[pJ z hz];decide
   refine⟨n,by omega,_,k+1,_,_,_,_,_,_,⟨rfl,rfl,rfl,rfl,rfl,rfl,rfl⟩,L.next hm (S1 hm hR) pJ,by omega,?_,?_,λs hs r bq=>?_⟩
   ·rw[<-Mi,sA,if_neg l0,hf]
   ·rw[bt,mP]
    have:=Mg (W:=6) λs hs=>(zK s hs).2
    exact fk this (Xp 6 Mj)
   ·obtain⟨z,hz,rfl⟩:=bD.mp hs
    exact bX6 (λo ho=>mM _ (vN.mp hz).1 o (p9 ho)) r bq
abbrev bB0(t:eR):List D->List Str->List D->Prop:=λds ns xs=>∃(m:Bool × Nat) (G:List (List Nat)) (Fb:List Nat),ds=[fD t.aH t.aO m,.lst false (ax false G)]/\fj m G/\1<=G.length/\G.length<=12/\2<=au G/\au G<=6/\nU m G=some Fb/\ns=(["field","length","check_rows","word_rows","message_places","size","bound"]:List Str)/\xs=mI t.aH t.aO true m G++[.int (Fb.length:Nat)]
theorem Vm(T:Txt K mg t)(hB:Bm mg base):aM P w K mg base aQ 5 t.Kl t.Km ["self","field","table"] (Ck [t.iT,t.iU] t.bI (bB0 t)):=by
 refine T.dr7.ok aE3 (λvs H Q E h=>?_) λaC A outer s H vs Q E hr h=>?_
 ·obtain⟨F,H0,x,dx,bR,ds,ns,xs,rfl,_,_,_,_,_,r,⟨m,G,Fb,rfl,_⟩,_⟩:=h
  have:=r.length
  simp at this
  simp[this]
 obtain⟨F,H0,x,dx,bR,ds,ns,xs,rfl,tb,e0,gy,s0,hx,r,⟨m,G,Fb,rfl,hc,g1,zJ,w2,w6,hF,rfl,rfl⟩,q⟩:=h
 have hm:=hc.hm
 have hG:=hc.rt
 obtain⟨vf,Dv,B1,B2,rfl,Mn,rf,r2⟩:=R.cO r
 obtain⟨rfl,rfl⟩:=p8.mp Mn.symm
 obtain⟨vc,Fm,B1,B2,rfl,dH3,rc,r3⟩:=R.cO r2
 obtain⟨rfl,rfl⟩:=p8.mp dH3.symm
 cases r3
 refine⟨_,eP (qm (AK (AJ (je ((aF6 T).mono (by decide)) hr rfl T.dq3 T.Ub.kp T.dq4 .nil aU (bV (pv 1) (bV (pv 2) eX))))) (i8 qo) qk)
  (eP (qm (b9 (gz (cJ hr)) (aa (bu ((cn4 T).mono (by decide)) hr rfl T.dq5 T.Uc.kp T.dq6 aU (ag (bv 1) (ag (bv 2) aw)))) (aa (cV (gB) (by rfl) T.gg fV (ag (bA (bv 2) (aa aj) (λ_ _=>rfl)) aw))) (bM _)) (i8 qo) qk)
  (eP (ql (Hc (E:=E0) T.LR ((at2 T).mono (by decide)) hr T.Lr aU rfl T.wk (bV (pv 0) (bV (pv 1) (bV (pv 2) eX)))))
  (i8 (gW (pv 0) (cV (gB) (by rfl) T.gg fV (ag (aa (bu ((aM7 T).mono (by decide)) hr rfl T.dr5 T.Ui.kp T.dr6 aU (ag (bv 1) (ag (bv 2) aw)))) aw)) rfl)))),?_⟩
 refine⟨_,rfl,_,rfl,F,[fD t.aH t.aO m,.lst false (ax false G)],λd=>d=.bl true,e0.trans s0,R.cons (A:=[]) (rf.shared (L3.af.refl _) s0) (rc.shared (L3.af.refl _) s0),⟨m,G,rfl,hm,hG,g1,zJ,w2,by omega,rfl⟩,λd v F1 H1 A1 hd eK zH L9 U7 r1 U8 Ma=>?_⟩
 subst hd
 cases r1
 refine⟨true,rfl,?_⟩
 refine jf ?_
 have s1:=s0.trans eK
 have cz:=eK.get _ _ hx rfl
 have nr:(bW m G).length≠au G:=λz=>by
  obtain⟨⟨Hd,I⟩,iR⟩:=hc.red
  have:=I.G6 hm iR
  have h0:=hc.sz
  unfold bS at h0
  omega
 refine⟨⟨H1,F⟩,F,[none,some (fD t.aH t.aO m),some (.lst false (ax false G))],[],λb _=>b=false,aq.self (e0.trans s1) (.dN (A:=[]) (C:=[]) (rf.shared (L3.af.refl _) s1) (.dN (A:=[]) (C:=[]) (rc.shared (L3.af.refl _) s1) .nil)),?_,λb ah F2 H2 hb hf2 ft c2=>?_⟩
 ·nofun
  refine⟨m,G,rfl,hm,by omega,hG,by omega,?_⟩
  obtain⟨g,G',rfl⟩:∃g G',G=g::G':=by
   cases G with
   | nil=>exact absurd g1 (by decide)
   | cons g G'=>exact⟨g,G',rfl⟩
  refine⟨.lst false (ak g),sq false (T:=g::G') (i:=0) (ou _),rG 5 ((bW m (g::G')).length:Nat),?_⟩
  rw[jK,dW]
  exact decide_eq_false λz=>nr (Int.ofNat.inj z)
 subst hb
 refine jf ?_
 have s2:=s1.trans ft
 have dU:=ft.get _ _ cz rfl
 refine⟨.ref x,rfl,vf,rfl,vc,rfl,F,H0,x,dx,t.bI,vf,vc,m,G,[],rfl,e0,gy,s2,dU,.nil,⟨T.vZ,T.CQ,T.CS,T.CP,T.CV,T.CT,T.CU⟩,rf,rc,hm,hG,by omega,by omega,λH' p1 p2 p3 B1 B2 B3 sx cY k1 k2 k3 nd fr=>?_⟩
 have so:=bL.of0 gy s2 sx
 refine⟨⟨H',F⟩,F,[none,some (fD t.aH t.aO m),some (.lst false (ax false G))],[],λd _=>d=.int (Fb.length:Nat),aq.self (e0.trans so) (.dN (A:=[]) (C:=[]) (rf.shared (L3.af.refl _) so) (.dN (A:=[]) (C:=[]) (rc.shared (L3.af.refl _) so) .nil)),?_,λd ah v F3 H3 hd zG hJ c3=>?_⟩
 ·nofun
  refine⟨m,G,rfl,hm,by omega,hG,by omega,w6,?_⟩
  rw[hF]
  show(((ak Fb).length:Nat):Int)=_
  rw[dW]
 subst hd
 obtain⟨A3,C3,r3,_,nd3,_⟩:=c3.own
 obtain rfl:v=.int (Fb.length:Nat):=by cases r3;rfl
 have ff:=hJ.get _ _ cY rfl
 refine⟨.ref x,rfl,x,t.bI,dx,_,rfl,ff,T.vZ,T.CO,by show 6<1000;decide,?_⟩
 have mv:∀{ds:List D} {vs:List V} {A':List Addr} {fs':List (Str × V)},R (λ_=>none) H' ds vs A'->ds.all D.fr=true->R (λ_=>none) (upd H3 x (.ins t.bI dx fs')) ds vs A':=λr hd=>(r.grow (L3.af.refl _) hJ λa ha=>(r.lists a ha).2).rR ff hd
 have fR:∀X:List (List Nat),[D.lst true (ax true X)].all D.fr=true:=λX=>by rw[dq,fJ,pF];rfl
 have fN:∀X:List Nat,[D.lst true (ak X)].all D.fr=true:=λX=>by rw[dq,g9];rfl
 have z:=((((eK.trans ft).x (x:=x)).trans sx).trans (hJ.x (x:=x))).trans (bL.upd (C:=x) (dx:=dx) ff rfl (o':=.ins t.bI dx (bB "bound" (.int (Fb.length:Nat)) ([]++nV.zip [vf,.int (au G:Nat),.ref p1,.ref p2,.ref p3,.int ((bS m G).length:Nat)]))))
 refine q _ [vf,.int (au G:Nat),.ref p1,.ref p2,.ref p3,.int ((bS m G).length:Nat),.int (Fb.length:Nat)] (B1++(B2++(B3++[]))) z (by rw[bJ];rfl) rfl ?_ ?_ ?_
 ·have e:=e0.trans s0
  have up:∀{wt:Hp} {ds:List D} {vs:List V} {B:List Addr},R (λ_=>none) wt ds vs B->(∀a∈B,H2 a=none)->R F wt ds vs B:=λr h=>r.keep (L3.af.of λb o e=>by cases e) (fK.same (L3.af.refl _)) gu.nil (λa ha=>e.free ((eK.trans ft).free (h a ha))) (by simp)
  exact R.cons (A:=[]) (rf.shared (L3.af.refl _) (bL.of0 gy s0 z)) (.int (R.cons (up (mv k1 (fR _)) λa ha=>fr a (eV _ ha)) (R.cons (up (mv k2 (fR _)) λa ha=>fr a (cZ _ (eV _ ha))) (R.cons (up (mv k3 (fN _)) λa ha=>fr a (cZ _ (cZ _ ha))) (.int (.int .nil))))))
 ·rw[fm];exact nd
 ·rw[fm]
  intro a ha
  exact(eK.trans ft).free (fr a ha)
abbrev aP3:bh:=λds Q=>∃(m:Bool × Nat) (a b:Nat),ds=[dk m,.int a,.int b]/\m∈aF/\a<ae m/\b<ae m/\Q (.int (gm m a b:Nat))
theorem Dw(T:Txt K mg t):aM P w K mg base aQ 1 t.Kn t.Ko ["_law_told_here","_law_a","_law_b"] (bj (aP3 )):=by
 refine bz T.zo vV ?_ ?_
 ·intro ds Q h
  obtain⟨m,a,b,rfl,hm,ha,hb,q⟩:=h<;>rfl
 ·intro aC A outer s H E hr
  refine⟨_,(aA (cQ (mm (gZ (bA (bv 0) (aa aj) (λ_ _=>rfl)))) (aE (aW (aB dD (aa (aB fu (bv 1) (bv 2))) (bA (bv 0) (aa aj) (λ_ _=>rfl))))) cP)
   (aA (aX (i:=3) vV.nd rfl (ai rfl) aj)
   (aA (uB eN (b9 FG (bv 2) (aa aj) (bM _))
    (aA (cQ (b9 (gz (cJ hr)) (aa (aB Qg (bv 2) (aa aj))) (aa aj) (bM _)) (aE (aX (i:=3) vV.nd rfl (ai rfl) (aB xR (bv 3) (bv 1)))) cP)
    (aA (aX (i:=1) vV.nd rfl (ai rfl) (aB uO (bv 1) (aa aj)))
    (aA (cQ (b9 (gz (cJ hr)) (aa (nH (bv 1))) (aa (nH (bA (bv 0) (aa aj) (λ_ _=>rfl)))) (bM _)) (aE (aX (i:=1) vV.nd rfl (ai rfl) (aB xR (bv 1) (bA (bv 0) (aa aj) (λ_ _=>rfl))))) cP)
    (aE (aX (i:=2) vV.nd rfl (ai rfl) (aB Qf (bv 2) (aa aj))))))))
   (aE (aW (em 3)))))),λds Q h=>?_⟩
  obtain⟨m,a,b,rfl,hm,ha,hb,q⟩:=h
  unfold dk at *
  obtain⟨k,n⟩:=m
  refine az λU hU=>?_
  nofun
  have hF:=di hm
  cases k with
  | false =>
   refine⟨_,rfl,false,rfl,?_⟩
   have pS:n<=64:=hF.hi
   have l2:2<=n:=hF.lo
   have BB:a<n:=ha
   have yJ:b<n:=hb
   rw[if_pos (by decide)]
   refine⟨ia.ok (.inr ⟨by omega,by omega⟩),_,rfl,by omega,?_⟩
   have e:((gm (false,n) a b:Nat):Int)=(a:Int)*b%n:=by
    show((a*b%n:Nat):Int)=_
    rw[oo,tN]
   rw[<-e];exact q
  | true =>
   refine⟨_,rfl,true,rfl,?_⟩
   rw[if_neg (by decide)]
   have hp:=vC hm
   have bp:=RB n hp
   have Dq:=RC n hp
   have p0:n≠0:=λz=>by rw[z,nj]at Dq;omega
   have gy:bl a<bl n:=by
    have:=eZ.mpr (show a<2 ^ (bl n-1) from ha)
    omega
   have hy0:bl b<bl n:=by
    have:=eZ.mpr (show b<2 ^ (bl n-1) from hb)
    omega
   refine hU _ ?_
   clear hU U
   refine az λU hU=>?_
   nofun
   refine hU _ ?_
   clear hU U
   refine az λU hU=>?_
   nofun
   refine⟨λm δ=>∃(x y z:Nat),δ=[some (.tup [.bl true,.int n]),some (.int (x:Nat)),some (.int (y:Nat)),some (.int (z:Nat))]/\z ^^^ md (cl x y) n=gm (true,n) a b/\bl x<bl n/\bl y<bl n/\m=bl y,
    ⟨bl b,a,b,0,rfl,by rw[oj];rfl,gy,hy0,rfl⟩,?_⟩
   rintro m δ ⟨x,y,z,rfl,inv,hx,hy,rfl⟩
   nofun
   split
   ·rename_i Mo
    have UO:=ik (show y≠0 by omega)
    have Ds:bl (y/2)=bl y-1:=Θ y
    have e1:((x:Int)*2 ^ (1:Int).toNat)=((2*x:Nat):Int):=by
     show(x:Int)*(2:Int) ^ 1=_
     omega
    have e2:((y:Int)/2 ^ (1:Int).toNat)=((y/2:Nat):Int):=by
     show(y:Int)/(2:Int) ^ 1=_
     omega
    have a1:oh (y:Int) 1=((y%2:Nat):Int):=by
     rw[show(1:Int)=((1:Nat):Int) from rfl,Po,Nat.and_one_is_mod]
    have tm:=cq1 (y:=y) p0 hx
    have tb:=co4 p0 hx
    clear hU
    refine az λU hU=>?_
    nofun
    have fin:∀z':Nat,z'=z ^^^ (if y%2=1 then x else 0)->U [some (.tup [.bl true,.int n]),some (.int x),some (.int y),some (.int z')]:=by
     intro z' hz
     have dH6:z' ^^^ md (cl (if bl (2*x)=bl n then 2*x ^^^ n else 2*x) (y/2)) n=gm (true,n) a b:=by
      rw[hz,pY,<- tm];exact inv
     refine hU _ ?_
     clear hU
     refine az λU hU=>?_
     nofun
     refine⟨⟨by decide,by simp only[i6];omega⟩,hU _ ?_⟩
     clear hU
     rw[e1]
     refine az λU hU=>?_
     nofun
     have last:∀x':Nat,x'=(if bl (2*x)=bl n then 2*x ^^^ n else 2*x)->U [some (.tup [.bl true,.int n]),some (.int (x':Nat)),some (.int y),some (.int z')]:=by
      intro x' cY
      refine hU _ ?_
      nofun
      exact⟨by decide,bl (y/2),by omega,x',y/2,z',⟨rfl,e2,rfl⟩,by rw[cY];exact dH6,by rw[cY];exact tb,by omega,rfl⟩
     refine⟨_,rfl,?_⟩
     show(if(((bl (((2*x:Nat):Int)).natAbs:Nat):Int)=((bl ((n:Int)).natAbs:Nat):Int))then _ else _)
     rw[i6,i6]
     split
     ·rename_i hc
      refine⟨_,rfl,?_⟩
      have g:=last (2*x ^^^ n) (by rw[if_pos (by omega)])
      rw[<-nk]at g
      exact g
     ·rename_i hc
      exact last (2*x) (by rw[if_neg (by omega)])
    rw[a1]
    split
    ·rename_i Dn
     have odd:y%2=1:=by omega
     have g:=fin (z ^^^ x) (by rw[if_pos odd])
     rw[<-nk]at g
     exact g
    ·rename_i Dn
     exact fin z (by rw[if_neg (by omega),lJ])
   ·rename_i Mo
    have hy:y=0:=by omega
    subst hy
    rw[ζ,yS (by rw[nj];exact ik p0),lJ]at inv
    subst inv
    refine hU _ ?_
    nofun
    exact q
def n8(g:Nat->Nat->Nat)(a:Nat):Nat->List Int->Nat->Option (List Int)
 | 0,_,_=>none
 | f+1,l,p=>if g p a=1 then some l else n8 g a f (l++[((g p a:Nat):Int)]) (g p a)
def Vn(m:Bool × Nat):Bool:=decide (1<=(fst m).toNat)&&decide ((fst m).toNat<ae m)&&((aL ((fst m).toNat-1)).all λi=>match n8 (gm m) (i+1) 64 [1] 1 with | none=>false | some l=>decide (l.length≠ae m-1))&&decide (n8 (gm m) (fst m).toNat 64 [1] 1=some (fl m))
theorem cC5:aF.all Vn=true:=by decide +kernel
theorem cJ6{m:Bool × Nat}(hm:m∈aF):∃s:Nat,1<=s/\s<ae m/\(∀i,i<s-1->∃l,n8 (gm m) (i+1) 64 [1] 1=some l/\l.length≠ae m-1)/\n8 (gm m) s 64 [1] 1=some (fl m):=by
 have h:=dr.mp cC5 m hm
 simp only[Vn,eC,dr,decide_eq_true_eq,cX]at h
 refine⟨_,h.1.1.1,h.1.1.2,λi hi=>?_,h.2⟩
 have h3:=h.1.2 i hi
 cases e:n8 (gm m) (i+1) 64 [1] 1 with
 | none=>rw[e]at h3;cases h3
 | some l=>rw[e]at h3;exact⟨l,rfl,of_decide_eq_true h3⟩
abbrev aM8:bh:=λds Q=>∃m:Bool × Nat,ds=[dk m]/\m∈aF/\Q (.lst true (aG (fl m)))
theorem aM9(T:Txt K mg t):aM P w K mg base aQ 2 t.Kp t.Kq ["_law_told_here"] (bj (aM8 )):=by
 refine bz T.Uk Ih ?_ ?_
 ·intro ds Q h
  obtain⟨m,rfl,hm,q⟩:=h<;>rfl
 ·intro aC A outer s H E hr
  refine⟨_,(aA (fY eN rfl (xO rfl T.gP (ag (aa aj) (ag (aa (bu ((Dm T).mono (by decide)) hr rfl T.CC T.zi.kp T.CD aU (ag (bv 0) aw))) aw))) (cE (i:=1) Ih.nd rfl (ai rfl))
    (aA (aX (i:=2) Ih.nd rfl (ai rfl) (dO (cq aj cC)))
    (aA (uB eN (b9 (gJ (cJ hr)) (aa (bu ((Dw T).mono (by decide)) hr rfl T.CJ T.zo.kp T.CK aU (ag (bv 0) (ag (bA (bv 2) (aa (Qq (aa aj))) (λ_ _=>rfl)) (ag (bv 1) aw))))) (aa aj) (bM _))
     (aE (kO (i:=2) rfl (by first | exact ai rfl | exact aV (ai rfl)) (bu ((Dw T).mono (by decide)) hr rfl T.CJ T.zo.kp T.CK aU (ag (bv 0) (ag (bA (bv 2) (aa (Qq (aa aj))) (λ_ _=>rfl)) (ag (bv 1) aw)))))))
    (aE (cQ (b9 (gz (cJ hr)) (aa (cV (gB) (by rfl) T.gg fV (ag (bv 2) aw))) (aa (aB dB (aa (bu ((Dm T).mono (by decide)) hr rfl T.CC T.zi.kp T.CD aU (ag (bv 0) aw))) (aa aj))) (bM _)) (aE (aW (em 2))) cP)))))
   (aE (aW (dO (cq aj cC))))),λds Q h=>?_⟩
  obtain⟨m,rfl,hm,q⟩:=h
  have hF:=di hm
  have eY:=hF.lo
  have zM:=hF.hi
  have Vo:=GJ m hm
  obtain⟨st,s1,s2,s3,s4⟩:=cJ6 hm
  refine az λU hU=>?_
  nofun
  refine⟨m,rfl,by omega,by omega,1,_,⟨rfl,rfl⟩,⟨by decide,by decide,by omega,by omega⟩,?_⟩
  refine fX.mk (λi δ=>i<=st-1/\∃o1 o2,δ=[some (dk m),o1,o2]) ⟨by omega,none,none,rfl⟩ ?_ ?_
  ·rintro i d δ hd ⟨hi,o1,o2,rfl⟩
   obtain⟨yA,rfl⟩:=cc2 hd
   rw[show(1:Int)+(i:Int)=((i+1:Nat):Int) by omega]
   clear hd
   obtain⟨L,eL,hL⟩:∃L,n8 (gm m) (i+1) 64 [1] 1=some L/\((i=st-1/\L=fl m)\/(i<st-1/\L.length≠ae m-1)):=by
    by_cases Vp:i=st-1
    ·exact⟨_,by rw[Vp,show st-1+1=st by omega];exact s4,.inl ⟨Vp,rfl⟩⟩
    ·obtain⟨l,h1,h2⟩:=s3 i (by omega)
     exact⟨l,h1,.inr ⟨by omega,h2⟩⟩
   refine az λU hU=>?_
   nofun
   refine⟨by decide,hU _ ?_⟩
   clear hU
   refine az λU hU=>?_
   nofun
   refine⟨λn δ=>∃(l:List Int) (p:Nat),δ=[some (dk m),some (.int ((i+1:Nat):Int)),some (.lst true (aG (l++[(p:Int)])))]/\p<ae m/\l.length+n=64/\n8 (gm m) (i+1) n (l++[(p:Int)]) p=some L,
    ⟨64,[],1,rfl,by omega,rfl,eL⟩,?_⟩
   rintro n δ ⟨l,p,rfl,hp,hl,he⟩
   nofun
   have ea:eE (aG (l++[(p:Int)])) (-1)=some (.int (p:Int)):=by rw[b69 (by rw[dG];show 0<l.length+1;omega),dG,lH,Nat.add_sub_cancel,aT,kz (bG _),wJ];rfl
   cases n with
   | zero=>cases he
   | succ n =>
    rw[n8]at he
    refine⟨_,ea,m,p,i+1,rfl,hm,hp,by omega,rfl,rfl,?_⟩
    rw[jK]
    by_cases c:gm m p (i+1)=1
    ·rw[if_pos c]at he
     cases he
     rw[decide_eq_true (by omega),if_neg (by decide)]
     refine hU _ ?_
     nofun
     refine⟨m,rfl,by omega,by omega,?_⟩
     dsimp only
     rcases hL with⟨h1,h2⟩ | ⟨h1,h2⟩
     ·have:=hF.len
      rw[h2,if_pos (by omega)]
      exact q
     ·rw[if_neg (by omega)]
      exact⟨by omega,_,_,rfl,rfl⟩
    ·rw[if_neg c]at he
     rw[decide_eq_false (by omega),if_pos (by decide)]
     exact⟨⟨_,rfl⟩,_,ea,m,p,i+1,rfl,hm,hp,by omega,rfl,by rw[dG];show l.length+1<_;omega,n,by omega,l++[(p:Int)],gm m p (i+1),by simp only[aG,fo,dn,jW],dy hm _ _,by rw[dG];show l.length+1+n=64;omega,he⟩
  ·rintro δ ⟨hi,_⟩
   simp at hi
   omega
abbrev aC6:bh:=λds Q=>∃(m:Bool × Nat) (n e f:Nat),ds=[dk m,.int n,.int e,.int f]/\m∈aF/\n<=64/\e<=64/\f<=64/\Q (.lst true (ax true (fi m f (aL n) e)))
theorem Vq(T:Txt K mg t):aM P w K mg base aQ 3 t.Kr t.Ks ["_law_told_here","_law_length","_law_extra","_law_first"] (bj (aC6 )):=by
 refine bz T.Lw Cu ?_ ?_
 ·intro ds Q h
  obtain⟨m,n,e,f,rfl,hm,hn,he,hf,q⟩:=h<;>rfl
 ·intro aC A outer s H E hr
  refine⟨_,(aA (aX (i:=4) Cu.nd rfl (aV rfl) (bu ((aM9 T).mono (by decide)) hr rfl T.aO1 T.Uk.kp T.aO2 aU (ag (bv 0) aw)))
   (aA (aX (i:=5) Cu.nd rfl (ai rfl) (dO cC))
   (aA (fY eN rfl (jH rfl T.gP (ag (bv 2) aw)) (cE (i:=6) Cu.nd rfl (aV rfl))
    (aE (kO (i:=5) rfl (by first | exact ai rfl | exact aV (ai rfl)) (dR [("_law_powers_here",4),("_law_first",3),("_law_i",6)] ["_law_at"] rfl (jH rfl T.gP (ag (bv 1) aw)) (λ_ _ _ _=>(cE (i:=3) (show(["_law_powers_here","_law_first","_law_i","_law_at"]:List Str).Nodup by decide +kernel) rfl (ai (lr1 rfl)) (by decide) (aV (lr1 rfl)))) (λ_ _ _ _=>dv) (λ_ _ _ _=>(dh (bA (bv 0) (aa (aB dD (aa (aB fu (aa (aB cR (bv 1) (bv 2))) (bv 3))) (aa (cV (gB) (by rfl) T.gg fV (ag (bv 0) aw))))) (λ_ _=>rfl)))) rfl ⟨rfl,⟨rfl,⟨rfl,trivial⟩⟩⟩ (λ_=>by repeat' (first | exact trivial | refine⟨.inl rfl,?_⟩ | refine⟨.inr (.inl rfl),?_⟩ | refine⟨.inr (.inr ⟨_,rfl⟩),?_⟩)) (λ_=>⟨⟨rfl,.inl rfl,.inl rfl,_,rfl,rfl⟩,⟨⟨rfl,.inl rfl,.inl rfl,_,rfl,rfl⟩,⟨⟨rfl,.inl rfl,.inl rfl,_,rfl,rfl⟩,trivial⟩⟩⟩) rfl (by decide +kernel)))))
   (aE (aW (em 5)))))),λds Q h=>?_⟩
  obtain⟨m,n,e,f,rfl,hm,hn,he,hf,q⟩:=h
  have hF:=di hm
  have eY:=hF.lo
  have zM:=hF.hi
  have hlen:=hF.len
  refine az λU hU=>?_
  nofun
  refine⟨m,rfl,hm,hU _ ?_⟩
  clear hU U
  refine az λU hU=>?_
  nofun
  refine⟨by decide,hU _ ?_⟩
  clear hU U
  refine az λU hU=>?_
  nofun
  refine⟨⟨by omega,by omega⟩,yt (λi δ=>∃(o1:Option D),δ=[some (dk m),some (.int n),some (.int e),some (.int f),some (.lst true (aG (fl m))),some (.lst true (ax true (fi m f (aL n) i))),o1]) ⟨_,rfl⟩ ?_ ?_⟩
  ·rintro i δ hi ⟨o1,rfl⟩
   simp only[gN,jz,jy]
   clear hU
   nofun
   refine⟨⟨_,rfl⟩,⟨by omega,by omega⟩,eH (aL n) (λ(i:Nat)=>D.int (i:Int)) (λ(p:Nat)=>D.int ((eS m (((f:Int)+(i:Int))*(p:Int)):Nat):Int)) (pz _ rfl) iO (λp hp=>?_) (.inr λ_ _=>rfl) (by rw[bZ,sL];omega) ?_⟩
   ·have hp:=cX.mp hp
    have n0:=gR (((f:Int)+(i:Int))*(p:Int)) (show(ae m:Int)-1≠0 by omega)
    have el:(((fl m).length:Nat):Int)=(ae m:Int)-1:=by omega
    nofun
    rw[el]
    refine⟨ia.ok (.inl ⟨by omega,by omega⟩),by omega,_,m5 (d:=.int (eS m (((f:Int)+(i:Int))*(p:Int)):Nat)) n0 ?_,rfl,rfl⟩
    unfold aG;rw[cj,R0 hm];rfl
   ·refine⟨_,rfl,by rw[km,(Cg hm f (aL n) i).2];omega,some (D.int i),?_⟩
    rw[show fi m f (aL n) (i+1)=fi m f (aL n) i++[(aL n).map λ(p:Nat)=>eS m (((f:Int)+(i:Int))*(p:Int))] by unfold fi;rw[Eb,fo];rfl,<- sk,show((aL n).map λ(p:Nat)=>D.int ((eS m (((f:Int)+(i:Int))*(p:Int)):Nat):Int))=ak ((aL n).map λ(p:Nat)=>eS m (((f:Int)+(i:Int))*(p:Int))) by rw[cA,cw];rfl]
    rfl
  ·rintro δ ⟨o1,rfl⟩
   refine hU _ ?_
   nofun
   exact q
abbrev aC7:bh:=λds Q=>∃(M n e f:Nat),ds=[.int M,.int n,.int e,.int f]/\2<=n/\n+1<=M/\1<=e/\e+1<=n/\f+2<=M/\Q (.bl true)
theorem aC8(T:Txt K mg t):aM P w K mg base aQ 1 t.Kt t.Ku ["many","length","extra","first"] (bj (aC7 )):=by
 refine bz T.Uo aA4 ?_ ?_
 ·intro ds Q h
  obtain⟨M,n,e,f,rfl,h1,h2,h3,h4,h5,q⟩:=h<;>rfl
 ·intro aC A outer s H E hr
  refine⟨_,(aE (aW (oN (aa (q9 ke ke (aa aj) (bv 1) (aa (aB dB (bv 0) (aa aj))))) (oN (aa (q9 ke ke (aa aj) (bv 2) (aa (aB dB (bv 1) (aa aj))))) (tS (q9 ke ke (aa aj) (bv 3) (aa (aB dB (bv 0) (aa aj))))))))),λds Q h=>?_⟩
  obtain⟨M,n,e,f,rfl,h1,h2,h3,h4,h5,q⟩:=h
  nofun
  rw[if_pos (by omega),if_pos (by omega),if_pos (by omega),if_pos (by omega),if_pos (by omega),decide_eq_true (by omega)]
  exact q
abbrev bJ7(t:eR):List D->List Str->List D->Prop:=λds ns xs=>∃(m:Bool × Nat) (n e f:Nat),ds=[fD t.aH t.aO m,.int n,.int e,.int f]/\m∈aF/\2<=n/\n+1<=ae m/\1<=e/\e+1<=n/\f+2<=ae m/\ns=(["extra","first","field","length","check_rows","word_rows","message_places","size"]:List Str)/\xs=[.int e,.int f]++mI t.aH t.aO true m (fi m f (aL n) e)
theorem aI0(T:Txt K mg t)(hB:Bm mg base):aM P w K mg base aQ 5 t.Kv t.Kw ["self","field","length","extra","first"] (Ck [t.iT,t.iU] t.bx (bJ7 t)):=by
 refine T.ds2.ok Tn (λvs H Q E h=>?_) λaC A outer s H vs Q E hr h=>?_
 ·obtain⟨F,H0,x,dx,bR,ds,ns,xs,rfl,_,_,_,_,_,r,⟨m,n,e,f,rfl,_⟩,_⟩:=h
  have:=r.length
  simp at this
  simp[this]
 obtain⟨F,H0,x,dx,bR,ds,ns,xs,rfl,tb,e0,gy,s0,hx,r,⟨m,n,e,f,rfl,hm,h1,h2,h3,h4,h5,rfl,rfl⟩,q⟩:=h
 have zM:=(di hm).hi
 obtain⟨vf,Dv,B1,B2,rfl,Mn,rf,r2⟩:=R.cO r
 obtain⟨rfl,rfl⟩:=p8.mp Mn.symm
 obtain rfl:Dv=[.int n,.int e,.int f]:=by
  cases r2 with
  | int r=>cases r with
   | int r=>cases r with
    | int r=>cases r;rfl
 refine⟨_,eP (qm (mm (gZ (aa (bu ((aC8 T).mono (by decide)) hr rfl T.ds0 T.Uo.kp T.ds1 aU (ag (dQ (K:=K) (bv 1)) (ag (bv 2) (ag (bv 3) (ag (bv 4) aw)))))))) (i8 qo) qk)
  (eP (gW (pv 0) (pv 3) rfl)
  (eP (gW (pv 0) (pv 4) rfl)
  (eP (cf6 (i:=5) Tn.nd rfl (ai rfl) [("field",1),("first",4),("length",2)] ["i"] rfl (jH rfl T.gP (ag (bv 3) aw)) (λ_ _ _ _=>(cE (i:=3) (show(["field","first","length","i"]:List Str).Nodup by decide +kernel) rfl (aV rfl) (by decide) (ai rfl))) (λ_ _ _ _=>dv) (by exact λ_ _ _ _=>(dR [("field",0),("first",1),("i",3)] ["j"] rfl (jH rfl T.gP (ag (bv 2) aw)) (λ_ _ _ _=>(cE (i:=3) (show(["field","first","i","j"]:List Str).Nodup by decide +kernel) rfl (ai (lr1 rfl)) (by decide) (aV (lr1 rfl)))) (λ_ _ _ _=>dv) (λ_ _ _ _=>(jr (P:=P) (w:=w) (K:=K) (mg:=mg) (base:=base) (n:=1) (bv 0) (hr.mono (by decide)) (ag (aa (aB fu (aa (aB cR (bv 1) (bv 2))) (bv 3))) aw))) rfl ⟨rfl,⟨rfl,⟨rfl,trivial⟩⟩⟩ (λ_=>by repeat' (first | exact trivial | refine⟨.inl rfl,?_⟩ | refine⟨.inr (.inl rfl),?_⟩ | refine⟨.inr (.inr ⟨_,rfl⟩),?_⟩)) (λ_=>⟨⟨rfl,.inl rfl,.inl rfl,_,rfl,rfl⟩,⟨⟨rfl,.inl rfl,.inl rfl,_,rfl,rfl⟩,⟨⟨rfl,.inl rfl,.inl rfl,_,rfl,rfl⟩,trivial⟩⟩⟩) rfl (by decide +kernel))) rfl ⟨rfl,⟨rfl,⟨rfl,trivial⟩⟩⟩ (λ_=>by repeat' (first | exact trivial | refine⟨.inl rfl,?_⟩ | refine⟨.inr (.inl rfl),?_⟩ | refine⟨.inr (.inr ⟨_,rfl⟩),?_⟩)) (λ_=>⟨⟨rfl,.inl rfl,.inl rfl,_,rfl,rfl⟩,⟨⟨rfl,.inl rfl,.inl rfl,_,rfl,rfl⟩,⟨⟨rfl,.inl rfl,.inl rfl,_,rfl,rfl⟩,trivial⟩⟩⟩) rfl (by decide +kernel))
  (i8 (ql (Hc (E:=E0) T.LR ((at2 T).mono (by decide)) hr T.Lr aU rfl T.wk (bV (pv 0) (bV (pv 1) (bV (pv 5) eX))))))))),?_⟩
 refine⟨⟨H,F⟩,F,[none,some (fD t.aH t.aO m),some (.int n),some (.int e),some (.int f),none],[],λb _=>b=false,aq.self (e0.trans s0) (.dN (A:=[]) (C:=[]) (rf.shared (L3.af.refl _) s0) (.dN (A:=[]) (C:=[]) (.int .nil) (.dN (A:=[]) (C:=[]) (.int .nil) (.dN (A:=[]) (C:=[]) (.int .nil) (.av .nil))))),?_,λb ah F1 H1 hb zH eK c1=>?_⟩
 ·nofun
  exact cz5 T m ⟨ae m,n,e,f,rfl,h1,h2,h3,h4,h5,rfl,true,rfl,rfl⟩
 subst hb
 refine jf ?_
 have s1:=s0.trans eK
 have cz:=eK.get _ _ hx rfl
 refine⟨.int e,rfl,.ref x,rfl,x,t.bx,dx,_,rfl,cz,T.zA,T.LP,by decide,?_⟩
 have dU:upd H1 x (.ins t.bx dx (bB "extra" (.int e) [])) x=some (.ins t.bx dx [("extra",.int e)]):=by rw[bJ];rfl
 have z2:=(eK.x (x:=x)).trans (bL.upd (C:=x) (dx:=dx) cz rfl (o':=.ins t.bx dx (bB "extra" (.int e) [])))
 generalize upd H1 x (.ins t.bx dx (bB "extra" (.int e) []))=H2 at z2 dU ⊢
 refine⟨.int f,rfl,.ref x,rfl,x,t.bx,dx,_,rfl,dU,T.zA,T.LQ,by show 1<1000;decide,?_⟩
 have ff:upd H2 x (.ins t.bx dx (bB "first" (.int f) [("extra",.int e)])) x=some (.ins t.bx dx [("extra",.int e),("first",.int f)]):=by rw[bJ];rfl
 have z3:=z2.trans (bL.upd (C:=x) (dx:=dx) dU rfl (o':=.ins t.bx dx (bB "first" (.int f) [("extra",.int e)])))
 generalize upd H2 x (.ins t.bx dx (bB "first" (.int f) [("extra",.int e)]))=H3 at z3 ff ⊢
 have s3:=bL.of0 gy s0 z3
 obtain⟨g1,g2⟩:=Cg hm f (aL n) e
 rw[bZ]at g1
 have g3:au (fi m f (aL n) e)=n:=sr g1 λz=>by
  rw[z]at g2
  exact absurd g2 (by show ¬ 0=e;omega)
 refine⟨⟨H3,F⟩,F,[none,some (fD t.aH t.aO m),some (.int n),some (.int e),some (.int f),none],[],λd _=>d=.lst true (ax true (fi m f (aL n) e)),aq.self (e0.trans s3) (.dN (A:=[]) (C:=[]) (rf.shared (L3.af.refl _) s3) (.dN (A:=[]) (C:=[]) (.int .nil) (.dN (A:=[]) (C:=[]) (.int .nil) (.dN (A:=[]) (C:=[]) (.int .nil) (.av .nil))))),?_,λd ah v F4 H4 hd hf4 zN c4=>?_⟩
 ·nofun
  refine⟨⟨by omega,by omega⟩,eH (aL e) (λ(i:Nat)=>D.int (i:Int)) (λ(i:Nat)=>D.lst true (ak ((aL n).map λ(p:Nat)=>eS m (((f:Int)+(i:Int))*(p:Int))))) (pz _ (by omega)) iO (λi hi=>?_) (.inr λ_ _=>g9 _) (by rw[bZ,sL];omega) ?_⟩
  ·have hi:=cX.mp hi
   nofun
   refine⟨⟨by omega,by omega⟩,eH (aL n) (λ(i:Nat)=>D.int (i:Int)) (λ(p:Nat)=>D.int ((eS m (((f:Int)+(i:Int))*(p:Int)):Nat):Int)) (pz _ (by omega)) iO (λp Br=>?_) (.inr λ_ _=>rfl) (by rw[bZ,sL];omega) ?_⟩
   ·have:=cX.mp Br
    nofun
    obtain⟨C,ns,xs,sp,e1,e2,e3,e4⟩:=bG2 (P:=P) (w:=w) (base:=base) T hm (n:=((f:Int)+(i:Int))*(p:Int)) (Q:=λr=>r=D.int ((eS m (((f:Int)+(i:Int))*(p:Int)):Nat):Int)) rfl
    exact⟨C,ns,xs,sp,e1,e2,e3,ia.ok (.inl ⟨by omega,by omega⟩),e4⟩
   ·rw[cA,cw];rfl
  ·unfold fi ax
   rw[cw];rfl
 subst hd
 obtain⟨A4,C4,r4,_,Vr,Mp⟩:=c4.own
 have r4:R F4 H4 [.lst true (ax true (fi m f (aL n) e))] [v] A4:=r4
 obtain⟨pc,rfl⟩:=vR r4
 have jv:=zN.get _ _ ff rfl
 have fR:∀X:List (List Nat),[D.lst true (ax true X)].all D.fr=true:=λX=>by rw[dq,fJ,pF];rfl
 have wo:∀X:List (List Nat),[D.lst true (ax true X)].map D.sh=[D.lst false (ax false X)]:=λX=>by rw[dn,dM,dX];rfl
 have r4:=r4.qI (fR _) hf4
 have Mp:∀a∈A4,H3 a=none:=λa ha=>Mp a (eV _ ha)
 have Vr:=(gv.mp Vr).1
 have Vs:=s3.trans zN
 have xA:x ∉ A4:=λz=>by rw[Mp x z]at ff;cases ff
 have s5:L3.af H0 (L3.br H0 H4 A4):=ir Vs
 have e5:=e0.trans s5
 have r5:R F (L3.br H0 H4 A4) [.lst true (ax true (fi m f (aL n) e))] [.ref pc] A4:=S5 r4 λa ha=>by unfold L3.br;rw[if_pos ha]
 refine⟨.ref x,rfl,vf,rfl,.ref pc,rfl,L3.br F (L3.br H0 H4 A4) A4,L3.br H0 H4 A4,x,dx,t.bx,vf,.ref pc,m,fi m f (aL n) e,[("extra",.int e),("first",.int f)],rfl,nt e5,by rw[oI xA];exact gy,nt Vs,jv,.two _ _,⟨T.zA,T.Dc,T.De,T.C9,T.Dh,T.Df,T.Dg⟩,rf.shared (ir e5) s5,wo _ ▸ r5.br e5 A4 λ_ h=>h,hm,by rw[g3];exact g1,by omega,by omega,λH' p1 p2 p3 B1 B2 B3 sx cY k1 k2 k3 nd fr=>?_⟩
 have z:=(z3.trans (zN.x (x:=x))).trans sx
 have so:=bL.of0 gy s0 z
 have ee:=e0.trans s3
 refine q H' [.int e,.int f,vf,.int (au (fi m f (aL n) e):Nat),.ref p1,.ref p2,.ref p3,.int ((bS m (fi m f (aL n) e)).length:Nat)] (B1++(B2++(B3++[]))) z cY rfl ?_ ?_ ?_
 ·have up:∀{ds:List D} {vs:List V} {B:List Addr},R (λ_=>none) H' ds vs B->(∀a∈B,H4 a=none)->R F H' ds vs B:=λr h=>r.keep (L3.af.of λb o e=>by cases e) (fK.same (L3.af.refl _)) gu.nil (λa ha=>ee.free (zN.free (h a ha))) (by simp)
  exact .int (.int (R.cons (A:=[]) (rf.shared (L3.af.refl _) so) (.int (R.cons (up k1 λa ha=>fr a (eV _ ha)) (R.cons (up k2 λa ha=>fr a (cZ _ (eV _ ha))) (R.cons (up k3 λa ha=>fr a (cZ _ (cZ _ ha))) (.int .nil)))))))
 ·rw[fm];exact nd
 ·rw[fm]
  intro a ha
  exact z3.free (by rw[ff];simp) (zN.free (fr a ha))
abbrev Vt(t:eR):bh:=λds Q=>∃(m:Bool × Nat) (G:List (List Nat)) (b:Nat),ds=[gh t m G (.y7 b)]/\Q (.int (b:Nat))
theorem aw1(T:Txt K mg t):aM P w K mg base aQ 1 t.Kx t.Ky ["self"] (bj (Vt t)):=by
 refine bz T.ds4 av4 ?_ ?_
 ·intro ds Q h
  obtain⟨m,G,b,rfl,q⟩:=h<;>rfl
 ·intro aC A outer s H E hr
  refine⟨_,(aE (aW (dh (dQ (K:=K) (bv 0))))),λds Q h=>?_⟩
  obtain⟨m,G,b,rfl,q⟩:=h
  nofun
  exact⟨_,_,_,_,rfl,T.vZ,T.CO,rfl,rfl,q⟩
abbrev aI1(t:eR):bh:=λds Q=>∃(m:Bool × Nat) (n:Nat),ds=[fD t.aH t.aO m,.int n]/\m∈aF/\2<=n/\n<=24/\Q (.lst true (ax true (hE m n)))
theorem aI2(T:Txt K mg t):aM P w K mg base aQ 2 t.Kz t.KA ["field","length"] (bj (aI1 t)):=by
 refine bz T.Up Tq ?_ ?_
 ·intro ds Q h
  obtain⟨m,n,rfl,hm,h2,zO,q⟩:=h<;>rfl
 ·intro aC A outer s H E hr
  refine⟨_,(aA (aX (i:=2) Tq.nd rfl (aV rfl) (jr (P:=P) (w:=w) (K:=K) (mg:=mg) (base:=base) (n:=1) (bv 0) (hr.mono (by decide)) (ag (aa aj) (ag (aa aj) aw))))
   (aE (aW (dR [("less_one",2),("length",1)] ["i"] rfl (jH rfl T.gP (ag (aa (aB dB (bv 1) (aa aj))) aw)) (λ_ _ _ _=>(cE (i:=2) (show(["less_one","length","i"]:List Str).Nodup by decide +kernel) rfl (ai (lr1 rfl)) (by decide) (aV (lr1 rfl)))) (λ_ _ _ _=>dv) (λ_ _ _ _=>(aB cR (aa (aB cR (aa (aB cR (aa (aB fu (aa (dO (cq aj cC))) (bv 2))) (aa (dO (cq aj cC))))) (aa (aB fu (aa (dO (cq aj cC))) (aa (aB dB (aa (aB dB (bv 1) (aa aj))) (bv 2))))))) (cy8 (ag (bv 0) aw)))) rfl ⟨rfl,⟨rfl,trivial⟩⟩ (λ_=>by repeat' (first | exact trivial | refine⟨.inl rfl,?_⟩ | refine⟨.inr (.inl rfl),?_⟩ | refine⟨.inr (.inr ⟨_,rfl⟩),?_⟩)) (λ_=>⟨⟨rfl,.inl rfl,.inl rfl,_,rfl,rfl⟩,⟨⟨rfl,.inl rfl,.inl rfl,_,rfl,rfl⟩,trivial⟩⟩) rfl (by decide +kernel))))),λds Q h=>?_⟩
  obtain⟨m,n,rfl,hm,h2,zO,q⟩:=h
  have m0:=dj m hm
  have eY:=(di hm).lo
  obtain⟨C,ns,zs,sp,e1,e2,e3,e4⟩:=U6 (P:=P) (w:=w) (base:=base) T m0
  refine az λU hU=>?_
  nofun
  refine⟨C,ns,zs,sp,e1,e2,e3,e4 0 1 _ ?_⟩
  rw[(mE hm (show 0<ae m by omega) (show 1<ae m by omega)).1]
  refine hU _ ?_
  clear hU U e1 e2 e3 e4
  nofun
  refine⟨⟨by omega,by omega⟩,eH (aL (n-1)) (λ(i:Nat)=>D.int (i:Int)) (λi=>D.lst true (ak (kq m n i))) (pz _ (by omega)) iO (λi hi=>?_) (.inr λ_ _=>g9 _) (by rw[bZ,sL];omega) ?_⟩
  ·have hi:=cX.mp hi
   nofun
   unfold kq
   have zn:∀k:Nat,aG (bf k (0:Int))=ak (bf k 0):=λk=>by unfold ak;rw[qe];rfl
   rw[gQ,show((n:Int)-2-(i:Int)).toNat=n-2-i by omega,zn,zn,show [D.int 1]=ak [1] from rfl,show [D.int ((bO m 0 1:Nat):Int)]=ak [bO m 0 1] from rfl,nK,nK,nK,kR,kR,dW,dW]
   simp only[dG,fS,lH]
   exact⟨by decide,⟨by omega,by omega,by omega⟩,by decide,by omega,by decide,⟨by omega,by omega,by omega⟩,⟨by omega,trivial⟩,by decide,⟨by omega,trivial⟩,trivial⟩
  ·rw[show((aL (n-1)).map λi=>D.lst true (ak (kq m n i)))=ax true (hE m n) by unfold ax hE;rw[cw];rfl]
   exact q
abbrev Vu(t:eR):List D->List Str->List D->Prop:=λds ns xs=>∃(m:Bool × Nat) (n:Nat),ds=[fD t.aH t.aO m,.int n]/\m∈aF/\2<=n/\n<=24/\ns=nV/\xs=mI t.aH t.aO true m (hE m n)
theorem aC9(T:Txt K mg t)(hB:Bm mg base):aM P w K mg base aQ 5 t.KC t.KD ["self","field","length"] (Ck [t.iT,t.iU] t.bQ (Vu t)):=by
 refine T.ds8.ok aA5 (λvs H Q E h=>?_) λaC A outer s H vs Q E hr h=>?_
 ·obtain⟨F,H0,x,dx,bR,ds,ns,xs,rfl,_,_,_,_,_,r,⟨m,n,rfl,_⟩,_⟩:=h
  have:=r.length
  simp at this
  simp[this]
 obtain⟨F,H0,x,dx,bR,ds,ns,xs,rfl,tb,e0,gy,s0,hx,r,⟨m,n,rfl,hm,h2,zO,rfl,rfl⟩,q⟩:=h
 obtain⟨g1,g2,g3⟩:=S7 hm h2
 obtain⟨vf,Dv,B1,B2,rfl,hB,rf,r2⟩:=R.cO r
 obtain⟨rfl,rfl⟩:=p8.mp hB.symm
 obtain rfl:Dv=[.int n]:=by
  cases r2 with
  | int r=>cases r;rfl
 refine⟨_,eP (qm (PW.pt (Oi (EG Ox (pv 2) oA (bM _)) (lU (EG Oy (pv 2) oA (bM _))))) (i8 qo) qk)
  (i8 (ql (Hc (E:=E0) T.LR ((at2 T).mono (by decide)) hr T.Lr aU rfl T.wk (bV (pv 0) (bV (pv 1) (bV (je ((aI2 T).mono (by decide)) hr rfl T.ds6 T.Up.kp T.ds7 .nil aU (bV (pv 1) (bV (pv 2) eX))) eX)))))),?_⟩
 refine⟨.int n,rfl,_,_,rfl,rfl,_,rfl,?_⟩
 rw[decide_eq_false (by omega)]
 refine jf ?_
 refine⟨.int n,rfl,_,_,rfl,rfl,_,rfl,?_⟩
 rw[decide_eq_false (by omega)]
 refine jf ?_
 have e:=e0.trans s0
 refine⟨.ref x,rfl,vf,rfl,vf,rfl,.int n,rfl,F,[fD t.aH t.aO m,.int n],λd=>d=.lst true (ax true (hE m n)),e,R.cons (A:=[]) (rf.shared (L3.af.refl _) s0) (.int .nil),⟨m,n,rfl,hm,h2,zO,rfl⟩,λd v F1 H1 A1 hd eK zH L9 U7 r1 U8 Ma=>?_⟩
 subst hd
 obtain⟨pc,rfl⟩:=vR r1
 have cz:=eK.get _ _ hx rfl
 have fR:∀X:List (List Nat),[D.lst true (ax true X)].all D.fr=true:=λX=>by rw[dq,fJ,pF];rfl
 have wo:∀X:List (List Nat),[D.lst true (ax true X)].map D.sh=[D.lst false (ax false X)]:=λX=>by rw[dn,dM,dX];rfl
 have r1:=r1.qI (fR _) zH
 have Vv:=s0.trans eK
 have xA:x ∉ A1:=λz=>by rw[Ma x z]at hx;cases hx
 have s2:L3.af H0 (L3.br H0 H1 A1):=ir Vv
 have e2:=e0.trans s2
 have r2:R F (L3.br H0 H1 A1) [.lst true (ax true (hE m n))] [.ref pc] A1:=S5 r1 λa ha=>by unfold L3.br;rw[if_pos ha]
 refine⟨L3.br F (L3.br H0 H1 A1) A1,L3.br H0 H1 A1,x,dx,t.bQ,vf,.ref pc,m,hE m n,[],rfl,nt e2,by rw[oI xA];exact gy,nt Vv,cz,.nil,⟨T.LM,T.CZ,T.C2,T.CY,T.C7,T.C5,T.C6⟩,rf.shared (ir e2) s2,wo _ ▸ r2.br e2 A1 λ_ h=>h,hm,by rw[g3];exact g1,by omega,by omega,λH' p1 p2 p3 B1 B2 B3 sx cY k1 k2 k3 nd fr=>?_⟩
 have z:=(eK.x (x:=x)).trans sx
 have so:=bL.of0 gy s0 z
 refine q H' [vf,.int (au (hE m n):Nat),.ref p1,.ref p2,.ref p3,.int ((bS m (hE m n)).length:Nat)] (B1++(B2++(B3++[]))) z cY rfl ?_ ?_ ?_
 ·have up:∀{ds:List D} {vs:List V} {B:List Addr},R (λ_=>none) H' ds vs B->(∀a∈B,H1 a=none)->R F H' ds vs B:=λr h=>r.keep (L3.af.of λb o e=>by cases e) (fK.same (L3.af.refl _)) gu.nil (λa ha=>e.free (eK.free (h a ha))) (by simp)
  exact R.cons (A:=[]) (rf.shared (L3.af.refl _) so) (.int (R.cons (up k1 λa ha=>fr a (eV _ ha)) (R.cons (up k2 λa ha=>fr a (cZ _ (eV _ ha))) (R.cons (up k3 λa ha=>fr a (cZ _ (cZ _ ha))) (.int .nil)))))
 ·rw[fm];exact nd
 ·rw[fm]
  intro a ha
  exact eK.free (fr a ha)
abbrev Vw:bh:=λds Q=>∃(m:Bool × Nat) (n:Nat),ds=[dk m,.int n]/\m∈aF/\2<=n/\n<=24/\Q (.lst true (ax true (hE m n)))
theorem ax5(T:Txt K mg t):aM P w K mg base aQ 1 t.KG t.KH ["_law_told_here","_law_length"] (bj (Vw )):=by
 refine bz T.Uq Cv ?_ ?_
 ·intro ds Q h
  obtain⟨m,n,rfl,hm,h2,zO,q⟩:=h<;>rfl
 ·intro aC A outer s H E hr
  refine⟨_,(aA (aX (i:=2) Cv.nd rfl (ai rfl) (dO cC))
   (aA (fY eN rfl (jH rfl T.gP (ag (aa (aB dB (bv 1) (aa aj))) aw)) (cE (i:=3) Cv.nd rfl (ai rfl))
    (aA (aX (i:=4) Cv.nd rfl (ai rfl) (aB fu (aa (dO (cq aj cC))) (bv 1)))
    (aA (rD (i:=4) rfl (by first | exact ai rfl | exact aV (ai rfl)) aj (bv 3))
    (aA (rD (i:=4) rfl (by first | exact ai rfl | exact aV (ai rfl)) aj (aa (aB dB (bv 1) (aa aj))))
    (aA (cQ (mm (gZ (bA (bv 0) (aa aj) (λ_ _=>rfl)))) (aE (rD (i:=4) rfl (by first | exact ai rfl | exact aV (ai rfl)) (aB dB (bA (bv 0) (aa aj) (λ_ _=>rfl)) (aa aj)) (aa (aB dB (bv 1) (aa aj))))) cP)
    (aE (kO (i:=2) rfl (by first | exact ai rfl | exact aV (ai rfl)) (em 4))))))))
   (aE (aW (em 2))))),λds Q h=>?_⟩
  obtain⟨m,n,rfl,hm,h2,zO,q⟩:=h
  have hF:=di hm
  have eY:=hF.lo
  have zM:=hF.hi
  refine az λU hU=>?_
  nofun
  refine⟨by decide,hU _ ?_⟩
  clear hU U
  refine az λU hU=>?_
  nofun
  refine⟨⟨by omega,by omega⟩,?_⟩
  rw[show((n:Int)-1)=((n-1:Nat):Int) by omega]
  refine yt (λi δ=>∃(o1 o2:Option D),δ=[some (dk m),some (.int n),some (.lst true (ax true ((aL i).map (kq m n)))),o1,o2]) ⟨_,_,rfl⟩ ?_ ?_
  ·rintro i δ hi ⟨o1,o2,rfl⟩
   simp only[gN,jz,jy]
   clear hU
   have up:∀v:Nat,v=bO m 0 1->((bf n 0).set i 1).set (n-1) v=kq m n i:=λv hv=>by
    have l1:(((bf n 0).set i 1).set (n-1) v).length=n:=by rw[jX,jX,fS]
    refine Cc l1 (by unfold kq;simp only[dG,fS,lH];omega) λk hk=>?_
    rw[cE1 hi]
    unfold cf
    rw[aT,List.getElem?_set,List.getElem?_set,jX,fS,s9,if_pos hk]
    by_cases c1:k=i
    ·rw[if_neg (by omega),if_pos c1.symm,if_pos (by omega),if_pos c1];rfl
    ·by_cases c2:k=n-1
     ·rw[if_pos c2.symm,if_pos (by omega),if_neg c1,if_pos c2,hv];rfl
     ·rw[if_neg (λz=>c2 z.symm),if_neg (λz=>c1 z.symm),if_neg c1,if_neg c2];rfl
   refine az λU hU=>?_
   nofun
   refine⟨by decide,⟨by omega,by omega,by omega⟩,hU _ ?_⟩
   clear hU
   rw[gQ]
   refine az λU hU=>?_
   nofun
   refine⟨_,i,rfl,se (by omega) (by rw[kQ,fS];omega),hU _ ?_⟩
   clear hU
   refine az λU hU=>?_
   nofun
   have ix:∀v:Nat,gY (ak (((bf n 0).set i 1).set (n-1) v)).length ((n:Int)-1)=some (n-1):=λv=>by
    rw[show((n:Int)-1)=((n-1:Nat):Int) by omega]
    exact se (by omega) (by rw[dW,jX,jX,fS];omega)
   rw[show(aG (bf n 0)).set i (D.int 1)=ak ((bf n 0).set i 1) by
    rw[cA];unfold aG;rw[wQ,qe,qe];rfl]
   refine⟨_,n-1,rfl,by rw[<-ix 0,dW,dW,jX (i:=n-1)],hU _ ?_⟩
   rw[show(ak ((bf n 0).set i 1)).set (n-1) (D.int 1)=ak (((bf n 0).set i 1).set (n-1) 1) by rw[cA,cA,wQ (i:=n-1)];rfl]
   clear hU
   rw[show dk m=D.tup [.bl m.1,.int (m.2:Nat)] from rfl]
   refine az λU hU=>?_
   nofun
   have fin:∀v:Nat,v=bO m 0 1->U [some (D.tup [.bl m.1,.int (m.2:Nat)]),some (D.int n),some (D.lst true (ax true ((aL i).map (kq m n)))),some (D.int i),some (D.lst true (ak (((bf n 0).set i 1).set (n-1) v)))]:=λv hv=>by
    rw[up v hv]
    refine hU _ ?_
    nofun
    refine⟨⟨_,rfl⟩,by rw[bt,bZ];omega,_,_,?_,rfl,rfl⟩
    rw[Eb,fo]
    exact sk true _ [kq m n i]
   refine⟨_,rfl,_,rfl,?_⟩
   cases e:m.1 with
   | true =>
    rw[if_neg (by decide)]
    rw[e]at fin
    exact fin 1 (by unfold bO gl;rw[e];rfl)
   | false =>
    have e2:ae m=m.2:=by unfold ae;rw[e];rfl
    rw[if_pos (by decide)]
    refine⟨_,rfl,?_⟩
    dsimp only
    refine⟨_,n-1,rfl,ix 1,?_⟩
    rw[show(ak (((bf n 0).set i 1).set (n-1) 1)).set (n-1) (D.int ((m.2:Nat)-1:Int))=ak (((bf n 0).set i 1).set (n-1) (m.2-1)) by
     rw[cA,cA,wQ (i:=n-1),wQ (i:=n-1),Ai,show((m.2-1:Nat):Int)=(m.2:Int)-1 by omega]]
    rw[e]at fin
    refine fin (m.2-1) ?_
    unfold bO gl
    rw[e,if_neg (by decide),show(((0:Nat):Int)-((1:Nat):Int))=((m.2:Int)-1)+(m.2:Int)*(-1) by omega,Int.add_mul_emod_self_left,NX (by omega) (by omega)]
    omega
  ·rintro δ ⟨o1,o2,rfl⟩
   refine hU _ ?_
   nofun
   exact q
theorem Dx{m:Bool × Nat}(hm:m∈aF){G:List (List Nat)}(hR:RT (ae m) (au G) G)(h:G.length<au G)(hw:au G<=64):fj m G:=by
 refine⟨hm,hR,by omega,hw,?_⟩
 obtain⟨⟨H,I⟩,iR,_⟩:=mH hm hR
 have f:=I.G6 hm iR
 have r:=cn3 hm hR hR λi hi=>by
  rw[aT,aP hi]
  exact cK.of (dz hi)
 unfold bS
 omega
theorem Vx{m:Bool × Nat}(hm:m∈aF){G:List (List Nat)}(hR:RT (ae m) (au G) G)(h:G.length<au G):∃Fb,nU m G=some Fb:=by
 cases e:nU m G with
 | some Fb=>exact⟨Fb,rfl⟩
 | none=>exact absurd (ck5 hm (by omega) hR e (aL (au G)) (b23 (bG _))) (bS8 hm hR (by rw[bZ];exact h))
abbrev aS2(t:eR):bh:=λds Q=>∃(m:Bool × Nat) (ns:List Int),ds=[.fz (aG ns),dk m]/\m∈aF/\∀(G:List (List Nat)) (k:Kd) (dst:Int),fj m G->1<=G.length->2<=au G->au G<=15->Q (.tup [gh t m G k,.lst true (ax true G),.int dst])
theorem aS3(T:Txt K mg t)(hB:Bm mg base):aM P w K mg base aQ 11 t.KI t.KJ ["_law_script","_law_told_here"] (vt [t.iT,t.iU] (bj (aS2 t))):=by
 refine Gx T.Ur ju ?_ ?_
 ·intro ds Q h
  obtain⟨m,ns,rfl,hm,q⟩:=h<;>rfl
 ·intro aC A outer s H E hT hr
  refine⟨_,(aA (aX (i:=2) ju.nd rfl (ai rfl) (bu ((Dm T).mono (by decide)) hr rfl T.CC T.zi.kp T.CD aU (ag (bv 1) aw)))
   (aA (aX (i:=3) ju.nd rfl (ai rfl) (Ro hT ((aO9 T hB).mono (by decide)) hr rfl T.aQ8 T.TV.kp T.aQ9 aU (ag (bv 1) aw)))
   (aA (aX (i:=4) ju.nd rfl (ai rfl) (bu ((lu T).mono (by decide)) hr rfl T.lh T.ku.kp T.lj aU (ag (bv 0) (ag (aa aj) aw))))
   (aA (aX (i:=5) ju.nd rfl (ai rfl) (aB cR (aa aj) (aa (aB dD (aa (bu ((lu T).mono (by decide)) hr rfl T.lh T.ku.kp T.lj aU (ag (bv 0) (ag (aa aj) aw)))) (aa aj)))))
   (aA (aX (i:=6) ju.nd rfl (ai rfl) (aB cR (aa aj) (aa (aB dD (aa (bu ((lu T).mono (by decide)) hr rfl T.lh T.ku.kp T.lj aU (ag (bv 0) (ag (aa aj) aw)))) (aa (cV (rn rfl) (by rfl) T.sH qC (ag (aa aj) (ag (aa (aB dB (bv 5) (aa aj))) aw))))))))
   (aA (cQ (b9 (gz (cJ hr)) (aa (aB dD (bv 4) (aa aj))) (aa aj) (bM _)) (aA (aX (i:=7) ju.nd rfl (ai rfl) (bu ((aC3 T).mono (by decide)) hr rfl T.aE7 T.TX.kp T.aE8 aU (ag (bv 2) (ag (bv 5) (ag (bv 6) (ag (aa (bu ((lu T).mono (by decide)) hr rfl T.lh T.ku.kp T.lj aU (ag (bv 0) (ag (aa aj) aw)))) (ag (aa (uh (gz (cJ hr)) (aa (aB dD (aa (aB qU (bv 4) (aa aj))) (aa aj))) (aa aj) (bM _))) aw)))))))
    (aA (aX (i:=8) ju.nd rfl (ai rfl) (Cm hT T.CN ((Vm T hB).mono (by decide)) hr rfl T.Dj T.Uj aU (ag (bv 3) (ag (S2 (dR [] ["_law_row"] rfl (g8 (bv 7)) (λ_ _ _ _=>(cE (i:=0) (show(["_law_row"]:List Str).Nodup by decide +kernel) rfl (ai (lr1 rfl)) (by decide) (aV (lr1 rfl)))) (λ_ _ _ _=>dv) (λ_ _ _ _=>(rh (rm) (by rfl) T.mK lZ (ag (bv 0) aw))) rfl trivial (λ_=>by repeat' (first | exact trivial | refine⟨.inl rfl,?_⟩ | refine⟨.inr (.inl rfl),?_⟩ | refine⟨.inr (.inr ⟨_,rfl⟩),?_⟩)) (λ_=>trivial) rfl (by decide +kernel))) aw))))
    (aE (aW (nz (cq (dh (bv 8)) (cq (em 7) (cq (kT (P:=P) (w:=w) (K:=K) (mg:=mg) (base:=base) (n:=1) (bv 8) (hr.mono (by decide))) cC)))))))) cP)
   (aA (cQ (PW.pt (kJ (b9 (gz (cJ hr)) (aa (aB dD (bv 4) (aa aj))) (aa aj) (bM _)) (lU (b9 (gz (cJ hr)) (bv 2) (aa aj) (bM _))))) (aE (aW (nz (cq (Cm hT T.LN ((aC9 T hB).mono (by decide)) hr rfl T.LW T.ds9 aU (ag (bv 3) (ag (aa (aB cR (bv 5) (aa aj))) aw))) (cq (bu ((ax5 T).mono (by decide)) hr rfl T.az5 T.Uq.kp T.az6 aU (ag (bv 1) (ag (aa (aB cR (bv 5) (aa aj))) aw))) (cq (aB cR (bv 5) (aa aj)) cC)))))) cP)
   (aA (aX (i:=9) ju.nd rfl (ai rfl) (aB dD (aa (bu ((lu T).mono (by decide)) hr rfl T.lh T.ku.kp T.lj aU (ag (bv 0) (ag (aa aj) aw)))) (aa (aB dB (bv 2) (aa aj)))))
   (aA (cQ (b9 (gz (cJ hr)) (aa (aB dD (bv 4) (aa aj))) (aa aj) (bM _)) (aA (aX (i:=5) ju.nd rfl (ai rfl) (cV (rn rfl) (by rfl) T.sH qC (ag (bv 5) (ag (aa (aB dB (bv 2) (aa aj))) aw))))
    (aA (aX (i:=6) ju.nd rfl (ai rfl) (cV (rn rfl) (by rfl) T.sH qC (ag (bv 6) (ag (aa (aB dB (bv 5) (aa aj))) aw))))
    (aA (aX (i:=7) ju.nd rfl (ai rfl) (bu ((Vq T).mono (by decide)) hr rfl T.Ul T.Lw.kp T.Um aU (ag (bv 1) (ag (bv 5) (ag (bv 6) (ag (bv 9) aw))))))
    (aE (aW (nz (cq (Cm hT T.CN ((Vm T hB).mono (by decide)) hr rfl T.Dj T.Uj aU (ag (bv 3) (ag (S2 (dR [] ["_law_row"] rfl (g8 (bv 7)) (λ_ _ _ _=>(cE (i:=0) (show(["_law_row"]:List Str).Nodup by decide +kernel) rfl (ai (lr1 rfl)) (by decide) (aV (lr1 rfl)))) (λ_ _ _ _=>dv) (λ_ _ _ _=>(rh (rm) (by rfl) T.mK lZ (ag (bv 0) aw))) rfl trivial (λ_=>by repeat' (first | exact trivial | refine⟨.inl rfl,?_⟩ | refine⟨.inr (.inl rfl),?_⟩ | refine⟨.inr (.inr ⟨_,rfl⟩),?_⟩)) (λ_=>trivial) rfl (by decide +kernel))) aw))) (cq (em 7) (cq (aB cR (bv 6) (aa aj)) cC))))))))) cP)
   (aA (aX (i:=5) ju.nd rfl (ai rfl) (aB cR (aa aj) (aa (aB dD (aa (bu ((lu T).mono (by decide)) hr rfl T.lh T.ku.kp T.lj aU (ag (bv 0) (ag (aa aj) aw)))) (aa (cV (rn rfl) (by rfl) T.sH qC (ag (aa aj) (ag (aa (aB dB (bv 2) (aa aj))) aw))))))))
   (aA (aX (i:=6) ju.nd rfl (ai rfl) (aB cR (aa aj) (aa (aB dD (aa (bu ((lu T).mono (by decide)) hr rfl T.lh T.ku.kp T.lj aU (ag (bv 0) (ag (aa aj) aw)))) (aa (cV (rn rfl) (by rfl) T.sH qC (ag (aa aj) (ag (aa (aB dB (bv 5) (aa aj))) aw))))))))
   (aE (aW (nz (cq (Cm hT T.LO ((aI0 T hB).mono (by decide)) hr rfl T.LX T.ds3 aU (ag (bv 3) (ag (bv 5) (ag (bv 6) (ag (bv 9) aw))))) (cq (bu ((Vq T).mono (by decide)) hr rfl T.Ul T.Lw.kp T.Um aU (ag (bv 1) (ag (bv 5) (ag (bv 6) (ag (bv 9) aw))))) (cq (aB cR (bv 6) (aa aj)) cC))))))))))))))))),λds Q h=>?_⟩
  obtain⟨m,ns,rfl,hm,q⟩:=h
  have hF:=di hm
  have eY:=hF.lo
  have zM:=hF.hi
  have Vo:=GJ m hm
  refine az λU hU=>?_
  nofun
  refine⟨m,rfl,by omega,by omega,hU _ ?_⟩
  clear hU U
  refine az λU hU=>?_
  nofun
  refine⟨m,rfl,hm,hU _ ?_⟩
  clear hU U
  refine az λU hU=>?_
  nofun
  refine⟨ns,1,rfl,by decide,hU _ ?_⟩
  clear hU U
  generalize ns.getD (fG 1) 0=kd
  refine az λU hU=>?_
  nofun
  refine⟨ns,2,rfl,by decide,by decide,?_⟩
  obtain⟨n,en,tV,hn6⟩:∃k:Nat,2+ns.getD (fG 2) 0%5=k/\2<=k/\k<=6:=⟨(2+ns.getD (fG 2) 0%5).toNat,by omega,by omega,by omega⟩
  rw[en]
  refine hU _ ?_
  clear hU U en
  refine az λU hU=>?_
  nofun
  refine⟨ns,3,rfl,by decide,?_⟩
  dsimp only
  obtain⟨M,eM,M0,M1,M3⟩:∃M:Int,(if(n:Int)-1<3 then(n:Int)-1 else 3)=M/\0<M/\M<=(n:Int)-1/\M<=3:=⟨_,rfl,by split<;>omega,by split<;>omega,by split<;>omega⟩
  rw[eM]
  refine⟨M0,?_⟩
  obtain⟨e,ee,L9,hen,he3⟩:∃k:Nat,1+ns.getD (fG 3) 0%M=k/\1<=k/\k+1<=n/\k<=3:=by
   have n0:=gR (ns.getD (fG 3) 0) (show M≠0 by omega)
   have n1:=hV (ns.getD (fG 3) 0) M0
   exact⟨(1+ns.getD (fG 3) 0%M).toNat,by omega,by omega,by omega,by omega⟩
  rw[ee]
  refine hU _ ?_
  clear hU U ee eM M0 M1 M3 M
  refine az λU hU=>?_
  nofun
  refine⟨by decide,?_⟩
  split
  ·clear hU
   refine az λU hU=>?_
   nofun
   refine⟨ns,4,rfl,by decide,qT (by decide) (by decide),by decide,ae m,n,e,_,_,rfl,by omega,by omega,by omega,by omega,λG lG hG=>⟨rfl,hU _ ?_⟩⟩
   clear hU U
   have wG:au G=n:=sr hG λz=>by rw[z]at lG;exact absurd lG (by show ¬ 0=e;omega)
   rw[<-wG]at hG tV hn6 hen
   refine az λU hU=>?_
   nofun
   refine eH G (λr=>D.lst false (ak r)) (λr=>D.lst true (ak r)) (by rw[dX];rfl) (λa b h=>mF a b h) (λr bq=>?_) (.inr λr _=>g9 r) (by rw[sL];omega) ?_
   ·nofun
   obtain⟨Fb,eF⟩:=Vx hm hG (by omega)
   rw[show((D.lst true (qa (λr=>D.lst true (ak r)) G)).sh)=D.lst false (ax false G) from by rw[dM];exact congrArg _ (dX true G)]
   have cG:=Dx hm hG (by omega) (by omega)
   refine⟨by rw[fW,pE];rfl,_,_,⟨m,G,Fb,rfl,cG,by omega,by omega,by omega,by omega,eF,rfl,rfl⟩,?_⟩
   rw[fo,Co]
   show U [some (D.fz (aG ns)),some (dk m),some (D.int (ae m)),some (fD t.aH t.aO m),some (D.int kd),some (D.int n),some (D.int e),some (D.lst true (ax true G)),some (gh t m G (.y7 Fb.length)),none]
   refine hU _ ?_
   clear hU U
   nofun
   exact⟨rfl,_,_,_,Vt t,rfl,⟨T.vZ,_,_,_,T.dx0,aw1 T,T.ds5⟩,by decide,m,G,_,rfl,by decide,q G _ _ cG (by omega) (by omega) (by omega)⟩
  refine hU _ ?_
  clear hU U
  refine az λU hU=>?_
  nofun
  refine⟨by decide,?_⟩
  have rp:∃ns xs,Vu t [fD t.aH t.aO m,D.int ((n:Int)+1)] ns xs/\Vw [dk m,D.int ((n:Int)+1)] λd=>0+1+1+1<=16777216/\Q (D.tup [D.obj t.bQ ns (qa D.sh xs),d,D.int ((n:Int)+1)]):=by
   refine⟨_,_,⟨m,n+1,rfl,hm,by omega,by omega,rfl,rfl⟩,m,n+1,rfl,hm,by omega,by omega,by decide,?_⟩
   obtain⟨r1,r2,r3⟩:=S7 hm (show 2<=n+1 by omega)
   rw[Co]
   exact q (hE m (n+1)) .rep _ (Dx hm (by rw[r3];exact r1) (by omega) (by omega)) (by omega) (by omega) (by omega)
  split
  ·exact rp
  split
  ·exact rp
  refine hU _ ?_
  clear hU U rp
  rename_i hk2
  have hM3:3<=ae m:=by omega
  refine az λU hU=>?_
  nofun
  refine⟨ns,4,rfl,by decide,?_⟩
  dsimp only
  obtain⟨f,ef,hf⟩:∃f:Nat,ns.getD (fG 4) 0%((ae m:Int)-1)=f/\f+2<=ae m:=by
   have n0:=gR (ns.getD (fG 4) 0) (show(ae m:Int)-1≠0 by omega)
   have n1:=hV (ns.getD (fG 4) 0) (show 0<(ae m:Int)-1 by omega)
   exact⟨(ns.getD (fG 4) 0%((ae m:Int)-1)).toNat,by omega,by omega⟩
  rw[ef]
  refine⟨by omega,hU _ ?_⟩
  clear hU U ef
  refine az λU hU=>?_
  nofun
  refine⟨by decide,?_⟩
  split
  ·clear hU
   refine az λU hU=>?_
   nofun
   obtain⟨n',en,dJ6,hnM⟩:∃k:Nat,(if(ae m:Int)-1<n then(ae m:Int)-1 else n)=k/\2<=k/\k<=6/\k+1<=ae m:=⟨(if(ae m:Int)-1<n then(ae m:Int)-1 else n).toNat,by split<;>omega,by split<;>omega,by split<;>omega,by split<;>omega⟩
   rw[en]
   refine hU _ ?_
   clear hU U en
   refine az λU hU=>?_
   nofun
   obtain⟨e',ee,dJ8,dJ9⟩:∃k:Nat,(if(n':Int)-1<e then(n':Int)-1 else e)=k/\1<=k/\k+1<=n':=⟨(if(n':Int)-1<e then(n':Int)-1 else e).toNat,by split<;>omega,by split<;>omega,by split<;>omega⟩
   rw[ee]
   refine hU _ ?_
   clear hU U ee
   refine az λU hU=>?_
   nofun
   refine⟨m,n',e',f,rfl,hm,by omega,by omega,by omega,hU _ ?_⟩
   clear hU U
   obtain⟨g1,g2⟩:=Cg hm f (aL n') e'
   rw[bZ]at g1
   have g3:au (fi m f (aL n') e')=n':=sr g1 λz=>by
    rw[z]at g2
    exact absurd g2 (by show ¬ 0=e';omega)
   have g4:RT (ae m) (au (fi m f (aL n') e')) (fi m f (aL n') e'):=by rw[g3];exact g1
   obtain⟨Fb,eF⟩:=Vx hm g4 (by omega)
   have cG:=Dx hm g4 (by omega) (by omega)
   generalize fi m f (aL n') e'=G at *
   nofun
   refine eH G (λr=>D.lst false (ak r)) (λr=>D.lst true (ak r)) (by rw[dX];rfl) (λa b h=>mF a b h) (λr bq=>?_) (.inr λr _=>g9 r) (by rw[sL];omega) ?_
   ·nofun
   rw[show((D.lst true (qa (λr=>D.lst true (ak r)) G)).sh)=D.lst false (ax false G) from by rw[dM];exact congrArg _ (dX true G)]
   refine⟨by rw[fW,pE];rfl,_,_,⟨m,G,Fb,rfl,cG,by omega,by omega,by omega,by omega,eF,rfl,rfl⟩,?_⟩
   dsimp only[ot,oq]
   rw[fo,Co]
   exact⟨by decide,q G (.y7 Fb.length) _ cG (by omega) (by omega) (by omega)⟩
  refine hU _ ?_
  clear hU U
  refine az λU hU=>?_
  nofun
  refine⟨ns,2,rfl,by decide,?_⟩
  dsimp only
  obtain⟨M,eM,M0,M1,M3⟩:∃M:Int,(if(ae m:Int)-2<14 then(ae m:Int)-2 else 14)=M/\0<M/\M<=(ae m:Int)-2/\M<=14:=⟨_,rfl,by split<;>omega,by split<;>omega,by split<;>omega⟩
  rw[eM]
  refine⟨M0,?_⟩
  obtain⟨n',en,dJ6,ek6,hnM⟩:∃k:Nat,2+ns.getD (fG 2) 0%M=k/\2<=k/\k<=15/\k+1<=ae m:=by
   have n0:=gR (ns.getD (fG 2) 0) (show M≠0 by omega)
   have n1:=hV (ns.getD (fG 2) 0) M0
   exact⟨(2+ns.getD (fG 2) 0%M).toNat,by omega,by omega,by omega,by omega⟩
  rw[en]
  refine hU _ ?_
  clear hU U en eM M0 M1 M3 M
  refine az λU hU=>?_
  nofun
  refine⟨ns,3,rfl,by decide,?_⟩
  dsimp only
  obtain⟨M,eM,M0,M1⟩:∃M:Int,(if(n':Int)-1<6 then(n':Int)-1 else 6)=M/\0<M/\M<=(n':Int)-1:=⟨_,rfl,by split<;>omega,by split<;>omega⟩
  rw[eM]
  refine⟨M0,?_⟩
  obtain⟨e',ee,dJ8,dJ9⟩:∃k:Nat,1+ns.getD (fG 3) 0%M=k/\1<=k/\k+1<=n':=by
   have n0:=gR (ns.getD (fG 3) 0) (show M≠0 by omega)
   have n1:=hV (ns.getD (fG 3) 0) M0
   exact⟨(1+ns.getD (fG 3) 0%M).toNat,by omega,by omega,by omega⟩
  rw[ee]
  refine hU _ ?_
  clear hU U ee eM M0 M1 M
  nofun
  refine⟨_,_,⟨m,n',e',f,rfl,hm,by omega,by omega,by omega,by omega,by omega,rfl,rfl⟩,m,n',e',f,rfl,hm,by omega,by omega,by omega,by decide,?_⟩
  rw[fo,Co]
  obtain⟨g1,g2⟩:=Cg hm f (aL n') e'
  rw[bZ]at g1
  have g3:au (fi m f (aL n') e')=n':=sr g1 λz=>by
   rw[z]at g2
   exact absurd g2 (by show ¬ 0=e';omega)
  exact q (fi m f (aL n') e') (.He e' f) _ (Dx hm (by rw[g3];exact g1) (by omega) (by omega)) (by omega) (by omega) (by omega)
abbrev aK7:bh:=λds Q=>∃(ns:List Int) (a s M:Nat),ds=[.fz (aG ns),.int a,.int s,.int M]/\1<=a/\a<=1000/\s<=64/\1<=M/\∀l:List Nat,l.length=s->AllLt M l->Q (.lst true (ak l))
theorem aK8(T:Txt K mg t):aM P w K mg base aQ 2 t.KL t.KN ["_law_script","_law_at","_law_size","_law_many_here"] (bj (aK7 )):=by
 refine bz T.Us aJ4 ?_ ?_
 ·intro ds Q h
  obtain⟨ns,a,s,M,rfl,ha,ha2,hs,hM,q⟩:=h<;>rfl
 ·intro aC A outer s H E hr
  refine⟨_,(aE (aW (dR [("_law_many_here",3),("_law_script",0),("_law_at",1)] ["_law_j"] rfl (jH rfl T.gP (ag (bv 2) aw)) (λ_ _ _ _=>(cE (i:=3) (show(["_law_many_here","_law_script","_law_at","_law_j"]:List Str).Nodup by decide +kernel) rfl (ai (lr1 rfl)) (by decide) (aV (lr1 rfl)))) (λ_ _ _ _=>dv) (λ_ _ _ _=>(aB dD (aa (aB cR (aa (bu ((lu T).mono (by decide)) hr rfl T.lh T.ku.kp T.lj aU (ag (bv 1) (ag (aa (aB cR (bv 2) (bv 3))) aw)))) (aa (bu ((L4 T).mono (by decide)) hr rfl T.Lj T.CF.kp T.Lk aU (ag (aa (bu ((lu T).mono (by decide)) hr rfl T.lh T.ku.kp T.lj aU (ag (bv 1) (ag (aa (aB dB (bv 2) (aa aj))) aw)))) (ag (bv 3) aw)))))) (bv 0))) rfl ⟨rfl,⟨rfl,⟨rfl,trivial⟩⟩⟩ (λ_=>by repeat' (first | exact trivial | refine⟨.inl rfl,?_⟩ | refine⟨.inr (.inl rfl),?_⟩ | refine⟨.inr (.inr ⟨_,rfl⟩),?_⟩)) (λ_=>⟨⟨rfl,.inl rfl,.inl rfl,_,rfl,rfl⟩,⟨⟨rfl,.inl rfl,.inl rfl,_,rfl,rfl⟩,⟨⟨rfl,.inl rfl,.inl rfl,_,rfl,rfl⟩,trivial⟩⟩⟩) rfl (by decide +kernel)))),λds Q h=>?_⟩
  obtain⟨ns,a,s,M,rfl,ha,ha2,hs,hM,q⟩:=h
  have L5:∀z:Int,z%(M:Int)=(((z%(M:Int)).toNat:Nat):Int):=λz=>by
   have n0:=gR z (show(M:Int)≠0 by omega)
   omega
  have L6:∀z:Int,(z%(M:Int)).toNat<M:=λz=>by
   have n1:=hV z (show(0:Int)<(M:Int) by omega)
   omega
  nofun
  refine⟨⟨by omega,by omega⟩,eH (aL s) (λ(i:Nat)=>D.int (i:Int)) (λk=>D.int ((((ns.getD (((a:Int)+(k:Int)).toNat) 0+ly (ns.getD ((a:Int)-1).toNat 0) (k:Int))%(M:Int)).toNat:Nat):Int)) (pz _ rfl) iO (λk hk=>?_) (.inr λ_ _=>rfl) (by rw[bZ,sL];omega) ?_⟩
  ·have hk:=cX.mp hk
   nofun
   refine⟨ns,_,rfl,by omega,ns,_,rfl,by omega,_,_,rfl,by omega,by omega,?_⟩
   dsimp only
   exact⟨rfl,by omega,L5 _⟩
  ·obtain⟨row,er,sJ,sM⟩:∃wd:List Nat,((aL s).map λ(k:Nat)=>D.int ((((ns.getD (((a:Int)+(k:Int)).toNat) 0+ly (ns.getD ((a:Int)-1).toNat 0) (k:Int))%(M:Int)).toNat:Nat):Int))=ak wd/\AllLt M wd/\wd.length=s:=by
    refine⟨(aL s).map λ(k:Nat)=>((ns.getD (((a:Int)+(k:Int)).toNat) 0+ly (ns.getD ((a:Int)-1).toNat 0) (k:Int))%(M:Int)).toNat,by rw[cA,cw];rfl,λa ha=>?_,by simp⟩
    obtain⟨k,_,rfl⟩:=bD.mp ha
    exact L6 _
   rw[er]
   exact q _ sM sJ
abbrev aI3:bh:=λds Q=>∃(o:Bool) (xs:List D),ds=[.lst false xs,.int (xs.length:Nat)]/\Q .av
theorem aI4(T:Txt K mg t):aM P w K mg base aQ 1 t.KO t.KP ["signs","length"] (bj (aI3 )):=by
 refine bz T.Ut aH0 ?_ ?_
 ·intro ds Q h
  obtain⟨o,xs,rfl,q⟩:=h<;>rfl
 ·intro aC A outer s H E hr
  refine⟨_,(aE (cQ (b9 (gJ (cJ hr)) (aa (cV (gB) (by rfl) T.gg fV (ag (bv 0) aw))) (bv 1) (bM _)) (aE P4) cP)),λds Q h=>?_⟩
  obtain⟨o,xs,rfl,q⟩:=h
  nofun
  rw[if_neg (by decide)]
  exact q
abbrev aF8(t:eR):bh:=λds Q=>∃(m:Bool × Nat) (l:List Nat),ds=[fD t.aH t.aO m,.lst false (ak l)]/\m∈aF/\AllLt (ae m) l/\l.length<=64/\Q .av
theorem aF9(T:Txt K mg t):aM P w K mg base aQ 2 t.KQ t.KR ["field","signs"] (bj (aF8 t)):=by
 refine bz T.Uu Tr ?_ ?_
 ·intro ds Q h
  obtain⟨m,l,rfl,hm,hl,Mj,q⟩:=h<;>rfl
 ·intro aC A outer s H E hr
  refine⟨_,(aE (fY eN rfl (rJ rfl T.sG (ag (bv 1) aw)) (iz (i1:=2) (i2:=3) rfl Tr.nd rfl (ai rfl) rfl (ai rfl))
    (aE (cQ (mm (gZ (aa (jr (P:=P) (w:=w) (K:=K) (mg:=mg) (base:=base) (n:=1) (bv 0) (hr.mono (by decide)) (ag (bv 3) aw))))) (aE P4) cP)))),λds Q h=>?_⟩
  obtain⟨m,l,rfl,hm,hl,Mj,q⟩:=h
  nofun
  refine fX.mk (λj δ=>∃o1 o2,δ=[some (fD t.aH t.aO m),some (D.lst false (ak l)),o1,o2]) ⟨_,_,rfl⟩ ?_ ?_
  ·rintro j d δ hd ⟨o1,o2,rfl⟩
   obtain⟨h1,rfl⟩:=cd6 hd
   have:=hl _ (dz h1)
   nofun
   refine Ve T m (.inl ⟨_,rfl,?_⟩)
   rw[decide_eq_true (by omega),decide_eq_true (by omega)]
   exact⟨true,rfl,by rw[if_neg (by decide)];exact⟨_,_,rfl,rfl⟩⟩
  ·rintro δ ⟨o1,o2,rfl⟩
   exact q
abbrev Vy(K:Frag):bh:=λds Q=>∃(C:Addr) (p:Nat) (xs ys:List Nat),ds=[rT C p,.lst false (ak xs),.lst false (ak ys)]/\cy K C/\bg K C "products"/\p∈gK/\xs.length=ys.length/\xs.length<=64/\(∀x∈xs,x<ae (true,p))/\(∀y∈ys,y<ae (true,p))/\Q (.int ((cT (gm (true,p)) xs ys).foldl (· ^^^ ·) 0:Nat))
theorem aK9(T:Txt K mg t):aM P w K mg base aQ 1 t.KS t.KU ["self","xs","ys"] (bj (Vy K)):=by
 refine bz T.aL8 za ?_ ?_
 ·intro ds Q h
  obtain⟨C,p,xs,ys,rfl,hC,hn,hp,hl,mM,hx,hy,q⟩:=h<;>rfl
 ·intro aC A outer s H E hr
  refine⟨_,(aA (aX (i:=3) za.nd rfl (ai rfl) (dh (dQ (K:=K) (bv 0))))
   (aA (aX (i:=4) za.nd rfl (ai rfl) aj)
   (aA (fY eN rfl (oW rfl T.pP (ag (bv 1) (ag (bv 2) aw))) (iz (i1:=5) (i2:=6) rfl za.nd rfl (ai rfl) rfl (ai rfl))
    (aE (xM (i:=4) za.nd rfl (ai rfl) (bA (bA (bv 3) (bv 5) (λ_ _=>rfl)) (bv 6) (λ_ _=>rfl)) Bu)))
   (aE (aW (em 4)))))),λds Q h=>?_⟩
  obtain⟨C,p,xs,ys,rfl,hC,hn,hp,hl,mM,hx,hy,q⟩:=h
  refine az λU hU=>?_
  nofun
  refine⟨C,_,_,_,rfl,hC,hn,rfl,by rw[fW,b32];rfl,hU _ ?_⟩
  clear hU U
  refine az λU hU=>?_
  nofun
  refine hU _ ?_
  clear hU U
  refine az λU hU=>?_
  nofun
  refine⟨_,_,rfl,rfl,?_⟩
  refine fX.mk (λi δ=>∃o1 o2,δ=[some (rT C p),some (.lst false (ak xs)),some (.lst false (ak ys)),some (.lst false (nQ (fl (true,p)) (eI (fl (true,p))))),some (.int (((cT (gm (true,p)) xs ys).take i).foldl (· ^^^ ·) 0:Nat)),o1,o2]) ⟨none,none,rfl⟩ ?_ ?_
  ·rintro i d δ hd ⟨o1,o2,rfl⟩
   obtain⟨hi,hj,rfl⟩:∃(hi:i<xs.length) (hj:i<ys.length),d=.tup [.int (xs[i]:Nat),.int (ys[i]:Nat)]:=by
    unfold dE at hd
    rw[cA,cA,Am]at hd
    by_cases hi:i<xs.length
    ·have hj:i<ys.length:=by omega
     rw[mX,aP hi,aP hj]at hd
     exact⟨hi,hj,(cS hd).symm⟩
    ·rw[gj (by simp;omega)]at hd;cases hd
   have cz:=hx xs[i] (dz _)
   have Mo:=hy ys[i] (dz _)
   nofun
   refine⟨_,BW hp cz,_,BV hp cz Mo,_,_,?_,rfl,rfl⟩
   rw[nk,List.take_succ,Ao,mX,aP hi,aP hj];rfl
  ·rintro δ ⟨o1,o2,rfl⟩
   refine hU _ ?_
   nofun
   have e:(dE (ak xs) (ak ys)).length=xs.length:=by unfold dE;rw[i5,dW,dW];omega
   rw[e,wI (by rw[i5];omega)]
   exact q
abbrev Vz(K:Frag):bh:=λds Q=>∃(C:Addr) (p:Nat) (xs ys:List Int),ds=[rS C p,.lst false (aG xs),.lst false (aG ys)]/\cy K C/\bg K C "prime"/\0<p/\xs.length=ys.length/\xs.length<=64/\(∀x∈xs,0<=x/\x<64)/\(∀y∈ys,0<=y/\y<64)/\Q (.int ((cT (· * ·) xs ys).sum%p))
theorem aG0(T:Txt K mg t):aM P w K mg base aQ 1 t.KW t.KY ["self","xs","ys"] (bj (Vz K)):=by
 refine bz T.aH5 aE4 ?_ ?_
 ·intro ds Q h
  obtain⟨C,p,xs,ys,rfl,hC,hn,hp,hl,mM,hx,hy,q⟩:=h<;>rfl
 ·intro aC A outer s H E hr
  refine⟨_,(aE (aW (aB dD (aa (cV (cH0 rfl) (by rfl) T.dy0 cz9 (ag (aa (dR [] ["x","y"] rfl (oW rfl T.pP (ag (bv 1) (ag (bv 2) aw))) (λ_ _ _ _=>(iz (i1:=0) (i2:=1) rfl (show(["x","y"]:List Str).Nodup by decide +kernel) rfl (ai (lr1 rfl)) rfl (ai (lr1 rfl)) (by decide) (by decide) (aV (lr1 rfl)) (aV (lr1 rfl)))) (λ_ _ _ _=>dv) (λ_ _ _ _=>(aB fu (bv 0) (bv 1))) rfl trivial (λ_=>by repeat' (first | exact trivial | refine⟨.inl rfl,?_⟩ | refine⟨.inr (.inl rfl),?_⟩ | refine⟨.inr (.inr ⟨_,rfl⟩),?_⟩)) (λ_=>trivial) rfl (by decide +kernel))) aw))) (dQ (K:=K) (bv 0))))),λds Q h=>?_⟩
  obtain⟨C,p,xs,ys,rfl,hC,hn,hp,hl,mM,hx,hy,q⟩:=h
  nofun
  refine⟨_,_,rfl,rfl,?_⟩
  refine GH (xs.zip ys) (λz=>D.tup [.int z.1,.int z.2]) (λz=>D.int (z.1*z.2)) (RK xs ys) (λa b h=>by injection h with h;simp at h;exact Prod.ext h.1 h.2) (λz hz=>?_) GI (.inr λ_ _=>rfl) (by rw[Ea,sL];omega) ?_
  ·have z1:=hx z.1 (s8 hz).1
   have z2:=hy z.2 (s8 hz).2
   nofun
   exact ia.ok (.inr ⟨by omega,by omega⟩)
  ·refine⟨(xs.zip ys).map λz=>z.1*z.2,?_,?_⟩
   ·unfold aG;rw[cw];rfl
   ·nofun
    refine⟨C,_,_,.int p,rfl,hC,hn,rfl,?_⟩
    refine⟨by omega,?_⟩
    rw[List.map_zip_eq_zipWith]
    exact q
theorem cI3(T:Txt K mg t){m:Bool × Nat}(hm:m∈aF):∃C ns zs sp,fD t.aH t.aO m=.obj C ns zs/\jN P w K mg base 1 "dot" C sp/\("dot":Str) ∉ ns/\∀(xs ys:List Nat) (Q:D->Prop),xs.length=ys.length->xs.length<=64->(∀x∈xs,x<ae m)->(∀y∈ys,y<ae m)->Q (.int (gd m xs ys:Nat))->sp [.obj C ns zs,.lst false (ak xs),.lst false (ak ys)] Q:=by
 have hF:=di hm
 obtain⟨k,n⟩:=m
 cases k with
 | true=>exact⟨_,_,_,Vy K,rfl,⟨T.fc,_,_,_,T.aJ8,aK9 T,T.aL9⟩,by decide,λxs ys Q hl mM hx hy q=>⟨_,n,xs,ys,rfl,T.fc,T.sE,vC hm,hl,mM,hx,hy,q⟩⟩
 | false =>
  have pS:n<=64:=hF.hi
  have l2:2<=n:=hF.lo
  have cx:∀l:List Nat,(∀x∈l,x<ae (false,n))->∀z∈l.map (λ(n:Nat)=>(n:Int)),0<=z/\z<64:=λl h z hz=>by
   obtain⟨x,hx,rfl⟩:=bD.mp hz
   have:x<n:=h x hx
   omega
  refine⟨_,_,_,Vz K,rfl,⟨T.fB,_,_,_,T.aF3,aG0 T,T.aH6⟩,by decide,λxs ys Q hl mM hx hy q=>⟨_,n,xs.map (λ(n:Nat)=>(n:Int)),ys.map (λ(n:Nat)=>(n:Int)),rfl,T.fB,T.pM,by omega,by rw[bt,bt];exact hl,by rw[bt];exact mM,cx xs hx,cx ys hy,?_⟩⟩
  have e:((gd (false,n) xs ys:Nat):Int)=(cT (· * ·) (xs.map λ(n:Nat)=>(n:Int)) (ys.map λ(n:Nat)=>(n:Int))).sum%n:=by
   unfold gd
   rw[RQ (by omega) _ _ (by omega),N0,RU,RV,oo]
  rw[<-e];exact q
abbrev aV9(t:eR):bh:=λds Q=>∃(m:Bool × Nat) (xs:List Nat) (G:List (List Nat)),ds=[fD t.aH t.aO m,.lst false (ak xs),.lst false (ax false G)]/\m∈aF/\AllLt (ae m) xs/\G.length=xs.length/\xs.length<=64/\RT (ae m) (au G) G/\au G<=64/\Q (.lst true (ak (kn m xs G (au G))))
theorem aW0(T:Txt K mg t):aM P w K mg base aQ 3 t.KZ t.K0 ["field","row","table"] (bj (aV9 t)):=by
 refine bz T.Uv aV5 ?_ ?_
 ·intro ds Q h
  obtain⟨m,xs,G,rfl,hm,hx,hG,qW,hR,hw,q⟩:=h<;>rfl
 ·intro aC A outer s H E hr
  refine⟨_,(aE (aW (dR [("row",1),("field",0)] ["column"] rfl (g8 (aa (bu ((Vg T).mono (by decide)) hr rfl T.Ud T.Lu.kp T.Ue aU (ag (bv 2) aw)))) (λ_ _ _ _=>(cE (i:=2) (show(["row","field","column"]:List Str).Nodup by decide +kernel) rfl (ai (lr1 rfl)) (by decide) (aV (lr1 rfl)))) (λ_ _ _ _=>dv) (λ_ _ _ _=>(jr (P:=P) (w:=w) (K:=K) (mg:=mg) (base:=base) (n:=1) (bv 1) (hr.mono (by decide)) (ag (bv 0) (ag (bv 2) aw)))) rfl ⟨rfl,⟨rfl,trivial⟩⟩ (λ_=>by repeat' (first | exact trivial | refine⟨.inl rfl,?_⟩ | refine⟨.inr (.inl rfl),?_⟩ | refine⟨.inr (.inr ⟨_,rfl⟩),?_⟩)) (λ_=>⟨⟨rfl,.inl rfl,.inl rfl,_,rfl,rfl⟩,⟨⟨rfl,.inl rfl,.inl rfl,_,rfl,rfl⟩,trivial⟩⟩) rfl (by decide +kernel)))),λds Q h=>?_⟩
  obtain⟨m,xs,G,rfl,hm,hx,hG,qW,hR,hw,q⟩:=h
  have eY:=(di hm).lo
  obtain⟨C,ns,zs,sp,e1,e2,e3,e4⟩:=cI3 (P:=P) (w:=w) (base:=base) T hm
  nofun
  refine⟨G,rfl,by omega,λr bq=>(hR r bq).1,by omega,?_⟩
  dsimp only
  refine⟨_,rfl,?_⟩
  refine eH (eJ G) (λr=>D.lst false (ak r)) (λr=>D.int ((gd m xs r:Nat):Int)) (dX true _) (λa b h=>mF a b h) (λr bq=>?_) (.inr λr _=>rfl) (by unfold eJ;rw[bt,bZ,sL];omega) ?_
  ·nofun
   unfold eJ at bq
   obtain⟨j,hj,rfl⟩:=bD.mp bq
   exact⟨C,ns,zs,sp,e1,e2,e3,e4 _ _ _ (by rw[bt,hG]) qW hx (λy hy=>by
    obtain⟨r,bq,rfl⟩:=bD.mp hy
    exact(hR r bq).2.getD (by omega) j) rfl⟩
  ·unfold kn at q
   rw[cA,cw]at q
   unfold eJ
   rw[cw]
   exact q
abbrev aL0(t:eR):bh:=λds Q=>∃(m:Bool × Nat) (G:List (List Nat)) (k:Kd) (l:List Nat),ds=[gh t m G k,.lst false (ak l)]/\fj m G/\l.length=(bS m G).length/\AllLt (ae m) l/\Q (.lst true (ak (e7 m G l)))
theorem Mq(T:Txt K mg t):aM P w K mg base aQ 4 t.zd t.K1 ["self","message"] (bj (aL0 t)):=by
 refine bz T.du6 aJ5 ?_ ?_
 ·intro ds Q h
  obtain⟨m,G,k,l,rfl,hc,hl,al,q⟩:=h<;>rfl
 ·intro aC A outer s H E hr
  refine⟨_,(aA (Fy (aa (bu ((aI4 T).mono (by decide)) hr rfl T.dt6 T.Ut.kp T.dt7 aU (ag (bv 1) (ag (dQ (K:=K) (bv 0)) aw)))))
   (aA (Fy (aa (bu ((aF9 T).mono (by decide)) hr rfl T.dt8 T.Uu.kp T.dt9 aU (ag (dQ (K:=K) (bv 0)) (ag (bv 1) aw)))))
   (aE (aW (bu ((aW0 T).mono (by decide)) hr rfl T.du4 T.Uv.kp T.du5 aU (ag (dQ (K:=K) (bv 0)) (ag (bv 1) (ag (dQ (K:=K) (bv 0)) aw)))))))),λds Q h=>?_⟩
  obtain⟨m,G,k,l,rfl,hc,hl,al,q⟩:=h
  have hw:=hc.Cp
  have hf:=hc.vK
  refine az λU hU=>?_
  nofun
  refine zC T m G k ⟨true,ak l,by rw[dW,hl];rfl,rfl,hU _ ?_⟩
  clear hU U
  refine az λU hU=>?_
  nofun
  refine UJ T m G k ⟨m,l,by rw[BY],hc.hm,al,by omega,by rw[RO];rfl,hU _ ?_⟩
  clear hU U
  nofun
  refine UJ T m G k (UL T m G k ⟨m,l,gE m G,by rw[BY,dM,dX],hc.hm,al,by rw[mJ];exact hl.symm,by omega,by rw[hc.wide];exact hc.rows,by rw[hc.wide];omega,by rw[g9,lL],?_⟩)
  rw[hc.wide]
  exact q
abbrev aS4(t:eR):bh:=λds Q=>∃(m:Bool × Nat) (G:List (List Nat)) (k:Kd),ds=[gh t m G k]/\fj m G/\Q (.lst true (ax true (gE m G)))
theorem Dy(T:Txt K mg t):aM P w K mg base aQ 2 t.ze t.K2 ["self"] (bj (aS4 t)):=by
 refine bz T.du7 aQ5 ?_ ?_
 ·intro ds Q h
  obtain⟨m,G,k,rfl,hc,q⟩:=h<;>rfl
 ·intro aC A outer s H E hr
  refine⟨_,(aE (aW (bu ((L8 T).mono (by decide)) hr rfl T.Ln T.CI.kp T.Lo aU (ag (dQ (K:=K) (bv 0)) aw)))),λds Q h=>?_⟩
  obtain⟨m,G,k,rfl,hc,q⟩:=h
  have hw:=hc.Cp
  have hf:=hc.vK
  nofun
  refine UL T m G k ⟨_,by rw[dM,dX],by rw[mJ];omega,by rw[fJ,pF,lK,lL],q⟩
abbrev aN0(t:eR):bh:=λds Q=>∃(m:Bool × Nat) (G:List (List Nat)) (k:Kd),ds=[gh t m G k]/\Q (.lst true (ak (bS m G)))
theorem Dz(T:Txt K mg t):aM P w K mg base aQ 1 t.zf t.K3 ["self"] (bj (aN0 t)):=by
 refine bz T.du8 aL4 ?_ ?_
 ·intro ds Q h
  obtain⟨m,G,k,rfl,q⟩:=h<;>rfl
 ·intro aC A outer s H E hr
  refine⟨_,(aE (aW (rh (rm) (by rfl) T.mK lZ (ag (dQ (K:=K) (bv 0)) aw)))),λds Q h=>?_⟩
  obtain⟨m,G,k,rfl,q⟩:=h
  nofun
  exact b33 T m G k ⟨kR _,q⟩
abbrev aN1(t:eR):bh:=λds Q=>∃(m:Bool × Nat) (G:List (List Nat)) (k:Kd),ds=[gh t m G k]/\fj m G/\Q (.lst true (ax true G))
theorem VA(T:Txt K mg t):aM P w K mg base aQ 2 t.zh t.K4 ["self"] (bj (aN1 t)):=by
 refine bz T.du9 aL5 ?_ ?_
 ·intro ds Q h
  obtain⟨m,G,k,rfl,hc,q⟩:=h<;>rfl
 ·intro aC A outer s H E hr
  refine⟨_,(aE (aW (bu ((L8 T).mono (by decide)) hr rfl T.Ln T.CI.kp T.Lo aU (ag (dQ (K:=K) (bv 0)) aw)))),λds Q h=>?_⟩
  obtain⟨m,G,k,rfl,hc,q⟩:=h
  have hl:=hc.len
  nofun
  exact b01 T m G k ⟨_,by rw[dM,dX],by omega,by rw[fJ,pF,lK,lL],q⟩
theorem Mr(x:Nat)(r:List Nat):eE (ak (x::r)) 0=some (D.int (x:Nat)):=nR (Int.le_refl 0) (ou _)
theorem VB{M w:Nat}{T:List (List Nat)}(hR:RT M w T)(hw:0<w)(hl:0<T.length):∃x r R,T=(x::r)::R:=by
 cases T with
 | nil=>exact absurd hl (by decide)
 | cons a R =>
  cases a with
  | nil=>have:=(hR _ (iW ..)).1;simp at this;omega
  | cons x r=>exact⟨x,r,R,rfl⟩
abbrev aN2(t:eR)(P:Program)(w:World)(K:Frag)(mg:Str->Option Value)(base:Heap):bh:=λds Q=>∃(m:Bool × Nat) (G:List (List Nat)) (k:Kd) (l:List Nat),ds=[gh t m G k,.lst false (ak l)]/\fj m G/\1<=G.length/\1<=au G/\l.length=(bS m G).length/\AllLt (ae m) l/\Q .av
theorem aN3(T:Txt K mg t):aM P w K mg base aQ 5 t.K5 t.K6 ["_law_code_here","_law_message_here"] (bj (aN2 t P w K mg base)):=by
 refine bz T.Ux zb ?_ ?_
 ·intro ds Q h
  obtain⟨m,G,k,l,rfl,hc,g1,w1,hl,al,q⟩:=h<;>rfl
 ·intro aC A outer s H E hr
  refine⟨_,(aA (aX (i:=2) zb.nd rfl (ai rfl) (jr (P:=P) (w:=w) (K:=K) (mg:=mg) (base:=base) (n:=4) (bv 0) (hr.mono (by decide)) (ag (bv 1) aw)))
   (aA (kO (i:=2) rfl (by first | exact ai rfl | exact aV (ai rfl)) aj)
   (aA (aX (i:=3) zb.nd rfl (ai rfl) (kT (P:=P) (w:=w) (K:=K) (mg:=mg) (base:=base) (n:=2) (bv 0) (hr.mono (by decide))))
   (aA (SE (i:=3) rfl (by first | exact ai rfl | exact aV (ai rfl)) (aB dB (aa aj) (aa (cV (rn rfl) (by rfl) T.sH qC (ag (aa aj) (ag (bA (bA (bv 3) (aa aj) (λ_ _=>rfl)) (aa aj) (λ_ _=>rfl)) aw))))) (aa aj))
   (aA (aX (i:=4) zb.nd rfl (ai rfl) (kT (P:=P) (w:=w) (K:=K) (mg:=mg) (base:=base) (n:=1) (bv 0) (hr.mono (by decide))))
   (aA (rD (i:=4) rfl (by first | exact ai rfl | exact aV (ai rfl)) (aB cR (bA (bv 4) (aa aj) (λ_ _=>rfl)) (aa aj)) (aa aj))
   (aA (aX (i:=5) zb.nd rfl (ai rfl) (kT (P:=P) (w:=w) (K:=K) (mg:=mg) (base:=base) (n:=2) (bv 0) (hr.mono (by decide))))
   (aE (SE (i:=5) rfl (by first | exact ai rfl | exact aV (ai rfl)) (aB dB (aa aj) (aa (cV (rn rfl) (by rfl) T.sH qC (ag (aa aj) (ag (bA (bA (bv 5) (aa aj) (λ_ _=>rfl)) (aa aj) (λ_ _=>rfl)) aw))))) (aa aj)))))))))),λds Q h=>?_⟩
  obtain⟨m,G,k,l,rfl,hc,g1,w1,hl,al,q⟩:=h
  have hw:=hc.Cp
  have hf:=hc.vK
  have hz:=hc.sz
  refine az λU hU=>?_
  nofun
  refine jU T T.zt T.zy T.zB (Mq T) T.Lx (by decide) ⟨m,G,k,l,rfl,hc,hl,al,hU _ ?_⟩
  clear hU U
  refine az λU hU=>?_
  nofun
  refine⟨⟨_,rfl⟩,by rw[S9];omega,hU _ ?_⟩
  clear hU U
  refine az λU hU=>?_
  nofun
  refine jU T T.v9 T.wc T.wg (Dy T) T.CL (by decide) ⟨m,G,k,rfl,hc,hU _ ?_⟩
  clear hU U
  refine az λU hU=>?_
  nofun
  obtain⟨x,r,R,eT⟩:=VB hc.rows w1 (show 0<(gE m G).length by rw[mJ];exact hz)
  rw[eT]
  refine⟨D.lst true (ak (x::r)),sq true (T:=(x::r)::R) (i:=0) (ou _),D.int x,Mr ..,[],ak (x::r),ax true R,rfl,rfl,0,rfl,se (by omega) (by rw[dW];exact ou _),hU _ ?_⟩
  clear hU U
  refine az λU hU=>?_
  nofun
  refine jU T T.v7 T.wb T.we (Dz T) T.CM (by decide) ⟨m,G,k,rfl,hU _ ?_⟩
  clear hU U
  refine az λU hU=>?_
  nofun
  obtain⟨p,ps,ep⟩:∃p ps,bS m G=p::ps:=List.exists_cons_of_length_pos hz
  rw[ep]
  refine⟨D.int p,Mr ..,?_⟩
  dsimp only
  refine⟨_,0,rfl,se (by omega) (by rw[dW];exact ou _),hU _ ?_⟩
  clear hU U
  refine az λU hU=>?_
  nofun
  refine jU T T.CW T.C8 T.Di (VA T) T.Uw (by decide) ⟨m,G,k,rfl,hc,hU _ ?_⟩
  clear hU U
  nofun
  obtain⟨x,r,R,eT⟩:=VB hc.rt w1 g1
  rw[eT]
  exact⟨D.lst true (ak (x::r)),sq true (T:=(x::r)::R) (i:=0) (ou _),D.int x,Mr ..,[],ak (x::r),ax true R,rfl,rfl,0,rfl,se (by omega) (by rw[dW];exact ou _),q⟩
abbrev aS5:bh:=λds Q=>∃(m:Bool × Nat) (a b:Nat),ds=[dk m,.int a,.int b]/\0<m.2/\Q (.int (gp m a b:Nat))
theorem VC(T:Txt K mg t):aM P w K mg base aQ 1 t.K7 t.K8 ["_law_told_here","_law_a","_law_b"] (bj (aS5 )):=by
 refine bz T.Ly aQ6 ?_ ?_
 ·intro ds Q h
  obtain⟨m,a,b,rfl,h0,q⟩:=h<;>rfl
 ·intro aC A outer s H E hr
  refine⟨_,(aA (cQ (gZ (bA (bv 0) (aa aj) (λ_ _=>rfl))) (aE (aW (aB xR (bv 1) (bv 2)))) cP)
   (aE (aW (aB dD (aa (aB cR (bv 1) (bv 2))) (bA (bv 0) (aa aj) (λ_ _=>rfl)))))),λds Q h=>?_⟩
  obtain⟨m,a,b,rfl,h0,q⟩:=h
  unfold dk at *
  obtain⟨k,n⟩:=m
  refine az λU hU=>?_
  nofun
  cases k with
  | true =>
   refine⟨_,rfl,true,rfl,?_⟩
   rw[if_pos rfl,nk]
   exact q
  | false =>
   refine⟨_,rfl,false,rfl,?_⟩
   rw[if_neg (by decide)]
   refine hU _ ?_
   nofun
   refine⟨_,rfl,?_⟩
   refine⟨by omega,?_⟩
   have e:((gp (false,n) a b:Nat):Int)=((a:Int)+b)%n:=by
    show(((a+b)%n:Nat):Int)=_
    rw[oo,D8]
   rw[<-e];exact q
def jw(m:Bool × Nat)(xs:List Nat)(T:List (List Nat))(w i:Nat):List Nat:=(aL w).map λk=>sm (gp m) i λj=>gm m (cf xs j) (cf (T.getD j []) k)
theorem ca7{m:Bool × Nat}{xs:List Nat}{T:List (List Nat)}{w i:Nat}(h:(T.getD i []).length=w):cT (λx y=>gp m x (gm m (cf xs i) y)) (jw m xs T w i) (T.getD i [])=jw m xs T w (i+1):=by
 refine Cc (w:=w) (by unfold jw;rw[i5,bt,bZ,h];omega) (by unfold jw;rw[bt,bZ]) λk hk=>?_
 unfold jw
 rw[Cd _ hk]
 unfold cf
 rw[aT,mX,cj,jY hk,aP (by omega)]
 show gp m _ (gm m _ _)=gp m _ (gm m _ ((T.getD i []).getD k 0))
 rw[aT (l:=T.getD i []),aP (by omega)];rfl
theorem b94{xs:List Nat}{G:List (List Nat)}{i:Nat}{d:D}(h:(dE (ak xs) (ax false G))[i]?=some d):∃(hi:i<xs.length) (hj:i<G.length),d=.tup [.int ((cf xs i:Nat):Int),.lst false (ak (G.getD i []))]:=by
 unfold dE ax at h
 rw[cA,Am,mX]at h
 by_cases hi:i<xs.length
 ·by_cases hj:i<G.length
  ·rw[aP hi,aP hj]at h
   refine⟨hi,hj,(cS h).symm.trans ?_⟩
   unfold cf
   rw[aT,aP hi,aT,aP hj];rfl
  ·rw[aP hi,gj (by omega)]at h;cases h
 ·rw[gj (by omega)]at h;cases h
abbrev aL1:bh:=λds Q=>∃(m:Bool × Nat) (xs:List Nat) (T:List (List Nat)) (w:Nat),ds=[dk m,.lst false (ax false T),.lst false (ak xs),.int w]/\m∈aF/\AllLt (ae m) xs/\xs.length<=64/\T.length=xs.length/\w<=64/\RT (ae m) w T/\Q (.lst true (ak (kn m xs T w)))
theorem aL2(T:Txt K mg t):aM P w K mg base aQ 2 t.K9 t.La ["_law_told_here","_law_rows","_law_message_here","_law_length"] (bj (aL1 )):=by
 refine bz T.UA Cw ?_ ?_
 ·intro ds Q h
  obtain⟨m,xs,G,wi,rfl,hm,hx,qW,hG,hw,hR,q⟩:=h<;>rfl
 ·intro aC A outer s H E hr
  refine⟨_,(aA (aX (i:=4) Cw.nd rfl (ai rfl) (aB fu (aa (dO (cq aj cC))) (bv 3)))
   (aA (fY eN rfl (oW rfl T.pP (ag (bv 2) (ag (bv 1) aw))) (iz (i1:=5) (i2:=6) rfl Cw.nd rfl (aV rfl) rfl (ai rfl))
    (aE (B7 (i:=4) Cw.nd rfl (ai rfl) [("_law_told_here",0),("_law_sign",5)] ["_law_x","_law_y"] rfl (oW rfl T.pP (ag (bv 4) (ag (bv 6) aw))) (λ_ _ _ _=>(iz (i1:=2) (i2:=3) rfl (show(["_law_told_here","_law_sign","_law_x","_law_y"]:List Str).Nodup by decide +kernel) rfl (ai (lr1 rfl)) rfl (ai (lr1 rfl)) (by decide) (by decide) (aV (lr1 rfl)) (aV (lr1 rfl)))) (λ_ _ _ _=>dv) (λ_ _ _ _=>(bu ((VC T).mono (by decide)) hr rfl T.Uy T.Ly.kp T.Uz aU (ag (bv 0) (ag (bv 2) (ag (aa (bu ((Dw T).mono (by decide)) hr rfl T.CJ T.zo.kp T.CK aU (ag (bv 0) (ag (bv 1) (ag (bv 3) aw))))) aw))))) rfl ⟨rfl,⟨rfl,trivial⟩⟩ (λ_=>by repeat' (first | exact trivial | refine⟨.inl rfl,?_⟩ | refine⟨.inr (.inl rfl),?_⟩ | refine⟨.inr (.inr ⟨_,rfl⟩),?_⟩)) (λ_=>⟨⟨rfl,.inl rfl,.inl rfl,_,rfl,rfl⟩,⟨⟨rfl,.inl rfl,.inl rfl,_,rfl,rfl⟩,trivial⟩⟩) rfl (by decide +kernel))))
   (aE (aW (em 4))))),λds Q h=>?_⟩
  obtain⟨m,xs,G,wi,rfl,hm,hx,qW,hG,hw,hR,q⟩:=h
  have m0:=dj m hm
  have g:=rg hm
  refine az λU hU=>?_
  nofun
  refine⟨by decide,⟨by omega,by omega,by omega⟩,hU _ ?_⟩
  clear hU U
  rw[gQ,show aG (bf wi (0:Int))=ak (jw m xs G wi 0) by
   rw[show jw m xs G wi 0=bf wi 0 from List.eq_replicate_iff.mpr ⟨by unfold jw;rw[bt,bZ],λb hb=>by
    obtain⟨_,_,rfl⟩:=bD.mp hb
    rfl⟩]
   rw[cA]
   unfold aG
   rw[qe,qe];rfl]
  refine az λU hU=>?_
  nofun
  refine⟨_,_,rfl,rfl,?_⟩
  refine fX.mk (λi δ=>∃o1 o2,δ=[some (dk m),some (D.lst false (ax false G)),some (D.lst false (ak xs)),some (D.int wi),some (D.lst true (ak (jw m xs G wi i))),o1,o2]) ⟨_,_,rfl⟩ ?_ ?_
  ·rintro i d δ hd ⟨o1,o2,rfl⟩
   obtain⟨hi,hj,rfl⟩:=b94 hd
   clear hd
   have ri:(G.getD i []).length=wi/\AllLt (ae m) (G.getD i []):=by
    rw[aT,aP hj]
    exact hR _ (dz hj)
   have il:(jw m xs G wi i).length=wi:=by unfold jw;rw[bt,bZ]
   nofun
   refine⟨_,_,rfl,rfl,GO (λx y=>gp m x (gm m (cf xs i) y)) (λx cY y hy=>?_) (by omega) ?_⟩
   ·nofun
    exact⟨m,_,_,rfl,hm,fO hm hx i,ri.2 y hy,m,_,_,rfl,m0,rfl,rfl⟩
   rw[ca7 ri.1]
   exact⟨_,_,rfl⟩
  ·rintro δ ⟨o1,o2,rfl⟩
   refine hU _ ?_
   nofun
   rw[show(dE (ak xs) (ax false G)).length=G.length by unfold dE;rw[i5,dW,km];omega]
   rw[<-cC7 hG.symm (show(jw m xs G wi G.length).length=wi by unfold jw;rw[bt,bZ]) λk hk=>by unfold jw;rw[Cd _ hk]]
   exact q
abbrev aS6:bh:=λds Q=>∃(m:Bool × Nat) (G:List (List Nat)) (c:List Nat),ds=[dk m,.lst false (ax false G),.lst false (ak c)]/\m∈aF/\RT (ae m) c.length G/\AllLt (ae m) c/\c.length<=64/\G.length<=64/\Q (.lst true (ak (G.map λr=>gd m r c)))
theorem aS7(T:Txt K mg t):aM P w K mg base aQ 2 t.Lb t.Lc ["_law_told_here","_law_table","_law_word"] (bj (aS6 )):=by
 refine bz T.UB vW ?_ ?_
 ·intro ds Q h
  obtain⟨m,G,c,rfl,hm,hR,hc,gC,hG,q⟩:=h<;>rfl
 ·intro aC A outer s H E hr
  refine⟨_,(aA (aX (i:=3) vW.nd rfl (ai rfl) (dO cC))
   (aA (fY eN rfl (Bp (dh (bv 1))) (cE (i:=4) vW.nd rfl (ai rfl))
    (aA (aX (i:=5) vW.nd rfl (ai rfl) aj)
    (aA (fY eN rfl (oW rfl T.pP (ag (bv 4) (ag (bv 2) aw))) (iz (i1:=6) (i2:=7) rfl vW.nd rfl (ai rfl) rfl (ai rfl))
     (aE (aX (i:=5) vW.nd rfl (ai rfl) (bu ((VC T).mono (by decide)) hr rfl T.Uy T.Ly.kp T.Uz aU (ag (bv 0) (ag (bv 5) (ag (aa (bu ((Dw T).mono (by decide)) hr rfl T.CJ T.zo.kp T.CK aU (ag (bv 0) (ag (bv 6) (ag (bv 7) aw))))) aw)))))))
    (aE (kO (i:=3) rfl (by first | exact ai rfl | exact aV (ai rfl)) (em 5))))))
   (aE (aW (em 3))))),λds Q h=>?_⟩
  obtain⟨m,G,c,rfl,hm,hR,hc,gC,hG,q⟩:=h
  have m0:=dj m hm
  refine az λU hU=>?_
  nofun
  refine⟨by decide,hU _ ?_⟩
  clear hU U
  refine az λU hU=>?_
  nofun
  refine fX.mk (λi δ=>∃o1 o2 o3 o4,δ=[some (dk m),some (D.lst false (ax false G)),some (D.lst false (ak c)),some (D.lst true (ak ((G.take i).map λr=>gd m r c))),o1,o2,o3,o4]) ⟨_,_,_,_,rfl⟩ ?_ ?_
  ·rintro i d δ hd ⟨o1,o2,o3,o4,rfl⟩
   obtain⟨hi,rfl⟩:∃hi:i<G.length,d=.lst false (ak G[i]):=by
    unfold ax at hd
    rw[cj]at hd
    by_cases hi:i<G.length
    ·rw[aP hi]at hd;exact⟨hi,(cS hd).symm⟩
    ·rw[gj (by omega)]at hd;cases hd
   have ri:=hR _ (dz hi)
   clear hd hU
   refine az λU hU=>?_
   nofun
   refine hU _ ?_
   clear hU
   refine az λU hU=>?_
   nofun
   refine⟨_,_,rfl,rfl,?_⟩
   refine fX.mk (λj δ=>∃o3 o4,δ=[some (dk m),some (D.lst false (ax false G)),some (D.lst false (ak c)),some (D.lst true (ak ((G.take i).map λr=>gd m r c))),some (D.lst false (ak G[i])),some (D.int ((((cT (gm m) G[i] c).take j).foldl (gp m) 0:Nat):Int)),o3,o4]) ⟨_,_,rfl⟩ ?_ ?_
   ·rintro j d δ hd ⟨o3,o4,rfl⟩
    obtain⟨h1,h2,rfl⟩:=ct5 hd
    clear hd
    nofun
    refine⟨m,_,_,rfl,hm,ri.2 _ (dz _),hc _ (dz _),m,_,_,rfl,m0,rfl,_,_,?_,rfl,rfl⟩
    rw[mT,Ao,mX,aP h2,aP h1];rfl
   ·rintro δ ⟨o3,o4,rfl⟩
    refine hU _ ?_
    clear hU
    nofun
    rw[b86,wI (l:=cT (gm m) G[i] c) (by rw[i5];omega)]
    refine⟨⟨_,rfl⟩,by rw[bt,iF];omega,_,_,_,_,?_,rfl,rfl,rfl,rfl⟩
    rw[mT,aP hi,fo]
    exact nK _ [gd m G[i] c]
  ·rintro δ ⟨o1,o2,o3,o4,rfl⟩
   refine hU _ ?_
   nofun
   rw[wI (l:=G) (bG _)]
   exact q
abbrev aP4:bh:=λds Q=>∃i:Int,ds=[.int i]/\Q (.bl true)
theorem aP5(T:Txt K mg t):aM P w K mg base aQ 1 t.Ld t.Le ["_law_x"] (bj (aP4 )):=by
 refine bz T.UC aN9 ?_ ?_
 ·intro ds Q h
  obtain⟨i,rfl,q⟩:=h<;>rfl
 ·intro aC A outer s H E hr
  refine⟨_,(aE (aW (oN (aa (rA (by rfl) T.pO (by rfl) T.UH Pu (bv 0))) (tS (P1 (aa (rA (by rfl) T.pO (by rfl) T.UG Pw (bv 0)))))))),λds Q h=>?_⟩
  obtain⟨i,rfl,q⟩:=h
  nofun
  exact q
theorem cw7(T:Txt K mg t)(m:Bool × Nat)(G:List (List Nat))(k:Kd){Q:Bool->Prop}(q:Q true):∃C ns xs r,gh t m G k=.obj C ns xs/\rY K C/\kitOne K (.ref C) (.ref t.cB)=some r/\Q r:=by
 cases k with
 | y7 b=>exact⟨_,_,_,true,rfl,T.dw8,T.dw9,q⟩
 | rep=>exact⟨_,_,_,true,rfl,T.dx6,T.dx7,q⟩
 | He e f=>exact⟨_,_,_,true,rfl,T.dx8,T.dx9,q⟩
theorem cG0(T:Txt K mg t)(hB:Bm mg base):aM P w K mg base aQ 12 t.Lf t.Lg ["_law_script"] (vt [t.iT,t.iU] (bj (Qu ))):=by
 refine Gx T.dv8 k9 ?_ ?_
 ·intro ds Q h
  obtain⟨ns,rfl,hl,q⟩:=h<;>rfl
 ·intro aC A outer s H E hT hr
  refine⟨_,(aA (aX (i:=1) k9.nd rfl (ai rfl) (bu ((aR4 T).mono (by decide)) hr rfl T.aT6 T.Tz.kp T.aT7 aU (ag (aa (bu ((lu T).mono (by decide)) hr rfl T.lh T.ku.kp T.lj aU (ag (bv 0) (ag (aa aj) aw)))) aw)))
   (aA (aX (i:=2) k9.nd rfl (aV rfl) (bu ((Dm T).mono (by decide)) hr rfl T.CC T.zi.kp T.CD aU (ag (bv 1) aw)))
   (aA (aX (i:=3) k9.nd rfl (ai rfl) (Ro hT ((aS3 T hB).mono (by decide)) hr rfl T.aT8 T.Ur.kp T.aT9 aU (ag (bv 0) (ag (bv 1) aw))))
   (aA (aX (i:=4) k9.nd rfl (ai rfl) (dh (bA (bv 3) (aa aj) (λ_ _=>rfl))))
   (aA (cQ (mm (gZ (aa (cF6 (by rfl) T.pO (by rfl) T.wk (bv 4))))) (aE (aW iM)) cP)
   (aA (aX (i:=5) k9.nd rfl (ai rfl) (bu ((aK8 T).mono (by decide)) hr rfl T.aL6 T.Us.kp T.aL7 aU (ag (bv 0) (ag (aa aj) (ag (dQ (K:=K) (bv 4)) (ag (bv 2) aw))))))
   (aA (cQ (b9 (gz (cJ hr)) (aa (aB dD (aa (aB qU (aa (bu ((lu T).mono (by decide)) hr rfl T.lh T.ku.kp T.lj aU (ag (bv 0) (ag (aa aj) aw)))) (aa aj))) (aa aj))) (aa aj) (bM _)) (aE (aX (i:=5) k9.nd rfl (ai rfl) (aB fu (aa (dO (cq aj cC))) (dQ (K:=K) (bv 4))))) cP)
   (aA (aX (i:=6) k9.nd rfl (ai rfl) (rh (rm) (by rfl) T.mK lZ (ag (bv 5) aw)))
   (aA (aX (i:=7) k9.nd rfl (aV rfl) (jr (P:=P) (w:=w) (K:=K) (mg:=mg) (base:=base) (n:=4) (bv 4) (hr.mono (by decide)) (ag (bv 6) aw)))
   (aA (cQ (PW.pt (kJ (mm (gZ (aa (rA (by rfl) T.pO (by rfl) T.mK lZ (bv 7))))) (kJ (b9 (gJ (cJ hr)) (aa (cV (gB) (by rfl) T.gg fV (ag (bv 7) aw))) (dQ (K:=K) (bv 4)) (bM _)) (lU (mm (gZ (aa (cV (u3 rfl) (by rfl) T.wj ua (ag (aa (dR [] ["_law_x"] rfl (g8 (bv 7)) (λ_ _ _ _=>(cE (i:=0) (show(["_law_x"]:List Str).Nodup by decide +kernel) rfl (ai (lr1 rfl)) (by decide) (aV (lr1 rfl)))) (λ_ _ _ _=>dv) (λ_ _ _ _=>(bu ((aP5 T).mono (by decide)) hr rfl T.aR1 T.UC.kp T.aR2 aU (ag (bv 0) aw))) rfl trivial (λ_=>by repeat' (first | exact trivial | refine⟨.inl rfl,?_⟩ | refine⟨.inr (.inl rfl),?_⟩ | refine⟨.inr (.inr ⟨_,rfl⟩),?_⟩)) (λ_=>trivial) rfl (by decide +kernel))) aw))))))))) (aE (aW iM)) cP)
   (aA (cQ (PW.pt (kJ (mm (gZ (aa (cV (u3 rfl) (by rfl) T.wj ua (ag (aa (dR [("_law_many_here",2)] ["_law_x"] rfl (g8 (bv 7)) (λ_ _ _ _=>(cE (i:=1) (show(["_law_many_here","_law_x"]:List Str).Nodup by decide +kernel) rfl (ai (lr1 rfl)) (by decide) (aV (lr1 rfl)))) (λ_ _ _ _=>dv) (λ_ _ _ _=>(q9 ke qX (aa aj) (bv 1) (bv 0))) rfl ⟨rfl,trivial⟩ (λ_=>by repeat' (first | exact trivial | refine⟨.inl rfl,?_⟩ | refine⟨.inr (.inl rfl),?_⟩ | refine⟨.inr (.inr ⟨_,rfl⟩),?_⟩)) (λ_=>⟨⟨rfl,.inl rfl,.inl rfl,_,rfl,rfl⟩,trivial⟩) rfl (by decide +kernel))) aw))))) (lU (gZ (aa (cV (cE3 rfl) (by rfl) T.UE Pt (ag (aa (bu ((aS7 T).mono (by decide)) hr rfl T.aU0 T.UB.kp T.aU1 aU (ag (bv 1) (ag (bA (bv 3) (aa aj) (λ_ _=>rfl)) (ag (bv 7) aw))))) aw))))))) (aE (aW iM)) cP)
   (aA (aX (i:=8) k9.nd rfl (ai rfl) (rh (rm) (by rfl) T.mK lZ (ag (aa (kT (P:=P) (w:=w) (K:=K) (mg:=mg) (base:=base) (n:=1) (bv 4) (hr.mono (by decide)))) aw)))
   (aA (cQ (PW.pt (kJ (mm (gZ (aa (rA (by rfl) T.pO (by rfl) T.mK lZ (aa (kT (P:=P) (w:=w) (K:=K) (mg:=mg) (base:=base) (n:=1) (bv 4) (hr.mono (by decide)))))))) (lU (b9 (gJ (cJ hr)) (aa (cV (gB) (by rfl) T.gg fV (ag (bv 8) aw))) (dQ (K:=K) (bv 4)) (bM _))))) (aE (aW iM)) cP)
   (aA (cQ (PW.pt (kJ (b9 (gJ (cJ hr)) (aa (dR [("_law_word",7)] ["_law_at"] rfl (g8 (bv 8)) (λ_ _ _ _=>(cE (i:=1) (show(["_law_word","_law_at"]:List Str).Nodup by decide +kernel) rfl (ai (lr1 rfl)) (by decide) (aV (lr1 rfl)))) (λ_ _ _ _=>dv) (λ_ _ _ _=>(dh (bA (bv 0) (bv 1) (λ_ _=>rfl)))) rfl ⟨rfl,trivial⟩ (λ_=>by repeat' (first | exact trivial | refine⟨.inl rfl,?_⟩ | refine⟨.inr (.inl rfl),?_⟩ | refine⟨.inr (.inr ⟨_,rfl⟩),?_⟩)) (λ_=>⟨⟨rfl,.inl rfl,.inl rfl,_,rfl,rfl⟩,trivial⟩) rfl (by decide +kernel))) (bv 5) (bM _)) (lU (b9 (gJ (cJ hr)) (bv 6) (bv 5) (bM _))))) (aE (aW iM)) cP)
   (aA (B7 (i:=9) k9.nd rfl (ai rfl) [] ["_law_row"] rfl (g8 (aa (kT (P:=P) (w:=w) (K:=K) (mg:=mg) (base:=base) (n:=2) (bv 4) (hr.mono (by decide))))) (λ_ _ _ _=>(cE (i:=0) (show(["_law_row"]:List Str).Nodup by decide +kernel) rfl (ai (lr1 rfl)) (by decide) (aV (lr1 rfl)))) (λ_ _ _ _=>dv) (λ_ _ _ _=>(rh (rm) (by rfl) T.mK lZ (ag (bv 0) aw))) rfl trivial (λ_=>by repeat' (first | exact trivial | refine⟨.inl rfl,?_⟩ | refine⟨.inr (.inl rfl),?_⟩ | refine⟨.inr (.inr ⟨_,rfl⟩),?_⟩)) (λ_=>trivial) rfl (by decide +kernel))
   (aA (cQ (PW.pt (kJ (mm (gZ (aa (rA (by rfl) T.pO (by rfl) T.mK lZ (aa (kT (P:=P) (w:=w) (K:=K) (mg:=mg) (base:=base) (n:=2) (bv 4) (hr.mono (by decide)))))))) (lU (b9 (gJ (cJ hr)) (aa (cV (gB) (by rfl) T.gg fV (ag (bv 9) aw))) (dQ (K:=K) (bv 4)) (bM _))))) (aE (aW iM)) cP)
   (aA (cQ (b9 (gJ (cJ hr)) (aa (bu ((aL2 T).mono (by decide)) hr rfl T.aM0 T.UA.kp T.aM1 aU (ag (bv 1) (ag (bv 9) (ag (bv 5) (ag (dQ (K:=K) (bv 4)) aw)))))) (bv 7) (bM _)) (aE (aW iM)) cP)
   (aA (Fy (aa (bu ((aN3 T).mono (by decide)) hr rfl T.aO3 T.Ux.kp T.aO4 aU (ag (bv 4) (ag (bv 5) aw)))))
   (aA (cQ (PW.pt (kJ (b9 (gJ (cJ hr)) (aa (jr (P:=P) (w:=w) (K:=K) (mg:=mg) (base:=base) (n:=4) (bv 4) (hr.mono (by decide)) (ag (bv 5) aw))) (bv 7) (bM _)) (lU (b9 (gJ (cJ hr)) (aa (kT (P:=P) (w:=w) (K:=K) (mg:=mg) (base:=base) (n:=2) (bv 4) (hr.mono (by decide)))) (bv 9) (bM _))))) (aE (aW iM)) cP)
   (aE (aW (oN (aa (uh (gz (cJ hr)) (aa (kT (P:=P) (w:=w) (K:=K) (mg:=mg) (base:=base) (n:=1) (bv 4) (hr.mono (by decide)))) (bv 8) (bM _))) (tS (uh (gz (cJ hr)) (aa (kT (P:=P) (w:=w) (K:=K) (mg:=mg) (base:=base) (n:=2) (bv 4) (hr.mono (by decide)))) (bA (bv 3) (aa aj) (λ_ _=>rfl)) (bM _))))))))))))))))))))))))),λds Q h=>?_⟩
  obtain⟨ns,rfl,hl,q⟩:=h
  refine az λU hU=>?_
  nofun
  refine⟨ns,0,rfl,by decide,_,rfl,rfl,hU _ ?_⟩
  clear hU U
  generalize hmm:pk (ns.getD (fG 0) 0)=m
  have hm:m∈aF:=by rw[<-hmm];exact cf0 _
  have hF:=di hm
  have eY:=hF.lo
  have zM:=hF.hi
  have Vo:=GJ m hm
  refine az λU hU=>?_
  nofun
  refine⟨m,rfl,by omega,by omega,hU _ ?_⟩
  clear hU U
  refine az λU hU=>?_
  nofun
  refine⟨m,ns,rfl,hm,λG k dst hc g1 w2 w15=>hU _ ?_⟩
  clear hU U
  have hw:=hc.Cp
  have hf:=hc.vK
  have hz:=hc.sz
  refine az λU hU=>?_
  nofun
  refine⟨_,rfl,cy2 ..,hU _ ?_⟩
  clear hU U
  refine az λU hU=>?_
  nofun
  refine cw7 T m G k ?_
  rw[if_neg (by decide)]
  refine hU _ ?_
  clear hU U
  refine az λU hU=>?_
  nofun
  refine zC T m G k ⟨ns,6,(bS m G).length,ae m,rfl,by decide,by decide,by omega,by omega,λl ll al=>⟨rfl,hU _ ?_⟩⟩
  clear hU U
  refine az λU hU=>?_
  nofun
  refine⟨ns,1,rfl,by decide,qT (by decide) (by decide),by decide,?_⟩
  have fin:∀l:List Nat,l.length=(bS m G).length->AllLt (ae m) l->U [some (D.fz (aG ns)),some (dk m),some (D.int (ae m)),some (D.tup [gh t m G k,D.lst true (ax true G),D.int dst]),some (gh t m G k),some (D.lst true (ak l)),none,none,none,none]:=by
   clear al ll l
   intro l ll al
   refine hU _ ?_
   clear hU U
   have wl:=S9 m G l
   have wa:=hc.wlt ll
   have ww:=hc.word ll
   refine az λU hU=>?_
   nofun
   refine hU _ ?_
   clear hU U
   refine az λU hU=>?_
   nofun
   refine jU T T.zt T.zy T.zB (Mq T) T.Lx (by decide) ⟨m,G,k,l,rfl,hc,ll,al,g9 _,hU _ ?_⟩
   clear hU U
   refine az λU hU=>?_
   nofun
   refine UK T m G k ?_
   rw[wl,jK,decide_eq_true rfl,if_neg (by decide)]
   refine⟨rfl,eH (e7 m G l) (λ(i:Nat)=>D.int (i:Int)) (λ_=>D.bl true) (oX _) iO (λi hi=>?_) (.inr λ_ _=>rfl) (by rw[sL];omega) ?_⟩
   ·nofun
    exact⟨_,rfl,rfl⟩
   refine⟨(e7 m G l).map λ_=>true,by unfold mr;rw[cw];rfl,?_⟩
   rw[show((e7 m G l).map λ_=>true).all id=true by simp,if_neg (by decide)]
   refine hU _ ?_
   clear hU U
   refine az λU hU=>?_
   nofun
   refine eH (e7 m G l) (λ(i:Nat)=>D.int (i:Int)) (λ_=>D.bl true) (oX _) iO (λi hi=>?_) (.inr λ_ _=>rfl) (by rw[sL];omega) ?_
   ·have:=wa i hi
    nofun
    rw[if_pos (by omega)];omega
   refine⟨(e7 m G l).map λ_=>true,by unfold mr;rw[cw];rfl,?_⟩
   rw[show((e7 m G l).map λ_=>true).all id=true by simp,if_neg (by decide)]
   dsimp only[ot,oq]
   refine⟨_,rfl,m,G,e7 m G l,by rw[dM,dX,yU];rfl,hm,by rw[wl];exact hc.rt,wa,by omega,hc.len,by rw[g9,lL],G.map λr=>((gd m r (e7 m G l):Nat):Int),by rw[cA,cw];unfold aG;rw[cw];rfl,?_⟩
   rw[show(G.map λr=>((gd m r (e7 m G l):Nat):Int)).any (λx=>x != 0)=false by
    rw[List.any_eq_false]
    intro x hx
    obtain⟨r,bq,rfl⟩:=bD.mp hx
    rw[ww r bq];decide,if_neg (by decide)]
   refine hU _ ?_
   clear hU U
   refine az λU hU=>?_
   nofun
   refine jU T T.v7 T.wb T.we (Dz T) T.CM (by decide) ⟨m,G,k,rfl,?_⟩
   refine⟨kR _,hU _ ?_⟩
   clear hU U
   refine az λU hU=>?_
   nofun
   refine jU T T.v7 T.wb T.we (Dz T) T.CM (by decide) ⟨m,G,k,rfl,true,rfl,?_⟩
   rw[if_neg (by decide)]
   refine zC T m G k ⟨rfl,?_⟩
   rw[jK,decide_eq_true rfl,if_neg (by decide)]
   refine hU _ ?_
   clear hU U
   refine az λU hU=>?_
   nofun
   refine eH (bS m G) (λ(i:Nat)=>D.int (i:Int)) (λp=>D.int ((cf (e7 m G l) p:Nat):Int)) (oX _) iO (λi hi=>?_) (.inr λ_ _=>rfl) (by rw[sL];omega) ?_
   ·have:=cz4 hi
    nofun
    exact⟨_,nR (by omega) (by rw[gQ];omega),rfl,rfl⟩
   rw[show((bS m G).map λ(p:Nat)=>D.int ((cf (e7 m G l) p:Nat):Int))=ak l by rw[<-hc.read ll al,cA,cw];rw[hc.read ll al];rfl]
   dsimp only[ot,oq]
   have dl:bF (D.lst true (ak l)) (D.lst true (ak l))=true:=(rZ true true l l).trans (decide_eq_true rfl)
   refine⟨⟨mD 5 true l,mD 5 true l⟩,?_⟩
   rw[dl,if_neg (by decide)]
   refine⟨⟨mD 5 true l,mD 5 true l⟩,?_⟩
   rw[if_neg (by decide)]
   refine hU _ ?_
   clear hU U
   have rl:(gE m G).length=(bS m G).length:=mJ m G
   refine az λU hU=>?_
   nofun
   refine jU T T.v9 T.wc T.wg (Dy T) T.CL (by decide) ⟨m,G,k,rfl,hc,_,rfl,?_⟩
   refine eH (gE m G) (λr=>D.lst false (ak r)) (λr=>D.lst true (ak r)) (by rw[dX true];rfl) (λa b h=>mF a b h) (λr bq=>?_) (.inr λr _=>g9 r) (by rw[sL];omega) ?_
   ·nofun
   dsimp only[jz,jy]
   rw[show(qa (λr=>D.lst true (ak r)) (gE m G))=ax true (gE m G) from rfl]
   refine hU _ ?_
   clear hU U
   refine az λU hU=>?_
   nofun
   refine jU T T.v9 T.wc T.wg (Dy T) T.CL (by decide) ⟨m,G,k,rfl,hc,true,rfl,?_⟩
   rw[if_neg (by decide)]
   refine zC T m G k ⟨rfl,?_⟩
   rw[rl,jK,decide_eq_true rfl,if_neg (by decide)]
   refine hU _ ?_
   clear hU U
   refine az λU hU=>?_
   nofun
   refine UK T m G k ⟨m,l,gE m G,au G,rfl,hm,al,by omega,by omega,by omega,hc.rows,g9 _,mD 5 true _,?_⟩
   have dw:bF (D.lst true (ak (e7 m G l))) (D.lst true (ak (e7 m G l)))=true:=(rZ true true _ _).trans (decide_eq_true rfl)
   rw[show kn m l (gE m G) (au G)=e7 m G l from rfl,dw,if_neg (by decide)]
   refine hU _ ?_
   clear hU U
   refine az λU hU=>?_
   nofun
   refine⟨m,G,k,l,by rw[cx5],hc,g1,by omega,ll,al,by rw[show D.av.fr=true from rfl,lL],hU _ ?_⟩
   clear hU U
   refine az λU hU=>?_
   nofun
   refine jU T T.zt T.zy T.zB (Mq T) T.Lx (by decide) ⟨m,G,k,l,rfl,hc,ll,al,g9 _,mD 5 true _,?_⟩
   have dt:∀X:List (List Nat),bF (D.lst true (ax true X)) (D.lst true (ax true X))=true:=λX=>(R8 true true true true X X).trans (decide_eq_true rfl)
   rw[dw,if_neg (by decide)]
   refine jU T T.v9 T.wc T.wg (Dy T) T.CL (by decide) ⟨m,G,k,rfl,hc,⟨vI 4 ..,vI 4 ..⟩,?_⟩
   rw[dt,if_neg (by decide)]
   refine hU _ ?_
   clear hU U
   nofun
   refine jU T T.v7 T.wb T.we (Dz T) T.CM (by decide) ⟨m,G,k,rfl,mD 5 true _,?_⟩
   rw[(rZ true true (bS m G) _).trans (decide_eq_true rfl),if_pos rfl]
   refine jU T T.CW T.C8 T.Di (VA T) T.Uw (by decide) ⟨m,G,k,rfl,hc,_,rfl,⟨vI 4 ..,vI 4 ..⟩,?_⟩
   rw[dt]
   exact q
  clear hU
  split
  ·refine⟨by decide,zC T m G k ?_⟩
   dsimp only
   refine⟨⟨by omega,by omega,by show 1*_<=_;omega,rfl⟩,?_⟩
   rw[show(bf (((bS m G).length:Nat):Int).toNat [D.int 0]).flatten=ak (bf (bS m G).length 0) by
    rw[vg,gQ,cA,qe];rfl]
   exact fin _ (fS ..) λa ha=>by rw[(Aj.mp ha).2];omega
  ·exact fin l ll al
end
set_option maxHeartbeats 0 in
theorem all_mk{l:PySem.W.OpenLaw}{w:World}{K:Frag}{h:Heap}{mg:Str->Option Value}{fa:Addr}{ts:List Addr}(X:K.In h)(G:h.Ns mainGlobals mg)(hfa:mg "law"=some (.ref fa))
  {od8 an8:Option Addr} {sl8:Array (Option Value)} {oc8 kV8 dc8 pm8 ct8:Value} {f8:Addr}
  {zP iT:Addr} {aD1:Option Addr} {aD2:Array (Option Value)} {VD:Array Value} {aD3:Value}
  {dO2 dO3:Option Addr} {dO4:Array (Option Value)} {dO5 dO6 dO7 dO8 dO9:Value} {zQ:Addr}
  {zR iU:Addr} {aI5:Option Addr} {aI6:Array (Option Value)} {VE:Array Value} {aI7:Value}
  {dP5 VF:Option Addr} {dP6:Array (Option Value)} {dP7 VG VH VI Ms VJ:Value} {zS:Addr}
  {Mt:Addr} {dP8 dP9:Value} {dQ0:Option Addr} {dQ1:Array (Option Value)} {dQ2:Nat}
  {dQ3 VL:Option Addr} {dQ4:Array (Option Value)} {dQ5 VM VN VO Mu VP:Value} {Mv:Addr}
  {f0 f1 f2 f3 f4 f5 f6 f7 f9 Mw Mx nE Mz MA MB MC MD ME MF DA DB DC uJ MG wu MH MI MJ MK DD DE ML zT wz MM MN MP MQ DF DG MR MS DH MT MU MV MW DI DJ DK MX DL MY MZ M4 M5 M6 DM DN M7 sO sP sQ sR M8 M9 Na Nb Nc:Addr} {fd0 fd1 fd2 fd3 fd4 fd5 fd6 fd7 fd9 dR7 dR8 dR9 dS0 dS1 dS2 dS3 dS4 dS5 dS6 dS7 dS8 dS9 dT0 dT1 dT2 dT3 dT4 dT5 dT6 dT7 dT8 dT9 dU0 dU1 dU2 dU3 dU4 dU5 dU6 dU7 dU8 dU9 dV0 dV1 dV2 dV3 dV4 dV5 dV6 dV7 dV8 dV9 dW0 dW1 dW2 dW3 dW4 dW5 dW6 dW7 dW8 dW9 dX0 dX1 dX2 dX3 dX4 dX5 dX6:FuncData}
  {aH iE bI cB kr aO bQ bx:Addr}
  (LS:nsIn K mainGlobals "BitField"=some (some (.ref aH)))
  (LU:nsIn K mainGlobals "ByNought"=some (some (.ref iE)))
  (Dj:nsIn K mainGlobals "CheckCode"=some (some (.ref bI)))
  (wk:nsIn K mainGlobals "Code"=some (some (.ref cB)))
  (Dk:nsIn K mainGlobals "Field"=some (some (.ref kr)))
  (LV:nsIn K mainGlobals "PrimeField"=some (some (.ref aO)))
  (LW:nsIn K mainGlobals "RepeatCode"=some (some (.ref bQ)))
  (LX:nsIn K mainGlobals "RootCode"=some (some (.ref bx)))
  (a0:nsIn K mainGlobals "_law_told"=some (some (.ref f0)))
  (a1:nsIn K mainGlobals "_law_many"=some (some (.ref f1)))
  (a2:nsIn K mainGlobals "powers_of"=some (some (.ref f2)))
  (a3:nsIn K mainGlobals "step_powers"=some (some (.ref f3)))
  (a4:nsIn K mainGlobals "logs_of"=some (some (.ref f4)))
  (a5:findIn K (.ref kr) "step_power"=some (some (.ref f5)))
  (VQ:isFn K (.ref f5)=true)
  (a6:findIn K (.ref kr) "__init__"=some (some (.ref f6)))
  (mf6:isFn K (.ref f6)=true)
  (a7:nsIn K mainGlobals "makes_prime_field"=some (some (.ref f7)))
  (a8:findIn K (.ref aO) "__init__"=some (some (.ref f8)))
  (mf8:isFn K (.ref f8)=true)
  (a9:nsIn K mainGlobals "product_rows"=some (some (.ref f9)))
  (a10:nsIn K mainGlobals "bits_divided"=some (some (.ref Mw)))
  (a11:nsIn K mainGlobals "stands_alone"=some (some (.ref Mx)))
  (a12:nsIn K mainGlobals "makes_bit_field"=some (some (.ref nE)))
  (a13:nsIn K mainGlobals "bits_times"=some (some (.ref Mz)))
  (a14:findIn K (.ref aH) "__init__"=some (some (.ref zQ)))
  (dY3:isFn K (.ref zQ)=true)
  (a15:nsIn K mainGlobals "_law_field"=some (some (.ref MA)))
  (a16:nsIn K mainGlobals "_law_cell"=some (some (.ref MB)))
  (a17:nsIn K mainGlobals "_law_mixed"=some (some (.ref MC)))
  (a18:nsIn K mainGlobals "_law_free_table"=some (some (.ref MD)))
  (a19:nsIn K mainGlobals "width_of"=some (some (.ref ME)))
  (a20:nsIn K mainGlobals "first_with"=some (some (.ref MF)))
  (a21:findIn K (.ref aH) "scaled"=some (some (.ref DA)))
  (dZ1:isFn K (.ref DA)=true)
  (a22:findIn K (.ref aO) "scaled"=some (some (.ref DB)))
  (dZ3:isFn K (.ref DB)=true)
  (a23:findIn K (.ref aH) "lessened"=some (some (.ref DC)))
  (dZ5:isFn K (.ref DC)=true)
  (a24:findIn K (.ref aO) "lessened"=some (some (.ref uJ)))
  (dZ7:isFn K (.ref uJ)=true)
  (a25:nsIn K mainGlobals "cleared"=some (some (.ref MG)))
  (a26:findIn K (.ref kr) "over"=some (some (.ref wu)))
  (VR:isFn K (.ref wu)=true)
  (a27:nsIn K mainGlobals "reduced"=some (some (.ref MH)))
  (a28:nsIn K mainGlobals "copied"=some (some (.ref MI)))
  (a29:nsIn K mainGlobals "leads"=some (some (.ref MJ)))
  (a30:nsIn K mainGlobals "free_places"=some (some (.ref MK)))
  (a31:findIn K (.ref aH) "minus"=some (some (.ref DD)))
  (d04:isFn K (.ref DD)=true)
  (a32:findIn K (.ref aO) "minus"=some (some (.ref DE)))
  (d06:isFn K (.ref DE)=true)
  (a33:nsIn K mainGlobals "kernel_of_reduced"=some (some (.ref ML)))
  (a34:findIn K (.ref cB) "__init__"=some (some (.ref zT)))
  (el1:isFn K (.ref zT)=true)
  (a35:findIn K (.ref kr) "holds"=some (some (.ref wz)))
  (VS:isFn K (.ref wz)=true)
  (a36:nsIn K mainGlobals "is_small_table"=some (some (.ref MM)))
  (a37:nsIn K mainGlobals "rank"=some (some (.ref MN)))
  (a38:nsIn K mainGlobals "turned"=some (some (.ref MP)))
  (a39:nsIn K mainGlobals "is_nought"=some (some (.ref MQ)))
  (a40:findIn K (.ref aH) "times"=some (some (.ref DF)))
  (d14:isFn K (.ref DF)=true)
  (a41:findIn K (.ref aO) "times"=some (some (.ref DG)))
  (d16:isFn K (.ref DG)=true)
  (a42:nsIn K mainGlobals "past"=some (some (.ref MR)))
  (a43:nsIn K mainGlobals "first_bound"=some (some (.ref MS)))
  (a44:findIn K (.ref bI) "__init__"=some (some (.ref DH)))
  (d20:isFn K (.ref DH)=true)
  (a45:nsIn K mainGlobals "_law_times"=some (some (.ref MT)))
  (a46:nsIn K mainGlobals "_law_powers"=some (some (.ref MU)))
  (a47:nsIn K mainGlobals "_law_root_table"=some (some (.ref MV)))
  (a48:nsIn K mainGlobals "makes_root_code"=some (some (.ref MW)))
  (a49:findIn K (.ref bx) "__init__"=some (some (.ref zS)))
  (d26:isFn K (.ref zS)=true)
  (a50:findIn K (.ref bI) "distance"=some (some (.ref DI)))
  (d28:isFn K (.ref DI)=true)
  (a51:findIn K (.ref bQ) "distance"=some (some (.ref DJ)))
  (d30:isFn K (.ref DJ)=true)
  (a52:findIn K (.ref bx) "distance"=some (some (.ref DK)))
  (d32:isFn K (.ref DK)=true)
  (a53:nsIn K mainGlobals "repeat_checks"=some (some (.ref MX)))
  (a54:findIn K (.ref bQ) "__init__"=some (some (.ref DL)))
  (d35:isFn K (.ref DL)=true)
  (a55:nsIn K mainGlobals "_law_repeat_table"=some (some (.ref MY)))
  (a56:nsIn K mainGlobals "_law_code"=some (some (.ref MZ)))
  (a57:nsIn K mainGlobals "_law_message"=some (some (.ref M4)))
  (a58:nsIn K mainGlobals "refuse_length"=some (some (.ref M5)))
  (a59:nsIn K mainGlobals "refuse_no_sign"=some (some (.ref M6)))
  (a60:findIn K (.ref aH) "dot"=some (some (.ref DM)))
  (d42:isFn K (.ref DM)=true)
  (a61:findIn K (.ref aO) "dot"=some (some (.ref DN)))
  (d44:isFn K (.ref DN)=true)
  (a62:nsIn K mainGlobals "row_by"=some (some (.ref M7)))
  (a63:findIn K (.ref cB) "written"=some (some (.ref sO)))
  (Nd:isFn K (.ref sO)=true)
  (a64:findIn K (.ref cB) "rows"=some (some (.ref sP)))
  (Nf:isFn K (.ref sP)=true)
  (a65:findIn K (.ref cB) "places"=some (some (.ref sQ)))
  (Ng:isFn K (.ref sQ)=true)
  (a66:findIn K (.ref cB) "checks"=some (some (.ref sR)))
  (Nh:isFn K (.ref sR)=true)
  (a67:nsIn K mainGlobals "_law_spoilt"=some (some (.ref M8)))
  (a68:nsIn K mainGlobals "_law_plus"=some (some (.ref M9)))
  (a69:nsIn K mainGlobals "_law_by_rows"=some (some (.ref Na)))
  (a70:nsIn K mainGlobals "_law_sums"=some (some (.ref Nb)))
  (a71:nsIn K mainGlobals "_law_whole"=some (some (.ref Nc)))
  (VT:nsIn K mainGlobals "law"=some (some (.ref Mv)))
  (zU:specialIn K (.builtin "object.__class__") "__get__"=some (some (.builtin "getset_descriptor.__get__")))
  (zV:PySem.W.takesIn K (.builtin "object.__class__")=some true)
  (VU:plainGet K aH wB=true)
  (VV:hasDictIn K aH=true)
  (VW:plainOver K aH=true)
  (VX:findIn K (.ref aH) "__setattr__"=some (some (.builtin "object.__setattr__")))
  (Lz:makesIn K aH=true)
  (aU3:keepIn K (.ref aH)=true)
  (aU4:findIn K (.ref aH) "__class__"=some (some (.builtin "object.__class__")))
  (aU5:mroIn K aH (.type "object")=some true)
  (aI8:typeIn K (.ref cB)=some (.type "type"))
  (aI9:subIn K (.ref aH) (.ref cB)=some false)
  (LA:findIn K (.ref aH) "bits"=some none)
  (vX:findIn K (.ref aH) "logs"=some none)
  (sD:findIn K (.ref aH) "many"=some none)
  (vY:findIn K (.ref aH) "powers"=some none)
  (sE:findIn K (.ref aH) "products"=some none)
  (LB:findIn K (.ref aH) "step"=some none)
  (LC:findIn K (.ref aH) "wide"=some none)
  (LD:findIn K (.ref aH) "holds"=some (some (.ref wz)))
  (LF:findIn K (.ref aH) "over"=some (some (.ref wu)))
  (zr:findIn K (.ref aH) "step_power"=some (some (.ref f5)))
  (VY:plainGet K bI wB=true)
  (VZ:hasDictIn K bI=true)
  (V0:plainOver K bI=true)
  (V1:findIn K (.ref bI) "__setattr__"=some (some (.builtin "object.__setattr__")))
  (CN:makesIn K bI=true)
  (d56:keepIn K (.ref bI)=true)
  (d58:findIn K (.ref bI) "__class__"=some (some (.builtin "object.__class__")))
  (d60:mroIn K bI (.type "object")=some true)
  (d61:typeIn K (.ref cB)=some (.type "type"))
  (d62:subIn K (.ref bI) (.ref cB)=some true)
  (CO:findIn K (.ref bI) "bound"=some none)
  (CP:findIn K (.ref bI) "check_rows"=some none)
  (CQ:findIn K (.ref bI) "field"=some none)
  (CS:findIn K (.ref bI) "length"=some none)
  (CT:findIn K (.ref bI) "message_places"=some none)
  (CU:findIn K (.ref bI) "size"=some none)
  (CV:findIn K (.ref bI) "word_rows"=some none)
  (CW:findIn K (.ref bI) "checks"=some (some (.ref sR)))
  (v7:findIn K (.ref bI) "places"=some (some (.ref sQ)))
  (v9:findIn K (.ref bI) "rows"=some (some (.ref sP)))
  (zt:findIn K (.ref bI) "written"=some (some (.ref sO)))
  (V2:plainGet K aO wB=true)
  (V3:hasDictIn K aO=true)
  (V4:plainOver K aO=true)
  (V5:findIn K (.ref aO) "__setattr__"=some (some (.builtin "object.__setattr__")))
  (LG:makesIn K aO=true)
  (aP6:keepIn K (.ref aO)=true)
  (aP7:findIn K (.ref aO) "__class__"=some (some (.builtin "object.__class__")))
  (aP8:mroIn K aO (.type "object")=some true)
  (aD4:typeIn K (.ref cB)=some (.type "type"))
  (aD5:subIn K (.ref aO) (.ref cB)=some false)
  (zu:findIn K (.ref aO) "logs"=some none)
  (sF:findIn K (.ref aO) "many"=some none)
  (zw:findIn K (.ref aO) "powers"=some none)
  (pM:findIn K (.ref aO) "prime"=some none)
  (LH:findIn K (.ref aO) "step"=some none)
  (LJ:findIn K (.ref aO) "wide"=some none)
  (LK:findIn K (.ref aO) "holds"=some (some (.ref wz)))
  (LL:findIn K (.ref aO) "over"=some (some (.ref wu)))
  (zx:findIn K (.ref aO) "step_power"=some (some (.ref f5)))
  (V6:plainGet K bQ wB=true)
  (V7:hasDictIn K bQ=true)
  (V8:plainOver K bQ=true)
  (V9:findIn K (.ref bQ) "__setattr__"=some (some (.builtin "object.__setattr__")))
  (LN:makesIn K bQ=true)
  (d68:keepIn K (.ref bQ)=true)
  (d69:findIn K (.ref bQ) "__class__"=some (some (.builtin "object.__class__")))
  (d70:mroIn K bQ (.type "object")=some true)
  (d71:typeIn K (.ref cB)=some (.type "type"))
  (d72:subIn K (.ref bQ) (.ref cB)=some true)
  (CY:findIn K (.ref bQ) "check_rows"=some none)
  (CZ:findIn K (.ref bQ) "field"=some none)
  (C2:findIn K (.ref bQ) "length"=some none)
  (C5:findIn K (.ref bQ) "message_places"=some none)
  (C6:findIn K (.ref bQ) "size"=some none)
  (C7:findIn K (.ref bQ) "word_rows"=some none)
  (C8:findIn K (.ref bQ) "checks"=some (some (.ref sR)))
  (wb:findIn K (.ref bQ) "places"=some (some (.ref sQ)))
  (wc:findIn K (.ref bQ) "rows"=some (some (.ref sP)))
  (zy:findIn K (.ref bQ) "written"=some (some (.ref sO)))
  (Wa:plainGet K bx wB=true)
  (Wb:hasDictIn K bx=true)
  (Wc:plainOver K bx=true)
  (Wd:findIn K (.ref bx) "__setattr__"=some (some (.builtin "object.__setattr__")))
  (LO:makesIn K bx=true)
  (d73:keepIn K (.ref bx)=true)
  (d74:findIn K (.ref bx) "__class__"=some (some (.builtin "object.__class__")))
  (d75:mroIn K bx (.type "object")=some true)
  (d76:typeIn K (.ref cB)=some (.type "type"))
  (d77:subIn K (.ref bx) (.ref cB)=some true)
  (C9:findIn K (.ref bx) "check_rows"=some none)
  (LP:findIn K (.ref bx) "extra"=some none)
  (Dc:findIn K (.ref bx) "field"=some none)
  (LQ:findIn K (.ref bx) "first"=some none)
  (De:findIn K (.ref bx) "length"=some none)
  (Df:findIn K (.ref bx) "message_places"=some none)
  (Dg:findIn K (.ref bx) "size"=some none)
  (Dh:findIn K (.ref bx) "word_rows"=some none)
  (Di:findIn K (.ref bx) "checks"=some (some (.ref sR)))
  (we:findIn K (.ref bx) "places"=some (some (.ref sQ)))
  (wg:findIn K (.ref bx) "rows"=some (some (.ref sP)))
  (zB:findIn K (.ref bx) "written"=some (some (.ref sO)))
  (d78:specialIn K (.ref cB) "__getattribute__"=some (some (.builtin "type.__getattribute__")))
  (d80:PySem.W.readsIn K cB (.type "type")=true)
  (d81:PySem.W.findCls K (.ref cB) (.type "type") "__init__"=some (.val (.ref zT)))
  (aP9:specialIn K (.ref kr) "__getattribute__"=some (some (.builtin "type.__getattribute__")))
  (aQ0:PySem.W.readsIn K kr (.type "type")=true)
  (aQ1:PySem.W.findCls K (.ref kr) (.type "type") "__init__"=some (.val (.ref f6)))
  (d85:nsIn K mainGlobals "all"=some none)
  (d86:nsIn K mainGlobals "any"=some none)
  (d87:nsIn K mainGlobals "bool"=some none)
  (d88:nsIn K mainGlobals "enumerate"=some none)
  (d89:nsIn K mainGlobals "int"=some none)
  (d90:nsIn K mainGlobals "isinstance"=some none)
  (d91:nsIn K mainGlobals "len"=some none)
  (d92:nsIn K mainGlobals "list"=some none)
  (d93:nsIn K mainGlobals "min"=some none)
  (d94:nsIn K mainGlobals "range"=some none)
  (d95:nsIn K mainGlobals "sum"=some none)
  (d96:nsIn K mainGlobals "zip"=some none)
  (aW7:typeIn K (.ref iE)=some (.type "type"))
  (aS8:findIn K (.ref iE) "__getattribute__"=some (some (.builtin "BaseException.__getattribute__")))
  (aS9:findIn K (.ref iE) "__getattr__"=some none)
  (aT0:findIn K (.ref iE) "__class__"=some (some (.builtin "object.__class__")))
  (aT1:specialIn K (.builtin "object.__class__") "__get__"=some (some (.builtin "getset_descriptor.__get__")))
  (aT2:PySem.W.takesIn K (.builtin "object.__class__")=some true)
  (aT3:mroIn K iE (.type "object")=some true)
  (aT4:mroIn K iE (.type "BaseException")=some true)
  (F0:ay K "_law_told" "_law_told" Hf f0 fd0)
  (F1:ay K "_law_many" "_law_many" Hh f1 fd1)
  (F2:ay K "powers_of" "powers_of" Hi f2 fd2)
  (F3:ay K "step_powers" "step_powers" Hj f3 fd3)
  (F4:ay K "logs_of" "logs_of" Hk f4 fd4)
  (F5:ay K "step_power" "Field.step_power" Hm f5 fd5)
  (F6:ay K "__init__" "Field.__init__" Ho f6 fd6)
  (F7:ay K "makes_prime_field" "makes_prime_field" Hq f7 fd7)
  (F9:ay K "product_rows" "product_rows" Hr f9 fd9)
  (We:ay K "bits_divided" "bits_divided" Hs Mw dR7)
  (Wf:ay K "stands_alone" "stands_alone" Ht Mx dR8)
  (Wg:ay K "makes_bit_field" "makes_bit_field" Hv nE dR9)
  (Wh:ay K "bits_times" "bits_times" Hw Mz dS0)
  (Wi:ay K "_law_field" "_law_field" Hx MA dS1)
  (Wj:ay K "_law_cell" "_law_cell" Hy MB dS2)
  (Wk:ay K "_law_mixed" "_law_mixed" Hz MC dS3)
  (Wl:ay K "_law_free_table" "_law_free_table" HA MD dS4)
  (Wm:ay K "width_of" "width_of" HB ME dS5)
  (Wn:ay K "first_with" "first_with" HC MF dS6)
  (Ni:ay K "scaled" "BitField.scaled" HD DA dS7)
  (Nj:ay K "scaled" "PrimeField.scaled" HE DB dS8)
  (Nk:ay K "lessened" "BitField.lessened" HF DC dS9)
  (Nl:ay K "lessened" "PrimeField.lessened" HG uJ dT0)
  (Wo:ay K "cleared" "cleared" HH MG dT1)
  (DO:ay K "over" "Field.over" HI wu dT2)
  (Wq:ay K "reduced" "reduced" HJ MH dT3)
  (Wr:ay K "copied" "copied" HK MI dT4)
  (Ws:ay K "leads" "leads" HL MJ dT5)
  (Wt:ay K "free_places" "free_places" HM MK dT6)
  (Nm:ay K "minus" "BitField.minus" HN DD dT7)
  (Nn:ay K "minus" "PrimeField.minus" HP DE dT8)
  (Wu:ay K "kernel_of_reduced" "kernel_of_reduced" HQ ML dT9)
  (Np:ay K "__init__" "Code.__init__" HR zT dU0)
  (DP:ay K "holds" "Field.holds" HS wz dU1)
  (Wv:ay K "is_small_table" "is_small_table" HU MM dU2)
  (Ww:ay K "rank" "rank" HV MN dU3)
  (Wx:ay K "turned" "turned" HW MP dU4)
  (Wy:ay K "is_nought" "is_nought" HX MQ dU5)
  (Nq:ay K "times" "BitField.times" HY DF dU6)
  (Nr:ay K "times" "PrimeField.times" HZ DG dU7)
  (Wz:ay K "past" "past" Ia MR dU8)
  (WA:ay K "first_bound" "first_bound" Ib MS dU9)
  (WB:ay K "__init__" "CheckCode.__init__" Ic DH dV0)
  (WC:ay K "_law_times" "_law_times" Ie MT dV1)
  (WD:ay K "_law_powers" "_law_powers" Ig MU dV2)
  (WE:ay K "_law_root_table" "_law_root_table" Ii MV dV3)
  (WG:ay K "makes_root_code" "makes_root_code" Ij MW dV4)
  (Nt:ay K "distance" "CheckCode.distance" Ik DI dV5)
  (Nu:ay K "distance" "RepeatCode.distance" To DJ dV6)
  (Nv:ay K "distance" "RootCode.distance" Tp DK dV7)
  (WH:ay K "repeat_checks" "repeat_checks" Il MX dV8)
  (WI:ay K "__init__" "RepeatCode.__init__" Im DL dV9)
  (WJ:ay K "_law_repeat_table" "_law_repeat_table" Io MY dW0)
  (WK:ay K "_law_code" "_law_code" Ip MZ dW1)
  (WL:ay K "_law_message" "_law_message" Iq M4 dW2)
  (WM:ay K "refuse_length" "refuse_length" Ir M5 dW3)
  (WN:ay K "refuse_no_sign" "refuse_no_sign" Iu M6 dW4)
  (Nw:ay K "dot" "BitField.dot" Iw DM dW5)
  (Nx:ay K "dot" "PrimeField.dot" Iy DN dW6)
  (WO:ay K "row_by" "row_by" Iz M7 dW7)
  (zW:ay K "written" "Code.written" IA sO dW8)
  (zX:ay K "rows" "Code.rows" IB sP dW9)
  (zY:ay K "places" "Code.places" IC sQ dX0)
  (zZ:ay K "checks" "Code.checks" ID sR dX1)
  (WQ:ay K "_law_spoilt" "_law_spoilt" IE M8 dX2)
  (WR:ay K "_law_plus" "_law_plus" IF M9 dX3)
  (WS:ay K "_law_by_rows" "_law_by_rows" IG Na dX4)
  (WT:ay K "_law_sums" "_law_sums" IH Nb dX5)
  (WU:ay K "_law_whole" "_law_whole" II Nc dX6)
  (l8:K.lookup f8=some ⟨oc8,od8,.func (fnOf "__init__" "PrimeField.__init__" (iJ nW) (fH nW) (aJ nW) .none kV8 dc8 pm8 an8 (.ref zP) ct8),sl8⟩)
  (c8:codeIn K (.ref zP) "PrimeField.__init__"=true)
  (k8:keepIn K (.ref f8)=true)
  (aW1:K.lookup zP=some ⟨aD3,aD1,.fields VD,aD2⟩)
  (aW2:VD[11]?=some (.ref iT))
  (aD6:codeHdIn K zP iT=true)
  (l14:K.lookup zQ=some ⟨dO5,dO2,.func (fnOf "__init__" "BitField.__init__" (iJ nX) (fH nX) (aJ nX) .none dO6 dO7 dO8 dO3 (.ref zR) dO9),dO4⟩)
  (c14:codeIn K (.ref zR) "BitField.__init__"=true)
  (k14:keepIn K (.ref zQ)=true)
  (aW4:K.lookup zR=some ⟨aI7,aI5,.fields VE,aI6⟩)
  (aW5:VE[11]?=some (.ref iU))
  (aJ0:codeHdIn K zR iU=true)
  (l49:K.lookup zS=some ⟨dP7,dP5,.func (fnOf "__init__" "RootCode.__init__" (iJ nY) (fH nY) (aJ nY) (.ref Mt) VG VH VI VF Ms VJ),dP6⟩)
  (eb0:K.lookup Mt=some ⟨dP8,dQ0,.seq #[dP9] dQ2,dQ1⟩)
  (c49:codeIn K Ms "RootCode.__init__"=true)
  (k49:keepIn K (.ref zS)=true)
  (l72:K.lookup Mv=some ⟨dQ5,dQ3,.func (fnOf "law" "law" (iJ nZ) (fH nZ) (aJ nZ) .none VM VN VO VL Mu VP),dQ4⟩)
  (c72:codeIn K Mu "law"=true)
  (k72:keepIn K (.ref Mv)=true)
  (aJ1:(cW aH==cW cB)=false)
  (aJ2:(clsIn K cB).isSome=true)
  (eb8:(cW bI==cW cB)=false)
  (eb9:(clsIn K cB).isSome=true)
  (aD7:(cW aO==cW cB)=false)
  (aD8:(clsIn K cB).isSome=true)
  (ec2:(cW bQ==cW cB)=false)
  (ec3:(clsIn K cB).isSome=true)
  (ec4:(cW bx==cW cB)=false)
  (ec5:(clsIn K cB).isSome=true)
  (aU6:(clsIn K iE).isSome=true)
  (aU7:PySem.W.excIn K iE [.type "ValueError",.type "Exception",.type "BaseException",.type "object"] "ValueError.__new__"=true)
  (nl:K.all (λp=>FR p.2)=true)
  (sub:∀P∈[iT,iU],P∈ts) :
  ∃fd:FuncData,(∀(s:Shared) (v:Value),BindsTo s fd ⟨[v],[]⟩ [("_law_script",v)])/\∀base:Heap,K.In base->base.Ns mainGlobals mg->Bm mg base->aM l.prog w K mg base aQ 12 fa fd ["_law_script"] (BF ts K):=by
 have e:=hfa.symm.trans (mg_of X G VT)
 cases e
 have F8:=Bc (st:=nW) l8 c8 k8
 have b8:=F8.binds (ps:=["self","prime"]) λ_ _ _ _ _ _=>eU (λ_ _=>rfl)
 have WV:=Bc (st:=nX) l14 c14 k14
 have b14:=WV.binds (ps:=["self","bits"]) λ_ _ _ _ _ _=>eU (λ_ _=>rfl)
 have F49:=cq7 (st:=nY) l49 c49 k49
 have b49:=cz3 (ps:=["self","field","length","extra","first"]) (fd:=fnOf "__init__" "RootCode.__init__" (iJ nY) (fH nY) (aJ nY) (.ref Mt) VG VH VI VF Ms VJ) rfl eb0 rfl (SG (λ_ _ _ _ _=>⟨_,rfl,rfl⟩))
 have WW:=Bc (st:=nZ) l72 c72 k72
 have b72:=WW.binds (ps:=["_law_script"]) λ_ _ _ _ _ _=>fw (λ_=>rfl)
 have T:Txt K mg ⟨f0,_,f1,_,f2,_,f3,_,f4,_,f5,_,f6,_,f7,_,f8,_,f9,_,Mw,_,Mx,_,nE,_,Mz,_,zQ,_,MA,_,MB,_,MC,_,MD,_,ME,_,MF,_,DA,_,DB,_,DC,_,uJ,_,MG,_,wu,_,MH,_,MI,_,MJ,_,MK,_,DD,_,DE,_,ML,_,zT,_,wz,_,MM,_,MN,_,MP,_,MQ,_,DF,_,DG,_,MR,_,MS,_,DH,_,MT,_,MU,_,MV,_,MW,_,zS,_,DI,_,DJ,_,DK,_,MX,_,DL,_,MY,_,MZ,_,M4,_,M5,_,M6,_,DM,_,DN,_,M7,_,sO,_,sP,_,sQ,_,sR,_,M8,_,M9,_,Na,_,Nb,_,Nc,_,fa,_,zP,iT,zR,iU,aH,iE,bI,cB,kr,aO,bQ,bx⟩:=⟨F0,mg_of X G a0,F0.binds λ_ _ _ _ _ _=>fw λ_=>rfl,F1,mg_of X G a1,F1.binds λ_ _ _ _ _ _=>fw λ_=>rfl,F2,mg_of X G a2,F2.binds λ_ _ _ _ _ _=>eU λ_ _=>rfl,F3,mg_of X G a3,F3.binds λ_ _ _ _ _ _=>eU λ_ _=>rfl,F4,mg_of X G a4,F4.binds λ_ _ _ _ _ _=>fw λ_=>rfl,F5,F5.binds λ_ _ _ _ _ _=>eU λ_ _=>rfl,F6,F6.binds λ_ _ _ _ _ _=>gb λ_ _ _=>rfl,F7,mg_of X G a7,F7.binds λ_ _ _ _ _ _=>fw λ_=>rfl,F8,b8,F9,mg_of X G a9,F9.binds λ_ _ _ _ _ _=>eU λ_ _=>rfl,We,mg_of X G a10,We.binds λ_ _ _ _ _ _=>eU λ_ _=>rfl,Wf,mg_of X G a11,Wf.binds λ_ _ _ _ _ _=>fw λ_=>rfl,Wg,mg_of X G a12,Wg.binds λ_ _ _ _ _ _=>fw λ_=>rfl,Wh,mg_of X G a13,Wh.binds λ_ _ _ _ _ _=>eU λ_ _=>rfl,WV,b14,Wi,mg_of X G a15,Wi.binds λ_ _ _ _ _ _=>fw λ_=>rfl,Wj,mg_of X G a16,Wj.binds λ_ _ _ _ _ _=>eU λ_ _=>rfl,Wk,mg_of X G a17,Wk.binds λ_ _ _ _ _ _=>eU λ_ _=>rfl,Wl,mg_of X G a18,Wl.binds λ_ _ _ _ _ _=>SG λ_ _ _ _ _=>rfl,Wm,mg_of X G a19,Wm.binds λ_ _ _ _ _ _=>fw λ_=>rfl,Wn,mg_of X G a20,Wn.binds λ_ _ _ _ _ _=>eU λ_ _=>rfl,Ni,Ni.binds λ_ _ _ _ _ _=>gb λ_ _ _=>rfl,Nj,Nj.binds λ_ _ _ _ _ _=>gb λ_ _ _=>rfl,Nk,Nk.binds λ_ _ _ _ _ _=>pH λ_ _ _ _=>rfl,Nl,Nl.binds λ_ _ _ _ _ _=>pH λ_ _ _ _=>rfl,Wo,mg_of X G a25,Wo.binds λ_ _ _ _ _ _=>pH λ_ _ _ _=>rfl,DO,DO.binds λ_ _ _ _ _ _=>gb λ_ _ _=>rfl,Wq,mg_of X G a27,Wq.binds λ_ _ _ _ _ _=>eU λ_ _=>rfl,Wr,mg_of X G a28,Wr.binds λ_ _ _ _ _ _=>fw λ_=>rfl,Ws,mg_of X G a29,Ws.binds λ_ _ _ _ _ _=>fw λ_=>rfl,Wt,mg_of X G a30,Wt.binds λ_ _ _ _ _ _=>eU λ_ _=>rfl,Nm,Nm.binds λ_ _ _ _ _ _=>gb λ_ _ _=>rfl,Nn,Nn.binds λ_ _ _ _ _ _=>gb λ_ _ _=>rfl,Wu,mg_of X G a33,Wu.binds λ_ _ _ _ _ _=>gb λ_ _ _=>rfl,Np,Np.binds λ_ _ _ _ _ _=>gb λ_ _ _=>rfl,DP,DP.binds λ_ _ _ _ _ _=>eU λ_ _=>rfl,Wv,mg_of X G a36,Wv.binds λ_ _ _ _ _ _=>eU λ_ _=>rfl,Ww,mg_of X G a37,Ww.binds λ_ _ _ _ _ _=>eU λ_ _=>rfl,Wx,mg_of X G a38,Wx.binds λ_ _ _ _ _ _=>fw λ_=>rfl,Wy,mg_of X G a39,Wy.binds λ_ _ _ _ _ _=>fw λ_=>rfl,Nq,Nq.binds λ_ _ _ _ _ _=>gb λ_ _ _=>rfl,Nr,Nr.binds λ_ _ _ _ _ _=>gb λ_ _ _=>rfl,Wz,mg_of X G a42,Wz.binds λ_ _ _ _ _ _=>gb λ_ _ _=>rfl,WA,mg_of X G a43,WA.binds λ_ _ _ _ _ _=>eU λ_ _=>rfl,WB,WB.binds λ_ _ _ _ _ _=>gb λ_ _ _=>rfl,WC,mg_of X G a45,WC.binds λ_ _ _ _ _ _=>gb λ_ _ _=>rfl,WD,mg_of X G a46,WD.binds λ_ _ _ _ _ _=>fw λ_=>rfl,WE,mg_of X G a47,WE.binds λ_ _ _ _ _ _=>pH λ_ _ _ _=>rfl,WG,mg_of X G a48,WG.binds λ_ _ _ _ _ _=>pH λ_ _ _ _=>rfl,F49,b49,Nt,Nt.binds λ_ _ _ _ _ _=>fw λ_=>rfl,Nu,Nu.binds λ_ _ _ _ _ _=>fw λ_=>rfl,Nv,Nv.binds λ_ _ _ _ _ _=>fw λ_=>rfl,WH,mg_of X G a53,WH.binds λ_ _ _ _ _ _=>eU λ_ _=>rfl,WI,WI.binds λ_ _ _ _ _ _=>gb λ_ _ _=>rfl,WJ,mg_of X G a55,WJ.binds λ_ _ _ _ _ _=>eU λ_ _=>rfl,WK,mg_of X G a56,WK.binds λ_ _ _ _ _ _=>eU λ_ _=>rfl,WL,mg_of X G a57,WL.binds λ_ _ _ _ _ _=>pH λ_ _ _ _=>rfl,WM,mg_of X G a58,WM.binds λ_ _ _ _ _ _=>eU λ_ _=>rfl,WN,mg_of X G a59,WN.binds λ_ _ _ _ _ _=>eU λ_ _=>rfl,Nw,Nw.binds λ_ _ _ _ _ _=>gb λ_ _ _=>rfl,Nx,Nx.binds λ_ _ _ _ _ _=>gb λ_ _ _=>rfl,WO,mg_of X G a62,WO.binds λ_ _ _ _ _ _=>gb λ_ _ _=>rfl,zW,zW.binds λ_ _ _ _ _ _=>eU λ_ _=>rfl,zX,zX.binds λ_ _ _ _ _ _=>fw λ_=>rfl,zY,zY.binds λ_ _ _ _ _ _=>fw λ_=>rfl,zZ,zZ.binds λ_ _ _ _ _ _=>fw λ_=>rfl,WQ,mg_of X G a67,WQ.binds λ_ _ _ _ _ _=>eU λ_ _=>rfl,WR,mg_of X G a68,WR.binds λ_ _ _ _ _ _=>gb λ_ _ _=>rfl,WS,mg_of X G a69,WS.binds λ_ _ _ _ _ _=>pH λ_ _ _ _=>rfl,WT,mg_of X G a70,WT.binds λ_ _ _ _ _ _=>gb λ_ _ _=>rfl,WU,mg_of X G a71,WU.binds λ_ _ _ _ _ _=>fw λ_=>rfl,WW,mg_of X G VT,b72,rfl,aD6,rfl,aJ0,⟨VU,VV,VW,VX⟩,⟨Lz,a14,dY3,aU3⟩,⟨⟨VU,VV,VW,VX⟩,aU4,zU,zV,aU5⟩,yv aJ1 aJ2 aI8 aI9,LA,vX,sD,vY,sE,LB,LC,⟨a60,d42,Nw.kp⟩,⟨LD,VS,DP.kp⟩,⟨a23,dZ5,Nk.kp⟩,⟨a31,d04,Nm.kp⟩,⟨LF,VR,DO.kp⟩,⟨a21,dZ1,Ni.kp⟩,⟨zr,VQ,F5.kp⟩,⟨a40,d14,Nq.kp⟩,⟨VY,VZ,V0,V1⟩,⟨CN,a44,d20,d56⟩,⟨⟨VY,VZ,V0,V1⟩,d58,zU,zV,d60⟩,yv eb8 eb9 d61 d62,CO,CP,CQ,CS,CT,CU,CV,⟨CW,Nh,zZ.kp⟩,⟨a50,d28,Nt.kp⟩,⟨v7,Ng,zY.kp⟩,⟨v9,Nf,zX.kp⟩,⟨zt,Nd,zW.kp⟩,⟨V2,V3,V4,V5⟩,⟨LG,a8,mf8,aP6⟩,⟨⟨V2,V3,V4,V5⟩,aP7,zU,zV,aP8⟩,yv aD7 aD8 aD4 aD5,zu,sF,zw,pM,LH,LJ,⟨a61,d44,Nx.kp⟩,⟨LK,VS,DP.kp⟩,⟨a24,dZ7,Nl.kp⟩,⟨a32,d06,Nn.kp⟩,⟨LL,VR,DO.kp⟩,⟨a22,dZ3,Nj.kp⟩,⟨zx,VQ,F5.kp⟩,⟨a41,d16,Nr.kp⟩,⟨V6,V7,V8,V9⟩,⟨LN,a54,d35,d68⟩,⟨⟨V6,V7,V8,V9⟩,d69,zU,zV,d70⟩,yv ec2 ec3 d71 d72,CY,CZ,C2,C5,C6,C7,⟨C8,Nh,zZ.kp⟩,⟨a51,d30,Nu.kp⟩,⟨wb,Ng,zY.kp⟩,⟨wc,Nf,zX.kp⟩,⟨zy,Nd,zW.kp⟩,⟨Wa,Wb,Wc,Wd⟩,⟨LO,a49,d26,d73⟩,⟨⟨Wa,Wb,Wc,Wd⟩,d74,zU,zV,d75⟩,yv ec4 ec5 d76 d77,C9,LP,Dc,LQ,De,Df,Dg,Dh,⟨Di,Nh,zZ.kp⟩,⟨a52,d32,Nv.kp⟩,⟨we,Ng,zY.kp⟩,⟨wg,Nf,zX.kp⟩,⟨zB,Nd,zW.kp⟩,⟨d78,d80,d81,Np.kp⟩,⟨aP9,aQ0,aQ1,F6.kp⟩,mg_none_of X G d85,mg_none_of X G d86,mg_none_of X G d87,mg_none_of X G d88,mg_none_of X G d89,mg_none_of X G d90,mg_none_of X G d91,mg_none_of X G d92,mg_none_of X G d93,mg_none_of X G d94,mg_none_of X G d95,mg_none_of X G d96,mg_of X G LS,mg_of X G LU,mg_of X G Dj,mg_of X G wk,mg_of X G Dk,mg_of X G LV,mg_of X G LW,mg_of X G LX,cB4 (mg_of X G LU) aU7,⟨aU6,aS8,aS9,aT0,aT1,aT2,aT3,aT4⟩⟩
 exact⟨fnOf "law" "law" (iJ nZ) (fH nZ) (aJ nZ) .none VM VN VO VL Mu VP,λs v=>.of_eq rfl,λbase _ _ hB=>(cG0 T hB).imp λvs H Q E h=>let z:=cb8 nl h;⟨λP hP=>z.1 P (sub P hP),z.2⟩⟩
theorem aD9{K:Frag}{h:Heap}{c f k P:Addr}{od an:Option Addr}{sl:Array (Option Value)}{oc kV dc pm ct kt:Value}{ko:Option Addr}{ks:Array (Option Value)}{kf:Array Value}(X:K.In h)(a:nsIn K mainGlobals "PrimeField"=some (some (.ref c)))(b:findIn K (.ref c) "__init__"=some (some (.ref f)))
  (l:K.lookup f=some ⟨oc,od,.func (fnOf "__init__" "PrimeField.__init__" (iJ nW) (fH nW) (aJ nW) .none kV dc pm an (.ref k) ct),sl⟩) (lk:K.lookup k=some ⟨kt,ko,.fields kf,ks⟩) (lp:kf[11]?=some (.ref P)) (n:K.lookup P=none) (e:codeHdIn K k P=true):K.lookup P=none/\∃c,CodeHd h c P:=⟨n,k,PySem.W.codeHd_of_K X e⟩
theorem aJ3{K:Frag}{h:Heap}{c f k P:Addr}{od an:Option Addr}{sl:Array (Option Value)}{oc kV dc pm ct kt:Value}{ko:Option Addr}{ks:Array (Option Value)}{kf:Array Value}(X:K.In h)(a:nsIn K mainGlobals "BitField"=some (some (.ref c)))(b:findIn K (.ref c) "__init__"=some (some (.ref f)))
  (l:K.lookup f=some ⟨oc,od,.func (fnOf "__init__" "BitField.__init__" (iJ nX) (fH nX) (aJ nX) .none kV dc pm an (.ref k) ct),sl⟩) (lk:K.lookup k=some ⟨kt,ko,.fields kf,ks⟩) (lp:kf[11]?=some (.ref P)) (n:K.lookup P=none) (e:codeHdIn K k P=true):K.lookup P=none/\∃c,CodeHd h c P:=⟨n,k,PySem.W.codeHd_of_K X e⟩
theorem walk{l:PySem.W.OpenLaw}{q:Program}{loose:List Str}{XP:(Str->Option Value)->Heap->Prop}{YP:World->Heap->Prop}{d:DefRec}{K:Params->Frag}{ts:List Addr}(hn:l.most=some 63)(xt:d.params.defaults=[])
  (hY:∀(w:World) (h:Heap),YP w h->(K w.params).In h/\∀P∈ts,h.get? P=some (PySem.W.tabObj #[]))
  (hC:∀(w:World) (h:Heap),(K w.params).In h->∀P∈ts,(K w.params).lookup P=none/\∃c,CodeHd h c P)
  (F:∀(w:World) (mg:Str->Option Value) (fa:Addr) (h:Heap),(K w.params).In h->h.Ns mainGlobals mg->mg d.name=some (.ref fa) ->
   ∃fd:FuncData,(∀(s:Shared) (u:Value),BindsTo s fd ⟨[u],[]⟩ [("_law_script",u)])/\∀base:Heap,(K w.params).In base->base.Ns mainGlobals mg->Bm mg base->aM l.prog w (K w.params) mg base aQ 12 fa fd ["_law_script"] (BF ts (K w.params))) :
  PySem.W.WalkO q loose XP YP l.row.toRowW d [] (λf vs=>PySem.call f vs) :=
 L2.c33 (n:=63) (k:=12) (x:="_law_script") (CX:=λ_=>aQ) (sp:=λw=>BF ts (K w.params)) hn (by decide) xt ⟨rfl,by decide,by decide⟩ hY hC F (λ_ _ a ns hl hO hS=>⟨a,ns,rfl,hO,hS,hl,λ_=>rfl⟩) λ_ _ _ _ _ z=>z
end HK34
namespace PySem.W.Fast
theorem tw7512489735263721472:True:=⟨⟩
theorem tw8636046892459729920:True:=⟨⟩
theorem tw14783205134108175360:True:=⟨⟩
theorem tw4446137537756570688:True:=⟨⟩
theorem tw2231642665271252096:True:=⟨⟩
theorem tw3602618162302592192:True:=⟨⟩
theorem tw479572783308187872:True:=⟨⟩
theorem tw12346109524544310496:True:=⟨⟩
theorem tw17267734704375092448:True:=⟨⟩
theorem tw5116415567880910112:True:=⟨⟩
theorem tw6262557416322152768:True:=⟨⟩
theorem tw5346957455292935520:True:=⟨⟩
theorem tw12053744449570262368:True:=⟨⟩
theorem tw15843831734028652896:True:=⟨⟩
theorem tw7404670186148965760:True:=⟨⟩
theorem tw15629062561298254272:True:=⟨⟩
theorem tw641788672222378432:True:=⟨⟩
theorem tw2583829099311094208:True:=⟨⟩
theorem tw10250290843373888960:True:=⟨⟩
theorem tw7251706787390434784:True:=⟨⟩
theorem tw15774294620332325440:True:=⟨⟩
theorem tw17230917613445145216:True:=⟨⟩
theorem tw1141896031780245152:True:=⟨⟩
theorem tw8709825629951271584:True:=⟨⟩
theorem tw15142776652732281504:True:=⟨⟩
theorem tw14539989381857340096:True:=⟨⟩
theorem tw14565974054013234912:True:=⟨⟩
theorem tw6055934350616620832:True:=⟨⟩
theorem tw15065042352222125888:True:=⟨⟩
theorem tw15366488645478913888:True:=⟨⟩
theorem tw3942717605584908128:True:=⟨⟩
theorem tw1436640694973196128:True:=⟨⟩
theorem tw11655788982091792320:True:=⟨⟩
theorem tw7102656914888520640:True:=⟨⟩
theorem tw8997611466259303360:True:=⟨⟩
theorem tw6135804072391576544:True:=⟨⟩
theorem tw3750326972442956768:True:=⟨⟩
theorem tw8174963410984732673:True:=⟨⟩
theorem tw12478398315541736481:True:=⟨⟩
theorem tw14061674232931920929:True:=⟨⟩
theorem tw18085347638563977249:True:=⟨⟩
theorem tw7372255978170672161:True:=⟨⟩
theorem tw16639524675659622433:True:=⟨⟩
theorem tw6372561254527916097:True:=⟨⟩
theorem tw5592159705804893249:True:=⟨⟩
theorem tw5066264415902990465:True:=⟨⟩
theorem tw8404695138339154049:True:=⟨⟩
theorem tw1379411523391160481:True:=⟨⟩
theorem tw10622140305649160353:True:=⟨⟩
theorem tw16625998506321239201:True:=⟨⟩
theorem tw16405509336988971169:True:=⟨⟩
theorem tw5439637459178112289:True:=⟨⟩
theorem tw11319504708777081121:True:=⟨⟩
theorem tw7010084586732952897:True:=⟨⟩
theorem tw11716514186320355713:True:=⟨⟩
theorem tw6832204120150843777:True:=⟨⟩
theorem tw8563639798843164033:True:=⟨⟩
theorem tw11924410213545597313:True:=⟨⟩
theorem tw151013147809451425:True:=⟨⟩
theorem tw6061867065879121345:True:=⟨⟩
theorem tw13067186001885060545:True:=⟨⟩
theorem tw2802655431049766369:True:=⟨⟩
theorem tw13097920077844452865:True:=⟨⟩
theorem tw417874082275044865:True:=⟨⟩
theorem tw1113752846015601249:True:=⟨⟩
theorem tw15450521450207659617:True:=⟨⟩
theorem tw4475659338004370081:True:=⟨⟩
theorem tw9989016895203834529:True:=⟨⟩
theorem tw13214013418130358977:True:=⟨⟩
theorem tw7520299452722504385:True:=⟨⟩
theorem tw16567687161045117665:True:=⟨⟩
theorem tw16694698880336657121:True:=⟨⟩
theorem tw11107847074200514305:True:=⟨⟩
theorem tw11288814123604967169:True:=⟨⟩
theorem tw113435226013586209:True:=⟨⟩
theorem tw9968748776295796545:True:=⟨⟩
theorem tw1757290976282421057:True:=⟨⟩
theorem tw14035556027614347073:True:=⟨⟩
theorem tw4497342553783534433:True:=⟨⟩
theorem tw1172314141567556481:True:=⟨⟩
theorem tw12840873499239046017:True:=⟨⟩
theorem tw13693894744122089345:True:=⟨⟩
theorem tw17792631093265150881:True:=⟨⟩
theorem tw16511884712999638945:True:=⟨⟩
theorem tw13723988704668085250:True:=⟨⟩
theorem tw1213683424954777634:True:=⟨⟩
theorem tw16741651163595949090:True:=⟨⟩
theorem tw4010691218900437058:True:=⟨⟩
theorem tw4883306837334754402:True:=⟨⟩
theorem tw9927303103977285762:True:=⟨⟩
theorem tw3145718618194412706:True:=⟨⟩
theorem tw6629584410727215298:True:=⟨⟩
theorem tw499494939053539554:True:=⟨⟩
theorem tw7631826073138517218:True:=⟨⟩
theorem tw15195298128242761986:True:=⟨⟩
theorem tw10482493840220762434:True:=⟨⟩
theorem tw8052004177438783810:True:=⟨⟩
theorem tw3716957311907785026:True:=⟨⟩
theorem tw13728812424001474914:True:=⟨⟩
theorem tw4573197758502888834:True:=⟨⟩
theorem tw2286579457772335554:True:=⟨⟩
theorem tw3229976433428485570:True:=⟨⟩
theorem tw7096452307684731362:True:=⟨⟩
theorem tw10044783530496789026:True:=⟨⟩
theorem tw16099377355203130946:True:=⟨⟩
theorem tw2146435053211343522:True:=⟨⟩
theorem tw10915460320621104834:True:=⟨⟩
theorem tw8474598708790955746:True:=⟨⟩
theorem tw16951670597232773858:True:=⟨⟩
theorem tw17501492610718805794:True:=⟨⟩
theorem tw16246913523446645570:True:=⟨⟩
theorem tw11738828745150794562:True:=⟨⟩
theorem tw7315248649188233154:True:=⟨⟩
theorem tw2632974583647200226:True:=⟨⟩
theorem tw10699464490279419971:True:=⟨⟩
theorem tw13549716565090213987:True:=⟨⟩
theorem tw10151789336928462947:True:=⟨⟩
theorem tw16588296988097529955:True:=⟨⟩
theorem tw15896085409739249827:True:=⟨⟩
theorem tw10483766834478488739:True:=⟨⟩
theorem tw3398219202563449059:True:=⟨⟩
theorem tw18408762457800527107:True:=⟨⟩
theorem tw10026464317317772547:True:=⟨⟩
theorem tw2195642906644773123:True:=⟨⟩
theorem tw5629546469412422947:True:=⟨⟩
theorem tw4866174116807967043:True:=⟨⟩
theorem tw2821829076859091299:True:=⟨⟩
theorem tw10154965140592487907:True:=⟨⟩
theorem tw1276064264967857667:True:=⟨⟩
theorem tw10304829208725853731:True:=⟨⟩
theorem tw13375206693655367235:True:=⟨⟩
theorem tw15889514076305284675:True:=⟨⟩
theorem tw10669068968080567907:True:=⟨⟩
theorem tw11858324073365587587:True:=⟨⟩
theorem tw13614829885995310723:True:=⟨⟩
theorem tw14072802023404134115:True:=⟨⟩
theorem tw17766763107152783107:True:=⟨⟩
theorem tw10023472172850819875:True:=⟨⟩
theorem tw12530380558034964355:True:=⟨⟩
theorem tw16909157555364387715:True:=⟨⟩
theorem tw15438613335846053763:True:=⟨⟩
theorem tw9815502923470538659:True:=⟨⟩
theorem tw9951278767929709475:True:=⟨⟩
theorem tw8778708380563283907:True:=⟨⟩
theorem tw11638503886332187619:True:=⟨⟩
theorem tw989022011451462660:True:=⟨⟩
theorem tw11292351884376107012:True:=⟨⟩
theorem tw15909430638569621540:True:=⟨⟩
theorem tw2385446250403159076:True:=⟨⟩
theorem tw15558747269644587076:True:=⟨⟩
theorem tw3119756963454557316:True:=⟨⟩
theorem tw14486838189741227140:True:=⟨⟩
theorem tw11994361155753137412:True:=⟨⟩
theorem tw13859437764632337668:True:=⟨⟩
theorem tw14640422484638820612:True:=⟨⟩
theorem tw12362784439202405732:True:=⟨⟩
theorem tw5681691301864624548:True:=⟨⟩
theorem tw8623474787801789860:True:=⟨⟩
theorem tw17988607883152045540:True:=⟨⟩
theorem tw753235126744989156:True:=⟨⟩
theorem tw7944128519629439492:True:=⟨⟩
theorem tw8568123347877109252:True:=⟨⟩
theorem tw5619586599789325892:True:=⟨⟩
theorem tw16760041227405939332:True:=⟨⟩
theorem tw17779987863365016196:True:=⟨⟩
theorem tw2135170903174360772:True:=⟨⟩
theorem tw4650535053498342180:True:=⟨⟩
theorem tw364095791416471332:True:=⟨⟩
theorem tw7170507906869472100:True:=⟨⟩
theorem tw10764677140407032708:True:=⟨⟩
theorem tw4119394422417006468:True:=⟨⟩
theorem tw6784351656009846692:True:=⟨⟩
theorem tw21397453979584517:True:=⟨⟩
theorem tw7610909973732827173:True:=⟨⟩
theorem tw13817170114063761477:True:=⟨⟩
theorem tw17666661638687249477:True:=⟨⟩
theorem tw5883422540352850085:True:=⟨⟩
theorem tw14845178611540466853:True:=⟨⟩
theorem tw8241227528398121125:True:=⟨⟩
theorem tw1718141675712516389:True:=⟨⟩
theorem tw7461258072744015141:True:=⟨⟩
theorem tw11099973501082137893:True:=⟨⟩
theorem tw18321670465006445893:True:=⟨⟩
theorem tw9399681430620182917:True:=⟨⟩
theorem tw13333575822257798565:True:=⟨⟩
theorem tw11636985011894709669:True:=⟨⟩
theorem tw5426241237306440133:True:=⟨⟩
theorem tw10125929976249985573:True:=⟨⟩
theorem tw16078504904728589893:True:=⟨⟩
theorem tw5727135545516128837:True:=⟨⟩
theorem tw9906226390665029221:True:=⟨⟩
theorem tw7913670187622545029:True:=⟨⟩
theorem tw3341443985239131845:True:=⟨⟩
theorem tw2289000815717371589:True:=⟨⟩
theorem tw8920374918988161765:True:=⟨⟩
theorem tw3108642137807968229:True:=⟨⟩
theorem tw10083604454003365958:True:=⟨⟩
theorem tw2502913533844972646:True:=⟨⟩
theorem tw11165200221408489574:True:=⟨⟩
theorem tw16503322811805274246:True:=⟨⟩
theorem tw4067134984037747846:True:=⟨⟩
theorem tw10426404136901500038:True:=⟨⟩
theorem tw11516073529153053830:True:=⟨⟩
theorem tw9196253688988592294:True:=⟨⟩
theorem tw16962160326594245830:True:=⟨⟩
theorem tw14200726065381724358:True:=⟨⟩
theorem tw3608809346889717030:True:=⟨⟩
theorem tw4224128401128969606:True:=⟨⟩
theorem tw6967228479140719014:True:=⟨⟩
theorem tw11388691652501338534:True:=⟨⟩
theorem tw8086354181604009414:True:=⟨⟩
theorem tw7197095683186590214:True:=⟨⟩
theorem tw10470501477228908038:True:=⟨⟩
theorem tw4596536004913242630:True:=⟨⟩
theorem tw4323110811064441382:True:=⟨⟩
theorem tw7048338880667308582:True:=⟨⟩
theorem tw12547267285032852006:True:=⟨⟩
theorem tw1444773110352772646:True:=⟨⟩
theorem tw8146667926586137158:True:=⟨⟩
theorem tw17075078464921236038:True:=⟨⟩
theorem tw3676347847732729446:True:=⟨⟩
theorem tw13680537588774593158:True:=⟨⟩
theorem tw6824945461068627590:True:=⟨⟩
theorem tw18233905738953015974:True:=⟨⟩
theorem tw7626919530275760870:True:=⟨⟩
theorem tw17765222285591830278:True:=⟨⟩
theorem tw7484762365263274758:True:=⟨⟩
theorem tw2243065815994412838:True:=⟨⟩
theorem tw16412728820621067046:True:=⟨⟩
theorem tw4144143319515712294:True:=⟨⟩
theorem tw6233344863365132070:True:=⟨⟩
theorem tw2417130677176344422:True:=⟨⟩
theorem tw17576616863702860646:True:=⟨⟩
theorem tw12926519210341728166:True:=⟨⟩
theorem tw17611552719332423654:True:=⟨⟩
theorem tw13394673411529489382:True:=⟨⟩
theorem tw11292946755975801830:True:=⟨⟩
theorem tw13473444413584702503:True:=⟨⟩
theorem tw8364630142340139079:True:=⟨⟩
theorem tw9981376500142912615:True:=⟨⟩
theorem tw9594431617807668327:True:=⟨⟩
theorem tw1875325295634830503:True:=⟨⟩
theorem tw11656653506348951751:True:=⟨⟩
theorem tw17304070060350669063:True:=⟨⟩
theorem tw15673550533588720903:True:=⟨⟩
theorem tw12053456075008888071:True:=⟨⟩
theorem tw5515873174579422503:True:=⟨⟩
theorem tw17293455052043328935:True:=⟨⟩
theorem tw6259242770902237607:True:=⟨⟩
theorem tw11792437881864885703:True:=⟨⟩
theorem tw1064292967112123847:True:=⟨⟩
theorem tw11208496737070937543:True:=⟨⟩
theorem tw3206176034362201575:True:=⟨⟩
theorem tw536966224733261351:True:=⟨⟩
theorem tw6665048187050088039:True:=⟨⟩
theorem tw8992134902640633447:True:=⟨⟩
theorem tw5221501721750122119:True:=⟨⟩
theorem tw8958678189948554887:True:=⟨⟩
theorem tw9861983363471397511:True:=⟨⟩
theorem tw15429123775279147687:True:=⟨⟩
theorem tw6854840958426234535:True:=⟨⟩
theorem tw17484379368462504647:True:=⟨⟩
theorem tw12079305203351831271:True:=⟨⟩
theorem tw13002822198970377959:True:=⟨⟩
theorem tw10373815720047694599:True:=⟨⟩
theorem tw15849769460178073447:True:=⟨⟩
theorem tw4637023634041289607:True:=⟨⟩
theorem tw14231472689250400135:True:=⟨⟩
theorem tw11994213871640348647:True:=⟨⟩
theorem tw11912891330471500775:True:=⟨⟩
theorem tw13572287295823569895:True:=⟨⟩
theorem tw13398778658733458440:True:=⟨⟩
theorem tw7753275504313549832:True:=⟨⟩
theorem tw2577233899480082472:True:=⟨⟩
theorem tw14495868587383026760:True:=⟨⟩
theorem tw313799536200705128:True:=⟨⟩
theorem tw6781936870519390408:True:=⟨⟩
theorem tw9352139897883116744:True:=⟨⟩
theorem tw5563171383435168040:True:=⟨⟩
theorem tw5185393284837781800:True:=⟨⟩
theorem tw6370118074628559144:True:=⟨⟩
theorem tw3880500839092385128:True:=⟨⟩
theorem tw6784196207345581448:True:=⟨⟩
theorem tw13658813839142839688:True:=⟨⟩
theorem tw7960618000885889480:True:=⟨⟩
theorem tw3534371694026518984:True:=⟨⟩
theorem tw17457189166216691176:True:=⟨⟩
theorem tw5071665715174268392:True:=⟨⟩
theorem tw8763493925705479656:True:=⟨⟩
theorem tw5134823871967588872:True:=⟨⟩
theorem tw11023681954559364648:True:=⟨⟩
theorem tw18159856548139988552:True:=⟨⟩
theorem tw15111040307664284264:True:=⟨⟩
theorem tw998020167686836904:True:=⟨⟩
theorem tw12447928655592776360:True:=⟨⟩
theorem tw3876485004932128456:True:=⟨⟩
theorem tw12539509675984217800:True:=⟨⟩
theorem tw3721492991066752744:True:=⟨⟩
theorem tw10767291195419381480:True:=⟨⟩
theorem tw12818207685775587048:True:=⟨⟩
theorem tw17665799142914491144:True:=⟨⟩
theorem tw8300727665911222024:True:=⟨⟩
theorem tw7131945101102934856:True:=⟨⟩
theorem tw16885960370043582312:True:=⟨⟩
theorem tw13564580688976807848:True:=⟨⟩
theorem tw7190894780111601576:True:=⟨⟩
theorem tw5088351478830619592:True:=⟨⟩
theorem tw13914454989962483688:True:=⟨⟩
theorem tw14096849587948411880:True:=⟨⟩
theorem tw5115626687128231977:True:=⟨⟩
theorem tw16093480786424839241:True:=⟨⟩
theorem tw12532988404694796393:True:=⟨⟩
theorem tw9615500326556181641:True:=⟨⟩
theorem tw435650276551840905:True:=⟨⟩
theorem tw15065132373626945737:True:=⟨⟩
theorem tw8311999781867655369:True:=⟨⟩
theorem tw1159031114382604489:True:=⟨⟩
theorem tw608523929177201897:True:=⟨⟩
theorem tw1879794264627696873:True:=⟨⟩
theorem tw2858943683608671465:True:=⟨⟩
theorem tw8825320107265538313:True:=⟨⟩
theorem tw303013055876178217:True:=⟨⟩
theorem tw13689638689925519657:True:=⟨⟩
theorem tw15671545094419657065:True:=⟨⟩
theorem tw2927867042384301513:True:=⟨⟩
theorem tw1495098658196207081:True:=⟨⟩
theorem tw11850829287316567529:True:=⟨⟩
theorem tw11552972393091564073:True:=⟨⟩
theorem tw15008969390409757225:True:=⟨⟩
theorem tw1453616048511341129:True:=⟨⟩
theorem tw4625203979063341673:True:=⟨⟩
theorem tw13076563973279752841:True:=⟨⟩
theorem tw11723189392531771049:True:=⟨⟩
theorem tw10232972241947299529:True:=⟨⟩
theorem tw17497700225037468425:True:=⟨⟩
theorem tw7147983057884617481:True:=⟨⟩
theorem tw4199082888374698761:True:=⟨⟩
theorem tw17238684157675673513:True:=⟨⟩
theorem tw6647934785917622185:True:=⟨⟩
theorem tw1131803208346345482:True:=⟨⟩
theorem tw6740913524908243978:True:=⟨⟩
theorem tw566140859034005546:True:=⟨⟩
theorem tw17505812172935336010:True:=⟨⟩
theorem tw16523375533125477450:True:=⟨⟩
theorem tw6896523863389326442:True:=⟨⟩
theorem tw2809203377046703210:True:=⟨⟩
theorem tw18225195385541658762:True:=⟨⟩
theorem tw3784349220049478858:True:=⟨⟩
theorem tw921376068106523882:True:=⟨⟩
theorem tw1146544151506918666:True:=⟨⟩
theorem tw9829890040996527370:True:=⟨⟩
theorem tw15814120837513339178:True:=⟨⟩
theorem tw18088673468881901866:True:=⟨⟩
theorem tw9275008124584766794:True:=⟨⟩
theorem tw11246102697873265066:True:=⟨⟩
theorem tw6285395081040556490:True:=⟨⟩
theorem tw16081308993443673610:True:=⟨⟩
theorem tw4293695265764589066:True:=⟨⟩
theorem tw2876037849630467658:True:=⟨⟩
theorem tw3295727177107852906:True:=⟨⟩
theorem tw7011141966669730410:True:=⟨⟩
theorem tw15554589066667030122:True:=⟨⟩
theorem tw9131622478792677002:True:=⟨⟩
theorem tw12193789148337284778:True:=⟨⟩
theorem tw16840081499873359594:True:=⟨⟩
theorem tw692328964927113962:True:=⟨⟩
theorem tw2722147169063499498:True:=⟨⟩
theorem tw1504751027512463114:True:=⟨⟩
theorem tw9580132496874029866:True:=⟨⟩
theorem tw14570754340226627402:True:=⟨⟩
theorem tw9961832894401589098:True:=⟨⟩
theorem tw8738184927636892522:True:=⟨⟩
theorem tw13251316524063905642:True:=⟨⟩
theorem tw13389419602344510346:True:=⟨⟩
theorem tw3970913904624239594:True:=⟨⟩
theorem tw3691695514668784618:True:=⟨⟩
theorem tw13964338330282599435:True:=⟨⟩
theorem tw6110282266205156363:True:=⟨⟩
theorem tw9682472177899113547:True:=⟨⟩
theorem tw16787563027579707499:True:=⟨⟩
theorem tw17810624447667651691:True:=⟨⟩
theorem tw1778673160387698827:True:=⟨⟩
theorem tw17167704793702090891:True:=⟨⟩
theorem tw16170742551228132587:True:=⟨⟩
theorem tw18015834068579307755:True:=⟨⟩
theorem tw5670653486403137803:True:=⟨⟩
theorem tw3357025357703657739:True:=⟨⟩
theorem tw15946323828212046123:True:=⟨⟩
theorem tw648872218462332235:True:=⟨⟩
theorem tw4786143650710024523:True:=⟨⟩
theorem tw13181779300595572075:True:=⟨⟩
theorem tw9338665421791564203:True:=⟨⟩
theorem tw12006436273487275435:True:=⟨⟩
theorem tw12121170775706882475:True:=⟨⟩
theorem tw16231172060800715243:True:=⟨⟩
theorem tw6656677889202224651:True:=⟨⟩
theorem tw8546272194957149739:True:=⟨⟩
theorem tw14166997044665855531:True:=⟨⟩
theorem tw16947779654926747179:True:=⟨⟩
theorem tw10292582003595762219:True:=⟨⟩
theorem tw17985910645016956491:True:=⟨⟩
theorem tw16422595750835891819:True:=⟨⟩
theorem tw17152704105873601131:True:=⟨⟩
theorem tw15302876931729164971:True:=⟨⟩
theorem tw10402607785254525643:True:=⟨⟩
theorem tw12761098962469254859:True:=⟨⟩
theorem tw4492712561649221387:True:=⟨⟩
theorem tw6670423407555020587:True:=⟨⟩
theorem tw12068938717596212011:True:=⟨⟩
theorem tw4704438860190394219:True:=⟨⟩
theorem tw12094415911002335083:True:=⟨⟩
theorem tw15094182009448130539:True:=⟨⟩
theorem tw6869052799584469004:True:=⟨⟩
theorem tw8176406151049488396:True:=⟨⟩
theorem tw3001316923529088012:True:=⟨⟩
theorem tw15611618768000855084:True:=⟨⟩
theorem tw11209954402458518572:True:=⟨⟩
theorem tw3887660071210898508:True:=⟨⟩
theorem tw16233456696617530476:True:=⟨⟩
theorem tw13389516156708098188:True:=⟨⟩
theorem tw15902390599512542348:True:=⟨⟩
theorem tw1490001089777922188:True:=⟨⟩
theorem tw8021765294497445068:True:=⟨⟩
theorem tw12480545273557959884:True:=⟨⟩
theorem tw10055567153328005420:True:=⟨⟩
theorem tw4369305163982566700:True:=⟨⟩
theorem tw6112717013177089356:True:=⟨⟩
theorem tw17551964353558466892:True:=⟨⟩
theorem tw17747850067152133484:True:=⟨⟩
theorem tw16146580498135909804:True:=⟨⟩
theorem tw9047035583091348908:True:=⟨⟩
theorem tw15244477514497759660:True:=⟨⟩
theorem tw16339958814649529772:True:=⟨⟩
theorem tw7885676366203549132:True:=⟨⟩
theorem tw2990398218709468652:True:=⟨⟩
theorem tw6233903092746061292:True:=⟨⟩
theorem tw15442818433751195116:True:=⟨⟩
theorem tw10350861654740484588:True:=⟨⟩
theorem tw12920082086012616172:True:=⟨⟩
theorem tw8797260658479663628:True:=⟨⟩
theorem tw3873990438963155532:True:=⟨⟩
theorem tw14804854230391750252:True:=⟨⟩
theorem tw4380741719447126668:True:=⟨⟩
theorem tw16784261308776694412:True:=⟨⟩
theorem tw8875835948470489868:True:=⟨⟩
theorem tw1912986029520580364:True:=⟨⟩
theorem tw10515129209943061260:True:=⟨⟩
theorem tw4278123740284790572:True:=⟨⟩
theorem tw5495972758409653068:True:=⟨⟩
theorem tw6421954601829199724:True:=⟨⟩
theorem tw2663536083211027372:True:=⟨⟩
theorem tw10635041126809845676:True:=⟨⟩
theorem tw14342624009778182092:True:=⟨⟩
theorem tw3716524917789591532:True:=⟨⟩
theorem tw3128010121125418988:True:=⟨⟩
theorem tw10973524422425940013:True:=⟨⟩
theorem tw2076905683361262637:True:=⟨⟩
theorem tw5177524680889838669:True:=⟨⟩
theorem tw15188222016176148557:True:=⟨⟩
theorem tw17269872903640256621:True:=⟨⟩
theorem tw9080180303182827693:True:=⟨⟩
theorem tw12756138989511084333:True:=⟨⟩
theorem tw9490472302566909229:True:=⟨⟩
theorem tw387834425647291757:True:=⟨⟩
theorem tw11467253283383927149:True:=⟨⟩
theorem tw2722966967604529549:True:=⟨⟩
theorem tw13057922520442091949:True:=⟨⟩
theorem tw12817393879946907053:True:=⟨⟩
theorem tw1836815003892467149:True:=⟨⟩
theorem tw7891860367728740877:True:=⟨⟩
theorem tw3057553887672013325:True:=⟨⟩
theorem tw13840287011928323597:True:=⟨⟩
theorem tw4528089391293086221:True:=⟨⟩
theorem tw17248988691061795341:True:=⟨⟩
theorem tw6881274269092283981:True:=⟨⟩
theorem tw18065112586824041037:True:=⟨⟩
theorem tw14998357886565715597:True:=⟨⟩
theorem tw1521597247842849421:True:=⟨⟩
theorem tw13272891565594758797:True:=⟨⟩
theorem tw9642462075341057709:True:=⟨⟩
theorem tw14091506429444928205:True:=⟨⟩
theorem tw14252374441370122957:True:=⟨⟩
theorem tw16217683442864955149:True:=⟨⟩
theorem tw3775656129865287469:True:=⟨⟩
theorem tw16605726576528665389:True:=⟨⟩
theorem tw994656323389723501:True:=⟨⟩
theorem tw3127867928106334061:True:=⟨⟩
theorem tw17256104634801485677:True:=⟨⟩
theorem tw11873429291998378861:True:=⟨⟩
theorem tw2876666823786302349:True:=⟨⟩
theorem tw300879182936840077:True:=⟨⟩
theorem tw2598881234440009613:True:=⟨⟩
theorem tw2519267590276365197:True:=⟨⟩
theorem tw5976368775163366285:True:=⟨⟩
theorem tw5413646896105771917:True:=⟨⟩
theorem tw18406112108641802189:True:=⟨⟩
theorem tw7017838690555316205:True:=⟨⟩
theorem tw15063631375833297901:True:=⟨⟩
theorem tw17193067738359767086:True:=⟨⟩
theorem tw8246428911408696366:True:=⟨⟩
theorem tw11413328284772745294:True:=⟨⟩
theorem tw15623867014845476974:True:=⟨⟩
theorem tw1431726757962703982:True:=⟨⟩
theorem tw206520602355138766:True:=⟨⟩
theorem tw15101119270771366094:True:=⟨⟩
theorem tw6846330865456424142:True:=⟨⟩
theorem tw15268152223541020878:True:=⟨⟩
theorem tw17021494914702435534:True:=⟨⟩
theorem tw3423316423328737550:True:=⟨⟩
theorem tw7122732763315498254:True:=⟨⟩
theorem tw16078026370769018158:True:=⟨⟩
theorem tw9577161979452571054:True:=⟨⟩
theorem tw2383432377277881838:True:=⟨⟩
theorem tw4383681395125166574:True:=⟨⟩
theorem tw6488225208774306286:True:=⟨⟩
theorem tw3150329272068929006:True:=⟨⟩
theorem tw5086025752083009038:True:=⟨⟩
theorem tw12610492849689325102:True:=⟨⟩
theorem tw12426341209378003630:True:=⟨⟩
theorem tw5245746788360696526:True:=⟨⟩
theorem tw6754888491515885262:True:=⟨⟩
theorem tw4570408272767467214:True:=⟨⟩
theorem tw12960558926136985326:True:=⟨⟩
theorem tw11399249962615113486:True:=⟨⟩
theorem tw2877570566424180494:True:=⟨⟩
theorem tw14730839941740666670:True:=⟨⟩
theorem tw1645970592247491406:True:=⟨⟩
theorem tw18310225049063881550:True:=⟨⟩
theorem tw13659366265461818222:True:=⟨⟩
theorem tw2593781504209770350:True:=⟨⟩
theorem tw15072932456620323694:True:=⟨⟩
theorem tw5877964851937525710:True:=⟨⟩
theorem tw10571784935829981166:True:=⟨⟩
theorem tw544659172855930862:True:=⟨⟩
theorem tw6720786507945006127:True:=⟨⟩
theorem tw15252416326564965423:True:=⟨⟩
theorem tw13489308783430496303:True:=⟨⟩
theorem tw3844780211857060911:True:=⟨⟩
theorem tw10437042504573323343:True:=⟨⟩
theorem tw6288578358405675087:True:=⟨⟩
theorem tw749611755647967343:True:=⟨⟩
theorem tw5498360042970597487:True:=⟨⟩
theorem tw17651392330405152911:True:=⟨⟩
theorem tw13768623408060855439:True:=⟨⟩
theorem tw17698567714295157935:True:=⟨⟩
theorem tw10893675551567257775:True:=⟨⟩
theorem tw13108763303971747023:True:=⟨⟩
theorem tw17086726445162431759:True:=⟨⟩
theorem tw750044044084177199:True:=⟨⟩
theorem tw7437639504017982831:True:=⟨⟩
theorem tw4215282615012980079:True:=⟨⟩
theorem tw10370982098420580815:True:=⟨⟩
theorem tw4303321649122932239:True:=⟨⟩
theorem tw16155873089493960239:True:=⟨⟩
theorem tw2068727600866921007:True:=⟨⟩
theorem tw3394767123023536719:True:=⟨⟩
theorem tw3886779286181542479:True:=⟨⟩
theorem tw975101164304595535:True:=⟨⟩
theorem tw14342629269822617199:True:=⟨⟩
theorem tw7255245127714796143:True:=⟨⟩
theorem tw11600994490533413583:True:=⟨⟩
theorem tw1603204325184138959:True:=⟨⟩
theorem tw1682563436819598095:True:=⟨⟩
theorem tw1820976061888883471:True:=⟨⟩
theorem tw2467164037436562223:True:=⟨⟩
theorem tw16961558767526409007:True:=⟨⟩
theorem tw7396870463548306319:True:=⟨⟩
theorem tw1619424286456101839:True:=⟨⟩
theorem tw7590038818497382383:True:=⟨⟩
theorem tw3927705925534453776:True:=⟨⟩
theorem tw2615236034430118928:True:=⟨⟩
theorem tw4882748846560369680:True:=⟨⟩
theorem tw4369382313947739184:True:=⟨⟩
theorem tw4292984195455960112:True:=⟨⟩
theorem tw16913799143948437552:True:=⟨⟩
theorem tw11304476636753350736:True:=⟨⟩
theorem tw4304466498592599152:True:=⟨⟩
theorem tw4770625295901502608:True:=⟨⟩
theorem tw5257304118592340176:True:=⟨⟩
theorem tw12532460500608480496:True:=⟨⟩
theorem tw34304857661865232:True:=⟨⟩
theorem tw16342190407601204528:True:=⟨⟩
theorem tw11871649460379473264:True:=⟨⟩
theorem tw16380227477679503792:True:=⟨⟩
theorem tw17999940622837811664:True:=⟨⟩
theorem tw17378913294491472336:True:=⟨⟩
theorem tw3047118560095918576:True:=⟨⟩
theorem tw6054042145270977040:True:=⟨⟩
theorem tw11617469887723167248:True:=⟨⟩
theorem tw4532457190338195984:True:=⟨⟩
theorem tw16282764129928167984:True:=⟨⟩
theorem tw6609929948724231824:True:=⟨⟩
theorem tw14921070014622416528:True:=⟨⟩
theorem tw17846207478437946032:True:=⟨⟩
theorem tw16588136512737747664:True:=⟨⟩
theorem tw7231913363222247120:True:=⟨⟩
theorem tw964304613135618832:True:=⟨⟩
theorem tw15038337296637153104:True:=⟨⟩
theorem tw15577626843280462768:True:=⟨⟩
theorem tw14596737263858320336:True:=⟨⟩
theorem tw3300852999314737104:True:=⟨⟩
theorem tw6471370827713834001:True:=⟨⟩
theorem tw9491189471824370705:True:=⟨⟩
theorem tw17713897802681779313:True:=⟨⟩
theorem tw9716357419073471601:True:=⟨⟩
theorem tw12171184624801712241:True:=⟨⟩
theorem tw16230149261284004017:True:=⟨⟩
theorem tw7523885098833850577:True:=⟨⟩
theorem tw7480304414835488977:True:=⟨⟩
theorem tw18059145411017529617:True:=⟨⟩
theorem tw3994344797771714897:True:=⟨⟩
theorem tw14146005823592137073:True:=⟨⟩
theorem tw250760271173064049:True:=⟨⟩
theorem tw4687705910575850865:True:=⟨⟩
theorem tw4301177047781393809:True:=⟨⟩
theorem tw7254061842636138897:True:=⟨⟩
theorem tw16945153235943551377:True:=⟨⟩
theorem tw14881617701247321553:True:=⟨⟩
theorem tw13239479845848304145:True:=⟨⟩
theorem tw7490567616109959697:True:=⟨⟩
theorem tw710046790301189713:True:=⟨⟩
theorem tw1977770533798251121:True:=⟨⟩
theorem tw10656427125358290545:True:=⟨⟩
theorem tw87421440631368401:True:=⟨⟩
theorem tw6319739316013931249:True:=⟨⟩
theorem tw3133011656867879665:True:=⟨⟩
theorem tw2579033123877711601:True:=⟨⟩
theorem tw1892532339165606673:True:=⟨⟩
theorem tw14242013320526423825:True:=⟨⟩
theorem tw10211106265510537041:True:=⟨⟩
theorem tw8374268445349875633:True:=⟨⟩
theorem tw1047867340805576625:True:=⟨⟩
theorem tw4776630725306427313:True:=⟨⟩
theorem tw11607206423144622001:True:=⟨⟩
theorem tw5868503925863080913:True:=⟨⟩
theorem tw4408233417630142514:True:=⟨⟩
theorem tw4783592958759174226:True:=⟨⟩
theorem tw5282555296247082130:True:=⟨⟩
theorem tw17054280919853418674:True:=⟨⟩
theorem tw10728963650864278738:True:=⟨⟩
theorem tw10073762256785738994:True:=⟨⟩
theorem tw9533401373109329138:True:=⟨⟩
theorem tw12912760552998326514:True:=⟨⟩
theorem tw15524882618568505586:True:=⟨⟩
theorem tw9825260155454640498:True:=⟨⟩
theorem tw9173579492151278994:True:=⟨⟩
theorem tw16134133330285071794:True:=⟨⟩
theorem tw9501077020524223954:True:=⟨⟩
theorem tw1200371180630233554:True:=⟨⟩
theorem tw14501474168831654386:True:=⟨⟩
theorem tw14051040682807343602:True:=⟨⟩
theorem tw7998968424357875186:True:=⟨⟩
theorem tw3517945190814114290:True:=⟨⟩
theorem tw2108470615554083378:True:=⟨⟩
theorem tw7037326757890614834:True:=⟨⟩
theorem tw5484794095250013746:True:=⟨⟩
theorem tw4718556354413329970:True:=⟨⟩
theorem tw14112619449110229586:True:=⟨⟩
theorem tw14911036697316304594:True:=⟨⟩
theorem tw3026296548206762706:True:=⟨⟩
theorem tw6629091117239311090:True:=⟨⟩
theorem tw2707157930377722610:True:=⟨⟩
theorem tw613513510984004370:True:=⟨⟩
theorem tw16931075728590038866:True:=⟨⟩
theorem tw4066492906728633234:True:=⟨⟩
theorem tw6171514781852037010:True:=⟨⟩
theorem tw13329169368709212114:True:=⟨⟩
theorem tw16340371160781436882:True:=⟨⟩
theorem tw10959723754186366930:True:=⟨⟩
theorem tw9054764273563115539:True:=⟨⟩
theorem tw2214499625526894611:True:=⟨⟩
theorem tw3527910917297159187:True:=⟨⟩
theorem tw12888497354194916403:True:=⟨⟩
theorem tw16087103187671194675:True:=⟨⟩
theorem tw17110697597121371219:True:=⟨⟩
theorem tw4518363104954998867:True:=⟨⟩
theorem tw15826573624410218611:True:=⟨⟩
theorem tw6808482924914680947:True:=⟨⟩
theorem tw111912158016172179:True:=⟨⟩
theorem tw3463184880898459827:True:=⟨⟩
theorem tw8541193228519560371:True:=⟨⟩
theorem tw6428662668572660947:True:=⟨⟩
theorem tw3512005977416745235:True:=⟨⟩
theorem tw21000656822235411:True:=⟨⟩
theorem tw1325028411256177011:True:=⟨⟩
theorem tw14658453358239077747:True:=⟨⟩
theorem tw734992829494335891:True:=⟨⟩
theorem tw5900091076019452307:True:=⟨⟩
theorem tw14040901747929056691:True:=⟨⟩
theorem tw10421827778804634035:True:=⟨⟩
theorem tw13913990294965437939:True:=⟨⟩
theorem tw6284999796800676371:True:=⟨⟩
theorem tw14775139463001681459:True:=⟨⟩
theorem tw5723713389027385907:True:=⟨⟩
theorem tw17132485546607705651:True:=⟨⟩
theorem tw10609460917484015187:True:=⟨⟩
theorem tw2122312951106568883:True:=⟨⟩
theorem tw8180848915479401171:True:=⟨⟩
theorem tw16419868094519996179:True:=⟨⟩
theorem tw15160215464612745011:True:=⟨⟩
theorem tw6210388303239657299:True:=⟨⟩
theorem tw6898807773781517203:True:=⟨⟩
theorem tw9975778946800024531:True:=⟨⟩
theorem tw12687623532392722419:True:=⟨⟩
theorem tw4676795827597512724:True:=⟨⟩
theorem tw12331640226926324756:True:=⟨⟩
theorem tw2304956698963579924:True:=⟨⟩
theorem tw9185589185213838388:True:=⟨⟩
theorem tw14750514984351134804:True:=⟨⟩
theorem tw10994560934703676532:True:=⟨⟩
theorem tw1077783973944730772:True:=⟨⟩
theorem tw12829188928016966868:True:=⟨⟩
theorem tw18412083003334117620:True:=⟨⟩
theorem tw849130233056552212:True:=⟨⟩
theorem tw5022746437527737652:True:=⟨⟩
theorem tw8142016168949573940:True:=⟨⟩
theorem tw16776876566043233620:True:=⟨⟩
theorem tw17969055116730347956:True:=⟨⟩
theorem tw7381164466007043508:True:=⟨⟩
theorem tw11604612366730137044:True:=⟨⟩
theorem tw7273434550396613076:True:=⟨⟩
theorem tw11762085068020183508:True:=⟨⟩
theorem tw5384659694086399476:True:=⟨⟩
theorem tw3979821647331321364:True:=⟨⟩
theorem tw15605599818612213428:True:=⟨⟩
theorem tw9720693708247438004:True:=⟨⟩
theorem tw13383180665007563444:True:=⟨⟩
theorem tw17175847627434232532:True:=⟨⟩
theorem tw8835467433483587316:True:=⟨⟩
theorem tw2268539839485762324:True:=⟨⟩
theorem tw6973656248642295636:True:=⟨⟩
theorem tw11730097511400092564:True:=⟨⟩
theorem tw16884077105931690964:True:=⟨⟩
theorem tw5545113170593070133:True:=⟨⟩
theorem tw16968820379713769557:True:=⟨⟩
theorem tw3422581705915274325:True:=⟨⟩
theorem tw5844390941398676565:True:=⟨⟩
theorem tw12178580853852748885:True:=⟨⟩
theorem tw11239756794154701909:True:=⟨⟩
theorem tw11364311289355171925:True:=⟨⟩
theorem tw12686861267237821557:True:=⟨⟩
theorem tw15761674620504087733:True:=⟨⟩
theorem tw4423854292191131925:True:=⟨⟩
theorem tw13318442992232099157:True:=⟨⟩
theorem tw359421960908177781:True:=⟨⟩
theorem tw13326012405851622773:True:=⟨⟩
theorem tw10402447211711236501:True:=⟨⟩
theorem tw2238082659438853557:True:=⟨⟩
theorem tw9511292068246882773:True:=⟨⟩
theorem tw16671886679082741205:True:=⟨⟩
theorem tw15199135618355022293:True:=⟨⟩
theorem tw16745630509115955669:True:=⟨⟩
theorem tw9163313335753119221:True:=⟨⟩
theorem tw6233725406061947413:True:=⟨⟩
theorem tw18398664383591122581:True:=⟨⟩
theorem tw4022863054764575381:True:=⟨⟩
theorem tw17929581678178711189:True:=⟨⟩
theorem tw8747030308657350357:True:=⟨⟩
theorem tw15650997186496023285:True:=⟨⟩
theorem tw15954736787327153909:True:=⟨⟩
theorem tw8124198743752187669:True:=⟨⟩
theorem tw13572209441048276757:True:=⟨⟩
theorem tw14641767007333119765:True:=⟨⟩
theorem tw2152675996087503669:True:=⟨⟩
theorem tw8050180042837390165:True:=⟨⟩
theorem tw15115770035989645173:True:=⟨⟩
theorem tw12835256592958858133:True:=⟨⟩
theorem tw10845140619046818741:True:=⟨⟩
theorem tw17104022940700597237:True:=⟨⟩
theorem tw3302236682230771734:True:=⟨⟩
theorem tw1188632108727517302:True:=⟨⟩
theorem tw4761834561204932726:True:=⟨⟩
theorem tw16586235482566056150:True:=⟨⟩
theorem tw18018936126778334422:True:=⟨⟩
theorem tw17126433785303106902:True:=⟨⟩
theorem tw3705418807742313814:True:=⟨⟩
theorem tw435596916982995286:True:=⟨⟩
theorem tw14245109165018060278:True:=⟨⟩
theorem tw9038553920898945526:True:=⟨⟩
theorem tw4848349803649490550:True:=⟨⟩
theorem tw16630214384570729110:True:=⟨⟩
theorem tw9174092537977556630:True:=⟨⟩
theorem tw16074803519973586646:True:=⟨⟩
theorem tw12920086155504149206:True:=⟨⟩
theorem tw2425168439534612182:True:=⟨⟩
theorem tw7131223584916593398:True:=⟨⟩
theorem tw14347745419296083862:True:=⟨⟩
theorem tw12647948118419423126:True:=⟨⟩
theorem tw1329373840391708598:True:=⟨⟩
theorem tw9733505638286366678:True:=⟨⟩
theorem tw11898022257774195670:True:=⟨⟩
theorem tw4064772488754903030:True:=⟨⟩
theorem tw14873584138226126838:True:=⟨⟩
theorem tw4687888501766721559:True:=⟨⟩
theorem tw11798182297619300439:True:=⟨⟩
theorem tw6590206711275649111:True:=⟨⟩
theorem tw17719413896216581239:True:=⟨⟩
theorem tw5010635867717278839:True:=⟨⟩
theorem tw11480191607469522039:True:=⟨⟩
theorem tw2596483561514976375:True:=⟨⟩
theorem tw2420253480249747575:True:=⟨⟩
theorem tw15805957970546268343:True:=⟨⟩
theorem tw17263492918098061495:True:=⟨⟩
theorem tw17093553497997876439:True:=⟨⟩
theorem tw8377696605817197783:True:=⟨⟩
theorem tw11696314612149259543:True:=⟨⟩
theorem tw13213806571212564759:True:=⟨⟩
theorem tw11076046319952316759:True:=⟨⟩
theorem tw17446141673062135127:True:=⟨⟩
theorem tw17801874397489868151:True:=⟨⟩
theorem tw7424946228304522615:True:=⟨⟩
theorem tw11219506733441500567:True:=⟨⟩
theorem tw14700960603569235383:True:=⟨⟩
theorem tw7726788769624197623:True:=⟨⟩
theorem tw4003297313777095159:True:=⟨⟩
theorem tw880790525222460919:True:=⟨⟩
theorem tw3048014232726909431:True:=⟨⟩
theorem tw5781695646932593143:True:=⟨⟩
theorem tw9967846577463687671:True:=⟨⟩
theorem tw18303282361474927159:True:=⟨⟩
theorem tw9902957460768214583:True:=⟨⟩
theorem tw4148180245746863671:True:=⟨⟩
theorem tw2302878512620904055:True:=⟨⟩
theorem tw6330039569180038807:True:=⟨⟩
theorem tw5559427763443249815:True:=⟨⟩
theorem tw881475013731767991:True:=⟨⟩
theorem tw11928956897554699991:True:=⟨⟩
theorem tw4774802073512921847:True:=⟨⟩
theorem tw4263170938889895703:True:=⟨⟩
theorem tw3594245230264485687:True:=⟨⟩
theorem tw11996600733222153015:True:=⟨⟩
theorem tw15726874086158205847:True:=⟨⟩
theorem tw2664215985057176471:True:=⟨⟩
theorem tw15074587306105084823:True:=⟨⟩
theorem tw2783610555619531671:True:=⟨⟩
theorem tw1562717730243726327:True:=⟨⟩
theorem tw16282509373561804824:True:=⟨⟩
theorem tw1284326879607109688:True:=⟨⟩
theorem tw15955003387888778296:True:=⟨⟩
theorem tw18086537541098429528:True:=⟨⟩
theorem tw10884925031628917880:True:=⟨⟩
theorem tw16782078566527040632:True:=⟨⟩
theorem tw9332672916942725272:True:=⟨⟩
theorem tw16773713163063319704:True:=⟨⟩
theorem tw5635008510163610808:True:=⟨⟩
theorem tw15806502417800329400:True:=⟨⟩
theorem tw4300245216807247128:True:=⟨⟩
theorem tw15387527181588294936:True:=⟨⟩
theorem tw17817055002079075640:True:=⟨⟩
theorem tw5999299651199157592:True:=⟨⟩
theorem tw9408807051321172344:True:=⟨⟩
theorem tw2477793712702153144:True:=⟨⟩
theorem tw10386692515932618264:True:=⟨⟩
theorem tw12237046893288702488:True:=⟨⟩
theorem tw16409399092520108568:True:=⟨⟩
theorem tw8488638527068660248:True:=⟨⟩
theorem tw13789061979408360984:True:=⟨⟩
theorem tw7412515306162743832:True:=⟨⟩
theorem tw7294191136365891128:True:=⟨⟩
theorem tw8081758627541571224:True:=⟨⟩
theorem tw366085731468522168:True:=⟨⟩
theorem tw11735436261489107640:True:=⟨⟩
theorem tw17067612031642617560:True:=⟨⟩
theorem tw16406176531491919640:True:=⟨⟩
theorem tw11002866282048807736:True:=⟨⟩
theorem tw4651942596849109848:True:=⟨⟩
theorem tw16429158317775528792:True:=⟨⟩
theorem tw12474240037427146584:True:=⟨⟩
theorem tw2901916386167340920:True:=⟨⟩
theorem tw12977887473693527992:True:=⟨⟩
theorem tw14589495230644697016:True:=⟨⟩
theorem tw7839218283532841912:True:=⟨⟩
theorem tw10910159444799083480:True:=⟨⟩
theorem tw2138221085353203704:True:=⟨⟩
theorem tw16501659677540396057:True:=⟨⟩
theorem tw13240791938357262361:True:=⟨⟩
theorem tw16904899573308035129:True:=⟨⟩
theorem tw8730585882007640153:True:=⟨⟩
theorem tw11182106610667577465:True:=⟨⟩
theorem tw4862610768398000441:True:=⟨⟩
theorem tw4790999909130582329:True:=⟨⟩
theorem tw17430674661080676697:True:=⟨⟩
theorem tw15896542806941624665:True:=⟨⟩
theorem tw15203038355535457625:True:=⟨⟩
theorem tw15420824759147992537:True:=⟨⟩
theorem tw12346259042256511449:True:=⟨⟩
theorem tw10216832601789531641:True:=⟨⟩
theorem tw7608813191693610489:True:=⟨⟩
theorem tw8852628364020396537:True:=⟨⟩
theorem tw2379573575619003929:True:=⟨⟩
theorem tw14101409425908074073:True:=⟨⟩
theorem tw12802417172633263737:True:=⟨⟩
theorem tw13603983949566354073:True:=⟨⟩
theorem tw11879484767898726073:True:=⟨⟩
theorem tw13998904167838652121:True:=⟨⟩
theorem tw2792689214324825849:True:=⟨⟩
theorem tw18408706469306364665:True:=⟨⟩
theorem tw11484773597886031641:True:=⟨⟩
theorem tw2458680861708483353:True:=⟨⟩
theorem tw14127700835179989817:True:=⟨⟩
theorem tw2716091216097122105:True:=⟨⟩
theorem tw5800523894850412345:True:=⟨⟩
theorem tw6087208482945057625:True:=⟨⟩
theorem tw3542811079611099001:True:=⟨⟩
theorem tw10195645282423030681:True:=⟨⟩
theorem tw2337281306857496473:True:=⟨⟩
theorem tw14619914709968760761:True:=⟨⟩
theorem tw7016985093685960633:True:=⟨⟩
theorem tw261823750806523865:True:=⟨⟩
theorem tw7150647884910621689:True:=⟨⟩
theorem tw7361901014991138906:True:=⟨⟩
theorem tw14796391510161165498:True:=⟨⟩
theorem tw13125829268869964090:True:=⟨⟩
theorem tw11234912841365483898:True:=⟨⟩
theorem tw9349277070400114074:True:=⟨⟩
theorem tw11292111835756139930:True:=⟨⟩
theorem tw7029988191969000890:True:=⟨⟩
theorem tw3452497253303213498:True:=⟨⟩
theorem tw4680599912075355578:True:=⟨⟩
theorem tw1342903159114556858:True:=⟨⟩
theorem tw3309654899477481946:True:=⟨⟩
theorem tw10561283709121707482:True:=⟨⟩
theorem tw10916811295073268186:True:=⟨⟩
theorem tw5611280339054832154:True:=⟨⟩
theorem tw12110217846622737978:True:=⟨⟩
theorem tw5311389902491065978:True:=⟨⟩
theorem tw2989069078952807098:True:=⟨⟩
theorem tw8170967786520672954:True:=⟨⟩
theorem tw14226118385163372250:True:=⟨⟩
theorem tw8847658054598630138:True:=⟨⟩
theorem tw4174865101493226234:True:=⟨⟩
theorem tw7134553417903452954:True:=⟨⟩
theorem tw14757295274329933626:True:=⟨⟩
theorem tw9861970460292259738:True:=⟨⟩
theorem tw6169496473259526074:True:=⟨⟩
theorem tw6965904074611382202:True:=⟨⟩
theorem tw12027806534441596858:True:=⟨⟩
theorem tw17409093277903757339:True:=⟨⟩
theorem tw12949577413174590491:True:=⟨⟩
theorem tw16196011923342032955:True:=⟨⟩
theorem tw11262352191254040635:True:=⟨⟩
theorem tw16796695305715132507:True:=⟨⟩
theorem tw10416330786630079643:True:=⟨⟩
theorem tw11507554042038234331:True:=⟨⟩
theorem tw7199618287293356283:True:=⟨⟩
theorem tw14779829354759088411:True:=⟨⟩
theorem tw5781431677067917595:True:=⟨⟩
theorem tw17655824447963831643:True:=⟨⟩
theorem tw14459372268515044795:True:=⟨⟩
theorem tw5969181348220605915:True:=⟨⟩
theorem tw288468351066714587:True:=⟨⟩
theorem tw1416158661262817755:True:=⟨⟩
theorem tw11580703963660534235:True:=⟨⟩
theorem tw14181832006098380283:True:=⟨⟩
theorem tw5055773089569698363:True:=⟨⟩
theorem tw15984024620007187035:True:=⟨⟩
theorem tw8639440033059437211:True:=⟨⟩
theorem tw11283619153466385115:True:=⟨⟩
theorem tw9742924892795410171:True:=⟨⟩
theorem tw8825333676808970011:True:=⟨⟩
theorem tw1891590794045571931:True:=⟨⟩
theorem tw6265722345689088891:True:=⟨⟩
theorem tw6485751708021808059:True:=⟨⟩
theorem tw10231934823236817883:True:=⟨⟩
theorem tw7262939351022159867:True:=⟨⟩
theorem tw17593622842983440379:True:=⟨⟩
theorem tw11990406192189775900:True:=⟨⟩
theorem tw3176406239367284764:True:=⟨⟩
theorem tw3096662056786199612:True:=⟨⟩
theorem tw1977719774003658844:True:=⟨⟩
theorem tw1087674774912633948:True:=⟨⟩
theorem tw13265090703298933852:True:=⟨⟩
theorem tw5643803748043733084:True:=⟨⟩
theorem tw15776378793447254108:True:=⟨⟩
theorem tw9695505693969880252:True:=⟨⟩
theorem tw17994330005929046204:True:=⟨⟩
theorem tw14891478013872857276:True:=⟨⟩
theorem tw2071037322411766972:True:=⟨⟩
theorem tw14800403935197742300:True:=⟨⟩
theorem tw3524314673125489884:True:=⟨⟩
theorem tw16094319301237969180:True:=⟨⟩
theorem tw4225264134521093404:True:=⟨⟩
theorem tw2110123717108114748:True:=⟨⟩
theorem tw572922156333738300:True:=⟨⟩
theorem tw5533622332180910428:True:=⟨⟩
theorem tw9853150091927331260:True:=⟨⟩
theorem tw9943573418749195708:True:=⟨⟩
theorem tw12288497119275634140:True:=⟨⟩
theorem tw15460745575221059100:True:=⟨⟩
theorem tw12627053412033287740:True:=⟨⟩
theorem tw2801565791852234332:True:=⟨⟩
theorem tw14384147314580386396:True:=⟨⟩
theorem tw10621286707546545852:True:=⟨⟩
theorem tw8048789433940939484:True:=⟨⟩
theorem tw4401427531515867900:True:=⟨⟩
theorem tw712857525722846044:True:=⟨⟩
theorem tw12124821535771337564:True:=⟨⟩
theorem tw17183952576225240924:True:=⟨⟩
theorem tw14360188537495618428:True:=⟨⟩
theorem tw16565821156343935900:True:=⟨⟩
theorem tw6840223111785247644:True:=⟨⟩
theorem tw14057707895568365468:True:=⟨⟩
theorem tw1501487935748700060:True:=⟨⟩
theorem tw13429133151348857788:True:=⟨⟩
theorem tw8506541085611827196:True:=⟨⟩
theorem tw16450356535998966813:True:=⟨⟩
theorem tw575213508399139965:True:=⟨⟩
theorem tw10600352092835976317:True:=⟨⟩
theorem tw10644878431789851805:True:=⟨⟩
theorem tw14920822707181849853:True:=⟨⟩
theorem tw10890597208501874941:True:=⟨⟩
theorem tw8578146050878911901:True:=⟨⟩
theorem tw13829873070663479773:True:=⟨⟩
theorem tw12707567357936930301:True:=⟨⟩
theorem tw6601191178011737629:True:=⟨⟩
theorem tw13981746238957467229:True:=⟨⟩
theorem tw8020233958954273405:True:=⟨⟩
theorem tw13489636439929883261:True:=⟨⟩
theorem tw11706416344903923325:True:=⟨⟩
theorem tw16418065256795900605:True:=⟨⟩
theorem tw12471091960613351101:True:=⟨⟩
theorem tw7247845230732811005:True:=⟨⟩
theorem tw6736349158938205981:True:=⟨⟩
theorem tw11496814386264305437:True:=⟨⟩
theorem tw15468725028419010429:True:=⟨⟩
theorem tw2099853935938865085:True:=⟨⟩
theorem tw16170562720622418877:True:=⟨⟩
theorem tw13324325612091682846:True:=⟨⟩
theorem tw12898694932095010878:True:=⟨⟩
theorem tw8995320305866838174:True:=⟨⟩
theorem tw5724192777869703326:True:=⟨⟩
theorem tw12718198013897461950:True:=⟨⟩
theorem tw551001442838323454:True:=⟨⟩
theorem tw9638426060353355006:True:=⟨⟩
theorem tw8374239486210055454:True:=⟨⟩
theorem tw16951609710350658878:True:=⟨⟩
theorem tw16365171591705227582:True:=⟨⟩
theorem tw16603333022027416926:True:=⟨⟩
theorem tw1940699931612520798:True:=⟨⟩
theorem tw1282326338391484766:True:=⟨⟩
theorem tw13927551246014048606:True:=⟨⟩
theorem tw13477995546370758014:True:=⟨⟩
theorem tw9281574476211621278:True:=⟨⟩
theorem tw17807980798722621854:True:=⟨⟩
theorem tw13183794039308460510:True:=⟨⟩
theorem tw16744662174416039422:True:=⟨⟩
theorem tw6971654536273699390:True:=⟨⟩
theorem tw722653082982033982:True:=⟨⟩
theorem tw12426596977744974430:True:=⟨⟩
theorem tw5043326142220034654:True:=⟨⟩
theorem tw14052459531221435006:True:=⟨⟩
theorem tw14504620841521784478:True:=⟨⟩
theorem tw2541834298407210654:True:=⟨⟩
theorem tw4252942750930795230:True:=⟨⟩
theorem tw4414130617121889022:True:=⟨⟩
theorem tw5433486918592379710:True:=⟨⟩
theorem tw12897791813369598814:True:=⟨⟩
theorem tw12066066141805517662:True:=⟨⟩
theorem tw6500505319920117598:True:=⟨⟩
theorem tw17919954706403533694:True:=⟨⟩
theorem tw4107364889935993726:True:=⟨⟩
theorem tw9318285696508786558:True:=⟨⟩
theorem tw8453503198832889758:True:=⟨⟩
theorem tw3822889262467888030:True:=⟨⟩
theorem tw6301906887470764958:True:=⟨⟩
theorem tw1426517142168860574:True:=⟨⟩
theorem tw5128445958988095422:True:=⟨⟩
theorem tw17080003571040452639:True:=⟨⟩
theorem tw8036784522130239519:True:=⟨⟩
theorem tw18434221817046238271:True:=⟨⟩
theorem tw10759781494599367743:True:=⟨⟩
theorem tw7451095874746724447:True:=⟨⟩
theorem tw8040551073733529695:True:=⟨⟩
theorem tw11854092844421526719:True:=⟨⟩
theorem tw7870502908141288703:True:=⟨⟩
theorem tw2913667612802084095:True:=⟨⟩
theorem tw1240970371991505183:True:=⟨⟩
theorem tw16101103501177137471:True:=⟨⟩
theorem tw9920719085490228543:True:=⟨⟩
theorem tw9657953860331809151:True:=⟨⟩
theorem tw5950347501609595263:True:=⟨⟩
theorem tw9189490824760370591:True:=⟨⟩
theorem tw8367022858993467839:True:=⟨⟩
theorem tw11743690925949142463:True:=⟨⟩
theorem tw6776506919046741439:True:=⟨⟩
theorem tw11647333609094715871:True:=⟨⟩
theorem tw192853050243371487:True:=⟨⟩
theorem tw15995733957486744095:True:=⟨⟩
theorem tw11598075794075915807:True:=⟨⟩
theorem tw18217086642922167871:True:=⟨⟩
theorem tw8306707453320174175:True:=⟨⟩
theorem tw18402318209782680191:True:=⟨⟩
theorem tw6117434585692972703:True:=⟨⟩
theorem tw7145649969462533791:True:=⟨⟩
theorem tw11904754444782551743:True:=⟨⟩
theorem tw9317156495212522207:True:=⟨⟩
theorem tw17016095560335009535:True:=⟨⟩
theorem tw12044852296646387455:True:=⟨⟩
theorem tw12368828436318976767:True:=⟨⟩
theorem tw4279134489867659039:True:=⟨⟩
theorem tw3182516361156662079:True:=⟨⟩
theorem tw1109332948049780543:True:=⟨⟩
theorem tw4935026987844725599:True:=⟨⟩
theorem tw16440501171782957951:True:=⟨⟩
theorem tw6003397909938170751:True:=⟨⟩
theorem tw1382149123437866943:True:=⟨⟩
theorem tw13891257930805572543:True:=⟨⟩
theorem tw10756122043906340537:True:=⟨⟩
end PySem.W.Fast
open PySem PySem.W PyProof.Rows
end
set_option maxRecDepth 100000 in
set_option maxHeartbeats 0 in
theorem PySem.Challenge.cw_mendfield_k34_message_written_holds : PySem.Challenge.rw_mendfield_k34_message_written.Holds := by
 w_on;o_law;k_head;(case hw=>w_witness2)
 k_fill
 refine HK34.walk (l:=PySem.Challenge.rw_mendfield_k34_message_written) rfl rfl (λw h Y=>⟨PySem.W.km_in_of Y,PySem.W.km_tabs_of Y⟩) ?C ?F
 case C =>
  intro w h hX
  repeat' (first | exact List.forall_mem_nil _ | refine List.forall_mem_cons.mpr ⟨?_,?_⟩)
  all_goals first | (refine' HK34.aD9 hX ?a ?b ?l ?lk ?lp ?n ?e;(case a=>k_is);(case b=>k_is);(case l=>k_is);(case lk=>k_is);(case lp=>first | rfl | with_unfolding_all rfl);(case n=>kernel_rfl);(case e=>kernel_rfl)) | (refine' HK34.aJ3 hX ?a ?b ?l ?lk ?lp ?n ?e;(case a=>k_is);(case b=>k_is);(case l=>k_is);(case lk=>k_is);(case lp=>first | rfl | with_unfolding_all rfl);(case n=>kernel_rfl);(case e=>kernel_rfl))
 case F =>
  intro w mg fa h KX G xu
  apply HK34.all_mk KX G xu
  iterate 238 (k_is)
  iterate 69 (apply L2.Bc<;>k_is)
  iterate 4 (k_is)
  (first | rfl | with_unfolding_all rfl)
  (kernel_rfl)
  iterate 4 (k_is)
  (first | rfl | with_unfolding_all rfl)
  (kernel_rfl)
  iterate 7 (k_is)
  iterate 11 (first | k_is | rfl | decide)
  (k_exc)
  (first | k_is | rfl | decide)
  (decide)
