import PyProof.Rows.All
import Wide.All
import OpenK.AllK
import Wide.FinOn
import Lean
import PyProof.EqAt
import PyProof.EqKinds
import PyProof.TupleCall
import PyProof.NeKinds
import PyProof.Rows.Range3
import PyProof.FitsBits
import PyProof.StationsW
import PyProof.NsDelKeeps
import PyProof.Rows.CatchOwn
import KE.KTryMore
import PyProof.ExcArgsOwn
import PyProof.ExcAttrAll.ValueError
import OpenK.KOwn
import PyProof.ZipIter
import PyProof.WalksEnum
import PyProof.EnumMake
import KE.KIntText
import PyProof.Conv_int
import PyProof.StrWalks
import PyProof.StrLawsFirst
import KE.KLam
import KE.KNestM
import KE.KRevIter
import PyProof.ListRange
import PyProof.Rows.SortWalk
import PyProof.Rows.SetFrom
import PyProof.FactsAll.set
import PyProof.Rows.SeqMore
import PyProof.FString
import PySem.Challenge.RW_mendfield_k45_census_counted
open Array renaming append_assoc→tP,length_toList→xg,getElem?_eq_some_iff→LL,toList_append→Wc
open Bool renaming and_eq_true→eV,false_ne_true→iH,true_and→kX,and_true→nk,or_true→nq,false_eq_true→qP,false_and→tQ,eq_iff_iff→tU,or_false→xj,not_false→AQ,not_true→AR,true_or→AS,false_or→AU,and_false→LB
open Classical renaming byContradiction→Aw
open False renaming elim→fj
open ForInStep renaming yield→Et
open Int renaming toNat_natCast→iJ,natAbs_natCast→i7,emod_nonneg→jK,emod_lt_of_pos→kZ,toNat→k9,natCast_emod→qR,toNat_of_nonneg→ua,natCast_mul→ue,natCast_nonneg→LA,zero_add→LX,natCast_add→L5,fdiv_eq_ediv_of_nonneg→VZ
open List renaming getD_eq_getElem?_getD→aJ,replicate→aK,range→aM,getElem?_eq_getElem→aQ,mem_map→aX,length_map→aY,mem_range→bK,mem_append→bP,map_map→bW,length_range→cq,length_append→cy,getElem?_map→cB,mem_cons→cL,zipWith→cU,map_cons→da,all_eq_true→de,length_replicate→dA,all_cons→dB,mem_append_right→dM,size_toArray→dN,append_assoc→dO,mem_singleton→dR,map_append→dS,getElem_mem→eB,append_nil→eU,mem_append_left→e7,mem_cons_of_mem→fh,set_cons_zero→fk,set_cons_succ→fm,length_drop→fA,length_take→fJ,getElem?_eq_none→fY,mem_cons_self→gj,lookup_cons→gD,length_cons→gJ,not_mem_nil→i5,map_congr_left→i6,getElem_of_mem→jI,getElem?_range→jJ,getElem?_eq_some_iff→ke,map_nil→kg,length_zipWith→kh,take_append_drop→ki,map_replicate→kj,nodup_cons→kS,length_singleton→kT,take_add_one→kY,mem_filter→m5,lookup→m6,getElem?_append_right→m8,getElem?_replicate→m9,cons.inj→nj,getElem?_append_left→oX,flatten_cons→oY,foldl_cons→oZ,nil_append→pd,perm_append_comm→pj,all_map→pk,mem_of_mem_drop→pz,getElem?_set_ne→qK,length_set→qM,replicate_succ→qN,take_length→qQ,getElem?_cons_zero→qS,getElem?_cons_succ→qT,mem_of_getElem?→tS,append_eq_nil_iff→tV,take_of_length_le→tW,mem_of_mem_take→tX,map→tY,all_nil→tZ,cons_append→t7,range_succ→ub,length_nil→ud,mem_replicate→xm,nodup_range→xt,countP_congr→xu,filterMap_cons→Ak,getElem?_set_self→Al,of_mem_zip→Ao,append_inj→AA,mem_flatten→AB,mem_map_of_mem→AE,foldl_append→AF,getElem?_zipWith→AG,getElem_map→AJ,pairwise_append→AK,length_range'→AL,cons.injEq→AO,getElem_inj→Eh,length→Ej,getElem?_drop→EB,drop_eq_nil_of_le→EC,map_zipWith→ED,getElem?_mapIdx→EE,ext_getElem→EG,map_set→EH,contains_iff_mem→EI,pairwise_cons→EK,length_eq_countP_add_countP→EL,countP_eq_length_filter→EM,pairwise_map→EO,range'→ER,Pairwise.nil→LC,any_eq_true→LJ,Sublist.refl→LN,set_set→LO,range_succ_eq_map→LQ,mem_of_find?_eq_some→LS,map_drop→LU,map_take→LV,ext_getElem?→LW,mem_or_eq_of_mem_set→LY,length_zip→L8,sublist_cons_self→L9,findIdx_lt_length_of_exists→Ma,find?_eq_none→Mb,getElem_range→Mc,Pairwise.filter→Md,pairwise_singleton→Me,countP_map→Mg,count_cons→Mh,eq_replicate_iff→Mi,Pairwise.imp_of_mem→Mj,mem_filterMap→VY,getElem?_take_of_lt→V0,set_eq_of_length_le→V7,eq_nil_iff_forall_not_mem→V8,filter_eq_self→V9,filter_append→Wa,getElem?_take→Wb,zip_cons_cons→We,findIdx_getElem→Wf,findIdx?_eq_some_iff_getElem→Wg,findIdx?_eq_none_iff→Wh,pairwise_iff_getElem→Wi,perm_ext_iff_of_nodup→Wj,pairwise_lt_range→Wk,find?_eq_some_iff_append→Wl,length_eq_zero_iff→Wm,length_filter_le→Wn,flatten_append→Wo,flatMap_append→Ws,count_le_length→Wu,map_singleton→Wv
open Nat renaming le_refl→bD,lt_of_lt_of_le→cK,le_trans→dy,ne_of_lt→eT,lt_irrefl→gC,pow_succ→iZ,zero_le→kR,mul_comm→kU,shiftLeft_eq→kW,pow_le_pow_right→mq,xor_zero→mr,zero_xor→mx,testBit_xor→nh,lt_of_le_of_lt→ni,le_of_lt→oU,mul_assoc→pf,min_self→pq,xor_assoc→qO,not_lt→t9,le_of_eq→xi,two_pow_pos→xk,mul_mod→xn,one_mul→xo,mod_lt→xp,sub_self→xq,add_comm→Ar,eq_of_testBit_eq→As,testBit_zero→Au,xor_self→Av,mod_eq_of_lt→AD,le_of_succ_le→AH,lt_or_ge→AI,lt_succ_self→Ei,le_of_not_lt→Eo,testBit_lt_two_pow→Ep,testBit_succ→Er,strongRecOn→Es,mod_add_mod→EF,succ.inj→EN,one_shiftLeft→ES,succ_pos→ET,ne_of_gt→Lz,pow_one→LD,xor_comm→LF,pow_zero→LG,testBit_and→LH,add_assoc→LR,mod_mod→LZ,zero_mul→L4,add_mul→L6,zero_add→L7,mul_one→Ml,testBit_eq_decide_div_mod_eq→V1,shiftLeft_xor_distrib→V2,mul_lt_mul_right→V3,testBit_shiftLeft→V4,shiftRight_eq_div_pow→V5,add_sub_cancel_left→Wq,pow_le_pow_left→Wr,le_mul_of_pos_right→Wt
open Ne renaming symm→fi
open Option renaming some.inj→cT,getD_some→ph,getD_none→tT,some.injEq→xv,isSome_iff_exists→Ap,map_some→AM,map_none→AN,map_eq_some_iff→EA,toList_some→LP,bind_some→V6
open Or renaming inl→ax,inr→bV
open PyProof renaming Rows.callWith_type1→Am
open PySem renaming Heap.lt_size→bG,Value.ref→dn,PassesOwn.never→eW,Heap.get?_push_of_some→fI,Heap.get?_push_size→g7,Builtin.bitAnd→oV,Builtin.bitXor→oW,Value.none→qJ,Heap.get?_update_other→qL,Value.int→xf,Heap.size_push→xh,Str.empty→An,Obj.mapSeq→Aq,Value.bool→Eg,Heap.get?_update_self→Ek,SeqAt.EqAt→El,Builtin.List.listTooLong→Em,Obj.data_mapFields→Eu,Value.builtin→Ew,Value.type.inj→Ey,Builtin.Str.strSliceIndices→Ez,NameKind.cell→EJ,Obj.isFreed_of_fields→LK,Heap.MadeExcOf→LM,Calls.Name_function_global→VX
open Sum renaming inl→tN,inr→tO
open True renaming intro→tR
set_option Elab.async false
set_option linter.all false
set_option maxRecDepth 100000
local macro_rules | `(tactic| omega)=>`(tactic| lia)
namespace L2
open PySem PySem.Spec PyProof.Rows
noncomputable abbrev Key:=Sum Int Str
noncomputable def Mm:Key->Value->Bool
 | .inl k,v=>Value.isInt k v
 | .inr x,v=>Value.isStrOf x v
noncomputable def Ww(w:World):Key->Int
 | .inl k=>hashInt k
 | .inr x=>hashStr w x
theorem nt:∀{k:Key} {v:Value},Mm k v=true->(∃i t,k=tN i/\v=xf i t)\/(∃x t,k=tO x/\v=Value.str x t)
 | .inl i,v,h=>by
  obtain⟨t,e⟩:=Value.isInt_shape (k:=i) (v:=v) h
  exact .inl ⟨i,t,rfl,e⟩
 | .inr x,v,h=>by
  obtain⟨t,e⟩:=Value.isStrOf_shape (x:=x) (v:=v) h
  exact .inr ⟨x,t,rfl,e⟩
theorem Wx(a b:Int):decide ((tN a:Key)=tN b)=(a==b):=by
 by_cases e:a=b
 ·subst e;simp
 ·have h:¬ (tN a:Key)=tN b:=λq=>e (Sum.inl.inj q)
  rw[decide_eq_false h]
  exact(beq_eq_false_iff_ne.mpr e).symm
theorem Wy(a b:Str):decide ((tO a:Key)=tO b)=decide (a=b):=by
 by_cases e:a=b
 ·subst e;simp
 ·have h:¬ (tO a:Key)=tO b:=λq=>e (Sum.inr.inj q)
  rw[decide_eq_false h,decide_eq_false e]
theorem Wz(a:Int)(b:Str):decide ((tN a:Key)=tO b)=false:=decide_eq_false (λq=>nomatch q)
theorem WA(a:Str)(b:Int):decide ((tO a:Key)=tN b)=false:=decide_eq_false (λq=>nomatch q)
noncomputable def Mn(prog:Program)(w:World):PySem.KeyKind prog w Key where
 is:=Mm
 hash:=Ww w
 inj:=λv a b ha hb=>by
  rcases nt ha with⟨i,t,rfl,rfl⟩ | ⟨x,t,rfl,rfl⟩
  ·rcases nt hb with⟨j,u,rfl,e⟩ | ⟨y,u,rfl,e⟩
   ·injection e with e1 _;rw[e1]
   ·exact nomatch e
  ·rcases nt hb with⟨j,u,rfl,e⟩ | ⟨y,u,rfl,e⟩
   ·exact nomatch e
   ·injection e with e1 _;rw[e1]
 byValue:=λk v h=>by
  rcases nt h with⟨i,t,rfl,rfl⟩ | ⟨x,t,rfl,rfl⟩<;>rfl
 pyHash:=λhv h=>by
  rcases nt hv with⟨i,t,rfl,rfl⟩ | ⟨x,t,rfl,rfl⟩
  ·exact wpAny_pyHash_int h
  ·exact wpAny_pyHash_str h
 eqBool:=λhu hv h=>by
  rcases nt hu with⟨i,t,rfl,rfl⟩ | ⟨x,t,rfl,rfl⟩
  ·rcases nt hv with⟨j,u,rfl,rfl⟩ | ⟨y,u,rfl,rfl⟩
   ·rw[Wx]at h;exact wpAny_eqBool_int h
   ·rw[Wz]at h;exact SeqAt.EqAt.int_str i t y u _ _ _ _ h
  ·rcases nt hv with⟨j,u,rfl,rfl⟩ | ⟨y,u,rfl,rfl⟩
   ·rw[WA]at h;exact SeqAt.EqAt.str_int x t j u _ _ _ _ h
   ·rw[Wy]at h;exact wpAny_eqBool_str h
 «strs»:=λk x t v h=>by
  rcases nt h with⟨i,u,rfl,e⟩ | ⟨y,u,rfl,e⟩
  ·exact nomatch e
  ·injection e with e1 _
   subst e1
   cases v<;>rfl
end L2
namespace L2
open PySem PySem.Spec PyProof.Rows
inductive V where
 | aq | bl (b:Bool) | int (i:Int) | str (x:Str) | AV (b:Array UInt8) | qU (b:UInt64) | ref (a:Addr) | ty (n:String)
 deriving DecidableEq
noncomputable def RelV:V->Value->Prop
 | .aq,u=>u=qJ
 | .bl b,u=>u=Eg b
 | .int i,u=>∃t,u=xf i t
 | .str x,u=>∃t,u=Value.str x t
 | .AV b,u=>∃t,u=Value.bytes b t
 | .qU b,u=>∃t,u=Value.float b t
 | .ref a,u=>u=dn a
 | .ty n,u=>u=Value.type n
noncomputable abbrev Vals:List V->List Value->Prop:=Paired RelV
theorem Vals.length{xs:List V}{us:List Value}(r:Vals xs us):xs.length=us.length:=Paired.length r
theorem Vals.get:∀{xs:List V} {us:List Value} {i:Nat} {x:V},Vals xs us->xs[i]?=some x->∃u,us[i]?=some u/\RelV x u
 | _,_,_,_,.nil,e=>by simp at e
 | _,_,0,_,.cons r _,e=>by simp at e;subst e;exact⟨_,rfl,r⟩
 | _,_,i+1,x,.cons _ t,e=>by
  obtain⟨u,h1,h2⟩:=Vals.get (i:=i) (x:=x) t (by simpa using e)
  exact⟨u,by simpa using h1,h2⟩
theorem Vals.set{x:V}{u:Value}(r:RelV x u):∀{xs:List V} {us:List Value} (i:Nat),Vals xs us->Vals (xs.set i x) (us.set i u)
 | _,_,_,.nil=>.nil
 | _,_,0,.cons _ t=>.cons r t
 | _,_,i+1,.cons q t=>.cons q (Vals.set r i t)
theorem Vals.append:∀{xs ys:List V} {us ws:List Value},Vals xs us->Vals ys ws->Vals (xs++ys) (us++ws)
 | _,_,_,_,.nil,s=>s
 | _,_,_,_,.cons r t,s=>.cons r (Vals.append t s)
theorem Vals.take:∀{xs:List V} {us:List Value} (n:Nat),Vals xs us->Vals (xs.take n) (us.take n)
 | _,_,0,_=>.nil
 | _,_,_+1,.nil=>.nil
 | _,_,n+1,.cons r t=>.cons r (Vals.take n t)
theorem Vals.drop:∀{xs:List V} {us:List Value} (n:Nat),Vals xs us->Vals (xs.drop n) (us.drop n)
 | _,_,0,r=>r
 | _,_,_+1,.nil=>.nil
 | _,_,n+1,.cons _ t=>Vals.drop n t
noncomputable def my:Option V->Option Value->Prop
 | some v,some u=>RelV v u
 | none,none=>True
 | _,_=>False
noncomputable def KV{κ:Type}:List (κ × V)->List (κ × Value)->Prop:=Paired λ(p:κ × V) (q:κ × Value)=>p.1=q.1/\RelV p.2 q.2
noncomputable def kV:Key->V
 | .inl i=>.int i
 | .inr x=>.str x
inductive HO where
 | lst (xs:List V)
 | tup (xs:List V)
 | dK (dU:List (Key × V)) | dT (dU:List (List Key × V))
 | set (S:Int->Bool) (n:Nat)
 | ins (C dx:Addr) (fs:List (Str × V))
 | own (x:Addr)
 | xd (fs:List (Str × V))
 | met (f x:Addr)
 | xw (lo hi:Int)
 | bu (o:Obj) (u:HO)
 | dP (ps:Array Value)
 | ext (φ:Heap->Prop)
noncomputable abbrev Hp:=Addr->Option HO
noncomputable def upd(H:Hp)(a:Addr)(o:HO):Hp:=λb=>if b=a then some o else H b
theorem bH{H:Hp}{a:Addr}{o:HO}:upd H a o a=some o:=by unfold upd;rw[if_pos rfl]
theorem aU{H:Hp}{a b:Addr}{o:HO}(h:b≠a):upd H a o b=H b:=by unfold upd;rw[if_neg h]
theorem eJ{H:Hp}{a b:Addr}{o:HO}(h:H a=some o)(h':H b=none):a≠b:=by
 intro e;subst e;rw[h]at h';cases h'
section
variable(P:Program)(w:World)
noncomputable def eC(H:Hp)(h:Heap)(a:Addr):HO->Prop
 | .lst xs=>xs.length<=sizeLine/\∃(its:List Value) (n:Nat),Vals xs its/\h.get? a=some { cls:=.type "list",data:=.seq its.toArray n }
 | .tup xs=>xs.length<=sizeLine/\∃its:List Value,Vals xs its/\IsTup h a its.toArray
 | .dK dU=>dU.length<=sizeLine/\(a==sysModules)=false/\∃vs,KV dU vs/\h.DictOf (Mn P w) a vs
 | .dT dU=>dU.length<=sizeLine/\(a==sysModules)=false/\∃xs:List (List Key × Addr × Value),
   Paired (λ(p:List Key × V) (q:List Key × Addr × Value)=>p.1=q.1/\H q.2.1=some (.tup (p.1.map kV))/\RelV p.2 q.2.2) dU xs /\
   ∃o es ep,h.get? a=some o/\o.ExactDict/\o.data=.dict es ep/\es.toList=xs.map (entryOfKey (tupleKind (Mn P w)))/\(xs.map (·.1)).Nodup
 | .set S n=>h.SetOf (intKind P w) a S n
 | .ins C dx fs=>H dx=some (.own a)/\fs.length<=1000/\dx≠a/\h.get? a=some (PySem.W.instObj C dx) /\
   ∃mA,h.Ns1 dx mA/\(∀f,my (fs.lookup f) (mA f))/\PySem.Within mA (fs.map (·.1))
 | .own _=>∃o,h.get? a=some o
 | .xd fs=>∃mA,h.Ns1 a mA/\∀f,my (fs.lookup f) (mA f)
 | .xw lo hi=>∃t u v,h.get? a=some { cls:=.type "range",data:=.fields #[.int lo t,.int hi u,.int 1 v] }
 | .bu o u=>h.get? a=some o/\eC H h a u
 | .dP ps=>h.get? a=some { cls:=.none,data:=.fields ps }/\TriplesOk ps.toList/\∀pos cv,codeAmong pos ps.toList=some cv->∃c φ,cv=.ref c/\H c=some (.ext φ)/\∀h',φ h'->∃q,h'.CodeRec (.ref c) q
 | .met f x=>h.get? a=some (PySem.W.methodObj (.ref f) (.ref x))
 | .ext φ=>φ h/\(∃o,h.get? a=some o)/\∀h1 h2:Heap,φ h1->(∀b o,(b=a\/H b=some (.own a))->h1.get? b=some o->h2.get? b=some o)->φ h2
noncomputable def cQ(H:Hp)(h:Heap):Prop:=∀a o,H a=some o->eC P w H h a o
end
section
variable{P:Program}{w:World}{H H':Hp}{h h':Heap}{a:Addr}{o:HO}
theorem eC.lt(x:eC P w H h a o):a<h.objs.size:=by
 cases o with
 | lst xs=>obtain⟨_,_,_,_,e⟩:=x;exact bG e
 | tup xs=>obtain⟨_,_,_,p⟩:=x;exact p.lt
 | dK dU=>obtain⟨_,_,_,_,o,_,_,e,_⟩:=x;exact bG e
 | dT dU=>obtain⟨_,_,_,_,o,_,_,e,_⟩:=x;exact bG e
 | set S n=>obtain⟨o,_,_,_,e,_⟩:=x;exact bG e
 | ins C dx fs=>obtain⟨_,_,_,e,_⟩:=x;exact bG e
 | own y=>obtain⟨_,e⟩:=x;exact bG e
 | xd fs=>obtain⟨_,⟨_,_,_,e,_⟩,_⟩:=x;exact bG e
 | xw lo hi=>obtain⟨_,_,_,e⟩:=x;exact bG e
 | bu ob u=>obtain⟨e,_⟩:=x;exact bG e
 | dP ps=>exact bG (show h.get? a=some _ from x.1)
 | met f y=>exact bG (show h.get? a=some _ from x)
 | ext φ=>obtain⟨_,⟨_,e⟩,_⟩:=x;exact bG e
theorem Paired.EU{α β:Type}{F G:α->β->Prop}:∀{l₁:List α} {l₂:List β},Paired F l₁ l₂->(∀a b,F a b->G a b)->Paired G l₁ l₂
 | _,_,.nil,_=>.nil
 | _,_,.cons r t,f=>.cons (f _ _ r) (Paired.EU t f)
theorem eC.i8(x:eC P w H h a o)(k:∀b u,(b=a\/H b=some (.own a))->h.get? b=some u->h'.get? b=some u)
  (ho:∀b,H b=some (.own a)->H' b=some (.own a)) (ht:∀b xs,H b=some (.tup xs)->H' b=some (.tup xs)) (hx:∀b φ,H b=some (.ext φ)->H' b=some (.ext φ)):eC P w H' h' a o:=by
 induction o with
 | lst xs=>obtain⟨z,its,n,r,e⟩:=x;exact⟨z,its,n,r,k _ _ (.inl rfl) e⟩
 | tup xs=>obtain⟨z,its,r,ob,e,c⟩:=x;exact⟨z,its,r,ob,k _ _ (.inl rfl) e,c⟩
 | dK dU=>obtain⟨z,y,vs,r,ob,es,ep,e,c⟩:=x;exact⟨z,y,vs,r,ob,es,ep,k _ _ (.inl rfl) e,c⟩
 | dT dU =>
  obtain⟨z,y,xs,r,ob,es,ep,e,c⟩:=x
  exact⟨z,y,xs,Paired.EU r λp q z=>⟨z.1,ht _ _ z.2.1,z.2.2⟩,ob,es,ep,k _ _ (.inl rfl) e,c⟩
 | set S n=>obtain⟨ob,es,ep,t,e,c⟩:=x;exact⟨ob,es,ep,t,k _ _ (.inl rfl) e,c⟩
 | ins C dx fs =>
  obtain⟨d,z,ne,e,mA,⟨od,es,ep,e2,c⟩,r⟩:=x
  exact⟨ho _ d,z,ne,k _ _ (.inl rfl) e,mA,⟨od,es,ep,k _ _ (.inr d) e2,c⟩,r⟩
 | own y=>obtain⟨ob,e⟩:=x;exact⟨ob,k _ _ (.inl rfl) e⟩
 | xd fs=>obtain⟨mA,⟨od,es,ep,e,c⟩,r⟩:=x;exact⟨mA,⟨od,es,ep,k _ _ (.inl rfl) e,c⟩,r⟩
 | xw lo hi=>obtain⟨t,u,v,e⟩:=x;exact⟨t,u,v,k _ _ (.inl rfl) e⟩
 | bu ob u ih=>obtain⟨e,q⟩:=x;exact⟨k _ _ (.inl rfl) e,ih q⟩
 | dP ps =>
  obtain⟨e,t,c⟩:=x
  refine⟨k a _ (.inl rfl) e,t,λpos cv q=>?_⟩
  obtain⟨d,φ,e1,e2,e3⟩:=c pos cv q
  exact⟨d,φ,e1,hx _ _ e2,e3⟩
 | met f y =>
  have e:h.get? a=some (PySem.W.methodObj (.ref f) (.ref y)):=x
  show h'.get? a=some (PySem.W.methodObj (.ref f) (.ref y))
  exact k a _ (.inl rfl) e
 | ext φ=>obtain⟨p,⟨o,e⟩,st⟩:=x;exact⟨st _ _ p λb o hb q=>k _ _ hb q,⟨o,k _ _ (.inl rfl) e⟩,λh1 h2 p1 kk=>st h1 h2 p1 λb o hb q=>kk b o (hb.imp id (ho b)) q⟩
theorem cQ.lt(x:cQ P w H h)(e:H a=some o):a<h.objs.size:=(x a o e).lt
theorem cQ.fresh(x:cQ P w H h)(e:h.objs.size<=a):H a=none:=by
 cases q:H a with
 | none=>rfl
 | some u=>exact absurd (cK (x.lt q) e) (gC _)
theorem cQ.kept(x:cQ P w H h)(k:∀b u,h.get? b=some u->h'.get? b=some u):cQ P w H h':=λa o e =>
 (x a o e).i8 (λb u _ q=>k b u q) (λ_ q=>q) (λ_ _ q=>q) λ_ _ q=>q
theorem cQ.laid(x:cQ P w H h)(k:∀b u,h.get? b=some u->h'.get? b=some u)(hp:h.objs.size<=a)(new:eC P w (upd H a o) h' a o):cQ P w (upd H a o) h':=λb u e=>by
 have hn:=x.fresh hp
 by_cases hb:b=a
 ·subst hb;rw[bH]at e;cases e;exact new
 ·rw[aU hb]at e
  exact(x b u e).i8 (λc v _ q=>k c v q) (λc q=>by rw[aU (eJ q hn)];exact q) (λc xs q=>by rw[aU (eJ q hn)];exact q) λc xs q=>by rw[aU (eJ q hn)];exact q
end
noncomputable def Rd(H:Hp)(a:Addr)(u:HO):Prop:=H a=some u\/∃o,H a=some (.bu o u)
theorem Rd.ok{P:Program}{w:World}{H:Hp}{h:Heap}{a:Addr}{u:HO}(r:Rd H a u)(x:cQ P w H h):eC P w H h a u:=by
 rcases r with r | ⟨o,r⟩
 ·exact x a u r
 ·obtain⟨_,q⟩:=x a _ r
  exact q
noncomputable def AW:Option HO->Prop
 | some (.lst _)=>True
 | some (.dK _)=>True
 | some (.dT _)=>True
 | some (.set _ _)=>True
 | some (.ins _ _ _)=>True
 | _=>False
section
variable{P:Program}{w:World}{H:Hp}{h h':Heap}{x e:Addr}{o':HO}
theorem cQ.write(ok:cQ P w H h)(mu:AW (H x))(he:e=x\/H e=some (.own x))(k:∀b u,b≠e->h.get? b=some u->h'.get? b=some u)(uf:∃u,h'.get? e=some u)
  (new:eC P w (upd H x o') h' x o'):cQ P w (upd H x o') h':=λb u q=>by
 have Mo:∀c y,H c=some (.own y)->c≠x:=λc y r z=>by subst z;rw[r]at mu;exact mu
 have WB:∀c xs,H c=some (.tup xs)->c≠x:=λc xs r z=>by subst z;rw[r]at mu;exact mu
 by_cases hb:b=x
 ·subst hb;rw[bH]at q;cases q;exact new
 ·rw[aU hb]at q
  by_cases qV:b=e
  ·have q':H b=some (.own x):=by
    rcases he with z | z
    ·exact absurd (qV.trans z) hb
    ·rw[qV];exact z
   rw[q]at q';cases q'
   obtain⟨v,hv⟩:=uf
   exact⟨v,by rw[qV];exact hv⟩
  ·refine(ok b u q).i8 (λc v hc r=>k c v ?_ r) (λc r=>by rw[aU (Mo c b r)];exact r) (λc xs r=>by rw[aU (WB c xs r)];exact r) λc φ r=>by rw[aU (λz=>by rw[z]at r;rw[r]at mu;exact mu)];exact r
   rcases hc with rfl | hc
   ·exact qV
   ·rintro rfl
    rcases he with z | z
    ·exact Mo c b hc z
    ·rw[hc]at z;cases z;exact hb rfl
end
structure Un(fs ex:List Addr)(H H':Hp)(h h':Heap):Prop where
 keep:∀b o,h.get? b=some o->H b=none->b ∉ fs->b ∉ ex->h'.get? b=some o
 slot:∀b o,h.get? b=some o->H b=none->b∈fs->b ∉ ex->∃sl,h'.get? b=some { o with slots:=sl }
 free:∀b o,h.get? b=some o->H b=none->b ∉ ex->H' b=none
 there:∀b o,h.get? b=some o->b ∉ ex->∃o',h'.get? b=some o'
 iK:∀b xs,H b=some (.tup xs)->H' b=some (.tup xs)
 g8:∀b o u,H b=some (.bu o u)->H' b=some (.bu o u)
 gE:∀b ps,H b=some (.dP ps)->∃more,H' b=some (.dP (ps++more))
section
variable{fs fs' ex ex':List Addr}{H H1 H2:Hp}{h h1 h2 h':Heap}{a x e:Addr}{o:HO}
theorem Un.any(u:Un fs ex H H1 h h1){b:Addr}{ob:Obj}(q:h.get? b=some ob)(n:H b=none)(hx:b ∉ ex):∃sl,h1.get? b=some { ob with slots:=sl }:=by
 by_cases hb:b∈fs
 ·exact u.slot b ob q n hb hx
 ·exact⟨ob.slots,u.keep b ob q n hb hx⟩
theorem Un.kept(k:∀b u,h.get? b=some u->h'.get? b=some u):Un fs ex H H h h' :=
 ⟨λb ob q _ _ _=>k b ob q,λb ob q _ _ _=>⟨ob.slots,k b ob q⟩,λ_ _ _ n _=>n,λb ob q _=>⟨ob,k b ob q⟩,λ_ _ q=>q,λ_ _ _ q=>q,λ_ ps q=>⟨#[],by rw[q];simp⟩⟩
theorem Un.refl:Un fs ex H H h h:=Un.kept λ_ _ q=>q
theorem Un.laid(k:∀b u,h.get? b=some u->h'.get? b=some u)(hp:h.objs.size<=a)(hn:H a=none):Un fs ex H (upd H a o) h h' where
 keep:=λb u q _ _ _=>k b u q
 slot:=λb u q _ _ _=>⟨u.slots,k b u q⟩
 free:=λb u q n _=>by rw[aU (eT (cK (bG q) hp))];exact n
 there:=λb u q _=>⟨u,k b u q⟩
 iK:=λb xs q=>by rw[aU (eJ q hn)];exact q
 g8:=λb u xs q=>by rw[aU (eJ q hn)];exact q
 gE:=λb ps q=>⟨#[],by rw[aU (eJ q hn),q];simp⟩
theorem Un.write(mu:AW (H x))(he:e=x\/H e=some (.own x))(k:∀b u,b≠e->h.get? b=some u->h'.get? b=some u)(uf:∃u,h'.get? e=some u):Un fs ex H (upd H x o) h h':=by
 have hx:∀b,H b=none->b≠x:=λb n z=>by subst z;rw[n]at mu;exact mu
 have hb:∀b,H b=none->b≠e:=λb n z=>by
  subst z
  rcases he with r | r
  ·exact hx b n r
  ·rw[n]at r;cases r
 have hm:∀b u,H b=some u->¬ AW (some u)->b≠x:=λb u q nm z=>by subst z;rw[q]at mu;exact nm mu
 refine⟨λb u q n _ _=>k b u (hb b n) q,λb u q n _ _=>⟨u.slots,k b u (hb b n) q⟩,λb u q n _=>by rw[aU (hx b n)];exact n,λb u q _=>?_,
  λb xs q=>by rw[aU (hm b _ q λz=>z)];exact q,λb u xs q=>by rw[aU (hm b _ q λz=>z)];exact q,λb ps q=>⟨#[],by rw[aU (hm b _ q λz=>z),q];simp⟩⟩
 by_cases qV:b=e
 ·subst qV;exact uf
 ·exact⟨u,k b u qV q⟩
end
noncomputable def AX(h:Heap)(H:Hp):List Addr:=(aM h.objs.size).filter λa=>(H a).isSome
noncomputable def mB(h:Heap)(H:Hp):Heap:=PySem.W.hideAll h (AX h H)
theorem WC(h:Heap)(H:Hp):(mB h H).objs.size=h.objs.size:=PySem.W.hideAll_size _ _
theorem WD{h:Heap}{H:Hp}{b:Addr}{o:Obj}(e:h.get? b=some o)(n:H b=none):(mB h H).get? b=some o :=
 PySem.W.hideAll_get _ e λhm=>by
  have q:(H b).isSome=true:=(m5.mp hm).2
  rw[n]at q;simp at q
theorem WE{h:Heap}{H:Hp}{b:Addr}{o:Obj}(e:(mB h H).get? b=some o):h.get? b=some o/\H b=none:=by
 have e':h.get? b=some o:=PySem.W.of_hideAll (AX h H) e
 refine⟨e',?_⟩
 cases q:H b with
 | none=>rfl
 | some x =>
  have hm:b∈AX h H:=m5.mpr ⟨bK.mpr (bG e'),by simp[q]⟩
  have z:(mB h H).get? b=none:=PySem.W.hideAll_none (AX h H) hm
  rw[z]at e;cases e
end L2
namespace L2
open PySem PySem.Spec PyProof.Rows
structure Mod(K:PySem.W.Frag)(mg:Str->Option Value)(base:Heap):Prop where
 mC:K.In base
 glob:base.Ns mainGlobals mg
 blt:∃mb,base.Ns builtinsNs mb/\∀x:Str,x≠"__name__"->mb x=bootBuiltins x
 nolimit:base.NoLimit
structure Cx where
 prog:Program
 w:World
 K:PySem.W.Frag
 mg:Str->Option Value
 base:Heap
 A:Around
 N:List Str
 cJ:Shared
 km:Hp
 env:Env
 outer:List Env
 stack:List Env
 ex:List Addr
 fn:Str->Bool
 calm:Bool
 pn:List (Addr × Obj)
 xe:Value->Shared->Prop
noncomputable def dW(l:List Env):List Addr:=l.filterMap (·.frame)
noncomputable abbrev Cx.fs(X:Cx):List Addr:=dW X.outer
noncomputable def lh(sc:Scope)(x:Str):Prop:=sc.names.lookup x=some .local\/sc.names.lookup x=some .cell\/sc.names.lookup x=some .free
noncomputable def Loc(sc:Scope)(x:Str):Prop:=sc.names.lookup x=some .local\/sc.names.lookup x=some .cell
noncomputable def WG(env:Env)(h:Heap)(m:Str->Option Value)(x:Str)(u:Value):Prop :=
 (env.kindOf x=some .local/\m x=some u)\/((env.kindOf x=some .cell\/env.kindOf x=some .free)/\∃c,env.cells.lookup x=some c/\h.IsCell c (some u))
structure Cx.Ok(X:Cx):Prop where
 mod:Mod X.K X.mg X.base
 kind:X.env.scope.kind=.function
 glob:X.env.globals=mainGlobals
 blt:X.env.builtins=builtinsNs
 above:X.cJ.heap.objs.size<=X.env.locals
 inj:∀x y c,X.env.cells.lookup x=some c->X.env.cells.lookup y=some c->x=y
 has:∀x,(X.env.kindOf x=some .cell\/X.env.kindOf x=some .free)->∃c,X.env.cells.lookup x=some c
 nu:∀x c,X.fn x=true->X.env.cells.lookup x=some c->X.cJ.heap.objs.size<=c
 hd:X.calm=true->X.A.handled=none
 frames:X.A.frames=some X.stack
 qW:X.stack=X.outer\/(X.stack=X.env::X.outer/\X.env.frame=some X.env.locals)
 qX:∀b∈X.ex,b≠X.env.locals/\∀x c,X.env.cells.lookup x=some c->c≠b
 bs:∀b o,X.base.get? b=some o->X.cJ.heap.get? b=some o/\X.km b=none
 i9:X.base.objs.size<=X.cJ.heap.objs.size
 pB:∀b o,X.base.get? b=some o->b ∉ X.ex
 pE:∀b∈X.ex,b ∉ X.fs
 gn:X.cJ.heap.FunFrames X.base X.outer
 jc:∀b∈X.fs,X.km b=none
structure Inv(X:Cx)(pins:List (Addr × Obj))(σ:List (Option V))(H:Hp)(s:Shared):Prop where
 ok:X.Ok
 os:s.os=X.cJ.os
 bare:AllBare s.gens
 base:Un X.fs X.ex X.km H X.cJ.heap s.heap
 loc:∃m,s.heap.Ns X.env.locals m/\∀(i:Nat) (x:Str) (v:V),X.N[i]?=some x->σ[i]?=some (some v)->lh X.env.scope x->∃u,RelV v u/\WG X.env s.heap m x u
 cell:∀x c,X.env.cells.lookup x=some c->∃v,s.heap.IsCell c v
 free:H X.env.locals=none
 fZ:∀x c,X.env.cells.lookup x=some c->H c=none
 pin:∀p∈X.pn++pins,s.heap.get? p.1=some p.2/\H p.1=none/\p.1≠X.env.locals/\p.1 ∉ X.fs/\∀v,p.2.data≠.cell v
 aE:cQ X.prog X.w H s.heap
 len:σ.length=X.N.length
section
variable{X:Cx}{pins:List (Addr × Obj)}{σ:List (Option V)}{H H':Hp}{s:Shared}{h':Heap}
theorem Cx.Ok.WH(ok:X.Ok){b:Addr}{o:Obj}(e:X.base.get? b=some o):b ∉ X.fs:=λhb=>by
 have:=(ok.gn.mem hb).1
 rw[e]at this;cases this
theorem Inv.bs(I:Inv X pins σ H s):∀b o,X.base.get? b=some o->s.heap.get? b=some o/\H b=none:=λb o e =>
 ⟨I.base.keep b o (I.ok.bs b o e).1 (I.ok.bs b o e).2 (I.ok.WH e) (I.ok.pB b o e),I.base.free b o (I.ok.bs b o e).1 (I.ok.bs b o e).2 (I.ok.pB b o e)⟩
theorem Inv.bk(I:Inv X pins σ H s):∀b o,X.base.get? b=some o->s.heap.get? b=some o:=λb o e=>(I.bs b o e).1
theorem Inv.mod(I:Inv X pins σ H s):Mod X.K X.mg X.base:=I.ok.mod
theorem Inv.cR(I:Inv X pins σ H s):X.K.In s.heap:=I.ok.mod.mC.keeps I.bk
theorem Inv.lt(I:Inv X pins σ H s):X.env.locals<s.heap.objs.size:=let⟨_,hn,_⟩:=I.loc;hn.lt
theorem Inv.sz(I:Inv X pins σ H s):X.cJ.heap.objs.size<=s.heap.objs.size:=dy I.ok.above (oU I.lt)
theorem Inv.Mp(I:Inv X pins σ H s){a:Addr}(h:s.heap.objs.size<=a):a ∉ X.fs:=λhb=>by
 obtain⟨_,o,ho,_⟩:=I.ok.gn.mem hb
 exact absurd (cK (bG ho) (dy I.sz h)) (gC _)
theorem Inv.kn(I:Inv X pins σ H s):∀x c,X.env.cells.lookup x=some c->c≠X.env.locals:=λx c e z=>by
 obtain⟨v,o,ho,hd⟩:=I.cell x c e
 obtain⟨m,⟨o',es,ep,lu,xx,_⟩,_⟩:=I.loc
 rw[z,lu]at ho;cases ho;rw[xx]at hd;cases hd
theorem Inv.gn(I:Inv X pins σ H s):s.heap.FunFrames X.base X.outer:=by
 have all:∀(l:List Env),(∀b∈dW l,b∈X.fs)->X.cJ.heap.FunFrames X.base l->s.heap.FunFrames X.base l:=by
  intro l
  induction l with
  | nil=>intro _ _;trivial
  | cons env r ih =>
   intro hs hl
   obtain⟨hk,⟨L,o,hf,hn,ho,hd⟩,hr⟩:=hl
   have hL:L∈X.fs:=hs L (by unfold dW;rw[Ak,hf];exact gj)
   obtain⟨sl,e⟩:=I.base.slot L o ho (I.ok.jc L hL) hL λz=>I.ok.pE L z hL
   exact⟨hk,⟨L,_,hf,hn,e,hd⟩,ih (λb hb=>hs b (by unfold dW;rw[Ak,hf];exact fh _ hb)) hr⟩
 exact all X.outer (λ_ hb=>hb) I.ok.gn
theorem Inv.stack(I:Inv X pins σ H s):s.heap.FunFrames X.base X.stack:=by
 rcases I.ok.qW with e | ⟨e,hf⟩
 ·rw[e];exact I.gn
 ·rw[e]
  obtain⟨m,hn,_⟩:=I.loc
  refine .cons (by rw[I.ok.kind];decide) hf hn ?_ I.gn
  exact Heap.get?_none_of_le (dy I.ok.i9 I.ok.above)
theorem Inv.xy(I:Inv X pins σ H s):∀b∈dW X.stack,b∈X.env.locals::X.fs:=λb hb=>by
 rcases I.ok.qW with e | ⟨e,hf⟩
 ·rw[e]at hb;exact fh _ hb
 ·rw[e]at hb
  unfold dW at hb
  rw[Ak,hf]at hb
  exact hb
theorem Inv.AY(I:Inv X pins σ H s):∀b∈dW X.stack,H b=none:=λb hb=>by
 rcases cL.mp (I.xy b hb)with e | hb
 ·rw[e];exact I.free
 ·obtain⟨_,o,ho,_⟩:=I.ok.gn.mem hb
  exact I.base.free b o ho (I.ok.jc b hb) λz=>I.ok.pE b z hb
theorem Inv.step{g':Array GenState}{t':Nat}{d':Drawn}{ch:List Addr}(I:Inv X pins σ H s)
  (mD:∀b∈ch,(b∈X.ex\/X.cJ.heap.objs.size<=b)/\b≠X.env.locals/\(∀x c,X.env.cells.lookup x=some c->c≠b)/\∀p∈X.pn++pins,p.1≠b)
  (keep:∀b o,b≠X.env.locals->b ∉ X.fs->b ∉ ch->s.heap.get? b=some o->H b=none->h'.get? b=some o)
  (slot:∀b o,b≠X.env.locals->b∈X.fs->b ∉ ch->s.heap.get? b=some o->H b=none->∃sl,h'.get? b=some { o with slots:=sl }) (free:∀b o,b ∉ ch->s.heap.get? b=some o->H b=none->H' b=none)
  (there:∀b o,b ∉ ch->s.heap.get? b=some o->∃o',h'.get? b=some o')
  (iK:∀b xs,H b=some (.tup xs)->H' b=some (.tup xs)) (g8:∀b o u,H b=some (.bu o u)->H' b=some (.bu o u)) (gE:∀b ps,H b=some (.dP ps)->∃more,H' b=some (.dP (ps++more)))
  (ns:∀m,s.heap.Ns X.env.locals m->h'.Ns X.env.locals m) (aE:cQ X.prog X.w H' h') (hg:AllBare g') :
  Inv X pins σ H' { s with heap:=h',gens:=g',drawn:=d',toks:=t' }:=by
 have ug:∀b o,X.cJ.heap.get? b=some o->b≠X.env.locals:=λb o e=>eT (cK (bG e) I.ok.above)
 have uh:∀b o,X.cJ.heap.get? b=some o->b ∉ X.ex->b ∉ ch:=λb o e hx hb=>by
  rcases(mD b hb).1 with z | z
  ·exact hx z
  ·exact absurd (cK (bG e) z) (gC _)
 have cellK:∀x c,X.env.cells.lookup x=some c->∀v,s.heap.IsCell c v->h'.IsCell c v:=λx c e v ⟨o,ho,hd⟩=>by
  have xB:c ∉ ch:=λz=>(mD c z).2.2.1 x c e rfl
  by_cases hc:c∈X.fs
  ·obtain⟨sl,q⟩:=slot c o (I.kn x c e) hc xB ho (I.fZ x c e)
   exact⟨_,q,hd⟩
  ·exact⟨o,keep c o (I.kn x c e) hc xB ho (I.fZ x c e),hd⟩
 refine⟨I.ok,I.os,hg,⟨λb o e n hb hx=>?_,λb o e n hb hx=>?_,λb o e n hx=>?_,λb o e hx=>?_,λb xs e=>iK b xs (I.base.iK b xs e),λb o xs e=>g8 b o xs (I.base.g8 b o xs e),λb ps e=>?_⟩,?_,λx c e=>?_,?_,λx c e=>?_,λp hp=>?_,aE,I.len⟩
 ·exact keep b o (ug b o e) hb (uh b o e hx) (I.base.keep b o e n hb hx) (I.base.free b o e n hx)
 ·obtain⟨sl,e1⟩:=I.base.slot b o e n hb hx
  obtain⟨xC,e2⟩:=slot b _ (ug b o e) hb (uh b o e hx) e1 (I.base.free b o e n hx)
  exact⟨xC,e2⟩
 ·obtain⟨o',e1⟩:=I.base.there b o e hx
  exact free b o' (uh b o e hx) e1 (I.base.free b o e n hx)
 ·obtain⟨o',e1⟩:=I.base.there b o e hx
  exact there b o' (uh b o e hx) e1
 ·obtain⟨m1,e1⟩:=I.base.gE b ps e
  obtain⟨m2,e2⟩:=gE b _ e1
  exact⟨m1++m2,by rw[e2,tP]⟩
 ·obtain⟨m,hn,hl⟩:=I.loc
  refine⟨m,ns m hn,λi x v e1 e2 e3=>?_⟩
  obtain⟨u,r,l⟩:=hl i x v e1 e2 e3
  refine⟨u,r,?_⟩
  rcases l with l | ⟨k,c,e,z⟩
  ·exact .inl l
  ·exact .inr ⟨k,c,e,cellK x c e _ z⟩
 ·obtain⟨v,z⟩:=I.cell x c e
  exact⟨v,cellK x c e v z⟩
 ·obtain⟨m,⟨o,_,_,ho,_⟩,_⟩:=I.loc
  exact free _ o (λz=>(mD _ z).2.1 rfl) ho I.free
 ·obtain⟨v,o,ho,hd⟩:=I.cell x c e
  exact free c o (λz=>(mD c z).2.2.1 x c e rfl) ho (I.fZ x c e)
 ·obtain⟨e,n,ne,nf,d⟩:=I.pin p hp
  have xB:p.1 ∉ ch:=λz=>(mD p.1 z).2.2.2 p hp rfl
  exact⟨keep p.1 p.2 ne nf xB e n,free p.1 p.2 xB e n,ne,nf,d⟩
theorem Inv.un{t':Nat}(I:Inv X pins σ H s)(u:Un X.fs [] H H' s.heap h')(aE:cQ X.prog X.w H' h'):Inv X pins σ H' { s with heap:=h',toks:=t' }:=by
 obtain⟨m,⟨o,es,ep,ho,r⟩,_⟩:=id I.loc
 obtain⟨sl,hL⟩:=u.any ho I.free (by simp)
 exact I.step (g':=s.gens) (d':=s.drawn) (ch:=[]) (λ_ z=>nomatch z) (λb o _ hb _ e n=>u.keep b o e n hb (by simp)) (λb o _ hb _ e n=>u.slot b o e n hb (by simp)) (λb o _ e n=>u.free b o e n (by simp)) (λb o _ e=>u.there b o e (by simp)) u.iK u.g8 u.gE (λm' hm=>by
  obtain⟨o',EV,EW,lu,r'⟩:=hm
  rw[ho]at lu;cases lu
  exact⟨_,EV,EW,hL,r'⟩) aE I.bare
theorem Inv.call{g':Array GenState}{t':Nat}{d':Drawn}{ch:List Addr}(I:Inv X pins σ H s)(u:Un (dW X.stack) ch H H' s.heap h')(aE:cQ X.prog X.w H' h')(hg:AllBare g')
  (mD:∀b∈ch,(b∈X.ex\/X.cJ.heap.objs.size<=b)/\b≠X.env.locals/\(∀x c,X.env.cells.lookup x=some c->c≠b)/\∀p∈X.pn++pins,p.1≠b) :
  Inv X pins σ H' { s with heap:=h',gens:=g',drawn:=d',toks:=t' }:=by
 obtain⟨m,⟨o,es,ep,ho,r⟩,_⟩:=id I.loc
 obtain⟨sl,hL⟩:=u.any ho I.free λz=>(mD _ z).2.1 rfl
 exact I.step (ch:=ch) mD (λb o hL hb hc e n=>u.keep b o e n (λz=>(cL.mp (I.xy b z)).elim hL hb) hc) (λb o _ _ hc e n=>u.any e n hc) (λb o hc e n=>u.free b o e n hc) (λb o hc e=>u.there b o e hc) u.iK u.g8 u.gE (λm' hm=>by
  obtain⟨o',EV,EW,lu,r'⟩:=hm
  rw[ho]at lu;cases lu
  exact⟨_,EV,EW,hL,r'⟩) aE hg
theorem Inv.turned{t':Nat}{it:Addr}(I:Inv X pins σ H s)(k:∀b o,b≠it->s.heap.get? b=some o->h'.get? b=some o)(hn:H it=none)(hL:it≠X.env.locals)
  (h1:it∈X.ex\/X.cJ.heap.objs.size<=it) (h2:∀x c,X.env.cells.lookup x=some c->c≠it) (h3:∀p∈X.pn++pins,p.1≠it):Inv X pins σ H { s with heap:=h',toks:=t' }:=by
 have pF:∀b u,H b=some u->b≠it:=λb u e z=>by rw[z,hn]at e;cases e
 refine I.step (g':=s.gens) (d':=s.drawn) (ch:=[it]) (λb hb=>?_) (λb o _ _ hc e _=>k b o (λz=>hc (by simp[z])) e) (λb o _ _ hc e _=>⟨o.slots,k b o (λz=>hc (by simp[z])) e⟩) (λ_ _ _ _ n=>n)
  (λb o hc e=>⟨o,k b o (λz=>hc (by simp[z])) e⟩) (λ_ _ e=>e) (λ_ _ _ e=>e) (λb ps e=>⟨#[],by rw[e];simp⟩) (λm hm=>?_) (λb u e=>?_) I.bare
 ·have e:b=it:=by simpa using hb
  subst e
  exact⟨h1,hL,h2,h3⟩
 ·obtain⟨o,es,ep,ho,r⟩:=hm
  exact⟨o,es,ep,k _ o (fi hL) ho,r⟩
 ·refine(I.aE b u e).i8 (λc v hc q=>k c v ?_ q) (λ_ q=>q) (λ_ _ q=>q) λ_ _ q=>q
  rcases hc with z | z
  ·rw[z];exact pF b u e
  ·exact pF c _ z
theorem Inv.tok(I:Inv X pins σ H s)(t:Nat):Inv X pins σ H { s with toks:=t }:=I.un (h':=s.heap) (t':=t) Un.refl I.aE
theorem Inv.kept{t':Nat}(I:Inv X pins σ H s)(k:∀b u,s.heap.get? b=some u->h'.get? b=some u):Inv X pins σ H { s with heap:=h',toks:=t' }:=I.un (Un.kept k) (I.aE.kept k)
theorem Inv.laid{a:Addr}{o:HO}{t':Nat}(I:Inv X pins σ H s)(k:∀b u,s.heap.get? b=some u->h'.get? b=some u)(hp:s.heap.objs.size<=a)(new:eC X.prog X.w (upd H a o) h' a o) :
  Inv X pins σ (upd H a o) { s with heap:=h',toks:=t' }:=I.un (Un.laid k hp (I.aE.fresh hp)) (I.aE.laid k hp new)
theorem Inv.write{x e:Addr}{o:HO}{t':Nat}(I:Inv X pins σ H s)(mu:AW (H x))(he:e=x\/H e=some (.own x))(k:∀b u,b≠e->s.heap.get? b=some u->h'.get? b=some u)(uf:∃u,h'.get? e=some u)
  (new:eC X.prog X.w (upd H x o) h' x o):Inv X pins σ (upd H x o) { s with heap:=h',toks:=t' }:=I.un (Un.write mu he k uf) (I.aE.write mu he k uf new)
theorem Inv.weak{aC:List (Option V)}(I:Inv X pins σ H s)(hl:aC.length=σ.length)(w:∀(i:Nat) v,aC[i]?=some (some v)->σ[i]?=some (some v)):Inv X pins aC H s :=
 ⟨I.ok,I.os,I.bare,I.base,let⟨m,hn,pG⟩:=I.loc;⟨m,hn,λi x v e1 e2 e3=>pG i x v e1 (w i v e2) e3⟩,I.cell,I.free,I.fZ,I.pin,I.aE,hl.trans I.len⟩
theorem Inv.Mq{ui:List (Addr × Obj)}(I:Inv X pins σ H s)(h:∀p∈ui,s.heap.get? p.1=some p.2/\H p.1=none/\p.1≠X.env.locals/\p.1 ∉ X.fs/\∀v,p.2.data≠.cell v):Inv X ui σ H s :=
 ⟨I.ok,I.os,I.bare,I.base,I.loc,I.cell,I.free,I.fZ,λp hp=>(bP.mp hp).elim (λz=>I.pin p (e7 _ z)) (h p),I.aE,I.len⟩
theorem EX{N:List Str}(hN:N.Nodup){i j:Nat}{x:Str}(a:N[i]?=some x)(b:N[j]?=some x):i=j:=by
 obtain⟨h1,e1⟩:=ke.mp a
 obtain⟨h2,e2⟩:=ke.mp b
 exact(Eh hN).mp (e1.trans e2.symm)
theorem WI{M:Model}{A:Around}{E:Value->Shared->Prop}{i:Nat}{x:Str}{v:V}{u:Value}{Q:Unit->Shared->Prop}(I:Inv X pins σ H s)(hN:X.N.Nodup)(hi:X.N[i]?=some x)(hx:Loc X.env.scope x)(r:RelV v u)
  (h:∀s',Inv X pins (σ.set i (some v)) H s'->(∃a,Heap.SameBut a s.heap s'.heap/\(a=X.env.locals\/X.env.cells.lookup x=some a))->Q () s') (hf:X.fn x=true\/X.env.scope.names.lookup x=some .local:=by first | exact .inl rfl | exact .inr rfl | assumption):wpAny M A (storeName X.env x u) Q E s:=by
 obtain⟨m,hn,hl⟩:=id I.loc
 have WJ:(X.env.scope.kind==.class||(X.env.scope.kind==.module&&X.env.locals != X.env.globals))=false:=by rw[I.ok.kind];rfl
 have Mr:i<σ.length:=by rw[I.len];exact(ke.mp hi).1
 have kn:=I.kn
 have tracked:∀{a:Addr} {h':Heap},(∃o,s.heap.get? a=some o/\H a=none)->Heap.SameBut a s.heap h'->cQ X.prog X.w H h':=λ{a h'} ha hs b ob e=>by
  obtain⟨_,_,Ms⟩:=ha
  refine(I.aE b ob e).i8 (λc w' hc q=>(hs.2 c ?_).trans q) (λ_ q=>q) (λ_ _ q=>q) λ_ _ q=>q
  rintro rfl
  rcases hc with rfl | hc
  ·rw[Ms]at e;cases e
  ·rw[Ms]at hc;cases hc
 rcases hx with hk | hk
 ·refine wpAny_storeName_local hk hn (λh' EY hs=>?_) WJ
  obtain⟨oL,_,_,Mt,_⟩:=id hn
  refine h _ ⟨I.ok,I.os,I.bare,⟨λb o e n hb hx=>?_,λb o e n hb hx=>?_,I.base.free,λb o e hx=>?_,I.base.iK,I.base.g8,I.base.gE⟩,⟨_,EY,λj y v' e1 e2 e3=>?_⟩,λy c e=>?_,I.free,I.fZ,λp hp=>?_,tracked ⟨oL,Mt,I.free⟩ hs,by simpa using I.len⟩ ⟨_,hs,.inl rfl⟩
  ·exact(hs.2 b (eT (cK (bG e) I.ok.above))).trans (I.base.keep b o e n hb hx)
  ·obtain⟨sl,e1⟩:=I.base.slot b o e n hb hx
   exact⟨sl,(hs.2 b (eT (cK (bG e) I.ok.above))).trans e1⟩
  ·obtain⟨o',e1⟩:=I.base.there b o e hx
   exact⟨o',(hs.2 b (eT (cK (bG e) I.ok.above))).trans e1⟩
  ·by_cases hj:j=i
   ·subst hj
    rw[hi]at e1;cases e1
    rw[Al Mr]at e2
    cases e2
    exact⟨u,r,.inl ⟨hk,by simp⟩⟩
   ·rw[qK (fi hj)]at e2
    obtain⟨u',r',q⟩:=hl j y v' e1 e2 e3
    refine⟨u',r',?_⟩
    rcases q with⟨k,e⟩ | ⟨k,c,e,z⟩
    ·refine .inl ⟨k,?_⟩
     have:y≠x:=λe=>hj (EX hN e1 (e ▸ hi))
     simp[this,e]
    ·exact .inr ⟨k,c,e,z.sameBut hs (kn y c e)⟩
  ·obtain⟨w',z⟩:=I.cell y c e
   exact⟨w',z.sameBut hs (kn y c e)⟩
  ·obtain⟨e,n,ne,nf,d⟩:=I.pin p hp
   exact⟨(hs.2 p.1 ne).trans e,n,ne,nf,d⟩
 ·have xD:X.fn x=true:=by
   rcases hf with z | z
   ·exact z
   ·rw[z]at hk;cases hk
  obtain⟨c,hc⟩:=I.ok.has x (.inl hk)
  obtain⟨w',z⟩:=I.cell x c hc
  refine wpAny_storeName_cell I.ok.kind hk hc z (λh' xE hs=>?_)
  obtain⟨oc,je,WK⟩:=id z
  refine h { s with heap:=h' } ⟨I.ok,I.os,I.bare,⟨λb o e n hb hx=>?_,λb o e n hb hx=>?_,I.base.free,λb o e hx=>?_,I.base.iK,I.base.g8,I.base.gE⟩,⟨m,hn.sameBut hs (fi (kn x c hc)),λj y v' e1 e2 e3=>?_⟩,λy c' e=>?_,I.free,I.fZ,λp hp=>?_,tracked ⟨oc,je,I.fZ x c hc⟩ hs,by simpa using I.len⟩ ⟨c,hs,.inr hc⟩
  ·exact(hs.2 b (eT (cK (bG e) (I.ok.nu x c xD hc)))).trans (I.base.keep b o e n hb hx)
  ·obtain⟨sl,e1⟩:=I.base.slot b o e n hb hx
   exact⟨sl,(hs.2 b (eT (cK (bG e) (I.ok.nu x c xD hc)))).trans e1⟩
  ·obtain⟨o',e1⟩:=I.base.there b o e hx
   exact⟨o',(hs.2 b (eT (cK (bG e) (I.ok.nu x c xD hc)))).trans e1⟩
  ·by_cases hj:j=i
   ·subst hj
    rw[hi]at e1;cases e1
    rw[Al Mr]at e2
    cases e2
    exact⟨u,r,.inr ⟨.inl hk,c,hc,xE⟩⟩
   ·rw[qK (fi hj)]at e2
    obtain⟨u',r',q⟩:=hl j y v' e1 e2 e3
    refine⟨u',r',?_⟩
    rcases q with q | ⟨k,c',e,z'⟩
    ·exact .inl q
    ·refine .inr ⟨k,c',e,z'.sameBut hs ?_⟩
     rintro rfl
     exact hj (EX hN e1 (I.ok.inj _ _ _ e hc ▸ hi))
  ·by_cases Mu:c'=c
   ·subst Mu;exact⟨_,xE⟩
   ·obtain⟨w2,z2⟩:=I.cell y c' e
    exact⟨w2,z2.sameBut hs Mu⟩
  ·obtain⟨e,n,ne,nf,d⟩:=I.pin p hp
   refine⟨(hs.2 p.1 ?_).trans e,n,ne,nf,d⟩
   intro q
   rw[q,je]at e
   have q':oc=p.2:=cT e
   exact d w' (by rw[<-q'];exact WK)
theorem AZ{M:Model}{A:Around}{E:Value->Shared->Prop}{i:Nat}{x:Str}{v:V}{u:Value}{Q:Unit->Shared->Prop}(I:Inv X pins σ H s)(hN:X.N.Nodup)(hi:X.N[i]?=some x)(hx:Loc X.env.scope x)(r:RelV v u)
  (h:∀s',Inv X pins (σ.set i (some v)) H s'->Q () s') (hf:X.fn x=true\/X.env.scope.names.lookup x=some .local:=by first | exact .inl rfl | exact .inr rfl | assumption):wpAny M A (storeName X.env x u) Q E s :=
 WI I hN hi hx r (λs' I' _=>h s' I') hf
theorem Inv.Mv{s':Shared}{ch:List Addr}(I:Inv X pins σ H s)(ho:s'.os=s.os)(u:Un (dW X.stack) ch H H' s.heap s'.heap)(aE:cQ X.prog X.w H' s'.heap)(hg:AllBare s'.gens)
  (mD:∀b∈ch,(b∈X.ex\/X.cJ.heap.objs.size<=b)/\b≠X.env.locals/\(∀x c,X.env.cells.lookup x=some c->c≠b)/\∀p∈X.pn++pins,p.1≠b):Inv X pins σ H' s':=by
 obtain⟨h',g',d',t',o'⟩:=s'
 have e:o'=s.os:=ho
 subst e
 exact I.call (g':=g') (t':=t') (d':=d') u aE hg mD
end
noncomputable abbrev XK:=Value->Option Addr->Hp->Prop
noncomputable abbrev St:=List (Option V)
noncomputable abbrev VK:=V->Hp->Prop
noncomputable abbrev TE:=St->Hp->VK->Prop
noncomputable abbrev TT:=St->Hp->(Bool->Hp->Prop)->Prop
noncomputable abbrev TA:=St->Hp->(List V->Hp->Prop)->Prop
structure Ends where
 nx:St->Hp->Prop
 rt:VK
 bk:St->Hp->Prop:=λ_ _=>False
 ct:St->Hp->Prop:=λ_ _=>False
noncomputable abbrev TS:=Ends->St->Hp->Prop
noncomputable def EP(X:Cx)(pins:List (Addr × Obj))(σ:St)(Q:VK)(u:Value)(s':Shared):Prop:=∃v H',Inv X pins σ H' s'/\RelV v u/\Q v H'
noncomputable def TP(X:Cx)(pins:List (Addr × Obj))(σ:St)(Q:Bool->Hp->Prop)(b:Bool)(s':Shared):Prop:=∃H',Inv X pins σ H' s'/\Q b H'
noncomputable def AP(X:Cx)(pins:List (Addr × Obj))(σ:St)(Q:List V->Hp->Prop)(us:List Value)(s':Shared):Prop:=∃vs H',Inv X pins σ H' s'/\Vals vs us/\Q vs H'
noncomputable def SP(X:Cx)(pins:List (Addr × Obj))(D:Ends)(f:Flow)(s':Shared):Prop :=
 match f with
 | .next=>∃aC H',Inv X pins aC H' s'/\D.nx aC H'
 | .brk=>∃aC H',Inv X pins aC H' s'/\D.bk aC H'
 | .cont=>∃aC H',Inv X pins aC H' s'/\D.ct aC H'
 | .ret u=>∃v aC H',Inv X pins aC H' s'/\RelV v u/\D.rt v H'
noncomputable def PE(X:Cx)(e:Expr)(t:TE):Prop :=
 ∀(pins:List (Addr × Obj)) (s:Shared) (σ:St) (H:Hp) (Q:VK),Inv X pins σ H s->t σ H Q->wpAny (model X.prog X.w) X.A (eval e X.env) (EP X pins σ Q) X.xe s
noncomputable def PT(X:Cx)(e:Expr)(t:TT):Prop :=
 ∀(pins:List (Addr × Obj)) (s:Shared) (σ:St) (H:Hp) (Q:Bool->Hp->Prop),Inv X pins σ H s->t σ H Q->wpAny (model X.prog X.w) X.A (isTrue e X.env (eval e X.env)) (TP X pins σ Q) X.xe s
noncomputable def PW(X:Cx)(e:Expr)(t:TT):Prop :=
 ∀(whole:Sem Value) (pins:List (Addr × Obj)) (s:Shared) (σ:St) (H:Hp) (Q:Bool->Hp->Prop),Inv X pins σ H s->t σ H Q->wpAny (model X.prog X.w) X.A (isTrue e X.env whole) (TP X pins σ Q) X.xe s
theorem PW.pt{X:Cx}{e:Expr}{t:TT}(h:PW X e t):PT X e t:=h _
noncomputable def PA(X:Cx)(es:List Expr)(t:TA):Prop :=
 ∀(pos:Pos) (pins:List (Addr × Obj)) (s:Shared) (σ:St) (H:Hp) (Q:List V->Hp->Prop),Inv X pins σ H s->t σ H Q->wpAny (model X.prog X.w) X.A (spliced (backTo pos (starEach es X.env))) (AP X pins σ Q) X.xe s
noncomputable def PS(X:Cx)(st:Stmt)(t:TS):Prop :=
 ∀(pins:List (Addr × Obj)) (s:Shared) (σ:St) (H:Hp) (D:Ends),Inv X pins σ H s->t D σ H->wpAny (model X.prog X.w) X.A (exec st X.env) (SP X pins D) X.xe s
noncomputable def PSs(X:Cx)(st:List Stmt)(t:TS):Prop :=
 ∀(pins:List (Addr × Obj)) (s:Shared) (σ:St) (H:Hp) (D:Ends),Inv X pins σ H s->t D σ H->wpAny (model X.prog X.w) X.A (execs st X.env) (SP X pins D) X.xe s
theorem aN{α:Type}{t:Sem α}{Q Q':α->Shared->Prop}{M:Model}{A:Around}{E:Value->Shared->Prop}{s:Shared}(h:wpAny M A t Q E s)(hQ:∀a s,Q a s->Q' a s):wpAny M A t Q' E s:=wpAny_mono h hQ λ_ _ x=>x
end L2
namespace L2
open PySem PySem.Spec PyProof.Rows
section
variable{X:Cx}
noncomputable def Mw(i:Nat):TE:=λσ H Q=>∃v,σ[i]?=some (some v)/\Q v H
noncomputable def tC(v:V):TE:=λ_ H Q=>Q v H
theorem pH{i:Nat}{x:Str}{pos:Pos}(hN:X.N[i]?=some x)(hv:lh X.env.scope x)(hd:(x==("__debug__":Str))=false:=by decide)(cM:(x==("__classdict__":Str))=false:=by decide):PE X (.Name x pos) (Mw i):=by
 intro pins s σ H Q I h
 obtain⟨v,e,h⟩:=h
 obtain⟨m,hn,hl⟩:=I.loc
 obtain⟨u,r,l⟩:=hl i x v hN e hv
 have fin:EP X pins σ Q u s:=⟨v,H,I,r,h⟩
 rcases l with⟨hk,hm⟩ | ⟨hk,c,hc,A6⟩
 ·exact wpAny_Name (wpAny_loadName_local I.ok.kind hk hn hm fin) hd
 ·rcases hk with hk | hk
  ·exact wpAny_Name (wpAny_loadName_cell I.ok.kind hk hc A6 fin) hd
  ·exact wpAny_Name (wpAny_loadName_free I.ok.kind hk hc A6 fin cM) hd
theorem pI{i j pos}:PE X (.Constant (.int i) j pos) (tC (.int i)):=λ_ _ _ H _ I h=>wpAny_Constant_int ⟨.int i,H,I.tok _,⟨_,rfl⟩,h⟩
theorem WL{b j pos}:PE X (.Constant (.bool b) j pos) (tC (.bl b)):=λ_ _ _ H _ I h=>Constant_bool ⟨.bl b,H,I,rfl,h⟩
theorem WM{j pos}:PE X (.Constant .none j pos) (tC .aq):=λ_ _ _ H _ I h=>Constant_none ⟨.aq,H,I,rfl,h⟩
theorem WN{x j pos}:PE X (.Constant (.str x) j pos) (tC (.str x)):=λ_ _ _ H _ I h=>Calls.Constant_str ⟨.str x,H,I.tok _,⟨_,rfl⟩,h⟩
noncomputable def Gl(X:Cx)(x:Str):Prop:=X.env.kindOf x=some .globalImplicit
theorem qY{E:Value->Shared->Prop}{pins:List (Addr × Obj)}{s:Shared}{σ:St}{H:Hp}{x:Str}{u:Value}{pos:Pos}{Q:Value->Shared->Prop}(I:Inv X pins σ H s)(hg:Gl X x)(hm:X.mg x=some u)(h:Q u s)
  (hd:(x==("__debug__":Str))=false:=by decide):wpAny (model X.prog X.w) X.A (eval (.Name x pos) X.env) Q E s :=
 VX I.ok.kind hg (Calls.loadGlobal_global (by rw[I.ok.glob];exact I.mod.glob.keeps I.bk) hm h) hd
theorem qZ{E:Value->Shared->Prop}{pins:List (Addr × Obj)}{s:Shared}{σ:St}{H:Hp}{x:Str}{u:Value}{pos:Pos}{Q:Value->Shared->Prop}(I:Inv X pins σ H s)(hg:Gl X x)(hm:X.mg x=none)(hv:bootBuiltins x=some u)(h:Q u s)
  (hn:x≠"__name__":=by decide) (hd:(x==("__debug__":Str))=false:=by decide):wpAny (model X.prog X.w) X.A (eval (.Name x pos) X.env) Q E s:=by
 obtain⟨mb,h1,h2⟩:=I.mod.blt
 exact VX I.ok.kind hg (Calls.loadGlobal_builtin (by rw[I.ok.glob];exact I.mod.glob.keeps I.bk) hm (by rw[I.ok.blt];exact h1.keeps I.bk) ((h2 x hn).trans hv) h) hd
theorem Mx{x:Str}{v:V}{u:Value}{pos:Pos}(hg:Gl X x)(hm:X.mg x=some u)(r:RelV v u)(hd:(x==("__debug__":Str))=false:=by decide):PE X (.Name x pos) (tC v) :=
 λ_ _ _ H _ I h=>qY I hg hm ⟨v,H,I,r,h⟩ hd
theorem WO{x:Str}{v:V}{u:Value}{pos:Pos}(hg:Gl X x)(hm:X.mg x=none)(hv:bootBuiltins x=some u)(r:RelV v u)(hn:x≠"__name__":=by decide)(hd:(x==("__debug__":Str))=false:=by decide):PE X (.Name x pos) (tC v) :=
 λ_ _ _ H _ I h=>qZ I hg hm hv ⟨v,H,I,r,h⟩ hn hd
variable{a b:Expr}{ta tb:TE}{pos:Pos}
noncomputable def tB(t:TE):TT:=λσ H Q=>t σ H λx H1=>∃c,x=.bl c/\Q c H1
theorem A8{e:Expr}{t:TE}(h:PE X e t)(he:∀whole,isTrue e X.env whole=(do let v<-whole;standAt e.pos;holding [v] (truthy v)):=by intro _;rfl):PT X e (tB t):=by
 intro pins s σ H Q I hw
 refine isTrue_plain (aN (h pins s σ H _ I hw) λv s1 ⟨x,H1,I1,r1,q1⟩=>?_) (he _)
 obtain⟨d,rfl,q⟩:=q1
 cases r1
 exact wpAny_truthy_bool ⟨H1,I1,q⟩
variable{tA Ba:TT}{rest:List Expr}
noncomputable def WQ(t u:TT):TT:=λσ H Q=>t σ H λc H1=>if c=true then u σ H1 Q else Q false H1
noncomputable def WR(t u:TT):TT:=λσ H Q=>t σ H λc H1=>if c=true then Q true H1 else u σ H1 Q
noncomputable def WS(t:TT):TT:=λσ H Q=>t σ H λc H1=>Q (!c) H1
theorem Mz(ha:PT X a tA):PW X (.BoolOp .And [a] pos) tA:=by
 intro wh pins s σ H Q I h
 refine isTrue_and (aN (ha pins s σ H Q I h) λc s1 e=>?_)
 cases c with
 | true=>exact isTrue_and_nil e
 | false=>exact e
theorem Bb(ha:PT X a tA):PW X (.BoolOp .Or [a] pos) tA:=by
 intro wh pins s σ H Q I h
 refine isTrue_or (aN (ha pins s σ H Q I h) λc s1 e=>?_)
 cases c with
 | false=>exact isTrue_or_nil e
 | true=>exact e
theorem WT(ha:PT X a tA)(hb:PW X (.BoolOp .And (b::rest) pos) Ba):PW X (.BoolOp .And (a::b::rest) pos) (WQ tA Ba):=by
 intro wh pins s σ H Q I h
 refine isTrue_and (aN (ha pins s σ H _ I h) λc s1 ⟨H1,I1,q1⟩=>?_)
 cases c with
 | true=>exact hb wh pins s1 σ H1 Q I1 q1
 | false=>exact⟨H1,I1,q1⟩
theorem MA(ha:PT X a tA)(hb:PW X (.BoolOp .Or (b::rest) pos) Ba):PW X (.BoolOp .Or (a::b::rest) pos) (WR tA Ba):=by
 intro wh pins s σ H Q I h
 refine isTrue_or (aN (ha pins s σ H _ I h) λc s1 ⟨H1,I1,q1⟩=>?_)
 cases c with
 | true=>exact⟨H1,I1,q1⟩
 | false=>exact hb wh pins s1 σ H1 Q I1 q1
theorem Bc(ha:PT X a tA):PT X (.UnaryOp .Not a pos) (WS tA):=by
 intro pins s σ H Q I h
 exact isTrue_not (ha pins s σ H (λc H1=>Q (!c) H1) I h)
noncomputable def WU(ta tb:TE):TE:=λσ H Q=>ta σ H λx H1=>∃c,x=.bl c/\if c=true then tb σ H1 Q else Q (.bl false) H1
noncomputable def WV(ta:TE):TE:=λσ H Q=>ta σ H λx H1=>∃c,x=.bl c/\Q (.bl (!c)) H1
theorem xF{op}{t:TE}(h:PE X a t):PE X (.BoolOp op [a] pos) t:=λpins s σ H Q I hw=>BoolOp_one (h pins s σ H Q I hw)
theorem WW(ha:PE X a ta)(hb:PE X (.BoolOp .And (b::rest) pos) tb):PE X (.BoolOp .And (a::b::rest) pos) (WU ta tb):=by
 intro pins s σ H Q I h
 refine BoolOp_and (aN (ha pins s σ H _ I h) λv s1 ⟨x,H1,I1,r1,q1⟩=>?_)
 obtain⟨c,rfl,q1⟩:=q1
 cases r1
 refine wpAny_truthy_bool ?_
 cases c with
 | true=>exact hb pins s1 σ H1 Q I1 q1
 | false=>exact⟨.bl false,H1,I1,rfl,q1⟩
theorem WX(ha:PE X a ta):PE X (.UnaryOp .Not a pos) (WV ta):=by
 intro pins s σ H Q I h
 refine UnaryOp_ (aN (ha pins s σ H _ I h) λv s1 ⟨x,H1,I1,r1,q1⟩=>?_)
 obtain⟨c,rfl,q1⟩:=q1
 cases r1
 exact not_of (wpAny_truthy_bool ⟨.bl (!c),H1,I1,rfl,q1⟩)
noncomputable def WY(t:TT)(ta tb:TE):TE:=λσ H Q=>t σ H λc H1=>if c=true then ta σ H1 Q else tb σ H1 Q
theorem WZ{c:Expr}(hc:PT X c tA)(ha:PE X a ta)(hb:PE X b tb):PE X (.IfExp c a b pos) (WY tA ta tb):=by
 intro pins s σ H Q I h
 refine wpAny_IfExp (aN (hc pins s σ H _ I h) λd s1 ⟨H1,I1,q1⟩=>?_)
 cases d with
 | true=>exact ha pins s1 σ H1 Q I1 q1
 | false=>exact hb pins s1 σ H1 Q I1 q1
end
end L2
namespace L2
open PySem PySem.Spec PyProof.Rows
noncomputable def bF(K:PySem.W.Frag)(H:Hp)(a:Addr)(xs:List V):Prop :=
 Rd H a (.lst xs) \/
  ∃(o:Obj) (its:Array Value) (n:Nat),K.lookup a=some o/\o.cls=.type "list"/\o.dict=none/\o.data=.seq its n/\its.size<=sizeLine/\Vals xs its.toList
noncomputable def g9(K:PySem.W.Frag)(H:Hp)(a:Addr)(xs:List V):Prop :=
 Rd H a (.tup xs) \/
  ∃(o:Obj) (its:Array Value) (n:Nat),K.lookup a=some o/\o.cls=.type "tuple"/\o.data=.seq its n/\its.size<=sizeLine/\Vals xs its.toList
noncomputable def W0:Value->Option V
 | .none=>some .aq
 | .bool b=>some (.bl b)
 | .int i _=>some (.int i)
 | .str x _=>some (.str x)
 | .bytes b _=>some (.AV b)
 | .float b _=>some (.qU b)
 | .ref a=>some (.ref a)
 | .type n=>some (.ty n)
 | _=>none
theorem RelV.abs{x:V}{u:Value}(r:RelV x u):W0 u=some x:=by
 cases x with
 | aq=>cases r;rfl
 | bl _=>cases r;rfl
 | int _=>obtain⟨t,rfl⟩:=r;rfl
 | str _=>obtain⟨t,rfl⟩:=r;rfl
 | AV _=>obtain⟨t,rfl⟩:=r;rfl
 | qU _=>obtain⟨t,rfl⟩:=r;rfl
 | ref _=>cases r;rfl
 | ty _=>cases r;rfl
theorem RelV.inj{x y:V}{u:Value}(r:RelV x u)(q:RelV y u):x=y:=cT (r.abs.symm.trans q.abs)
theorem Vals.inj:∀{xs ys:List V} {us:List Value},Vals xs us->Vals ys us->xs=ys
 | _,_,_,.nil,.nil=>rfl
 | _,_,_,.cons r t,.cons r' t'=>by rw[r.inj r',Vals.inj t t']
section
variable{X:Cx}{pins:List (Addr × Obj)}{σ:St}{H:Hp}{s:Shared}{a:Addr}{xs ys:List V}
theorem bF.of{K:PySem.W.Frag}(h:H a=some (.lst xs)):bF K H a xs:=.inl (.inl h)
theorem g9.of{K:PySem.W.Frag}(h:H a=some (.tup xs)):g9 K H a xs:=.inl (.inl h)
theorem Inv.list(I:Inv X pins σ H s)(h:bF X.K H a xs):∃its:List Value,Vals xs its/\PlainL s.heap a its.toArray/\xs.length<=sizeLine:=by
 rcases h with h | ⟨o,its,n,hk,hc,hd,hs,hz,r⟩
 ·obtain⟨z,its,n,r,e⟩:=h.ok I.aE
  exact⟨its,r,⟨_,n,e,rfl,rfl,rfl⟩,z⟩
 ·refine⟨its.toList,r,⟨o,n,I.cR a o hk,hc,hd,by simpa using hs⟩,?_⟩
  have e:=r.length
  simp only[xg]at e
  omega
theorem Inv.tuple(I:Inv X pins σ H s)(h:g9 X.K H a xs):∃its:List Value,Vals xs its/\IsTup s.heap a its.toArray/\xs.length<=sizeLine:=by
 rcases h with h | ⟨o,its,n,hk,hc,hs,hz,r⟩
 ·obtain⟨z,its,r,p⟩:=h.ok I.aE
  exact⟨its,r,p,z⟩
 ·refine⟨its.toList,r,⟨o,I.cR a o hk,hc,n,by simpa using hs⟩,?_⟩
  have e:=r.length
  simp only[xg]at e
  omega
theorem Inv.Bd(I:Inv X pins σ H s)(h:bF X.K H a xs)(h':bF X.K H a ys):xs=ys:=by
 obtain⟨its,r,⟨o,n,e,_,_,d⟩,_⟩:=I.list h
 obtain⟨its',r',⟨o',n',e',_,_,d'⟩,_⟩:=I.list h'
 rw[e]at e';cases e'
 rw[d]at d'
 injection d' with d1 _
 have:its=its':=by simpa using congrArg Array.toList d1
 subst this
 exact r.inj r'
end
noncomputable abbrev Cx.kq(X:Cx)(E:Value->Shared->Prop):Cx:={ X with xe:=E }
noncomputable abbrev Cx.gK(X:Cx):Cx:=X.kq λ_ _=>False
theorem Cx.Ok.kq{X:Cx}(ok:X.Ok)(E:Value->Shared->Prop):(X.kq E).Ok :=
 ⟨ok.mod,ok.kind,ok.glob,ok.blt,ok.above,ok.inj,ok.has,ok.nu,ok.hd,ok.frames,ok.qW,ok.qX,ok.bs,ok.i9,ok.pB,ok.pE,ok.gn,ok.jc⟩
theorem Cx.Ok.mE{X:Cx}{E:Value->Shared->Prop}(ok:(X.kq E).Ok):X.Ok :=
 ⟨ok.mod,ok.kind,ok.glob,ok.blt,ok.above,ok.inj,ok.has,ok.nu,ok.hd,ok.frames,ok.qW,ok.qX,ok.bs,ok.i9,ok.pB,ok.pE,ok.gn,ok.jc⟩
section
variable{X:Cx}{pins:List (Addr × Obj)}{σ:St}{H:Hp}{s:Shared}{E:Value->Shared->Prop}
theorem Inv.kq(I:Inv X pins σ H s)(E:Value->Shared->Prop):Inv (X.kq E) pins σ H s:=⟨I.ok.kq E,I.os,I.bare,I.base,I.loc,I.cell,I.free,I.fZ,I.pin,I.aE,I.len⟩
theorem Inv.mE(I:Inv (X.kq E) pins σ H s):Inv X pins σ H s:=⟨I.ok.mE,I.os,I.bare,I.base,I.loc,I.cell,I.free,I.fZ,I.pin,I.aE,I.len⟩
theorem SP.mE{D:Ends}{f:Flow}{s':Shared}(h:SP (X.kq E) pins D f s'):SP X pins D f s':=by
 cases f with
 | next=>obtain⟨aC,H',I,q⟩:=h;exact⟨aC,H',I.mE,q⟩
 | brk=>obtain⟨aC,H',I,q⟩:=h;exact⟨aC,H',I.mE,q⟩
 | cont=>obtain⟨aC,H',I,q⟩:=h;exact⟨aC,H',I.mE,q⟩
 | ret u=>obtain⟨v,aC,H',I,r,q⟩:=h;exact⟨v,aC,H',I.mE,r,q⟩
theorem PE.gK{e:Expr}{t:TE}(h:PE X.gK e t):PE X e t:=λpins s σ H Q I hw =>
 wpAny_mono (h pins s σ H Q (I.kq _) hw) (λ_ _ ⟨v,H',I',r,q⟩=>⟨v,H',I'.mE,r,q⟩) λ_ _ z=>fj z
theorem PSs.gK{st:List Stmt}{t:TS}(h:PSs X.gK st t):PSs X st t:=λpins s σ H D I hw =>
 wpAny_mono (h pins s σ H D (I.kq _) hw) (λ_ _ q=>q.mE) λ_ _ z=>fj z
end
section
variable{X:Cx}{st:Stmt}{rest:List Stmt}{t u:TS}{e:Expr}{te:TE}{pos:Pos}
noncomputable def W2:TS:=λD σ H=>D.nx σ H
noncomputable def W3(t u:TS):TS:=λD σ H=>t { D with nx:=u D } σ H
theorem q0:PSs X [] W2:=λ_ _ σ H _ I h=>wpAny_execs_nil ⟨σ,H,I,h⟩
theorem fK(h1:PS X st t)(h2:PSs X rest u):PSs X (st::rest) (W3 t u):=by
 intro pins s σ H D I h
 refine wpAny_execs_cons (aN (h1 pins s σ H { D with nx:=u D } I h) λf s1 q=>?_)
 cases f with
 | next =>
  obtain⟨aC,H',I',q⟩:=q
  exact h2 pins s1 aC H' D I' q
 | ret v=>exact q
 | brk=>exact q
 | cont=>exact q
theorem kr(h1:PS X st t):PSs X [st] t:=by
 intro pins s σ H D I h
 refine wpAny_execs_cons (aN (h1 pins s σ H D I h) λf s1 q=>?_)
 cases f with
 | next=>exact wpAny_execs_nil q
 | ret v=>exact q
 | brk=>exact q
 | cont=>exact q
theorem Inv.quiet{pins:List (Addr × Obj)}{σ:St}{H:Hp}{s:Shared}(I:Inv X pins σ H s):interactive X.env=false:=by simp[interactive,I.ok.kind]
noncomputable def W4(te:TE):TS:=λD σ H=>te σ H λ_ H1=>D.nx σ H1
theorem uj(he:PE X e te)(hs:swapsWith e none pos.line X.env=pure false:=by rfl):PS X (.Expr e pos) (W4 te):=by
 intro pins s σ H D I h
 exact wpAny_Expr_any (aN (he pins s σ H _ I h) λv s1 ⟨x,H1,I1,r1,q1⟩=>⟨σ,H1,I1,q1⟩) I.quiet hs
noncomputable def W5(te:TE):TS:=λD σ H=>te σ H D.rt
theorem W6(he:PE X e te):PS X (.Return (some e) pos) (W5 te):=by
 intro pins s σ H D I h
 exact wpAny_Return_some (aN (he pins s σ H _ I h) λv s1 ⟨x,H1,I1,r1,q1⟩=>⟨x,σ,H1,I1,r1,q1⟩)
noncomputable def W7(c:TT)(t u:TS):TS:=λD σ H=>c σ H λb H1=>if b=true then t D σ H1 else u D σ H1
theorem uk{c:Expr}{a b:List Stmt}{tc:TT}(hc:PT X c tc)(ha:PSs X a t)(hb:PSs X b u):PS X (.If c a b pos) (W7 tc t u):=by
 intro pins s σ H D I h
 refine wpAny_If (aN (hc pins s σ H _ I h) λd s1 ⟨H1,I1,q1⟩=>?_)
 cases d with
 | true=>exact ha pins s1 σ H1 D I1 q1
 | false=>exact hb pins s1 σ H1 D I1 q1
noncomputable def W8:TS:=λ_ _ _=>False
theorem xG:PS X st W8:=λ_ _ _ _ _ _ h=>h.elim
end
noncomputable abbrev TG:=V->St->Hp->(St->Hp->Prop)->Prop
noncomputable abbrev q8:=List V->St->Hp->(St->Hp->Prop)->Prop
noncomputable def PG(X:Cx)(target:Expr)(t:TG):Prop :=
 ∀(pins:List (Addr × Obj)) (s:Shared) (σ:St) (H:Hp) (v:V) (u:Value) (Q:St->Hp->Prop),Inv X pins σ H s->RelV v u->t v σ H Q ->
  wpAny (model X.prog X.w) X.A (assign target X.env u) (λ_ s'=>∃aC H',Inv X pins aC H' s'/\Q aC H') X.xe s
noncomputable def Be(X:Cx)(ts:List Expr)(t:q8):Prop :=
 ∀(pins:List (Addr × Obj)) (s:Shared) (σ:St) (H:Hp) (vs:List V) (us:List Value) (Q:St->Hp->Prop),Inv X pins σ H s->Vals vs us->t vs σ H Q ->
  wpAny (model X.prog X.w) X.A (assignInOrder ((assignEach ts X.env).map (·.2)) us) (λ_ s'=>∃aC H',Inv X pins aC H' s'/\Q aC H') X.xe s
noncomputable abbrev xH:=V->V->V->Hp->(Hp->Prop)->Prop
noncomputable def EZ(X:Cx)(t:xH):Prop :=
 ∀(pins:List (Addr × Obj)) (s:Shared) (σ:St) (H:Hp) (o i v:V) (ov iv u:Value) (Q:Hp->Prop),Inv X pins σ H s->RelV o ov->RelV i iv->RelV v u->t o i v H Q ->
  wpAny (model X.prog X.w) X.A (setItem ov iv u) (λ_ s'=>∃H',Inv X pins σ H' s'/\Q H') X.xe s
noncomputable abbrev um:=V->V->Hp->VK->Prop
noncomputable def E1(X:Cx)(op:Operator)(t:um):Prop :=
 ∀(pins:List (Addr × Obj)) (s:Shared) (σ:St) (H:Hp) (x y:V) (v u:Value) (Q:VK),Inv X pins σ H s->RelV x v->RelV y u->t x y H Q ->
  wpAny (model X.prog X.w) X.A (inplaceOp op v u) (EP X pins σ Q) X.xe s
section
variable{X:Cx}{pos:Pos}
noncomputable def Bf(i:Nat):TG:=λv σ H Q=>Q (σ.set i (some v)) H
theorem Bg{i:Nat}{x:Str}(hN:X.N.Nodup)(hi:X.N[i]?=some x)(hx:Loc X.env.scope x)(hf:X.fn x=true\/X.env.scope.names.lookup x=some .local:=by first | exact .inl rfl | exact .inr rfl | assumption):PG X (.Name x pos) (Bf i):=by
 intro pins s σ H v u Q I r h
 exact wpAny_assign_Name (AZ I hN hi hx r (λs' I'=>⟨_,H,I',h⟩) hf)
noncomputable def W9:q8:=λvs σ H Q=>vs=[]/\Q σ H
noncomputable def Xa(t:TG)(u:q8):q8:=λvs σ H Q=>∃v r,vs=v::r/\t v σ H λaC H'=>u r aC H' Q
theorem Xb:Be X [] W9:=by
 intro pins s σ H vs us Q I r h
 obtain⟨e,h⟩:=h
 subst e
 cases r
 exact assignInOrder_nil ⟨σ,H,I,h⟩
theorem MB{e:Expr}{es:List Expr}{t:TG}{u:q8}(h1:PG X e t)(h2:Be X es u)
  (hs:(assignEach (e::es) X.env).map (·.2)=assign e X.env::(assignEach es X.env).map (·.2):=by rfl):Be X (e::es) (Xa t u):=by
 intro pins s σ H vs us Q I r h
 obtain⟨v,vr,e1,h⟩:=h
 subst e1
 cases r with
 | cons r rr =>
  rw[hs]
  refine assignInOrder_cons (aN (h1 pins s σ H _ _ _ I r h) λ_ s1 ⟨gL,H1,I1,q1⟩=>?_)
  exact h2 pins s1 gL H1 _ _ Q I1 rr q1
noncomputable def Xc(K:PySem.W.Frag)(n:Nat)(t:q8):TG:=λv σ H Q=>∃a xs,v=.ref a/\g9 K H a xs/\xs.length=n/\t xs σ H Q
theorem Xd{es:List Expr}{k:Nat}{t:q8}{n:Nat}(hc:X.calm=true)(h:Be X es t)
  (hn:(assignEach es X.env).length=n:=by rfl) (cu:(assignEach es X.env).findIdx? (·.1)=none:=by rfl):PG X (.Tuple es k pos) (Xc X.K n t):=by
 intro pins s σ H v u Q I r hw
 obtain⟨a,xs,e1,hq,hl,hw⟩:=hw
 subst e1
 cases r
 obtain⟨its,rv,ht,hz⟩:=I.tuple hq
 refine assign_Tuple_tuple (I.ok.hd hc) ht (by simp[hn,<- hl,rv.length]) cu λh' hx=>?_
 have I1:Inv X pins σ H { s with heap:=h' }:=I.kept (t':=s.toks) λb o e=>hx b o (eT (bG e)) e
 exact h pins _ σ H xs _ Q I1 (by simpa using rv) hw
noncomputable def Xe(to ti:TE)(t:xH):TG:=λv σ H Q=>to σ H λo H1=>ti σ H1 λi H2=>t o i v H2 λH3=>Q σ H3
theorem Xf{o i:Expr}{to ti:TE}{t:xH}(ho:PE X o to)(hi:PE X i ti)(hs:EZ X t)
  (ha:∀v,assign (.Subscript o i pos) X.env v=(do
   let ov<-holding [v] (eval o X.env)
   let iv<-holding [v,ov] (eval i X.env)
   standAt pos
   holding [v,ov,iv] (setItem ov iv v)
   release [v,ov,iv] []):=by intro _;rfl):PG X (.Subscript o i pos) (Xe to ti t):=by
 intro pins s σ H v u Q I r h
 rw[ha]
 refine wpAny_bind (wpAny_holding (aN (ho pins s σ H _ I h) λov s1 ⟨x,H1,I1,r1,q1⟩=>?_))
 refine wpAny_bind (wpAny_holding (aN (hi pins s1 σ H1 _ I1 q1) λiv s2 ⟨y,H2,I2,r2,q2⟩=>?_))
 refine wpAny_bind (wpAny_standAt (wpAny_bind (wpAny_holding (aN (hs pins s2 σ H2 x y v ov iv u _ I2 r1 r2 r q2) λ_ s3 ⟨H3,I3,q3⟩=>?_))))
 exact wpAny_release ⟨σ,H3,I3,q3⟩
noncomputable def E2(te:TE)(g:TG):TS:=λD σ H=>te σ H λx H1=>g x σ H1 D.nx
theorem Xg{tg e:Expr}{te:TE}{g:TG}(he:PE X e te)(hg:PG X tg g)(hs:swapsWithSole [tg] e pos.line X.env=pure false:=by rfl)(hw:swappedStores [tg] e X.env=pure none:=by rfl)
  (h1:(assignEach [tg] X.env).map (·.2)=[assign tg X.env]:=by rfl):PS X (.Assign [tg] e pos) (E2 te g):=by
 intro pins s σ H D I h
 refine wpAny_Assign_stores (aN (he pins s σ H _ I h) λv s1 ⟨x,H1,I1,r1,q1⟩=>?_) hs hw
 rw[h1]
 exact aN (hg pins s1 σ H1 x v _ I1 r1 q1) λ_ s2 q=>q
theorem E3{i:Nat}{x:Str}{e:Expr}{te:TE}{pos':Pos}(hN:X.N.Nodup)(hi:X.N[i]?=some x)(hx:Loc X.env.scope x)(he:PE X e te)(hs:swapsWith e (some (.Name x pos')) pos.line X.env=pure false:=by rfl)(hf:X.fn x=true\/X.env.scope.names.lookup x=some .local:=by first | exact .inl rfl | exact .inr rfl | assumption) :
  PS X (.Assign [.Name x pos'] e pos) (E2 te (Bf i)):=by
 intro pins s σ H D I h
 refine wpAny_Assign_Name (aN (he pins s σ H _ I h) λv s1 ⟨y,H1,I1,r1,q1⟩=>?_) hs
 exact AZ I1 hN hi hx r1 (λs2 I2=>⟨_,H1,I2,q1⟩) hf
noncomputable def Xh(i:Nat)(te:TE)(ti:um):TS:=λD σ H=>∃x,σ[i]?=some (some x)/\te σ H λy H1=>ti x y H1 λz H2=>D.nx (σ.set i (some z)) H2
theorem Xi{i:Nat}{x:Str}{e:Expr}{te:TE}{op:Operator}{ti:um}{pos':Pos}(hN:X.N.Nodup)(hi:X.N[i]?=some x)(hx:Loc X.env.scope x)(he:PE X e te)(ho:E1 X op ti)(hf:X.fn x=true\/X.env.scope.names.lookup x=some .local:=by first | exact .inl rfl | exact .inr rfl | assumption) :
  PS X (.AugAssign (.Name x pos') op e pos) (Xh i te ti):=by
 intro pins s σ H D I h
 obtain⟨v,e1,h⟩:=h
 obtain⟨m,hn,hl⟩:=I.loc
 have Xj:lh X.env.scope x:=by rcases hx with k | k;exact .inl k;exact .inr (.inl k)
 obtain⟨u,r,l⟩:=hl i x v hi e1 Xj
 refine wpAny_AugAssign_Name ?_
 have go:wpAny (model X.prog X.w) X.A (eval e X.env) (λw jL=>wpAny (model X.prog X.w) X.A (inplaceOp op u w) (λr Xk=>wpAny (model X.prog X.w) X.A (storeName X.env x r) (λ_=>SP X pins D .next) X.xe Xk) X.xe jL) X.xe s:=by
  refine aN (he pins s σ H _ I h) λw s1 ⟨y,H1,I1,r1,q1⟩=>?_
  refine aN (ho pins s1 σ H1 v y u w _ I1 r r1 q1) λz s2 ⟨zv,H2,I2,r2,q2⟩=>?_
  exact AZ I2 hN hi hx r2 (λs3 I3=>⟨_,H2,I3,q2⟩) hf
 rcases l with⟨hk,hm⟩ | ⟨hk,c,hc,A6⟩
 ·exact wpAny_loadName_local I.ok.kind hk hn hm go
 ·rcases hk with hk | hk
  ·exact wpAny_loadName_cell I.ok.kind hk hc A6 go
  ·rcases hx with k | k
   ·have:X.env.scope.names.lookup x=some .free:=hk
    rw[k]at this;cases this
   ·have:X.env.scope.names.lookup x=some .free:=hk
    rw[k]at this;cases this
noncomputable def Xl(to ti te:TE)(Bh:V->V->Hp->VK->Prop)(Bi:um)(Bj:xH):TS:=λD σ H=>to σ H λo H1=>ti σ H1 λi H2=>Bh o i H2 λx H3=>te σ H3 λy H4=>Bi x y H4 λz H5=>Bj o i z H5 λH6=>D.nx σ H6
noncomputable def MC(X:Cx)(t:V->V->Hp->VK->Prop):Prop :=
 ∀(pins:List (Addr × Obj)) (s:Shared) (σ:St) (H:Hp) (o i:V) (ov iv:Value) (Q:VK),Inv X pins σ H s->RelV o ov->RelV i iv->t o i H Q ->
  wpAny (model X.prog X.w) X.A (getItem ov iv) (EP X pins σ Q) X.xe s
theorem Xm{o i e:Expr}{to ti te:TE}{Bh:V->V->Hp->VK->Prop}{Bi:um}{Bj:xH}{op:Operator}{ly:Pos}(ho:PE X o to)(hi:PE X i ti)(hg:MC X Bh)(he:PE X e te)(hp:E1 X op Bi)(hs:EZ X Bj)
  (ha:∀ov iv new,augStore i ov iv new=(do holding [new,ov,iv] (setItem ov iv new);release [new,ov,iv] [];pure .next):=by intros;rfl):PS X (.AugAssign (.Subscript o i ly) op e pos) (Xl to ti te Bh Bi Bj):=by
 intro pins s σ H D I h
 refine wpAny_AugAssign_SubscriptAny (aN (ho pins s σ H _ I h) λov s1 ⟨x1,H1,I1,r1,q1⟩=>?_) ha
 refine aN (hi pins s1 σ H1 _ I1 q1) λiv s2 ⟨x2,H2,I2,r2,q2⟩=>?_
 refine aN (hg pins s2 σ H2 x1 x2 ov iv _ I2 r1 r2 q2) λold s3 ⟨x3,H3,I3,r3,q3⟩=>?_
 refine aN (he pins s3 σ H3 _ I3 q3) λv s4 ⟨x4,H4,I4,r4,q4⟩=>?_
 refine aN (hp pins s4 σ H4 x3 x4 old v _ I4 r3 r4 q4) λnew s5 ⟨x5,H5,I5,r5,q5⟩=>?_
 exact aN (hs pins s5 σ H5 x1 x2 x5 ov iv new _ I5 r1 r2 r5 q5) λ_ s6 ⟨H6,I6,q6⟩=>⟨σ,H6,I6,q6⟩
noncomputable def Xn(f:Int->Int->Int):um:=λx y H Q=>∃i j,x=.int i/\y=.int j/\Q (.int (f i j)) H
theorem Xo:E1 X .Add (Xn λi j=>i+j):=by
 intro pins s σ H x y v u Q I r1 r2 h
 obtain⟨i,j,e1,e2,q⟩:=h
 subst e1;subst e2
 obtain⟨t,rfl⟩:=r1
 obtain⟨t',rfl⟩:=r2
 exact iadd_int ⟨.int _,H,I.tok _,⟨_,rfl⟩,q⟩
end
section
variable{X:Cx}{pos:Pos}
noncomputable def Xp(c:TT)(tb:TS):TS:=λD σ H=>∃W:Nat->St->Hp->Prop,(∃m,W m σ H)/\∀m σ H,W m σ H ->
 c σ H λb H1=>if b=true then ∃N:St->Hp->Prop,(∀aC H',N aC H'->∃m',m'<m/\W m' aC H')/\tb { D with nx:=N,ct:=N,bk:=D.nx } σ H1 else D.nx σ H1
theorem Xq{c:Expr}{body:List Stmt}{tc:TT}{tb:TS}(hp:PassesOwn (model X.prog X.w) X.A X.env X.xe)(hc:PT X c tc)(hb:PSs X body tb):PS X (.While c body [] pos) (Xp tc tb):=by
 intro pins s σ H D I h
 obtain⟨W,⟨m0,w0⟩,turn⟩:=h
 refine wpAny_While (codeAny_whileLoop (λn s'=>∃aC H',Inv X pins aC H' s'/\W n aC H') ?_ m0 ⟨σ,H,I,w0⟩)
 rintro n s1 ⟨gL,H1,I1,w1⟩
 refine wpAny_passesOwn hp (aN (hc pins s1 gL H1 _ I1 (turn n gL H1 w1)) λb s2 ⟨H2,I2,q2⟩=>?_)
 cases b with
 | true =>
  obtain⟨N,hN,q2⟩:=q2
  rw[if_pos rfl]
  refine wpAny_passesOwn hp (aN (hb pins s2 gL H2 _ I2 q2) λf s3 q3=>?_)
  cases f with
  | next =>
   obtain⟨lC,H3,I3,n3⟩:=q3
   obtain⟨m',hm,w3⟩:=hN lC H3 n3
   exact⟨m',hm,lC,H3,I3,w3⟩
  | cont =>
   obtain⟨lC,H3,I3,n3⟩:=q3
   obtain⟨m',hm,w3⟩:=hN lC H3 n3
   exact⟨m',hm,lC,H3,I3,w3⟩
  | brk=>exact q3
  | ret v=>exact q3
 | false =>
  rw[if_neg iH]
  exact wpAny_execs_nil ⟨gL,H2,I2,q2⟩
end
structure It where
 go:Nat->Hp->Prop
 ku:Nat->Hp->V->Hp->Prop
 stop:Nat->Hp->Prop
noncomputable def jf(X:Cx)(pins:List (Addr × Obj))(H:Hp)(b:Addr):Prop :=
 H b=none/\b≠X.env.locals/\b ∉ X.fs/\(b∈X.ex\/X.cJ.heap.objs.size<=b)/\(∀x c,X.env.cells.lookup x=some c->c≠b)/\∀p∈X.pn++pins,p.1≠b
theorem Inv.Bk{X:Cx}{pins:List (Addr × Obj)}{σ:St}{H H':Hp}{s:Shared}{b:Addr}(I:Inv X pins σ H s)(hb:s.heap.objs.size<=b)(hn:H' b=none):jf X pins H' b:=by
 refine⟨hn,Lz (cK I.lt hb),I.Mp hb,.inr (dy I.sz hb),λx c e z=>?_,λp hp z=>?_⟩
 ·obtain⟨v,q⟩:=I.cell x c e
  exact absurd (cK q.lt (by rw[z];exact hb)) (gC _)
 ·exact absurd (cK (bG (I.pin p hp).1) (by rw[z];exact hb)) (gC _)
structure Turn(P:Program)(w:World)(K:PySem.W.Frag)(tg:Expr)(J:It)(fp:List Addr)(it:Addr)(tn:Nat->Heap->Prop):Prop where
 mem:it∈fp
 obj:∀i h,tn i h->∀b∈fp,∃o,h.get? b=some o/\∀v,o.data≠.cell v
 keep:∀i h h',tn i h->(∀b∈fp,∀o,h.get? b=some o->h'.get? b=some o)->tn i h'
 item:∀(X:Cx),X.prog=P->X.w=w->X.K=K->X.calm=true->∀(i:Nat) (pins:List (Addr × Obj)) (s:Shared) (σ:St) (H:Hp) (E:Value->Shared->Prop),Inv X pins σ H s->(∀b∈fp,jf X pins H b)->tn i s.heap->J.go i H ->
  wpAny (model P w) X.A (pyNext (.ref it)) (λr s1=>∃u,r=some u /\
   wpAny (model P w) X.A (letOwnedTupleGo tg (.ref it) u) (λ_ s2=>∃x H',Inv X pins σ H' s2/\RelV x u/\J.ku i H x H'/\tn (i+1) s2.heap/\∀b∈fp,H' b=none) E s1) E s
 done:∀(X:Cx),X.prog=P->X.w=w->X.K=K->X.calm=true->∀(i:Nat) (pins:List (Addr × Obj)) (s:Shared) (σ:St) (H:Hp) (E:Value->Shared->Prop),Inv X pins σ H s->(∀b∈fp,jf X pins H b)->tn i s.heap->J.stop i H ->
  wpAny (model P w) X.A (pyNext (.ref it)) (λr s1=>r=none/\Inv X pins σ H s1) E s
 self:∀(A:Around) (i:Nat) (s:Shared) (Q:Value->Shared->Prop) (E:Value->Shared->Prop),tn i s.heap->Q (.ref it) s->wpAny (model P w) A (pyIter (.ref it)) Q E s
noncomputable abbrev TI:=St->Hp->(It->Hp->Prop)->Prop
noncomputable def MD(X:Cx)(pins:List (Addr × Obj))(σ:St)(tg:Expr)(R:It->Hp->Prop)(E4:Value)(s2:Shared):Prop :=
 ∃(it:Addr) (fp:List Addr) (tn:Nat->Heap->Prop) (J:It) (H':Hp),E4=.ref it/\Inv X pins σ H' s2/\Turn X.prog X.w X.K tg J fp it tn/\tn 0 s2.heap/\(∀b∈fp,jf X pins H' b)/\R J H'
noncomputable def PI(X:Cx)(tg iter:Expr)(wi:TI):Prop :=
 ∀(pins:List (Addr × Obj)) (s:Shared) (σ:St) (H:Hp) (R:It->Hp->Prop),Inv X pins σ H s->wi σ H R ->
  wpAny (model X.prog X.w) X.A (eval iter X.env) (λv s1=>wpAny (model X.prog X.w) X.A (pyIter v) (MD X pins σ tg R) X.xe s1) X.xe s
theorem ME{M:Model}{A:Around}{E:Value->Shared->Prop}{s:Shared}{tg:Expr}{it:Addr}{u:Value}{o:Obj}{n:String}{vs:Array Value}{Q:Unit->Shared->Prop}(ho:s.heap.get? it=some o)(hc:o.cls=.type n)(hd:o.data=.fields vs)
  (hn:["enumerate","zip","dict_itemiterator","dict_reverseitemiterator","odict_iterator","itertools.zip_longest","itertools.pairwise"].contains n=false) (hQ:Q () s):wpAny M A (letOwnedTupleGo tg (.ref it) u) Q E s:=by
 unfold letOwnedTupleGo
 cases tg<;>first
  | exact wpAny_pure hQ
  | (cases u<;>first
    | exact wpAny_pure hQ
    | (refine wpAny_bind (wpAny_load ho ?_)
       rw[hc,hd]
       show wpAny M A (if(["enumerate","zip","dict_itemiterator","dict_reverseitemiterator","odict_iterator","itertools.zip_longest","itertools.pairwise"].contains n&&vs[0]?==some (rawInt _))=true then _ else _) Q E s
       rw[if_neg (by intro h;rw[hn,tQ]at h;cases h)]
       exact wpAny_pure hQ))
noncomputable def E5(K:PySem.W.Frag)(a:Addr):It :=
 ⟨λi H=>∃xs x,bF K H a xs/\xs[i]?=some x,λi H x H'=>H'=H/\∀xs,bF K H a xs->xs[i]?=some x,λi H=>∃xs,bF K H a xs/\xs.length<=i⟩
noncomputable def xI(lo:Int)(n:Nat):It:=⟨λi _=>i<n,λi H x H'=>H'=H/\x=.int (lo+i),λi _=>n<=i⟩
theorem Xr{P:Program}{w:World}{K:PySem.W.Frag}{tg:Expr}(a it:Addr):Turn P w K tg (E5 K a) [it] it (λi h=>h.IsListIter it a i) where
 mem:=by simp
 obj:=λi h st b hb=>by
  have e:b=it:=by simpa using hb
  subst e
  obtain⟨o,e,c,d⟩:=st
  exact⟨o,e,λv z=>by rw[d]at z;cases z⟩
 keep:=λi h h' st k=>st.at λo e=>k it (by simp) o e
 item:=by
  intro X hP hw hK hc i pins s σ H E I hf st hg
  subst hP hw hK
  obtain⟨xs,x,hq,hx⟩:=hg
  obtain⟨its,rv,p,hz⟩:=I.list hq
  obtain⟨u,hu,ru⟩:=rv.get hx
  obtain⟨f0,f1,f2,f3,f4,f5⟩:=hf it (by simp)
  refine wpAny_pyNext_list_item st p.isList (x:=u) (by simpa using hu) λh' pJ sb=>?_
  have I1:Inv X pins σ H { s with heap:=h' }:=I.turned (t':=s.toks) (λb o hb e=>(sb.2 b hb).trans e) f0 f1 f3 f4 f5
  obtain⟨o,e,c,d⟩:=id pJ
  exact⟨u,rfl,ME (s:={ s with heap:=h' }) e c d (by decide) ⟨x,H,I1,ru,⟨rfl,λys hy=>by rw[I.Bd hy hq];exact hx⟩,pJ,λb hb=>(hf b hb).1⟩⟩
 done:=by
  intro X hP hw hK hc i pins s σ H E I hf st hg
  subst hP hw hK
  obtain⟨xs,hq,hx⟩:=hg
  obtain⟨its,rv,p,hz⟩:=I.list hq
  obtain⟨f0,f1,f2,f3,f4,f5⟩:=hf it (by simp)
  have hl:=rv.length
  exact wpAny_pyNext_list_end (I.ok.hd hc) st p.isList (by simp;omega) λh' eb=>⟨rfl,I.turned (t':=s.toks) (λb o hb e=>eb b o hb e) f0 f1 f3 f4 f5⟩
 self:=λ_ _ _ _ _ st h=>wpAny_pyIter_listiter st h
theorem Xs{P:Program}{w:World}{K:PySem.W.Frag}{tg:Expr}(it:Addr)(lo:Int)(n:Nat):Turn P w K tg (xI lo n) [it] it (λi h=>IsRangeIter h it (lo+(i:Nat)*1) ((n:Int)-(i:Nat)) 1) where
 mem:=by simp
 obj:=λi h st b hb=>by
  have e:b=it:=by simpa using hb
  subst e
  exact⟨_,st,λv z=>by
   have z':Data.fields _=Data.cell v:=z
   cases z'⟩
 keep:=λi h h' st k=>k it (by simp) _ st
 item:=by
  intro X hP hw hK hc i pins s σ H E I hf st hg
  subst hP hw hK
  obtain⟨f0,f1,f2,f3,f4,f5⟩:=hf it (by simp)
  have W:=Walks.range (prog:=X.prog) (w:=X.w) (I.ok.hd hc) it lo 1 n
  refine W.item i s _ _ hg st λv h' tk hv pJ kk=>?_
  obtain⟨t,rfl⟩:=hv
  have I1:Inv X pins σ H { s with heap:=h',toks:=tk }:=I.turned (λb o hb e=>kk b o (by simpa using hb) e) f0 f1 f3 f4 f5
  refine⟨_,rfl,ME (s:={ s with heap:=h',toks:=tk }) (n:="range_iterator") pJ rfl rfl (by decide) ⟨.int (lo+i),H,I1,⟨t,?_⟩,⟨rfl,rfl⟩,pJ,λb hb=>(hf b hb).1⟩⟩
  rw[Int.mul_one]
 done:=by
  intro X hP hw hK hc i pins s σ H E I hf st hg
  subst hP hw hK
  obtain⟨f0,f1,f2,f3,f4,f5⟩:=hf it (by simp)
  exact wpAny_pyNext_range_end (I.ok.hd hc) st (by have:n<=i:=hg;omega) λh' eb=>⟨rfl,I.turned (t':=s.toks) (λb o hb e=>eb b o hb e) f0 f1 f3 f4 f5⟩
 self:=λ_ _ _ _ _ st h=>wpAny_pyIter_rangeiter st h
end L2
namespace L2
open PySem PySem.Spec PyProof.Rows
section
variable{X:Cx}{tg:Expr}
noncomputable def Xt(K:PySem.W.Frag)(tl:TE):TI:=λσ H R=>tl σ H λx H1=>∃a,x=.ref a/\(∃xs,bF K H1 a xs)/\R (E5 K a) H1
theorem MF{l:Expr}{tl:TE}(hl:PE X l tl):PI X tg l (Xt X.K tl):=by
 intro pins s σ H R I h
 refine aN (hl pins s σ H _ I h) λv s1 ⟨x,H1,I1,r1,q1⟩=>?_
 obtain⟨a,e,⟨xs,hq⟩,q⟩:=q1
 subst e
 cases r1
 obtain⟨its,rv,p,hz⟩:=I1.list hq
 refine wpAny_pyIter_list p.isList ?_
 refine⟨s1.heap.objs.size,[s1.heap.objs.size],_,_,H1,rfl,I1.kept (t':=s1.toks) λb o e=>fI _ e,Xr a _,⟨_,g7 _ rfl,rfl,rfl⟩,λb hb=>?_,q⟩
 have e:b=s1.heap.objs.size:=by simpa using hb
 subst e
 exact I1.Bk (bD _) (I1.aE.fresh (bD _))
theorem MG{pins:List (Addr × Obj)}{σ:St}{H:Hp}{s:Shared}{R:It->Hp->Prop}{E:Value->Shared->Prop}{lo hi:Int}{t u v:Tok}{tk:Nat}(I:Inv X pins σ H s)(h1:-(2 ^ 62)<=lo)(h2:lo<2 ^ 62)(h3:-(2 ^ 62)<=hi)(h4:hi<2 ^ 62)
  (q:R (xI lo (hi-lo).toNat) H):wpAny (model X.prog X.w) X.A (pyIter (.ref s.heap.objs.size)) (MD X pins σ tg R) E { s with heap:=s.heap.push { cls:=.type "range",data:=.fields #[.int lo t,.int hi u,.int 1 v] },toks:=tk }:=by
 refine wpAny_pyIter_range (IsRange.new ..) (small_one h1 h2 h3 h4) ?_
 have I1:Inv X pins σ H { s with heap:=s.heap.push { cls:=.type "range",data:=.fields #[.int lo t,.int hi u,.int 1 v] },toks:=tk }:=I.kept λb o e=>fI _ e
 refine⟨(s.heap.push { cls:=.type "range",data:=.fields #[.int lo t,.int hi u,.int 1 v] }).objs.size,[(s.heap.push { cls:=.type "range",data:=.fields #[.int lo t,.int hi u,.int 1 v] }).objs.size],_,_,H,rfl,
  I1.kept (t':=tk) λb o e=>fI _ e,Xs _ lo (hi-lo).toNat,?_,λb hb=>?_,q⟩
 ·have e1:lo+((0:Nat):Int)*1=lo:=by simp
  have e2:(((hi-lo).toNat:Nat):Int)-((0:Nat):Int)=Builtin.Range.rangeSize lo hi 1:=by rw[rangeSize_one];split<;>omega
  show IsRangeIter _ _ (lo+((0:Nat):Int)*1) ((((hi-lo).toNat:Nat):Int)-((0:Nat):Int)) 1
  rw[e1,e2]
  exact g7 _ rfl
 ·have e:b=(s.heap.push { cls:=.type "range",data:=.fields #[.int lo t,.int hi u,.int 1 v] }).objs.size:=by simpa using hb
  subst e
  exact I1.Bk (bD _) (I1.aE.fresh (bD _))
noncomputable def Xu(ta:TA):TI:=λσ H R=>ta σ H λvs H1=>∃j:Int,vs=[.int j]/\-(2 ^ 62)<=j/\j<2 ^ 62/\R (xI 0 j.toNat) H1
noncomputable def Xv(ta:TA):TI:=λσ H R=>ta σ H λvs H1=>∃i j:Int,vs=[.int i,.int j]/\(-(2 ^ 62)<=i/\i<2 ^ 62/\-(2 ^ 62)<=j/\j<2 ^ 62)/\R (xI i (j-i).toNat) H1
theorem Xw{a:Expr}{ta:TA}{p pos:Pos}(hg:Gl X "range")(hm:X.mg "range"=none)(ha:PA X [a] ta)(hs:starEach [a] X.env=[(false,eval a X.env)]:=by rfl):PI X tg (.Call (.Name "range" p) [a] [] pos) (Xu ta):=by
 intro pins s σ H R I h
 refine Call_ (qZ I hg hm boot_range (Am (aN (ha pos pins s σ H _ I h) λus s1 ⟨vs,H1,I1,r1,q1⟩=>?_) hs rfl))
 obtain⟨j,e,q1,q2,q⟩:=q1
 subst e
 cases r1 with
 | cons r rr =>
  cases rr
  obtain⟨t,rfl⟩:=r
  exact call_range_1 (MG I1 (by omega) (by omega) q1 q2 (by simpa using q))
theorem Xx{a b:Expr}{ta:TA}{p pos:Pos}(hg:Gl X "range")(hm:X.mg "range"=none)(ha:PA X [a,b] ta)(hs:starEach [a,b] X.env=[(false,eval a X.env),(false,eval b X.env)]:=by rfl)(eK:starEach [b] X.env=[(false,eval b X.env)]:=by rfl) :
  PI X tg (.Call (.Name "range" p) [a,b] [] pos) (Xv ta):=by
 intro pins s σ H R I h
 refine Call_ (qZ I hg hm boot_range (Am (aN (ha pos pins s σ H _ I h) λus s1 ⟨vs,H1,I1,r1,q1⟩=>?_) (by rw[hs,eK]) (by rw[eK];rfl)))
 obtain⟨i,j,e,⟨q1,q2,q3,q4⟩,q⟩:=q1
 subst e
 cases r1 with
 | cons r rr =>
  cases rr with
  | cons r' rr =>
   cases rr
   obtain⟨t,rfl⟩:=r
   obtain⟨t',rfl⟩:=r'
   exact call_range_2 (MG I1 q1 q2 q3 q4 q)
noncomputable def Xy(wi:TI)(g:TG)(tb:TS):TS:=λD σ H=>wi σ H λJ H1=>∃W:Nat->Nat->St->Hp->Prop,(∃m,W 0 m σ H1)/\∀i m σ H,W i m σ H ->
 (J.stop i H/\D.nx σ H)\/(J.go i H/\∃N:St->Hp->Prop,(∀aC H',N aC H'->∃m',m'<m/\W (i+1) m' aC H')/\∀x H',J.ku i H x H'->g x σ H' λjM H2=>tb { D with nx:=N,ct:=N,bk:=D.nx } jM H2)
noncomputable def xJ(fp:List Addr)(h:Heap):List (Addr × Obj):=fp.filterMap λb=>(h.get? b).map λo=>(b,o)
theorem Bl{fp:List Addr}{h:Heap}{b:Addr}{o:Obj}(hb:b∈fp)(e:h.get? b=some o):(b,o)∈xJ fp h:=VY.mpr ⟨b,hb,by rw[e];rfl⟩
theorem Xz{fp:List Addr}{h:Heap}{p:Addr × Obj}(hp:p∈xJ fp h):p.1∈fp/\h.get? p.1=some p.2:=by
 obtain⟨b,hb,e⟩:=VY.mp hp
 cases q:h.get? b with
 | none=>rw[q]at e;cases e
 | some o =>
  rw[q]at e
  have e':(b,o)=p:=cT e
  subst e'
  exact⟨hb,q⟩
theorem Inv.pinned{pins:List (Addr × Obj)}{σ:St}{H:Hp}{s:Shared}{fp:List Addr}(I:Inv X pins σ H s)(hf:∀b∈fp,jf X pins H b)(ho:∀b∈fp,∃o,s.heap.get? b=some o/\∀v,o.data≠.cell v):Inv X (pins++xJ fp s.heap) σ H s :=
 I.Mq λp hp=>(bP.mp hp).elim (λz=>I.pin p (dM _ z)) λz=>by
  obtain⟨hb,e⟩:=Xz z
  obtain⟨f0,f1,f2,_⟩:=hf p.1 hb
  obtain⟨o,e',d⟩:=ho p.1 hb
  rw[e]at e';cases e'
  exact⟨e,f0,f1,f2,d⟩
theorem Inv.xK{pins pl:List (Addr × Obj)}{σ:St}{H:Hp}{s:Shared}(I:Inv X (pins++pl) σ H s):Inv X pins σ H s:=I.Mq λp hp=>I.pin p (dM _ (e7 _ hp))
theorem XA{iter:Expr}{body:List Stmt}{wi:TI}{g:TG}{tb:TS}{pos:Pos}(hp:PassesOwn (model X.prog X.w) X.A X.env X.xe)(hc:X.calm=true)(hi:PI X tg iter wi)(hg:PG X tg g)(hb:PSs X body tb)
  (hs:∀x,foldedSetIterable iter X.env x=pure x:=by intro _;rfl):PS X (.For tg iter body [] pos) (Xy wi g tb):=by
 intro pins s σ H D I h
 refine wpAny_For (aN (hi pins s σ H _ I h) λv s1 h1=>aN h1 λE4 s2 h2=>?_) hs
 obtain⟨it,fp,tn,J,H2,e,I2,T,pK,f2,W,⟨m0,w0⟩,turn⟩:=h2
 subst e
 have E6:∀{H':Hp},(∀b∈fp,H' b=none)->∀b∈fp,jf X pins H' b:=λhn b hb=>⟨hn b hb,(f2 b hb).2⟩
 refine codeAny_forLoop_any (λn s'=>∃i aC H',Inv X pins aC H' s'/\tn i s'.heap/\(∀b∈fp,H' b=none)/\W i n aC H') ?_ m0 ⟨0,σ,H2,I2,pK,λb hb=>(f2 b hb).1,w0⟩
 rintro n s3 ⟨i,lC,H3,I3,uo,E7,w3⟩
 rcases turn i n lC H3 w3 with⟨stop,qn⟩ | ⟨go,N,hN,step⟩
 ·refine wpAny_passesOwn hp (aN (T.done X rfl rfl rfl hc i pins s3 lC H3 X.xe I3 (E6 E7) uo stop) λr s4 ⟨hr,I4⟩=>?_)
  subst hr
  exact wpAny_execs_nil ⟨lC,H3,I4,qn⟩
 ·refine wpAny_passesOwn hp (aN (T.item X rfl rfl rfl hc i pins s3 lC H3 X.xe I3 (E6 E7) uo go) λr s4 ⟨u,hr,h4⟩=>?_)
  subst hr
  refine wpAny_passesOwn hp (aN h4 λ_ s5 ⟨x,H5,I5,r5,y5,q9,xM⟩=>?_)
  have E8:=I5.pinned (E6 xM) (T.obj _ _ q9)
  refine wpAny_passesOwn hp (aN (hg _ s5 lC H5 x u _ E8 r5 (step x H5 y5)) λ_ s6 ⟨Bo,H6,I6,q6⟩=>?_)
  refine wpAny_passesOwn hp (aN (hb _ s6 Bo H6 _ I6 q6) λf s7 q7=>?_)
  have again:∀{lD:St} {H7:Hp},Inv X (pins++xJ fp s5.heap) lD H7 s7->N lD H7->∃m,m<n/\∃i aC H',Inv X pins aC H' s7/\tn i s7.heap/\(∀b∈fp,H' b=none)/\W i m aC H':=λ{lD H7} I7 n7=>by
   obtain⟨m',hm,w7⟩:=hN lD H7 n7
   refine⟨m',hm,i+1,lD,H7,I7.xK,T.keep _ _ _ q9 λb hb o e=>(I7.pin (b,o) (dM _ (dM _ (Bl hb e)))).1,λb hb=>?_,w7⟩
   obtain⟨o,e,d⟩:=T.obj _ _ q9 b hb
   exact(I7.pin (b,o) (dM _ (dM _ (Bl hb e)))).2.1
  cases f with
  | next=>obtain⟨lD,H7,I7,n7⟩:=q7;exact again I7 n7
  | cont=>obtain⟨lD,H7,I7,n7⟩:=q7;exact again I7 n7
  | brk=>obtain⟨lD,H7,I7,q7⟩:=q7;exact⟨lD,H7,I7.xK,q7⟩
  | ret v=>obtain⟨x7,lD,H7,I7,r7,q7⟩:=q7;exact⟨x7,lD,H7,I7.xK,r7,q7⟩
end
end L2
namespace L2
open PySem PySem.Spec PyProof.Rows
noncomputable abbrev R2:=V->V->Hp->VK->Prop
noncomputable def cN(X:Cx)(f:Value->Value->Sem Value)(r:R2):Prop :=
 ∀(pins:List (Addr × Obj)) (s:Shared) (σ:St) (H:Hp) (x y:V) (v u:Value) (Q:VK),Inv X pins σ H s->RelV x v->RelV y u->r x y H Q ->
  wpAny (model X.prog X.w) X.A (f v u) (EP X pins σ Q) X.xe s
noncomputable def hJ(X:Cx)(f:Value)(r:List V->Hp->VK->Prop):Prop :=
 ∀(pins:List (Addr × Obj)) (s:Shared) (σ:St) (H:Hp) (xs:List V) (us:List Value) (Q:VK),Inv X pins σ H s->Vals xs us->r xs H Q ->
  wpAny (model X.prog X.w) X.A (call f us) (EP X pins σ Q) X.xe s
noncomputable def xN(r:R2)(ta tb:TE):TE:=λσ H Q=>ta σ H λx H1=>tb σ H1 λy H2=>r x y H2 Q
noncomputable def rI(C:Int->Int->Prop)(g:Int->Int->V):R2:=λx y H Q=>∃i j,x=.int i/\y=.int j/\C i j/\Q (g i j) H
noncomputable def jN(g:Int->Int->V):R2:=λx y H Q=>∃i j,x=.int i/\y=.int j/\Q (g i j) H
section
variable{X:Cx}{a b c:Expr}{ta tb tc:TE}{pos:Pos}
theorem E9(ha:PE X a ta)(hb:PE X b tb){pins:List (Addr × Obj)}{s:Shared}{σ:St}{H:Hp}{R:V->V->Hp->Prop}(I:Inv X pins σ H s)
  (h:ta σ H λx H1=>tb σ H1 λy H2=>R x y H2) {Q:Value->Shared->Prop} {f:Value->Value->Sem Value}
  (hf:∀v u s2 x y H2,Inv X pins σ H2 s2->RelV x v->RelV y u->R x y H2->wpAny (model X.prog X.w) X.A (f v u) Q X.xe s2) :
  wpAny (model X.prog X.w) X.A (eval a X.env) (λv bA=>wpAny (model X.prog X.w) X.A (eval b X.env) (λu jL=>wpAny (model X.prog X.w) X.A (f v u) Q X.xe jL) X.xe bA) X.xe s:=by
 refine aN (ha pins s σ H _ I h) λv s1 ⟨x,H1,I1,r1,q1⟩=>?_
 refine aN (hb pins s1 σ H1 _ I1 q1) λu s2 ⟨y,H2,I2,r2,q2⟩=>?_
 exact hf v u s2 x y H2 I2 r1 r2 q2
theorem xO{op:Operator}{r:R2}(ho:cN X (binaryOp op) r)(ha:PE X a ta)(hb:PE X b tb):PE X (.BinOp a op b pos) (xN r ta tb):=by
 intro pins s σ H Q I h
 exact wpAny_BinOp (E9 ha hb I h λv u s2 x y H2 I2 rx ry q=>ho pins s2 σ H2 x y v u Q I2 rx ry q)
theorem uq{f:Value->Value->Sem Value}{C:Int->Int->Prop}{g:Int->Int->Int}
  (rule:∀(i j:Int) (t u:Tok) (s:Shared) (Q:Value->Shared->Prop) (E:Value->Shared->Prop),C i j->Q (.int (g i j) s.toks) { s with toks:=s.toks+1 }->wpAny (model X.prog X.w) X.A (f (.int i t) (.int j u)) Q E s) :
  cN X f (rI C λi j=>.int (g i j)):=by
 intro pins s σ H x y v u Q I rx ry h
 obtain⟨i,j,rfl,rfl,hc,q⟩:=h
 obtain⟨t,rfl⟩:=rx
 obtain⟨t',rfl⟩:=ry
 exact rule i j t t' s _ _ hc ⟨.int (g i j),H,I.tok _,⟨_,rfl⟩,q⟩
theorem ur{f:Value->Value->Sem Value}{g:Int->Int->Int}
  (rule:∀(i j:Int) (t u:Tok) (s:Shared) (Q:Value->Shared->Prop) (E:Value->Shared->Prop),Q (.int (g i j) s.toks) { s with toks:=s.toks+1 }->wpAny (model X.prog X.w) X.A (f (.int i t) (.int j u)) Q E s) :
  cN X f (jN λi j=>.int (g i j)):=by
 intro pins s σ H x y v u Q I rx ry h
 obtain⟨i,j,rfl,rfl,q⟩:=h
 obtain⟨t,rfl⟩:=rx
 obtain⟨t',rfl⟩:=ry
 exact rule i j t t' s _ _ ⟨.int (g i j),H,I.tok _,⟨_,rfl⟩,q⟩
theorem Bp{f:Value->Value->Sem Value}{g:Int->Int->Bool}
  (rule:∀(i j:Int) (t u:Tok) (s:Shared) (Q:Value->Shared->Prop) (E:Value->Shared->Prop),Q (.bool (g i j)) s->wpAny (model X.prog X.w) X.A (f (.int i t) (.int j u)) Q E s) :
  cN X f (jN λi j=>.bl (g i j)):=by
 intro pins s σ H x y v u Q I rx ry h
 obtain⟨i,j,rfl,rfl,q⟩:=h
 obtain⟨t,rfl⟩:=rx
 obtain⟨t',rfl⟩:=ry
 exact rule i j t t' s _ _ ⟨.bl (g i j),H,I,rfl,q⟩
noncomputable def jO(i j:Int):Prop:=(-(2 ^ 64)<i/\i<2 ^ 64)\/(-(2 ^ 64)<j/\j<2 ^ 64)
theorem jO.ok{i j:Int}(h:jO i j):IntMulOk i j:=by
 rcases h with⟨h1,h2⟩ | ⟨h1,h2⟩
 ·exact .of_left (intBits_le_64 h1 h2)
 ·exact .of_right (intBits_le_64 h1 h2)
theorem XB(k:Nat):(0:Int)<=2 ^ k:=by
 rw[two_pow_cast]
 exact LA _
theorem XC:cN X (binaryOp .Add) (jN λi j=>.int (i+j)):=ur λ_ _ _ _ _ _ _ q=>add_int q
theorem Fc:cN X (binaryOp .Sub) (jN λi j=>.int (i-j)):=ur λ_ _ _ _ _ _ _ q=>sub_int q
theorem XD:cN X (binaryOp .Mod) (rI (λ_ j=>0<j) λi j=>.int (i%j)):=uq λi j _ _ _ _ _ hc q=>by
 have h1:(0:Int)<j:=hc
 exact mod_int' (by omega) (by rw[Int.fmod_eq_emod_of_nonneg i (by omega)];exact q)
theorem XE:cN X (binaryOp .RShift) (rI (λ_ j=>0<=j) λi j=>.int (i/2 ^ j.toNat)):=uq λi j _ _ _ _ _ hc q =>
 rshift_int hc (by rw[VZ i (XB _)];exact q)
theorem XF:cN X (binaryOp .BitAnd) (jN λi j=>.int (oV i j)):=ur λ_ _ _ _ _ _ _ q=>and_int q
theorem XG:cN X (binaryOp .BitXor) (jN λi j=>.int (oW i j)):=ur λ_ _ _ _ _ _ _ q=>xor_int q
theorem XH:cN X (inplaceOp .Add) (jN λi j=>.int (i+j)):=ur λ_ _ _ _ _ _ _ q=>iadd_int q
theorem XI:cN X (inplaceOp .BitXor) (jN λi j=>.int (oW i j)):=ur λ_ _ _ _ _ _ _ q=>ixor_int q
end
section
variable{X:Cx}{a b c:Expr}{ta tb tc:TE}{pos:Pos}
theorem XJ{pins:List (Addr × Obj)}{σ:St}{H:Hp}{s:Shared}{Q:VK}{k k':Bool}(I:Inv X pins σ H s)(q:Q (.bl k) H)(e:k=k'):EP X pins σ Q (.bool k') s:=by
 subst e
 exact⟨.bl k,H,I,rfl,q⟩
theorem MH:cN X (compareOp .Lt) (jN λi j=>.bl (decide (i<j))):=Bp λ_ _ _ _ _ _ _ q=>lt_int q
theorem XM:cN X (compareOp .LtE) (jN λi j=>.bl (decide (i<=j))):=Bp λ_ _ _ _ _ _ _ q=>le_int q
theorem MI:cN X (compareOp .Gt) (jN λi j=>.bl (decide (j<i))):=Bp λ_ _ _ _ _ _ _ q=>gt_int q
theorem XN:cN X (compareOp .GtE) (jN λi j=>.bl (decide (j<=i))):=Bp λ_ _ _ _ _ _ _ q=>ge_int q
theorem XO:cN X (compareOp .IsNot) (λx y H Q=>y=.aq/\Q (.bl (!decide (x=.aq))) H):=by
 intro pins s σ H x y v u Q I rx ry h
 obtain⟨rfl,q⟩:=h
 cases ry
 refine isnot_none_gen (XJ I q ?_)
 cases x<;>first
  | (cases rx;rfl)
  | (obtain⟨t,rfl⟩:=rx;rfl)
theorem cN.or{f:Value->Value->Sem Value}{r r':R2}(h:cN X f r)(h':cN X f r'):cN X f (λx y H Q=>r x y H Q\/r' x y H Q):=by
 intro pins s σ H x y v u Q I rx ry q
 rcases q with q | q
 ·exact h pins s σ H x y v u Q I rx ry q
 ·exact h' pins s σ H x y v u Q I rx ry q
theorem bL(b:Expr){op:CmpOp}(h:op≠.In:=by decide)(h2:op≠.NotIn:=by decide):behindInMarks op b=false:=by
 have e1:(op==CmpOp.In)=false:=by cases op<;>first | rfl | exact absurd rfl h
 have e2:(op==CmpOp.NotIn)=false:=by cases op<;>first | rfl | exact absurd rfl h2
 cases b<;>simp[behindInMarks,e1,e2]
theorem XQ{op:CmpOp}{r:R2}(ho:cN X (compareOp op) r)(ha:PE X a ta)(hb:PE X b tb)(hm:behindInMarks op b=false):PE X (.Compare a [op] [b] pos) (xN r ta tb):=by
 intro pins s σ H Q I h
 exact wpAny_Compare1 (E9 ha hb I h λv u s2 x y H2 I2 rx ry q=>ho pins s2 σ H2 x y v u Q I2 rx ry q) hm
noncomputable def MJ(t:TE):TT:=λσ H Q=>t σ H λx H'=>∃k,x=.bl k/\Q k H'
theorem Fd{op:CmpOp}{r:R2}(ho:cN X (compareOp op) r)(ha:PE X a ta)(hb:PE X b tb)(hm:behindInMarks op b=false):PT X (.Compare a [op] [b] pos) (MJ (xN r ta tb)):=by
 intro pins s σ H Q I h
 refine wpAny_isTrue_Compare1 (aN (ha pins s σ H _ I h) λv s1 ⟨x,H1,I1,r1,q1⟩=>aN (hb pins s1 σ H1 _ I1 q1) λu s2 ⟨y,H2,I2,r2,q2⟩ =>
  aN (ho pins s2 σ H2 x y v u _ I2 r1 r2 q2) λc s3 ⟨z,H3,I3,r3,k,e,q3⟩=>?_) hm
 subst e
 cases r3
 exact wpAny_truthy_bool ⟨H3,I3,q3⟩
noncomputable def MK(r r':R2)(ta tb tc:TE):TE:=λσ H Q=>ta σ H λx H1=>tb σ H1 λy H2=>r x y H2 λz H3=>∃k,z=.bl k /\
 (if k=true then tc σ H3 λw' H4=>r' y w' H4 Q else Q (.bl false) H3)
theorem XR{op rh:CmpOp}{r r':R2}(ho:cN X (compareOp op) r)(lu:cN X (compareOp rh) r')(ha:PE X a ta)(hb:PE X b tb)(hc:PE X c tc)
  (hm:lastMarks [op,rh] [b,c]=false:=by with_unfolding_all rfl):PE X (.Compare a [op,rh] [b,c] pos) (MK r r' ta tb tc):=by
 intro pins s σ H Q I h
 refine Compare_chain (aN (ha pins s σ H _ I h) λv s1 ⟨x,H1,I1,r1,q1⟩=>chain_link (aN (hb pins s1 σ H1 _ I1 q1) λu s2 ⟨y,H2,I2,r2,q2⟩ =>
  aN (ho pins s2 σ H2 x y v u _ I2 r1 r2 q2) λd s3 ⟨z,H3,I3,r3,k,e,q3⟩=>?_)) hm
 subst e
 cases r3
 refine wpAny_truthy_bool ?_
 cases k with
 | false=>exact ite_ff ⟨.bl false,H3,I3,rfl,q3⟩
 | true=>exact ite_tt (chain_last (aN (hc pins s3 σ H3 _ I3 q3) λw' s4 ⟨z',H4,I4,r4,q4⟩=>lu pins s4 σ H4 y z' u w' Q I4 r2 r4 q4))
theorem rj:(sizeLine:Nat)<2 ^ 63:=by rw[sizeLine_eq];decide
theorem XS:cN X (binaryOp .Add) (λx y H Q=>∃i j,x=.str i/\y=.str j/\i.length+j.length<=sizeLine/\Q (.str (i++j)) H):=by
 intro pins s σ H x y v u Q I rx ry h
 obtain⟨i,j,rfl,rfl,hz,q⟩:=h
 obtain⟨t,rfl⟩:=rx
 obtain⟨t',rfl⟩:=ry
 exact add_str (λt' tk=>⟨.str (i++j),H,I.tok _,⟨_,rfl⟩,q⟩) hz
theorem xP{x:V}{us:List Value}(r:Vals [x] us):∃u,us=[u]/\RelV x u:=by
 cases r with
 | cons r1 r2=>cases r2;exact⟨_,rfl,r1⟩
theorem XT:hJ X (.type "int") (λxs H Q=>(∃i,xs=[.int i]/\Q (.int i) H)\/∃k,xs=[.bl k]/\Q (.int (if k then 1 else 0)) H):=by
 intro pins s σ H xs us Q I r h
 rcases h with⟨i,rfl,q⟩ | ⟨k,rfl,q⟩
 ·obtain⟨u,rfl,t,rfl⟩:=xP r
  exact call_int_int ⟨.int i,H,I,⟨_,rfl⟩,q⟩
 ·obtain⟨u,rfl,r1⟩:=xP r
  cases r1
  exact call_int_bool ⟨.int (if k then 1 else 0),H,I.tok _,⟨_,rfl⟩,q⟩
end
end L2
namespace L2
open PySem PySem.Spec PyProof.Rows
structure rk(h:Heap)(x dx C:Addr)(mA:Str->Option Value):Prop where
 obj:h.get? x=some (PySem.W.instObj C dx)
 ns:h.Ns1 dx mA
 ne:dx≠x
theorem XU{h:Heap}{dx:Addr}{mA:Str->Option Value}(n:h.Ns1 dx mA):∃od,h.get? dx=some od/\∀name,PySem.W.lookIn name od=some (mA name):=by
 obtain⟨o,es,ep,ho,hd,hk,_,hm⟩:=n
 refine⟨o,ho,λname=>?_⟩
 have e:=hm name
 unfold nsFind findBy at e
 rw[<-Array.find?_toList]at e
 unfold PySem.W.lookIn
 rw[hd]
 dsimp only
 split
 ·rename_i y q
  rw[q]at e
  exact congrArg some e
 ·rename_i q
  rw[q]at e
  have a:es.toList.any (·.refKey)=false:=by
   rw[List.any_eq_false]
   intro y hy
   obtain⟨z,t,XW⟩:=hk y (Array.mem_toList_iff.mp hy)
   simp[DictEntry.refKey,XW]
  have a':¬ es.toList.any (·.refKey)=true:=by rw[a];exact iH
  rw[if_neg a']
  exact congrArg some e
theorem rk.look{h:Heap}{x dx C:Addr}{mA:Str->Option Value}(I:rk h x dx C mA):∃od,PySem.W.InstAt h x (PySem.W.instObj C dx) C (some od)/\∀name,PySem.W.lookIn name od=some (mA name) :=
 let⟨od,ho,hl⟩:=XU I.ns
 ⟨od,⟨I.obj,rfl,rfl,ho⟩,hl⟩
section
variable{prog:Program}{w:World}{A:Around}{E:Value->Shared->Prop}{s:Shared}{K:PySem.W.Frag}{x dx C f:Addr}{mA:Str->Option Value}{name:Str}{v:Value}
theorem XX{expr:Bool}{Q:Value->Shared->Prop}(X:K.In s.heap)(I:rk s.heap x dx C mA)(hg:PySem.W.plainGet K C name=true)(hh:PySem.W.hasDictIn K C=true)
  (ha:PySem.W.findIn K (.ref C) name=some none) (hv:mA name=some v) (XY:PySem.W.handedIn v=true) (h:Q v { s with toks:=s.toks+1 }) :
  wpAny (model prog w) A (getAttr (.ref x) name expr) Q E s:=by
 obtain⟨od,J,hl⟩:=I.look
 exact PySem.W.get_value X J (PySem.W.plainGet_of hg).1 (PySem.W.findObj_own hh ha rfl (by rw[hl,hv])) XY h
theorem XZ{pl:Sem Bool}{Q:Value × List Value->Shared->Prop}(X:K.In s.heap)(I:rk s.heap x dx C mA)(hg:PySem.W.plainGet K C name=true)
  (hf:PySem.W.findIn K (.ref C) name=some (some (.ref f))) (ht:PySem.W.isFn K (.ref f)=true) (hv:mA name=none) (h:Q (.ref f,[.ref x]) s) :
  wpAny (model prog w) A (getMethod (.ref x) name pl) Q E s:=by
 obtain⟨od,J,hl⟩:=I.look
 exact PySem.W.method_fn X J (PySem.W.plainGet_of hg).1 (PySem.W.plainGet_of hg).2 hf (beq_iff_eq.mp ht) (by show(PySem.W.lookIn name od).map (·.isSome)=some false;rw[hl,hv];rfl) h
theorem X0{ns:List Str}{Q:Unit->Shared->Prop}(X:K.In s.heap)(I:rk s.heap x dx C mA)
  (hs:PySem.W.findIn K (.ref C) "__setattr__"=some (some (.builtin "object.__setattr__"))) (hp:PySem.W.plainOver K C=true) (ht:PySem.W.takerIn K C name=some none) (hh:PySem.W.hasDictIn K C=true)
  (hw:PySem.Within mA ns) (ky:ns.length<=sizeLine)
  (h:∀h',rk h' x dx C (λy=>if y=name then some v else mA y)->Heap.SameBut dx s.heap h'->Q () { s with heap:=h',toks:=s.toks+2 }) :
  wpAny (model prog w) A (setAttr (.ref x) name v) Q E s:=by
 obtain⟨od,J,hl⟩:=I.look
 refine PySem.W.set_plain X J hs (PySem.W.osa_open (s:={ s with toks:=s.toks+1 }) (r:=none) X J hp ht λb=>?_)
 obtain⟨cd,hc,xx⟩:=PySem.W.any_some hh
 have hx:s.heap.get? x=some ⟨.ref C,some dx,.plain,#[]⟩:=I.obj
 refine wpAny_bind (wpAny_pure (wpAny_bind (wpAny_bind (wpAny_loadPart hx (wpAny_bind (PySem.W.Looks.here (s:={ s with toks:=s.toks+1 }) (PySem.W.looks_clsIn X hc) ?_))))))
 rw[xx]
 refine wpAny_pure (a:=some dx) (wpAny_bind (wpAny_pure (wpAny_bind ?_)))
 refine wpAny_nsSet1 (s:={ s with toks:=s.toks+1 }) I.ns λh' Bq eK=>?_
 obtain⟨oD,esD,epD,X1,X2,nv⟩:=Bq.count (PySem.Within.cons name v hw)
 refine wpAny_bind (wpAny_lookBehind X1 (by rw[X2];exact pastItsLine_dict (dy nv (by rw[gJ];omega))) ?_)
 exact wpAny_pure (h _ ⟨(eK.2 _ (fi I.ne)).trans I.obj,Bq,I.ne⟩ eK)
theorem X3{R:Result->Shared->Prop}{vs:List Value}{kw:List (Str × Value)}(X:K.In s.heap)(hm:PySem.W.makesIn K C=true)
  (hi:PySem.W.findIn K (.ref C) "__init__"=some (some (.ref f))) (hf:PySem.W.typeIn K (.ref f)=some (.type "function"))
  (h:codeAny (model prog w) (A.under (.builtin "type.__call__" ⟨.ref C::vs,kw⟩)) (.call (.ref f) ⟨.ref (s.heap.objs.size+1)::vs,kw⟩) (PySem.W.InitBack (s.heap.objs.size+1) R)
   { s with heap:=(s.heap.push PySem.W.emptyDict).push (PySem.W.instObj C s.heap.objs.size) }) :
  codeAny (model prog w) A (.call (.ref C) ⟨vs,kw⟩) R s:=by
 obtain⟨hh,g,d,t,os⟩:=s
 exact PySem.W.make_core (PySem.W.makes_of X hm) (PySem.W.looks_findIn X hi) (λself=>PySem.W.bind_fn X self hf) (.inl rfl) h
end
noncomputable def bM(f:Str)(v:V):List (Str × V)->List (Str × V)
 | []=>[(f,v)]
 | (g,x)::r=>if g=f then(g,v)::r else(g,x)::bM f v r
theorem ML(f g:Str)(v:V):∀fs:List (Str × V),(bM f v fs).lookup g=if g=f then some v else fs.lookup g
 | []=>by
  show m6 g [(f,v)]=_
  by_cases h:g=f
  ·have hb:(g==f)=true:=beq_iff_eq.mpr h
   simp only[m6,hb,if_pos h]
  ·have hb:(g==f)=false:=beq_eq_false_iff_ne.mpr h
   simp only[m6,hb,if_neg h]
 | (k,x)::r=>by
  have ih:=ML f g v r
  rw[show bM f v ((k,x)::r)=(if k=f then(k,v)::r else(k,x)::bM f v r) from rfl]
  by_cases hk:k=f
  ·rw[if_pos hk]
   by_cases h:g=k
   ·have hb:(g==k)=true:=beq_iff_eq.mpr h
    simp only[m6,hb,if_pos (h.trans hk)]
   ·have hb:(g==k)=false:=beq_eq_false_iff_ne.mpr h
    simp only[m6,hb,if_neg (λe:g=f=>h (e.trans hk.symm))]
  ·rw[if_neg hk]
   by_cases h:g=k
   ·have hb:(g==k)=true:=beq_iff_eq.mpr h
    simp only[m6,hb,if_neg (λe:g=f=>hk (h.symm.trans e))]
   ·have hb:(g==k)=false:=beq_eq_false_iff_ne.mpr h
    simp only[m6,hb]
    exact ih
theorem Fe(f:Str)(v:V):∀fs:List (Str × V),f∈(bM f v fs).map (·.1)/\∀g,g∈fs.map (·.1)->g∈(bM f v fs).map (·.1)
 | []=>⟨by simp[bM],λg h=>by simp at h⟩
 | (k,x)::r=>by
  obtain⟨i1,i2⟩:=Fe f v r
  rw[show bM f v ((k,x)::r)=(if k=f then(k,v)::r else(k,x)::bM f v r) from rfl]
  by_cases hk:k=f
  ·rw[if_pos hk]
   subst hk
   exact⟨by simp,λg h=>by simpa using h⟩
  ·rw[if_neg hk]
   refine⟨?_,λg h=>?_⟩
   ·rw[da]
    exact fh _ i1
   ·rw[da]at h ⊢
    rcases cL.mp h with e | e
    ·exact cL.mpr (.inl e)
    ·exact fh _ (i2 g e)
theorem MM(f:Str)(v:V):∀fs:List (Str × V),(bM f v fs).length<=fs.length+1
 | []=>by simp[bM]
 | (k,x)::r=>by
  have ih:=MM f v r
  rw[show bM f v ((k,x)::r)=(if k=f then(k,v)::r else(k,x)::bM f v r) from rfl]
  by_cases hk:k=f
  ·rw[if_pos hk,gJ,gJ];omega
  ·rw[if_neg hk,gJ,gJ];omega
theorem my.some_of{v:V}{o:Option Value}(r:my (some v) o):∃u,o=some u/\RelV v u:=by
 cases o with
 | none=>exact(show False from r).elim
 | some u=>exact⟨u,rfl,r⟩
theorem my.none_of{o:Option Value}(r:my none o):o=none:=by
 cases o with
 | none=>rfl
 | some u=>exact(show False from r).elim
theorem X4{v:V}{u:Value}(r:RelV v u):PySem.W.handedIn u=true:=by
 cases v with
 | aq=>cases(show u=qJ from r);rfl
 | bl b=>cases(show u=Eg b from r);rfl
 | int i=>obtain⟨t,e⟩:=(show ∃t,u=xf i t from r);cases e;rfl
 | str x=>obtain⟨t,e⟩:=(show ∃t,u=Value.str x t from r);cases e;rfl
 | AV b=>obtain⟨t,e⟩:=(show ∃t,u=Value.bytes b t from r);cases e;rfl
 | qU b=>obtain⟨t,e⟩:=(show ∃t,u=Value.float b t from r);cases e;rfl
 | ref a=>cases(show u=dn a from r);rfl
 | ty n=>cases(show u=Value.type n from r);rfl
section
variable{P:Program}{w:World}{H H':Hp}{h h':Heap}{a C dx:Addr}{fs fs':List (Str × V)}
theorem Br(aE:cQ P w H h)(e:H a=some (.ins C dx fs)):∃mA,rk h a dx C mA/\(∀f,my (fs.lookup f) (mA f))/\PySem.Within mA (fs.map (·.1))/\fs.length<=1000/\H dx=some (.own a):=by
 obtain⟨d,z,ne,ob,mA,n,r,q⟩:=(show eC P w H h a (.ins C dx fs) from aE a _ e)
 exact⟨mA,⟨ob,n,ne⟩,r,q,z,d⟩
end
structure df(K:PySem.W.Frag)(C:Addr):Prop where
 pg:PySem.W.plainGet K C An=true
 hd:PySem.W.hasDictIn K C=true
 po:PySem.W.plainOver K C=true
 sa:PySem.W.findIn K (.ref C) "__setattr__"=some (some (.builtin "object.__setattr__"))
theorem df.get{K:PySem.W.Frag}{C:Addr}(c:df K C)(f:Str):PySem.W.plainGet K C f=true:=c.pg
noncomputable def bj(K:PySem.W.Frag)(C:Addr)(f:Str):Prop:=PySem.W.findIn K (.ref C) f=some none
theorem bj.X5{K:PySem.W.Frag}{C:Addr}{f:Str}(n:bj K C f):PySem.W.takerIn K C f=some none:=by
 unfold PySem.W.takerIn
 rw[show PySem.W.findIn K (.ref C) f=some none from n]
 rfl
structure Meth(K:PySem.W.Frag)(C:Addr)(m:Str)(f:Addr):Prop where
 at_:PySem.W.findIn K (.ref C) m=some (some (.ref f))
 fn:PySem.W.isFn K (.ref f)=true
 kp:PySem.W.keepIn K (.ref f)=true
section
variable{X:Cx}{pins:List (Addr × Obj)}{σ:St}{H:Hp}{s:Shared}{a C dx:Addr}{fs:List (Str × V)}{f:Str}{v:V}{A:Around}{E:Value->Shared->Prop}
theorem X6{b:Bool}{Q:Value->Shared->Prop}(I:Inv X pins σ H s)(e:H a=some (.ins C dx fs))(c:df X.K C)(n:bj X.K C f)(l:fs.lookup f=some v)
  (h:∀u s',Inv X pins σ H s'->RelV v u->Q u s'):wpAny (model X.prog X.w) A (getAttr (.ref a) f b) Q E s:=by
 obtain⟨mA,O,r,_,_,_⟩:=Br I.aE e
 obtain⟨u,hu,ru⟩:=my.some_of (v:=v) (o:=mA f) (by rw[<-l];exact r f)
 exact XX I.cR O (c.get f) c.hd n hu (X4 ru) (h u _ (I.tok _) ru)
theorem Bt{m:Str}{g:Addr}{pl:Sem Bool}{Q:Value × List Value->Shared->Prop}(I:Inv X pins σ H s)(e:H a=some (.ins C dx fs))(c:df X.K C)(k:Meth X.K C m g)(l:fs.lookup m=none)
  (h:Q (.ref g,[.ref a]) s):wpAny (model X.prog X.w) A (getMethod (.ref a) m pl) Q E s:=by
 obtain⟨mA,O,r,_,_,_⟩:=Br I.aE e
 have hn:mA m=none:=my.none_of (by rw[<-l];exact r m)
 exact XZ I.cR O (c.get m) k.at_ k.fn hn h
theorem X7{y:V}{u:Value}{Q:Unit->Shared->Prop}(I:Inv X pins σ H s)(e:H a=some (.ins C dx fs))(c:df X.K C)(n:bj X.K C f)(hl:fs.length<1000)(ry:RelV y u)
  (h:∀s',Inv X pins σ (upd H a (.ins C dx (bM f y fs))) s'->Q () s'):wpAny (model X.prog X.w) A (setAttr (.ref a) f u) Q E s:=by
 obtain⟨mA,O,r,wi,_,ho⟩:=Br I.aE e
 have hz:(fs.map (·.1)).length<=sizeLine:=by rw[aY,sizeLine_eq];omega
 refine X0 I.cR O c.sa c.po n.X5 c.hd wi hz λh' O' sb=>h _ ?_
 have hd:∃o,h'.get? dx=some o:=let⟨o,_,_,e',_⟩:=O'.ns;⟨o,e'⟩
 refine I.write (x:=a) (e:=dx) (by rw[e];exact tR) (.inr ho) (λb q hb z=>(sb.2 b hb).trans z) hd ?_
 refine⟨by rw[aU O.ne];exact ho,?_,O.ne,O'.obj,_,O'.ns,λg=>?_,λg hg=>?_⟩
 ·have:=MM f y fs;omega
 ·show my ((bM f y fs).lookup g) (if g=f then some u else mA g)
  rw[ML]
  by_cases q:g=f
  ·rw[if_pos q,if_pos q];exact ry
  ·rw[if_neg q,if_neg q];exact r g
 ·by_cases q:g=f
  ·rw[q];exact(Fe f y fs).1
  ·refine(Fe f y fs).2 g (wi g λz=>hg ?_)
   show(if g=f then some u else mA g)=none
   rw[if_neg q];exact z
theorem Inv.made(I:Inv X pins σ H s):Inv X pins σ (upd (upd H s.heap.objs.size (.own (s.heap.objs.size+1))) (s.heap.objs.size+1) (.ins C s.heap.objs.size []))
  { s with heap:=(s.heap.push PySem.W.emptyDict).push (PySem.W.instObj C s.heap.objs.size) }:=by
 have e1:(s.heap.push PySem.W.emptyDict).get? s.heap.objs.size=some PySem.W.emptyDict:=g7 s.heap rfl
 have e2:((s.heap.push PySem.W.emptyDict).push (PySem.W.instObj C s.heap.objs.size)).get? (s.heap.objs.size+1)=some (PySem.W.instObj C s.heap.objs.size):=by
  have:=g7 (s.heap.push PySem.W.emptyDict) (o:=PySem.W.instObj C s.heap.objs.size) rfl
  rwa [xh]at this
 have e3:(s.heap.push PySem.W.emptyDict).Ns s.heap.objs.size (λ_=>none):=⟨PySem.W.emptyDict,#[],_,e1,rfl,(λe he=>absurd he (by simp)),λ_=>rfl⟩
 have I1:=I.laid (a:=s.heap.objs.size) (o:=.own (s.heap.objs.size+1)) (h':=s.heap.push PySem.W.emptyDict) (t':=s.toks) (λb u q=>fI _ q) (bD _) ⟨_,e1⟩
 refine I1.laid (a:=s.heap.objs.size+1) (o:=.ins C s.heap.objs.size []) (t':=s.toks) (λb u q=>fI _ q) (xi (xh _ _)) ?_
 have ne:s.heap.objs.size≠s.heap.objs.size+1:=eT (Ei _)
 refine⟨by rw[aU ne,bH],kR _,ne,e2,λ_=>none,(Heap.Ns1.of_empty e3).at λo q=>fI _ q,λ_=>tR,λy hy=>absurd rfl hy⟩
theorem X8{prog:Program}{w:World}{env:Env}{e:Expr}{f:Str}{pos:Pos}{s:Shared}{Q:Value->Shared->Prop}(hb:attributeBase e f env (eval e env)=eval e env)
  (h:wpAny (model prog w) A (eval e env) (λo bA=>wpAny (model prog w) A (getAttr o f true) Q E bA) E s):wpAny (model prog w) A (eval (.Attribute e f pos) env) Q E s :=
 Attribute_any_ h (by rw[arm_eval_Attribute,hb])
end
noncomputable def X9(K:PySem.W.Frag)(ta:TE)(f:Str):TE:=λσ H Q=>ta σ H λx H1=>∃a C dx fs v,x=.ref a/\H1 a=some (.ins C dx fs)/\df K C/\bj K C f/\fs.lookup f=some v/\Q v H1
noncomputable def Ya(K:PySem.W.Frag)(ta tv:TE)(f:Str):TS:=λD σ H=>tv σ H λy H1=>ta σ H1 λx H2=>∃a C dx fs,x=.ref a/\H2 a=some (.ins C dx fs)/\df K C/\bj K C f/\fs.length<1000 /\
 D.nx σ (upd H2 a (.ins C dx (bM f y fs)))
section
variable{X:Cx}{o e value:Expr}{f:Str}{pos pos' ly:Pos}{ta tv:TE}
theorem rm(he:PE X e ta)(hb:attributeBase e f X.env (eval e X.env)=eval e X.env):PE X (.Attribute e f pos) (X9 X.K ta f):=by
 intro pins s σ H Q I h
 refine X8 hb (aN (he pins s σ H _ I h) λu s1 ⟨x,H1,I1,rx,a,C,dx,fs,v,ex,ea,c,n,l,q⟩=>?_)
 subst ex
 obtain rfl:u=dn a:=rx
 exact X6 I1 ea c n l λu' s2 I2 ru=>⟨v,H1,I2,ru,q⟩
theorem iM(ha:PE X o ta)(hv:PE X value tv)(hs:swapsWith value (some (.Attribute o f pos')) pos.line X.env=pure false):PS X (.Assign [.Attribute o f pos'] value pos) (Ya X.K ta tv f):=by
 intro pins s σ H D I h
 refine plainObj_wpAny_Assign_Attribute (aN (hv pins s σ H _ I h) λu s1 ⟨y,H1,I1,ry,q⟩=>aN (ha pins s1 σ H1 _ I1 q) λov s2 ⟨x,H2,I2,rx,a,C,dx,fs,ex,ea,c,n,l,q2⟩=>?_) hs
 subst ex
 obtain rfl:ov=dn a:=rx
 exact X7 I2 ea c n l ry λs3 I3=>⟨σ,_,I3,q2⟩
end
section
variable{X:Cx}{pins:List (Addr × Obj)}{σ:St}{H:Hp}{s:Shared}{A:Around}{E:Value->Shared->Prop}{Q:Value->Shared->Prop}{c:Value}{b:Bool}
inductive ia(K:PySem.W.Frag)(H:Hp):V->Value->Prop where
 | aq:ia K H .aq (.type "NoneType")
 | bl (x:Bool):ia K H (.bl x) (.type "bool")
 | int (i:Int):ia K H (.int i) (.type "int")
 | str (x:Str):ia K H (.str x) (.type "str")
 | qU (x:UInt64):ia K H (.qU x) (.type "float")
 | lst {a:Addr} {xs:List V} (e:H a=some (.lst xs)):ia K H (.ref a) (.type "list")
 | bu {a:Addr} {o:Obj} {xs:List V} (e:H a=some (.bu o (.lst xs))):ia K H (.ref a) (.type "list")
 | tup {a:Addr} {xs:List V} (e:H a=some (.tup xs)):ia K H (.ref a) (.type "tuple")
 | dK {a:Addr} {dU:List (Key × V)} (e:H a=some (.dK dU)):ia K H (.ref a) (.type "dict")
 | dT {a:Addr} {dU:List (List Key × V)} (e:H a=some (.dT dU)):ia K H (.ref a) (.type "dict")
 | ins {a C dx:Addr} {fs:List (Str × V)} (e:H a=some (.ins C dx fs)) (cl:df K C) (ha:PySem.W.findIn K (.ref C) "__class__"=some (some (.builtin "object.__class__")))
   (hn:PySem.W.specialIn K (.builtin "object.__class__") "__get__"=some (some (.builtin "getset_descriptor.__get__"))) (MN:PySem.W.takesIn K (.builtin "object.__class__")=some true)
   (hm:PySem.W.mroIn K C (.type "object")=some true):ia K H (.ref a) (.ref C)
theorem MP{x:V}{u t:Value}(I:Inv X pins σ H s)(rx:RelV x u)(ty:ia X.K H x t)(e:PySem.W.kitOne X.K t c=some b)(h:∀tk,Q (.bool b) { s with toks:=tk }) :
  wpAny (model X.prog X.w) A (call (.builtin "isinstance") [u,c]) Q E s:=by
 cases ty with
 | aq=>cases(show u=qJ from rx);exact PySem.W.kia_one PySem.W.kitx_none I.cR tR e (λz=>nomatch z) h
 | bl y=>cases(show u=Eg y from rx);exact PySem.W.kia_one PySem.W.kitx_bool I.cR tR e (λz=>nomatch z) h
 | int i=>obtain⟨t,q⟩:=(show ∃t,u=xf i t from rx);cases q;exact PySem.W.kia_one PySem.W.kitx_int I.cR tR e (λz=>nomatch z) h
 | str y=>obtain⟨t,q⟩:=(show ∃t,u=Value.str y t from rx);cases q;exact PySem.W.kia_one PySem.W.kitx_str I.cR tR e (λz=>nomatch z) h
 | qU y=>obtain⟨t,q⟩:=(show ∃t,u=Value.float y t from rx);cases q;exact PySem.W.kia_one PySem.W.kitx_float I.cR tR e (λz=>nomatch z) h
 | @lst a xs ea =>
  cases(show u=dn a from rx)
  obtain⟨_,_,n,_,h1⟩:=(show eC X.prog X.w H s.heap a (.lst xs) from I.aE a _ ea)
  exact PySem.W.kia_one PySem.W.kitx_list I.cR ⟨_,h1,rfl⟩ e (λz=>nomatch z) h
 | @bu a ob xs ea =>
  cases(show u=dn a from rx)
  obtain⟨_,_,_,n,_,h1⟩:=(show eC X.prog X.w H s.heap a (.bu ob (.lst xs)) from I.aE a _ ea)
  exact PySem.W.kia_one PySem.W.kitx_list I.cR ⟨_,h1,rfl⟩ e (λz=>nomatch z) h
 | @tup a xs ea =>
  cases(show u=dn a from rx)
  obtain⟨_,_,_,p⟩:=(show eC X.prog X.w H s.heap a (.tup xs) from I.aE a _ ea)
  obtain⟨o,h1,h2,_⟩:=p
  exact PySem.W.kia_one PySem.W.kitx_tuple I.cR ⟨o,h1,h2⟩ e (λz=>nomatch z) h
 | @dK a dU ea =>
  cases(show u=dn a from rx)
  obtain⟨_,_,vs,_,p⟩:=(show eC X.prog X.w H s.heap a (.dK dU) from I.aE a _ ea)
  obtain⟨o,es,ep,h1,h2,_⟩:=p
  exact PySem.W.kia_one PySem.W.kitx_dict I.cR ⟨o,h1,h2.1⟩ e (λz=>nomatch z) h
 | @dT a dU ea =>
  cases(show u=dn a from rx)
  obtain⟨_,_,xs,_,o,es,ep,h1,h2,_⟩:=(show eC X.prog X.w H s.heap a (.dT dU) from I.aE a _ ea)
  exact PySem.W.kia_one PySem.W.kitx_dict I.cR ⟨o,h1,h2.1⟩ e (λz=>nomatch z) h
 | @ins a C dx fs ea cl ha hn MN hm =>
  cases(show u=dn a from rx)
  obtain⟨mA,O,_⟩:=Br I.aE ea
  obtain⟨od,J,_⟩:=O.look
  exact PySem.W.kia_one (PySem.W.kitx_own (cl.get _) cl.hd ha hn MN hm) I.cR J e (λz=>nomatch z) h
end
end L2
namespace L2
open PySem PySem.Spec PyProof.Rows
structure bX(k:Nat)(A:Around):Prop where
 hd:A.handled=none
 dp:A.depth+3*k+5<recursionLimit
 un:A.units+16*k+200<cLine
theorem bX.mono{j k:Nat}{A:Around}(r:bX k A)(h:j<=k):bX j A:=⟨r.hd,by have:=r.dp;omega,by have:=r.un;omega⟩
theorem bX.deeper{k:Nat}{A:Around}(r:bX (k+1) A)(env:Env):bX k (A.deeper env) :=
 ⟨r.hd,by have:=r.dp;show A.depth+1+3*k+5<_;omega,by have:=r.un;show A.units+3+16*k+200<_;omega⟩
theorem Yb{A:Around}{C:Addr}{us:List Value}{kw:List (Str × Value)}:(A.under (.builtin "type.__call__" ⟨.ref C::us,kw⟩)).depth=A.depth+1:=by
 first | rfl | simp[Around.under,Code.weight,Code.isCreation,Code.isGuard,Code.isCaller,Code.frames,Code.isFrame,guardIds]
theorem Yc{A:Around}{C:Addr}{us:List Value}{kw:List (Str × Value)}:(A.under (.builtin "type.__call__" ⟨.ref C::us,kw⟩)).units=A.units+1:=by
 first | rfl | simp[Around.under,Code.cUnits,Code.frames,Code.isFrame]
theorem bX.make{k:Nat}{A:Around}(r:bX (k+1) A)(C:Addr)(us:List Value)(kw:List (Str × Value)):bX k (A.under (.builtin "type.__call__" ⟨.ref C::us,kw⟩)) :=
 ⟨r.hd,by have:=r.dp;rw[Yb];omega,by have:=r.un;rw[Yc];omega⟩
theorem bX.depth{k:Nat}{A:Around}(r:bX k A):A.depth<recursionLimit:=by have:=r.dp;omega
noncomputable def Yd:TA:=λ_ H Q=>Q [] H
noncomputable def Ye(ta:TE)(tr:TA):TA:=λσ H Q=>ta σ H λx H1=>tr σ H1 λxs H2=>Q (x::xs) H2
section
variable{X:Cx}{e:Expr}{es:List Expr}{te:TE}{t:TA}{pos:Pos}
theorem eX:PA X [] Yd:=λ_ _ _ _ H Q I h=>Calls.spliced_nil ⟨[],H,I,.nil,h⟩
theorem b8(ha:PE X e te)(hr:PA X es t)(hs:starEach (e::es) X.env=(false,eval e X.env)::starEach es X.env:=by rfl):PA X (e::es) (Ye te t):=by
 intro pos pins s σ H Q I h
 rw[hs]
 show wpAny _ _ (spliced ((false,eval e X.env)::backTo pos (starEach es X.env))) _ _ s
 refine Calls.spliced_cons (aN (ha pins s σ H _ I h) λu s1 ⟨x,H1,I1,r1,q1⟩=>?_)
 exact aN (hr pos pins s1 σ H1 _ I1 q1) λus s2 ⟨xs,H2,I2,r2,q2⟩=>⟨x::xs,H2,I2,.cons r1 r2,q2⟩
noncomputable def Yf(t:TA):TE:=λσ H Q=>t σ H λxs H1=>xs.length<=sizeLine/\∀p,H1 p=none->Q (.ref p) (upd H1 p (.tup xs))
noncomputable def Yg(t:TA):TE:=λσ H Q=>t σ H λxs H1=>xs.length<=sizeLine/\∀p,H1 p=none->Q (.ref p) (upd H1 p (.lst xs))
theorem Yh{x1}(h:PA X es t):PE X (.Tuple es x1 pos) (Yf t):=by
 intro pins s σ H Q I hq
 refine wpAny_Tuple_spliced (aN (h pos pins s σ H _ I hq) λus s1 ⟨xs,H1,I1,r,z,q⟩=>⟨by rw[<-r.length];exact z,?_⟩)
 have hf:H1 s1.heap.objs.size=none:=I1.aE.fresh (bD _)
 refine⟨.ref s1.heap.objs.size,upd H1 s1.heap.objs.size (.tup xs),I1.laid (t':=s1.toks) (λb u e=>fI _ e) (bD _) ?_,rfl,q _ hf⟩
 exact⟨z,us,r,⟨_,g7 _ rfl,rfl,_,rfl⟩⟩
theorem MQ(h:PA X es t):PE X (.List es pos) (Yg t):=by
 intro pins s σ H Q I hq
 refine wpAny_List_spliced (aN (h pos pins s σ H _ I hq) λus s1 ⟨xs,H1,I1,r,z,q⟩=>⟨by rw[<-r.length];exact z,?_⟩)
 have hf:H1 s1.heap.objs.size=none:=I1.aE.fresh (bD _)
 refine⟨.ref s1.heap.objs.size,upd H1 s1.heap.objs.size (.lst xs),I1.laid (t':=s1.toks) (λb u e=>fI _ e) (bD _) ?_,rfl,q _ hf⟩
 exact⟨z,us,0,r,g7 _ rfl⟩
end
noncomputable abbrev Sp:=List V->Hp->VK->XK->Prop
noncomputable abbrev eY:=List Env->Hp->Shared->XK->Value->Shared->Prop
structure jg(P:Program)(w:World)(K:PySem.W.Frag)(mg:Str->Option Value)(base:Heap)(A:Around)(outer:List Env)(s:Shared)(H:Hp):Prop where
 frames:A.frames=some outer
 mod:Mod K mg base
 bs:∀b o,base.get? b=some o->s.heap.get? b=some o/\H b=none
 i9:base.objs.size<=s.heap.objs.size
 gn:s.heap.FunFrames base outer
 jc:∀b∈dW outer,H b=none
 aE:cQ P w H s.heap
 bare:AllBare s.gens
noncomputable def CE(outer:List Env)(P:Program)(w:World)(H:Hp)(s:Shared)(Q:VK)(u:Value)(s':Shared):Prop :=
 ∃v H',s'.os=s.os/\AllBare s'.gens/\Un (dW outer) [] H H' s.heap s'.heap/\cQ P w H' s'.heap/\RelV v u/\Q v H'
noncomputable def CR(CX:eY)(outer:List Env)(P:Program)(w:World)(H:Hp)(s:Shared)(Q:VK)(E:XK)(r:Result)(s':Shared):Prop :=
 match r with
 | .ok (.ret u)=>CE outer P w H s Q u s'
 | .ok _=>False
 | .error e=>CX outer H s E e s'
structure aO(P:Program)(w:World)(K:PySem.W.Frag)(mg:Str->Option Value)(base:Heap)(CX:eY)(k:Nat)(f:Addr)(fd:FuncData)(ps:List Str)(sp:Sp):Prop where
 len:∀vs H Q E,sp vs H Q E->vs.length=ps.length
 run:∀(A:Around) (outer:List Env) (s:Shared) (H:Hp) (args:Args) (us:List Value) (vs:List V) (Q:VK) (E:XK),bX k A->jg P w K mg base A outer s H->BindsTo s fd args (ps.zip us)->Vals vs us->sp vs H Q E ->
  codeAny (model P w) A (.call (.ref f) args) (CR CX outer P w H s Q E) s
theorem aO.mono{P:Program}{w:World}{K:PySem.W.Frag}{mg:Str->Option Value}{base:Heap}{CX:eY}{j k:Nat}{f:Addr}{fd:FuncData}{ps:List Str}{sp:Sp}(F:aO P w K mg base CX j f fd ps sp)(h:j<=k) :
  aO P w K mg base CX k f fd ps sp:=⟨F.len,λA outer s H args us vs Q E hr=>F.run A outer s H args us vs Q E (hr.mono h)⟩
theorem aO.imp{P:Program}{w:World}{K:PySem.W.Frag}{mg:Str->Option Value}{base:Heap}{CX:eY}{k:Nat}{f:Addr}{fd:FuncData}{ps:List Str}{sp MR:Sp}(F:aO P w K mg base CX k f fd ps sp)
  (h:∀vs H Q E,MR vs H Q E->sp vs H Q E):aO P w K mg base CX k f fd ps MR :=
 ⟨λvs H Q E q=>F.len vs H Q E (h _ _ _ _ q),λA outer s H args us vs Q E hr he hb hv hs=>F.run A outer s H args us vs Q E hr he hb hv (h _ _ _ _ hs)⟩
theorem jg.make{P:Program}{w:World}{K:PySem.W.Frag}{mg:Str->Option Value}{base:Heap}{A:Around}{outer:List Env}{s:Shared}{H:Hp}(e:jg P w K mg base A outer s H)(C:Addr)(us:List Value)(kw:List (Str × Value)) :
  jg P w K mg base (A.under (.builtin "type.__call__" ⟨.ref C::us,kw⟩)) outer s H:=⟨by first | exact e.frames | (simpa[Around.under,Code.envs,Code.isFrame,pushEnvs]using e.frames),e.mod,e.bs,e.i9,e.gn,e.jc,e.aE,e.bare⟩
section
variable{X:Cx}{pins:List (Addr × Obj)}{σ:St}{H:Hp}{s s':Shared}
theorem Inv.uu(I:Inv X pins σ H s):jg X.prog X.w X.K X.mg X.base X.A X.stack s H :=
 ⟨I.ok.frames,I.ok.mod,I.bs,dy I.ok.i9 I.sz,I.stack,I.AY,I.aE,I.bare⟩
theorem Inv.after{Q:VK}{u:Value}(I:Inv X pins σ H s)(h:CE X.stack X.prog X.w H s Q u s'):EP X pins σ Q u s':=by
 obtain⟨v,H',os,bare,un,aE,r,q⟩:=h
 obtain⟨hh,g,d,t,Yi⟩:=s'
 obtain rfl:Yi=s.os:=os
 exact⟨v,H',I.call (h':=hh) (g':=g) (d':=d) (t':=t) (ch:=[]) un aE bare (λb z=>absurd z (by simp)),r,q⟩
end
noncomputable def Yj(sp:Sp)(fo:List V)(E:XK)(t:TA):TE:=λσ H Q=>t σ H λvs H1=>sp (vs++fo) H1 Q E
noncomputable def Yk(C:Addr)(m:Str)(sp:Sp)(fo:List V)(E:XK)(ta:TE)(t:TA):TE:=λσ H Q=>ta σ H λx H1=>∃a dx fs,x=.ref a/\H1 a=some (.ins C dx fs)/\fs.lookup m=none /\
 t σ H1 λvs H2=>sp (x::(vs++fo)) H2 Q E
noncomputable def Yl(C:Addr)(sp:Sp)(fo:List V)(E:XK)(t:TA):TE:=λσ H Q=>t σ H λvs H1=>∀x dx,H1 x=none->H1 dx=none->dx≠x ->
 sp (.ref x::(vs++fo)) (upd (upd H1 dx (.own x)) x (.ins C dx [])) (λv H2=>v=.aq/\Q (.ref x) H2) E
noncomputable def Binds(K:PySem.W.Frag)(fd:FuncData)(ps:List Str)(ds:List Value):Prop :=
 ∀(s:Shared) (us:List Value),K.In s.heap->(us++ds).length=ps.length->BindsTo s fd ⟨us,[]⟩ (ps.zip (us++ds))
theorem Binds.all{K:PySem.W.Frag}{fd:FuncData}{ps:List Str}(h:∀us:List Value,us.length=ps.length->bindArgs fd ⟨us,[]⟩=pure (ps.zip us)):Binds K fd ps []:=λs us _ hl=>by
 rw[eU]at hl ⊢
 exact .of_eq (h us hl)
noncomputable def kz(CX:eY)(X:Cx)(E:XK):Prop:=∀(pins:List (Addr × Obj)) (σ:St) (H:Hp) (s:Shared) (e:Value) (s':Shared),Inv X pins σ H s->CX X.stack H s E e s'->X.xe e s'
section
variable{X:Cx}{CX:eY}{k:Nat}{f C:Addr}{fd:FuncData}{ps:List Str}{sp:Sp}{fo:List V}{ds:List Value}{E:XK}{x m:Str}{p pos apos:Pos}{e o:Expr}{es:List Expr}{ta:TE}{t:TA}
theorem uv{pins:List (Addr × Obj)}{σ:St}{H:Hp}{s:Shared}{Q:VK}{us:List Value}{vs:List V}(F:aO X.prog X.w X.K X.mg X.base CX k f fd ps sp)(hr:bX k X.A)(hb:Binds X.K fd ps ds)(hd:Vals fo ds)(hx:kz CX X E)
  (I:Inv X pins σ H s) (r:Vals vs us) (h:sp (vs++fo) H Q E):wpAny (model X.prog X.w) X.A (call (.ref f) us) (EP X pins σ Q) X.xe s:=by
 have r2:Vals (vs++fo) (us++ds):=r.append hd
 have hl:(us++ds).length=ps.length:=by rw[<-r2.length];exact F.len _ _ _ _ h
 refine wpAny_call (codeAny_mono (F.run X.A X.stack s H ⟨us,[]⟩ (us++ds) (vs++fo) Q E hr I.uu (hb s us I.cR hl) r2 h) λr s' hq=>?_)
 cases r with
 | error e=>exact hx pins σ H s e s' I hq
 | ok fl =>
  cases fl with
  | ret u=>exact I.after hq
  | next=>exact fj hq
  | brk=>exact fj hq
  | cont=>exact fj hq
theorem jh(F:aO X.prog X.w X.K X.mg X.base CX k f fd ps sp)(hr:bX k X.A)(hg:Gl X x)(hm:X.mg x=some (.ref f))(hk:PySem.W.keepIn X.K (.ref f)=true)(hb:Binds X.K fd ps ds)(hd:Vals fo ds)(hx:kz CX X E)
  (ha:PA X (e::es) t) (dh:(x==("__debug__":Str))=false:=by decide) (he:starEach (e::es) X.env=(false,eval e X.env)::starEach es X.env:=by rfl) (bw:(backTo pos (starEach es X.env)).any (·.1)=false:=by rfl) :
  PE X (.Call (.Name x p) (e::es) [] pos) (Yj sp fo E t):=by
 intro pins s σ H Q I h
 refine wpAny_Call_Name_kw (qY I hg hm ?_ dh)
 refine PySem.W.callWith_K (h₀:=X.base) I.ok.mod.mC hk (aN (ha pos pins s σ H _ I h) λus s1 ⟨vs,H1,I1,r,q⟩=>⟨I1.cR,?_⟩) he bw
 exact uv F hr hb hd hx I1 r q
theorem Ym{pl:Sem Bool}(he:PE X o ta)(c:df X.K C)(hm:Meth X.K C m f)(F:aO X.prog X.w X.K X.mg X.base CX k f fd ps sp)(hr:bX k X.A)(hb:Binds X.K fd ps ds)(hd:Vals fo ds)(hx:kz CX X E)(ha:PA X (e::es) t)
  (cu:starEach (e::es) X.env=(false,eval e X.env)::starEach es X.env:=by rfl) (bw:(backTo pos (starEach es X.env)).any (·.1)=false:=by rfl)
  (ht:eval (.Call (.Attribute o m apos) (e::es) [] pos) X.env=(do
   let ov<-eval o X.env
   standAt apos.atName
   let (f,first)<-holding [ov] (getMethod ov m pl)
   callWith pos f first (backTo pos (starEach (e::es) X.env)) (backToKw pos (keywordEach [] X.env))):=by rfl) :
  PE X (.Call (.Attribute o m apos) (e::es) [] pos) (Yk C m sp fo E ta t):=by
 intro pins s σ H Q I h
 refine PySem.W.methodCall_KW (pl:=pl) (aN (he pins s σ H _ I h) λu s1 ⟨x,H1,I1,rx,a,dx,fs,ex,ea,l,q⟩=>?_) ht
 subst ex
 obtain rfl:u=dn a:=rx
 refine Bt I1 ea c hm l ?_
 refine PySem.W.callWith_K (first:=[.ref a]) (h₀:=X.base) I.ok.mod.mC hm.kp (aN (ha pos pins s1 σ H1 _ I1 q) λus s2 ⟨vs,H2,I2,r,q2⟩=>⟨I2.cR,?_⟩) cu bw
 exact uv (us:=.ref a::us) (vs:=.ref a::vs) F hr hb hd hx I2 (.cons rfl r) q2
structure Mk(K:PySem.W.Frag)(C f:Addr):Prop where
 makes:PySem.W.makesIn K C=true
 init:PySem.W.findIn K (.ref C) "__init__"=some (some (.ref f))
 fn:PySem.W.isFn K (.ref f)=true
 kp:PySem.W.keepIn K (.ref C)=true
theorem Yn{pins:List (Addr × Obj)}{σ:St}{H:Hp}{s:Shared}{Q:VK}{us:List Value}{vs:List V}(M:Mk X.K C f)(F:aO X.prog X.w X.K X.mg X.base CX k f fd ps sp)(hr:bX (k+1) X.A)(hb:Binds X.K fd ps ds)(hd:Vals fo ds)
  (hx:kz CX X E) (I:Inv X pins σ H s) (r:Vals vs us)
  (h:∀x dx,H x=none->H dx=none->dx≠x->sp (.ref x::(vs++fo)) (upd (upd H dx (.own x)) x (.ins C dx [])) (λv H2=>v=.aq/\Q (.ref x) H2) E) :
  wpAny (model X.prog X.w) X.A (call (.ref C) us) (EP X pins σ Q) X.xe s:=by
 have hq:=h (s.heap.objs.size+1) s.heap.objs.size (I.aE.fresh (Nat.le_succ _)) (I.aE.fresh (bD _)) (eT (Ei _))
 have I2:=Inv.made (C:=C) I
 have r2:Vals (V.ref (s.heap.objs.size+1)::(vs++fo)) (dn (s.heap.objs.size+1)::(us++ds)):=.cons rfl (r.append hd)
 have hl:(dn (s.heap.objs.size+1)::us++ds).length=ps.length:=by
  have e:=r2.length
  rw[F.len _ _ _ _ hq]at e
  exact e.symm
 refine wpAny_call (X3 (f:=f) I.cR M.makes M.init (beq_iff_eq.mp M.fn) (codeAny_mono (F.run _ X.stack _ _ ⟨dn (s.heap.objs.size+1)::us,[]⟩ (dn (s.heap.objs.size+1)::(us++ds)) _ _ E (hr.make C us [])
  (I2.uu.make C us []) (hb _ (dn (s.heap.objs.size+1)::us) I2.cR hl) r2 hq) λr s' nz=>?_))
 cases r with
 | error e=>exact hx pins σ _ _ e s' I2 nz
 | ok fl =>
  cases fl with
  | ret u =>
   obtain⟨v,H',I3,rv,ev,q3⟩:=I2.after nz
   subst ev
   exact⟨rv,⟨V.ref (s.heap.objs.size+1),H',I3,rfl,q3⟩⟩
  | next=>exact fj nz
  | brk=>exact fj nz
  | cont=>exact fj nz
theorem MS(M:Mk X.K C f)(F:aO X.prog X.w X.K X.mg X.base CX k f fd ps sp)(hr:bX (k+1) X.A)(hg:Gl X x)(hm:X.mg x=some (.ref C))(hb:Binds X.K fd ps ds)(hd:Vals fo ds)(hx:kz CX X E)
  (ha:PA X (e::es) t) (dh:(x==("__debug__":Str))=false:=by decide) (he:starEach (e::es) X.env=(false,eval e X.env)::starEach es X.env:=by rfl) (bw:(backTo pos (starEach es X.env)).any (·.1)=false:=by rfl) :
  PE X (.Call (.Name x p) (e::es) [] pos) (Yl C sp fo E t):=by
 intro pins s σ H Q I h
 refine wpAny_Call_Name_kw (qY I hg hm ?_ dh)
 refine PySem.W.callWith_K (h₀:=X.base) I.ok.mod.mC M.kp (aN (ha pos pins s σ H _ I h) λus s1 ⟨vs,H1,I1,r,q⟩=>⟨I1.cR,?_⟩) he bw
 exact Yn M F hr hb hd hx I1 r q
end
section
variable{X:Cx}{CX:eY}{k:Nat}{f C:Addr}{fd:FuncData}{ps ks:List Str}{sp:Sp}{E:XK}{x m:Str}{p pos apos dQ1:Pos}{e o:Expr}{es:List Expr}{kws:List Keyword}{te ta:TE}{t tk:TA}{nm:Option Str}
variable{g:List Value->List Value->List Value}{gV:List V->List V->List V}
end
structure bf(N P:List Str)(sc:Scope):Prop where
 kind:sc.kind=.function
 co:sc.isCoroutine=false
 gen:sc.isGenerator=false
 nd:N.Nodup
 pre:N.take P.length=P
 par:∀x∈P,sc.names.lookup x=some .local\/sc.names.lookup x=some .cell
 Yo:∀y∈sc.names,y.2≠.free
theorem MT{kindOf:Str->Option NameKind}{x:Str}:∀{binds:List (Str × Value)} {m:Str->Option Value},(∀v,(x,v) ∉ binds)->bindL kindOf binds m x=m x
 | [],_,_=>rfl
 | (n,v)::r,m,h=>by
  unfold bindL
  rw[MT λw hw=>h w (fh _ hw)]
  split
  ·have:x≠n:=by rintro rfl;exact h v gj
   simp[this]
  ·rfl
theorem MU{kindOf:Str->Option NameKind}{x:Str}:∀{binds:List (Str × Value)} {m:Str->Option Value},(∀v,(x,v) ∉ binds)->bindC kindOf binds m x=m x
 | [],_,_=>rfl
 | (n,v)::r,m,h=>by
  unfold bindC
  rw[MU λw hw=>h w (fh _ hw)]
  split
  ·rfl
  ·have:x≠n:=by rintro rfl;exact h v gj
   simp[this]
theorem MV{kindOf:Str->Option NameKind}{x:Str}{v:Value}:∀{P:List Str} {vs:List Value} {i:Nat} {m:Str->Option Value},P.Nodup->P[i]?=some x->vs[i]?=some v->kindOf x=some .local ->
  bindL kindOf (P.zip vs) m x=some v
 | [],_,_,_,_,h,_,_=>by simp at h
 | _::_,[],_,_,_,_,h,_=>by simp at h
 | p::P,w::vs,0,m,nd,h1,h2,hk=>by
  simp at h1 h2;subst h1;subst h2
  show bindL kindOf ((p,w)::P.zip vs) m p=_
  unfold bindL
  rw[MT λv hv=>(kS.mp nd).1 (Ao hv).1,if_pos hk]
  simp
 | p::P,w::vs,i+1,m,nd,h1,h2,hk=>by
  show bindL kindOf ((p,w)::P.zip vs) m x=_
  unfold bindL
  exact MV (i:=i) (kS.mp nd).2 (by simpa using h1) (by simpa using h2) hk
theorem MW{kindOf:Str->Option NameKind}{x:Str}{v:Value}:∀{P:List Str} {vs:List Value} {i:Nat} {m:Str->Option Value},P.Nodup->P[i]?=some x->vs[i]?=some v->kindOf x≠some .local ->
  bindC kindOf (P.zip vs) m x=some v
 | [],_,_,_,_,h,_,_=>by simp at h
 | _::_,[],_,_,_,_,h,_=>by simp at h
 | p::P,w::vs,0,m,nd,h1,h2,hk=>by
  simp at h1 h2;subst h1;subst h2
  show bindC kindOf ((p,w)::P.zip vs) m p=_
  unfold bindC
  rw[MU λv hv=>(kS.mp nd).1 (Ao hv).1,if_neg hk]
  simp
 | p::P,w::vs,i+1,m,nd,h1,h2,hk=>by
  show bindC kindOf ((p,w)::P.zip vs) m x=_
  unfold bindC
  exact MW (i:=i) (kS.mp nd).2 (by simpa using h1) (by simpa using h2) hk
noncomputable def start(N:List Str)(vs:List V):St:=vs.map some++aK (N.length-vs.length) none
noncomputable def ji(CX:eY)(P:Program)(w:World)(K:PySem.W.Frag)(mg:Str->Option Value)(base:Heap)(N:List Str)(qual:Str)(scope:Scope)(f:Addr)(cd:Value)(A:Around)(outer:List Env)(s:Shared)(H:Hp)(E:XK):Cx where
 prog:=P
 w:=w
 K:=K
 mg:=mg
 base:=base
 A:=A.deeper (envOfC qual scope s.heap.objs.size f cd)
 N:=N
 cJ:=s
 km:=H
 env:=envOfC qual scope s.heap.objs.size f cd
 outer:=outer
 stack:=envOfC qual scope s.heap.objs.size f cd::outer
 ex:=[]
 calm:=true
 fn:=λ_=>true
 pn:=[]
 xe:=λe s'=>wpAny (model P w) (A.deeper (envOfC qual scope s.heap.objs.size f cd)) (leaving (envOfC qual scope s.heap.objs.size f cd) e) (λ_ rp=>CX outer H s E e rp) (λe' rp=>CX outer H s E e' rp) s'
theorem MX{sc:Scope}{n:Nat}{x:Str}(h:sc.names.lookup x=some .cell):∃c,(cellsFrom n sc.names []).lookup x=some c:=by
 have q:=PySem.W.cellsFrom_some sc.names n [] (.inl h)
 exact Ap.mp q
theorem Yp{CX:eY}{P:Program}{w:World}{K:PySem.W.Frag}{mg:Str->Option Value}{base:Heap}{N ps:List Str}{qual:Str}{scope:Scope}{f:Addr}{cd:Value}{A:Around}{outer:List Env}{s s1:Shared}{H:Hp}{E:XK}{us:List Value}{vs:List V}
  (S:bf N ps scope) (hd:A.handled=none) (e0:jg P w K mg base A outer s H) (hl:vs.length=ps.length) (r:Vals vs us)
  (x:InCallC s s.heap.objs.size (bindL (envOfC qual scope s.heap.objs.size f cd).kindOf (ps.zip us) λ_=>none) (cellsFrom (s.heap.objs.size+1) scope.names []) (bindC (envOfC qual scope s.heap.objs.size f cd).kindOf (ps.zip us) λ_=>none) s1) :
  Inv (ji CX P w K mg base N qual scope f cd A outer s H E) [] (start N vs) H s1:=by
 have bw:ps.length<=N.length:=by have:=congrArg Ej S.pre;rw[fJ]at this;omega
 obtain⟨h1,tk,rfl,hk⟩:=x.done
 have xQ:∀b:Addr,b ∉ (ji CX P w K mg base N qual scope f cd A outer s H E).ex:=λb z=>absurd (show b∈([]:List Addr) from z) (by simp)
 refine⟨⟨e0.mod,S.kind,rfl,rfl,bD _,λy z c h1 h2=>?_,λy hy=>?_,λy c _ h=>?_,λ_=>hd,Around.frames_deeper e0.frames,.inr ⟨rfl,rfl⟩,λb z=>absurd z (xQ b),e0.bs,e0.i9,λb _ _=>xQ b,λb z=>absurd z (xQ b),e0.gn,e0.jc⟩,
  rfl,e0.bare,Un.kept hk,⟨_,x.toInCall.ns,λi y v h1 h2 h3=>?_⟩,λy c h=>⟨_,x.cell y c h⟩,e0.aE.fresh (bD _),λy c h=>?_,λp hp=>absurd (show p∈([]:List (Addr × Obj)) from hp) (by simp),e0.aE.kept hk,?_⟩
 ·exact name_of_addr x.apart (PySem.mem_of_lookup h1) (PySem.mem_of_lookup h2)
 ·have hy:scope.names.lookup y=some .cell\/scope.names.lookup y=some .free:=hy
  rcases hy with hy | hy
  ·exact MX hy
  ·exact absurd rfl (S.Yo _ (PySem.mem_of_lookup hy))
 ·exact oU (x.above y c (PySem.mem_of_lookup h))
 ·have hi:i<vs.length:=by
   unfold start at h2
   by_cases hi:i<vs.length
   ·exact hi
   ·rw[m8 (by simpa using hi)]at h2
    rw[m9]at h2
    split at h2<;>cases h2
  have ha:vs[i]?=some v:=by
   unfold start at h2
   rw[oX (by simpa using hi),cB]at h2
   cases e:vs[i]? with
   | none=>rw[e]at h2;cases h2
   | some a=>rw[e]at h2;cases h2;rfl
  obtain⟨u,hu,rv⟩:=r.get ha
  have hp:ps[i]?=some y:=by
   rw[<-S.pre,V0 (by omega)];exact h1
  have MY:ps.Nodup:=by rw[<-S.pre];exact S.nd.sublist (List.take_sublist _ _)
  refine⟨u,rv,?_⟩
  rcases S.par y (tS hp)with k | k
  ·exact .inl ⟨k,MV MY hp hu k⟩
  ·obtain⟨c,e⟩:=MX (n:=s.heap.objs.size+1) k
   refine .inr ⟨.inl k,c,e,?_⟩
   have q:=x.cell y c e
   rw[MW MY hp hu (by show scope.names.lookup y≠_;rw[k];decide)]at q
   exact q
 ·exact e0.aE.fresh (oU (x.above y c (PySem.mem_of_lookup h)))
 ·unfold start
  show _=N.length
  rw[cy,aY,dA]
  omega
theorem Ff{CX:eY}{P:Program}{w:World}{K:PySem.W.Frag}{mg:Str->Option Value}{base:Heap}{k:Nat}{f:Addr}{name qual:Str}{params:Arguments}{body:List Stmt}{scope:Scope}{dV kV doc pm aH ct oc:Value}{an od:Option Addr}
  {mF:Array (Option Value)} {N ps:List Str} {sp:Sp} (lk:K.lookup f=some ⟨oc,od,.func (PySem.W.fnOf name qual params body scope dV kV doc pm an aH ct),mF⟩) (cM:PySem.W.codeIn K aH qual=true) (S:bf N ps scope)
  (len:∀vs H Q E,sp vs H Q E->vs.length=ps.length)
  (iN:∀(A:Around) (outer:List Env) (s:Shared) (H:Hp) (vs:List V) (Q:VK) (E:XK),bX k (A.deeper (envOfC qual scope s.heap.objs.size f aH))->sp vs H Q E ->
   ∃t,PSs (ji CX P w K mg base N qual scope f aH A outer s H E) body t/\t { nx:=λ_ H'=>Q .aq H',rt:=Q } (start N vs) H) :
  aO P w K mg base CX (k+1) f (PySem.W.fnOf name qual params body scope dV kV doc pm an aH ct) ps sp:=by
 refine⟨len,λA outer s H args us vs Q E hr e0 hb r jj=>?_⟩
 have hl:=len _ _ _ _ jj
 have KX:K.In s.heap:=e0.mod.mC.keeps λb o e=>(e0.bs b o e).1
 have lim:s.heap.NoLimit:=e0.mod.nolimit.keeps λb o e=>(e0.bs b o e).1
 have jk:∀y∈ps.zip us,scope.names.lookup y.1=some .local\/(scope.names.lookup y.1=some .cell/\((cellsFrom (s.heap.objs.size+1) scope.names []).lookup y.1).isSome=true):=λ⟨n,v⟩ hy=>by
  rcases S.par n (Ao hy).1 with q | q
  ·exact .inl q
  ·exact .inr ⟨q,PySem.W.cellsFrom_some _ _ _ (.inl q)⟩
 refine codeAny_call_function hr.depth (KX _ _ lk) rfl S.co S.gen rfl (PySem.W.codeRec_of KX cM) (hb _ _ _ _ ?_)
 refine wpAny_newFunctionEnv_cells S.kind jk λenv he s1 x=>?_
 subst he
 refine⟨lim.keeps x.toInCall.keep,codeAny_func ?_⟩
 obtain⟨t,ht,hq⟩:=iN A outer s H vs Q E (hr.deeper _) jj
 have I:Inv (ji CX P w K mg base N qual scope f aH A outer s H E) [] (start N vs) H s1:=Yp S hr.hd e0 hl r x
 refine wpAny_mono (ht [] s1 (start N vs) H _ I hq) (λfl s' hs=>?_) λe s' hs=>hs
 have fin:∀{aC:St} {H':Hp} {v:V} {u:Value},Inv (ji CX P w K mg base N qual scope f aH A outer s H E) [] aC H' s'->RelV v u->Q v H'->CE outer P w H s Q u s' :=
  λ{aC H' v u} J rv q=>⟨v,H',J.os,J.bare,J.base,J.aE,rv,q⟩
 cases fl with
 | ret u =>
  obtain⟨v,aC,H',J,rv,q⟩:=hs
  exact fin J rv q
 | next =>
  obtain⟨aC,H',J,q⟩:=hs
  exact fin (v:=V.aq) (u:=qJ) J rfl q
 | brk =>
  obtain⟨_,_,_,q⟩:=hs
  exact fj q
 | cont =>
  obtain⟨_,_,_,q⟩:=hs
  exact fj q
end L2
namespace L2
open PySem PySem.Spec PyProof.Rows
section
variable{X:Cx}{x:Str}{p pos:Pos}{e:Expr}{es:List Expr}{t:TA}{id T:String}{r:List V->Hp->VK->Prop}
noncomputable def Fg(r:List V->Hp->VK->Prop)(t:TA):TE:=λσ H Q=>t σ H λvs H1=>r vs H1 Q
theorem Bu(hc:hJ X (.builtin id) r)(hg:Gl X x)(hm:X.mg x=none)(hv:bootBuiltins x=some (.builtin id))(ha:PA X (e::es) t)(hn:x≠"__name__":=by decide)(dh:(x==("__debug__":Str))=false:=by decide)
  (he:starEach (e::es) X.env=(false,eval e X.env)::starEach es X.env:=by rfl) (bw:(backTo pos (starEach es X.env)).any (·.1)=false:=by rfl):PE X (.Call (.Name x p) (e::es) [] pos) (Fg r t):=by
 intro pins s σ H Q I h
 refine wpAny_Call_Name_kw (qZ I hg hm hv ?_ hn dh)
 exact PyProof.Rows.callWith_builtin1 (aN (ha pos pins s σ H _ I h) λus s1 ⟨vs,H1,I1,r1,q1⟩=>hc pins s1 σ H1 vs us Q I1 r1 q1) he bw
theorem Yq(hc:hJ X (.type T) r)(hg:Gl X x)(hm:X.mg x=none)(hv:bootBuiltins x=some (.type T))(ha:PA X (e::es) t)(hn:x≠"__name__":=by decide)(dh:(x==("__debug__":Str))=false:=by decide)
  (he:starEach (e::es) X.env=(false,eval e X.env)::starEach es X.env:=by rfl) (bw:(backTo pos (starEach es X.env)).any (·.1)=false:=by rfl):PE X (.Call (.Name x p) (e::es) [] pos) (Fg r t):=by
 intro pins s σ H Q I h
 refine wpAny_Call_Name_kw (qZ I hg hm hv ?_ hn dh)
 exact Am (aN (ha pos pins s σ H _ I h) λus s1 ⟨vs,H1,I1,r1,q1⟩=>hc pins s1 σ H1 vs us Q I1 r1 q1) he bw
end
end L2
namespace HT
open PySem PyProof.Rows
section
open PySem.SeqAt
open PySem.AutoSeq1 (wpAny_loadPart')
open PySem.MeetsSeq PySem.MeetsSeq2 PySem.MeetsSeq3
end
section
variable{prog:Program}{w:World}{A:Around}{E:Value->Shared->Prop}{s:Shared}
noncomputable def di(n d:Nat):Option Int->Nat
 | none=>d
 | some v=>if v<0 then(v+(n:Int)).toNat else min v.toNat n
theorem Fh(n d k:Nat):di n d (some (k:Int))=min k n:=by
 show(if(k:Int)<0 then((k:Int)+(n:Int)).toNat else min (k:Int).toNat n)=min k n
 rw[if_neg (by omega),iJ]
end
end HT
namespace L2
open PySem PySem.Spec PyProof.Rows
noncomputable abbrev TO:=St->Hp->(Option Int->Hp->Prop)->Prop
noncomputable def PO(X:Cx)(e:Option Expr)(t:TO):Prop :=
 ∀(pins:List (Addr × Obj)) (s:Shared) (σ:St) (H:Hp) (Q:Option Int->Hp->Prop),Inv X pins σ H s->t σ H Q ->
  wpAny (model X.prog X.w) X.A (evalPart e X.env) (λu s'=>∃o H',Inv X pins σ H' s'/\IsPart u o/\Q o H') X.xe s
noncomputable def Yr:TO:=λ_ H Q=>Q none H
noncomputable def Ys(t:TE):TO:=λσ H Q=>t σ H λx H1=>∃i,x=.int i/\Q (some i) H1
theorem Yt{ns:List Int}:∀{us:List Value},Vals (ns.map V.int) us->IntsAre us ns:=by
 induction ns with
 | nil=>intro us r;rw[kg]at r;cases r;exact .nil
 | cons n ns ih =>
  intro us r
  rw[da]at r
  cases r with
  | cons r1 r2 =>
   obtain⟨t,e⟩:=r1
   subst e
   exact .cons n t (ih r2)
section
variable{X:Cx}{e:Expr}{te:TE}{lo hi:Option Expr}{tl th:TO}{pos p2:Pos}
theorem Yu:PO X none Yr:=by
 intro pins s σ H Q I h
 rw[evalPart_none]
 exact wpAny_pure ⟨none,H,I,.none,h⟩
theorem Yv(h:PE X e te):PO X (some e) (Ys te):=by
 intro pins s σ H Q I hw
 rw[evalPart_some]
 refine aN (h pins s σ H _ I hw) λu s1 ⟨x,H1,I1,r1,q1⟩=>?_
 obtain⟨i,rfl,q⟩:=q1
 obtain⟨t,rfl⟩:=r1
 exact⟨some i,H1,I1,.int i t,q⟩
noncomputable def rq(X:Cx)(r:V->Option Int->Option Int->Hp->VK->Prop):Prop :=
 ∀(pins:List (Addr × Obj)) (s:Shared) (σ:St) (H:Hp) (x:V) (v vl vu:Value) (lo hi:Option Int) (sl:Addr) (Q:VK),Inv X pins σ H s->RelV x v->s.heap.IsSliceOf sl vl vu .none->IsPart vl lo->IsPart vu hi->r x lo hi H Q ->
  ∃T id,typeLookup (.type T) "__getitem__"=pure (some (.builtin id))/\s.TypeIs v T/\wpAny (model X.prog X.w) X.A (getItem v (.ref sl)) (EP X pins σ Q) X.xe s
theorem rq.or{r r':V->Option Int->Option Int->Hp->VK->Prop}(h:rq X r)(h':rq X r'):rq X (λx lo hi H Q=>r x lo hi H Q\/r' x lo hi H Q):=by
 intro pins s σ H x v vl vu lo hi sl Q I rx hs pl pu q
 rcases q with q | q
 ·exact h pins s σ H x v vl vu lo hi sl Q I rx hs pl pu q
 ·exact h' pins s σ H x v vl vu lo hi sl Q I rx hs pl pu q
noncomputable def Yw(r:V->Option Int->Option Int->Hp->VK->Prop)(te:TE)(tl th:TO):TE:=λσ H Q=>te σ H λx H1=>tl σ H1 λl H2=>th σ H2 λu H3=>r x l u H3 Q
theorem Yx{r:V->Option Int->Option Int->Hp->VK->Prop}(hr:rq X r)(he:PE X e te)(hl:PO X lo tl)(hu:PO X hi th):PE X (.Subscript e (.Slice lo hi none p2) pos) (Yw r te tl th):=by
 intro pins s σ H Q I h
 refine Subscript_ (aN (he pins s σ H _ I h) λv s1 ⟨x,H1,I1,r1,q1⟩=>?_)
 refine wpAny_Slice (aN (hl pins s1 σ H1 _ I1 q1) λvl s2 ⟨l,H2,I2,pl,q2⟩=>aN (hu pins s2 σ H2 _ I2 q2) λvu s3 ⟨u,H3,I3,pu,q3⟩=>?_)
 rw[evalPart_none]
 refine wpAny_pure ?_
 have I4:Inv X pins σ H3 { s3 with heap:=s3.heap.push { cls:=.type "slice",data:=.fields #[vl,vu,.none] } }:=I3.kept (t':=s3.toks) λb ob q=>fI _ q
 obtain⟨T,id,hT,ht,hg⟩:=hr pins { s3 with heap:=s3.heap.push { cls:=.type "slice",data:=.fields #[vl,vu,.none] } } σ H3 x v vl vu l u s3.heap.objs.size Q I4 r1 (Heap.IsSliceOf.new ..) pl pu q3
 show wpAny (model X.prog X.w) X.A (subscriptTail e (.Slice lo hi none p2) v (.ref s3.heap.objs.size)) (EP X pins σ Q) X.xe { s3 with heap:=s3.heap.push { cls:=.type "slice",data:=.fields #[vl,vu,.none] } }
 exact tail_any (ops:=[.ref s3.heap.objs.size,v]) ht hT hg (by with_unfolding_all rfl)
noncomputable def uw(xs:List V)(lo hi:Option Int):List V:=(xs.drop (HT.di xs.length 0 lo)).take (HT.di xs.length xs.length hi-HT.di xs.length 0 lo)
theorem Yy(xs:List V)(lo hi:Option Int):(uw xs lo hi).length<=xs.length:=by
 unfold uw
 rw[fJ,fA]
 omega
end
end L2
namespace L2
open PySem PySem.Spec PyProof.Rows
noncomputable def jl(n:Nat)(i:Int):Option Nat:=if 0<=i then(if i<n then some i.toNat else none)else if -(n:Int)<=i then some (i+n).toNat else none
noncomputable def fq{α:Type}(xs:List α)(i:Int):Option α:=(jl xs.length i).bind λj=>xs[j]?
theorem MZ{n:Nat}{i:Int}{j:Nat}(h:jl n i=some j):seqIndex? i n=some j/\j<n/\-(n:Int)<=i/\i<n:=by
 unfold jl at h
 by_cases h0:0<=i
 ·rw[if_pos h0]at h
  by_cases h1:i<n
  ·rw[if_pos h1]at h
   have e:i.toNat=j:=cT h
   exact⟨by rw[seqIndex_of h0 h1,e],by omega,by omega,h1⟩
  ·rw[if_neg h1]at h;cases h
 ·rw[if_neg h0]at h
  by_cases h1:-(n:Int)<=i
  ·rw[if_pos h1]at h
   have e:(i+n).toNat=j:=cT h
   exact⟨by rw[seqIndex_neg (by omega) h1,e],by omega,h1,by omega⟩
  ·rw[if_neg h1]at h;cases h
theorem pL{α:Type}{xs:List α}{i:Int}{v:α}(h:fq xs i=some v):∃j,seqIndex? i xs.length=some j/\xs[j]?=some v/\j<xs.length/\-(xs.length:Int)<=i/\i<xs.length:=by
 unfold fq at h
 cases e:jl xs.length i with
 | none=>rw[e]at h;cases h
 | some j =>
  rw[e]at h
  obtain⟨h1,h2,h3,h4⟩:=MZ e
  exact⟨j,h1,h,h2,h3,h4⟩
noncomputable def M0(b:Expr):Prop:=∀o i,subscripted b false o i=operate [o,i] (getItem o i)
noncomputable def nB(X:Cx)(r:R2):Prop :=
 ∀(value slice:Expr) (pins:List (Addr × Obj)) (s:Shared) (σ:St) (H:Hp) (x y:V) (v u:Value) (Q:VK),Inv X pins σ H s->RelV x v->RelV y u->r x y H Q ->
  subscripted slice false v u=operate [v,u] (getItem v u)->wpAny (model X.prog X.w) X.A (subscriptTail value slice v u) (EP X pins σ Q) X.xe s
noncomputable def xR(X:Cx)(id:String)(r:V->List V->Hp->VK->Prop):Prop :=
 ∀(pins:List (Addr × Obj)) (s:Shared) (σ:St) (H:Hp) (x:V) (xs:List V) (v:Value) (us:List Value) (Q:VK),Inv X pins σ H s->RelV x v->Vals xs us->r x xs H Q ->
  wpAny (model X.prog X.w) X.A (call (.builtin id) (v::us)) (EP X pins σ Q) X.xe s
section
variable{X:Cx}{a b:Expr}{ta tb:TE}{pos:Pos}
theorem nB.or{r r':R2}(h:nB X r)(h':nB X r'):nB X (λx y H Q=>r x y H Q\/r' x y H Q):=by
 intro value slice pins s σ H x y v u Q I rx ry q hs
 rcases q with q | q
 ·exact h value slice pins s σ H x y v u Q I rx ry q hs
 ·exact h' value slice pins s σ H x y v u Q I rx ry q hs
theorem Yz{r:R2}(hr:nB X r)(ha:PE X a ta)(hb:PE X b tb)(hs:M0 b):PE X (.Subscript a b pos) (xN r ta tb):=by
 intro pins s σ H Q I h
 exact Subscript_ (E9 ha hb I h λv u s2 x y H2 I2 rx ry q=>hr a b pins s2 σ H2 x y v u Q I2 rx ry q (hs _ _))
noncomputable def M1(K:PySem.W.Frag):R2:=λx y H Q=>∃p xs i v,x=.ref p/\y=.int i/\bF K H p xs/\fq xs i=some v/\Q v H
noncomputable def M3(K:PySem.W.Frag):R2:=λx y H Q=>∃p xs i v,x=.ref p/\y=.int i/\g9 K H p xs/\fq xs i=some v/\Q v H
noncomputable def M4:R2:=λx y H Q=>∃z i c,x=.str z/\y=.int i/\z.length<=sizeLine/\fq z.cps.toList i=some c/\Q (.str ⟨#[c]⟩) H
theorem YA:nB X (M1 X.K):=by
 intro value slice pins s σ H x y v u Q I rx ry h hs
 obtain⟨p,xs,i,z,rfl,rfl,hq,he,q⟩:=h
 cases rx
 obtain⟨t,rfl⟩:=ry
 obtain⟨its,r,pl,hz⟩:=I.list hq
 obtain⟨j,h1,h2,h3,h4,h5⟩:=pL he
 obtain⟨w,ew,fL⟩:=r.get h2
 have hl:=r.length
 have hn:=rj
 have fin:EP X pins σ Q w s:=⟨z,H,I,fL,q⟩
 by_cases h0:0<=i
 ·have hj:i.toNat=j:=by
   rw[seqIndex_of h0 h5]at h1
   exact cT h1
  exact item_listR pl.isList h0 (by omega) (by rw[hj];simpa using ew) fin hs
 ·have hj:(i+(its.toArray.size:Int)).toNat=j:=by
   rw[seqIndex_neg (by omega) h4]at h1
   rw[dN,<- hl]
   exact cT h1
  exact subscriptTail_builtinR (x:=w) pl.isList.typeIs slot_list_getitem.lookup
   (wpAny_getItem_list_neg (Q:=λr s'=>r=w/\EP X pins σ Q r s') pl.isList (by omega) (by rw[dN]<;>omega) (by omega) (by rw[hj];simpa using ew) ⟨rfl,fin⟩) hs
theorem YB:nB X (M3 X.K):=by
 intro value slice pins s σ H x y v u Q I rx ry h hs
 obtain⟨p,xs,i,z,rfl,rfl,hq,he,q⟩:=h
 cases rx
 obtain⟨t,rfl⟩:=ry
 obtain⟨its,r,pl,hz⟩:=I.tuple hq
 obtain⟨j,h1,h2,h3,h4,h5⟩:=pL he
 obtain⟨w,ew,fL⟩:=r.get h2
 have hl:=r.length
 have hn:=rj
 have fin:EP X pins σ Q w s:=⟨z,H,I,fL,q⟩
 exact subscriptTail_builtinR (x:=w) pl.typeIs slot_tuple_getitem.lookup
  (getItem_tuple (j:=j) (Q:=λr s'=>r=w/\EP X pins σ Q r s') pl (by omega) (by omega) (by rw[dN,<- hl];exact h1) (by simpa using ew) ⟨rfl,fin⟩) hs
theorem YC:nB X M4:=by
 intro value slice pins s σ H x y v u Q I rx ry h hs
 obtain⟨z,i,c,rfl,rfl,hz,he,q⟩:=h
 obtain⟨t,rfl⟩:=rx
 obtain⟨t',rfl⟩:=ry
 obtain⟨j,h1,h2,h3,h4,h5⟩:=pL he
 have hl:z.cps.toList.length=z.length:=by simp[Str.length]
 rw[hl]at h1 h4 h5
 have hn:=rj
 exact tail_any (typeIs_str s z t) slot_str_getitem.lookup (getItem_str (c:=c) (by
  have e1:decide (i < -(2 ^ 63:Int))=false:=decide_eq_false (by omega)
  have e2:decide (i ≥ 2 ^ 63)=false:=decide_eq_false (by omega)
  rw[e1,e2,xj]) (by rw[h1];simpa using h2) ⟨.str ⟨#[c]⟩,H,I.tok _,⟨_,rfl⟩,q⟩) hs
noncomputable def YD(K:PySem.W.Frag):R2:=λx y H Q=>M1 K x y H Q\/M3 K x y H Q\/M4 x y H Q
theorem YE:nB X (YD X.K):=YA.or (YB.or YC)
theorem YF(its:List Value)(n j:Nat)(u:Value):Aq (·.setIfInBounds j u) { cls:=.type "list",data:=.seq its.toArray n }={ cls:=.type "list",data:=.seq (its.set j u).toArray n }:=by
 simp[Aq]
theorem Inv.lst{pins:List (Addr × Obj)}{σ:St}{H:Hp}{s:Shared}{p:Addr}{xs:List V}(I:Inv X pins σ H s)(h:H p=some (.lst xs)) :
  ∃(its:List Value) (n:Nat),Vals xs its/\s.heap.get? p=some { cls:=.type "list",data:=.seq its.toArray n }/\xs.length<=sizeLine:=by
 obtain⟨z,its,n,r,e⟩:=I.aE p _ h
 exact⟨its,n,r,e,z⟩
theorem Inv.YG{pins:List (Addr × Obj)}{σ:St}{H:Hp}{s:Shared}{p:Addr}{xs ys:List V}{its its':List Value}{n n':Nat}{f:Obj->Obj}(I:Inv X pins σ H s)(h:H p=some (.lst xs))
  (ho:s.heap.get? p=some { cls:=.type "list",data:=.seq its.toArray n }) (hf:f { cls:=.type "list",data:=.seq its.toArray n }={ cls:=.type "list",data:=.seq its'.toArray n' }) (r:Vals ys its') (hz:ys.length<=sizeLine) (t:Nat) :
  Inv X pins σ (upd H p (.lst ys)) { s with heap:=s.heap.update p f,toks:=t }:=by
 have e:(s.heap.update p f).get? p=some { cls:=.type "list",data:=.seq its'.toArray n' }:=by
  rw[Ek f ho (by rw[hf]<;>rfl),hf]
 refine I.write (x:=p) (e:=p) (by rw[h];trivial) (.inl rfl) (λb u hb q=>(qL _ _ (fi hb)).trans q) ⟨_,e⟩ ?_
 exact⟨hz,its',n',r,e⟩
noncomputable def YH:V->V->V->Hp->(Hp->Prop)->Prop:=λo i v H Q=>∃p xs k j,o=.ref p/\i=.int k/\H p=some (.lst xs)/\jl xs.length k=some j/\Q (upd H p (.lst (xs.set j v)))
theorem M5:EZ X YH:=by
 intro pins s σ H o i v ov iv u Q I ro ri rv h
 obtain⟨p,xs,k,j,rfl,rfl,hp,hj,q⟩:=h
 cases ro
 obtain⟨t,rfl⟩:=ri
 obtain⟨its,n,r,ho,hz⟩:=I.lst hp
 obtain⟨h1,h2,h3,h4⟩:=MZ hj
 have hl:=r.length
 have hn:=rj
 have I':Inv X pins σ (upd H p (.lst (xs.set j v))) { s with heap:=s.heap.update p (Aq (·.setIfInBounds j u)) } :=
  I.YG hp ho (YF its n j u) (r.set rv j) (by rw[qM];exact hz) s.toks
 by_cases h0:0<=k
 ·have hk:k.toNat=j:=by
   rw[seqIndex_of h0 h4]at h1
   exact cT h1
  exact PySem.W.ki_setAt ho h0 (by omega) (by rw[dN,<- hl];exact h4) (by rw[hk];exact⟨_,I',q⟩)
 ·have hk:(k+(its.toArray.size:Int)).toNat=j:=by
   rw[seqIndex_neg (by omega) h3]at h1
   rw[dN,<- hl]
   exact cT h1
  exact PySem.W.ki_setBack ho (by omega) (by rw[dN,<- hl];exact h3) (by omega) (by rw[hk];exact⟨_,I',q⟩)
theorem Fj(lo hi:Option Int)(n:Nat):(sliceBounds lo hi none n).1=((HT.di n 0 lo:Nat):Int)/\(sliceBounds lo hi none n).2.1=((HT.di n n hi:Nat):Int)/\(sliceBounds lo hi none n).2.2=1:=by
 refine⟨?_,?_,rfl⟩
 ·cases lo with
  | none=>simp[sliceBounds,HT.di]
  | some i =>
   simp only[sliceBounds,HT.di,tT,show(1:Int)>0 by decide,if_true]
   by_cases h:i<0
   ·simp only[h,if_true]<;>omega
   ·simp only[h,if_false]<;>omega
 ·cases hi with
  | none=>simp[sliceBounds,HT.di]
  | some i =>
   simp only[sliceBounds,HT.di,tT,show(1:Int)>0 by decide,if_true]
   by_cases h:i<0
   ·simp only[h,if_true]<;>omega
   ·simp only[h,if_false]<;>omega
theorem YI(its:List Value)(lo hi:Option Int):slicePick its.toArray lo hi none=((its.drop (HT.di its.length 0 lo)).take (HT.di its.length its.length hi-HT.di its.length 0 lo)).toArray:=by
 obtain⟨h1,h2,h3⟩:=Fj lo hi its.toArray.size
 unfold slicePick
 rw[h1,h2,h3]
 simp only[sliceRange_one,pick_run,dN]<;>rfl
noncomputable def YJ(K:PySem.W.Frag):V->Option Int->Option Int->Hp->VK->Prop:=λx lo hi H Q=>∃a xs,x=.ref a/\bF K H a xs/\∀p,H p=none->Q (.ref p) (upd H p (.lst (uw xs lo hi)))
theorem YK:rq X (YJ X.K):=by
 intro pins s σ H x v vl vu lo hi sl Q I rx hs pl pu h
 obtain⟨a,xs,rfl,hx,q⟩:=h
 cases rx
 obtain⟨its,r,ht,hz⟩:=I.list hx
 have hlen:=r.length
 refine⟨"list",_,slot_list_getitem.lookup,ht.isList.typeIs,?_⟩
 refine wpAny_getItem_list_slice ht.isList hs pl pu .none (by simp) ?_ (by rw[dN]<;>omega)
 rw[YI,<- hlen]
 refine⟨.ref s.heap.objs.size,_,I.laid (t':=s.toks) (o:=.lst (uw xs lo hi)) (λb ob q=>fI _ q) (bD _) ?_,rfl,q _ (I.aE.fresh (bD _))⟩
 exact⟨dy (Yy xs lo hi) hz,_,0,(r.drop (HT.di xs.length 0 lo)).take (HT.di xs.length xs.length hi-HT.di xs.length 0 lo),g7 _ rfl⟩
noncomputable def nC:V->Bool
 | .aq=>true
 | .bl _=>true
 | .int _=>true
 | .str _=>true
 | _=>false
noncomputable def mG:V->V->Bool
 | .aq,.aq=>true
 | .bl a,.bl b=>a==b
 | .bl a,.int b=>(if a then 1 else 0)==b
 | .int a,.bl b=>a==(if b then 1 else 0)
 | .int a,.int b=>a==b
 | .str a,.str b=>a==b
 | _,_=>false
theorem YL{A:Around}{s:Shared}{y x:V}{u v:Value}(ry:RelV y u)(rx:RelV x v)(fy:nC y=true)(fx:nC x=true):El A s u v (mG y x):=by
 cases y with
 | aq =>
  cases ry
  cases x with
  | aq=>cases rx;exact SeqAt.EqAt.same _
  | bl b=>cases rx;exact SeqAt.EqAt.none_bool b
  | int b=>obtain⟨t,rfl⟩:=rx;exact SeqAt.EqAt.none_int b t
  | str b=>obtain⟨t,rfl⟩:=rx;exact SeqAt.EqAt.none_str b t
  | _=>exact absurd (show false=true from fx) iH
 | bl a =>
  cases ry
  cases x with
  | aq=>cases rx;exact SeqAt.EqAt.bool_none a
  | bl b=>cases rx;exact SeqAt.EqAt.bool_bool a b
  | int b=>obtain⟨t,rfl⟩:=rx;exact SeqAt.EqAt.bool_int a b t
  | str b=>obtain⟨t,rfl⟩:=rx;exact SeqAt.EqAt.bool_str a b t
  | _=>exact absurd (show false=true from fx) iH
 | int a =>
  obtain⟨t',rfl⟩:=ry
  cases x with
  | aq=>cases rx;exact SeqAt.EqAt.int_none a t'
  | bl b=>cases rx;exact SeqAt.EqAt.int_bool a t' b
  | int b=>obtain⟨t,rfl⟩:=rx;exact SeqAt.EqAt.int_int a t' b t
  | str b=>obtain⟨t,rfl⟩:=rx;exact SeqAt.EqAt.int_str a t' b t
  | _=>exact absurd (show false=true from fx) iH
 | str a =>
  obtain⟨t',rfl⟩:=ry
  cases x with
  | aq=>cases rx;exact SeqAt.EqAt.str_none a t'
  | bl b=>cases rx;exact SeqAt.EqAt.str_bool a t' b
  | int b=>obtain⟨t,rfl⟩:=rx;exact SeqAt.EqAt.str_int a t' b t
  | str b=>obtain⟨t,rfl⟩:=rx;exact SeqAt.EqAt.str_str a t' b t
  | _=>exact absurd (show false=true from fx) iH
 | _=>exact absurd (show false=true from fy) iH
noncomputable def nD(x:V)(u:Value):Bool:=match u with
 | .none=>mG .aq x
 | .bool b=>mG (.bl b) x
 | .int i _=>mG (.int i) x
 | .str z _=>mG (.str z) x
 | _=>false
theorem M6{x y:V}{u:Value}(r:RelV y u)(f:nC y=true):nD x u=mG y x:=by
 cases y with
 | aq=>cases r;rfl
 | bl b=>cases r;rfl
 | int i=>obtain⟨t,rfl⟩:=r;rfl
 | str z=>obtain⟨t,rfl⟩:=r;rfl
 | _=>exact absurd (show false=true from f) iH
theorem Fl{x:V}:∀{xs:List V} {us:List Value},Vals xs us->xs.all nC=true->us.any (nD x)=xs.any λy=>mG y x
 | _,_,.nil,_=>rfl
 | y::xs,u::us,.cons r t,f=>by
  rw[dB,eV]at f
  rw[List.any_cons,List.any_cons,M6 r f.1,Fl t f.2]
theorem Fo{A:Around}{s:Shared}{x:V}{v:Value}(rx:RelV x v)(fx:nC x=true):∀{xs:List V} {us:List Value},Vals xs us->xs.all nC=true->∀u∈us,El A s u v (nD x u)
 | _,_,.nil,_=>λu hu=>by cases hu
 | y::xs,u::us,.cons r t,f=>λu' hu=>by
  rw[dB,eV]at f
  rcases cL.mp hu with rfl | hu
  ·rw[M6 r f.1];exact YL r rx f.1 fx
  ·exact Fo rx fx t f.2 u' hu
noncomputable def Bv(x:V)(xs:List V):Bool:=xs.any λy=>mG y x
noncomputable def YM(K:PySem.W.Frag)(neg:Bool):R2:=λx y H Q=>∃p xs,y=.ref p/\(bF K H p xs\/g9 K H p xs)/\nC x=true/\xs.all nC=true/\Q (.bl (if neg then !Bv x xs else Bv x xs)) H
theorem YN:cN X (compareOp .NotIn) (YM X.K true):=by
 intro pins s σ H x y v u Q I rx ry h
 obtain⟨p,xs,rfl,hq,fx,fs,q⟩:=h
 cases ry
 rcases hq with hq | hq
 ·obtain⟨its,r,pl,hz⟩:=I.list hq
  refine SeqAt.notIn_listAt (nD x) pl.isList (λw hw=>Fo rx fx r fs w (by simpa using hw)) ⟨.bl _,H,I,rfl,?_⟩
  rw[show its.toArray.any (nD x)=its.any (nD x) by simp,Fl r fs]
  exact q
 ·obtain⟨its,r,pl,hz⟩:=I.tuple hq
  refine SeqAt.notIn_tupleAt (nD x) pl (λw hw=>Fo rx fx r fs w (by simpa using hw)) ⟨.bl _,H,I,rfl,?_⟩
  rw[show its.toArray.any (nD x)=its.any (nD x) by simp,Fl r fs]
  exact q
theorem M7:hJ X (.builtin "len") (λxs H Q=>∃p ys,xs=[.ref p]/\(bF X.K H p ys\/g9 X.K H p ys)/\Q (.int ys.length) H):=by
 intro pins s σ H xs us Q I r h
 obtain⟨p,ys,rfl,hq,q⟩:=h
 obtain⟨u,rfl,rx⟩:=xP r
 cases rx
 have hn:=rj
 rcases hq with hq | hq
 ·obtain⟨its,r',pl,hz⟩:=I.list hq
  have hlen:=r'.length
  exact Calls.call_len_list pl.isList (by simp only[dN]<;>omega) ⟨.int ys.length,H,I.tok _,⟨s.toks+1,by rw[dN,hlen]⟩,q⟩
 ·obtain⟨its,r',pl,hz⟩:=I.tuple hq
  have hlen:=r'.length
  exact len_tuple pl (by simp only[dN]<;>omega) ⟨.int ys.length,H,I.tok _,⟨s.toks+1,by rw[dN,hlen]⟩,q⟩
theorem YO:hJ X (.builtin "len") (λxs H Q=>∃z,xs=[.str z]/\z.length<=sizeLine/\Q (.int z.length) H):=by
 intro pins s σ H xs us Q I r h
 obtain⟨z,rfl,hz,q⟩:=h
 obtain⟨u,rfl,t,rfl⟩:=xP r
 have hn:=rj
 exact len_str (by omega) ⟨.int z.length,H,I.tok _,⟨_,rfl⟩,q⟩
theorem hJ.or{f:Value}{r r':List V->Hp->VK->Prop}(h:hJ X f r)(h':hJ X f r'):hJ X f (λxs H Q=>r xs H Q\/r' xs H Q):=by
 intro pins s σ H xs us Q I rs q
 rcases q with q | q
 ·exact h pins s σ H xs us Q I rs q
 ·exact h' pins s σ H xs us Q I rs q
theorem YQ:hJ X (.type "list") (λxs H Q=>∃p ys,xs=[.ref p]/\(bF X.K H p ys\/g9 X.K H p ys)/\∀l,H l=none->Q (.ref l) (upd H l (.lst ys))):=by
 intro pins s σ H xs us Q I r h
 obtain⟨p,ys,rfl,hq,q⟩:=h
 obtain⟨u,rfl,rx⟩:=xP r
 cases rx
 have fin:∀(its:List Value),Vals ys its->ys.length<=sizeLine->∀(h':Heap) (c':Nat),(∀b o',s.heap.get? b=some o'->h'.get? b=some o') ->
   h'.get? s.heap.objs.size=some { cls:=.type "list",dict:=none,data:=.seq its.toArray c',slots:=#[] }->EP X pins σ Q (.ref s.heap.objs.size) { s with heap:=h' }:=λits r' hz h' c' kp e =>
  ⟨.ref s.heap.objs.size,_,I.laid (t':=s.toks) kp (bD _) (show eC X.prog X.w _ h' _ (.lst ys) from⟨hz,its,c',r',e⟩),rfl,q _ (I.aE.fresh (bD _))⟩
 rcases hq with hq | hq
 ·obtain⟨its,r',pl,hz⟩:=I.list hq
  have hlen:=r'.length
  obtain⟨o,ho,hc,n,hd⟩:=pl.isList
  exact call_list_seq p (.inl rfl) ho hc hd (λh' c' kp e=>fin its r' hz h' c' kp e) (by simp only[dN]<;>omega)
 ·obtain⟨its,r',pl,hz⟩:=I.tuple hq
  have hlen:=r'.length
  obtain⟨o,ho,hc,n,hd⟩:=pl
  exact call_list_seq p (.inr rfl) ho hc hd (λh' c' kp e=>fin its r' hz h' c' kp e) (by simp only[dN]<;>omega)
noncomputable def Fp(K:PySem.W.Frag)(T:String)(x:V)(H:Hp):Prop:=match x with
 | .str _=>T="str"
 | .int _=>T="int"
 | .ref p=>(T="list"/\∃xs,bF K H p xs)\/(T="tuple"/\∃o,K.lookup p=some o/\o.cls=.type "tuple"/\o.dict=none) \/
   (T="dict"/\((∃dU,H p=some (.dK dU))\/∃dU,H p=some (.dT dU)))\/(T="set"/\∃S n,H p=some (.set S n))
 | _=>False
theorem M8{pins:List (Addr × Obj)}{σ:St}{H:Hp}{s:Shared}{T:String}{x:V}{v:Value}(I:Inv X pins σ H s)(r:RelV x v)(ty:Fp X.K T x H) :
  s.TypeIs v T/\∀a,v=.ref a->∃ob,s.heap.get? a=some ob/\ob.dict=none:=by
 cases x with
 | str z =>
  obtain⟨t,rfl⟩:=r
  cases(show T="str" from ty)
  exact⟨typeIs_str s z t,λ_ e=>nomatch e⟩
 | int i =>
  obtain⟨t,rfl⟩:=r
  cases(show T="int" from ty)
  exact⟨typeIs_int s i t,λ_ e=>nomatch e⟩
 | ref p =>
  cases r
  rcases ty with⟨rfl,xs,hq⟩ | ⟨rfl,o,hk,hc,hd⟩ | ⟨rfl,hk⟩ | ⟨rfl,S,n,hk⟩
  ·obtain⟨its,_,pl,_⟩:=I.list hq
   refine⟨pl.isList.typeIs,λa e=>?_⟩
   cases e
   obtain⟨o,n,e,c,hd,_⟩:=pl
   exact⟨o,e,hd⟩
  ·refine⟨⟨o,I.cR p o hk,hc⟩,λa e=>?_⟩
   cases e
   exact⟨o,I.cR _ o hk,hd⟩
  ·have z:∃o,s.heap.get? p=some o/\o.ExactDict:=by
    rcases hk with⟨dU,hk⟩ | ⟨dU,hk⟩
    ·obtain⟨_,_,_,_,o,_,_,e,ex,_⟩:=I.aE p _ hk
     exact⟨o,e,ex⟩
    ·obtain⟨_,_,_,_,o,_,_,e,ex,_⟩:=I.aE p _ hk
     exact⟨o,e,ex⟩
   obtain⟨o,e,ex⟩:=z
   refine⟨⟨o,e,ex.1⟩,λa e2=>?_⟩
   cases e2
   exact⟨o,e,ex.2.1⟩
  ·obtain⟨o,_,_,_,e,ex,_⟩:=I.aE p _ hk
   refine⟨⟨o,e,ex.1⟩,λa e2=>?_⟩
   cases e2
   exact⟨o,e,ex.2.1⟩
 | _=>exact fj ty
noncomputable def M9(K:PySem.W.Frag)(T:String)(r:V->List V->Hp->VK->Prop)(to:TE):TE:=λσ H Q=>to σ H λx H1=>Fp K T x H1/\r x [] H1 Q
noncomputable def YR(K:PySem.W.Frag)(T:String)(r:V->List V->Hp->VK->Prop)(to:TE)(t:TA):TE:=λσ H Q=>to σ H λx H1=>Fp K T x H1/\t σ H1 λxs H2=>r x xs H2 Q
variable{o e:Expr}{es:List Expr}{to:TE}{t:TA}{name:Str}{apos bE:Pos}{T id:String}{r:V->List V->Hp->VK->Prop}
theorem YS(pa:PlainAttrs T)(slot:Slot T name id)(Fq:typeOf (.builtin id)=pure (.type "method_descriptor"))(hm:xR X id r)(ho:PE X o to)
  (jP:attributeBase o name X.env (eval o X.env)=eval o X.env:=by rfl) (jQ:(apos.endLine==bE.line)=true:=by rfl):PE X (.Call (.Attribute o name apos) [] [] bE) (M9 X.K T r to):=by
 intro pins s σ H Q I h
 refine wpAny_Call_method0_late jP jQ (aN (ho pins s σ H _ I h) λv s1 ⟨x,H1,I1,r1,ty,q1⟩=>?_)
 obtain⟨h1,h2⟩:=M8 I1 r1 ty
 exact⟨T,id,pa,slot,Fq,h1,h2,Calls.callWith_builtin rfl (PySem.evalArgs_none (hm pins s1 σ H1 x [] v [] Q I1 r1 .nil q1))⟩
theorem Fs(pa:PlainAttrs T)(slot:Slot T name id)(Fq:typeOf (.builtin id)=pure (.type "method_descriptor"))(hm:xR X id r)(ho:PE X o to)(ha:PA X (e::es) t)
  (jP:attributeBase o name X.env (eval o X.env)=eval o X.env:=by rfl)
  (rz:((backTo bE (starEach (e::es) X.env)).all (λx=>!x.1)&&(backToKw bE (keywordEach [] X.env)).all (λx=>x.1.isSome)
   && decide ((e::es).length+([]:List Keyword).length+(if([]:List Keyword).isEmpty then 0 else 1)<30))=true:=by rfl)
  (jQ:(apos.endLine==bE.line)=true:=by rfl) (hs:starEach (e::es) X.env=(false,eval e X.env)::starEach es X.env:=by rfl) (rA:(backTo bE (starEach es X.env)).any (·.1)=false:=by rfl) :
  PE X (.Call (.Attribute o name apos) (e::es) [] bE) (YR X.K T r to t):=by
 intro pins s σ H Q I h
 refine wpAny_Call_method_late jP rz jQ rfl (aN (ho pins s σ H _ I h) λv s1 ⟨x,H1,I1,r1,ty,q1⟩=>?_)
 obtain⟨h1,h2⟩:=M8 I1 r1 ty
 refine⟨T,id,pa,slot,Fq,h1,h2,?_⟩
 have hA:=ha bE pins s1 σ H1 _ I1 q1
 rw[hs]at hA ⊢
 refine Calls.callWith_builtin (by show(false||(backTo bE (starEach es X.env)).any (·.1))=false;rw[rA]<;>rfl) (Calls.evalArgs_plain ?_)
 exact aN hA λus s2 ⟨vs,H2,I2,r2,q2⟩=>hm pins s2 σ H2 x vs v us Q I2 r1 r2 q2
/- xs.append(e),list.index on a dQ3 tuple .. are xR facts of 06m -/
end
end L2
namespace L2
open PySem PySem.Spec PyProof.Rows
noncomputable def Na(X:Cx)(id:String)(r:V->List V->Hp->VK->Prop):Prop :=
 ∀(pins:List (Addr × Obj)) (s:Shared) (σ:St) (H:Hp) (x:V) (xs:List V) (v:Value) (us:List Value) (Q:VK),Inv X pins σ H s->RelV x v->Vals xs us->r x xs H Q ->
  wpAny (model X.prog X.w) X.A (call (.builtin id) (v::us)) (EP X pins σ Q) X.xe s
theorem Vals.one:∀{x:V} {us:List Value},Vals [x] us->∃u,us=[u]/\RelV x u
 | _,_,h=>by cases h with | cons r h=>cases h;exact⟨_,rfl,r⟩
theorem Vals.two:∀{x y:V} {us:List Value},Vals [x,y] us->∃u v,us=[u,v]/\RelV x u/\RelV y v
 | _,_,_,h=>by cases h with | cons r h=>cases h with | cons q h=>cases h;exact⟨_,_,rfl,r,q⟩
theorem Vals.rep{xs:List V}{us:List Value}(h:Vals xs us):∀k:Nat,Vals (aK k xs).flatten (aK k us).flatten
 | 0=>.nil
 | k+1=>by
  rw[qN,qN,oY,oY]
  exact Vals.append h (Vals.rep h k)
theorem Nb(its:List Value):∀(k:Nat) (acc:List Value),
  List.foldl (λx1 x2=>x1++x2) acc.toArray (aK k its.toArray)=(acc++(aK k its).flatten).toArray
 | 0,acc=>by simp
 | k+1,acc=>by
  have e:acc.toArray++its.toArray=(acc++its).toArray:=by simp
  have e2:(acc++its)++(aK k its).flatten=acc++(aK (k+1) its).flatten:=by
   rw[qN,oY,dO]
  rw[<-e2,<- Nb its k (acc++its),<- e,qN,oZ]
section
variable{X:Cx}{pins:List (Addr × Obj)}{σ:St}{H:Hp}{s:Shared}{l b:Addr}{xs ys zs:List V}
theorem Inv.Nc{its its':List Value}{n:Nat}{f:Array Value->Array Value}{t':Nat}(I:Inv X pins σ H s)(hH:H l=some (.lst xs))
  (e:s.heap.get? l=some { cls:=.type "list",data:=.seq its.toArray n }) (hf:f its.toArray=its'.toArray) (hv:Vals ys its') (hz:ys.length<=sizeLine) :
  Inv X pins σ (upd H l (.lst ys)) { s with heap:=s.heap.update l (Aq f),toks:=t' }:=by
 have q:=PySem.IsL.update e f
 rw[hf]at q
 refine I.write (x:=l) (e:=l) (by rw[hH];exact trivial) (.inl rfl) (λb' u hb hu=>(qL s.heap (Aq f) (fi hb)).trans hu) ⟨_,q⟩ ?_
 exact⟨hz,its',_,hv,q⟩
theorem Inv.Nd{its:List Value}{t':Nat}(I:Inv X pins σ H s)(hv:Vals ys its)(hz:ys.length<=sizeLine) :
  Inv X pins σ (upd H s.heap.objs.size (.lst ys)) { s with heap:=s.heap.push { cls:=.type "list",data:=.seq its.toArray },toks:=t' } :=
 I.laid (λ_ _ q=>fI _ q) (bD _) ⟨hz,its,0,hv,g7 _ rfl⟩
theorem Inv.fresh(I:Inv X pins σ H s):H s.heap.objs.size=none:=I.aE.fresh (bD _)
theorem Inv.uz(I:Inv X pins σ H s)(hH:H l=some (.lst xs)):xs.length<=sizeLine/\∃(its:List Value) (n:Nat),Vals xs its/\xs.length=its.length/\s.heap.get? l=some { cls:=.type "list",data:=.seq its.toArray n }:=by
 obtain⟨z,its,n,r,e⟩:=I.aE l _ hH
 exact⟨z,its,n,r,r.length,e⟩
theorem Nf{n:Nat}(h:n<=sizeLine):Em n=false:=by
 unfold Em
 exact decide_eq_false (by omega)
end
section
variable{X:Cx}
noncomputable def YT:V->List V->Hp->VK->Prop:=λx vs H Q=>∃l xs y,x=.ref l/\vs=[y]/\H l=some (.lst xs)/\xs.length<sizeLine/\Q .aq (upd H l (.lst (xs++[y])))
theorem Ng:Na X "list.append" YT:=by
 intro pins s σ H x vs v us Q I rx rv h
 obtain⟨l,xs,y,rfl,rfl,hH,hz,q⟩:=h
 cases rx
 obtain⟨u,rfl,ru⟩:=rv.one
 obtain⟨z,its,n,r,hl,e⟩:=I.uz hH
 refine call_meets F.slot_list_append ⟨_,e,rfl⟩ F.entry_list_append (F.args_list_append_2 _ _) (PySem.list_append l its.toArray n u (by rw[dN];omega)) ⟨e,?_⟩
 refine⟨.aq,_,I.Nc (its':=its++[u]) hH e (by simp) (r.append (.cons ru .nil)) ?_,rfl,q⟩
 rw[cy,kT]
 omega
noncomputable def YU:V->List V->Hp->VK->Prop:=λx vs H Q=>∃l b xs zs,x=.ref l/\vs=[.ref b]/\H l=some (.lst xs)/\H b=some (.lst zs)/\xs.length+zs.length<=sizeLine/\Q .aq (upd H l (.lst (xs++zs)))
theorem YV:Na X "list.extend" YU:=by
 intro pins s σ H x vs v us Q I rx rv h
 obtain⟨l,b,xs,zs,rfl,rfl,hH,hB,hz,q⟩:=h
 cases rx
 obtain⟨u,rfl,ru⟩:=rv.one
 cases ru
 obtain⟨z,its,n,r,hl,e⟩:=I.uz hH
 obtain⟨z2,rB,n2,r2,xS,e2⟩:=I.uz hB
 have ky:its.toArray.size+rB.toArray.size<=sizeLine:=by rw[dN,dN];omega
 have Ft:¬ (!its.toArray.isEmpty&&Em (its.toArray.size+rB.toArray.size))=true:=by
  rw[Nf ky,LB]
  exact iH
 refine call_meets F.slot_list_extend ⟨_,e,rfl⟩ F.entry_list_extend (F.args_list_extend_2 _ _)
  (AutoSeq1.list_extend_list_list_0 l its.toArray n b rB.toArray n2 Ft (by rw[dN];omega) (by omega)) ⟨e,e2,?_⟩
 refine⟨.aq,_,I.Nc (its':=its++rB) hH e (by simp) (r.append r2) ?_,rfl,q⟩
 rw[cy]
 omega
noncomputable def YW:R2:=λx y H Q=>∃l b xs zs,x=.ref l/\y=.ref b/\H l=some (.lst xs)/\H b=some (.lst zs)/\xs.length+zs.length<=sizeLine/\∀p,H p=none->Q (.ref p) (upd H p (.lst (xs++zs)))
theorem Nh:cN X (binaryOp .Add) YW:=by
 intro pins s σ H x y v u Q I rx ry h
 obtain⟨l,b,xs,zs,rfl,rfl,hH,hB,hz,q⟩:=h
 cases rx
 cases ry
 obtain⟨z,its,n,r,hl,e⟩:=I.uz hH
 obtain⟨z2,rB,n2,r2,xS,e2⟩:=I.uz hB
 refine PySem.P.add_list e e2 ?_ (by rw[dN,dN];omega)
 have ea:its.toArray++rB.toArray=(its++rB).toArray:=by simp
 rw[ea]
 exact⟨.ref _,_,I.Nd (t':=s.toks) (r.append r2) (by rw[cy];omega),rfl,q _ I.fresh⟩
noncomputable def YX:R2:=λx y H Q=>∃l k xs,x=.ref l/\y=.int k/\H l=some (.lst xs)/\-(2 ^ 63)<=k/\k<2 ^ 63/\xs.length*k.toNat<=sizeLine /\
 ∀p,H p=none->Q (.ref p) (upd H p (.lst (aK k.toNat xs).flatten))
theorem YY{α:Type}(xs:List α)(k:Nat):(aK k xs).flatten.length=k*xs.length:=by
 induction k with
 | zero=>simp
 | succ k ih=>rw[qN,oY,cy,ih,Nat.succ_mul,Ar]
theorem YZ:cN X (binaryOp .Mult) YX:=by
 intro pins s σ H x y v u Q I rx ry h
 obtain⟨l,k,xs,rfl,rfl,hH,h1,h2,hz,q⟩:=h
 cases rx
 obtain⟨t,rfl⟩:=ry
 obtain⟨z,its,n,r,hl,e⟩:=I.uz hH
 have hlen:its.toArray.size*k.toNat<=sizeLine:=by rw[dN,<- hl];exact hz
 have Y0:¬ its.toArray.size*k.toNat>(2 ^ 63-1)/8:=by
  have:(sizeLine:Nat)<=(2 ^ 63-1)/8:=by decide
  omega
 have Y1:¬ (!Builtin.List.listFitsIndex k)=true:=by
  rw[fitsIndex_both h1 h2]
  exact iH
 have Ft:¬ Em (its.toArray.size*k.toNat)=true:=by
  rw[Nf hlen]
  exact iH
 have Y2:List.foldl (λx1 x2=>x1++x2) #[] (aK (if its.toArray.isEmpty=true then 0 else k.toNat) its.toArray)=(aK k.toNat its).flatten.toArray:=by
  have f0:∀m:Nat,List.foldl (λx1 x2=>x1++x2) #[] (aK m its.toArray)=(aK m its).flatten.toArray:=λm=>by
   have:=Nb its m []
   rw[pd]at this
   exact this
  rw[f0]
  cases its with
  | nil=>simp
  | cons a r'=>rw[if_neg (by simp)]
 refine wpAny_binaryOp_repeat_ref (T:="list") (U:="int") (by decide) ⟨_,e,rfl⟩ (λs'=>typeIs_int s' k t) noFill_list_mul F.fills_int_mul F.slot_int_rmul repeat_list F.slot_int_index.lookup
  (call_meets F.slot_int_rmul (typeIs_int s k t) F.entry_int_rmul (F.args_int_rmul_2 _ _) (int___rmul___int_list k t l its.toArray n)
   ⟨e,rfl,⟨_,e,rfl⟩,call_meets F.slot_list_mul ⟨_,e,rfl⟩ F.entry_list_mul (F.args_list_mul_2 _ _) (AutoListH.list___mul___list_int_3 l its.toArray n k t Y1 Y0 Ft) ⟨e,?_⟩⟩)
 rw[Y2]
 exact⟨.ref _,_,I.Nd (t':=s.toks) (r.rep k.toNat) (by rw[YY,kU];exact hz),rfl,q _ I.fresh⟩
end
section
variable{prog:Program}{w:World}{A:Around}{E:Value->Shared->Prop}{s:Shared}
end
section
variable{X:Cx}
end
end L2
namespace Att
open PySem PySem.W PySem.Calls PyProof.Rows
theorem Y3{P:Params}{h:Heap}:∀(ns:List Int) (vs:List Value),WellAll P h vs (ns.map WData.int)->IntsAre vs ns:=by
 intro ns
 induction ns with
 | nil =>
  intro vs w
  rw[kg]at w
  cases w
  exact .nil
 | cons n ns ih =>
  intro vs w
  rw[da]at w
  cases w with
  | cons a b =>
   cases a
   exact .cons _ _ (ih _ b)
theorem Y4{l:OpenLaw}{n:Nat}(hn:l.most=some n){P:Params}{h:Heap}{args:List WData}{vals:List Value}
  (Bw:l.row.toRowW.claim.pre args=true) (Fu:WellAll P h vals args) :
  ∃a vs ns,vals=[dn a]/\args=[WData.list (ns.map WData.int)]/\h.get? a=some { cls:=.type "list",data:=.seq vs.toArray }/\IntsAre vs ns/\ns.length<=n:=by
 have xT:WShape.hasAll [] args [.list .int]=true:=(pre_splitW Bw).1
 have hc:l.pre.holds [] { args:=args }=true:=(pre_splitW Bw).2
 obtain⟨d,r,rfl,h1,h2⟩:=hasAllW_cons xT
 obtain rfl:=hasAllW_nil h2
 obtain⟨xs,rfl,h3⟩:=hasW_list h1
 obtain⟨ns,rfl⟩:=items_int h3
 have hlen:ns.length<=n:=by
  unfold OpenLaw.pre at hc
  have h4:(WTm.not (.lt (.lit (.int (n:Int))) (.len (.arg 0)))).holds [] { args:=[.list (ns.map .int)] }=true:=by
   have h4:=(holds_andW hc).1
   rw[hn]at h4
   exact h4
  have h5:=condW_of h4 (w_not (w_lt w_lit (w_len_list (w_arg rfl))))
  rw[aY]at h5
  refine Eo λq=>?_
  have q':(n:Int)<((ns.length:Nat):Int):=by omega
  first
   | (rw[decide_eq_true q']at h5;exact absurd h5 (by decide))
   | (simp at h5;omega)
 cases Fu with
 | cons w1 w2 =>
  cases w2
  cases w1 with
  | list ho Y5=>exact⟨_,_,ns,rfl,rfl,ho,Y3 ns _ Y5,hlen⟩
theorem Y6(l:OpenLaw)(args:List WData):l.row.toRowW.claim.post args (.bool true) args=true :=
 postW_of (r:=l.row.toRowW) (X:=(true==true))
  (show WShape.has [] (.bool true) .bool=true by first | rfl | decide | simp[WShape.has,WShape.arms,WShape.armsAll])
  (show(WTm.eq .res (.lit (.bool true))).value [] { args:=args,res:=some (.bool true),after:=args }=some (.bool (true==true)) from w_eq_bool (w_res rfl) w_lit) rfl
theorem Y7{l:OpenLaw}{n:Nat}{q:Program}{loose:List Str}{XP:(Str->Option Value)->Heap->Prop}{YP:World->Heap->Prop}{d:DefRec}
  (hn:l.most=some n) (xU:d.params.defaults=[])
  (call:∀(w:World) (cJ bA:Shared) (mg mb:Str->Option Value) (fa:Addr) (o:Obj) (pm cd doc:Value) (a:Addr) (vs:List Value) (ns:List Int),
   Ground q loose [] XP w cJ mg mb bA.heap->YP w bA.heap ->
   bA.heap.get? fa=some o->o.data=.func (docDef d.name d.params d.body d.scope pm cd doc)->bA.heap.CodeRec cd d.name->mg d.name=some (.ref fa) ->
   bA.heap.get? a=some { cls:=.type "list",data:=.seq vs.toArray }->IntsAre vs ns->ns.length<=n->bA.gens=#[] ->
   codeAny (model l.prog w) callerA (.call (.ref fa) ⟨[.ref a],[]⟩) (λr s'=>r=.ok (.ret (.bool true))/\OldK bA.heap s'.heap/\s'.os=bA.os/\AllBare s'.gens) bA) :
  WalkO q loose XP YP l.row.toRowW d [] (λf vs=>PySem.call f vs):=by
 intro w cJ bA mg mb G Y fa o pm cd doc dV kV ho hd cM hD xV hg args vals as Bw dQ4 hrd Fu eD
 obtain rfl:dV=.none:=Dflts.none hD xU
 obtain rfl:kV=.none:=Dflts.noKw hD
 obtain⟨a,vs,ns,rfl,rfl,Fv,hints,hlen⟩:=Y4 hn Bw Fu
 refine enter_call (codeAny_mono (call w cJ bA mg mb fa o pm cd doc a vs ns G Y ho (fd_plain hd) cM xV Fv hints hlen hg) λr s' hq=>?_)
 obtain⟨rfl,h2,h3,h4⟩:=hq
 exact⟨.inl ⟨.bool true,.bool true,[],rfl,λ_=>rfl,.bool true,Y6 l _,λ_=>⟨LC,λ_ hm=>(nomatch hm)⟩⟩,h2,h3,h4⟩
section
variable{prog:Program}{w:World}{A:Around}{E:Value->Shared->Prop}{s:Shared}{K:Frag}
end
end Att
namespace L2
open PySem PySem.Spec PyProof.Rows
theorem Ni:∀{vs:List Value} {ns:List Int},IntsAre vs ns->Vals (ns.map V.int) vs
 | _,_,.nil=>.nil
 | _,_,.cons n t h=>.cons ⟨t,rfl⟩ (Ni h)
end L2
namespace L2
open PySem PySem.Spec PyProof.Rows
end L2
/- THE dQ7 dQ8 (shape;LID,My.* are dR0):
   My.gb: a structure of Nj addresses dR3 dR4 dR5 names (classes,dR6);My.Txt K t: a structure (Prop) of Nj equations over K;
   My.dR7:{K} {implicit addresses ..} (e1:nsIn K mainGlobals "law"=some (some (.ref f))) (e2:K.lookup f=some ⟨oc,od,.func (fnOf "law" "law" params body scope dV kV doc pm an aH ct),sl⟩) (e3:codeIn K aH "law"=true) ..:∃t,My.Txt K t
(Nj tactic k_is has no namespace: write k_is) -/
namespace L2
open PySem PySem.Spec PyProof.Rows
noncomputable def gF(s:Stmt)(j:Nat):Stmt:=match s with
 | .ClassDef _ _ _ body _ _ _ _ _ _ _=>body.getD j (.Pass ⟨0,0,0,0⟩)
 | _=>.Pass ⟨0,0,0,0⟩
noncomputable def mH(s:Stmt):Arguments:=match s with
 | .FunctionDef _ a _ _ _ _ _ _ _ _=>a
 | _=>{ posonlyargs:=[],args:=[],vararg:=none,kwonlyargs:=[],kw_defaults:=[],kwarg:=none,defaults:=[] }
noncomputable def iO(s:Stmt):List Stmt:=match s with
 | .FunctionDef _ _ b _ _ _ _ _ _ _=>b
 | _=>[]
noncomputable def aT(s:Stmt):Scope:=match s with
 | .FunctionDef _ _ _ _ _ _ sc _ _ _=>sc
 | _=>{ kind:=.function,names:=[],isGenerator:=false,isCoroutine:=false }
noncomputable abbrev aZ:eY:=λ_ _ _ _ _ _=>False
noncomputable abbrev E0:XK:=λ_ _ _=>False
theorem dX{X:Cx}:kz aZ X E0:=λ_ _ _ _ _ _ _ h=>h.elim
structure bg(K:PySem.W.Frag)(x qual:Str)(st:Stmt)(f:Addr)(fd:FuncData):Prop where
 ex:∃(oc:Value) (od:Option Addr) (kV doc pm:Value) (an:Option Addr) (aH ct:Value) (mF:Array (Option Value)),
  fd=PySem.W.fnOf x qual (mH st) (iO st) (aT st) .none kV doc pm an aH ct/\K.lookup f=some ⟨oc,od,.func fd,mF⟩/\PySem.W.codeIn K aH qual=true
 kp:PySem.W.keepIn K (.ref f)=true
section
variable{P:Program}{w:World}{K:PySem.W.Frag}{mg:Str->Option Value}{base:Heap}
theorem bg.ok{x qual:Str}{st:Stmt}{f:Addr}{fd:FuncData}{N ps:List Str}{k:Nat}{sp:Sp}(F:bg K x qual st f fd)(S:bf N ps (aT st))(len:∀vs H Q E,sp vs H Q E->vs.length=ps.length)
  (iN:∀(aH:Value) (A:Around) (outer:List Env) (s:Shared) (H:Hp) (vs:List V) (Q:VK) (E:XK),bX k (A.deeper (envOfC qual (aT st) s.heap.objs.size f aH))->sp vs H Q E ->
   ∃t,PSs (ji aZ P w K mg base N qual (aT st) f aH A outer s H E).gK (iO st) t/\t { nx:=λ_ H'=>Q .aq H',rt:=Q } (start N vs) H):aO P w K mg base aZ (k+1) f fd ps sp:=by
 obtain⟨oc,od,kV,doc,pm,an,aH,ct,mF,rfl,lk,cM⟩:=F.ex
 refine Ff lk cM S len λA outer s H vs Q E hr jj=>?_
 obtain⟨t,h,q⟩:=iN aH A outer s H vs Q E hr jj
 exact⟨t,h.gK,q⟩
theorem bg.binds{x qual:Str}{st:Stmt}{f:Addr}{fd:FuncData}{ps:List Str}(F:bg K x qual st f fd)
  (h:∀(kV doc pm:Value) (an:Option Addr) (aH ct:Value) (us:List Value),us.length=ps.length->bindArgs (PySem.W.fnOf x qual (mH st) (iO st) (aT st) .none kV doc pm an aH ct) ⟨us,[]⟩=pure (ps.zip us)):Binds K fd ps []:=by
 obtain⟨oc,od,kV,doc,pm,an,aH,ct,mF,rfl,lk,cM⟩:=F.ex
 exact .all (h kV doc pm an aH ct)
theorem BA{x qual:Str}{st:Stmt}{f:Addr}{oc:Value}{od an:Option Addr}{mF:Array (Option Value)}{kV doc pm aH ct:Value}(l:K.lookup f=some ⟨oc,od,.func (PySem.W.fnOf x qual (mH st) (iO st) (aT st) .none kV doc pm an aH ct),mF⟩)
  (c:PySem.W.codeIn K aH qual=true) (k:PySem.W.keepIn K (.ref f)=true):bg K x qual st f (PySem.W.fnOf x qual (mH st) (iO st) (aT st) .none kV doc pm an aH ct):=⟨⟨oc,od,kV,doc,pm,an,aH,ct,mF,rfl,l,c⟩,k⟩
end
section
variable{X:Cx}
theorem pv(i:Nat){x:Str}{pos:Pos}(hN:X.N[i]?=some x:=by rfl)(hv:lh X.env.scope x:=by first | exact ax rfl | exact bV (ax rfl) | exact bV (bV rfl))(hd:(x==("__debug__":Str))=false:=by decide)
  (cM:(x==("__classdict__":Str))=false:=by decide):PE X (.Name x pos) (Mw i):=pH hN hv hd cM
end
theorem jm{A B:Prop}(h:B):if false=true then A else B:=by
 rw[if_neg iH]
 exact h
theorem pM{A B:Prop}(h:A):if true=true then A else B:=by
 rw[if_pos rfl]
 exact h
end L2
namespace Mf
noncomputable def bl(n:Nat):Nat:=if n=0 then 0 else n.log2+1
theorem fc{n m:Nat}:bl n<=m↔n<2 ^ m:=by
 unfold bl
 by_cases h:n=0
 ·simp[h,xk]
 ·rw[if_neg h]
  rw[<-Nat.log2_lt h]
  omega
theorem Fw{n m:Nat}:m<bl n↔2 ^ m<=n:=by
 have:=@fc n m
 omega
theorem jo(n:Nat):n<2 ^ bl n:=fc.mp (bD _)
theorem Nk{n:Nat}(h:n≠0):2 ^ (bl n-1)<=n:=by
 have:0<bl n:=by unfold bl;rw[if_neg h];omega
 exact Fw.mp (by omega)
theorem ib{n:Nat}(h:n≠0):0<bl n:=by
 unfold bl;rw[if_neg h];omega
theorem nE:bl 0=0:=rfl
theorem uA{n:Nat}(h:n≠0):n.testBit (bl n-1)=true:=by
 have h1:=Nk h
 have h2:=jo n
 have hp:=ib h
 have e:bl n=(bl n-1)+1:=by omega
 rw[e,iZ]at h2
 rw[V1]
 have:n/2 ^ (bl n-1)=1:=by
  apply Nat.div_eq_of_lt_le
  ·omega
  ·omega
 rw[this];rfl
theorem Y8{x n:Nat}(h:∀i,n<=i->x.testBit i=false):x<2 ^ n:=by
 apply Nat.lt_pow_two_of_testBit
 intro i hi
 exact h i hi
theorem Nl{x y n:Nat}(hx:x<2 ^ (n+1))(hy:y<2 ^ (n+1))(tx:x.testBit n=true)(ty:y.testBit n=true):x ^^^ y<2 ^ n:=by
 apply Y8
 intro i hi
 rw[nh]
 by_cases e:i=n
 ·rw[e,tx,ty];rfl
 ·have gM:n+1<=i:=by omega
  have p:2 ^ (n+1)<=2 ^ i:=mq (by decide) gM
  rw[Ep (cK hx p),Ep (cK hy p)]
  rfl
theorem Nm(x y z:Nat):(x ^^^ y) ^^^ (z ^^^ y)=x ^^^ z:=by
 apply As;intro i;simp only[nh]
 cases x.testBit i<;>cases y.testBit i<;>cases z.testBit i<;>rfl
theorem Nn(x y z t:Nat):(x ^^^ y) ^^^ (z ^^^ t)=(x ^^^ z) ^^^ (y ^^^ t):=by
 apply As;intro i;simp only[nh]
 cases x.testBit i<;>cases y.testBit i<;>cases z.testBit i<;>cases t.testBit i<;>rfl
noncomputable def P(a b:Nat):Nat->Nat
 | 0=>0
 | k+1=>P a b k ^^^ (if b.testBit k then a <<< k else 0)
noncomputable def cl(a b:Nat):Nat:=P a b (bl b)
theorem Np{a b k:Nat}(h:b<2 ^ k):∀j,P a b (k+j)=P a b k
 | 0=>rfl
 | j+1=>by
  show P a b (k+j) ^^^ (if b.testBit (k+j)then a <<< (k+j)else 0)=_
  rw[Np h j]
  have p:2 ^ k<=2 ^ (k+j):=mq (by decide) (by omega)
  rw[Ep (cK h p)]
  simp
theorem uB{a b k:Nat}(h:b<2 ^ k):P a b k=cl a b:=by
 have h1:=fc.mpr h
 have e:k=bl b+(k-bl b):=by omega
 rw[e,Np (jo b)]
 rfl
theorem Nq(a a' b:Nat):∀k,P (a ^^^ a') b k=P a b k ^^^ P a' b k
 | 0=>(mr 0).symm
 | k+1=>by
  show P (a ^^^ a') b k ^^^ _=(P a b k ^^^ _) ^^^ (P a' b k ^^^ _)
  rw[Nq a a' b k]
  by_cases t:b.testBit k=true
  ·rw[if_pos t,if_pos t,if_pos t,V2]
   ac_rfl
  ·rw[if_neg t,if_neg t,if_neg t]
   simp
theorem Nr(a b b':Nat):∀k,P a (b ^^^ b') k=P a b k ^^^ P a b' k
 | 0=>(mr 0).symm
 | k+1=>by
  show P a (b ^^^ b') k ^^^ _=(P a b k ^^^ _) ^^^ (P a b' k ^^^ _)
  rw[Nr a b b' k,nh]
  cases b.testBit k<;>cases b'.testBit k<;>simp
  ·ac_rfl
  ·ac_rfl
  ·exact(Nm _ _ _).symm
theorem pO(a a' b:Nat):cl (a ^^^ a') b=cl a b ^^^ cl a' b:=Nq a a' b _
theorem uC{x y n:Nat}(hx:x<2 ^ n)(hy:y<2 ^ n):x ^^^ y<2 ^ n:=Nat.xor_lt_two_pow hx hy
theorem Y9(a b b':Nat):cl a (b ^^^ b')=cl a b ^^^ cl a b':=by
 let k:=bl b+bl b'
 have h1:b<2 ^ k:=fc.mp (by omega)
 have h2:b'<2 ^ k:=fc.mp (by omega)
 rw[<-uB (uC h1 h2),<- uB h1,<- uB h2,Nr]
theorem Za(a:Nat):cl a 0=0:=rfl
theorem Nt(b:Nat):∀k,P 0 b k=0
 | 0=>rfl
 | k+1=>by
  show P 0 b k ^^^ _=0
  rw[Nt b k];simp
theorem pP(b:Nat):cl 0 b=0:=Nt b _
theorem Zb(b k:Nat):(b/2).testBit k=b.testBit (k+1):=by
 rw[Er]
theorem Nu(a b:Nat):∀k,P a b (k+1)=(if b%2=1 then a else 0) ^^^ P (2*a) (b/2) k
 | 0=>by
  show 0 ^^^ _=_ ^^^ 0
  rw[mx,mr,Au]
  simp
 | k+1=>by
  show P a b (k+1) ^^^ _=_ ^^^ (P (2*a) (b/2) k ^^^ _)
  rw[Nu a b k,Zb,qO]
  have e:a <<< (k+1)=(2*a) <<< k:=by
   rw[kW,kW,iZ]
   rw[kU 2 a,pf,kU 2]
  rw[e]
theorem Nv{b k:Nat}(h:b<2 ^ (k+1)):b/2<2 ^ k:=by
 rw[iZ]at h;omega
theorem Nw(a b:Nat):cl a b=(if b%2=1 then a else 0) ^^^ cl (2*a) (b/2):=by
 have h:b<2 ^ (bl b+1):=Nat.lt_trans (jo b) (by rw[iZ];have:=xk (bl b);omega)
 rw[<-uB h,Nu,uB (Nv h)]
theorem Nx(a b:Nat):∀k,P (2*a) b k=2*P a b k
 | 0=>rfl
 | k+1=>by
  show P (2*a) b k ^^^ _=2*(P a b k ^^^ _)
  rw[Nx a b k]
  have d:∀x y:Nat,2*(x ^^^ y)=2*x ^^^ 2*y:=by
   intro x y
   have h:=@V2 1 x y
   rw[kW,kW,kW,LD]at h
   rw[kU 2 (x ^^^ y),kU 2 x,kU 2 y]
   exact h
  rw[d]
  by_cases t:b.testBit k=true
  ·rw[if_pos t,if_pos t,kW,kW,pf]
  ·rw[if_neg t,if_neg t]
theorem Fx(a b:Nat):cl (2*a) b=2*cl a b:=Nx a b _
theorem xW(a c t:Nat)(ht:t<2):cl a (2*c+t)=2*cl a c ^^^ (if t=1 then a else 0):=by
 rw[Nw,Fx,LF]
 have e1:(2*c+t)/2=c:=by omega
 have e2:(2*c+t)%2=t:=by omega
 rw[e1,e2]
theorem Zc(a c:Nat):cl a (2*c)=2*cl a c:=by
 have h:=xW a c 0 (by decide)
 simpa using h
theorem Ny(c t:Nat)(ht:t<2):2*c ^^^ t=2*c+t:=by
 apply As
 intro i
 cases i with
 | zero =>
  rw[nh,Au,Au,Au]
  have:t=0\/t=1:=by omega
  rcases this with h | h<;>subst h<;>simp<;>omega
 | succ i =>
  rw[nh,Er,Er,Er]
  have e1:2*c/2=c:=by omega
  have e2:t/2=0:=by omega
  have e3:(2*c+t)/2=c:=by omega
  rw[e1,e2,e3];simp
theorem Fy:∀b:Nat,cl 1 b=b:=by
 intro b
 induction b using Es with
 | ind b ih =>
  by_cases h:b=0
  ·subst h;rfl
  ·have e:b=2*(b/2)+b%2:=by omega
   rw[e,xW 1 (b/2) (b%2) (by omega),ih (b/2) (by omega)]
   have:b%2=0\/b%2=1:=by omega
   rcases this with h | h
   ·rw[h];simp
   ·rw[h];rw[if_pos rfl];exact Ny _ _ (by decide)
theorem xX:∀b a:Nat,cl a b=cl b a:=by
 intro b
 induction b using Es with
 | ind b ih =>
  intro a
  by_cases h:b=0
  ·subst h;rw[pP];rfl
  ·have e:b=2*(b/2)+b%2:=by omega
   have lt:b%2<2:=by omega
   have e':cl b a=cl (2*(b/2) ^^^ b%2) a:=by rw[Ny _ _ lt,<- e]
   rw[e',pO,Fx,<- ih (b/2) (by omega) a]
   have Ze:cl a b=cl a (2*(b/2)+b%2):=by rw[<-e]
   rw[Ze,xW _ _ _ lt]
   have:b%2=0\/b%2=1:=by omega
   rcases this with h | h
   ·rw[h,pP];rfl
   ·rw[h,Fy];rfl
theorem Fz{a m:Nat}(h:a<2 ^ m)(b:Nat):∀k,P a b (k+1)<2 ^ (m+k)
 | 0=>by
  show 0 ^^^ _<_
  rw[mx,Nat.add_zero]
  by_cases t:b.testBit 0=true
  ·rw[if_pos t];simpa using h
  ·rw[if_neg t];exact xk m
 | k+1=>by
  show P a b (k+1) ^^^ _<_
  have i:=Fz h b k
  have p:2 ^ (m+k)<=2 ^ (m+(k+1)):=mq (by decide) (by omega)
  apply uC (cK i p)
  by_cases t:b.testBit (k+1)=true
  ·rw[if_pos t,kW,Nat.pow_add 2 m]
   exact(V3 (xk _)).mpr h
  ·rw[if_neg t];exact xk _
theorem Zf{a b m n:Nat}(h:a<2 ^ m)(h':b<2 ^ (n+1)):cl a b<2 ^ (m+n):=by
 rw[<-uB h'];exact Fz h b n
theorem Zg{a b:Nat}(ha:a≠0)(hb:b≠0):2 ^ (bl a-1+(bl b-1))<=cl a b:=by
 have e:bl b=(bl b-1)+1:=by have:=ib hb;omega
 have ta:=uA ha
 have tb:=uA hb
 apply Nat.ge_two_pow_of_testBit
 unfold cl
 rw[e]
 show(P a b (bl b-1) ^^^ _).testBit _=true
 have e2:bl b-1+1-1=bl b-1:=by omega
 rw[e2,nh,if_pos tb]
 have f:(P a b (bl b-1)).testBit (bl a-1+(bl b-1))=false:=by
  cases q:bl b-1 with
  | zero=>show Nat.testBit 0 _=false;exact Nat.zero_testBit _
  | succ k =>
   apply Ep
   have l:=Fz (jo a) b k
   have p:=ib ha
   have e3:bl a-1+(k+1)=bl a+k:=by omega
   rw[e3];exact l
 rw[f,V4]
 have e4:bl a-1+(bl b-1)-(bl b-1)=bl a-1:=by omega
 rw[e4,ta]
 simp
theorem Nz{a b:Nat}(ha:a≠0)(hb:b≠0):bl (cl a b)=bl a+bl b-1:=by
 have p1:=ib ha
 have p2:=ib hb
 have h1:bl (cl a b)<=bl a+(bl b-1):=fc.mpr (Zf (jo a) (by
  have e:bl b-1+1=bl b:=by omega
  rw[e];exact jo b))
 have h2:=Fw.mpr (Zg ha hb)
 omega
theorem NA(s b:Nat):cl (2 ^ s) b=b <<< s:=by
 induction s with
 | zero=>rw[LG,Fy];rfl
 | succ s ih =>
  rw[iZ,kU,Fx,ih,kW,kW,iZ]
  rw[<-pf,kU 2,pf,kU 2,<- pf,pf]
theorem Zh{a q b r s:Nat}(h:a=cl q b ^^^ r):a=cl (q ^^^ 2 ^ s) b ^^^ (r ^^^ b <<< s):=by
 rw[pO,NA,h,Nm]
theorem NB{b r:Nat}(hb:b≠0)(h:bl b<=bl r):bl (r ^^^ b <<< (bl r-bl b))<bl r:=by
 have p:=ib hb
 have hr:r≠0:=by
  intro z;rw[z,nE]at h;omega
 have:r ^^^ b <<< (bl r-bl b)<2 ^ (bl r-1):=by
  apply Nl
  ·have e:bl r-1+1=bl r:=by omega
   rw[e];exact jo r
  ·have e:bl r-1+1=bl b+(bl r-bl b):=by omega
   rw[e,kW,Nat.pow_add]
   exact(V3 (xk _)).mpr (jo b)
  ·exact uA hr
  ·rw[V4]
   have e:bl r-1-(bl r-bl b)=bl b-1:=by omega
   rw[e,uA hb]
   simp;omega
 have:=fc.mpr this
 omega
theorem Zi{x y z:Nat}(h:x ^^^ y=z):x=z ^^^ y:=by
 rw[<-h,qO,Av,mr]
theorem FA{x y:Nat}(h:x ^^^ y=0):x=y:=by
 have:=Zi h
 rwa [mx]at this
theorem Zj{b q r q' r':Nat}(h:cl q b ^^^ r=cl q' b ^^^ r')(hr:bl r<bl b)(bo:bl r'<bl b):q=q'/\r=r':=by
 have hb:b≠0:=by intro z;rw[z,nE]at hr;omega
 have e:cl (q ^^^ q') b=r ^^^ r':=by
  rw[pO]
  have z:(cl q b ^^^ r) ^^^ (cl q' b ^^^ r')=0:=by rw[h,Av]
  rw[Nn]at z
  exact FA z
 have lt:bl (r ^^^ r')<bl b:=by
  have h1:r<2 ^ (bl b-1):=fc.mp (by omega)
  have h2:r'<2 ^ (bl b-1):=fc.mp (by omega)
  have:=fc.mpr (uC h1 h2)
  have:=ib hb
  omega
 have z:q ^^^ q'=0:=by
  apply Aw
  intro hq
  have h1:=Nz hq hb
  have h2:=ib hq
  rw[e]at h1
  omega
 have zq:=FA z
 subst zq
 rw[z,pP]at e
 exact⟨rfl,FA e.symm⟩
end Mf
namespace Mf
open PySem PySem.Builtin.Int
theorem Zk(x y:Nat):(x ^^^ y)+2*(x &&& y)=x+y:=by
 induction x using Es generalizing y with
 | ind x ih =>
  by_cases h:x=0
  ·subst h;simp
  ·have h1:=ih (x/2) (by omega) (y/2)
   have e1:(x ^^^ y)/2=x/2 ^^^ y/2:=Nat.xor_div_two
   have e2:(x &&& y)/2=x/2 &&& y/2:=Nat.and_div_two
   have t:∀n:Nat,n%2=if n.testBit 0=true then 1 else 0:=by
    intro n
    rw[Au]
    by_cases h:n%2=1
    ·simp[h]
    ·simp[h];omega
   have m1:(x ^^^ y)%2=(x%2+y%2)%2:=by
    rw[t (x ^^^ y),t x,t y,nh]
    cases x.testBit 0<;>cases y.testBit 0<;>rfl
   have m2:(x &&& y)%2=x%2*(y%2):=by
    rw[t (x &&& y),t x,t y,LH]
    cases x.testBit 0<;>cases y.testBit 0<;>rfl
   have d1:=Nat.div_add_mod (x ^^^ y) 2
   have d2:=Nat.div_add_mod (x &&& y) 2
   rw[e1]at d1
   rw[e2]at d2
   have hx:x%2=0\/x%2=1:=by omega
   have hy:y%2=0\/y%2=1:=by omega
   rcases hx with hx | hx<;>rcases hy with hy | hy<;>rw[hx,hy]at m1 m2<;>omega
theorem NC{x y:Int}(hx:0<=x)(hy:0<=y):oV x y=((x.toNat &&& y.toNat:Nat):Int):=by
 unfold oV
 rw[decide_eq_true hx,decide_eq_true hy]
theorem Zl{x y:Int}(hx:0<=x)(hy:0<=y):Builtin.bitOr x y=((x.toNat ||| y.toNat:Nat):Int):=by
 unfold Builtin.bitOr oV Builtin.bitNot
 rw[decide_eq_false (by omega),decide_eq_false (by omega)]
 show-(-((((- (-x-1)-1).toNat ||| (-(-y-1)-1).toNat:Nat):Int))-1)-1=_
 have e1:(- (-x-1)-1).toNat=x.toNat:=by omega
 have e2:(- (-y-1)-1).toNat=y.toNat:=by omega
 rw[e1,e2]
 omega
theorem Zm(x y:Nat):(x ||| y)=(x ^^^ y)+(x &&& y):=by
 have d:(x ^^^ y) &&& (x &&& y)=0:=by
  apply As;intro i
  simp only[nh,LH,Nat.zero_testBit]
  cases x.testBit i<;>cases y.testBit i<;>rfl
 have e:(x ||| y)=(x ^^^ y) ^^^ (x &&& y):=by
  apply As;intro i
  simp only[nh,LH,Nat.testBit_or]
  cases x.testBit i<;>cases y.testBit i<;>rfl
 have h:=Zk (x ^^^ y) (x &&& y)
 rw[d]at h
 rw[e];omega
theorem Zn{x y:Int}(hx:0<=x)(hy:0<=y):oW x y=((x.toNat ^^^ y.toNat:Nat):Int):=by
 unfold oW
 rw[Zl hx hy,NC hx hy,Zm]
 omega
theorem pQ(x y:Nat):oW (x:Int) (y:Int)=((x ^^^ y:Nat):Int):=by
 rw[Zn (by omega) (by omega)];rfl
theorem ND(x y:Nat):oV (x:Int) (y:Int)=((x &&& y:Nat):Int):=by
 rw[NC (by omega) (by omega)];rfl
theorem uD(x k:Nat):(x:Int)*2 ^ ((k:Int)).toNat=((x <<< k:Nat):Int):=by
 rw[kW]
 simp
theorem Zo(x k:Nat):(x:Int)/2 ^ ((k:Int)).toNat=((x >>> k:Nat):Int):=by
 rw[V5]
 simp
theorem Zp(x k:Nat):((x >>> k) &&& 1=1)↔x.testBit k=true:=by
 rw[V1,V5]
 have:(x/2 ^ k) &&& 1=(x/2 ^ k)%2:=Nat.and_two_pow_sub_one_eq_mod _ 1
 rw[this]
 simp
end Mf
namespace Mf
end Mf
namespace Mf
theorem NF(a b:Nat):∀c,cl (cl a b) c=cl a (cl b c):=by
 intro c
 induction c using Es with
 | ind c ih =>
  by_cases h:c=0
  ·subst h;rfl
  ·have e:c=2*(c/2)+c%2:=by omega
   have lt:c%2<2:=by omega
   have i:=ih (c/2) (by omega)
   rw[e,xW _ _ _ lt,xW _ _ _ lt,i,Y9,Zc]
   have:c%2=0\/c%2=1:=by omega
   rcases this with h | h
   ·rw[h];rfl
   ·rw[h];rfl
noncomputable def uE:Nat->Nat->Nat->Nat
 | 0,a,_=>a
 | n+1,a,b=>if bl a<bl b then a else uE n (a ^^^ b <<< (bl a-bl b)) b
noncomputable def md(a b:Nat):Nat:=uE (bl a+1) a b
theorem NG{b:Nat}(hb:b≠0):∀n a,bl a<n->(∃q,a=cl q b ^^^ uE n a b)/\bl (uE n a b)<bl b
 | 0,_,h=>absurd h (by omega)
 | n+1,a,h=>by
  unfold uE
  by_cases l:bl a<bl b
  ·rw[if_pos l]
   exact⟨⟨0,by rw[pP,mx]⟩,l⟩
  ·rw[if_neg l]
   have less:=NB hb (show bl b<=bl a by omega)
   obtain⟨⟨q,e⟩,l2⟩:=NG hb n (a ^^^ b <<< (bl a-bl b)) (by omega)
   refine⟨⟨q ^^^ 2 ^ (bl a-bl b),?_⟩,l2⟩
   rw[pO,NA]
   have e2:a=(a ^^^ b <<< (bl a-bl b)) ^^^ b <<< (bl a-bl b):=by rw[qO,Av,mr]
   rw[e]at e2
   refine e2.trans ?_
   generalize uE n _ b=r
   rw[qO,LF r,<- qO]
theorem xY{b:Nat}(hb:b≠0)(a:Nat):(∃q,a=cl q b ^^^ md a b)/\bl (md a b)<bl b:=NG hb _ a (by omega)
theorem xZ{a b q r:Nat}(h:a=cl q b ^^^ r)(hr:bl r<bl b):md a b=r:=by
 have hb:b≠0:=by intro z;rw[z,nE]at hr;omega
 obtain⟨⟨q',e⟩,l⟩:=xY hb a
 exact(Zj (e.symm.trans h) l hr).2
theorem Zq(q:Nat){b:Nat}(hb:b≠0):md (cl q b) b=0 :=
 xZ (q:=q) (by rw[mr]) (by rw[nE];exact ib hb)
end Mf
namespace Mf
theorem Zr(y:Nat):bl (y/2)=bl y-1:=by
 by_cases h:y=0
 ·subst h;rfl
 ·have p:=ib h
  have h1:bl (y/2)<=bl y-1:=fc.mpr (Nv (by
   have e:bl y-1+1=bl y:=by omega
   rw[e];exact jo y))
  have h2:bl y<=bl (y/2)+1:=fc.mpr (by
   have:=jo (y/2)
   rw[iZ];omega)
  omega
theorem Zs(x:Nat):bl (2*x)<=bl x+1:=fc.mpr (by
 have:=jo x
 rw[iZ];omega)
theorem FC{x y:Nat}(h:x<=y):bl x<=bl y:=fc.mpr (ni h (jo y))
end Mf
namespace Mf
noncomputable def al(a:Nat):Bool:=decide (2<=a)&&(aM (2 ^ ((bl a-1)/2+1)-2)).all λi=>md a (2+i) != 0
theorem Zt{a:Nat}(h:a<2):al a=false:=by
 unfold al;rw[decide_eq_false (by omega)];rfl
theorem Zu{a:Nat}(h:2<=a)(k:∀i,i<2 ^ ((bl a-1)/2+1)-2->md a (2+i)≠0):al a=true:=by
 unfold al
 rw[decide_eq_true h,kX,de]
 intro i hi
 have:=k i (bK.mp hi)
 simpa using this
theorem Zv{a i:Nat}(k:i<2 ^ ((bl a-1)/2+1)-2)(z:md a (2+i)=0):al a=false:=by
 unfold al
 rw[Bool.and_eq_false_iff]
 right
 rw[List.all_eq_false]
 exact⟨i,bK.mpr k,by simp[z]⟩
theorem Zw{a:Nat}(h:2<=a){b:Nat}(hb:b<2 ^ ((bl a-1)/2+1)):b<a/\2*bl b<=bl a+1:=by
 have h2:2<=bl a:=by
  have:=Fw.mpr (show 2 ^ 1<=a by omega)
  omega
 have l:=fc.mpr hb
 refine⟨cK hb (dy (mq (by decide) ?_) (Nk (by omega))),by omega⟩
 omega
end Mf
namespace L2
open PySem PySem.Spec PyProof.Rows Mf
theorem ie:bootBuiltins "len"=some (.builtin "len"):=by decide +kernel
theorem NH:bootBuiltins "isinstance"=some (.builtin "isinstance"):=by decide +kernel
theorem x6:bootBuiltins "all"=some (.builtin "all"):=by decide +kernel
theorem Zx:bootBuiltins "any"=some (.builtin "any"):=by decide +kernel
theorem BB:bootBuiltins "int"=some (.type "int"):=by decide +kernel
theorem NI:bootBuiltins "bool"=some (.type "bool"):=by decide +kernel
theorem NJ:bootBuiltins "list"=some (.type "list"):=by decide +kernel
theorem Zy:bootBuiltins "ValueError"=some (.type "ValueError"):=by decide +kernel
section
variable{X:Cx}{a b o:Expr}{ta tb to:TE}{pos apos bE:Pos}
theorem NK(i:Int):Builtin.Int.intBits i=bl i.natAbs:=by
 unfold Builtin.Int.intBits bl
 by_cases h:i=0
 ·subst h;rfl
 ·have h':¬ i.natAbs=0:=by omega
  rw[if_neg h',if_neg (by simpa using h)]
noncomputable def NL:V->List V->Hp->VK->Prop:=λx vs H Q=>∃i,x=.int i/\vs=[]/\Q (.int (bl i.natAbs:Nat)) H
theorem Zz:xR X "int.bit_length" NL:=by
 intro pins s σ H x xs v us Q I rx rs h
 obtain⟨i,rfl,rfl,q⟩:=h
 obtain⟨t,rfl⟩:=rx
 cases rs
 refine call_int_bit_length ?_
 rw[NK]
 exact⟨.int _,H,I.tok _,⟨_,rfl⟩,q⟩
theorem FD(ho:PE X o to)(jP:attributeBase o "bit_length" X.env (eval o X.env)=eval o X.env:=by rfl)(jQ:(apos.endLine==bE.line)=true:=by rfl) :
  PE X (.Call (.Attribute o "bit_length" apos) [] [] bE) (M9 X.K "int" NL to) :=
 YS PySem.F.plainAttrs_int PySem.F.slot_int_bit_length PySem.F.type_int_bit_length Zz ho jP jQ
noncomputable def NM(i j:Int):Prop:=0<=j/\((bl i.natAbs:Nat):Int)+j<=134217728
theorem NN:cN X (binaryOp .LShift) (rI NM λi j=>.int (i*2 ^ j.toNat)):=uq λi j _ _ _ _ _ hc q =>
 lshift_int hc.1 (by rw[NK];exact Int.le_trans hc.2 (by decide)) q
theorem NO{x:Str}{n:String}(hg:Gl X x)(hm:X.mg x=none)(hv:bootBuiltins x=some (.type n))(hn:x≠"__name__":=by decide)(hd:(x==("__debug__":Str))=false:=by decide):PE X (.Name x pos) (tC (.ty n)) :=
 WO hg hm hv rfl hn hd
noncomputable def ZA(K:PySem.W.Frag):List V->Hp->VK->Prop:=λxs H Q=>∃x n t b,xs=[x,.ty n]/\ia K H x t/\PySem.W.kitOne K t (.type n)=some b/\Q (.bl b) H
theorem ZC:hJ X (.builtin "isinstance") (ZA X.K):=by
 intro pins s σ H xs us Q I r h
 obtain⟨x,n,t,b,rfl,ty,e,q⟩:=h
 obtain⟨u,v,rfl,ru,rv⟩:=r.two
 cases(show v=Value.type n from rv)
 exact MP I ru ty e λtk=>⟨.bl b,H,I.tok _,rfl,q⟩
end
theorem ZD(b i:Nat):decide (V.int (oV ((b:Int)/2 ^ ((0:Int)+(i:Int)).toNat) 1)=V.int 1)=b.testBit i:=by
 have e:((0:Int)+(i:Int)).toNat=((i:Int)).toNat:=by omega
 rw[e,Zo,show(1:Int)=((1:Nat):Int) from rfl,ND,tU,decide_eq_true_iff,<- Zp]
 constructor
 ·intro h;injection h with h;omega
 ·intro h;rw[h]
theorem ZE{a b i:Nat}(h:b.testBit i=true):oW ((P a b i:Nat):Int) ((a:Int)*2 ^ ((0:Int)+(i:Int)).toNat)=((P a b (i+1):Nat):Int):=by
 have e:((0:Int)+(i:Int)).toNat=((i:Int)).toNat:=by omega
 rw[e,uD,pQ]
 show _=((P a b i ^^^ (if b.testBit i then a <<< i else 0):Nat):Int)
 rw[if_pos h]
theorem ZF{a b i:Nat}(h:¬ b.testBit i=true):P a b (i+1)=P a b i:=by
 show P a b i ^^^ (if b.testBit i then a <<< i else 0)=_
 rw[if_neg h,mr]
theorem dI{i j:Int}:decide (V.int i=V.int j)=true↔i=j:=by
 rw[decide_eq_true_iff]
 exact⟨λh=>by injection h,λh=>by rw[h]⟩
end L2
namespace L2
open PySem PySem.Spec PyProof.Rows
section
variable{X:Cx}
end
end L2
namespace L2
open PySem PySem.Spec PyProof.Rows
noncomputable def BC(X:Cx)(scope:Scope)(N:List Str)(cl:List (Str × Addr))(C:Addr)(s:Shared)(H:Hp)(fp:List Addr):Cx where
 prog:=X.prog
 w:=X.w
 K:=X.K
 mg:=X.mg
 base:=X.base
 A:=X.A
 N:=N
 cJ:=s
 km:=H
 env:=compEnvC scope cl C X.env
 outer:=X.stack
 stack:=X.stack
 ex:=fp
 fn:=λ_=>false
 calm:=X.calm
 pn:=[]
 xe:=λ_ _=>False
noncomputable def nF(X:Cx)(scope:Scope)(cl:List (Str × Addr)):List (Str × Nat)->Prop
 | []=>True
 | (y,i)::r=>(X.N[i]?=some y/\(X.env.scope.names.lookup y=some .cell\/X.env.scope.names.lookup y=some .free)/\((relabel scope X.env).names.lookup y=some .cell\/(relabel scope X.env).names.lookup y=some .free)/\∃c,cl.lookup y=some c/\X.env.cells.lookup y=some c)/\nF X scope cl r
theorem nF.at{X:Cx}{scope:Scope}{cl:List (Str × Addr)}:∀{aB:List (Str × Nat)},nF X scope cl aB->∀p∈aB,X.N[p.2]?=some p.1/\(X.env.scope.names.lookup p.1=some .cell\/X.env.scope.names.lookup p.1=some .free)/\((relabel scope X.env).names.lookup p.1=some .cell\/(relabel scope X.env).names.lookup p.1=some .free)/\∃c,cl.lookup p.1=some c/\X.env.cells.lookup p.1=some c
 | [],_,p,hp=>absurd hp (by simp)
 | (y,i)::r,h,p,hp=>by
  rcases cL.mp hp with e | e
  ·subst e;exact h.1
  ·exact nF.at h.2 p e
noncomputable def nG(Y:Cx)(ifs:List Expr)(t:TT):Prop :=
 ∀(pins:List (Addr × Obj)) (s:Shared) (σ:St) (H:Hp) (Q:Bool->Hp->Prop),Inv Y pins σ H s->t σ H Q ->
  wpAny (model Y.prog Y.w) Y.A (forIn ifs true λc r=>if r=true then do let ok<-isTrue c Y.env (eval c Y.env);pure (Et ok)else pure (Et r)) (TP Y pins σ Q) Y.xe s
noncomputable def ZG:TT:=λ_ H Q=>Q true H
theorem ZH{Y:Cx}:nG Y [] ZG:=λ_ _ _ H _ I h=>wpAny_tests_nil ⟨H,I,h⟩
theorem ZI{Y:Cx}{c:Expr}{t:TT}(h:PT Y c t):nG Y [c] t:=λpins s σ H Q I q=>wpAny_tests_one (h pins s σ H Q I q)
section
variable{X:Cx}{elt iter:Expr}{x:Str}{px pos:Pos}{ifs:List Expr}{scope:Scope}{cl:List (Str × Addr)}{aB:List (Str × Nat)}{wi:TI}{tt:TT}{te:TE}
end
section
variable{prog:Program}{w:World}{A:Around}{R:Result->Shared->Prop}{s:Shared}
theorem ZJ{elt target iter:Expr}{ifs:List Expr}{scope:Scope}{pos:Pos}{it acc:Value}{env:Env}(Iv:Nat->Shared->Prop)
  (turn:∀n s,Iv n s->wpAny (model prog w) A (pyNext it) (λr s1=>match r with
   | none=>R (.ok .next) s1
   | some v=>wpAny (model prog w) A (letOwnedTupleGo target it v) (λ_ t1=>wpAny (model prog w) A (assign target env v) (λ_ s2 =>
     wpAny (model prog w) A (forIn ifs true λc r=>if r=true then do let ok<-isTrue c env (eval c env);pure (Et ok)else pure (Et r)) (λok s3 =>
      if ok=true then wpAny (model prog w) A (eval elt env) (λy s4=>wpAny (model prog w) A (call (.builtin "list.append") [acc,y]) (λ_ s5=>∃m,m<n/\Iv m s5) (λ_ _=>False) s4) (λ_ _=>False) s3
      else ∃m,m<n/\Iv m s3) (λ_ _=>False) s2) (λ_ _=>False) t1) (λ_ _=>False) s1) (λ_ _=>False) s)
  (n:Nat) (h:Iv n s):codeAny (model prog w) A (.compLoop (.ListComp elt [⟨target,iter,ifs,0⟩] scope pos) 0 it acc env) R s:=by
 refine codeAny_loop rfl Iv (λn s hI=>?_) n h
 change wpAny _ A (Sem.onRaise (compTurn (.ListComp elt [⟨target,iter,ifs,0⟩] scope pos) 0 it acc env) λx=>do noteFrame x env;theTreesLotGoes x) _ _ s
 refine wpAny_noted (wpAny_mono (E:=λ_ _=>False) ?_ (λ_ _ q=>q) λ_ _ z=>z.elim)
 rw[compTurn_list]
 refine wpAny_bind (wpAny_standAt (wpAny_bind (aN (turn n s hI) λr s1 h1=>?_)))
 cases r with
 | none=>exact wpAny_pure h1
 | some v =>
  refine wpAny_bind (aN h1 λ_ t1 k1=>wpAny_bind (aN k1 λ_ s2 h2=>wpAny_bind (aN h2 λok s3 h3=>?_)))
  cases ok with
  | false=>exact wpAny_pure ⟨rfl,h3⟩
  | true=>exact wpAny_bind (wpAny_bind (aN h3 λy s4 h4=>wpAny_bind (aN h4 λ_ s5 h5=>wpAny_pure (wpAny_pure ⟨rfl,h5⟩))))
end
section
variable{X:Cx}{elt iter:Expr}{x:Str}{px pos:Pos}{ifs:List Expr}{scope:Scope}{cl:List (Str × Addr)}{aB:List (Str × Nat)}{wi:TI}{tt:TT}{te:TE}
end
end L2
namespace L2
open PySem PySem.Spec PyProof.Rows
section
variable{X:Cx}
theorem NP{bs:List Bool}{us:List Value}(r:Vals (bs.map V.bl) us):bs.length=us.length/\∀(i:Nat) (v:Value),us[i]?=some v->∃b,bs[i]?=some b/\v=.bool b:=by
 have l:=r.length
 rw[aY]at l
 refine⟨l,λi v e=>?_⟩
 have hi:i<us.length:=(ke.mp e).1
 have hb:i<bs.length:=by omega
 obtain⟨u,e2,q⟩:=r.get (i:=i) (x:=V.bl bs[i]) (by rw[cB,aQ hb];rfl)
 rw[e]at e2
 cases e2
 exact⟨bs[i],aQ hb,q⟩
theorem NQ{s:Shared}{h':Heap}{o:Obj}(hk:∀b x,b ∉ [s.heap.objs.size]->(s.heap.push o).get? b=some x->h'.get? b=some x)(b:Addr)(x:Obj)(e:s.heap.get? b=some x):h'.get? b=some x :=
 hk b x (λhm=>gC _ (by have:=bG e;rw[dR.mp hm]at this;exact this)) (fI _ e)
theorem ZK(bs:List Bool):((aM bs.length).all λi=>(bs[i]?).getD true)=bs.all id:=by
 rw[tU,de,de]
 constructor
 ·intro h b hb
  obtain⟨i,hi,rfl⟩:=jI hb
  have:=h i (bK.mpr hi)
  rwa [aQ hi]at this
 ·intro h i hi
  have gM:=bK.mp hi
  rw[aQ gM]
  exact h _ (eB gM)
theorem ZL(bs:List Bool):((aM bs.length).any λi=>(bs[i]?).getD false)=bs.any id:=by
 rw[tU,LJ,LJ]
 constructor
 ·rintro⟨i,hi,h⟩
  have gM:=bK.mp hi
  rw[aQ gM]at h
  exact⟨_,eB gM,h⟩
 ·rintro⟨b,hb,h⟩
  obtain⟨i,hi,rfl⟩:=jI hb
  exact⟨i,bK.mpr hi,by rw[aQ hi];exact h⟩
theorem ZM(hc:X.calm=true):hJ X (.builtin "all") (λxs H Q=>∃(p:Addr) (bs:List Bool),xs=[.ref p]/\bF X.K H p (bs.map V.bl)/\Q (.bl (bs.all id)) H):=by
 intro pins s σ H xs us Q I r h
 obtain⟨p,bs,rfl,hS,q⟩:=h
 obtain⟨u,rfl,ru⟩:=r.one
 cases ru
 obtain⟨its,rv,pl,hz⟩:=I.list hS
 obtain⟨hlen,FE⟩:=NP rv
 have hl:=pl.isList
 have ig:p<s.heap.objs.size:=by obtain⟨_,e,_⟩:=hl;exact bG e
 refine call_all_walk (wpAny_pyIter_list hl ?_)
 refine⟨s.heap.objs.size,[s.heap.objs.size,p],[s.heap.objs.size],its.toArray.size,_,_,λi=>(bs[i]?).getD true,rfl,Walks.list (A:=X.A.in1) (I.ok.hd hc) _ p (eT ig) its.toArray,
  ⟨⟨_,g7 _ rfl,rfl,rfl⟩,hl.push _⟩,λi v s' Q' E' hP hQ=>?_,λh' tk hk=>?_⟩
 ·obtain⟨b,e,rfl⟩:=FE i v (by simpa using hP)
  simp only[e,ph]at hQ
  exact wpAny_truthy_bool hQ
 ·have e:((aM its.toArray.size).all λi=>(bs[i]?).getD true)=bs.all id:=by
   rw[dN,<- hlen];exact ZK bs
  rw[e]
  exact⟨.bl _,H,I.kept (h':=h') (t':=tk) (NQ hk),rfl,q⟩
theorem ZN(hc:X.calm=true):hJ X (.builtin "any") (λxs H Q=>∃(p:Addr) (bs:List Bool),xs=[.ref p]/\bF X.K H p (bs.map V.bl)/\Q (.bl (bs.any id)) H):=by
 intro pins s σ H xs us Q I r h
 obtain⟨p,bs,rfl,hS,q⟩:=h
 obtain⟨u,rfl,ru⟩:=r.one
 cases ru
 obtain⟨its,rv,pl,hz⟩:=I.list hS
 obtain⟨hlen,FE⟩:=NP rv
 have hl:=pl.isList
 have ig:p<s.heap.objs.size:=by obtain⟨_,e,_⟩:=hl;exact bG e
 refine call_any_walk (wpAny_pyIter_list hl ?_)
 refine⟨s.heap.objs.size,[s.heap.objs.size,p],[s.heap.objs.size],its.toArray.size,_,_,λi=>(bs[i]?).getD false,rfl,Walks.list (A:=X.A.in1) (I.ok.hd hc) _ p (eT ig) its.toArray,
  ⟨⟨_,g7 _ rfl,rfl,rfl⟩,hl.push _⟩,λi v s' Q' E' hP hQ=>?_,λh' tk hk=>?_⟩
 ·obtain⟨b,e,rfl⟩:=FE i v (by simpa using hP)
  simp only[e,ph]at hQ
  exact wpAny_truthy_bool hQ
 ·have e:((aM its.toArray.size).any λi=>(bs[i]?).getD false)=bs.any id:=by
   rw[dN,<- hlen];exact ZL bs
  rw[e]
  exact⟨.bl _,H,I.kept (h':=h') (t':=tk) (NQ hk),rfl,q⟩
end
noncomputable def nH(X:Cx):List (Str × Addr)->Prop
 | []=>True
 | (y,c)::r=>X.env.cells.lookup y=some c/\nH X r
theorem nH.all{X:Cx}:∀{cl:List (Str × Addr)},nH X cl->∀y c,cl.lookup y=some c->X.env.cells.lookup y=some c
 | [],_,y,c,h=>by simp at h
 | (z,d)::r,h,y,c,e=>by
  rw[gD]at e
  cases q:y==z with
  | true =>
   rw[q]at e
   cases e
   rw[eq_of_beq q]
   exact h.1
  | false =>
   rw[q]at e
   exact nH.all h.2 y c e
noncomputable def nI(cl:List (Str × Addr)):List (Str × NameKind)->Prop
 | []=>True
 | (y,k)::r=>(k=.local\/k=.globalImplicit\/∃c,cl.lookup y=some c)/\nI cl r
theorem nI.all{cl:List (Str × Addr)}:∀{ns:List (Str × NameKind)},nI cl ns->∀y,(ns.lookup y=some .cell\/ns.lookup y=some .free)->∃c,cl.lookup y=some c
 | [],_,y,h=>by simp at h
 | (z,k)::r,h,y,e=>by
  rw[gD]at e
  cases q:y==z with
  | true =>
   rw[q]at e
   rw[eq_of_beq q]
   rcases h.1 with g | g | g
   ·rw[g]at e;rcases e with e | e<;>cases e
   ·rw[g]at e;rcases e with e | e<;>cases e
   ·exact g
  | false =>
   rw[q]at e
   exact nI.all h.2 y e
section
variable{X:Cx}{elt iter:Expr}{x:Str}{px pos:Pos}{ifs:List Expr}{scope:Scope}{cl:List (Str × Addr)}{wi:TI}{tt:TT}{te:TE}
end
end L2
namespace L2
open PySem PySem.Spec PyProof.Rows Mf
end L2
namespace L2
end L2
namespace L2
open PySem PySem.Spec PyProof.Rows
noncomputable def ij(aB:List (Str × Nat))(n:Nat)(σ:L2.St):St:=(aB.map λp=>(σ[p.2]?).getD none)++aK n none
noncomputable def NR(J:It)(aB:List (Str × Nat))(n:Nat)(g:TG)(tt:TT)(te:TE)(σ:L2.St)(H1:Hp)(Q:VK):Prop:=∀D,H1 D=none->∃W:Nat->Nat->List V->Hp->Prop,(∃m,W 0 m [] (upd H1 D (.lst []))) /\
 ∀i m acc H2,W i m acc H2->H2 D=some (.lst acc)/\((J.stop i H2/\Q (.ref D) H2)\/(J.go i H2/\∀x H3,J.ku i H2 x H3->H3 D=some (.lst acc)/\g x (ij aB n σ) H3 λgL H4 =>
  (gL.length=(ij aB n σ).length/\∀j,j<aB.length->gL[j]?=(ij aB n σ)[j]?)/\tt gL H4 λb H5=>H5 D=some (.lst acc) /\
  if b=true then te gL H5 λy H6=>H6 D=some (.lst acc)/\acc.length<sizeLine/\∃m',m'<m/\W (i+1) m' (acc++[y]) (upd H6 D (.lst (acc++[y])))else ∃m',m'<m/\W (i+1) m' acc H5))
noncomputable def BD(wi:TI)(aB:List (Str × Nat))(n:Nat)(g:TG)(tt:TT)(te:TE):TE:=λσ H Q=>wi σ H λJ H1=>NR J aB n g tt te σ H1 Q
section
variable{X:Cx}{elt iter tg:Expr}{pos:Pos}{ifs:List Expr}{scope:Scope}{cl:List (Str × Addr)}{wi:TI}{tt:TT}{te:TE}{g:TG}
end
end L2
namespace L2
open PySem PySem.Spec PyProof.Rows
section
variable{X:Cx}{tg:Expr}
end
end L2
namespace L2
open PySem PySem.Spec PyProof.Rows
noncomputable def FF(h:Heap)(a T:Addr)(cls fl:Value):Prop :=
 ∃oe vs oT ts,h.get? a=some oe/\oe.cls=cls/\oe.dict=none/\oe.data=.fields vs/\vs[1]?=some (.ref T)/\T≠a/\h.get? T=some oT/\oT.data=.fields ts/\ts[3]?=some fl
noncomputable abbrev ik(h:Heap)(a T:Addr)(cls:Value):Prop:=FF h a T cls .none
theorem ZO(o:Obj)(f:Array Value->Array Value):(o.mapFields f).dict=o.dict:=by
 obtain⟨c,d,dt,sl⟩:=o
 cases dt<;>rfl
section
variable{M:Model}{A:Around}{E:Value->Shared->Prop}{s:Shared}{base:Heap}{env:Env}{outer:List Env}{L a T:Addr}{cls:Value}{oe:Obj}{vs:Array Value}{Q:Unit->Shared->Prop}
structure Ent(fs:List Addr)(h h':Heap)(a T:Addr)(oe:Obj)(L:Addr):Prop where
 new:h.get? T=none
 ne:T≠a
 keep:∀b o,b≠a->b ∉ fs->h.get? b=some o->h'.get? b=some o
 slot:∀b o,b≠a->h.get? b=some o->∃sl,h'.get? b=some { o with slots:=sl }
 exc:h'.get? a=some (oe.mapFields λz=>z.setIfInBounds 1 (.ref T))
 ent:∃oT ts,h'.get? T=some oT/\oT.data=.fields ts/\ts[3]?=some (rawInt L)
theorem NS{head:Value}{ZP:Bool}(eM:A.frames=some (env::outer))(hl:s.heap.FunFrames base (env::outer))(hf:env.frame=some L)(he:s.heap.get? a=some oe)(hd:oe.data=.fields vs)(ky:1<vs.size)
  (na:a ∉ (env::outer).filterMap (·.frame)) (k:∀h' T',Ent ((env::outer).filterMap (·.frame)) s.heap h' a T' oe L->Q () { s with heap:=h' }) :
  wpAny M A (do let x<-frameOf env;let pl<-entryPlaceOf L ZP;let b<-EntryCells.newEntry head x .none (rawInt L) .none pl;setField (.ref a) 1 b) Q E s:=by
 refine wpAny_bind (wpAny_frameOf_fun eM hl hf λg1 so=>wpAny_bind (wpAny_entryPlaceOf λpl ip=>?_))
 unfold EntryCells.newEntry newFields
 have e1:g1.get? a=some oe:=(so.2.1 a na).trans he
 refine wpAny_bind (wpAny_newObj_type ?_ (ip.sizeOk5 _ _ _ _ _))
 generalize NT:({ cls:=.type "traceback",dict:=none,data:=.fields ([head,dn L,.none,rawInt L,.none]++(if pl.isEmpty then aK 6 qJ else pl)).toArray }:Obj)=te
 have e2:(g1.push te).get? a=some oe:=fI te e1
 have ZQ:te.data=.fields ([head,dn L,.none,rawInt L,.none]++(if pl.isEmpty then aK 6 qJ else pl)).toArray:=by rw[<-NT]
 have nf:te.isFreed=false:=by rw[<-NT];rfl
 refine wpAny_setField e2 hd ky ?_
 have d3:=Eu hd λz=>z.setIfInBounds 1 (dn g1.objs.size)
 have nT:g1.objs.size≠a:=Lz (bG e1)
 refine k _ g1.objs.size ⟨?_,nT,λb o hb hz q=>?_,λb o hb q=>?_,Ek _ e2 (LK d3),⟨te,_,?_,ZQ,?_⟩⟩
 ·cases q:s.heap.get? g1.objs.size with
  | none=>rfl
  | some o=>obtain⟨sl,z⟩:=so.2.2 _ _ q;exact absurd (bG z) (gC _)
 ·rw[qL _ _ (fi hb)]
  exact fI te ((so.2.1 b hz).trans q)
 ·obtain⟨sl,z⟩:=so.2.2 b o q
  refine⟨sl,?_⟩
  rw[qL _ _ (fi hb)]
  exact fI te z
 ·rw[qL _ _ (fi nT)]
  exact g7 g1 nf
 ·first | (simp;done) | (rcases ip with rfl | ⟨_,_,_,_,_,_,_,rfl⟩<;>simp)
structure NU(fs Z:List Addr)(h h':Heap)(a T:Addr)(cls:Value):Prop where
 new:h.get? T=none
 keep:∀b o,b ∉ Z->b ∉ fs->h.get? b=some o->h'.get? b=some o
 slot:∀b o,b ∉ Z->h.get? b=some o->∃sl,h'.get? b=some { o with slots:=sl }
 uF:ik h' a T cls
theorem FG{fl:Value}(tr:FF s.heap a T cls fl)(k:∀h',(∀b o,b≠T->s.heap.get? b=some o->h'.get? b=some o)->ik h' a T cls->Q () { s with heap:=h' }):wpAny M A (setFlight (.ref a) none) Q E s:=by
 obtain⟨oe,vs,oT,ts,h1,h2,h3,h4,h5,h6,h7,h8,h9⟩:=tr
 have sz:3<ts.size:=(LL.mp h9).1
 unfold setFlight
 refine wpAny_bind (wpAny_field h1 h4 h5 ?_)
 rw[if_pos (by simp)]
 refine wpAny_setField h7 h8 sz (k _ (λb o hb q=>(qL _ _ (fi hb)).trans q) ?_)
 have d:=Eu h8 λz=>z.setIfInBounds 3 ((none:Option Addr).elim qJ λf=>rawInt f)
 exact⟨oe,vs,_,_,(qL _ _ h6).trans h1,h2,h3,h4,h5,h6,Ek _ h7 (LK d),d,by simp[sz]⟩
theorem Ent.fin{fs:List Addr}{h h':Heap}{a T L:Addr}{oe:Obj}{vs:Array Value}(e:Ent fs h h' a T oe L)(hd:oe.data=.fields vs)(ky:1<vs.size)(ZR:oe.dict=none):FF h' a T oe.cls (rawInt L):=by
 obtain⟨oT,ts,e1,e2,e3⟩:=e.ent
 exact⟨_,_,oT,ts,e.exc,Obj.cls_mapFields _ _,by rw[ZO];exact ZR,Eu hd _,by simp[ky],e.ne,e1,e2,e3⟩
theorem NV(eM:A.frames=some (env::outer))(hl:s.heap.FunFrames base (env::outer))(hf:env.frame=some L)(na:a ∉ (env::outer).filterMap (·.frame))(tr:ik s.heap a T cls)
  (k:∀h' T',NU ((env::outer).filterMap (·.frame)) [a,T] s.heap h' a T' cls->Q () { s with heap:=h' }):wpAny M A (noteFrame (.ref a) env) (λ_ jL=>wpAny M A (setFlight (.ref a) none) Q E jL) E s:=by
 obtain⟨oe,vs,oT,ts,h1,h2,h3,h4,h5,h6,h7,h8,h9⟩:=tr
 have s1:1<vs.size:=(LL.mp h5).1
 have s3:3<ts.size:=(LL.mp h9).1
 unfold noteFrame
 simp only[hf]
 refine wpAny_bind (wpAny_field h1 h4 h5 ?_)
 rw[if_pos (by simp)]
 refine wpAny_bind (wpAny_field h7 h8 h9 ?_)
 rw[if_neg (by simp[rawInt])]
 refine wpAny_bind (wpAny_setField h7 h8 s3 ?_)
 generalize hg:s.heap.update T (Obj.mapFields λz=>z.setIfInBounds 3 qJ)=g
 have rC:∀b,b≠T->g.get? b=s.heap.get? b:=λb hb=>by rw[<-hg];exact qL _ _ (fi hb)
 have bT:∀b o,s.heap.get? b=some o->(∀ws,o.data≠.fields ws)->b≠T:=λb o q hn z=>by subst z;rw[h7]at q;cases q;exact hn ts h8
 have gT:∃ZS,g.get? T=some ZS:=⟨_,by rw[<-hg];exact Ek _ h7 (LK (Eu h8 _))⟩
 refine NS (s:={ s with heap:=g }) eM (hl.of_keeps λb o q hn=>⟨o,(rC b (bT b o q hn)).trans q,rfl⟩) hf ((rC a (fi h6)).trans h1) h4 s1 na λh' T' en=>?_
 have ZT:T'≠T:=λz=>by subst z;obtain⟨o,q⟩:=gT;rw[en.new]at q;cases q
 refine FG (s:={ s with heap:=h' }) (h2 ▸ en.fin h4 s1 h3) λFH kp FI=>?_
 refine k FH T' ⟨(rC T' ZT).symm.trans en.new,λb o hz hb q=>?_,λb o hz q=>?_,FI⟩
 ·have z1:b≠a:=λz=>hz (by simp[z])
  have z2:b≠T:=λz=>hz (by simp[z])
  have z3:b≠T':=λz=>by have:=en.new;rw[<-z,rC b z2,q]at this;cases this
  exact kp b o z3 (en.keep b o z1 hb ((rC b z2).trans q))
 ·have z1:b≠a:=λz=>hz (by simp[z])
  have z2:b≠T:=λz=>hz (by simp[z])
  have z3:b≠T':=λz=>by have:=en.new;rw[<-z,rC b z2,q]at this;cases this
  obtain⟨sl,r⟩:=en.slot b o z1 ((rC b z2).trans q)
  exact⟨sl,kp b _ z3 r⟩
theorem ZU{h1:Heap}{args:List Value}(eM:A.frames=some (env::outer))(hl:s.heap.FunFrames base (env::outer))(hf:env.frame=some L)(hx:LM s.heap h1 a cls args)
  (k:∀h' T',NU ((env::outer).filterMap (·.frame)) [] s.heap h' a T' cls->Q () { s with heap:=h' }):wpAny M A (noteFrame (.ref a) env) (λ_ jL=>wpAny M A (setFlight (.ref a) none) Q E jL) E { s with heap:=h1 }:=by
 obtain⟨t,e1,_,_⟩:=hx.there
 have na:a ∉ (env::outer).filterMap (·.frame):=λhb=>by obtain⟨_,o,ho,_⟩:=hl.mem hb;rw[hx.new]at ho;cases ho
 unfold noteFrame
 simp only[hf]
 refine wpAny_bind (wpAny_field (s:={ s with heap:=h1 }) e1 rfl (x:=.none) (by rfl) ?_)
 rw[if_neg (by decide)]
 refine NS (s:={ s with heap:=h1 }) eM (hl.of_keeps λb o q _=>⟨o,hx.keeps b o q,rfl⟩) hf e1 rfl (by simp) na λh' T' en=>?_
 refine FG (s:={ s with heap:=h' }) (en.fin rfl (by simp) rfl) λFH kp FI=>?_
 have ba:∀b o,s.heap.get? b=some o->b≠a:=λb o q z=>by rw[z,hx.new]at q;cases q
 have bT:∀b o,s.heap.get? b=some o->b≠T':=λb o q z=>by have:=hx.keeps b o q;rw[z,en.new]at this;cases this
 refine k FH T' ⟨?_,λb o _ hb q=>kp b o (bT b o q) (en.keep b o (ba b o q) hb (hx.keeps b o q)),λb o _ q=>?_,FI⟩
 ·cases q:s.heap.get? T' with
  | none=>rfl
  | some o=>exact absurd rfl (bT T' o q)
 ·obtain⟨sl,r⟩:=en.slot b o (ba b o q) (hx.keeps b o q)
  exact⟨sl,kp b _ (bT b o q) r⟩
end
end L2
namespace L2
open PySem PySem.Spec PyProof.Rows
theorem eC.there{P:Program}{w:World}{H:Hp}{h:Heap}{a:Addr}{o:HO}(x:eC P w H h a o):∃u,h.get? a=some u:=by
 cases o with
 | lst xs=>obtain⟨_,_,_,_,e⟩:=x;exact⟨_,e⟩
 | tup xs=>obtain⟨_,_,_,o,e,_⟩:=x;exact⟨o,e⟩
 | dK dU=>obtain⟨_,_,_,_,o,_,_,e,_⟩:=x;exact⟨_,e⟩
 | dT dU=>obtain⟨_,_,_,_,o,_,_,e,_⟩:=x;exact⟨_,e⟩
 | set S n=>obtain⟨o,_,_,_,e,_⟩:=x;exact⟨_,e⟩
 | ins C dx fs=>obtain⟨_,_,_,e,_⟩:=x;exact⟨_,e⟩
 | own y=>exact x
 | xd fs=>obtain⟨_,⟨_,_,_,e,_⟩,_⟩:=x;exact⟨_,e⟩
 | xw lo hi=>obtain⟨_,_,_,e⟩:=x;exact⟨_,e⟩
 | bu ob u=>obtain⟨e,_⟩:=x;exact⟨_,e⟩
 | dP ps=>exact⟨_,show h.get? a=some _ from x.1⟩
 | met f y=>exact⟨_,show h.get? a=some _ from x⟩
 | ext φ=>obtain⟨_,e,_⟩:=x;exact e
theorem cQ.none{P:Program}{w:World}{H:Hp}{h:Heap}{a:Addr}(x:cQ P w H h)(e:h.get? a=.none):H a=.none:=by
 cases q:H a with
 | none=>rfl
 | some u=>obtain⟨o,z⟩:=(x a u q).there;rw[e]at z;cases z
structure Apart(X:Cx)(pins:List (Addr × Obj))(H:Hp)(b:Addr):Prop where
 old:X.cJ.heap.get? b=none
 free:H b=none
 loc:b≠X.env.locals
 cell:∀x c,X.env.cells.lookup x=some c->c≠b
 pin:∀p∈X.pn++pins,p.1≠b
 fr:b ∉ dW X.stack
section
variable{X:Cx}{pins:List (Addr × Obj)}{σ:St}{H H':Hp}{s:Shared}{a T b:Addr}{cls:Value}{M:Model}{Q:Unit->Shared->Prop}{E:Value->Shared->Prop}{h':Heap}
theorem ZV(I:Inv X pins σ H s)(hb:b∈dW X.stack):∃o,s.heap.get? b=some o/\∀vs,o.data≠.fields vs:=(I.stack.mem hb).2
theorem Inv.old(I:Inv X pins σ H s)(hex:X.ex=[])(e:s.heap.get? b=none):X.cJ.heap.get? b=none:=by
 cases q:X.cJ.heap.get? b with
 | none=>rfl
 | some o=>obtain⟨o',z⟩:=I.base.there b o q (by rw[hex];simp);rw[e]at z;cases z
theorem Inv.apart(I:Inv X pins σ H s)(hex:X.ex=[])(e:s.heap.get? b=none)(n:H' b=none):Apart X pins H' b where
 old:=I.old hex e
 free:=n
 loc:=λz=>by obtain⟨m,⟨o,_,_,ho,_⟩,_⟩:=I.loc;rw[z,ho]at e;cases e
 cell:=λx c hc z=>by obtain⟨v,o,ho,_⟩:=I.cell x c hc;rw[z,e]at ho;cases ho
 pin:=λp hp z=>by have:=(I.pin p hp).1;rw[z,e]at this;cases this
 fr:=λhb=>by obtain⟨o,ho,_⟩:=ZV I hb;rw[e]at ho;cases ho
theorem NW(I:Inv X pins σ H s)(cu:X.stack=X.env::X.outer)(hex:X.ex=[])(hf:X.env.frame=some X.env.locals)(Z:List Addr)(hZ:∀b∈Z,X.cJ.heap.get? b=none/\H b=none)
  (keep:∀b o,b ∉ Z->b ∉ dW X.stack->s.heap.get? b=some o->h'.get? b=some o) (slots:∀b o,b ∉ Z->s.heap.get? b=some o->∃sl,h'.get? b=some { o with slots:=sl }) :
  Un (dW X.outer) [] X.km H X.cJ.heap h'/\cQ X.prog X.w H h':=by
 have rD:∀b o,X.cJ.heap.get? b=some o->b ∉ Z:=λb o e z=>by rw[(hZ b z).1]at e;cases e
 have sub:∀b,b∈dW X.stack->b=X.env.locals\/b∈dW X.outer:=λb hb=>by
  rw[cu]at hb
  unfold dW at hb
  rw[Ak,hf]at hb
  exact cL.mp hb
 have sup:∀b,b∈dW X.outer->b∈dW X.stack:=λb hb=>by
  rw[cu]
  unfold dW
  rw[Ak,hf]
  exact fh _ hb
 have ug:∀b o,X.cJ.heap.get? b=some o->b≠X.env.locals:=λb o e=>eT (cK (bG e) I.ok.above)
 have nx:∀b:Addr,b ∉ X.ex:=λb=>by rw[hex];simp
 refine⟨⟨λb o e n hb _=>?_,λb o e n hb _=>?_,λb o e n _=>I.base.free b o e n (nx b),λb o e _=>?_,I.base.iK,I.base.g8,I.base.gE⟩,λb ob e=>?_⟩
 ·exact keep b o (rD b o e) (λz=>(sub b z).elim (ug b o e) hb) (I.base.keep b o e n hb (nx b))
 ·obtain⟨sl,e1⟩:=I.base.slot b o e n hb (nx b)
  exact(slots b _ (rD b o e) e1).imp λsl h=>h
 ·obtain⟨o',e1⟩:=I.base.there b o e (nx b)
  exact(slots b o' (rD b o e) e1).elim λsl q=>⟨_,q⟩
 ·refine(I.aE b ob e).i8 (λc u hc q=>keep c u (λz=>?_) (λz=>?_) q) (λ_ q=>q) (λ_ _ q=>q) λ_ _ q=>q
  ·have n:=(hZ c z).2
   rcases hc with rfl | hc
   ·rw[n]at e;cases e
   ·rw[n]at hc;cases hc
  ·have n:=I.AY c z
   rcases hc with rfl | hc
   ·rw[n]at e;cases e
   ·rw[n]at hc;cases hc
structure NX(X:Cx)(H:Hp)(h':Heap)(a T:Addr)(cls:Value):Prop where
 un:Un (dW X.outer) [] X.km H X.cJ.heap h'
 aE:cQ X.prog X.w H h'
 uF:ik h' a T cls
 a0:X.cJ.heap.get? a=none
 a1:H a=none
 t0:X.cJ.heap.get? T=none
 t1:H T=none
theorem ZW(I:Inv X pins σ H s)(cu:X.stack=X.env::X.outer)(hex:X.ex=[])(hf:X.env.frame=some X.env.locals)(tr:ik s.heap a T cls)(pa:Apart X pins H a)(pT:Apart X pins H T)
  (hQ:∀h' T',NX X H h' a T' cls->Q () { s with heap:=h' }):wpAny M X.A (leaving X.env (.ref a)) Q E s:=by
 have hZ:∀b∈[a,T],X.cJ.heap.get? b=none/\H b=none:=λb hb=>by
  rcases cL.mp hb with rfl | hb
  ·exact⟨pa.old,pa.free⟩
  ·rw[dR.mp hb];exact⟨pT.old,pT.free⟩
 have na:a ∉ (X.env::X.outer).filterMap (·.frame):=by have:=pa.fr;rw[cu]at this;exact this
 refine wpAny_bind (NV (base:=X.base) (by rw[I.ok.frames,cu]) (cu ▸ I.stack) hf na tr λh' T' st=>?_)
 have kp:∀b o,b ∉ [a,T]->b ∉ dW X.stack->s.heap.get? b=some o->h'.get? b=some o:=λb o hz hb q=>st.keep b o hz (by rw[cu]at hb;exact hb) q
 obtain⟨un,aE⟩:=NW (h':=h') I cu hex hf [a,T] hZ kp st.slot
 exact hQ h' T' ⟨un,aE,st.uF,pa.old,pa.free,I.old hex st.new,I.aE.none st.new⟩
theorem ZX{h1:Heap}{args:List Value}(I:Inv X pins σ H s)(cu:X.stack=X.env::X.outer)(hex:X.ex=[])(hf:X.env.frame=some X.env.locals)(hx:LM s.heap h1 a cls args)
  (hQ:∀h' T',NX X H h' a T' cls->Q () { s with heap:=h' }):wpAny M X.A (leaving X.env (.ref a)) Q E { s with heap:=h1 }:=by
 refine wpAny_bind (ZU (base:=X.base) (by rw[I.ok.frames,cu]) (cu ▸ I.stack) hf hx λh' T' st=>?_)
 have kp:∀b o,b ∉ ([]:List Addr)->b ∉ dW X.stack->s.heap.get? b=some o->h'.get? b=some o:=λb o hz hb q=>st.keep b o hz (by rw[cu]at hb;exact hb) q
 obtain⟨un,aE⟩:=NW (h':=h') I cu hex hf [] (λb hb=>absurd hb (by simp)) kp st.slot
 exact hQ h' T' ⟨un,aE,st.uF,I.old hex hx.new,I.aE.none hx.new,I.old hex st.new,I.aE.none st.new⟩
end
noncomputable def kA(P:Program)(w:World):eY:=λouter H s E e s'=>∃a T cls H',e=.ref a/\s'.os=s.os/\AllBare s'.gens/\Un (dW outer) [] H H' s.heap s'.heap/\cQ P w H' s'.heap/\ik s'.heap a T cls /\
 s.heap.get? a=none/\H' a=none/\s.heap.get? T=none/\H' T=none/\E cls none H'
section
variable{X:Cx}{pins:List (Addr × Obj)}{σ:St}{H H':Hp}{s:Shared}{a T b:Addr}{cls:Value}{M:Model}{Q:Unit->Shared->Prop}{E:Value->Shared->Prop}{h':Heap}
theorem Inv.NY(I:Inv X pins σ H s)(hex:X.ex=[])(Z:List Addr)(hZ:∀b∈Z,Apart X pins H b)
  (keep:∀b o,b ∉ Z->b ∉ dW X.stack->s.heap.get? b=some o->h'.get? b=some o) (slots:∀b o,b ∉ Z->s.heap.get? b=some o->∃sl,h'.get? b=some { o with slots:=sl }) (g':Array GenState) (t':Nat) (d':Drawn) (hg:AllBare g') :
  Inv X pins σ H { s with heap:=h',gens:=g',toks:=t',drawn:=d' }:=by
 have nx:∀b:Addr,b ∉ X.ex:=λb=>by rw[hex];simp
 have any:=slots
 have rD:∀b o,X.cJ.heap.get? b=some o->b ∉ Z:=λb o e z=>by rw[(hZ b z).old]at e;cases e
 have ug:∀b o,X.cJ.heap.get? b=some o->b≠X.env.locals:=λb o e=>eT (cK (bG e) I.ok.above)
 have cz:∀x c,X.env.cells.lookup x=some c->c ∉ Z:=λx c e z=>(hZ c z).cell x c e rfl
 have cellK:∀x c,X.env.cells.lookup x=some c->∀v,s.heap.IsCell c v->h'.IsCell c v:=λx c e v zz=>by
  obtain⟨o,ho,hd⟩:=zz
  obtain⟨sl,q⟩:=any c o (cz x c e) ho
  exact⟨_,q,hd⟩
 have NZ:∀b,b ∉ X.fs->b≠X.env.locals->b ∉ dW X.stack:=λb h1 h2 h3=>(cL.mp (I.xy b h3)).elim h2 h1
 refine⟨I.ok,I.os,hg,⟨λb o e n hb hx=>?_,λb o e n hb hx=>?_,I.base.free,λb o e hx=>?_,I.base.iK,I.base.g8,I.base.gE⟩,?_,λx c e=>?_,I.free,I.fZ,λp hp=>?_,λb ob e=>?_,I.len⟩
 ·exact keep b o (rD b o e) (NZ b hb (ug b o e)) (I.base.keep b o e n hb hx)
 ·obtain⟨sl,e1⟩:=I.base.slot b o e n hb hx
  obtain⟨xC,e2⟩:=any b _ (rD b o e) e1
  exact⟨xC,e2⟩
 ·obtain⟨o',e1⟩:=I.base.there b o e hx
  obtain⟨sl,e2⟩:=any b o' (rD b o e) e1
  exact⟨_,e2⟩
 ·obtain⟨m,hn,hl⟩:=I.loc
  obtain⟨o,es,ep,ho,hd,r⟩:=id hn
  obtain⟨sl,q⟩:=slots _ o (λz=>(hZ _ z).loc rfl) ho
  refine⟨m,⟨_,es,ep,q,hd,r⟩,λi x v e1 e2 e3=>?_⟩
  obtain⟨u,r,l⟩:=hl i x v e1 e2 e3
  refine⟨u,r,?_⟩
  rcases l with l | ⟨k,c,e,z⟩
  ·exact .inl l
  ·exact .inr ⟨k,c,e,cellK x c e _ z⟩
 ·obtain⟨v,z⟩:=I.cell x c e
  exact⟨v,cellK x c e v z⟩
 ·obtain⟨e,n,ne,nf,d⟩:=I.pin p hp
  exact⟨keep p.1 p.2 (λz=>(hZ _ z).pin p hp rfl) (NZ _ nf ne) e,n,ne,nf,d⟩
 ·refine(I.aE b ob e).i8 (λc u hc q=>keep c u (λz=>?_) (λz=>?_) q) (λ_ q=>q) (λ_ _ q=>q) λ_ _ q=>q
  ·have n:=(hZ c z).free
   rcases hc with rfl | hc
   ·rw[n]at e;cases e
   ·rw[n]at hc;cases hc
  ·have n:=I.AY c z
   rcases hc with rfl | hc
   ·rw[n]at e;cases e
   ·rw[n]at hc;cases hc
theorem ZY(pa:Apart X pins H a)(pT:Apart X pins H T):∀b∈[a,T],Apart X pins H b:=λb hb=>by
 rcases cL.mp hb with rfl | hb
 ·exact pa
 ·rw[dR.mp hb];exact pT
theorem ZZ(I:Inv X pins σ H s)(cu:X.stack=X.env::X.outer)(hex:X.ex=[])(hf:X.env.frame=some X.env.locals)(tr:ik s.heap a T cls)(pa:Apart X pins H a)(pT:Apart X pins H T)
  (hQ:∀h' T',Inv X pins σ H { s with heap:=h' }->ik h' a T' cls->Apart X pins H T'->Q () { s with heap:=h' }) :
  wpAny M X.A (noteFrame (.ref a) X.env) (λ_ jL=>wpAny M X.A (setFlight (.ref a) none) Q E jL) E s:=by
 have na:a ∉ (X.env::X.outer).filterMap (·.frame):=by have:=pa.fr;rw[cu]at this;exact this
 refine NV (base:=X.base) (by rw[I.ok.frames,cu]) (cu ▸ I.stack) hf na tr λh' T' st=>?_
 exact hQ h' T' (I.NY hex [a,T] (ZY pa pT) (λb o hz hb q=>st.keep b o hz (by rw[cu]at hb;exact hb) q) st.slot s.gens s.toks s.drawn I.bare) st.uF (I.apart hex st.new (I.aE.none st.new))
theorem Z0{A:Around}(I:Inv X pins σ H s)(hex:X.ex=[])(tr:ik s.heap a T cls)(pT:Apart X pins H T)
  (hQ:∀h',Inv X pins σ H { s with heap:=h' }->ik h' a T cls->Q () { s with heap:=h' }):wpAny M A (setFlight (.ref a) none) Q E s:=by
 refine FG tr λh' kp FJ=>hQ h' (I.NY hex [T] (λb hb=>by rw[dR.mp hb];exact pT) (λb o hz _ q=>kp b o (by simpa using hz) q) (λb o hz q=>⟨o.slots,kp b o (by simpa using hz) q⟩) s.gens s.toks s.drawn I.bare) FJ
theorem Z1{A:Around}{i:Nat}{n:Str}{pos:Pos}(I:Inv X pins σ H s)(hN:X.N.Nodup)(hi:X.N[i]?=some n)(hl:X.env.kindOf n=some .local)
  (hQ:∀s',Inv X pins (σ.set i none) H s'->Q () s'):wpAny M A (do bindName X.env n .none;unbindBehindTheSuite X.env n pos) Q E s:=by
 obtain⟨m,hn,Z2⟩:=id I.loc
 have kn:=I.kn
 refine PySem.wpAny_nameGoes_keeps hl hn (by rw[I.ok.kind];rfl) λh' v EY hs=>hQ _ ?_
 obtain⟨oL,_,_,Mt,_⟩:=id hn
 refine⟨I.ok,I.os,I.bare,⟨λb o e n' hb hx=>?_,λb o e n' hb hx=>?_,I.base.free,λb o e hx=>?_,I.base.iK,I.base.g8,I.base.gE⟩,⟨_,EY,λj y w e1 e2 e3=>?_⟩,λy c e=>?_,I.free,I.fZ,λp hp=>?_,λb ob e=>?_,by simpa using I.len⟩
 ·exact(hs.2 b (eT (cK (bG e) I.ok.above))).trans (I.base.keep b o e n' hb hx)
 ·obtain⟨sl,e1⟩:=I.base.slot b o e n' hb hx
  exact⟨sl,(hs.2 b (eT (cK (bG e) I.ok.above))).trans e1⟩
 ·obtain⟨o',e1⟩:=I.base.there b o e hx
  exact⟨o',(hs.2 b (eT (cK (bG e) I.ok.above))).trans e1⟩
 ·by_cases hj:j=i
  ·subst hj
   rw[List.getElem?_set_self']at e2
   cases q:σ[j]?<;>rw[q]at e2<;>cases e2
  ·rw[qK (fi hj)]at e2
   obtain⟨u',r',q⟩:=Z2 j y w e1 e2 e3
   refine⟨u',r',?_⟩
   rcases q with⟨k,e⟩ | ⟨k,c,e,z⟩
   ·refine .inl ⟨k,?_⟩
    have:y≠n:=λe=>hj (EX hN e1 (e ▸ hi))
    simp[this,e]
   ·exact .inr ⟨k,c,e,z.sameBut hs (kn y c e)⟩
 ·obtain⟨w',z⟩:=I.cell y c e
  exact⟨w',z.sameBut hs (kn y c e)⟩
 ·obtain⟨e,n',ne,nf,d⟩:=I.pin p hp
  exact⟨(hs.2 p.1 ne).trans e,n',ne,nf,d⟩
 ·refine(I.aE b ob e).i8 (λc w' hc q=>(hs.2 c ?_).trans q) (λ_ q=>q) (λ_ _ q=>q) λ_ _ q=>q
  rintro rfl
  rcases hc with rfl | hc
  ·rw[I.free]at e;cases e
  ·rw[I.free]at hc;cases hc
end
end L2
namespace L2
open PySem PySem.W PySem.Spec PySem.Calls PyProof.Rows
section
variable{prog:Program}{w:World}{A:Around}{E:Value->Shared->Prop}{s:Shared}{K:Frag}{x D:Addr}{ox:Obj}{pS:Option Obj}
theorem Z3{tk:Tok}{Q:Fin->Shared->Prop}(X:K.In s.heap)(I:PySem.W.InstAt s.heap x ox D pS)(hf:findObj K D pS "__class__"=some (.bind (.builtin "getset_descriptor.__get__") (.builtin "object.__class__")))(hm:mroIn K D (.type "object")=some true)
  (hq:Q (.done (.ret (.ref D))) s):wpAny (model prog w) A (Builtin.«object.__getattribute__» ⟨[.ref x,.str "__class__" tk],[]⟩) Q E s:=by
 have cg:=λ(R:Result->Shared->Prop) (hR:R (.ok (.ret (.ref D))) s) (A:Around)=>PySem.W.class_get (prog:=prog) (w:=w) (A:=A) (R:=R) (tp:=.ref D) X I hm hR
 obtain⟨hh,g,d,t,os⟩:=s
 have L0:=I.type (M:=model prog w)
 have L1:=looks_find (M:=model prog w) X I hf
 unfold Builtin.«object.__getattribute__»
 repeat (any_goals (first | assumption | refine wpAny_bind (L0.at ?_) | refine wpAny_bind (L1.at ?_) | wp_step))
 exact cg _ (wpAny_pure hq) _
theorem Z4{M:Model}{N0:Value}{Q:Unit->Shared->Prop}(X:K.In s.heap)(I:PySem.W.InstAt s.heap x ox D pS)(hb:mroIn K D (.type "BaseException")=some true)(hq:Q () s) :
  wpAny M A (checkBuiltinCall "BaseException.__getattribute__" ⟨[.ref x,N0],[]⟩) Q E s:=by
 obtain⟨hh,g,d,t,os⟩:=s
 have L0:=I.type (M:=M)
 have L1:=looks_mroIn (M:=M) X hb
 have hk:builtinKind "BaseException.__getattribute__"=some .slot:=by decide +kernel
 have Z5:splitId "BaseException.__getattribute__"=some ("BaseException","__getattribute__"):=by decide +kernel
 have ha:=F.args_bexc_ga (.ref x) N0
 simp only[checkBuiltinCall,hk,Z5]
 refine wpAny_bind ?_
 ·unfold isInstance
  repeat (first | refine wpAny_bind (L0.at ?_) | refine wpAny_bind (L1.at ?_) | refine L1.at ?_ | wp_step)
  exact hq
theorem Z6{tk:Tok}{R:Result->Shared->Prop}(X:K.In s.heap)(I:PySem.W.InstAt s.heap x ox D pS)(hf:findObj K D pS "__class__"=some (.bind (.builtin "getset_descriptor.__get__") (.builtin "object.__class__")))(hm:mroIn K D (.type "object")=some true)(hb:mroIn K D (.type "BaseException")=some true)
  (hq:R (.ok (.ret (.ref D))) s):codeAny (model prog w) A (.call (.builtin "BaseException.__getattribute__") ⟨[.ref x,.str "__class__" tk],[]⟩) R s :=
 codeAny_call_builtin (by decide +kernel) F.entry_bexc_ga (Z4 X I hb (Z3 X I hf hm hq))
end
end L2
namespace L2
open PySem PySem.W PySem.Spec PySem.Calls PyProof.Rows
section
variable{prog:Program}{w:World}{A:Around}{E:Value->Shared->Prop}{s:Shared}{K:Frag}{x D:Addr}{ox:Obj}{pS:Option Obj}
theorem Z7{Q:Option Value->Shared->Prop}(X:K.In s.heap)(I:PySem.W.InstAt s.heap x ox D pS)(Z8:findIn K (.ref D) "__getattribute__"=some (some (.builtin "BaseException.__getattribute__")))(Z9:findIn K (.ref D) "__getattr__"=some none)
  (hf:findObj K D pS "__class__"=some (.bind (.builtin "getset_descriptor.__get__") (.builtin "object.__class__"))) (hm:mroIn K D (.type "object")=some true) (hb:mroIn K D (.type "BaseException")=some true)
  (h:Q (some (.ref D)) { s with toks:=s.toks+1 }):wpAny (model prog w) A (getAttr? (.ref x) "__class__") Q E s:=by
 have xc:=λ(R:Result->Shared->Prop) (tk:Tok) (hR:R (.ok (.ret (.ref D))) { s with toks:=s.toks+1 }) (A:Around)=>Z6 (prog:=prog) (w:=w) (A:=A) (R:=R) (tk:=tk) (s:={ s with toks:=s.toks+1 }) X I hf hm hb hR
 obtain⟨hh,g,d,t,os⟩:=s
 have L0:=I.type (M:=model prog w)
 have L1:=looks_findIn (M:=model prog w) X Z8
 have L2:=looks_findIn (M:=model prog w) X Z9
 have f3:=(F.excAttr_ValueError).ga.bind (.ref x)
 have ff:(Ew "BaseException.__getattribute__"==Ew "object.__getattribute__")=false:=by decide +kernel
 have cV:(onTheHeap (dn D)&&Ew "BaseException.__getattribute__"==Ew "object.__getattribute__")=false:=by rw[ff];rfl
 unfold getAttr? getAttrBy? getAttrBy
 refine wpAny_bind (wpAny_mkText (wpAny_bind (wpAny_attempt (wpAny_holding (wpAny_bind (L0.at (wpAny_bind (L1.at ?_))))))))
 dsimp only
 rw[cV]
 simp only[qP,if_false]
 unfold getAttrByItsOwn
 repeat (any_goals (first | assumption | refine wpAny_bind (L0.at ?_) | refine wpAny_bind (L2.at ?_) | wp_step))
 refine xc _ t ?_ _
 show wpAny _ _ (handedOut (.ref D)) _ _ _
 exact handed_on rfl (wpAny_pure h)
structure uG(K:Frag)(C:Addr):Prop where
 cls:(clsIn K C).isSome=true
 ga:findIn K (.ref C) "__getattribute__"=some (some (.builtin "BaseException.__getattribute__"))
 gt:findIn K (.ref C) "__getattr__"=some none
 ca:findIn K (.ref C) "__class__"=some (some (.builtin "object.__class__"))
 hn:specialIn K (.builtin "object.__class__") "__get__"=some (some (.builtin "getset_descriptor.__get__"))
 tk:takesIn K (.builtin "object.__class__")=some true
 mo:mroIn K C (.type "object")=some true
 mb:mroIn K C (.type "BaseException")=some true
noncomputable def mI(a C:Addr)(h:Heap):Prop:=∃o,h.get? a=some o/\o.cls=.ref C/\notCls o=true/\o.dict=none
theorem γ{K:Frag}{C:Addr}{name:Str}{a g:Value}(hc:(clsIn K C).isSome=true)(ha:findIn K (.ref C) name=some (some a))(hg:specialIn K a "__get__"=some (some g))(ht:takesIn K a=some true):findObj K C none name=some (.bind g a):=by
 obtain⟨cd,hc⟩:=Ap.mp hc
 unfold findObj
 rw[hc,V6,ha,V6]
 simp[hg,ht]
theorem N1{a C:Addr}{h:Heap}(p:mI a C h):∃ox,PySem.W.InstAt h a ox C none:=by
 obtain⟨o,h1,h2,h3,h4⟩:=p
 exact⟨o,h1,h2,h3,by rw[h4];trivial⟩
theorem ε{a C:Addr}(c:uG K C):KitX K (.ref a) (.ref C) (mI a C) where
 ty:=λ_ _ _ p=>let⟨_,I⟩:=N1 p;I.type
 it:=λ_ _ X _=>by
  obtain⟨uH,nv⟩:=Ap.mp c.cls
  unfold clsIn at nv
  split at nv
  ·rename_i c' d' ζ xC ho
   intro A' Q' E' s' k q
   unfold isType loadHead
   exact wpAny_bind (wpAny_loadPart (k _ _ (X _ _ ho)) (wpAny_pure q))
  ·cases nv
 ne:=λh tp dd its n sl X η=>by
  obtain⟨uH,nv⟩:=Ap.mp c.cls
  refine Bool.eq_false_iff.mpr λq=>?_
  have e:C=tp:=Value.ref.inj (beq_iff_eq.mp q)
  subst e
  unfold clsIn at nv
  split at nv
  ·rename_i c' d' ζ xC ho
   have z:=(X _ _ ho).symm.trans η
   cases z
  ·cases nv
 ca:=λX p k=>let⟨_,I⟩:=N1 p;Z7 X I c.ga c.gt (γ c.cls c.ca c.hn c.tk) c.mo c.mb k
end
end L2
namespace L2
open PySem PySem.Spec PyProof.Rows
section
variable{X:Cx}{pins:List (Addr × Obj)}{σ:St}{H:Hp}{s:Shared}{h':Heap}{its:List Addr}{T:Addr}{o:HO}{t':Nat}
theorem Inv.BE(I:Inv X pins σ H s)(k:∀b o,b ∉ its->s.heap.get? b=some o->h'.get? b=some o)(hf:∀b∈its,jf X pins H b):Inv X pins σ H { s with heap:=h',toks:=t' }:=by
 have pF:∀b u,H b=some u->b ∉ its:=λb u e z=>by have:=(hf b z).1;rw[this]at e;cases e
 refine I.step (g':=s.gens) (d':=s.drawn) (ch:=its) (λb hb=>?_) (λb o _ _ hc e _=>k b o hc e) (λb o _ _ hc e _=>⟨o.slots,k b o hc e⟩) (λ_ _ _ _ n=>n)
  (λb o hc e=>⟨o,k b o hc e⟩) (λ_ _ e=>e) (λ_ _ _ e=>e) (λb ps e=>⟨#[],by rw[e];simp⟩) (λm hm=>?_) (λb u e=>?_) I.bare
 ·obtain⟨_,h1,_,h2,h3,h4⟩:=hf b hb
  exact⟨h2,h1,h3,h4⟩
 ·obtain⟨o,es,ep,ho,r⟩:=hm
  exact⟨o,es,ep,k _ o (λz=>(hf _ z).2.1 rfl) ho,r⟩
 ·refine(I.aE b u e).i8 (λc v hc q=>k c v ?_ q) (λ_ q=>q) (λ_ _ q=>q) λ_ _ q=>q
  rcases hc with z | z
  ·rw[z];exact pF b u e
  ·exact pF c _ z
theorem Inv.N2(I:Inv X pins σ H s)(k:∀b o,b ∉ its->s.heap.get? b=some o->h'.get? b=some o)(hf:∀b∈its,jf X pins H b)(hT:s.heap.objs.size<=T)(new:eC X.prog X.w (upd H T o) h' T o) :
  Inv X pins σ (upd H T o) { s with heap:=h',toks:=t' }:=by
 have pF:∀b u,H b=some u->b ∉ its:=λb u e z=>by have:=(hf b z).1;rw[this]at e;cases e
 have fT:H T=none:=I.aE.fresh hT
 have neT:∀b u,H b=some u->b≠T:=λb u e z=>by rw[z,fT]at e;cases e
 have θ:∀b u,s.heap.get? b=some u->b≠T:=λb u e z=>absurd (cK (bG e) hT) (by rw[z];exact gC _)
 refine I.step (g':=s.gens) (d':=s.drawn) (ch:=its) (λb hb=>?_) (λb o _ _ hc e _=>k b o hc e) (λb o _ _ hc e _=>⟨o.slots,k b o hc e⟩) (λb u _ e n=>by rw[aU (θ b u e)];exact n)
  (λb o hc e=>⟨o,k b o hc e⟩) (λb _ e=>by rw[aU (neT b _ e)];exact e) (λb _ _ e=>by rw[aU (neT b _ e)];exact e) (λb ps e=>⟨#[],by rw[aU (neT b _ e),e];simp⟩) (λm hm=>?_) (λb u e=>?_) I.bare
 ·obtain⟨_,h1,_,h2,h3,h4⟩:=hf b hb
  exact⟨h2,h1,h3,h4⟩
 ·obtain⟨o,es,ep,ho,r⟩:=hm
  exact⟨o,es,ep,k _ o (λz=>(hf _ z).2.1 rfl) ho,r⟩
 ·by_cases hb:b=T
  ·subst hb;rw[bH]at e;cases e;exact new
  ·rw[aU hb]at e
   refine(I.aE b u e).i8 (λc v hc q=>k c v ?_ q) (λc q=>by rw[aU (neT c _ q)];exact q) (λc _ q=>by rw[aU (neT c _ q)];exact q) λc _ q=>by rw[aU (neT c _ q)];exact q
   rcases hc with z | z
   ·rw[z];exact pF b u e
   ·exact pF c _ z
noncomputable def FK(K:PySem.W.Frag)(a b:Addr):It :=
 ⟨λi H=>∃xs ys x y,bF K H a xs/\bF K H b ys/\xs[i]?=some x/\ys[i]?=some y,
  λi H v H'=>∃T x y,v=.ref T/\H T=none/\H'=upd H T (.tup [x,y])/\(∀xs,bF K H a xs->xs[i]?=some x)/\∀ys,bF K H b ys->ys[i]?=some y,
  λi H=>∃xs ys,bF K H a xs/\bF K H b ys/\(xs.length<=i\/ys.length<=i)⟩
theorem pU{K:PySem.W.Frag}{a c:Addr}{xs:List V}(hk:X.K=K)(I:Inv X pins σ H s)(h:bF K H a xs)(hf:jf X pins H c)(ho:∃o,s.heap.get? c=some o/\o.cls≠.type "list"):a≠c:=by
 subst hk
 obtain⟨its,rv,p,hz⟩:=I.list h
 obtain⟨o,e,d⟩:=ho
 obtain⟨o',e',c',_⟩:=p.isList
 intro z
 subst z
 rw[e]at e';cases e'
 exact d c'
theorem ι{P:Program}{w:World}{K:PySem.W.Frag}{elts:List Expr}{k:Nat}{pos:Pos}(a b z TI TO i1 i2:Addr)(D5:[z,TI,TO,i1,i2].Nodup) :
  Turn P w K (.Tuple elts k pos) (FK K a b) [z,TI,TO,i1,i2] z (λi h=>IsZip h z TI TO .none/\IsPair h TI (.ref i1) (.ref i2)/\(∃u v,IsPair h TO u v)/\h.IsListIter i1 a i/\h.IsListIter i2 b i):=by
 have ap:∀(X:Cx) (pins:List (Addr × Obj)) (s:Shared) (σ:St) (H:Hp) (i:Nat) (xs ys:List V),X.K=K->Inv X pins σ H s->(∀b∈[z,TI,TO,i1,i2],jf X pins H b)->IsZip s.heap z TI TO .none->(∃u v,IsPair s.heap TO u v)->s.heap.IsListIter i1 a i->s.heap.IsListIter i2 b i ->
   bF K H a xs->bF K H b ys->ZipApart z TI TO i1 i2 a b:=by
  intro X pins s σ H i xs ys hK I hf hz jq h1 h2 hx hy
  simp only[kS,cL,not_or,i5,not_false_eq_true,and_true]at D5
  obtain⟨⟨d1,d2,d3,d4⟩,⟨d5,d6,d7⟩,⟨d8,d9⟩,μ,_⟩:=D5
  have oz:∃o,s.heap.get? z=some o/\o.cls≠.type "list":=⟨_,hz,by intro q;exact absurd (Ey q) (by decide)⟩
  have N3:∃o,s.heap.get? TO=some o/\o.cls≠.type "list":=by obtain⟨u,v,e⟩:=jq;exact⟨_,e,by intro q;exact absurd (Ey q) (by decide)⟩
  have o1:∃o,s.heap.get? i1=some o/\o.cls≠.type "list":=by obtain⟨o,e,c,d⟩:=h1;exact⟨_,e,by rw[c];intro q;exact absurd (Ey q) (by decide)⟩
  have o2:∃o,s.heap.get? i2=some o/\o.cls≠.type "list":=by obtain⟨o,e,c,d⟩:=h2;exact⟨_,e,by rw[c];intro q;exact absurd (Ey q) (by decide)⟩
  exact⟨fi d1,fi d2,fi d3,fi d4,d5,d6,d7,d8,d9,μ,
   pU hK I hx (hf z (by simp)) oz,pU hK I hx (hf TO (by simp)) N3,pU hK I hx (hf i1 (by simp)) o1,pU hK I hx (hf i2 (by simp)) o2,
   pU hK I hy (hf z (by simp)) oz,pU hK I hy (hf TO (by simp)) N3,pU hK I hy (hf i1 (by simp)) o1,pU hK I hy (hf i2 (by simp)) o2⟩
 refine⟨by simp,λi h st c hc=>?_,λi h h' st kk=>?_,?_,?_,λ_ _ _ _ _ st h=>wpAny_pyIter_zip st.1 h⟩
 ·obtain⟨hz,lF,⟨u,v,jq⟩,⟨o1,e1,c1,d1⟩,⟨o2,e2,c2,d2⟩⟩:=st
  simp only[cL,i5,or_false]at hc
  rcases hc with rfl | rfl | rfl | rfl | rfl
  ·exact⟨_,hz,λv q=>by cases q⟩
  ·exact⟨_,lF,λv q=>by cases q⟩
  ·exact⟨_,jq,λv q=>by cases q⟩
  ·exact⟨_,e1,λv q=>by rw[d1]at q;cases q⟩
  ·exact⟨_,e2,λv q=>by rw[d2]at q;cases q⟩
 ·obtain⟨hz,lF,⟨u,v,jq⟩,h1,h2⟩:=st
  exact⟨kk _ (by simp) _ hz,kk _ (by simp) _ lF,⟨u,v,kk _ (by simp) _ jq⟩,h1.at λo e=>kk _ (by simp) o e,h2.at λo e=>kk _ (by simp) o e⟩
 ·intro X hP hw hK hc i pins s σ H E I hf st hg
  obtain⟨xs,ys,x,y,hx,hy,ex,ey⟩:=hg
  obtain⟨hz,lF,⟨u,v,jq⟩,h1,h2⟩:=st
  have D:=ap X pins s σ H i xs ys hK I hf hz ⟨u,v,jq⟩ h1 h2 hx hy
  subst hP hw hK
  obtain⟨as,ra,pa,_⟩:=I.list hx
  obtain⟨bs,rb,pb,_⟩:=I.list hy
  obtain⟨ux,FL,rx⟩:=ra.get ex
  obtain⟨uy,ν,ry⟩:=rb.get ey
  refine wpAny_pyNext_zip_item D hz lF jq h1 h2 pa.isList pb.isList (x:=ux) (y:=uy) (by simpa using FL) (by simpa using ν) λh' z' ξ kB jR T' sz kk=>?_
  have fT:H s.heap.objs.size=none:=I.aE.fresh (bD _)
  have I1:Inv X pins σ (upd H s.heap.objs.size (.tup [x,y])) { s with heap:=h',toks:=s.toks }:=I.N2 (its:=[z,TO,i1,i2]) (λc o hc e=>kk c o (λq=>hc (by simp[q])) (λq=>hc (by simp[q])) (λq=>hc (by simp[q])) (λq=>hc (by simp[q])) e)
   (λc hc=>hf c (by simp only[cL,i5,or_false]at hc ⊢;rcases hc with rfl | rfl | rfl | rfl<;>simp)) (bD _) ⟨by show 2<=sizeLine;decide,[ux,uy],.cons rx (.cons ry .nil),⟨_,T',rfl,_,rfl⟩⟩
  have nT:∀c∈[z,TI,TO,i1,i2],c≠s.heap.objs.size:=λc hc q=>by
   have:∃o,s.heap.get? c=some o:=by
    simp only[cL,i5,or_false]at hc
    rcases hc with rfl | rfl | rfl | rfl | rfl
    ·exact⟨_,hz⟩
    ·exact⟨_,lF⟩
    ·exact⟨_,jq⟩
    ·obtain⟨o,e,_⟩:=h1;exact⟨o,e⟩
    ·obtain⟨o,e,_⟩:=h2;exact⟨o,e⟩
   obtain⟨o,e⟩:=this
   exact absurd (bG e) (by rw[q];exact gC _)
  refine⟨_,rfl,wpAny_letOwnedTupleGo_zip z' λFN FP sb=>?_⟩
  have FQ:∀c∈[z],jf X pins (upd H s.heap.objs.size (.tup [x,y])) c:=λc hc=>by
   have e:c=z:=by simpa using hc
   subst e
   obtain⟨f0,fr⟩:=hf c (by simp)
   exact⟨by rw[aU (nT c (by simp))];exact f0,fr⟩
  have I2:=Inv.BE (h':=FN) (its:=[z]) (t':=s.toks) I1 (λc o hc e=>sb.extBut _ _ (λq=>hc (by simp[q])) e) FQ
  refine⟨.ref s.heap.objs.size,_,I2,rfl,⟨_,x,y,rfl,fT,rfl,λο dD=>by rw[I.Bd dD hx];exact ex,λN4 π=>by rw[I.Bd π hy];exact ey⟩,⟨FP,sb.extBut _ _ D.TIz (kk _ _ D.TIz D.TITO D.TIi1 D.TIi2 lF),⟨ux,uy,sb.extBut _ _ D.TOz ξ⟩,kB.extBut sb.extBut D.i1z,jR.extBut sb.extBut D.i2z⟩,λc hc=>?_⟩
  rw[aU (nT c hc)]
  exact(hf c hc).1
 ·intro X hP hw hK hc i pins s σ H E I hf st hg
  obtain⟨xs,ys,hx,hy,hl⟩:=hg
  obtain⟨hz,lF,⟨u,v,jq⟩,h1,h2⟩:=st
  have D:=ap X pins s σ H i xs ys hK I hf hz ⟨u,v,jq⟩ h1 h2 hx hy
  subst hP hw hK
  obtain⟨as,ra,pa,_⟩:=I.list hx
  obtain⟨bs,rb,pb,_⟩:=I.list hy
  have la:=ra.length
  have lb:=rb.length
  refine wpAny_pyNext_zip_end (I.ok.hd hc) D hz lF jq h1 h2 pa.isList pb.isList (hl.imp (λq=>by simp;omega) λq=>by simp;omega) λh' kk=>⟨rfl,?_⟩
  exact I.BE (its:=[z,TO,i1,i2]) (t':=s.toks) (λc o hc e=>kk c o (λq=>hc (by simp[q])) (λq=>hc (by simp[q])) (λq=>hc (by simp[q])) (λq=>hc (by simp[q])) e)
   (λc hc=>hf c (by simp only[cL,i5,or_false]at hc ⊢;rcases hc with rfl | rfl | rfl | rfl<;>simp))
noncomputable def FR(K:PySem.W.Frag)(a:Addr):It :=
 ⟨λi H=>∃xs x,bF K H a xs/\xs[i]?=some x,
  λi H v H'=>∃T x,v=.ref T/\H T=none/\H'=upd H T (.tup [.int i,x])/\∀xs,bF K H a xs->xs[i]?=some x,
  λi H=>∃xs,bF K H a xs/\xs.length<=i⟩
theorem ρ{P:Program}{w:World}{K:PySem.W.Frag}{elts:List Expr}{k:Nat}{pos:Pos}(a z it:Addr)(kC:z≠it) :
  Turn P w K (.Tuple elts k pos) (FR K a) [z,it] z (λi h=>(∃old,IsEnum h z it i old)/\h.IsListIter it a i):=by
 refine⟨by simp,λi h st c hc=>?_,λi h h' st kk=>?_,?_,?_,λ_ _ _ _ _ st h=>by obtain⟨⟨old,e⟩,_⟩:=st;exact wpAny_pyIter_enum e h⟩
 ·obtain⟨⟨old,hz⟩,⟨o1,e1,c1,d1⟩⟩:=st
  simp only[cL,i5,or_false]at hc
  rcases hc with rfl | rfl
  ·exact⟨_,hz,λv q=>by cases q⟩
  ·exact⟨_,e1,λv q=>by rw[d1]at q;cases q⟩
 ·obtain⟨⟨old,hz⟩,h1⟩:=st
  exact⟨⟨old,kk _ (by simp) _ hz⟩,h1.at λo e=>kk _ (by simp) o e⟩
 ·intro X hP hw hK hc i pins s σ H E I hf st hg
  subst hP hw hK
  obtain⟨xs,x,hx,ex⟩:=hg
  obtain⟨⟨old,hz⟩,h1⟩:=st
  obtain⟨as,ra,pa,_⟩:=I.list hx
  obtain⟨ux,FL,rx⟩:=ra.get ex
  refine wpAny_pyNext_enum_item hz h1 pa.isList (x:=ux) (by simpa using FL) kC λh' z' kB T' sz kk=>?_
  have fT:H s.heap.objs.size=none:=I.aE.fresh (bD _)
  have I1:Inv X pins σ (upd H s.heap.objs.size (.tup [.int i,x])) { s with heap:=h',toks:=s.toks+1 }:=I.N2 (its:=[z,it]) (λc o hc e=>kk c o (λq=>hc (by simp[q])) (λq=>hc (by simp[q])) e)
   (λc hc=>hf c hc) (bD _) ⟨by show 2<=sizeLine;decide,[.int i s.toks,ux],.cons ⟨_,rfl⟩ (.cons rx .nil),⟨_,T',rfl,_,rfl⟩⟩
  have nT:∀c∈[z,it],c≠s.heap.objs.size:=λc hc q=>by
   have:∃o,s.heap.get? c=some o:=by
    simp only[cL,i5,or_false]at hc
    rcases hc with rfl | rfl
    ·exact⟨_,hz⟩
    ·obtain⟨o,e,_⟩:=h1;exact⟨o,e⟩
   obtain⟨o,e⟩:=this
   exact absurd (bG e) (by rw[q];exact gC _)
  refine⟨_,rfl,wpAny_letOwnedTupleGo_enum z' λFN FP sb=>?_⟩
  have FQ:∀c∈[z],jf X pins (upd H s.heap.objs.size (.tup [.int i,x])) c:=λc hc=>by
   have e:c=z:=by simpa using hc
   subst e
   obtain⟨f0,fr⟩:=hf c (by simp)
   exact⟨by rw[aU (nT c (by simp))];exact f0,fr⟩
  have I2:=Inv.BE (h':=FN) (its:=[z]) (t':=s.toks+1) I1 (λc o hc e=>sb.extBut _ _ (λq=>hc (by simp[q])) e) FQ
  refine⟨.ref s.heap.objs.size,_,I2,rfl,⟨_,x,rfl,fT,rfl,λο dD=>by rw[I.Bd dD hx];exact ex⟩,⟨⟨ux,by simpa using FP⟩,kB.extBut sb.extBut (fi kC)⟩,λc hc=>?_⟩
  rw[aU (nT c hc)]
  exact(hf c hc).1
 ·intro X hP hw hK hc i pins s σ H E I hf st hg
  subst hP hw hK
  obtain⟨xs,hx,hl⟩:=hg
  obtain⟨⟨old,hz⟩,h1⟩:=st
  obtain⟨as,ra,pa,_⟩:=I.list hx
  have la:=ra.length
  refine wpAny_pyNext_enum_end (I.ok.hd hc) hz h1 pa.isList (by simp;omega) λh' kk=>⟨rfl,?_⟩
  exact I.BE (its:=[it]) (t':=s.toks) (λc o hc e=>kk c o (λq=>hc (by simp[q])) e) (λc hc=>hf c (by simp at hc ⊢;simp[hc]))
end
section
variable{X:Cx}{a b:Expr}{ta:TA}{p pos ly:Pos}{elts:List Expr}{x1:Nat}
noncomputable def τ(K:PySem.W.Frag)(ta:TA):TI:=λσ H R=>ta σ H λvs H1=>∃a b,vs=[.ref a,.ref b]/\(∃xs,bF K H1 a xs)/\(∃ys,bF K H1 b ys)/\R (FK K a b) H1
theorem υ:bootBuiltins "zip"=some (.type "zip"):=by decide +kernel
theorem χ(hg:Gl X "zip")(hm:X.mg "zip"=none)(ha:PA X [a,b] ta)(hs:starEach [a,b] X.env=[(false,eval a X.env),(false,eval b X.env)]:=by rfl)(eK:starEach [b] X.env=[(false,eval b X.env)]:=by rfl) :
  PI X (.Tuple elts x1 ly) (.Call (.Name "zip" p) [a,b] [] pos) (τ X.K ta):=by
 intro pins s σ H R I h
 refine Call_ (qZ I hg hm υ (Am (aN (ha pos pins s σ H _ I h) λus s1 zq=>?_) (by rw[hs,eK]) (by rw[eK];rfl)))
 obtain⟨vs,H1,I1,r1,q1⟩:=zq
 obtain⟨a,b,e,⟨xs,hx⟩,⟨ys,hy⟩,q⟩:=q1
 subst e
 cases r1 with
 | cons r rr =>
  cases rr with
  | cons r2 rr =>
   cases rr
   cases r
   cases r2
   obtain⟨as,ra,pa,_⟩:=I1.list hx
   obtain⟨bs,rb,pb,_⟩:=I1.list hy
   refine call_zip_2 pa.isList pb.isList λh' hz lF jq h1 h2 sz kk=>wpAny_pyIter_zip hz ?_
   refine⟨_,[s1.heap.objs.size+4,s1.heap.objs.size+2,s1.heap.objs.size+3,s1.heap.objs.size,s1.heap.objs.size+1],_,_,H1,rfl,I1.kept (t':=s1.toks) kk,ι a b _ _ _ _ _ (by simp),⟨hz,lF,⟨_,_,jq⟩,h1,h2⟩,λc hc=>?_,q⟩
   have hle:s1.heap.objs.size<=c:=by
    simp only[cL,i5,or_false]at hc
    rcases hc with rfl | rfl | rfl | rfl | rfl<;>omega
   exact I1.Bk hle (I1.aE.fresh hle)
noncomputable def ω(K:PySem.W.Frag)(ta:TA):TI:=λσ H R=>ta σ H λvs H1=>∃a,vs=[.ref a]/\(∃xs,bF K H1 a xs)/\R (FR K a) H1
theorem Γ:bootBuiltins "enumerate"=some (.type "enumerate"):=by decide +kernel
theorem Δ(hg:Gl X "enumerate")(hm:X.mg "enumerate"=none)(ha:PA X [a] ta)(hs:starEach [a] X.env=[(false,eval a X.env)]:=by rfl) :
  PI X (.Tuple elts x1 ly) (.Call (.Name "enumerate" p) [a] [] pos) (ω X.K ta):=by
 intro pins s σ H R I h
 refine Call_ (qZ I hg hm Γ (Am (aN (ha pos pins s σ H _ I h) λus s1 zq=>?_) hs rfl))
 obtain⟨vs,H1,I1,r1,q1⟩:=zq
 obtain⟨a,e,⟨xs,hx⟩,q⟩:=q1
 subst e
 cases r1 with
 | cons r rr =>
  cases rr
  cases r
  obtain⟨as,ra,pa,_⟩:=I1.list hx
  refine call_enumerate_list pa.isList λh' hz h1 sz kk=>wpAny_pyIter_enum hz ?_
  refine⟨_,[s1.heap.objs.size+1,s1.heap.objs.size],_,_,H1,rfl,I1.kept (t':=s1.toks) kk,ρ a (s1.heap.objs.size+1) s1.heap.objs.size (Nat.succ_ne_self _),⟨⟨_,hz⟩,h1⟩,λc hc=>?_,q⟩
  have hle:s1.heap.objs.size<=c:=by
   simp only[cL,i5,or_false]at hc
   rcases hc with rfl | rfl<;>omega
  exact I1.Bk hle (I1.aE.fresh hle)
end
end L2
namespace L2
open PySem PySem.Spec PyProof.Rows PySem.W PySem.Calls
section
variable{X:Cx}
noncomputable def uI{α:Type}(xs:List α)(lo hi:Option Int):List α:=(xs.drop (HT.di xs.length 0 lo)).take (HT.di xs.length xs.length hi-HT.di xs.length 0 lo)
theorem Θ(x:Str)(lo hi:Option Int):Txt.slice x lo hi=⟨(uI x.cps.toList lo hi).toArray⟩:=by
 have hx:x.length=x.cps.size:=rfl
 have e:(Ez lo hi 1 x.length).filterMap (x.cps[·]?)=uI x.cps.toList lo hi:=by
  obtain⟨h1,h2,h3⟩:=Fj lo hi x.length
  have e0:Ez lo hi 1 x.length=sliceRange (sliceBounds lo hi none x.length).1 (sliceBounds lo hi none x.length).2.1 1:=by
   cases lo<;>cases hi<;>rfl
  rw[e0,h1,h2]
  simp only[sliceRange_one,pick_run]
  unfold uI
  rw[hx,xg]
 unfold Txt.slice
 split
 ·rename_i h
  have hl:(Ez lo hi 1 x.length).length=x.length:=by
   rw[eV]at h;exact eq_of_beq h.2
  have hs:(uI x.cps.toList lo hi)=x.cps.toList:=by
   have e2:HT.di x.cps.toList.length x.cps.toList.length hi-HT.di x.cps.toList.length 0 lo=x.length:=by
    obtain⟨h1,h2,h3⟩:=Fj lo hi x.length
    have e0:Ez lo hi 1 x.length=sliceRange (sliceBounds lo hi none x.length).1 (sliceBounds lo hi none x.length).2.1 1:=by
     cases lo<;>cases hi<;>rfl
    rw[e0,h1,h2]at hl
    simp only[sliceRange_one,aY,cq]at hl
    rw[xg,<- hx]
    omega
   unfold uI
   have le:HT.di x.cps.toList.length x.cps.toList.length hi<=x.cps.toList.length:=by
    cases hi with
    | none=>simp[HT.di]
    | some i=>simp only[HT.di];split<;>omega
   have Λ:HT.di x.cps.toList.length 0 lo<=x.cps.toList.length:=by
    cases lo with
    | none=>simp[HT.di]
    | some i=>simp only[HT.di];split<;>omega
   rw[xg,<- hx]at e2 le Λ ⊢
   have z:HT.di x.length 0 lo=0:=by omega
   have z2:HT.di x.length x.length hi=x.length:=by omega
   rw[z,z2,List.drop_zero,Nat.sub_zero,hx,<- xg,qQ]
  rw[hs]
 ·rw[e]
theorem Ξ:rq X (λx lo hi H Q=>∃z,x=.str z/\z.length<=sizeLine/\Q (.str ⟨(uI z.cps.toList lo hi).toArray⟩) H):=by
 intro pins s σ H x v vl vu lo hi sl Q I rx hs pl pu h
 obtain⟨z,rfl,hz,q⟩:=h
 obtain⟨t,rfl⟩:=rx
 refine⟨"str",_,F.slot_str_getitem.lookup,typeIs_str _ _ _,?_⟩
 have fin:∀(l u:Option (Int × Tok)),l.map (·.1)=lo->u.map (·.1)=hi->partValue l=vl->partValue u=vu->wpAny (model X.prog X.w) X.A (getItem (.str z t) (.ref sl)) (EP X pins σ Q) X.xe s:=by
  intro l u h1 h2 h3 h4
  obtain⟨o,e1,e2,e3⟩:=hs
  refine wpAny_getItem_str_slice (l:=l) (u:=u) (st:=none) ⟨o,e1,e2,by rw[e3,h3,h4];rfl⟩ rfl ?_
  have e:Txt.slice z lo hi=(if(((none:Option (Int × Tok)).map (·.1)).getD 1==1&&(slicePicked z l u none).length==z.length)=true then z else⟨((slicePicked z l u none).filterMap (z.cps[·]?)).toArray⟩):=by
   unfold Txt.slice slicePicked;rw[h1,h2];rfl
  refine post_val_or_str ⟨?_,λt' k=>?_⟩
  ·rw[<-e];exact dy (Txt.slice_le z _ _) hz
  ·rw[<-e,Θ];exact⟨.str _,H,I.tok _,⟨_,rfl⟩,q⟩
 cases pl with
 | none =>
  cases pu with
  | none=>exact fin none none rfl rfl rfl rfl
  | int j tj=>exact fin none (some (j,tj)) rfl rfl rfl rfl
 | int i ti =>
  cases pu with
  | none=>exact fin (some (i,ti)) none rfl rfl rfl rfl
  | int j tj=>exact fin (some (i,ti)) (some (j,tj)) rfl rfl rfl rfl
end
end L2
namespace L3
open PySem L2
noncomputable def jr:HO->Bool
 | .dP _=>false
 | _=>true
structure af(H H':Hp):Prop where
 get:∀b o,H b=some o->(h:jr o=true:=by rfl)->H' b=some o
 tb:∀b ps,H b=some (.dP ps)->∃more,H' b=some (.dP (ps++more))
noncomputable instance {H H':Hp}:CoeFun (af H H') λ_=>∀b o,H b=some o->(h:jr o=true:=by rfl)->H' b=some o:=⟨λs=>@af.get _ _ s⟩
theorem FT{o:HO}(h:jr o=false):∃ps,o=.dP ps:=by
 cases o with
 | dP ps=>exact⟨ps,rfl⟩
 | _=>cases h
theorem af.of{H H':Hp}(h:∀b o,H b=some o->H' b=some o):af H H':=⟨λb o e _=>h b o e,λb ps e=>⟨#[],by rw[h b _ e];simp⟩⟩
theorem af.refl(H:Hp):af H H:=.of λ_ _ h=>h
theorem af.trans{H H1 H2:Hp}(a:af H H1)(b:af H1 H2):af H H2 :=
 ⟨λc o h n=>b.get c o (a.get c o h n) n,λc ps h=>by
  obtain⟨m1,e1⟩:=a.tb c ps h
  obtain⟨m2,e2⟩:=b.tb c _ e1
  exact⟨m1++m2,by rw[e2,tP]⟩⟩
theorem af.any{H H':Hp}(e:af H H'){l:Addr}{o:HO}(h:H l=some o):∃o',H' l=some o':=by
 cases n:jr o with
 | true=>exact⟨o,e.get l o h n⟩
 | false =>
  obtain⟨ps,rfl⟩:=FT n
  obtain⟨m,q⟩:=e.tb l ps h
  exact⟨_,q⟩
theorem af.free{H H':Hp}(e:af H H'){l:Addr}(h:H' l=Option.none):H l=Option.none:=by
 cases q:H l with
 | none=>rfl
 | some o =>
  obtain⟨o',z⟩:=e.any q
  rw[z]at h
  cases h
inductive uJ where
 | ext (φ:Addr->Heap->Prop)
 | lam (of oc:Obj) (c k:Addr)
noncomputable instance:Coe (Addr->Heap->Prop) uJ:=⟨.ext⟩
noncomputable def FU(H:Hp)(k:Addr):Prop:=∃ψ,H k=some (.ext ψ)/\∀h,ψ h->∃q,h.CodeRec (.ref k) q
noncomputable def jS(of oc:Obj)(c p:Addr):Heap->Prop:=λh=>h.get? p=some of/\h.get? c=some oc
structure kD(H:Hp)(p:Addr)(of oc:Obj)(c k:Addr):Prop where
 fn:H p=some (.ext (jS of oc c p))
 cell:H c=some (.own p)
 FV:FU H k
noncomputable def rE(H:Hp)(p:Addr):uJ->Prop
 | .ext φ=>H p=some (.ext (φ p))
 | .lam of oc c k=>kD H p of oc c k
theorem rE.mono{H H':Hp}{p:Addr}:∀{z:uJ},rE H p z->(∀a o,H a=some o->(∀ws,o≠.lst ws)->jr o=true->H' a=some o)->rE H' p z
 | .ext φ,x,k=>k _ _ x (λws q=>by cases q) rfl
 | .lam of oc c k',x,k=>⟨k _ _ x.fn (λws q=>by cases q) rfl,k _ _ x.cell (λws q=>by cases q) rfl,let⟨ψ,e,h⟩:=x.FV;⟨ψ,k _ _ e (λws q=>by cases q) rfl,h⟩⟩
inductive D where
 | aq | bl (b:Bool) | int (i:Int) | str (x:Str)
 | lst (o:Bool) (xs:List D)
 | tup (xs:List D)
 | obj (C:Addr) (ns:List Str) (xs:List D)
 | fz (xs:List D)
 | bz (z:uJ)
 deriving Inhabited
noncomputable def D.pl:D->Bool
 | .lst o xs=>!o&&x8 xs
 | .tup xs=>x8 xs
 | _=>true
where x8:List D->Bool
 | []=>true
 | d::ds=>d.pl&&x8 ds
noncomputable def D.fr:D->Bool
 | .lst o xs=>o&&x9 xs
 | .tup xs=>x9 xs
 | .obj _ _ _=>false
 | .fz _=>false
 | _=>true
where x9:List D->Bool
 | []=>true
 | d::ds=>d.fr&&x9 ds
noncomputable def D.sh:D->D
 | .lst _ xs=>.lst false (ya xs)
 | .tup xs=>.tup (ya xs)
 | d=>d
where ya:List D->List D
 | []=>[]
 | d::ds=>d.sh::ya ds
theorem N5(ds:List D):D.pl.x8 ds=ds.all D.pl:=by induction ds with | nil=>rfl | cons d ds ih=>simp[D.pl.x8,ih]
theorem N6(ds:List D):D.fr.x9 ds=ds.all D.fr:=by induction ds with | nil=>rfl | cons d ds ih=>simp[D.fr.x9,ih]
theorem N7(ds:List D):D.sh.ya ds=ds.map D.sh:=by induction ds with | nil=>rfl | cons d ds ih=>simp[D.sh.ya,ih]
theorem gO(o:Bool)(xs:List D):(D.lst o xs).pl=(!o&&xs.all D.pl):=by simp[D.pl,N5]
theorem lH(xs:List D):(D.tup xs).pl=xs.all D.pl:=by simp[D.pl,N5]
theorem fM(o:Bool)(xs:List D):(D.lst o xs).fr=(o&&xs.all D.fr):=by simp[D.fr,N6]
theorem rF(xs:List D):(D.tup xs).fr=xs.all D.fr:=by simp[D.fr,N6]
theorem eN(o:Bool)(xs:List D):(D.lst o xs).sh=.lst false (xs.map D.sh):=by simp[D.sh,N7]
theorem mJ(xs:List D):(D.tup xs).sh=.tup (xs.map D.sh):=by simp[D.sh,N7]
inductive R(F H:Hp):List D->List V->List Addr->Prop
 | nil:R F H [] [] []
 | aq {ds vs B}:R F H ds vs B->R F H (.aq::ds) (.aq::vs) B
 | bl {b ds vs B}:R F H ds vs B->R F H (.bl b::ds) (.bl b::vs) B
 | int {i ds vs B}:R F H ds vs B->R F H (.int i::ds) (.int i::vs) B
 | str {x ds vs B}:R F H ds vs B->R F H (.str x::ds) (.str x::vs) B
 | shr {p ws xs ds vs B}:F p=some (.lst ws)->R F H xs ws []->R F H ds vs B->R F H (.lst false xs::ds) (.ref p::vs) B
 | own {p ws xs A ds vs B}:H p=some (.lst ws)->F p=none->R F H xs ws A->R F H ds vs B->R F H (.lst true xs::ds) (.ref p::vs) (p::(A++B))
 | tup {p ws xs A ds vs B}:H p=some (.tup ws)->R F H xs ws A->R F H ds vs B->R F H (.tup xs::ds) (.ref p::vs) (A++B)
 | obj {p C dx ns ws xs ds vs B}:H p=some (.ins C dx (ns.zip ws))->ns.length=ws.length->R F H xs ws []->R F H ds vs B->R F H (.obj C ns xs::ds) (.ref p::vs) B
 | fz {p o ws xs ds vs B}:F p=some (.bu o (.lst ws))->R F H xs ws []->R F H ds vs B->R F H (.fz xs::ds) (.ref p::vs) B
 | bz {p z ds vs B}:rE H p z->R F H ds vs B->R F H (.bz z::ds) (.ref p::vs) B
inductive S(F H:Hp):List D->List V->Prop
 | nil:S F H [] []
 | aq {ds vs}:S F H ds vs->S F H (.aq::ds) (.aq::vs)
 | bl {b ds vs}:S F H ds vs->S F H (.bl b::ds) (.bl b::vs)
 | int {i ds vs}:S F H ds vs->S F H (.int i::ds) (.int i::vs)
 | str {x ds vs}:S F H ds vs->S F H (.str x::ds) (.str x::vs)
 | shr {p ws xs ds vs}:F p=some (.lst ws)->R F H xs ws []->S F H ds vs->S F H (.lst false xs::ds) (.ref p::vs)
 | own {p ws xs ds vs}:H p=some (.lst ws)->S F H xs ws->S F H ds vs->S F H (.lst true xs::ds) (.ref p::vs)
 | tup {p ws xs ds vs}:H p=some (.tup ws)->S F H xs ws->S F H ds vs->S F H (.tup xs::ds) (.ref p::vs)
 | obj {p C dx ns ws xs ds vs}:H p=some (.ins C dx (ns.zip ws))->ns.length=ws.length->R F H xs ws []->S F H ds vs->S F H (.obj C ns xs::ds) (.ref p::vs)
 | fz {p o ws xs ds vs}:F p=some (.bu o (.lst ws))->R F H xs ws []->S F H ds vs->S F H (.fz xs::ds) (.ref p::vs)
 | bz {p z ds vs}:rE H p z->S F H ds vs->S F H (.bz z::ds) (.ref p::vs)
section
variable{F F' H H':Hp}{d:D}{ds es:List D}{v:V}{vs ws:List V}{A B:List Addr}
theorem R.length(r:R F H ds vs A):ds.length=vs.length:=by
 induction r<;>simp_all
theorem S.length(r:S F H ds vs):ds.length=vs.length:=by
 induction r<;>simp_all
theorem R.lJ{vs:List V}{A:List Addr}(r:R F H [] vs A):vs=[]/\A=[]:=by cases r;exact⟨rfl,rfl⟩
noncomputable def Rv(F H:Hp)(ds:List D)(v:V)(vs:List V)(B:List Addr):D->Prop
 | .lst true xs=>∃p ws A B',v=.ref p/\H p=some (.lst ws)/\F p=none/\R F H xs ws A/\R F H ds vs B'/\B=p::(A++B')
 | .tup xs=>∃p ws A B',v=.ref p/\H p=some (.tup ws)/\R F H xs ws A/\R F H ds vs B'/\B=A++B'
 | _=>R F H ds vs B
theorem R.rv{d:D}{ds:List D}{v:V}{vs:List V}{B:List Addr}(r:R F H (d::ds) (v::vs) B):Rv F H ds v vs B d:=by
 cases r with
 | aq q=>exact q
 | bl q=>exact q
 | int q=>exact q
 | str q=>exact q
 | shr _ _ q=>exact q
 | own h f x q=>exact⟨_,_,_,_,rfl,h,f,x,q,rfl⟩
 | tup h x q=>exact⟨_,_,_,_,rfl,h,x,q,rfl⟩
 | obj _ _ _ q=>exact q
 | fz _ _ q=>exact q
 | bz _ q=>exact q
theorem R.cons(r:R F H [d] [v] A)(q:R F H ds vs B):R F H (d::ds) (v::vs) (A++B):=by
 cases r with
 | aq r=>rw[r.lJ.2];exact .aq q
 | bl r=>rw[r.lJ.2];exact .bl q
 | int r=>rw[r.lJ.2];exact .int q
 | str r=>rw[r.lJ.2];exact .str q
 | shr h x r=>rw[r.lJ.2];exact .shr h x q
 | own h f x r=>rw[r.lJ.2,eU];exact R.own h f x q
 | tup h x r=>rw[r.lJ.2,eU];exact R.tup h x q
 | obj h l x r=>rw[r.lJ.2];exact .obj h l x q
 | fz h x r=>rw[r.lJ.2];exact .fz h x q
 | bz h r=>rw[r.lJ.2];exact .bz h q
theorem R.dj(r:R F H (d::ds) vs A):∃v b9 A1 A2,vs=v::b9/\A=A1++A2/\R F H [d] [v] A1/\R F H ds b9 A2:=by
 cases r with
 | aq r=>exact⟨_,_,[],_,rfl,rfl,.aq .nil,r⟩
 | bl r=>exact⟨_,_,[],_,rfl,rfl,.bl .nil,r⟩
 | int r=>exact⟨_,_,[],_,rfl,rfl,.int .nil,r⟩
 | str r=>exact⟨_,_,[],_,rfl,rfl,.str .nil,r⟩
 | shr h x r=>exact⟨_,_,[],_,rfl,rfl,.shr h x .nil,r⟩
 | @own p _ _ A1 _ _ B1 h f x r=>exact⟨_,_,p::A1,B1,rfl,rfl,by simpa using R.own h f x .nil,r⟩
 | @tup p _ _ A1 _ _ B1 h x r=>exact⟨_,_,A1,B1,rfl,rfl,by simpa using R.tup h x .nil,r⟩
 | obj h l x r=>exact⟨_,_,[],_,rfl,rfl,.obj h l x .nil,r⟩
 | fz h x r=>exact⟨_,_,[],_,rfl,rfl,.fz h x .nil,r⟩
 | bz h r=>exact⟨_,_,[],_,rfl,rfl,.bz h .nil,r⟩
theorem S.cons(r:S F H [d] [v])(q:S F H ds vs):S F H (d::ds) (v::vs):=by
 cases r with
 | aq r=>exact .aq q
 | bl r=>exact .bl q
 | int r=>exact .int q
 | str r=>exact .str q
 | shr h x r=>exact .shr h x q
 | own h x r=>exact .own h x q
 | tup h x r=>exact .tup h x q
 | obj h l x r=>exact .obj h l x q
 | fz h x r=>exact .fz h x q
 | bz h r=>exact .bz h q
theorem S.dj(r:S F H (d::ds) vs):∃v b9,vs=v::b9/\S F H [d] [v]/\S F H ds b9:=by
 cases r with
 | aq r=>exact⟨_,_,rfl,.aq .nil,r⟩
 | bl r=>exact⟨_,_,rfl,.bl .nil,r⟩
 | int r=>exact⟨_,_,rfl,.int .nil,r⟩
 | str r=>exact⟨_,_,rfl,.str .nil,r⟩
 | shr h x r=>exact⟨_,_,rfl,.shr h x .nil,r⟩
 | own h x r=>exact⟨_,_,rfl,.own h x .nil,r⟩
 | tup h x r=>exact⟨_,_,rfl,.tup h x .nil,r⟩
 | obj h l x r=>exact⟨_,_,rfl,.obj h l x .nil,r⟩
 | fz h x r=>exact⟨_,_,rfl,.fz h x .nil,r⟩
 | bz h r=>exact⟨_,_,rfl,.bz h .nil,r⟩
theorem R.append:∀{ds:List D} {vs:List V} {A:List Addr},R F H ds vs A->R F H es ws B->R F H (ds++es) (vs++ws) (A++B)
 | [],_,_,r,q=>by cases r;exact q
 | d::ds,_,_,r,q=>by
  obtain⟨v,b9,A1,A2,rfl,rfl,h1,h2⟩:=r.dj
  simpa using h1.cons (R.append h2 q)
theorem S.append:∀{ds:List D} {vs:List V},S F H ds vs->S F H es ws->S F H (ds++es) (vs++ws)
 | [],_,r,q=>by cases r;exact q
 | d::ds,_,r,q=>by
  obtain⟨v,b9,rfl,h1,h2⟩:=r.dj
  exact h1.cons (S.append h2 q)
theorem R.split:∀{ds:List D} {vs:List V} {A:List Addr},R F H (ds++es) vs A->∃v1 v2 A1 A2,vs=v1++v2/\A=A1++A2/\R F H ds v1 A1/\R F H es v2 A2
 | [],vs,A,r=>⟨[],vs,[],A,rfl,rfl,.nil,r⟩
 | d::ds,_,_,r=>by
  obtain⟨v,b9,A1,A2,rfl,rfl,h1,h2⟩:=R.dj (ds:=ds++es) r
  obtain⟨v1,v2,B1,B2,rfl,rfl,h3,h4⟩:=R.split (ds:=ds) h2
  exact⟨v::v1,v2,A1++B1,B2,rfl,by simp,h1.cons h3,h4⟩
theorem R.get:∀{ds:List D} {vs:List V} {A:List Addr} {i:Nat},R F H ds vs A->ds[i]?=some d->∃v A1,vs[i]?=some v/\R F H [d] [v] A1/\A1 ⊆ A
 | [],_,_,_,_,e=>by simp at e
 | d'::ds,_,_,i,r,e=>by
  obtain⟨v,b9,A1,A2,rfl,rfl,h1,h2⟩:=r.dj
  cases i with
  | zero=>simp at e;subst e;exact⟨v,A1,rfl,h1,by simp⟩
  | succ i =>
   obtain⟨w,B1,e2,q,sb⟩:=R.get (ds:=ds) (i:=i) h2 (by simpa using e)
   exact⟨w,B1,by simpa using e2,q,λx hx=>dM _ (sb hx)⟩
theorem S.get:∀{ds:List D} {vs:List V} {i:Nat},S F H ds vs->ds[i]?=some d->∃v,vs[i]?=some v/\S F H [d] [v]
 | [],_,_,_,e=>by simp at e
 | d'::ds,_,i,r,e=>by
  obtain⟨v,b9,rfl,h1,h2⟩:=r.dj
  cases i with
  | zero=>simp at e;subst e;exact⟨v,rfl,h1⟩
  | succ i =>
   obtain⟨w,e2,q⟩:=S.get (ds:=ds) (i:=i) h2 (by simpa using e)
   exact⟨w,by simpa using e2,q⟩
theorem S.get':∀{ds:List D} {vs:List V} {i:Nat},S F H ds vs->vs[i]?=some v->∃d,ds[i]?=some d/\S F H [d] [v]
 | [],_,_,r,e=>by cases r;simp at e
 | d'::ds,_,i,r,e=>by
  obtain⟨v,b9,rfl,h1,h2⟩:=r.dj
  cases i with
  | zero=>simp at e;subst e;exact⟨d',rfl,h1⟩
  | succ i =>
   obtain⟨w,e2,q⟩:=S.get' (ds:=ds) (i:=i) h2 (by simpa using e)
   exact⟨w,by simpa using e2,q⟩
theorem S.take:∀{ds:List D} {vs:List V} (n:Nat),S F H ds vs->S F H (ds.take n) (vs.take n)
 | _,_,0,r=>by simpa using S.nil
 | [],_,n+1,r=>by cases r;exact .nil
 | d::ds,_,n+1,r=>by
  obtain⟨v,b9,rfl,h1,h2⟩:=r.dj
  exact h1.cons (S.take n h2)
theorem S.drop:∀{ds:List D} {vs:List V} (n:Nat),S F H ds vs->S F H (ds.drop n) (vs.drop n)
 | _,_,0,r=>by simpa using r
 | [],_,n+1,r=>by cases r;exact .nil
 | d::ds,_,n+1,r=>by
  obtain⟨v,b9,rfl,h1,h2⟩:=r.dj
  exact S.drop n h2
theorem iP{p:Addr}{o:HO}(h:Rd F p o)(s:af F F')(n:jr o=true:=by rfl):Rd F' p o:=by
 rcases h with h | ⟨u,h⟩
 ·exact .inl (s.get _ _ h n)
 ·exact .inr ⟨u,s _ _ h⟩
theorem R.s(r:R F H ds vs A):S F H ds vs:=by
 induction r with
 | nil=>exact .nil
 | aq _ ih=>exact .aq ih
 | bl _ ih=>exact .bl ih
 | int _ ih=>exact .int ih
 | str _ ih=>exact .str ih
 | shr h x _ _ ih=>exact .shr h x ih
 | own h f _ _ i1 i2=>exact .own h i1 i2
 | tup h _ _ i1 i2=>exact .tup h i1 i2
 | obj h l x _ _ ih=>exact .obj h l x ih
 | fz h x _ _ ih=>exact .fz h x ih
 | bz h _ ih=>exact .bz h ih
structure gq(W:List Addr)(H H':Hp):Prop where
 get:∀a o,H a=some o->a ∉ W->(h:jr o=true:=by rfl)->H' a=some o
noncomputable instance {W:List Addr} {H H':Hp}:CoeFun (gq W H H') λ_=>∀a o,H a=some o->a ∉ W->(h:jr o=true:=by rfl)->H' a=some o:=⟨λs=>@gq.get _ _ _ s⟩
noncomputable def gP(W:List Addr)(H:Hp):Prop:=∀a∈W,∃ws,H a=some (.lst ws)
theorem R.keep{W:List Addr}(hf:af F F')(hb:gq W H H')(hl:gP W H)(r:R F H ds vs A)(hn:∀a∈A,F' a=none)(hd:∀a∈A,a ∉ W):R F' H' ds vs A:=by
 induction r with
 | nil=>exact .nil
 | aq _ ih=>exact .aq (ih hn hd)
 | bl _ ih=>exact .bl (ih hn hd)
 | int _ ih=>exact .int (ih hn hd)
 | str _ ih=>exact .str (ih hn hd)
 | shr h x _ i1 ih=>exact .shr (hf _ _ h) (i1 (by simp) (by simp)) (ih hn hd)
 | own h f _ _ i1 i2 =>
  refine .own (hb _ _ h (hd _ (by simp))) (hn _ (by simp)) (i1 (λa ha=>hn a ?_) λa ha=>hd a ?_) (i2 (λa ha=>hn a ?_) λa ha=>hd a ?_)<;>simp[ha]
 | @tup p ws _ _ _ _ _ h _ _ i1 i2 =>
  refine .tup (hb _ _ h λz=>?_) (i1 (λa ha=>hn a ?_) λa ha=>hd a ?_) (i2 (λa ha=>hn a ?_) λa ha=>hd a ?_)<;>try simp[ha]
  obtain⟨q,e⟩:=hl _ z
  rw[h]at e;cases e
 | obj h l x _ i1 ih =>
  refine .obj (hb _ _ h λz=>?_) l (i1 (by simp) (by simp)) (ih hn hd)
  obtain⟨q,e⟩:=hl _ z
  rw[h]at e;cases e
 | fz h x _ i1 ih=>exact .fz (hf _ _ h) (i1 (by simp) (by simp)) (ih hn hd)
 | bz h _ ih =>
  exact .bz (h.mono λa o e n t=>hb.get a o e (λz=>by
   obtain⟨q,e'⟩:=hl _ z
   rw[e]at e';cases e';exact n _ rfl) t) (ih hn hd)
theorem gq.same(h:af H H'):gq [] H H':=⟨λa o e _ n=>h.get a o e n⟩
theorem gP.nil:gP [] H:=λa h=>absurd h (by simp)
theorem R.grow(hf:af F F')(hb:af H H')(r:R F H ds vs A)(hn:∀a∈A,F' a=none):R F' H' ds vs A :=
 r.keep hf (gq.same hb) gP.nil hn (by simp)
theorem R.shared(hf:af F F')(hb:af H H')(r:R F H ds vs []):R F' H' ds vs []:=r.grow hf hb (by simp)
theorem S.mono(hf:af F F')(hb:af H H')(r:S F H ds vs):S F' H' ds vs:=by
 induction r with
 | nil=>exact .nil
 | aq _ ih=>exact .aq ih
 | bl _ ih=>exact .bl ih
 | int _ ih=>exact .int ih
 | str _ ih=>exact .str ih
 | shr h x _ ih=>exact .shr (hf _ _ h) (x.shared hf hb) ih
 | own h _ _ i1 i2=>exact .own (hb _ _ h) i1 i2
 | tup h _ _ i1 i2=>exact .tup (hb _ _ h) i1 i2
 | obj h l x _ ih=>exact .obj (hb _ _ h) l (x.shared hf hb) ih
 | fz h x _ ih=>exact .fz (hf _ _ h) (x.shared hf hb) ih
 | bz h _ ih=>exact .bz (h.mono λa o e _ t=>hb.get a o e t) ih
theorem S.r(s:S F H ds vs)(p:ds.all D.pl=true):R F H ds vs []:=by
 induction s with
 | nil=>exact .nil
 | aq _ ih=>exact .aq (ih (by simpa[D.pl]using p))
 | bl _ ih=>exact .bl (ih (by simpa[D.pl]using p))
 | int _ ih=>exact .int (ih (by simpa[D.pl]using p))
 | str _ ih=>exact .str (ih (by simpa[D.pl]using p))
 | shr h x _ ih=>exact .shr h x (ih (by simp[gO]at p;simpa using p.2))
 | own h _ _ i1 i2=>simp[gO]at p
 | tup h _ _ i1 i2 =>
  rw[dB,lH,eV]at p
  simpa using R.tup h (i1 p.1) (i2 p.2)
 | obj h l x _ ih=>exact .obj h l x (ih (by simpa[D.pl]using p))
 | fz h x _ ih=>exact .fz h x (ih (by simpa[D.pl]using p))
 | bz h _ ih=>exact .bz h (ih (by simpa[D.pl]using p))
theorem R.pl(r:R F H ds vs []):ds.all D.pl=true:=by
 generalize e:([]:List Addr)=A at r
 induction r with
 | nil=>rfl
 | aq _ ih=>simp[D.pl];simpa using ih e
 | bl _ ih=>simp[D.pl];simpa using ih e
 | int _ ih=>simp[D.pl];simpa using ih e
 | str _ ih=>simp[D.pl];simpa using ih e
 | shr h x _ i1 ih=>simp only[dB,gO,i1 rfl,ih e];rfl
 | own h f _ _ i1 i2=>cases e
 | tup h _ _ i1 i2 =>
  obtain⟨e1,e2⟩:=tV.mp e.symm
  simp only[dB,lH,i1 e1.symm,i2 e2.symm];rfl
 | obj h l x _ i1 ih=>simp[D.pl];simpa using ih e
 | fz h x _ i1 ih=>simp[D.pl];simpa using ih e
 | bz h _ ih=>simp[D.pl];simpa using ih e
theorem D.BF:∀{d:D},d.pl=true->d.sh=d
 | .aq,_=>rfl
 | .bl _,_=>rfl
 | .int _,_=>rfl
 | .str _,_=>rfl
 | .obj _ _ _,_=>rfl
 | .fz _,_=>rfl
 | .bz _,_=>rfl
 | .lst o xs,h=>by
  rw[gO,eV]at h
  have:∀(l:List D),(∀x∈l,x∈xs)->l.all D.pl=true->l.map D.sh=l:=by
   intro l hl hp
   induction l with
   | nil=>rfl
   | cons x l ih =>
    simp only[dB,eV]at hp
    have hx:x∈xs:=hl x (by simp)
    rw[da,D.BF hp.1,ih (λy hy=>hl y (by simp[hy])) hp.2]
  rw[eN,this xs (λ_ h=>h) h.2]
  cases o<;>simp_all
 | .tup xs,h=>by
  rw[lH]at h
  have:∀(l:List D),(∀x∈l,x∈xs)->l.all D.pl=true->l.map D.sh=l:=by
   intro l hl hp
   induction l with
   | nil=>rfl
   | cons x l ih =>
    simp only[dB,eV]at hp
    have hx:x∈xs:=hl x (by simp)
    rw[da,D.BF hp.1,ih (λy hy=>hl y (by simp[hy])) hp.2]
  rw[mJ,this xs (λ_ h=>h) h]
termination_by d=>sizeOf d
theorem lK{l:List D}(h:l.all D.pl=true):l.map D.sh=l:=by
 induction l with
 | nil=>rfl
 | cons x l ih =>
  simp only[dB,eV]at h
  rw[da,D.BF h.1,ih h.2]
theorem S.frozen(e:af F H)(s:S F H ds vs):R H H (ds.map D.sh) vs []:=by
 induction s with
 | nil=>exact .nil
 | aq _ ih=>exact .aq ih
 | bl _ ih=>exact .bl ih
 | int _ ih=>exact .int ih
 | str _ ih=>exact .str ih
 | shr h x _ ih =>
  rw[da,eN,lK x.pl]
  exact .shr (e _ _ h) (x.shared e (af.refl _)) ih
 | own h _ _ i1 i2=>rw[da,eN];exact .shr h i1 i2
 | tup h _ _ i1 i2=>rw[da,mJ];simpa using R.tup h i1 i2
 | obj h l x _ ih=>exact .obj h l (x.shared e (af.refl _)) ih
 | fz h x _ ih=>exact .fz (e _ _ h) (x.shared e (af.refl _)) ih
 | bz h _ ih=>exact .bz h ih
noncomputable def bu(F H:Hp)(A:List Addr):Hp:=λa=>if a∈A then H a else F a
theorem js(e:af F H):af F (bu F H A):=⟨λa o h n=>by unfold bu;split;exact e.get _ _ h n;exact h,λa ps h=>by unfold bu;split;exact e.tb _ _ h;exact⟨#[],by rw[h];simp⟩⟩
theorem rH(e:af F H):af (bu F H A) H:=⟨λa o h n=>by unfold bu at h;split at h;exact h;exact e.get _ _ h n,λa ps h=>by unfold bu at h;split at h;exact⟨#[],by rw[h];simp⟩;exact e.tb _ _ h⟩
theorem rJ{a:Addr}(h:a ∉ A):bu F H A a=F a:=by unfold bu;rw[if_neg h]
theorem Φ{a:Addr}(h:a∈A):bu F H A a=H a:=by unfold bu;rw[if_pos h]
theorem R.bu(e:af F H)(r:R F H ds vs A):∀A',A ⊆ A'->R (L3.bu F H A') H (ds.map D.sh) vs []:=by
 induction r with
 | nil=>exact λ_ _=>.nil
 | aq _ ih=>exact λA' h=>.aq (ih A' h)
 | bl _ ih=>exact λA' h=>.bl (ih A' h)
 | int _ ih=>exact λA' h=>.int (ih A' h)
 | str _ ih=>exact λA' h=>.str (ih A' h)
 | shr h x _ i1 ih =>
  intro A' hA
  rw[da,eN,lK x.pl]
  exact .shr (js e _ _ h) (x.shared (js e) (af.refl _)) (ih A' hA)
 | own h f _ _ i1 i2 =>
  intro A' hA
  rw[da,eN]
  exact .shr ((Φ (hA (by simp))).trans h) (i1 A' λa ha=>hA (by simp[ha])) (i2 A' λa ha=>hA (by simp[ha]))
 | tup h _ _ i1 i2 =>
  intro A' hA
  rw[da,mJ]
  simpa using R.tup h (i1 A' λa ha=>hA (by simp[ha])) (i2 A' λa ha=>hA (by simp[ha]))
 | obj h l x _ i1 ih=>exact λA' hA=>.obj h l (x.shared (js e) (af.refl _)) (ih A' hA)
 | fz h x _ i1 ih=>exact λA' hA=>.fz (js e _ _ h) (x.shared (js e) (af.refl _)) (ih A' hA)
 | bz h _ ih=>exact λA' hA=>.bz h (ih A' hA)
theorem R.lists(r:R F H ds vs A):∀a∈A,(∃ws,H a=some (.lst ws))/\F a=none:=by
 induction r with
 | nil=>simp
 | aq _ ih=>exact ih
 | bl _ ih=>exact ih
 | int _ ih=>exact ih
 | str _ ih=>exact ih
 | shr h x _ i1 ih=>exact ih
 | own h f _ _ i1 i2 =>
  intro a ha
  rcases cL.mp ha with rfl | ha
  ·exact⟨⟨_,h⟩,f⟩
  ·exact(bP.mp ha).elim (i1 a) (i2 a)
 | tup h _ _ i1 i2=>exact λa ha=>(bP.mp ha).elim (i1 a) (i2 a)
 | obj h l x _ i1 ih=>exact ih
 | fz h x _ i1 ih=>exact ih
 | bz h _ ih=>exact ih
theorem R.rK(r:R F H ds vs A)(hd:ds.all D.fr=true)(e:af F' F):R F' H ds vs A:=by
 induction r with
 | nil=>exact .nil
 | aq _ ih=>exact .aq (ih (by simpa[D.fr]using hd))
 | bl _ ih=>exact .bl (ih (by simpa[D.fr]using hd))
 | int _ ih=>exact .int (ih (by simpa[D.fr]using hd))
 | str _ ih=>exact .str (ih (by simpa[D.fr]using hd))
 | shr h x _ i1 ih=>simp[fM]at hd
 | own h f _ _ i1 i2 =>
  rw[dB,fM,eV,kX]at hd
  exact .own h (e.free f) (i1 hd.1) (i2 hd.2)
 | tup h _ _ i1 i2 =>
  rw[dB,rF,eV]at hd
  exact .tup h (i1 hd.1) (i2 hd.2)
 | obj h l x _ i1 ih=>simp[D.fr]at hd
 | fz h x _ i1 ih=>simp[D.fr]at hd
 | bz h _ ih=>exact .bz h (ih (by simpa[D.fr]using hd))
theorem R.inj(r:R F H ds vs A):∀{B:List Addr},R F H ds vs B->A=B:=by
 induction r with
 | nil=>exact λq=>q.lJ.2.symm
 | aq _ ih=>exact λq=>ih q.rv
 | bl _ ih=>exact λq=>ih q.rv
 | int _ ih=>exact λq=>ih q.rv
 | str _ ih=>exact λq=>ih q.rv
 | shr h x _ i1 ih=>exact λq=>ih q.rv
 | own h f _ _ i1 i2 =>
  intro B q
  obtain⟨p,ws,A,B',e,h',f',x',q',rfl⟩:=q.rv
  cases e
  rw[h]at h';cases h'
  rw[i1 x',i2 q']
 | tup h _ _ i1 i2 =>
  intro B q
  obtain⟨p,ws,A,B',e,h',x',q',rfl⟩:=q.rv
  cases e
  rw[h]at h';cases h'
  rw[i1 x',i2 q']
 | obj h l x _ i1 ih=>exact λq=>ih q.rv
 | fz h x _ i1 ih=>exact λq=>ih q.rv
 | bz h _ ih=>exact λq=>ih q.rv
theorem R.perm{ps qs:List (D × V)}(hp:ps.Perm qs):∀{A:List Addr},R F H (ps.map (·.1)) (ps.map (·.2)) A->∃A',R F H (qs.map (·.1)) (qs.map (·.2)) A'/\A.Perm A':=by
 induction hp with
 | nil=>exact λr=>⟨_,r,.refl _⟩
 | cons x _ ih =>
  intro A r
  obtain⟨v,b9,A1,A2,e,rfl,h1,h2⟩:=R.dj r
  obtain⟨rfl,rfl⟩:=nj e
  obtain⟨A',r',p⟩:=ih h2
  exact⟨A1++A',h1.cons r',p.append_left _⟩
 | swap x y l =>
  intro A r
  obtain⟨v,b9,A1,A2,e,rfl,h1,h2⟩:=R.dj r
  obtain⟨rfl,rfl⟩:=nj e
  obtain⟨v2,FW,B1,B2,e,rfl,h3,h4⟩:=R.dj h2
  obtain⟨rfl,rfl⟩:=nj e
  exact⟨B1++(A1++B2),h3.cons (h1.cons h4),by rw[<-dO,<- dO];exact pj.append_right _⟩
 | trans _ _ i1 i2 =>
  intro A r
  obtain⟨A',r',p⟩:=i1 r
  obtain⟨A2,r2,p2⟩:=i2 r'
  exact⟨A2,r2,p.trans p2⟩
noncomputable def Full(F H:Hp):Prop:=∀a o,H a=some o->(∀ws,o≠.lst ws)->F a=some o
theorem Full.refl(H:Hp):Full H H:=λ_ _ h _=>h
theorem R.full(hF:Full F H)(hs:af F H')(r:R F H ds vs A)(e:A=[]):R F H' ds vs []:=by
 induction r with
 | nil=>exact .nil
 | aq _ ih=>exact .aq (ih e)
 | bl _ ih=>exact .bl (ih e)
 | int _ ih=>exact .int (ih e)
 | str _ ih=>exact .str (ih e)
 | shr h x _ i1 ih=>exact .shr h (i1 rfl) (ih e)
 | own h f _ _ i1 i2=>cases e
 | tup h _ _ i1 i2 =>
  obtain⟨e1,e2⟩:=tV.mp e
  exact R.tup (A:=[]) (B:=[]) (hs _ _ (hF _ _ h (by intro ws z;cases z))) (i1 e1) (i2 e2)
 | obj h l x _ i1 ih=>exact .obj (hs _ _ (hF _ _ h (by intro ws z;cases z))) l (i1 rfl) (ih e)
 | fz h x _ i1 ih=>exact .fz h (i1 rfl) (ih e)
 | bz h _ ih=>exact .bz (h.mono λa o e n t=>hs.get a o (hF a o e n) t) (ih e)
open Classical in
noncomputable def snap(F H:Hp):Hp:=λa=>if(∃o,H a=some o/\∀ws,o≠.lst ws)then H a else F a
theorem uK:Full (snap F H) H:=λa o h n=>by unfold snap;rw[if_pos ⟨o,h,n⟩];exact h
theorem rL(e:af F H):af F (snap F H):=⟨λa o h n=>by
 unfold snap;split
 ·exact e.get a o h n
 ·exact h,λa ps h=>by
 unfold snap;split
 ·exact e.tb a ps h
 ·exact⟨#[],by rw[h];simp⟩⟩
theorem Ψ(e:af F H):af (snap F H) H:=⟨λa o h n=>by
 unfold snap at h;split at h
 ·exact h
 ·exact e.get a o h n,λa ps h=>by
 unfold snap at h;split at h
 ·exact⟨#[],by rw[h];simp⟩
 ·exact e.tb a ps h⟩
theorem Ω(e:af F H){a:Addr}{ws:List V}(h:snap F H a=some (.lst ws)):F a=some (.lst ws):=by
 unfold snap at h;split at h
 ·rename_i z
  obtain⟨o,h1,h2⟩:=z
  rw[h]at h1;exact absurd (cT h1).symm (h2 ws)
 ·exact h
theorem bW8{a:Addr}{ws:List V}(h:H a=some (.lst ws))(n:F a=none):snap F H a=none:=by
 unfold snap;split
 ·rename_i z
  obtain⟨o,h1,h2⟩:=z
  rw[h]at h1;exact absurd (cT h1).symm (h2 ws)
 ·exact n
end
end L3
namespace L3
open PySem L2
noncomputable abbrev Dl:=List (Option D)
inductive RS(F H:Hp):Dl->St->List Addr->Prop
 | nil:RS F H [] [] []
 | aq {δ σ o C}:RS F H δ σ C->RS F H (none::δ) (o::σ) C
 | fO {d v A δ σ C}:R F H [d] [v] A->RS F H δ σ C->RS F H (some d::δ) (some v::σ) (A++C)
theorem iQ{A B:List Addr}:(A++B).Nodup↔A.Nodup/\B.Nodup/\∀a∈A,a ∉ B:=by
 rw[List.nodup_append]
 constructor
 ·rintro⟨h1,h2,h3⟩;exact⟨h1,h2,λa ha hb=>h3 a ha a hb rfl⟩
 ·rintro⟨h1,h2,h3⟩;exact⟨h1,h2,λa ha b hb e=>h3 a ha (e ▸ hb)⟩
section
variable{F F' H H':Hp}{d:D}{v:V}{δ:Dl}{σ:St}{A C:List Addr}{i:Nat}
theorem RS.length(r:RS F H δ σ C):δ.length=σ.length:=by induction r<;>simp_all
theorem RS.pick:∀{δ:Dl} {σ:St} {C:List Addr} {i:Nat},RS F H δ σ C->δ[i]?=some (some d)->∃v A C',σ[i]?=some (some v)/\R F H [d] [v] A/\RS F H (δ.set i none) σ C'/\C.Perm (A++C')
 | _,_,_,_,.nil,e=>by simp at e
 | _,_,_,i,.aq r,e=>by
  cases i with
  | zero=>simp at e
  | succ i =>
   obtain⟨v,A,C',e1,h1,h2,p⟩:=RS.pick r (by simpa using e)
   exact⟨v,A,C',by simpa using e1,h1,.aq h2,p⟩
 | _,_,_,i,.fO (A:=A0) (C:=C0) h r,e=>by
  cases i with
  | zero =>
   simp at e;subst e
   exact⟨_,A0,C0,rfl,h,.aq r,.refl _⟩
  | succ i =>
   obtain⟨v,A,C',e1,h1,h2,p⟩:=RS.pick r (by simpa using e)
   refine⟨v,A,A0++C',by simpa using e1,h1,.fO h h2,(p.append_left A0).trans ?_⟩
   rw[<-dO,<- dO]
   exact pj.append_right _
theorem RS.fill:∀{δ:Dl} {σ:St} {C:List Addr} {i:Nat},RS F H δ σ C->δ[i]?=some none->σ[i]?=some (some v)->R F H [d] [v] A->∃C',RS F H (δ.set i (some d)) σ C'/\C'.Perm (A++C)
 | _,_,_,_,.nil,e,_,_=>by simp at e
 | _,_,_,i,.aq r,e,e2,h=>by
  cases i with
  | zero=>simp at e2;subst e2;exact⟨_,.fO h r,.refl _⟩
  | succ i =>
   obtain⟨C',h1,p⟩:=RS.fill r (by simpa using e) (by simpa using e2) h
   exact⟨C',.aq h1,p⟩
 | _,_,_,i,.fO (A:=A0) (C:=C0) h0 r,e,e2,h=>by
  cases i with
  | zero=>simp at e
  | succ i =>
   obtain⟨C',h1,p⟩:=RS.fill r (by simpa using e) (by simpa using e2) h
   refine⟨A0++C',.fO h0 h1,(p.append_left A0).trans ?_⟩
   rw[<-dO,<- dO]
   exact pj.append_right _
theorem RS.drop:∀{δ:Dl} {σ:St} {C:List Addr} (i:Nat),RS F H δ σ C->∃C',RS F H (δ.set i none) σ C'/\C'.Sublist C
 | _,_,_,_,.nil=>⟨_,.nil,.refl _⟩
 | _,_,_,i,.aq r=>by
  cases i with
  | zero=>exact⟨_,.aq r,.refl _⟩
  | succ i=>obtain⟨C',h,s⟩:=RS.drop i r;exact⟨C',.aq h,s⟩
 | _,_,_,i,.fO (A:=A0) h0 r=>by
  cases i with
  | zero=>exact⟨_,.aq r,List.sublist_append_right _ _⟩
  | succ i=>obtain⟨C',h,s⟩:=RS.drop i r;exact⟨_,.fO h0 h,(LN A0).append s⟩
theorem RS.uL:∀{δ:Dl} {σ:St} {C:List Addr} {i:Nat} (o:Option V),RS F H δ σ C->(δ[i]?=some none\/δ[i]?=none)->RS F H δ (σ.set i o) C
 | _,_,_,_,_,.nil,_=>.nil
 | _,_,_,i,_,.aq r,e=>by
  cases i with
  | zero=>exact .aq r
  | succ i=>exact .aq (RS.uL _ r (by simpa using e))
 | _,_,_,i,_,.fO h0 r,e=>by
  cases i with
  | zero=>simp at e
  | succ i=>exact .fO h0 (RS.uL _ r (by simpa using e))
theorem RS.keep{W:List Addr}(hf:af F F')(hb:gq W H H')(hl:gP W H)(r:RS F H δ σ C)(hn:∀a∈C,F' a=none)(hd:∀a∈C,a ∉ W):RS F' H' δ σ C:=by
 induction r with
 | nil=>exact .nil
 | aq _ ih=>exact .aq (ih hn hd)
 | fO h _ ih=>exact .fO (h.keep hf hb hl (λa ha=>hn a (by simp[ha])) λa ha=>hd a (by simp[ha])) (ih (λa ha=>hn a (by simp[ha])) λa ha=>hd a (by simp[ha]))
theorem RS.lists(r:RS F H δ σ C):∀a∈C,(∃ws,H a=some (.lst ws))/\F a=none:=by
 induction r with
 | nil=>simp
 | aq _ ih=>exact ih
 | fO h _ ih=>exact λa ha=>(bP.mp ha).elim (h.lists a) (ih a)
end
structure Bs where
 H0:Hp
 F0:Hp
structure ak(B:Bs)(F H:Hp)(σ:St)(δ:Dl)(ts:List (D × V)):Prop where
 ext:af F H
 b1:af B.H0 H
 b2:af B.F0 F
 b3:∀a ws,F a=some (.lst ws)->B.F0 a=some (.lst ws)\/B.H0 a=none
 own:∃A C,R F H (ts.map (·.1)) (ts.map (·.2)) A/\RS F H δ σ C/\(A++C).Nodup/\∀a∈A++C,B.H0 a=none
section
variable{B:Bs}{F F' H H':Hp}{d:D}{v:V}{δ:Dl}{σ:St}{ts ps:List (D × V)}{A C W:List Addr}{i:Nat}{p:Addr}{xs ys:List D}{vs ws:List V}
theorem ak.look(c:ak B F H σ δ ts)(e:δ[i]?=some (some d)):∃v,σ[i]?=some (some v)/\S F H [d] [v]:=by
 obtain⟨A,C,r,s,nd,fr⟩:=c.own
 obtain⟨v,A',C',e1,h1,h2,p⟩:=s.pick e
 exact⟨v,e1,h1.s⟩
theorem ak.len(c:ak B F H σ δ ts):δ.length=σ.length:=let⟨_,_,_,s,_⟩:=c.own;s.length
theorem ak.grow(c:ak B F H σ δ ts)(h:af H H'):ak B F H' σ δ ts:=by
 obtain⟨A,C,r,s,nd,fr⟩:=c.own
 exact⟨c.ext.trans h,c.b1.trans h,c.b2,c.b3,A,C,r.grow (af.refl _) h λa ha=>(r.lists a ha).2,s.keep (af.refl _) (gq.same h) gP.nil (λa ha=>(s.lists a ha).2) (by simp),nd,fr⟩
theorem ak.pop(c:ak B F H σ δ ((d,v)::ts)):ak B F H σ δ ts:=by
 obtain⟨A,C,r,s,nd,fr⟩:=c.own
 obtain⟨w,b9,A1,A2,e,rfl,h1,h2⟩:=R.dj r
 obtain⟨rfl,rfl⟩:=nj e
 refine⟨c.ext,c.b1,c.b2,c.b3,A2,C,h2,s,?_,λa ha=>fr a (by simp at ha ⊢;exact .inr ha)⟩
 rw[dO]at nd
 exact(iQ.mp nd).2.1
theorem ak.top(c:ak B F H σ δ ((d,v)::ts)):S F H [d] [v]:=by
 obtain⟨A,C,r,s,nd,fr⟩:=c.own
 obtain⟨w,b9,A1,A2,e,rfl,h1,h2⟩:=R.dj r
 obtain⟨rfl,rfl⟩:=nj e
 exact h1.s
theorem ak.pushS(c:ak B F H σ δ ts)(s:S F H [d] [v])(pl:d.pl=true):ak B F H σ δ ((d,v)::ts):=by
 obtain⟨A,C,r,q,nd,fr⟩:=c.own
 exact⟨c.ext,c.b1,c.b2,c.b3,A,C,(s.r (by simp[pl])).cons r,q,nd,fr⟩
theorem af.upd{o:HO}(h:H p=none):af H (upd H p o):=.of λb u e=>by rw[aU (eJ e h)];exact e
theorem ak.pack(c:ak B F H σ δ (ps++ts))(hs:af H H')(k:∀A1,R F H' (ps.map (·.1)) (ps.map (·.2)) A1->A1.Nodup->∃A',R F H' [d] [v] A'/\A'.Nodup/\∀a∈A',a∈A1\/H a=none):ak B F H' σ δ ((d,v)::ts):=by
 obtain⟨A,C,r,s,nd,fr⟩:=c.own
 rw[dS,dS]at r
 obtain⟨v1,v2,A1,A2,e,rfl,h1,h2⟩:=R.split r
 have l1:(ps.map (·.2)).length=v1.length:=by rw[<-h1.length];simp
 obtain⟨rfl,rfl⟩:=AA e l1
 rw[dO]at nd fr
 obtain⟨n1,n2,n3⟩:=iQ.mp nd
 have g1:=h1.grow (af.refl F) hs λa ha=>(h1.lists a ha).2
 have g2:=h2.grow (af.refl F) hs λa ha=>(h2.lists a ha).2
 have gs:=s.keep (af.refl F) (gq.same hs) gP.nil (λa ha=>(s.lists a ha).2) (by simp)
 obtain⟨A',r',FX,sub⟩:=k A1 g1 n1
 refine⟨c.ext.trans hs,c.b1.trans hs,c.b2,c.b3,A'++A2,C,r'.cons g2,gs,?_,?_⟩
 ·rw[dO]
  refine iQ.mpr ⟨FX,n2,λa ha hb=>?_⟩
  rcases sub a ha with z | z
  ·exact n3 a z hb
  ·rcases bP.mp hb with y | y
   ·obtain⟨⟨_,q⟩,_⟩:=h2.lists a y;rw[z]at q;cases q
   ·obtain⟨⟨_,q⟩,_⟩:=s.lists a y;rw[z]at q;cases q
 ·intro a ha
  rw[dO]at ha
  rcases bP.mp ha with y | y
  ·rcases sub a y with z | z
   ·exact fr a (by simp[z])
   ·exact c.b1.free z
  ·exact fr a (dM _ y)
theorem ak.BG(c:ak B F H σ δ ts)(hs:af H H')(r:R F H' [d] [v] A)(nd:A.Nodup)(fr:∀a∈A,H a=none):ak B F H' σ δ ((d,v)::ts) :=
 ak.pack (ps:=[]) c hs λ_ _ _=>⟨A,r,nd,λa ha=>.inr (fr a ha)⟩
theorem ak.pV(c:ak B F H σ δ ts)(hp:H p=none)(s:S F H xs vs)(pl:xs.all D.pl=true):ak B F (upd H p (.lst vs)) σ δ ((.lst true xs,.ref p)::ts) :=
 c.BG (af.upd hp) (A:=[p]) (by simpa using R.own bH (c.ext.free hp) ((s.r pl).shared (af.refl _) (af.upd hp)) .nil) (by simp) (by simp[hp])
theorem ak.cL6(c:ak B F H σ δ (ps++ts))(hp:H p=none):ak B F (upd H p (.lst (ps.map (·.2)))) σ δ ((.lst true (ps.map (·.1)),.ref p)::ts):=by
 refine c.pack (af.upd hp) λA1 r nd=>⟨p::A1,by simpa using R.own bH (c.ext.free hp) r .nil,kS.mpr ⟨λh=>?_,nd⟩,λa ha=>?_⟩
 ·obtain⟨A,C,r0,_,_,_⟩:=c.own
  rw[dS,dS]at r0
  obtain⟨v1,v2,B1,B2,e,rfl,h1,h2⟩:=R.split r0
  have l1:(ps.map (·.2)).length=v1.length:=by rw[<-h1.length];simp
  obtain⟨rfl,rfl⟩:=AA e l1
  have g1:=h1.grow (af.refl F) (af.upd (o:=.lst (ps.map (·.2))) hp) λa ha=>(h1.lists a ha).2
  have:A1=B1:=R.inj r g1
  subst this
  obtain⟨⟨_,q⟩,_⟩:=h1.lists p h
  rw[hp]at q;cases q
 ·rcases cL.mp ha with rfl | h
  ·exact .inr hp
  ·exact .inl h
theorem ak.cL7(c:ak B F H σ δ (ps++ts))(hp:H p=none):ak B F (upd H p (.tup (ps.map (·.2)))) σ δ ((.tup (ps.map (·.1)),.ref p)::ts) :=
 c.pack (af.upd hp) λA1 r nd=>⟨A1,by simpa using R.tup (F:=F) bH r .nil,nd,λa ha=>.inl ha⟩
theorem ak.perm(c:ak B F H σ δ ps)(h:ps.Perm ts):ak B F H σ δ ts:=by
 obtain⟨A,C,r,s,nd,fr⟩:=c.own
 obtain⟨A',r',p⟩:=r.perm h
 have pp:=p.append_right C
 exact⟨c.ext,c.b1,c.b2,c.b3,A',C,r',s,pp.nodup_iff.mp nd,λa ha=>fr a (pp.mem_iff.mpr ha)⟩
theorem ak.move(c:ak B F H σ δ ts)(e:δ[i]?=some (some d)):∃v,σ[i]?=some (some v)/\ak B F H σ (δ.set i none) ((d,v)::ts):=by
 obtain⟨A,C,r,s,nd,fr⟩:=c.own
 obtain⟨v,A',C',e1,h1,h2,p⟩:=s.pick e
 have pp:(A++C).Perm ((A'++A)++C'):=by
  refine(p.append_left A).trans ?_
  rw[<-dO]
  exact pj.append_right _
 exact⟨v,e1,c.ext,c.b1,c.b2,c.b3,A'++A,C',h1.cons r,h2,pp.nodup_iff.mp nd,λa ha=>fr a (pp.mem_iff.mpr ha)⟩
theorem ak.forget(c:ak B F H σ δ ts)(i:Nat):ak B F H σ (δ.set i none) ts:=by
 obtain⟨A,C,r,s,nd,fr⟩:=c.own
 obtain⟨C',h,sb⟩:=s.drop i
 exact⟨c.ext,c.b1,c.b2,c.b3,A,C',r,h,nd.sublist ((LN A).append sb),λa ha=>fr a (((LN A).append sb).subset ha)⟩
theorem ak.fill(c:ak B F H σ δ ((d,v)::ts))(e:δ[i]?=some none)(e2:σ[i]?=some (some v)):ak B F H σ (δ.set i (some d)) ts:=by
 obtain⟨A,C,r,s,nd,fr⟩:=c.own
 obtain⟨w,b9,A1,A2,e',rfl,h1,h2⟩:=R.dj r
 obtain⟨rfl,rfl⟩:=nj e'
 obtain⟨C',s',p⟩:=s.fill e e2 h1
 have pp:((A1++A2)++C).Perm (A2++C'):=by
  refine((pj (l₁:=A1) (l₂:=A2)).append_right C).trans ?_
  rw[dO]
  exact(p.symm).append_left A2
 exact⟨c.ext,c.b1,c.b2,c.b3,A2,C',h2,s',pp.nodup_iff.mp nd,λa ha=>fr a (pp.mem_iff.mpr ha)⟩
theorem ak.uL(c:ak B F H σ δ ts)(o:Option V)(e:δ[i]?=some none\/δ[i]?=none):ak B F H (σ.set i o) δ ts:=by
 obtain⟨A,C,r,s,nd,fr⟩:=c.own
 exact⟨c.ext,c.b1,c.b2,c.b3,A,C,r,s.uL o e,nd,fr⟩
theorem ak.store(c:ak B F H σ δ ((d,v)::ts))(i:Nat):ak B F H (σ.set i (some v)) (δ.set i (some d)) ts:=by
 by_cases hi:i<δ.length
 ·have c1:=c.forget i
  have hs:i<σ.length:=by rw[<-c.len];exact hi
  have e:(δ.set i none)[i]?=some none:=by simp[hi]
  have c2:=(c1.uL (some v) (.inl e)).fill (i:=i) e (by simp[hs])
  rwa [LO]at c2
 ·have hs:¬ i<σ.length:=by rw[<-c.len];exact hi
  rw[V7 (by omega),V7 (by omega)]
  exact c.pop
theorem ak.mut(c:ak B F H σ δ (ps++ts))(e:δ[i]?=some (some (.lst true xs)))(e2:σ[i]?=some (some (.ref p)))
  (k:∀ws A1 A2,H p=some (.lst ws)->R F H xs ws A1->R F H (ps.map (·.1)) (ps.map (·.2)) A2->(A1++A2).Nodup->∃A',R F H ys vs A'/\A'.Nodup/\∀a∈A',a∈A1++A2) :
  ak B F (upd H p (.lst vs)) σ (δ.set i (some (.lst true ys))) ts:=by
 have hi:i<δ.length:=(ke.mp e).1
 obtain⟨v,e3,c1⟩:=c.move e
 rw[e2]at e3;cases e3
 obtain⟨A,C,r,s,nd,fr⟩:=c1.own
 have r':R F H (([.lst true xs]++ps.map (·.1))++ts.map (·.1)) ((.ref p::ps.map (·.2))++ts.map (·.2)) A:=by simpa using r
 obtain⟨v1,v2,A1,A2,e4,rfl,h1,h2⟩:=R.split r'
 have l1:(V.ref p::ps.map (·.2)).length=v1.length:=by rw[<-h1.length];simp
 obtain⟨rfl,rfl⟩:=AA e4 l1
 obtain⟨p',yb,B1,B2,ep,hH,hF,hx,hr,rfl⟩:=h1.rv
 cases ep
 ·skip
  rw[dO]at nd fr
  obtain⟨n1,n2,n3⟩:=iQ.mp nd
  obtain⟨m1,m2⟩:=kS.mp n1
  obtain⟨A',ra,nda,sub⟩:=k yb B1 B2 hH hx hr m2
  have pA:p ∉ A':=λz=>m1 (sub _ z)
  have pR:p ∉ A2++C:=λz=>n3 p (by simp) z
  have but:gq [p] H (upd H p (.lst vs)):=⟨λa o q z _=>by rw[aU (by simpa using z)];exact q⟩
  have hl:gP [p] H:=λa ha=>by rw[dR.mp ha];exact⟨_,hH⟩
  have g1:=ra.keep (af.refl F) but hl (λa ha=>(ra.lists a ha).2) λa ha z=>pA (by rw[<-dR.mp z];exact ha)
  have g2:=h2.keep (af.refl F) but hl (λa ha=>(h2.lists a ha).2) λa ha z=>pR (by rw[<-dR.mp z];exact e7 _ ha)
  have gs:=s.keep (af.refl F) but hl (λa ha=>(s.lists a ha).2) λa ha z=>pR (by rw[<-dR.mp z];exact dM _ ha)
  have fp:B.H0 p=none:=fr p (by simp)
  have b1:af B.H0 (upd H p (.lst vs)):=⟨λa o q n=>by
   rw[aU (λz=>by rw[z,fp]at q;cases q)]
   exact c1.b1.get a o q n,λa ps q=>by
   rw[aU (λz=>by rw[z,fp]at q;cases q)]
   exact c1.b1.tb a ps q⟩
  have ext:af F (upd H p (.lst vs)):=⟨λa o q n=>by
   rw[aU (λz=>by rw[z,hF]at q;cases q)]
   exact c1.ext.get a o q n,λa ps q=>by
   rw[aU (λz=>by rw[z,hF]at q;cases q)]
   exact c1.ext.tb a ps q⟩
  have c2:ak B F (upd H p (.lst vs)) σ (δ.set i none) ((.lst true ys,.ref p)::ts):=by
   refine⟨ext,b1,c1.b2,c1.b3,(p::A')++A2,C,R.cons (by simpa using R.own bH hF g1 .nil) g2,gs,?_,?_⟩
   ·rw[dO]
    refine iQ.mpr ⟨kS.mpr ⟨pA,nda⟩,n2,λa ha hb=>?_⟩
    rcases cL.mp ha with rfl | ha
    ·exact pR hb
    ·exact n3 a (fh _ (sub a ha)) hb
   ·intro a ha
    rw[dO]at ha
    rcases bP.mp ha with z | z
    ·rcases cL.mp z with rfl | z
     ·exact fp
     ·exact fr a (e7 _ (fh _ (sub a z)))
    ·exact fr a (dM _ z)
  have c3:=c2.fill (i:=i) (by simp[hi]) e2
  rwa [LO]at c3
theorem ak.FY(c:ak B F H σ δ ((d,v)::ts)):∃F',af F F'/\ak B F' H σ δ ((d.sh,v)::ts):=by
 obtain⟨A,C,r,s,nd,fr⟩:=c.own
 obtain⟨w,b9,A1,A2,e',rfl,h1,h2⟩:=R.dj r
 obtain⟨rfl,rfl⟩:=nj e'
 rw[dO]at nd fr
 obtain⟨n1,n2,n3⟩:=iQ.mp nd
 have out:∀a∈A2++C,bu F H A1 a=F a:=λa ha=>rJ λz=>n3 a z ha
 have b3:∀a o,bu F H A1 a=some (.lst o)->B.F0 a=some (.lst o)\/B.H0 a=none:=λa o q=>by
  by_cases z:a∈A1
  ·exact .inr (fr a (e7 _ z))
  ·rw[rJ z]at q;exact c.b3 a o q
 refine⟨bu F H A1,js c.ext,rH c.ext,c.b1,c.b2.trans (js c.ext),b3,A2,C,?_,?_,n2,λa ha=>fr a (dM _ ha)⟩
 ·have g1:=h1.bu c.ext A1 (λ_ h=>h)
  exact R.cons (A:=[]) g1 (h2.keep (js c.ext) (gq.same (af.refl H)) gP.nil (λa ha=>by rw[out a (e7 _ ha)];exact(h2.lists a ha).2) (by simp))
 ·exact s.keep (js c.ext) (gq.same (af.refl H)) gP.nil (λa ha=>by rw[out a (dM _ ha)];exact(s.lists a ha).2) (by simp)
theorem ak.freeze(c:ak B F H σ δ ts)(e:δ[i]?=some (some d)):∃F',af F F'/\ak B F' H σ (δ.set i (some d.sh)) ts:=by
 have hi:i<δ.length:=(ke.mp e).1
 obtain⟨v,e2,c1⟩:=c.move e
 obtain⟨F',s,c2⟩:=c1.FY
 refine⟨F',s,?_⟩
 have c3:=c2.fill (i:=i) (by simp[hi]) e2
 rwa [LO]at c3
theorem ak.rebase(c:ak B F H σ δ ts):ak ⟨B.H0,F⟩ F H σ δ ts:=⟨c.ext,c.b1,af.refl _,λ_ _ q=>.inl q,c.own⟩
theorem ak.cL9{F1:Hp}(c:ak ⟨B.H0,F1⟩ F H σ δ ts)(h:af B.F0 F1)(h3:∀a ws,F1 a=some (.lst ws)->B.F0 a=some (.lst ws)\/B.H0 a=none):ak B F H σ δ ts :=
 ⟨c.ext,c.b1,h.trans c.b2,λa o q=>(c.b3 a o q).elim (h3 a o) .inr,c.own⟩
theorem ak.call(c:ak B F H σ δ ts)(hs:af H H')(hf:af F F')(he:af F' H')(h3:∀a ws,F' a=some (.lst ws)->F a=some (.lst ws)\/H a=none)(r:R F' H' [d] [v] A)(nd:A.Nodup)(fr:∀a∈A,H a=none) :
  ak B F' H' σ δ ((d,v)::ts):=by
 obtain⟨A0,C,r0,s,nd0,fr0⟩:=c.own
 have no:∀a,(∃ws,H a=some (.lst ws))/\F a=none->F' a=none:=λa zz=>by
  obtain⟨⟨ws,e⟩,n⟩:=zz
  cases q:F' a with
  | none=>rfl
  | some o =>
   have q2:H' a=some o:=by
    cases n:jr o with
    | true=>exact he.get a o q n
    | false =>
     obtain⟨ps,rfl⟩:=FT n
     obtain⟨m,z⟩:=he.tb a ps q
     rw[hs a _ e]at z
     cases z
   rw[hs a _ e]at q2
   cases q2
   rcases h3 a ws q with z | z
   ·rw[n]at z;cases z
   ·rw[e]at z;cases z
 refine⟨he,c.b1.trans hs,c.b2.trans hf,λa o q=>(h3 a o q).elim (c.b3 a o) λz=>.inr (c.b1.free z),A++A0,C,R.cons r (r0.grow hf hs λa ha=>no a (r0.lists a ha)),
  s.keep hf (gq.same hs) gP.nil (λa ha=>no a (s.lists a ha)) (by simp),?_,?_⟩
 ·rw[dO]
  refine iQ.mpr ⟨nd,nd0,λa ha hb=>?_⟩
  have z:=fr a ha
  rcases bP.mp hb with y | y
  ·obtain⟨⟨_,q⟩,_⟩:=r0.lists a y;rw[z]at q;cases q
  ·obtain⟨⟨_,q⟩,_⟩:=s.lists a y;rw[z]at q;cases q
 ·intro a ha
  rw[dO]at ha
  rcases bP.mp ha with y | y
  ·exact c.b1.free (fr a y)
  ·exact fr0 a y
theorem ak.inS(c:ak B F H σ δ ((d,v)::ts)):ak B F H (some v::σ) (some d::δ) ts:=by
 obtain⟨A,C,r,s,nd,fr⟩:=c.own
 obtain⟨w,b9,A1,A2,e',rfl,h1,h2⟩:=R.dj r
 obtain⟨rfl,rfl⟩:=nj e'
 have pp:((A1++A2)++C).Perm (A2++(A1++C)):=by
  rw[<-dO];exact pj.append_right C
 exact⟨c.ext,c.b1,c.b2,c.b3,A2,A1++C,h2,.fO h1 s,pp.nodup_iff.mp nd,λa ha=>fr a (pp.mem_iff.mpr ha)⟩
theorem ak.cM3{w:V}(c:ak B F H (some w::σ) (some d::δ) ts):ak B F H σ δ ((d,w)::ts):=by
 obtain⟨A,C,r,s,nd,fr⟩:=c.own
 cases s with
 | @fO _ _ A1 _ _ C1 h1 s =>
  have pp:(A++(A1++C1)).Perm ((A1++A)++C1):=by
   rw[<-dO];exact pj.append_right C1
  exact⟨c.ext,c.b1,c.b2,c.b3,A1++A,C1,R.cons h1 r,s,pp.nodup_iff.mp nd,λa ha=>fr a (pp.mem_iff.mpr ha)⟩
theorem ak.cM4(c:ak B F H σ δ ((d,v)::(.lst true xs,.ref p)::ts))(hp:H p=some (.lst ws)):ak B F (upd H p (.lst (ws++[v]))) σ δ ((.lst true (xs++[d]),.ref p)::ts):=by
 have c1:=(c.perm (List.Perm.swap _ _ _)).inS
 refine(ak.mut (ps:=[(d,v)]) (i:=0) (ys:=xs++[d]) (vs:=ws++[v]) c1 rfl rfl λgr A1 A2 h r1 r2 nd=>?_).cM3
 rw[hp]at h;cases h
 exact⟨A1++A2,r1.append r2,nd,λa ha=>ha⟩
theorem ak.app(c:ak B F H σ δ ((d,v)::ts))(e:δ[i]?=some (some (.lst true xs)))(e2:σ[i]?=some (some (.ref p)))(hp:H p=some (.lst ws)) :
  ak B F (upd H p (.lst (ws++[v]))) σ (δ.set i (some (.lst true (xs++[d])))) ts :=
 ak.mut (ps:=[(d,v)]) c e e2 λgr A1 A2 h r1 r2 nd=>by
  rw[hp]at h;cases h
  exact⟨A1++A2,r1.append r2,nd,λa ha=>ha⟩
theorem R.N8:∀{xs:List D} {ws:List V} {A1 A2:List Addr} (j:Nat),R F H xs ws A1->R F H [d] [v] A2->(A1++A2).Nodup->∃A',R F H (xs.set j d) (ws.set j v) A'/\A'.Nodup/\∀a∈A',a∈A1++A2
 | [],_,A1,A2,j,r,q,nd=>by cases r;exact⟨[],.nil,by simp,by simp⟩
 | x::xs,_,A1,A2,j,r,q,nd=>by
  obtain⟨w,gr,B1,B2,rfl,rfl,h1,h2⟩:=r.dj
  rw[dO]at nd
  obtain⟨n1,n2,n3⟩:=iQ.mp nd
  cases j with
  | zero =>
   refine⟨A2++B2,q.cons h2,(pj (l₁:=B2) (l₂:=A2)).nodup_iff.mp n2,λa ha=>?_⟩
   simp only[bP]at ha ⊢
   rcases ha with z | z
   ·exact .inr z
   ·exact .inl (.inr z)
  | succ j =>
   obtain⟨A',r',FX,sub⟩:=R.N8 j h2 q n2
   refine⟨B1++A',h1.cons r',iQ.mpr ⟨n1,FX,λa ha hb=>n3 a ha (sub a hb)⟩,λa ha=>?_⟩
   rcases bP.mp ha with z | z
   ·simp[z]
   ·have:=sub a z
    simp only[bP]at this ⊢
    rcases this with z | z
    ·exact .inl (.inr z)
    ·exact .inr z
theorem ak.N9(c:ak B F H σ δ ((d,v)::ts))(e:δ[i]?=some (some (.lst true xs)))(e2:σ[i]?=some (some (.ref p)))(hp:H p=some (.lst ws))(j:Nat) :
  ak B F (upd H p (.lst (ws.set j v))) σ (δ.set i (some (.lst true (xs.set j d)))) ts :=
 ak.mut (ps:=[(d,v)]) c e e2 λgr A1 A2 h r1 r2 nd=>by
  rw[hp]at h;cases h
  exact r1.N8 j r2 nd
theorem ak.ownAt(c:ak B F H σ δ ts)(e:δ[i]?=some (some (.lst true xs))):∃p ws,σ[i]?=some (some (.ref p))/\H p=some (.lst ws)/\xs.length=ws.length:=by
 obtain⟨v,e1,s⟩:=c.look e
 cases s with
 | own h x _=>exact⟨_,_,e1,h,x.length⟩
theorem RS.start{ds:List D}{vs:List V}(r:R F H ds vs [])(n:Nat):RS F H (ds.map some++aK n none) (vs.map some++aK n none) []:=by
 have z:∀n,RS F H (aK n none) (aK n none) []:=λn=>by
  induction n with
  | zero=>exact .nil
  | succ n ih=>exact .aq ih
 have:∀(ds:List D) (vs:List V),R F H ds vs []->RS F H (ds.map some++aK n none) (vs.map some++aK n none) []:=by
  intro ds
  induction ds with
  | nil=>intro vs r;cases r;exact z n
  | cons d ds ih =>
   intro vs r
   obtain⟨v,b9,A1,A2,rfl,e,h1,h2⟩:=r.dj
   obtain⟨rfl,rfl⟩:=tV.mp e.symm
   exact .fO (A:=[]) h1 (ih _ h2)
 exact this ds vs r
theorem ak.start{ds:List D}{vs:List V}(e:af F H)(r:R F H ds vs [])(n:Nat):ak ⟨H,F⟩ F H (vs.map some++aK n none) (ds.map some++aK n none) [] :=
 ⟨e,af.refl _,af.refl _,λ_ _ q=>.inl q,[],[],.nil,RS.start r n,by simp,by simp⟩
theorem ak.snap(c:ak B F H σ δ ts):ak B (L3.snap F H) H σ δ ts:=by
 obtain⟨A,C,r,s,nd,fr⟩:=c.own
 have no:∀a,(∃ws,H a=some (.lst ws))/\F a=none->L3.snap F H a=none:=λa ⟨⟨ws,e⟩,n⟩=>bW8 e n
 exact⟨Ψ c.ext,c.b1,c.b2.trans (rL c.ext),λa ws q=>c.b3 a ws (Ω c.ext q),A,C,r.grow (rL c.ext) (af.refl _) λa ha=>no a (r.lists a ha),
  s.keep (rL c.ext) (gq.same (af.refl _)) gP.nil (λa ha=>no a (s.lists a ha)) (by simp),nd,fr⟩
end
end L3
namespace L3
open PySem L2 PySem.Spec PyProof.Rows
noncomputable abbrev aI:=Dl->(D->Dl->Prop)->Prop
noncomputable abbrev fP:=Dl->(Bool->Dl->Prop)->Prop
noncomputable abbrev cE:=Dl->(List D->Dl->Prop)->Prop
structure rM where
 nx:Dl->Prop
 rt:D->Prop
 bk:Dl->Prop:=λ_=>False
 ct:Dl->Prop:=λ_=>False
 xc:Addr->Dl->Prop:=λ_ _=>False
 xr:Addr->Dl->Prop:=λ_ _=>False
noncomputable abbrev cF:=rM->Dl->Prop
noncomputable def lE(t:aI):TE:=λσ H Q=>∃B F δ ts Qd,ak B F H σ δ ts/\t δ Qd/\∀d ah v F' H',Qd d ah->af F F'->af H H'->ak B F' H' σ ah ((d,v)::ts)->Q v H'
noncomputable def lB(t:aI):TE:=λσ H Q=>∃B F δ ts Qd,ak B F H σ δ ts/\t δ Qd/\∀d ah v F' H',Qd d ah->af F F'->af H H'->ak B F' H' σ ah ts->S F' H' [d] [v]->Q v H'
noncomputable def lT(t:fP):TT:=λσ H Q=>∃B F δ ts Qd,ak B F H σ δ ts/\t δ Qd/\∀b ah F' H',Qd b ah->af F F'->af H H'->ak B F' H' σ ah ts->Q b H'
noncomputable def lA(t:cE):TA:=λσ H Q=>∃B F δ ts Qd,ak B F H σ δ ts/\t δ Qd/\∀ds ah vs F' H',Qd ds ah->af F F'->af H H'->ak B F' H' σ ah ts->S F' H' ds vs->Q vs H'
noncomputable def lO(t:cE):TA:=λσ H Q=>∃B F δ ts Qd,ak B F H σ δ ts/\t δ Qd/\∀(ps:List (D × V)) ah F' H',Qd (ps.map (·.1)) ah->af F F'->af H H'->ak B F' H' σ ah (ps++ts)->Q (ps.map (·.2)) H'
noncomputable def XL(X:Cx)(B:Bs)(Dd:rM):Prop :=
 (∀C ah pins aC F' H' s' a T,Dd.xc C ah->ak B F' H' aC ah []->Inv X pins aC H' s'->ik s'.heap a T (.ref C)->Apart X pins H' a->Apart X pins H' T->X.xe (.ref a) s') /\
 (∀C ah pins aC F' H' s' h' e vs,Dd.xr C ah->ak B F' H' aC ah []->Inv X pins aC H' s'->LM s'.heap h' e (.ref C) vs->X.xe (.ref e) { s' with heap:=h' })
theorem XL.none{X:Cx}{B:Bs}{Dd:rM}(h1:∀C δ,¬ Dd.xc C δ)(h2:∀C δ,¬ Dd.xr C δ):XL X B Dd:=⟨λC δ _ _ _ _ _ _ _ h=>absurd h (h1 C δ),λC δ _ _ _ _ _ _ _ _ h=>absurd h (h2 C δ)⟩
noncomputable def lS(X:Cx)(t:cF):TS:=λD σ H=>∃B F δ Dd,ak B F H σ δ []/\t Dd δ/\(∀ah aC F' H',Dd.nx ah->ak B F' H' aC ah []->D.nx aC H')/\(∀d v ah aC F' H',Dd.rt d->ak B F' H' aC ah [(d,v)]->D.rt v H') /\
 (∀ah aC F' H',Dd.bk ah->ak B F' H' aC ah []->D.bk aC H')/\(∀ah aC F' H',Dd.ct ah->ak B F' H' aC ah []->D.ct aC H')/\XL X B Dd
section
variable{X:Cx}{e a b c:Expr}{es:List Expr}{pos:Pos}{st:Stmt}{yc:List Stmt}
theorem dq{t t':TE}(h:PE X e t)(m:∀σ H Q,t' σ H Q->t σ H Q):PE X e t':=λpins s σ H Q I q=>h pins s σ H Q I (m σ H Q q)
theorem FZ{t t':TT}(h:PT X e t)(m:∀σ H Q,t' σ H Q->t σ H Q):PT X e t':=λpins s σ H Q I q=>h pins s σ H Q I (m σ H Q q)
theorem Oa{t t':TT}(h:PW X e t)(m:∀σ H Q,t' σ H Q->t σ H Q):PW X e t':=λwh pins s σ H Q I q=>h wh pins s σ H Q I (m σ H Q q)
theorem yd{t t':TA}(h:PA X es t)(m:∀σ H Q,t' σ H Q->t σ H Q):PA X es t':=λp pins s σ H Q I q=>h p pins s σ H Q I (m σ H Q q)
theorem lL{t t':TS}(h:PS X st t)(m:∀D σ H,t' D σ H->t D σ H):PS X st t':=λpins s σ H D I q=>h pins s σ H D I (m D σ H q)
theorem Ga{t t':TS}(h:PSs X yc t)(m:∀D σ H,t' D σ H->t D σ H):PSs X yc t':=λpins s σ H D I q=>h pins s σ H D I (m D σ H q)
variable{t u ta tb tc:aI}
theorem ae(h:PE X e (lE t)):PE X e (lB t):=dq h λσ H Q zq=>by
 obtain⟨B,F,δ,ts,Qd,c,q,k⟩:=zq
 exact⟨B,F,δ,ts,Qd,c,q,λd ah v F' H' hd sf sh c'=>k d ah v F' H' hd sf sh c'.pop c'.top⟩
noncomputable def rN(t:aI):aI:=λδ Q=>t δ λd ah=>d.pl=true/\Q d ah
theorem dE(h:PE X e (lB t)):PE X e (lE (rN t)):=dq h λσ H Q zq=>by
 obtain⟨B,F,δ,ts,Qd,c,q,k⟩:=zq
 exact⟨B,F,δ,ts,_,c,q,λd ah v F' H' hd sf sh c' s=>k d ah v F' H' hd.2 sf sh (c'.pushS s hd.1)⟩
noncomputable def pW(i:Nat):aI:=λδ Q=>match δ[i]? with
 | some (some d)=>Q d δ
 | _=>False
noncomputable def pX(i:Nat):aI:=λδ Q=>match δ[i]? with
 | some (some d)=>Q d (δ.set i none)
 | _=>False
theorem cf9{i:Nat}{δ:Dl}{Q:D->Dl->Prop}(h:pW i δ Q):∃d,δ[i]?=some (some d)/\Q d δ:=by
 unfold pW at h
 split at h
 ·rename_i d e;exact⟨d,e,h⟩
 ·exact h.elim
theorem b28{i:Nat}{δ:Dl}{Q:D->Dl->Prop}(h:pX i δ Q):∃d,δ[i]?=some (some d)/\Q d (δ.set i none):=by
 unfold pX at h
 split at h
 ·rename_i d e;exact⟨d,e,h⟩
 ·exact h.elim
noncomputable def dC(d:D):aI:=λδ Q=>Q d δ
theorem bv(i:Nat){x:Str}(hN:X.N[i]?=some x:=by rfl)(hv:lh X.env.scope x:=by first | exact ax rfl | exact bV (ax rfl) | exact bV (bV rfl))(hd:(x==("__debug__":Str))=false:=by decide)
  (cM:(x==("__classdict__":Str))=false:=by decide):PE X (.Name x pos) (lB (pW i)):=dq (pH hN hv hd cM) λσ H Q zq=>by
 obtain⟨B,F,δ,ts,Qd,c,q,k⟩:=zq
 obtain⟨d,e,q⟩:=cf9 q
 obtain⟨v,e1,s⟩:=c.look e
 exact⟨v,e1,k d δ v F H q (af.refl _) (af.refl _) c s⟩
theorem em(i:Nat){x:Str}(hN:X.N[i]?=some x:=by rfl)(hv:lh X.env.scope x:=by first | exact ax rfl | exact bV (ax rfl) | exact bV (bV rfl))(hd:(x==("__debug__":Str))=false:=by decide)
  (cM:(x==("__classdict__":Str))=false:=by decide):PE X (.Name x pos) (lE (pX i)):=dq (pH hN hv hd cM) λσ H Q zq=>by
 obtain⟨B,F,δ,ts,Qd,c,q,k⟩:=zq
 obtain⟨d,e,q⟩:=b28 q
 obtain⟨v,e1,c'⟩:=c.move e
 exact⟨v,e1,k d _ v F H q (af.refl _) (af.refl _) c'⟩
theorem ye{B:Bs}{F H:Hp}{σ:L2.St}{δ:Dl}{ts:List (D × V)}{Qd:D->Dl->Prop}{Q:VK}{d:D}{v:V}(c:ak B F H σ δ ts)(q:Qd d δ)(s:S F H [d] [v])(p:d.pl=true)
  (k:∀d ah v F' H',Qd d ah->af F F'->af H H'->ak B F' H' σ ah ((d,v)::ts)->Q v H'):Q v H:=k d δ v F H q (af.refl _) (af.refl _) (c.pushS s p)
theorem ao{i j}:PE X (.Constant (.int i) j pos) (lE (dC (.int i))):=dq pI λσ H Q ⟨B,F,δ,ts,Qd,c,q,k⟩=>ye c q (.int .nil) rfl k
theorem nJ{i j}:PE X (.Constant (.bool i) j pos) (lE (dC (.bl i))):=dq WL λσ H Q ⟨B,F,δ,ts,Qd,c,q,k⟩=>ye c q (.bl .nil) rfl k
theorem BH{j}:PE X (.Constant .none j pos) (lE (dC .aq)):=dq WM λσ H Q ⟨B,F,δ,ts,Qd,c,q,k⟩=>ye c q (.aq .nil) rfl k
theorem Gb{x j}:PE X (.Constant (.str x) j pos) (lE (dC (.str x))):=dq WN λσ H Q ⟨B,F,δ,ts,Qd,c,q,k⟩=>ye c q (.str .nil) rfl k
theorem cx9{x:Str}{i:Int}{tk:Tok}(hg:Gl X x)(hm:X.mg x=some (.int i tk))(hd:(x==("__debug__":Str))=false:=by decide):PE X (.Name x pos) (lE (dC (.int i))) :=
 dq (Mx (v:=.int i) hg hm ⟨_,rfl⟩ hd) λσ H Q ⟨B,F,δ,ts,Qd,c,q,k⟩=>ye c q (.int .nil) rfl k
noncomputable abbrev cW:=D->D->(D->Prop)->Prop
noncomputable def BI(r:R2)(rd:cW):Prop:=∀{B:Bs} {F H:Hp} {σ:L2.St} {δ:Dl} {ts:List (D × V)} {x y:D} {v w:V} {Q:VK} {Qd:D->Prop},ak B F H σ δ ts->S F H [x] [v]->S F H [y] [w]->rd x y Qd ->
 (∀d z H',Qd d->af H H'->ak B F H' σ δ ((d,z)::ts)->Q z H')->r v w H Q
noncomputable def bQ(X:Cx)(f:Value->Value->Sem Value)(rd:cW):Prop:=∃r,cN X f r/\BI r rd
theorem bQ.or{f:Value->Value->Sem Value}{r1 r2:cW}(h1:bQ X f r1)(h2:bQ X f r2):bQ X f λx y Q=>r1 x y Q\/r2 x y Q:=by
 obtain⟨q1,a1,b1⟩:=h1
 obtain⟨q2,a2,b2⟩:=h2
 refine⟨_,a1.or a2,λ{B F H σ δ ts x y v w Q Qd} c sx sy h k=>?_⟩
 rcases h with h | h
 ·exact .inl (b1 c sx sy h k)
 ·exact .inr (b2 c sx sy h k)
theorem bQ.imp{f:Value->Value->Sem Value}{r1 r2:cW}(h1:bQ X f r1)(h:∀x y Q,r2 x y Q->r1 x y Q):bQ X f r2:=by
 obtain⟨q1,a1,b1⟩:=h1
 exact⟨q1,a1,λ{B F H σ δ ts x y v w Q Qd} c sx sy h2 k=>b1 c sx sy (h _ _ _ h2) k⟩
noncomputable def nK(rd:cW)(ta tb:aI):aI:=λδ Q=>ta δ λx ai=>tb ai λy aR=>rd x y λd=>Q d aR
theorem Gd{r:R2}{rd:cW}(hl:BI r rd):∀σ H Q,lE (nK rd ta tb) σ H Q->xN r (lB ta) (lB tb) σ H Q:=λσ H Q ⟨B,F,δ,ts,Qd,c,q,k⟩ =>
 ⟨B,F,δ,ts,_,c,q,λx ai v F1 H1 q1 f1 h1 c1 s1=>⟨B,F1,ai,ts,_,c1,q1,λy aR w F2 H2 q2 f2 h2 c2 s2 =>
  hl c2 (s1.mono f2 h2) s2 q2 λd z H' hd hs c3=>k d aR z F2 H' hd (f1.trans f2) ((h1.trans h2).trans hs) c3⟩⟩
theorem aD{op:Operator}{rd:cW}(ho:bQ X (binaryOp op) rd)(ha:PE X a (lB ta))(hb:PE X b (lB tb)):PE X (.BinOp a op b pos) (lE (nK rd ta tb)):=by
 obtain⟨r,h1,h2⟩:=ho
 exact dq (xO h1 ha hb) (Gd h2)
theorem pY{op:CmpOp}{rd:cW}(ho:bQ X (compareOp op) rd)(ha:PE X a (lB ta))(hb:PE X b (lB tb))(hm:behindInMarks op b=false):PE X (.Compare a [op] [b] pos) (lE (nK rd ta tb)):=by
 obtain⟨r,h1,h2⟩:=ho
 exact dq (XQ h1 ha hb hm) (Gd h2)
noncomputable def dT(t:aI):fP:=λδ Q=>t δ λd ah=>∃k,d=.bl k/\Q k ah
theorem b54{te:TE}(h:∀σ H Q,lE t σ H Q->te σ H Q):∀σ H Q,lT (dT t) σ H Q->MJ te σ H Q:=λσ H Q zz=>by
 obtain⟨B,F,δ,ts,Qd,c,q,k⟩:=zz
 refine h σ H _ ⟨B,F,δ,ts,_,c,q,λd ah v F' H' hd sf sh c'=>?_⟩
 obtain⟨b,rfl,qb⟩:=hd
 have s:=c'.top
 cases s with
 | bl _=>exact⟨b,rfl,k b ah F' H' qb sf sh c'.pop⟩
theorem cH{op:CmpOp}{rd:cW}(ho:bQ X (compareOp op) rd)(ha:PE X a (lB ta))(hb:PE X b (lB tb))(hm:behindInMarks op b=false):PT X (.Compare a [op] [b] pos) (lT (dT (nK rd ta tb))):=by
 obtain⟨r,h1,h2⟩:=ho
 exact FZ (Fd h1 ha hb hm) (b54 (Gd h2))
noncomputable def rO(r r':cW)(ta tb tc:aI):aI:=λδ Q=>ta δ λx ai=>tb ai λy aR=>r x y λd=>∃k,d=.bl k/\if k=true then tc aR λz iS=>r' y z λd'=>Q d' iS else Q (.bl false) aR
theorem nL(h:PE X e (lB t))(he:∀whole,isTrue e X.env whole=(do let v<-whole;standAt e.pos;holding [v] (truthy v)):=by intro _;rfl):PT X e (lT (dT t)) :=
 FZ (A8 h he) λσ H Q zq=>by
 obtain⟨B,F,δ,ts,Qd,c,q,k⟩:=zq
 exact⟨B,F,δ,ts,_,c,q,λd ah v F' H' hd sf sh c' s=>by
  obtain⟨b,rfl,qb⟩:=hd
  cases s with
  | bl _=>exact⟨b,rfl,k b ah F' H' qb sf sh c'⟩⟩
variable{tA tB:fP}{rest:List Expr}
noncomputable def uM(t u:fP):fP:=λδ Q=>t δ λc ai=>if c=true then u ai Q else Q false ai
noncomputable def uN(t u:fP):fP:=λδ Q=>t δ λc ai=>if c=true then Q true ai else u ai Q
noncomputable def uO(t:fP):fP:=λδ Q=>t δ λc ai=>Q (!c) ai
theorem Ge(ha:PT X a (lT tA))(hb:PW X (.BoolOp .And (b::rest) pos) (lT tB)):PW X (.BoolOp .And (a::b::rest) pos) (lT (uM tA tB)) :=
 Oa (WT ha hb) λσ H Q zq=>by
 obtain⟨B,F,δ,ts,Qd,c,q,k⟩:=zq
 exact⟨B,F,δ,ts,_,c,q,λb ai F1 H1 q1 f1 h1 c1=>by
  cases b with
  | true=>exact pM ⟨B,F1,ai,ts,Qd,c1,by simpa using q1,λb ah F' H' hd sf sh c'=>k b ah F' H' hd (f1.trans sf) (h1.trans sh) c'⟩
  | false=>exact jm (k false ai F1 H1 (by simpa using q1) f1 h1 c1)⟩
theorem BJ(ha:PT X a (lT tA))(hb:PW X (.BoolOp .Or (b::rest) pos) (lT tB)):PW X (.BoolOp .Or (a::b::rest) pos) (lT (uN tA tB)) :=
 Oa (MA ha hb) λσ H Q zq=>by
 obtain⟨B,F,δ,ts,Qd,c,q,k⟩:=zq
 exact⟨B,F,δ,ts,_,c,q,λb ai F1 H1 q1 f1 h1 c1=>by
  cases b with
  | true=>exact pM (k true ai F1 H1 (by simpa using q1) f1 h1 c1)
  | false=>exact jm ⟨B,F1,ai,ts,Qd,c1,by simpa using q1,λb ah F' H' hd sf sh c'=>k b ah F' H' hd (f1.trans sf) (h1.trans sh) c'⟩⟩
theorem Gf(ha:PT X a (lT tA)):PT X (.UnaryOp .Not a pos) (lT (uO tA)) :=
 FZ (Bc ha) λσ H Q zq=>by
 obtain⟨B,F,δ,ts,Qd,c,q,k⟩:=zq
 exact⟨B,F,δ,ts,_,c,q,λb ai F1 H1 q1 f1 h1 c1=>k _ ai F1 H1 q1 f1 h1 c1⟩
noncomputable def uP(ta tb:aI):aI:=λδ Q=>ta δ λx ai=>∃c,x=.bl c/\if c=true then tb ai Q else Q (.bl false) ai
noncomputable def uQ(ta:aI):aI:=λδ Q=>ta δ λx ai=>∃c,x=.bl c/\Q (.bl (!c)) ai
theorem rP(ha:PE X a (lB ta))(hb:PE X (.BoolOp .And (b::rest) pos) (lE tb)):PE X (.BoolOp .And (a::b::rest) pos) (lE (uP ta tb)) :=
 dq (WW ha hb) λσ H Q zq=>by
 obtain⟨B,F,δ,ts,Qd,c,q,k⟩:=zq
 exact⟨B,F,δ,ts,_,c,q,λd ai v F1 H1 q1 f1 h1 c1 s1=>by
  obtain⟨b,rfl,qb⟩:=q1
  cases s1 with
  | bl _ =>
   refine⟨b,rfl,?_⟩
   cases b with
   | true=>exact pM ⟨B,F1,ai,ts,Qd,c1,by simpa using qb,λd ah v F' H' hd sf sh c'=>k d ah v F' H' hd (f1.trans sf) (h1.trans sh) c'⟩
   | false=>exact jm (k _ ai _ F1 H1 (by simpa using qb) f1 h1 (c1.pushS (.bl .nil) rfl))⟩
theorem Gg(ha:PE X a (lB ta)):PE X (.UnaryOp .Not a pos) (lE (uQ ta)) :=
 dq (WX ha) λσ H Q zq=>by
 obtain⟨B,F,δ,ts,Qd,c,q,k⟩:=zq
 exact⟨B,F,δ,ts,_,c,q,λd ai v F1 H1 q1 f1 h1 c1 s1=>by
  obtain⟨b,rfl,qb⟩:=q1
  cases s1 with
  | bl _=>exact⟨b,rfl,k _ ai _ F1 H1 qb f1 h1 (c1.pushS (.bl .nil) rfl)⟩⟩
noncomputable def uR(t:fP)(ta tb:aI):aI:=λδ Q=>t δ λc ai=>if c=true then ta ai Q else tb ai Q
theorem cJ7(hc:PT X c (lT tA))(ha:PE X a (lE ta))(hb:PE X b (lE tb)):PE X (.IfExp c a b pos) (lE (uR tA ta tb)) :=
 dq (WZ hc ha hb) λσ H Q zq=>by
 obtain⟨B,F,δ,ts,Qd,c,q,k⟩:=zq
 exact⟨B,F,δ,ts,_,c,q,λb ai F1 H1 q1 f1 h1 c1=>by
  cases b with
  | true=>exact pM ⟨B,F1,ai,ts,Qd,c1,by simpa using q1,λd ah v F' H' hd sf sh c'=>k d ah v F' H' hd (f1.trans sf) (h1.trans sh) c'⟩
  | false=>exact jm ⟨B,F1,ai,ts,Qd,c1,by simpa using q1,λd ah v F' H' hd sf sh c'=>k d ah v F' H' hd (f1.trans sf) (h1.trans sh) c'⟩⟩
noncomputable def rQ:cE:=λδ Q=>Q [] δ
noncomputable def rR(t:aI)(r:cE):cE:=λδ Q=>t δ λd ai=>r ai λds aR=>Q (d::ds) aR
theorem ay:PA X [] (lA rQ):=yd eX λσ H Q ⟨B,F,δ,ts,Qd,c,q,k⟩=>k [] δ [] F H q (af.refl _) (af.refl _) c .nil
variable{tr:cE}
theorem aj(ha:PE X e (lB t))(hr:PA X es (lA tr))(hs:starEach (e::es) X.env=(false,eval e X.env)::starEach es X.env:=by rfl):PA X (e::es) (lA (rR t tr)) :=
 yd (b8 ha hr hs) λσ H Q zq=>by
 obtain⟨B,F,δ,ts,Qd,c,q,k⟩:=zq
 exact⟨B,F,δ,ts,_,c,q,λd ai v F1 H1 q1 f1 h1 c1 s1=>⟨B,F1,ai,ts,_,c1,q1,λds aR vs F2 H2 q2 f2 h2 c2 s2 =>
  k (d::ds) aR (v::vs) F2 H2 q2 (f1.trans f2) (h1.trans h2) c2 ((s1.mono f2 h2).cons s2)⟩⟩
theorem cm:PA X [] (lO rQ):=yd eX λσ H Q ⟨B,F,δ,ts,Qd,c,q,k⟩=>k [] δ F H q (af.refl _) (af.refl _) c
theorem cw(ha:PE X e (lE t))(hr:PA X es (lO tr))(hs:starEach (e::es) X.env=(false,eval e X.env)::starEach es X.env:=by rfl):PA X (e::es) (lO (rR t tr)) :=
 yd (b8 ha hr hs) λσ H Q zq=>by
 obtain⟨B,F,δ,ts,Qd,c,q,k⟩:=zq
 exact⟨B,F,δ,ts,_,c,q,λd ai v F1 H1 q1 f1 h1 c1=>⟨B,F1,ai,(d,v)::ts,_,c1,q1,λps aR F2 H2 q2 f2 h2 c2 =>
  k ((d,v)::ps) aR F2 H2 q2 (f1.trans f2) (h1.trans h2) (c2.perm (List.perm_middle))⟩⟩
noncomputable def rS(t:cE):aI:=λδ Q=>t δ λds ah=>ds.length<=sizeLine/\Q (.lst true ds) ah
noncomputable def uS(t:cE):aI:=λδ Q=>t δ λds ah=>ds.length<=sizeLine/\Q (.tup ds) ah
theorem cO(h:PA X es (lO tr)):PE X (.List es pos) (lE (rS tr)) :=
 dq (MQ h) λσ H Q zq=>by
 obtain⟨B,F,δ,ts,Qd,c,q,k⟩:=zq
 exact⟨B,F,δ,ts,_,c,q,λps ai F1 H1 q1 f1 h1 c1=>⟨by simpa using q1.1,λp hp=>k _ ai _ F1 _ q1.2 f1 (h1.trans (af.upd hp)) (c1.cL6 hp)⟩⟩
theorem uT{x1}(h:PA X es (lO tr)):PE X (.Tuple es x1 pos) (lE (uS tr)) :=
 dq (Yh h) λσ H Q zq=>by
 obtain⟨B,F,δ,ts,Qd,c,q,k⟩:=zq
 exact⟨B,F,δ,ts,_,c,q,λps ai F1 H1 q1 f1 h1 c1=>⟨by simpa using q1.1,λp hp=>k _ ai _ F1 _ q1.2 f1 (h1.trans (af.upd hp)) (c1.cL7 hp)⟩⟩
end
end L3
namespace L3
open PySem L2 PySem.Spec PyProof.Rows
noncomputable abbrev bh:=List D->(D->Prop)->Prop
noncomputable def bq(sp:bh):Sp:=λvs H Q _=>∃F ds Qd,af F H/\R F H ds vs []/\sp ds Qd/\∀d v F' H' A,Qd d->af H H'->af F F'->af F' H'->(∀a ws,F' a=some (.lst ws)->F a=some (.lst ws)\/H a=none)->R F' H' [d] [v] A->A.Nodup->(∀a∈A,H a=none)->Q v H'
noncomputable def pZ(sp:bh)(t:cE):aI:=λδ Q=>t δ λds ah=>sp (ds.map D.sh) λd=>(ds.all D.pl||d.fr)=true/\Q d ah
theorem yf{B:Bs}{F H:Hp}{σ:L2.St}{δ:Dl}{ts:List (D × V)}{Qd:D->Prop}{Q:VK}{E:XK}{ds:List D}{vs:List V}{sp:bh}(c:ak B F H σ δ ts)(s:S F H ds vs)(q:sp (ds.map D.sh) λd=>(ds.all D.pl||d.fr)=true/\Qd d)
  (k:∀d v F' H',Qd d->af F F'->af H H'->ak B F' H' σ δ ((d,v)::ts)->Q v H'):bq sp vs H Q E:=by
 by_cases hp:ds.all D.pl=true
 ·rw[lK hp]at q
  exact⟨F,ds,_,c.ext,s.r hp,q,λd v F' H' A hd hs hf he h3 r nd fr=>k d v F' H' hd.2 hf hs (c.call hs hf he h3 r nd fr)⟩
 ·refine⟨H,ds.map D.sh,_,af.refl _,s.frozen c.ext,q,λd v F' H' A hd hs hf he h3 r nd fr=>?_⟩
  have eM:d.fr=true:=by
   have:=hd.1
   rw[Bool.or_eq_true]at this
   exact this.resolve_left hp
  exact k d v F H' hd.2 (af.refl _) hs (c.BG hs (r.rK (by simp[eM]) (c.ext.trans hf)) nd fr)
section
variable{X:Cx}{CX:eY}{n:Nat}{f:Addr}{fd:FuncData}{ps:List Str}{sp:bh}{E:XK}{x:Str}{p pos:Pos}{e:Expr}{es:List Expr}{t:cE}
theorem mK(F:aO X.prog X.w X.K X.mg X.base CX n f fd ps (bq sp))(hr:bX n X.A)(hg:Gl X x)(hm:X.mg x=some (.ref f))(hk:PySem.W.keepIn X.K (.ref f)=true)(hb:Binds X.K fd ps [])(hx:kz CX X E)
  (ha:PA X (e::es) (lA t)) (dh:(x==("__debug__":Str))=false:=by decide) (he:starEach (e::es) X.env=(false,eval e X.env)::starEach es X.env:=by rfl) (bw:(backTo pos (starEach es X.env)).any (·.1)=false:=by rfl) :
  PE X (.Call (.Name x p) (e::es) [] pos) (lE (pZ sp t)) :=
 dq (jh F hr hg hm hk hb .nil hx ha dh he bw) λσ H Q zq=>by
 obtain⟨B,F,δ,ts,Qd,c,q,k⟩:=zq
 exact⟨B,F,δ,ts,_,c,q,λds ai vs F1 H1 q1 f1 h1 c1 s1=>by
  show bq sp (vs++[]) H1 Q E
  rw[eU]
  exact yf c1 s1 q1 λd v F' H' hd hf hs c'=>k d ai v F' H' hd (f1.trans hf) (h1.trans hs) c'⟩
end
noncomputable def lM(N:List Str)(ds:List D):Dl:=ds.map some++aK (N.length-ds.length) none
section
variable{P:Program}{w:World}{K:PySem.W.Frag}{mg:Str->Option Value}{base:Heap}
theorem bO{x qual:Str}{st:Stmt}{f:Addr}{fd:FuncData}{N ps:List Str}{k:Nat}{sp:bh}(F:bg K x qual st f fd)(S:bf N ps (aT st))(len:∀ds Q,sp ds Q->ds.length=ps.length)
  (iN:∀(aH:Value) (A:Around) (outer:List Env) (s:Shared) (H:Hp) (E:XK),bX k (A.deeper (envOfC qual (aT st) s.heap.objs.size f aH)) ->
   ∃t:cF,PSs (ji aZ P w K mg base N qual (aT st) f aH A outer s H E).gK (iO st) (lS (ji aZ P w K mg base N qual (aT st) f aH A outer s H E).gK t)/\∀ds Q,sp ds Q->t { nx:=λ_=>Q .aq,rt:=Q } (lM N ds)):aO P w K mg base aZ (k+1) f fd ps (bq sp):=by
 refine F.ok S (λvs H Q E ⟨F,ds,Qd,e,r,h,_⟩=>by rw[<-r.length];exact len ds Qd h) λaH A outer s H vs Q E hr zz=>?_
 obtain⟨F,ds,Qd,e,r,h,k⟩:=zz
 obtain⟨t,ht,hq⟩:=iN aH A outer s H E hr
 have fin:∀d v ah aC F' H',Qd d->ak ⟨H,F⟩ F' H' aC ah [(d,v)]->Q v H':=λd v ah aC F' H' hd c=>by
  obtain⟨A,C,r',s',nd,fr⟩:=c.own
  exact k d v F' H' A hd c.b1 c.b2 c.ext c.b3 r' (iQ.mp nd).1 λa ha=>fr a (e7 _ ha)
 have e1:L2.start N vs=vs.map some++aK (N.length-ds.length) none:=by unfold L2.start;rw[r.length]
 refine⟨_,ht,⟨H,F⟩,F,lM N ds,_,?_,hq ds Qd h,λah aC F' H' hd c=>fin .aq .aq ah aC F' H' hd (c.pushS (.aq .nil) rfl),fin,λ_ _ _ _ z=>z.elim,λ_ _ _ _ z=>z.elim,XL.none (λ_ _ z=>z) λ_ _ z=>z⟩
 rw[e1]
 exact ak.start e r _
end
section
variable{X:Cx}{e a b c:Expr}{es:List Expr}{pos:Pos}{st:Stmt}{yc rest:List Stmt}{t u:cF}{te:aI}{tt:fP}
noncomputable def uU:cF:=λD δ=>D.nx δ
noncomputable def Ob(t u:cF):cF:=λD δ=>t { D with nx:=u D } δ
theorem az{t u:cF}{En:rM}{δ:Dl}(h:∀U:Dl->Prop,(∀ah,u En ah->U ah)->t { En with nx:=U } δ):Ob t u En δ:=h (u En) λ_ z=>z
theorem dY:PSs X [] (lS X uU):=Ga q0 λD σ H ⟨B,F,δ,Dd,c,q,k1,_⟩=>k1 δ σ F H q c
theorem aA(h1:PS X st (lS X t))(h2:PSs X rest (lS X u)):PSs X (st::rest) (lS X (Ob t u)) :=
 Ga (fK h1 h2) λD σ H zq=>by
 obtain⟨B,F,δ,Dd,c,q,k1,k2,k3,k4⟩:=zq
 exact⟨B,F,δ,{ Dd with nx:=u Dd },c,q,λah aC F' H' hq c'=>⟨B,F',ah,Dd,c',hq,k1,k2,k3,k4⟩,k2,k3,k4⟩
theorem aG(h1:PS X st (lS X t)):PSs X [st] (lS X t):=kr h1
noncomputable def rT(i:Nat)(t:cF):cF:=λD δ=>∃d,δ[i]?=some (some d)/\t D (δ.set i (some d.sh))
theorem BK(i:Nat)(h:PSs X yc (lS X t)):PSs X yc (lS X (rT i t)):=Ga h λD σ H zz=>by
 obtain⟨B,F,δ,Dd,c,⟨d,e,q⟩,k⟩:=zz
 obtain⟨F',s,c'⟩:=c.freeze e
 exact⟨B,F',_,Dd,c',q,k⟩
noncomputable def rU(i:Nat)(t:aI):cF:=λD δ=>t δ λd ah=>D.nx (ah.set i (some d))
theorem aW{i:Nat}{x:Str}{pos':Pos}(hN:X.N.Nodup)(hi:X.N[i]?=some x)(hx:Loc X.env.scope x)(he:PE X e (lE te))(hs:swapsWith e (some (.Name x pos')) pos.line X.env=pure false:=by rfl)
  (hf:X.fn x=true\/X.env.scope.names.lookup x=some .local:=by first | exact .inl rfl | exact .inr rfl | assumption):PS X (.Assign [.Name x pos'] e pos) (lS X (rU i te)) :=
 lL (E3 hN hi hx he hs hf) λD σ H zq=>by
 obtain⟨B,F,δ,Dd,c,q,k1,k2,k3,k4⟩:=zq
 exact⟨B,F,δ,[],_,c,q,λd ah v F' H' hd sf sh c'=>k1 _ _ F' H' hd (c'.store i)⟩
noncomputable def uV(t:aI):cF:=λD δ=>t δ λd _=>D.rt d
theorem bc(he:PE X e (lE te)):PS X (.Return (some e) pos) (lS X (uV te)) :=
 lL (W6 he) λD σ H zq=>by
 obtain⟨B,F,δ,Dd,c,q,k1,k2,k3,k4⟩:=zq
 exact⟨B,F,δ,[],_,c,q,λd ah v F' H' hd sf sh c'=>k2 d v ah σ F' H' hd c'⟩
noncomputable def uW(tc:fP)(t u:cF):cF:=λD δ=>tc δ λb ah=>if b=true then t D ah else u D ah
theorem dZ{l r:List Stmt}(hc:PT X c (lT tt))(ha:PSs X l (lS X t))(hb:PSs X r (lS X u)):PS X (.If c l r pos) (lS X (uW tt t u)) :=
 lL (uk hc ha hb) λD σ H zq=>by
 obtain⟨B,F,δ,Dd,c,q,k⟩:=zq
 exact⟨B,F,δ,[],_,c,q,λb ah F' H' hq sf sh c'=>by
  cases b with
  | true=>exact pM ⟨B,F',ah,Dd,c',by simpa using hq,k⟩
  | false=>exact jm ⟨B,F',ah,Dd,c',by simpa using hq,k⟩⟩
noncomputable def uX(i:Nat)(rd:cW)(t:aI):cF:=λD δ=>∃x,δ[i]?=some (some x)/\t δ λy ai=>rd x y λz=>D.nx (ai.set i (some z))
theorem yg{i:Nat}{x:Str}{op:Operator}{rd:cW}{pos':Pos}(hN:X.N.Nodup)(hi:X.N[i]?=some x)(hx:Loc X.env.scope x)(he:PE X e (lB te))(ho:bQ X (inplaceOp op) rd)
  (hf:X.fn x=true\/X.env.scope.names.lookup x=some .local:=by first | exact .inl rfl | exact .inr rfl | assumption):PS X (.AugAssign (.Name x pos') op e pos) (lS X (uX i rd te)):=by
 obtain⟨r,h1,h2⟩:=ho
 refine lL (Xi hN hi hx he (ti:=r) h1 hf) λD σ H zz=>?_
 obtain⟨B,F,δ,Dd,c,⟨d0,e0,q⟩,k1,k2,k3,k4⟩:=zz
 obtain⟨v0,e1,s0⟩:=c.look e0
 exact⟨v0,e1,B,F,δ,[],_,c,q,λd ah v F' H' hd sf sh c' s=>h2 c' (s0.mono sf sh) s hd λz w H2 hz h3 c3=>k1 _ _ F' H2 hz (c3.store i)⟩
noncomputable def uY(tc:fP)(tb:cF):cF:=λD δ=>∃W:Nat->Dl->Prop,(∃m,W m δ)/\∀m δ,W m δ->tc δ λb ah=>if b=true then tb { D with nx:=λah=>∃m',m'<m/\W m' ah,ct:=λah=>∃m',m'<m/\W m' ah,bk:=D.nx } ah else D.nx ah
theorem uZ{body:List Stmt}(hp:PassesOwn (model X.prog X.w) X.A X.env X.xe)(hc:PT X c (lT tt))(hb:PSs X body (lS X t)):PS X (.While c body [] pos) (lS X (uY tt t)) :=
 lL (Xq hp hc hb) λD σ H zz=>by
  obtain⟨B,F,δ,Dd,c,⟨W,⟨m0,w0⟩,hw⟩,k1,k2,k3,k4⟩:=zz
  refine⟨λm σ H=>∃F δ,ak B F H σ δ []/\W m δ,⟨m0,F,δ,c,w0⟩,λm σ H ⟨F,δ,c,w⟩=>⟨B,F,δ,[],_,c,hw m δ w,λb ah F' H' hq sf sh c'=>?_⟩⟩
  cases b with
  | true =>
   refine pM ⟨λaC H'=>∃m',m'<m/\∃F δ,ak B F H' aC δ []/\W m' δ,λaC H' z=>z,B,F',ah,{ Dd with nx:=λah=>∃m',m'<m/\W m' ah,ct:=λah=>∃m',m'<m/\W m' ah,bk:=Dd.nx },c',by simpa using hq,λaR jM F2 H2 ⟨m',hm,w2⟩ c2=>⟨m',hm,F2,aR,c2,w2⟩,k2,λaR jM F2 H2 z c2=>k1 aR jM F2 H2 z c2,λaR jM F2 H2 ⟨m',hm,w2⟩ c2=>⟨m',hm,F2,aR,c2,w2⟩,k4.2⟩
  | false=>exact jm (k1 ah σ F' H' (by simpa using hq) c')
end
structure JD(J:It)(F:Hp)(xs:List D):Prop where
 go:∀i H,af F H->i<xs.length->J.go i H
 ku:∀i H x H',af F H->i<xs.length->J.ku i H x H'->∃d,xs[i]?=some d/\af H H'/\R F H' [d] [x] []
 stop:∀i H,af F H->xs.length<=i->J.stop i H
noncomputable abbrev jt:=Dl->(Bool->List D->Dl->Prop)->Prop
noncomputable def lI(t:jt):TI:=λσ H Rr=>∃B F δ ts Qd,ak B F H σ δ ts/\t δ Qd/\∀g xs ah J F' H',Qd g xs ah->af F F'->af H H'->ak B F' H' σ ah ts->JD J H' (xs.map D.sh)->(g=true->xs.all D.pl=true/\JD J F' xs)->Rr J H'
noncomputable abbrev iq:=D->Dl->(Dl->Prop)->Prop
noncomputable def lG(m:Nat)(t:iq):TG:=λv σ H Q=>∃B F δ ts d Qd,ak B F H σ δ ((d,v)::ts)/\t d δ Qd/\∀ah aC,Qd ah->aC.length=σ.length->(∀j,j<m->aC[j]?=σ[j]?)->ak B F H aC ah ts->Q aC H
noncomputable def kE:D->Option (List D)
 | .lst _ xs=>some xs
 | .fz xs=>some xs
 | _=>none
section
variable{B:Bs}{F H F1:Hp}{σ:L2.St}{δ:Dl}{ts:List (D × V)}
end
section
variable{X:Cx}{e a b c tg l iter:Expr}{es:List Expr}{pos:Pos}{t u:cF}{te:aI}{tt:fP}{ta:cE}{m:Nat}
theorem u0{w w':TI}(h:PI X tg iter w)(m:∀σ H Q,w' σ H Q->w σ H Q):PI X tg iter w':=λpins s σ H Q I q=>h pins s σ H Q I (m σ H Q q)
theorem Oc{w w':TG}(h:PG X tg w)(m:∀v σ H Q,w' v σ H Q->w v σ H Q):PG X tg w':=λpins s σ H v u Q I r q=>h pins s σ H v u Q I r (m v σ H Q q)
noncomputable def gN(i:Nat):iq:=λd δ Q=>Q (δ.set i (some d))
theorem ir{i:Nat}{x:Str}(hN:X.N.Nodup)(hi:X.N[i]?=some x)(hx:Loc X.env.scope x)(hm:m<=i:=by decide)(hf:X.fn x=true\/X.env.scope.names.lookup x=some .local:=by first | exact .inl rfl | exact .inr rfl | assumption):PG X (.Name x pos) (lG m (gN i)) :=
 Oc (Bg hN hi hx hf) λv σ H Q ⟨B,F,δ,ts,d,Qd,c,q,k⟩=>k _ _ q (by simp) (λj hj=>by rw[qK (by omega)]) (c.store i)
theorem nM{K:PySem.W.Frag}{F H:Hp}{p:Addr}{xs:List D}{ws:List V}(hp:Rd F p (.lst ws))(r:R F H xs ws [])(hF:Full F H):JD (E5 K p) F xs where
 go:=λi H' hs hi=>by
  have l:=r.length
  have gM:i<ws.length:=by omega
  exact⟨ws,ws[i],.inl (iP hp hs),aQ gM⟩
 ku:=λi H' x H2 hs hi zz=>by
  obtain⟨e,y⟩:=zz
  subst e
  have hx:=y ws (.inl (iP hp hs))
  obtain⟨v,A1,e2,r1,sub⟩:=(r.full hF hs rfl).get (aQ hi)
  rw[hx]at e2;cases e2
  have:A1=[]:=V8.mpr λa ha=>by simpa using sub ha
  subst this
  exact⟨_,aQ hi,af.refl _,r1⟩
 stop:=λi H' hs hi=>⟨ws,.inl (iP hp hs),by have:=r.length;omega⟩
theorem BL{F:Hp}(lo:Int)(n:Nat):JD (xI lo n) F ((aM n).map λ(k:Nat)=>D.int (lo+(k:Int))) where
 go:=λi H' hs hi=>by
  have gM:i<n:=by simpa using hi
  exact gM
 ku:=λi H' x H2 hs hi zz=>by
  obtain⟨e,y⟩:=zz
  subst e y
  have gM:i<n:=by simpa using hi
  exact⟨.int (lo+i),by simp[jJ gM],af.refl _,.int .nil⟩
 stop:=λi H' hs hi=>by
  have gM:n<=i:=by simpa using hi
  exact gM
noncomputable def u3(t:aI):jt:=λδ Q=>t δ λd ah=>∃xs,kE d=some xs/\Q true (xs.map D.sh) ah
theorem cJ2(xs:List D){F H:Hp}{ws:List V}(r:R F H (xs.map D.sh) ws []):(xs.map D.sh).map D.sh=xs.map D.sh:=lK r.pl
theorem rV(h:PE X l (lE te)):PI X tg l (lI (u3 te)) :=
 u0 (MF h) λσ H Q zq=>by
 obtain⟨B,F,δ,ts,Qd,c,q,k⟩:=zq
 exact⟨B,F,δ,ts,_,c,q,λd ai v F1 H1 hd f1 h1 c1=>by
  obtain⟨xs,e,hq⟩:=hd
  obtain⟨F2,f2,c2⟩:=c1.FY
  have tp:=c2.top
  have c3:=c2.pop.snap
  have e2:=c2.ext
  have sn:=rL e2
  cases d with
  | lst o ys =>
   obtain rfl:=cT e
   rw[eN]at tp
   cases tp with
   | @shr p ws _ _ _ hp r _ =>
    have r3:=r.shared sn (af.refl _)
    refine⟨p,rfl,⟨ws,bF.of (e2 _ _ hp)⟩,k true _ ai _ _ H1 hq ((f1.trans f2).trans sn) h1 c3 ?_ λ_=>⟨r.pl,nM (.inl (sn _ _ hp)) r3 uK⟩⟩
    rw[cJ2 _ r]
    exact nM (.inl (e2 _ _ hp)) (r.shared e2 (af.refl _)) (Full.refl _)
  | fz ys =>
   obtain rfl:=cT e
   cases tp with
   | @fz p o ws _ _ _ hp r _ =>
    have r3:=r.shared sn (af.refl _)
    have es:=lK r.pl
    rw[es]at hq
    refine⟨p,rfl,⟨ws,.inl (.inr ⟨o,e2 _ _ hp⟩)⟩,k true _ ai _ _ H1 hq ((f1.trans f2).trans sn) h1 c3 ?_ λ_=>⟨r.pl,nM (.inr ⟨o,sn _ _ hp⟩) r3 uK⟩⟩
    rw[es]
    exact nM (.inr ⟨o,e2 _ _ hp⟩) (r.shared e2 (af.refl _)) (Full.refl _)
  | aq=>cases e
  | bl _=>cases e
  | int _=>cases e
  | str _=>cases e
  | tup _=>cases e
  | obj _ _ _=>cases e
  | bz _=>cases e⟩
noncomputable def u4(t:aI):jt:=λδ Q=>t δ λd ah=>∃xs,kE d=some xs/\Q d.pl xs ah
theorem iu(h:PE X l (lB te)):PI X tg l (lI (u4 te)) :=
 u0 (MF h) λσ H Q zq=>by
 obtain⟨B,F,δ,ts,Qd,c,q,k⟩:=zq
 exact⟨B,F,δ,ts,_,c,q,λd ai v F1 H1 hd f1 h1 c1 s=>by
  obtain⟨xs,e,hq⟩:=hd
  have c3:=c1.snap
  have e2:=c1.ext
  have sn:=rL e2
  cases s with
  | @shr p ws ys _ _ hp r _ =>
   obtain rfl:=cT e
   refine⟨p,rfl,⟨ws,bF.of (e2 _ _ hp)⟩,k _ _ ai _ _ H1 hq (f1.trans sn) h1 c3 ?_ λ_=>⟨r.pl,nM (.inl (sn _ _ hp)) (r.shared sn (af.refl _)) uK⟩⟩
   rw[lK r.pl]
   exact nM (.inl (e2 _ _ hp)) (r.shared e2 (af.refl _)) (Full.refl _)
  | @own p ws ys _ _ hp r _ =>
   obtain rfl:=cT e
   refine⟨p,rfl,⟨ws,bF.of hp⟩,k _ _ ai _ _ H1 hq (f1.trans sn) h1 c3 (nM (.inl hp) (r.frozen e2) (Full.refl _)) λz=>by simp[gO]at z⟩
  | @fz p o ws ys _ _ hp r _ =>
   obtain rfl:=cT e
   refine⟨p,rfl,⟨ws,.inl (.inr ⟨o,e2 _ _ hp⟩)⟩,k _ _ ai _ _ H1 hq (f1.trans sn) h1 c3 ?_ λ_=>⟨r.pl,nM (.inr ⟨o,sn _ _ hp⟩) (r.shared sn (af.refl _)) uK⟩⟩
   rw[lK r.pl]
   exact nM (.inr ⟨o,e2 _ _ hp⟩) (r.shared e2 (af.refl _)) (Full.refl _)
  | aq _=>cases e
  | bl _=>cases e
  | int _=>cases e
  | str _=>cases e
  | tup _ _ _=>cases e
  | obj _ _ _ _=>cases e
  | bz _ _=>cases e⟩
theorem yh(f:Nat->Int)(l:List Nat):(l.map λk=>D.int (f k)).map D.sh=l.map λk=>D.int (f k):=by simp[D.sh]
theorem Od(f:Nat->Int)(l:List Nat):(l.map λk=>D.int (f k)).all D.pl=true:=by simp[D.pl]
noncomputable def u5(t:cE):jt:=λδ Q=>t δ λds ah=>∃j:Int,ds=[.int j]/\(-(2 ^ 62)<=j/\j<2 ^ 62)/\Q true ((aM j.toNat).map λ(k:Nat)=>D.int (0+(k:Int))) ah
theorem mL{p:Pos}(hg:Gl X "range")(hm:X.mg "range"=none)(ha:PA X [a] (lA ta))(hs:starEach [a] X.env=[(false,eval a X.env)]:=by rfl):PI X tg (.Call (.Name "range" p) [a] [] pos) (lI (u5 ta)) :=
 u0 (Xw hg hm ha hs) λσ H Q zq=>by
 obtain⟨B,F,δ,ts,Qd,c,q,k⟩:=zq
 exact⟨B,F,δ,ts,_,c,q,λds ai vs F1 H1 hd f1 h1 c1 s=>by
  obtain⟨j,rfl,⟨b1,b2⟩,hq⟩:=hd
  cases s with
  | int s =>
   cases s
   refine⟨j,rfl,b1,b2,k true _ ai _ _ H1 hq f1 h1 c1 ?_ λ_=>⟨Od _ _,BL 0 _⟩⟩
   rw[yh]
   exact BL 0 _⟩
noncomputable def u6(t:cE):jt:=λδ Q=>t δ λds ah=>∃i j:Int,ds=[.int i,.int j]/\(-(2 ^ 62)<=i/\i<2 ^ 62/\-(2 ^ 62)<=j/\j<2 ^ 62)/\Q true ((aM (j-i).toNat).map λ(k:Nat)=>D.int (i+(k:Int))) ah
theorem rW{p:Pos}(hg:Gl X "range")(hm:X.mg "range"=none)(ha:PA X [a,b] (lA ta))(hs:starEach [a,b] X.env=[(false,eval a X.env),(false,eval b X.env)]:=by rfl)(eK:starEach [b] X.env=[(false,eval b X.env)]:=by rfl) :
  PI X tg (.Call (.Name "range" p) [a,b] [] pos) (lI (u6 ta)) :=
 u0 (Xx hg hm ha hs eK) λσ H Q zq=>by
 obtain⟨B,F,δ,ts,Qd,c,q,k⟩:=zq
 exact⟨B,F,δ,ts,_,c,q,λds ai vs F1 H1 hd f1 h1 c1 s=>by
  obtain⟨i,j,rfl,bd,hq⟩:=hd
  cases s with
  | int s =>
   cases s with
   | int s =>
    cases s
    refine⟨i,j,rfl,bd,k true _ ai _ _ H1 hq f1 h1 c1 ?_ λ_=>⟨Od _ _,BL i _⟩⟩
    rw[yh]
    exact BL i _⟩
noncomputable def gu(xs:List D)(g:iq)(tb:cF):cF:=λEn ai=>∃Iv:Nat->Dl->Prop,Iv 0 ai /\
 (∀i d ah,xs[i]?=some d->Iv i ah->g d ah λaR=>tb { En with nx:=Iv (i+1),ct:=Iv (i+1),bk:=En.nx } aR)/\∀ah,Iv xs.length ah->En.nx ah
theorem gu.mk{xs:List D}{g:iq}{tb:cF}{En:rM}{δ:Dl}(Iv:Nat->Dl->Prop)(h0:Iv 0 δ)(ht:∀i d ah,xs[i]?=some d->Iv i ah->g d ah λaR=>tb { En with nx:=Iv (i+1),ct:=Iv (i+1),bk:=En.nx } aR)
  (hf:∀ah,Iv xs.length ah->En.nx ah):gu xs g tb En δ:=⟨Iv,h0,ht,hf⟩
noncomputable def u7(ti:jt)(g:iq)(tb:cF):cF:=λEn δ=>ti δ λsh xs ai=>sh=true/\gu xs g tb En ai
theorem gg{ti:jt}{g:iq}{body:List Stmt}(hp:PassesOwn (model X.prog X.w) X.A X.env X.xe)(hc:X.calm=true)(hi:PI X tg iter (lI ti))(hg:PG X tg (lG 0 g))(hb:PSs X body (lS X t))
  (hs:∀x,foldedSetIterable iter X.env x=pure x:=by intro _;rfl):PS X (.For tg iter body [] pos) (lS X (u7 ti g t)) :=
 lL (XA hp hc hi hg hb hs) λEn σ H zq=>by
 obtain⟨B,F,δ,Dd,c,q,k1,k2,k3,k4⟩:=zq
 exact⟨B,F,δ,[],_,c,q,λsh xs ai J F1 H1 hq f1 h1 c1 _ jd=>by
  obtain⟨xT,Iv,i0,turn,fin⟩:=hq
  obtain⟨bw,jd⟩:=jd xT
  have un:∀{F' H':Hp} {aC:L2.St} {ah:Dl} {ts:List (D × V)},ak ⟨B.H0,F1⟩ F' H' aC ah ts->ak B F' H' aC ah ts:=λc'=>c'.cL9 c1.b2 c1.b3
  refine⟨λi m σ H=>m=xs.length-i/\i<=xs.length/\∃F δ,ak ⟨B.H0,F1⟩ F H σ δ []/\Iv i δ,⟨_,rfl,kR _,F1,ai,c1.rebase,i0⟩,?_⟩
  rintro i m jM H2 ⟨rfl,hi,F2,aR,c2,iv⟩
  have s2:af F1 H2:=c2.b2.trans c2.ext
  by_cases ig:i<xs.length
  ·refine .inr ⟨jd.go i H2 s2 ig,λaC H'=>∃F δ,ak ⟨B.H0,F1⟩ F H' aC δ []/\Iv (i+1) δ,λaC H' z=>⟨xs.length-(i+1),by omega,rfl,ig,z⟩,λx H3 y=>?_⟩
   obtain⟨d,e,s3,r⟩:=jd.ku i H2 x H3 s2 ig y
   have c3:=(c2.grow s3).pushS (d:=d) (v:=x) ((r.s).mono c2.b2 (af.refl _)) (by have:=r.pl;simpa using this)
   refine⟨⟨B.H0,F1⟩,F2,aR,[],d,_,c3,turn i d aR e iv,λah aC hq _ _ c4=>?_⟩
   exact⟨⟨B.H0,F1⟩,F2,ah,_,c4,hq,λjT nN F5 H5 h5 c5=>⟨F5,jT,c5,h5⟩,λd5 v5 jT nN F5 H5 h5 c5=>k2 d5 v5 jT nN F5 H5 h5 (un c5),λjT nN F5 H5 h5 c5=>k1 jT nN F5 H5 h5 (un c5),λjT nN F5 H5 h5 c5=>⟨F5,jT,c5,h5⟩,⟨λC jT pins nN F5 H5 s5 a T h5 c5=>k4.2.1 C jT pins nN F5 H5 s5 a T h5 (un c5),λC jT pins nN F5 H5 s5 h' e vs h5 c5=>k4.2.2 C jT pins nN F5 H5 s5 h' e vs h5 (un c5)⟩⟩
  ·have e:i=xs.length:=by omega
   subst e
   exact .inl ⟨jd.stop _ H2 s2 (bD _),k1 aR jM F2 H2 (fin aR iv) (un c2)⟩⟩
end
end L3
namespace L3
open PySem L2 PySem.Spec PyProof.Rows
noncomputable def jU(δ:Dl)(q:Str × Nat):Option D:=(δ[q.2]?).getD none
noncomputable def ju(δ:Dl)(q:Str × Nat):Bool:=match jU δ q with
 | some d=>d.pl
 | none=>true
noncomputable def gv(aB:List (Str × Nat))(n:Nat)(δ:Dl):Dl:=(aB.map λq=>(jU δ q).map D.sh)++aK n none
noncomputable def u9(sh:Bool)(xs:List D)(aB:List (Str × Nat))(n:Nat)(g:iq)(tt:fP)(te:aI)(ai:Dl)(Q:D->Dl->Prop):Prop:=∃(p:D->Bool) (f:D->D),
 (∀x∈xs.map D.sh,g x (gv aB n ai) λaR=>tt aR λb iS=>b=p x/\(p x=true->te iS λd _=>d=f x)) /\
 ((sh&&aB.all (ju ai))=true\/∀x∈xs.map D.sh,p x=true->(f x).fr=true)/\xs.length<=sizeLine/\Q (.lst true (((xs.map D.sh).filter p).map f)) ai
noncomputable def rX(ti:jt)(aB:List (Str × Nat))(n:Nat)(g:iq)(tt:fP)(te:aI):aI:=λδ Q=>ti δ λsh xs ai=>u9 sh xs aB n g tt te ai Q
noncomputable def mM:fP:=λδ Q=>Q true δ
theorem b66{sh:Bool}{xs:List D}{aB:List (Str × Nat)}{n m:Nat}{te:aI}{ai:Dl}{Q:D->Dl->Prop}(f:D->D)(hx:∀x∈xs.map D.sh,te ((gv aB n ai).set m (some x)) λd _=>d=f x)
  (eM:(sh&&aB.all (ju ai))=true\/∀x∈xs.map D.sh,(f x).fr=true) (hl:xs.length<=sizeLine) (hq:Q (.lst true ((xs.map D.sh).map f)) ai):u9 sh xs aB n (gN m) mM te ai Q :=
 ⟨λ_=>true,f,λx h=>⟨rfl,λ_=>hx x h⟩,eM.imp id λh x hx _=>h x hx,hl,by rw[V9.mpr (λ_ _=>rfl)];exact hq⟩
section
variable{B:Bs}{F H:Hp}{σ:L2.St}{δ:Dl}{ts:List (D × V)}
theorem Oe(c:ak B F H σ δ ts)(n:Nat):∀(aB:List (Str × Nat)),aB.all (ju δ)=true->RS F H (gv aB n δ) (ij aB n σ) []
 | [],_=>by
  have z:∀n,RS F H (aK n none) (aK n none) []:=λn=>by
   induction n with
   | zero=>exact .nil
   | succ n ih=>exact .aq ih
  exact z n
 | q::r,h=>by
  rw[dB,eV]at h
  have ih:=Oe c n r h.2
  show RS F H ((jU δ q).map D.sh::gv r n δ) ((σ[q.2]?).getD none::ij r n σ) []
  cases e:jU δ q with
  | none=>exact .aq ih
  | some d =>
   have e2:δ[q.2]?=some (some d):=by
    unfold jU at e
    cases z:δ[q.2]? with
    | none=>rw[z]at e;cases e
    | some o=>rw[z]at e;exact congrArg some e
   have hp:d.pl=true:=by have:=h.1;unfold ju at this;rw[e]at this;exact this
   obtain⟨v,e3,s⟩:=c.look e2
   rw[e3]
   show RS F H (some d.sh::_) (some v::_) []
   rw[D.BF hp]
   exact .fO (A:=[]) (s.r (by simp[hp])) ih
theorem Of(c:ak B F H σ δ ts)(n:Nat):∀(aB:List (Str × Nat)),RS H H (gv aB n δ) (ij aB n σ) []
 | []=>by
  have z:∀n,RS H H (aK n none) (aK n none) []:=λn=>by
   induction n with
   | zero=>exact .nil
   | succ n ih=>exact .aq ih
  exact z n
 | q::r=>by
  have ih:=Of c n r
  show RS H H ((jU δ q).map D.sh::gv r n δ) ((σ[q.2]?).getD none::ij r n σ) []
  cases e:jU δ q with
  | none=>exact .aq ih
  | some d =>
   have e2:δ[q.2]?=some (some d):=by
    unfold jU at e
    cases z:δ[q.2]? with
    | none=>rw[z]at e;cases e
    | some o=>rw[z]at e;exact congrArg some e
   obtain⟨v,e3,s⟩:=c.look e2
   rw[e3]
   exact .fO (A:=[]) (s.frozen c.ext) ih
theorem Og{α:Type}(xs:List α)(p:α->Bool)(i:Nat)(x:α)(h:xs[i]?=some x):(xs.take (i+1)).filter p=(xs.take i).filter p++(if p x=true then [x]else []):=by
 rw[kY,h,Wa]
 simp only[LP]
 by_cases hp:p x=true<;>simp[hp]
end
section
variable{X:Cx}{elt iter tg:Expr}{pos:Pos}{ifs:List Expr}{scope:Scope}{cl:List (Str × Addr)}{ti:jt}{tt:fP}{te:aI}{g:iq}
theorem Oh{B:Bs}{F1 H1:Hp}{σ:L2.St}{ai:Dl}{ts:List (D × V)}{J:It}{Qd:D->Dl->Prop}{Q:VK}{xs:List D}{sh:Bool}{aB:List (Str × Nat)}{n:Nat}(c1:ak B F1 H1 σ ai ts)
  (rY:JD J H1 (xs.map D.sh)) (yi:sh=true->xs.all D.pl=true/\JD J F1 xs) (p:D->Bool) (f:D->D)
  (hx:∀x∈xs.map D.sh,g x (gv aB n ai) λaR=>tt aR λb iS=>b=p x/\(p x=true->te iS λd _=>d=f x))
  (eM:(sh&&aB.all (ju ai))=true\/∀x∈xs.map D.sh,p x=true->(f x).fr=true) (hlen:xs.length<=sizeLine) (hq:Qd (.lst true (((xs.map D.sh).filter p).map f)) ai)
  (k:∀d ah v F' H',Qd d ah->af F1 F'->af H1 H'->ak B F' H' σ ah ((d,v)::ts)->Q v H'):NR J aB n (lG aB.length g) (lT tt) (lE te) σ H1 Q:=by
 intro Dp hD
 have cD:ak B F1 (upd H1 Dp (.lst [])) σ ai ((.lst true [],.ref Dp)::ts):=c1.pV hD .nil rfl
 refine⟨λi m acc H2=>m=xs.length-i/\i<=xs.length/\H2 Dp=some (.lst acc)/\af H1 H2/\acc.length<=i/\∃F2,af F1 F2 /\
  ak B F2 H2 σ ai ((.lst true ((((xs.map D.sh).take i).filter p).map f),.ref Dp)::ts),⟨xs.length,rfl,kR _,bH,af.upd hD,bD _,F1,af.refl _,by simpa using cD⟩,?_⟩
 rintro i m acc H2 ⟨rfl,hi,Gh,yj,hal,F2,nO,c2⟩
 refine⟨Gh,?_⟩
 by_cases ig:i<xs.length
 case neg =>
  have e:i=xs.length:=by omega
  subst e
  refine .inl ⟨rY.stop _ H2 yj (by simp),k _ ai _ F2 H2 ?_ nO yj c2⟩
  have:(xs.map D.sh).take xs.length=xs.map D.sh:=by rw[tW (by simp)]
  rw[this]
  exact hq
 case pos =>
  refine .inr ⟨rY.go i H2 yj (by simpa using ig),λx H3 y=>?_⟩
  obtain⟨d0,e0,Gi,r0⟩:=rY.ku i H2 x H3 yj (by simpa using ig) y
  have Oi:d0∈xs.map D.sh:=tS e0
  have Oj:H3 Dp=some (.lst acc):=Gi _ _ Gh
  have c3:=c2.grow Gi
  have Gj:=yj.trans Gi
  refine⟨Oj,?_⟩
  have iT:=hx d0 Oi
  have turn:∀Fi,af Fi H3->RS Fi H3 (gv aB n ai) (ij aB n σ) []->S Fi H3 [d0] [x]->d0.pl=true ->
    (∀d v F' H' A,d=f d0->p d0=true->af H3 H'->af Fi F'->af F' H'->(∀a ws,F' a=some (.lst ws)->Fi a=some (.lst ws)\/H3 a=none)->R F' H' [d] [v] A->A.Nodup->(∀a∈A,H3 a=none) ->
     ∃F4,af F2 F4/\ak B F4 H' σ ai ((d,v)::(.lst true ((((xs.map D.sh).take i).filter p).map f),.ref Dp)::ts)) ->
    lG aB.length g x (ij aB n σ) H3 λgL H4 =>
     (gL.length=(ij aB n σ).length/\∀j,j<aB.length->gL[j]?=(ij aB n σ)[j]?)/\lT tt gL H4 λb H5=>H5 Dp=some (.lst acc) /\
     if b=true then lE te gL H5 λy H6=>H6 Dp=some (.lst acc)/\acc.length<sizeLine/\∃m',m'<xs.length-i /\
      (m'=xs.length-(i+1)/\i+1<=xs.length/\upd H6 Dp (.lst (acc++[y])) Dp=some (.lst (acc++[y]))/\af H1 (upd H6 Dp (.lst (acc++[y])))/\(acc++[y]).length<=i+1/\∃F2,af F1 F2 /\
       ak B F2 (upd H6 Dp (.lst (acc++[y]))) σ ai ((.lst true ((((xs.map D.sh).take (i+1)).filter p).map f),.ref Dp)::ts))
     else ∃m',m'<xs.length-i/\(m'=xs.length-(i+1)/\i+1<=xs.length/\H5 Dp=some (.lst acc)/\af H1 H5/\acc.length<=i+1/\∃F2,af F1 F2 /\
       ak B F2 H5 σ ai ((.lst true ((((xs.map D.sh).take (i+1)).filter p).map f),.ref Dp)::ts)):=by
   intro Fi hFi hRS hS bw back
   have ci:ak ⟨H3,Fi⟩ Fi H3 (ij aB n σ) (gv aB n ai) []:=⟨hFi,af.refl _,af.refl _,λ_ _ q=>.inl q,[],[],.nil,hRS,by simp,by simp⟩
   refine⟨⟨H3,Fi⟩,Fi,gv aB n ai,[],d0,_,ci.pushS hS bw,iT,λah gL hq1 l1 k1 c4=>⟨⟨l1,k1⟩,⟨H3,Fi⟩,Fi,ah,[],_,c4,hq1,λb jT F5 H5 hb f5 h5 c5=>?_⟩⟩
   obtain⟨hb,ht⟩:=hb
   have BM:H5 Dp=some (.lst acc):=h5 _ _ Oj
   refine⟨BM,?_⟩
   by_cases hp:p d0=true
   ·rw[hb,hp]
    refine pM ⟨⟨H3,Fi⟩,F5,jT,[],_,c5,ht hp,λd δ6 v F6 H6 hd f6 h6 c6=>?_⟩
    have Ol:H6 Dp=some (.lst acc):=h6 _ _ BM
    obtain⟨A,C,r,s,nd,fr⟩:=c6.own
    obtain⟨F4,yk,c7⟩:=back d v F6 H6 A hd hp c6.b1 c6.b2 c6.ext c6.b3 r (iQ.mp nd).1 λa ha=>fr a (e7 _ ha)
    have c8:=c7.cM4 Ol
    refine⟨Ol,by omega,xs.length-(i+1),by omega,rfl,ig,bH,?_,by simpa using hal,F4,nO.trans yk,?_⟩
    ·have Om:=Gj.trans c6.b1
     exact⟨λa o q n=>by rw[aU (eJ q hD)];exact Om.get a o q n,λa ps q=>by rw[aU (eJ q hD)];exact Om.tb a ps q⟩
    ·have e9:(((xs.map D.sh).take (i+1)).filter p).map f=(((xs.map D.sh).take i).filter p).map f++[d]:=by
      rw[Og _ p i d0 e0,hp,hd];simp
     rw[e9]
     exact c8
   ·have Oo:p d0=false:=by simpa using hp
    rw[hb,Oo]
    refine jm ⟨xs.length-(i+1),by omega,rfl,ig,BM,Gj.trans h5,by omega,F2,nO,?_⟩
    have e9:(((xs.map D.sh).take (i+1)).filter p).map f=(((xs.map D.sh).take i).filter p).map f:=by
     rw[Og _ p i d0 e0,Oo];simp
    rw[e9]
    exact c3.grow h5
  by_cases hA:(sh&&aB.all (ju ai))=true
  ·rw[eV]at hA
   obtain⟨bw,jd⟩:=yi hA.1
   have xT:=lK bw
   rw[xT]at e0
   obtain⟨d1,e1,_,r1⟩:=jd.ku i H2 x H3 (nO.trans c2.ext) ig y
   rw[e0]at e1;cases e1
   have cN6:d0.pl=true:=by have:=r1.pl;simpa using this
   refine turn F2 c3.ext (Oe c3 n aB hA.2) ((r1.s).mono nO (af.refl _)) cN6 λd v F' H' A hd hp hs hf he h3 r nd fr=>⟨F',hf,c3.call hs hf he h3 r nd fr⟩
  ·have cN7:=eM.resolve_left hA
   refine turn H3 (af.refl _) (Of c3 n aB) ((r0.shared Gj (af.refl _)).s) (by have:=r0.pl;simpa using this) λd v F' H' A hd hp hs hf he h3 r nd fr=>⟨F2,af.refl _,?_⟩
   exact c3.BG hs (r.rK (by rw[hd];simp[cN7 d0 Oi hp]) (c3.ext.trans hf)) nd fr
theorem eZ{Y:Cx}:nG Y [] (lT mM):=λ_ _ _ H _ I ⟨B,F,δ,ts,Qd,c,q,k⟩=>ZH _ _ _ H _ I (k true δ F H q (af.refl _) (af.refl _) c)
theorem BN{Y:Cx}{c:Expr}(h:PT Y c (lT tt)):nG Y [c] (lT tt):=ZI h
end
end L3
namespace L3
open PySem L2 PySem.Spec PyProof.Rows
section
variable{X:Cx}{F H:Hp}{v w:V}
noncomputable def l2(rd:cW):R2:=λv w H Q=>∃B F σ δ ts x y Qd,ak B F H σ δ ts/\S F H [x] [v]/\S F H [y] [w]/\rd x y Qd/\∀d z H',Qd d->af H H'->ak B F H' σ δ ((d,z)::ts)->Q z H'
theorem bQ.of{f:Value->Value->Sem Value}{rd:cW}(h:cN X f (l2 rd)):bQ X f rd:=⟨_,h,λ{B F H σ δ ts x y v w Q Qd} c sx sy q k=>⟨B,F,σ,δ,ts,x,y,Qd,c,sx,sy,q,k⟩⟩
theorem va{f:Value->Value->Sem Value}{C:Int->Int->Prop}{g:Int->Int->V}{gd:Int->Int->D}(ho:cN X f (rI C g))(hg:∀i j F H,S F H [gd i j] [g i j])(hp:∀i j,(gd i j).pl=true):bQ X f λx y Q=>∃i j,x=.int i/\y=.int j/\C i j/\Q (gd i j) :=
 ⟨_,ho,λ{B F H σ δ ts x y v w Q Qd} c sx sy h k=>by
  obtain⟨i,j,rfl,rfl,hc,q⟩:=h
  cases sx;cases sy
  exact⟨i,j,rfl,rfl,hc,k _ _ _ q (af.refl _) (c.pushS (hg i j F H) (hp i j))⟩⟩
theorem mO{f:Value->Value->Sem Value}{g:Int->Int->V}{gd:Int->Int->D}(ho:cN X f (jN g))(hg:∀i j F H,S F H [gd i j] [g i j])(hp:∀i j,(gd i j).pl=true):bQ X f λx y Q=>∃i j,x=.int i/\y=.int j/\Q (gd i j) :=
 ⟨_,ho,λ{B F H σ δ ts x y v w Q Qd} c sx sy h k=>by
  obtain⟨i,j,rfl,rfl,q⟩:=h
  cases sx;cases sy
  exact⟨i,j,rfl,rfl,k _ _ _ q (af.refl _) (c.pushS (hg i j F H) (hp i j))⟩⟩
theorem iw{o:Bool}{xs:List D}(s:S F H [.lst o xs] [v])(e:af F H):∃p ws,v=.ref p/\H p=some (.lst ws)/\S F H xs ws:=by
 cases s with
 | shr h r _=>exact⟨_,_,rfl,e _ _ h,r.s⟩
 | own h r _=>exact⟨_,_,rfl,h,r⟩
theorem lN{xs:List D}(s:S F H [.tup xs] [v]):∃p ws,v=.ref p/\H p=some (.tup ws)/\S F H xs ws:=by
 cases s with
 | tup h r _=>exact⟨_,_,rfl,h,r⟩
theorem mP{d:D}{xs:List D}(s:S F H [d] [v])(e:af F H)(h:kE d=some xs):∃p ws,v=.ref p/\Rd H p (.lst ws)/\S F H xs ws:=by
 cases s with
 | shr h' r _=>cases h;exact⟨_,_,rfl,.inl (e _ _ h'),r.s⟩
 | own h' r _=>cases h;exact⟨_,_,rfl,.inl h',r⟩
 | fz h' r _=>cases h;exact⟨_,_,rfl,.inr ⟨_,e _ _ h'⟩,r.s⟩
 | aq _=>cases h
 | bl _=>cases h
 | int _=>cases h
 | str _=>cases h
 | tup _ _ _=>cases h
 | obj _ _ _ _=>cases h
 | bz _ _=>cases h
theorem S.rep{xs:List D}{ws:List V}(s:S F H xs ws):∀k:Nat,S F H (aK k xs).flatten (aK k ws).flatten
 | 0=>by simpa using S.nil
 | k+1=>by
  rw[qN,qN,oY,oY]
  exact s.append (S.rep s k)
noncomputable def rZ:cW:=λx y Q=>match x,y with
 | .int i,.int j=>Q (.int (i+j))
 | .str a,.str b=>a.length+b.length<=sizeLine/\Q (.str (a++b))
 | .lst _ xs,.lst _ ys=>(xs.length+ys.length<=sizeLine/\xs.all D.pl=true/\ys.all D.pl=true)/\Q (.lst true (xs++ys))
 | _,_=>False
theorem cE6:bQ X (binaryOp .Add) λx y Q=>∃o xs o' ys,x=.lst o xs/\y=.lst o' ys/\(xs.length+ys.length<=sizeLine/\xs.all D.pl=true/\ys.all D.pl=true)/\Q (.lst true (xs++ys)) :=
 ⟨_,Nh,λ{B F H σ δ ts x y v w Q Qd} c sx sy h k=>by
  obtain⟨o,xs,o',ys,rfl,rfl,⟨hz,h1,h2⟩,q⟩:=h
  obtain⟨p,ws,rfl,e1,s1⟩:=iw sx c.ext
  obtain⟨p',gr,rfl,e2,s2⟩:=iw sy c.ext
  refine⟨p,p',ws,gr,rfl,rfl,e1,e2,by rw[<-s1.length,<- s2.length];exact hz,λr hr=>?_⟩
  exact k _ _ _ q (af.upd hr) (c.pV hr (s1.append s2) (by simp[h1,h2]))⟩
theorem cN9:bQ X (binaryOp .Add) λx y Q=>∃i j,x=.str i/\y=.str j/\i.length+j.length<=sizeLine/\Q (.str (i++j)) :=
 ⟨_,XS,λ{B F H σ δ ts x y v w Q Qd} c sx sy h k=>by
  obtain⟨i,j,rfl,rfl,hz,q⟩:=h
  cases sx;cases sy
  exact⟨i,j,rfl,rfl,hz,k _ _ _ q (af.refl _) (c.pushS (.str .nil) rfl)⟩⟩
theorem cS:bQ X (binaryOp .Add) rZ:=((mO (gd:=λi j=>.int (i+j)) XC (λ_ _ _ _=>.int .nil) λ_ _=>rfl).or (cN9.or cE6)).imp λx y Q h=>by
 unfold rZ at h
 split at h
 ·exact .inl ⟨_,_,rfl,rfl,h⟩
 ·exact .inr (.inl ⟨_,_,rfl,rfl,h.1,h.2⟩)
 ·exact .inr (.inr ⟨_,_,_,_,rfl,rfl,h.1,h.2⟩)
 ·exact h.elim
noncomputable def iI(C:Int->Int->Prop)(g:Int->Int->D):cW:=λx y Q=>match x,y with
 | .int i,.int j=>C i j/\Q (g i j)
 | _,_=>False
noncomputable def ix(g:Int->Int->D):cW:=λx y Q=>match x,y with
 | .int i,.int j=>Q (g i j)
 | _,_=>False
theorem yl{f:Value->Value->Sem Value}{C:Int->Int->Prop}{g:Int->Int->D}(h:bQ X f λx y Q=>∃i j,x=.int i/\y=.int j/\C i j/\Q (g i j)):bQ X f (iI C g):=h.imp λx y Q h=>by
 unfold iI at h
 split at h
 ·exact⟨_,_,rfl,rfl,h.1,h.2⟩
 ·exact h.elim
theorem nQ{f:Value->Value->Sem Value}{g:Int->Int->D}(h:bQ X f λx y Q=>∃i j,x=.int i/\y=.int j/\Q (g i j)):bQ X f (ix g):=h.imp λx y Q h=>by
 unfold ix at h
 split at h
 ·exact⟨_,_,rfl,rfl,h⟩
 ·exact h.elim
noncomputable def vb:cW:=ix λi j=>.int (i-j)
theorem gQ:bQ X (binaryOp .Sub) vb:=nQ (mO Fc (λ_ _ _ _=>.int .nil) λ_ _=>rfl)
noncomputable def Gk(_ j:Int):Prop:=0<j/\j.natAbs.log2<9000
theorem ym{i j:Int}(h1:0<j)(h2:j<1073741824):Gk i j:=⟨h1,by
 have h:j.natAbs<2 ^ 30:=by omega
 have:=(Nat.log2_lt (show j.natAbs≠0 by omega)).mpr h
 omega⟩
theorem b18:cN X (binaryOp .FloorDiv) (rI Gk λi j=>.int (i/j)):=uq λi j _ _ _ _ _ hc q =>
 floordiv_int (show j≠0 by have:=hc.1;omega) (by rw[VZ i (by have:=hc.1;omega)];exact q) (.inl (PyProof.noPylong_of_log2 hc.2))
noncomputable def vd:cW:=iI Gk λi j=>.int (i/j)
theorem yn:bQ X (binaryOp .FloorDiv) vd:=yl (va b18 (λ_ _ _ _=>.int .nil) λ_ _=>rfl)
noncomputable def ve:cW:=iI (λ_ j=>0<j) λi j=>.int (i%j)
theorem eO:bQ X (binaryOp .Mod) ve:=yl (va XD (λ_ _ _ _=>.int .nil) λ_ _=>rfl)
noncomputable def vg:cW:=iI NM λi j=>.int (i*2 ^ j.toNat)
theorem vh:bQ X (binaryOp .LShift) vg:=yl (va NN (λ_ _ _ _=>.int .nil) λ_ _=>rfl)
noncomputable def vi:cW:=iI (λ_ j=>0<=j) λi j=>.int (i/2 ^ j.toNat)
theorem Oq:bQ X (binaryOp .RShift) vi:=yl (va XE (λ_ _ _ _=>.int .nil) λ_ _=>rfl)
noncomputable def vj:cW:=ix λi j=>.int (oV i j)
theorem Ot:bQ X (binaryOp .BitAnd) vj:=nQ (mO XF (λ_ _ _ _=>.int .nil) λ_ _=>rfl)
noncomputable def vk:cW:=ix λi j=>.int (oW i j)
theorem yo:bQ X (binaryOp .BitXor) vk:=nQ (mO XG (λ_ _ _ _=>.int .nil) λ_ _=>rfl)
theorem b11:cN X (binaryOp .Mult) (rI IntMulOk λi j=>.int (i*j)):=uq λ_ _ _ _ _ _ _ hc q=>mul_int q hc
noncomputable def se:cW:=λx y Q=>match x,y with
 | .int i,.int j=>IntMulOk i j/\Q (.int (i*j))
 | .lst _ xs,.int k=>(-(2 ^ 63)<=k/\k<2 ^ 63/\xs.length*k.toNat<=sizeLine/\xs.all D.pl=true)/\Q (.lst true (aK k.toNat xs).flatten)
 | _,_=>False
theorem cG6:bQ X (binaryOp .Mult) λx y Q=>∃o xs k,x=.lst o xs/\y=.int k/\(-(2 ^ 63)<=k/\k<2 ^ 63/\xs.length*k.toNat<=sizeLine/\xs.all D.pl=true)/\Q (.lst true (aK k.toNat xs).flatten) :=
 ⟨_,YZ,λ{B F H σ δ ts x y v w Q Qd} c sx sy h k=>by
  obtain⟨o,xs,n,rfl,rfl,⟨b1,b2,hz,h1⟩,q⟩:=h
  obtain⟨p,ws,rfl,e1,s1⟩:=iw sx c.ext
  cases sy
  refine⟨p,n,ws,rfl,rfl,e1,b1,b2,by rw[<-s1.length];exact hz,λr hr=>?_⟩
  refine k _ _ _ q (af.upd hr) (c.pV hr (s1.rep _) ?_)
  rw[de]
  intro x hx
  obtain⟨l,hl,Ou⟩:=AB.mp hx
  rw[(xm.mp hl).2]at Ou
  exact de.mp h1 x Ou⟩
theorem fQ:bQ X (binaryOp .Mult) se:=((va (gd:=λi j=>.int (i*j)) b11 (λ_ _ _ _=>.int .nil) λ_ _=>rfl).or cG6).imp λx y Q h=>by
 unfold se at h
 split at h
 ·exact .inl ⟨_,_,rfl,rfl,h.1,h.2⟩
 ·exact .inr ⟨_,_,_,rfl,rfl,h.1,h.2⟩
 ·exact h.elim
theorem cA9:bQ X (inplaceOp .Add) (ix λi j=>.int (i+j)):=nQ (mO XH (λ_ _ _ _=>.int .nil) λ_ _=>rfl)
theorem Gm:bQ X (inplaceOp .BitXor) (ix λi j=>.int (oW i j)):=nQ (mO XI (λ_ _ _ _=>.int .nil) λ_ _=>rfl)
theorem bQ5:cN X (inplaceOp .Mult) (rI IntMulOk λi j=>.int (i*j)):=uq λ_ _ _ _ _ _ _ hc q=>imul_int q hc
theorem cw9:bQ X (inplaceOp .Mult) (iI IntMulOk λi j=>.int (i*j)):=yl (va bQ5 (λ_ _ _ _=>.int .nil) λ_ _=>rfl)
noncomputable def vm:cW:=ix λi j=>.bl (decide (i<j))
noncomputable def vn:cW:=ix λi j=>.bl (decide (i<=j))
noncomputable def vo:cW:=ix λi j=>.bl (decide (j<i))
noncomputable def vp:cW:=ix λi j=>.bl (decide (j<=i))
theorem vq:bQ X (compareOp .Lt) vm:=nQ (mO MH (λ_ _ _ _=>.bl .nil) λ_ _=>rfl)
theorem p5:bQ X (compareOp .LtE) vn:=nQ (mO XM (λ_ _ _ _=>.bl .nil) λ_ _=>rfl)
theorem yp:bQ X (compareOp .Gt) vo:=nQ (mO MI (λ_ _ _ _=>.bl .nil) λ_ _=>rfl)
theorem cJ9:bQ X (compareOp .GtE) vp:=nQ (mO XN (λ_ _ _ _=>.bl .nil) λ_ _=>rfl)
noncomputable def p7:D->Bool
 | .aq=>true
 | _=>false
noncomputable def sg:cW:=λx y Q=>match y with
 | .aq=>Q (.bl (!p7 x))
 | _=>False
theorem ch4{d:D}(s:S F H [d] [v]):decide (v=.aq)=p7 d:=by cases s<;>simp[p7]
theorem cB8:bQ X (compareOp .IsNot) sg:=⟨_,XO,λ{B F H σ δ ts x y v w Q Qd} c sx sy h k=>by
 unfold sg at h
 split at h
 ·cases sy
  refine⟨rfl,?_⟩
  rw[ch4 sx]
  exact k _ _ _ h (af.refl _) (c.pushS (.bl .nil) rfl)
 ·exact h.elim⟩
noncomputable def bI:D->D->Bool
 | .aq,.aq=>true
 | .bl a,.bl b=>a==b
 | .bl a,.int b=>(if a then 1 else 0)==b
 | .int a,.bl b=>a==(if b then 1 else 0)
 | .int a,.int b=>a==b
 | .str a,.str b=>a==b
 | .lst _ xs,.lst _ ys=>gh xs ys
 | .tup xs,.tup ys=>gh xs ys
 | _,_=>false
where gh:List D->List D->Bool
 | [],[]=>true
 | x::xs,y::ys=>bI x y&&gh xs ys
 | _,_=>false
noncomputable def eo:Nat->D->Bool
 | _,.aq=>true
 | _,.bl _=>true
 | _,.int _=>true
 | _,.str _=>true
 | n+1,.lst _ xs=>xs.all (eo n)
 | n+1,.tup xs=>xs.all (eo n)
 | _,_=>false
theorem Gp:∀(xs ys:List D),xs.length=ys.length->bI.gh xs ys=(aM xs.length).all λj=>bI (xs.getD j .aq) (ys.getD j .aq)
 | [],[],_=>rfl
 | x::xs,y::ys,h=>by
  rw[gJ,LQ,dB,pk]
  show(bI x y&&bI.gh xs ys)=_
  rw[Gp xs ys (by simpa using h)]
  rfl
theorem Gq:∀(xs ys:List D),xs.length≠ys.length->bI.gh xs ys=false
 | [],[],h=>absurd rfl h
 | [],_::_,_=>rfl
 | _::_,[],_=>rfl
 | x::xs,y::ys,h=>by
  show(bI x y&&bI.gh xs ys)=false
  rw[Gq xs ys (by simpa using h),LB]
noncomputable def ofV:V->D
 | .bl b=>.bl b
 | .int i=>.int i
 | .str z=>.str z
 | _=>.aq
theorem yq{x:D}{v:V}(h:eo 0 x=true)(s:S F H [x] [v]):x=ofV v:=by
 cases s with
 | aq _=>rfl
 | bl _=>rfl
 | int _=>rfl
 | str _=>rfl
 | _=>cases h
theorem Ov{x:D}(h:eo 0 x=true):bI x x=true:=by
 cases x with
 | aq=>rfl
 | bl b=>exact beq_self_eq_true b
 | int i=>exact beq_self_eq_true i
 | str z=>exact beq_self_eq_true z
 | _=>cases h
theorem p8{n:Nat}{x:D}(h:eo (n+1) x=true):eo 0 x=true\/(∃o xs,x=.lst o xs/\xs.all (eo n)=true)\/∃xs,x=.tup xs/\xs.all (eo n)=true:=by
 cases x with
 | lst o xs=>exact .inr (.inl ⟨o,xs,rfl,h⟩)
 | tup xs=>exact .inr (.inr ⟨xs,rfl,h⟩)
 | obj _ _ _=>exact absurd h iH
 | fz _=>exact absurd h iH
 | bz _=>exact absurd h iH
 | _=>exact .inl rfl
theorem BO{x:D}{p:Addr}(h:eo 0 x=true)(s:S F H [x] [.ref p]):False:=by
 rw[yq h s]at s
 cases s
theorem Ow:∀(n:Nat) {xs ys:List D} {vs:List V},xs.all (eo n)=true->ys.all (eo n)=true->S F H xs vs->S F H ys vs->af F H->bI.gh xs ys=true:=by
 intro n xs
 induction n generalizing xs with
 | zero =>
  induction xs with
  | nil=>intro ys vs _ _ s1 s2 _;cases s1;cases s2;rfl
  | cons x xs ih =>
   intro ys vs h1 h2 s1 s2 e
   obtain⟨v,b9,rfl,q1,r1⟩:=s1.dj
   cases ys with
   | nil=>cases s2
   | cons y ys =>
    obtain⟨v',FW,ee,q2,r2⟩:=s2.dj
    obtain⟨rfl,rfl⟩:=nj ee
    rw[dB,eV]at h1 h2
    show(bI x y&&bI.gh xs ys)=true
    rw[ih h1.2 h2.2 r1 r2 e,nk,yq h2.1 q2,<- yq h1.1 q1]
    exact Ov h1.1
 | succ n Ox =>
  induction xs with
  | nil=>intro ys vs _ _ s1 s2 _;cases s1;cases s2;rfl
  | cons x xs ih =>
   intro ys vs h1 h2 s1 s2 e
   obtain⟨v,b9,rfl,q1,r1⟩:=s1.dj
   cases ys with
   | nil=>cases s2
   | cons y ys =>
    obtain⟨v',FW,ee,q2,r2⟩:=s2.dj
    obtain⟨rfl,rfl⟩:=nj ee
    rw[dB,eV]at h1 h2
    show(bI x y&&bI.gh xs ys)=true
    rw[ih h1.2 h2.2 r1 r2 e,nk]
    have h1:=h1.1
    have h2:=h2.1
    clear ih r1 r2 s1 s2
    rcases p8 h1 with k1 | ⟨o1,a1,rfl,k1⟩ | ⟨a1,rfl,k1⟩
    ·rcases p8 h2 with k2 | ⟨o2,a2,rfl,k2⟩ | ⟨a2,rfl,k2⟩
     ·rw[yq k2 q2,<- yq k1 q1]
      exact Ov k1
     ·obtain⟨p,ws,rfl,_⟩:=iw q2 e
      exact(BO k1 q1).elim
     ·obtain⟨p,ws,rfl,_⟩:=lN q2
      exact(BO k1 q1).elim
    ·obtain⟨p,ws,rfl,e1,t1⟩:=iw q1 e
     rcases p8 h2 with k2 | ⟨o2,a2,rfl,k2⟩ | ⟨a2,rfl,k2⟩
     ·exact(BO k2 q2).elim
     ·obtain⟨p2,Gr,ev,e2,t2⟩:=iw q2 e
      cases ev
      cases e1.symm.trans e2
      exact Ox k1 k2 t1 t2 e
     ·obtain⟨p2,Gr,ev,e2,t2⟩:=lN q2
      cases ev
      cases e1.symm.trans e2
    ·obtain⟨p,ws,rfl,e1,t1⟩:=lN q1
     rcases p8 h2 with k2 | ⟨o2,a2,rfl,k2⟩ | ⟨a2,rfl,k2⟩
     ·exact(BO k2 q2).elim
     ·obtain⟨p2,Gr,ev,e2,t2⟩:=iw q2 e
      cases ev
      cases e1.symm.trans e2
     ·obtain⟨p2,Gr,ev,e2,t2⟩:=lN q2
      cases ev
      cases e1.symm.trans e2
      exact Ox k1 k2 t1 t2 e
end
end L3
namespace L3
open PySem L2 PySem.Spec PyProof.Rows
structure Oy(A:Around)(s:Shared)(u w:Value)(b:Bool):Prop where
 rc:SeqAt.RcAt A s u w b
 ne:SeqAt.RcNeAt A s u w (!b)
 eq:El A s u w b
section
variable{X:Cx}{F H:Hp}{v w:V}
theorem Oz{xs:List V}{us:List Value}(r:Vals xs us){j:Nat}(h:j<us.toArray.size):∃x,xs[j]?=some x/\RelV x us.toArray[j]:=by
 have l:=r.length
 have hj:j<xs.length:=by rw[l];simpa using h
 obtain⟨u,e,q⟩:=r.get (aQ hj)
 obtain⟨_,z⟩:=ke.mp e
 refine⟨_,aQ hj,?_⟩
 have:us.toArray[j]=u:=by simpa using z
 rw[this];exact q
theorem OA{xs:List D}{j:Nat}{d:D}(h:xs[j]?=some d):xs.getD j .aq=d:=by rw[aJ,h];rfl
theorem vt{x:D}{v:V}{u:Value}(h:eo 0 x=true)(s:S F H [x] [v])(r:RelV v u):(x=.aq/\u=.none)\/(∃b,x=.bl b/\u=.bool b)\/(∃i t,x=.int i/\u=.int i t)\/∃z t,x=.str z/\u=.str z t:=by
 cases s with
 | aq _=>cases r;exact .inl ⟨rfl,rfl⟩
 | bl _=>cases r;exact .inr (.inl ⟨_,rfl,rfl⟩)
 | int _=>obtain⟨t,rfl⟩:=r;exact .inr (.inr (.inl ⟨_,t,rfl,rfl⟩))
 | str _=>obtain⟨t,rfl⟩:=r;exact .inr (.inr (.inr ⟨_,t,rfl,rfl⟩))
 | _=>exact absurd h iH
theorem OB{x y:D}{u u':Value}{A:Around}{s:Shared}(h1:(x=.aq/\u=.none)\/(∃b,x=.bl b/\u=.bool b)\/(∃i t,x=.int i/\u=.int i t)\/∃z t,x=.str z/\u=.str z t)(h2:(y=.aq/\u'=.none)\/(∃b,y=.bl b/\u'=.bool b)\/(∃i t,y=.int i/\u'=.int i t)\/∃z t,y=.str z/\u'=.str z t):Oy A s u u' (bI x y):=by
 rcases h1 with⟨rfl,rfl⟩ | ⟨a,rfl,rfl⟩ | ⟨a,t,rfl,rfl⟩ | ⟨a,t,rfl,rfl⟩<;>rcases h2 with⟨rfl,rfl⟩ | ⟨b,rfl,rfl⟩ | ⟨b,t',rfl,rfl⟩ | ⟨b,t',rfl,rfl⟩
 ·exact⟨.none_none,.none_none,.same _⟩
 ·exact⟨.none_bool _,.none_bool _,.none_bool _⟩
 ·exact⟨.none_int _ _,.none_int _ _,.none_int _ _⟩
 ·exact⟨.none_str _ _,.none_str _ _,.none_str _ _⟩
 ·exact⟨.bool_none _,.bool_none _,.bool_none _⟩
 ·exact⟨.bool_bool _ _,.bool_bool _ _,.bool_bool _ _⟩
 ·exact⟨.bool_int _ _ _,.bool_int _ _ _,.bool_int _ _ _⟩
 ·exact⟨.bool_str _ _ _,.bool_str _ _ _,.bool_str _ _ _⟩
 ·exact⟨.int_none _ _,.int_none _ _,.int_none _ _⟩
 ·exact⟨.int_bool _ _ _,.int_bool _ _ _,.int_bool _ _ _⟩
 ·exact⟨.int_int _ _ _ _,.int_int _ _ _ _,.int_int _ _ _ _⟩
 ·exact⟨.int_str _ _ _ _,.int_str _ _ _ _,.int_str _ _ _ _⟩
 ·exact⟨.str_none _ _,.str_none _ _,.str_none _ _⟩
 ·exact⟨.str_bool _ _ _,.str_bool _ _ _,.str_bool _ _ _⟩
 ·exact⟨.str_int _ _ _ _,.str_int _ _ _ _,.str_int _ _ _ _⟩
 ·exact⟨.str_str _ _ _ _,.str_str _ _ _ _,.str_str _ _ _ _⟩
theorem OC{pins:List (Addr × Obj)}{σ:L2.St}{s:Shared}(I:Inv X pins σ H s)(e:af F H):∀(n:Nat) (x y:D) (v w:V) (u u':Value) (A:Around),eo n x=true->eo n y=true->S F H [x] [v]->S F H [y] [w]->RelV v u->RelV w u' ->
  A.units+n<cLine->Oy A s u u' (bI x y):=by
 intro n
 induction n with
 | zero =>
  intro x y v w u u' A hx hy sx sy rv fL hu
  exact OB (vt hx sx rv) (vt hy sy fL)
 | succ n ih =>
  intro x y v w u u' A hx hy sx sy rv fL hu
  have br:A.units<cLine:=ni (Nat.le_add_right ..) hu
  have OD:A.in1.units+n<cLine:=by show A.units+1+n<cLine;rw[LR,Ar 1];exact hu
  have items:∀{xs ys:List D} {vs ws:List V} {us si:List Value},xs.all (eo n)=true->ys.all (eo n)=true->S F H xs vs->S F H ys ws->Vals vs us->Vals ws si ->
    ∀j (h1:j<us.toArray.size) (h2:j<si.toArray.size),El A.in1 s us.toArray[j] si.toArray[j] (bI (xs.getD j .aq) (ys.getD j .aq)):=by
   intro xs ys vs ws us si hx hy sx sy r1 r2 j h1 h2
   obtain⟨a,e1,q1⟩:=Oz r1 h1
   obtain⟨b,e2,q2⟩:=Oz r2 h2
   obtain⟨d1,g1,t1⟩:=sx.get' e1
   obtain⟨d2,g2,t2⟩:=sy.get' e2
   rw[OA g1,OA g2]
   exact(ih d1 d2 a b _ _ A.in1 (de.mp hx d1 (tS g1)) (de.mp hy d2 (tS g2)) t1 t2 q1 q2 OD).eq
  clear ih hu OD
  rcases p8 hx with k1 | ⟨o,xs,rfl,k1⟩ | ⟨xs,rfl,k1⟩
  ·have f:=vt k1 sx rv
   rcases p8 hy with k2 | ⟨o',ys,rfl,k2⟩ | ⟨ys,rfl,k2⟩
   ·exact OB f (vt k2 sy fL)
   ·obtain⟨p',gr,rfl,e2,t2⟩:=iw sy e
    cases fL
    obtain⟨lQ,r2,p2,z2⟩:=I.list (bF.of (K:=X.K) e2)
    have p2:=p2.isList
    rcases f with⟨rfl,rfl⟩ | ⟨a,rfl,rfl⟩ | ⟨a,t,rfl,rfl⟩ | ⟨a,t,rfl,rfl⟩
    ·exact⟨.none_list p2 br,.none_list p2 br,.none_list p2 br⟩
    ·exact⟨.bool_list _ p2 br,.bool_list _ p2 br,.bool_list _ p2 br⟩
    ·exact⟨.int_list _ _ p2 br,.int_list _ _ p2 br,.int_list _ _ p2 br⟩
    ·exact⟨.str_list _ _ p2 br,.str_list _ _ p2 br,.str_list _ _ p2 br⟩
   ·obtain⟨p',gr,rfl,e2,t2⟩:=lN sy
    cases fL
    obtain⟨lQ,r2,p2,z2⟩:=I.tuple (g9.of (K:=X.K) e2)
    rcases f with⟨rfl,rfl⟩ | ⟨a,rfl,rfl⟩ | ⟨a,t,rfl,rfl⟩ | ⟨a,t,rfl,rfl⟩
    ·exact⟨.none_tuple p2 br,.none_tuple p2 br,.none_tuple p2 br⟩
    ·exact⟨.bool_tuple _ p2 br,.bool_tuple _ p2 br,.bool_tuple _ p2 br⟩
    ·exact⟨.int_tuple _ _ p2 br,.int_tuple _ _ p2 br,.int_tuple _ _ p2 br⟩
    ·exact⟨.str_tuple _ _ p2 br,.str_tuple _ _ p2 br,.str_tuple _ _ p2 br⟩
  ·obtain⟨p,ws,rfl,e1,t1⟩:=iw sx e
   cases rv
   obtain⟨its,r1,p1,z1⟩:=I.list (bF.of (K:=X.K) e1)
   have p1:=p1.isList
   rcases p8 hy with k2 | ⟨o',ys,rfl,k2⟩ | ⟨ys,rfl,k2⟩
   ·rcases vt k2 sy fL with⟨rfl,rfl⟩ | ⟨a,rfl,rfl⟩ | ⟨a,t,rfl,rfl⟩ | ⟨a,t,rfl,rfl⟩
    ·exact⟨.list_none p1 br,.list_none p1 br,.list_none p1 br⟩
    ·exact⟨.list_bool _ p1 br,.list_bool _ p1 br,.list_bool _ p1 br⟩
    ·exact⟨.list_int _ _ p1 br,.list_int _ _ p1 br,.list_int _ _ p1 br⟩
    ·exact⟨.list_str _ _ p1 br,.list_str _ _ p1 br,.list_str _ _ p1 br⟩
   ·obtain⟨p',gr,rfl,e2,t2⟩:=iw sy e
    cases fL
    obtain⟨lQ,r2,p2,z2⟩:=I.list (bF.of (K:=X.K) e2)
    have p2:=p2.isList
    have sj:xs.length=its.length:=t1.length.trans r1.length
    have vv:ys.length=lQ.length:=t2.length.trans r2.length
    by_cases hl:xs.length=ys.length
    ·have ky:its.toArray.size=lQ.toArray.size:=by rw[dN,dN,<- sj,<- vv];exact hl
     have ev:(aM its.toArray.size).all (λj=>bI (xs.getD j .aq) (ys.getD j .aq))=bI (.lst o xs) (.lst o' ys):=by
      show _=bI.gh xs ys
      rw[Gp xs ys hl,dN,<- sj]
     have a:=SeqAt.RcAt.lists (e:=λj=>bI (xs.getD j .aq) (ys.getD j .aq)) p1 p2 ky br (items k1 k2 t1 t2 r1 r2)
     have b:=SeqAt.RcNeAt.lists (e:=λj=>bI (xs.getD j .aq) (ys.getD j .aq)) p1 p2 ky br (items k1 k2 t1 t2 r1 r2)
     rw[ev]at a b
     refine⟨a,b,?_⟩
     by_cases sk:p=p'
     ·subst sk
      cases e1.symm.trans e2
      rw[show bI (.lst o xs) (.lst o' ys)=true from Ow n k1 k2 t1 t2 e]
      exact .same _
     ·exact .of_refs sk a
    ·have ky:(its.toArray.size != lQ.toArray.size)=true:=bne_iff_ne.mpr (by rw[dN,dN,<- sj,<- vv];exact hl)
     rw[show bI (.lst o xs) (.lst o' ys)=false from Gq xs ys hl]
     have a:=SeqAt.RcAt.lists_lengths p1 p2 ky br
     refine⟨a,SeqAt.RcNeAt.lists_lengths p1 p2 ky br,.of_refs (λsk=>?_) a⟩
     subst sk
     cases e1.symm.trans e2
     exact hl (t1.length.trans t2.length.symm)
   ·obtain⟨p',gr,rfl,e2,t2⟩:=lN sy
    cases fL
    obtain⟨lQ,r2,p2,z2⟩:=I.tuple (g9.of (K:=X.K) e2)
    exact⟨.list_tuple p1 p2 br,.list_tuple p1 p2 br,.list_tuple p1 p2 br⟩
  ·obtain⟨p,ws,rfl,e1,t1⟩:=lN sx
   cases rv
   obtain⟨its,r1,p1,z1⟩:=I.tuple (g9.of (K:=X.K) e1)
   rcases p8 hy with k2 | ⟨o',ys,rfl,k2⟩ | ⟨ys,rfl,k2⟩
   ·rcases vt k2 sy fL with⟨rfl,rfl⟩ | ⟨a,rfl,rfl⟩ | ⟨a,t,rfl,rfl⟩ | ⟨a,t,rfl,rfl⟩
    ·exact⟨.tuple_none p1 br,.tuple_none p1 br,.tuple_none p1 br⟩
    ·exact⟨.tuple_bool _ p1 br,.tuple_bool _ p1 br,.tuple_bool _ p1 br⟩
    ·exact⟨.tuple_int _ _ p1 br,.tuple_int _ _ p1 br,.tuple_int _ _ p1 br⟩
    ·exact⟨.tuple_str _ _ p1 br,.tuple_str _ _ p1 br,.tuple_str _ _ p1 br⟩
   ·obtain⟨p',gr,rfl,e2,t2⟩:=iw sy e
    cases fL
    obtain⟨lQ,r2,p2,z2⟩:=I.list (bF.of (K:=X.K) e2)
    have p2:=p2.isList
    exact⟨.tuple_list p1 p2 br,.tuple_list p1 p2 br,.tuple_list p1 p2 br⟩
   ·obtain⟨p',gr,rfl,e2,t2⟩:=lN sy
    cases fL
    obtain⟨lQ,r2,p2,z2⟩:=I.tuple (g9.of (K:=X.K) e2)
    have sj:xs.length=its.length:=t1.length.trans r1.length
    have vv:ys.length=lQ.length:=t2.length.trans r2.length
    have ev:((aM (min its.toArray.size lQ.toArray.size)).all (λj=>bI (xs.getD j .aq) (ys.getD j .aq))&&its.toArray.size==lQ.toArray.size)=bI (.tup xs) (.tup ys):=by
     show _=bI.gh xs ys
     rw[dN,dN,<- sj,<- vv]
     by_cases hl:xs.length=ys.length
     ·rw[Gp xs ys hl,<- hl,pq,beq_self_eq_true,nk]
     ·rw[Gq xs ys hl,beq_false_of_ne hl,LB]
    have a:=SeqAt.RcAt.tuples (e:=λj=>bI (xs.getD j .aq) (ys.getD j .aq)) p1 p2 br (items k1 k2 t1 t2 r1 r2)
    have b:=SeqAt.RcNeAt.tuples (e:=λj=>bI (xs.getD j .aq) (ys.getD j .aq)) p1 p2 br (items k1 k2 t1 t2 r1 r2)
    rw[ev]at a b
    refine⟨a,b,?_⟩
    by_cases sk:p=p'
    ·subst sk
     cases e1.symm.trans e2
     rw[show bI (.tup xs) (.tup ys)=true from Ow n k1 k2 t1 t2 e]
     exact .same _
    ·exact .of_refs sk a
noncomputable def vw:cW:=λx y Q=>(eo 6 x=true/\eo 6 y=true)/\Q (.bl (bI x y))
noncomputable def vx:cW:=λx y Q=>(eo 6 x=true/\eo 6 y=true)/\Q (.bl (!bI x y))
theorem fS(hu:X.A.units+6<cLine):bQ X (compareOp .Eq) vw:=bQ.of λpins s σ H v w u u' Q I rv fL zz=>by
 obtain⟨B,F,aC,δ,ts,x,y,Qd,c,sx,sy,⟨⟨hx,hy⟩,q⟩,k⟩:=zz
 exact(OC I c.ext 6 x y v w u u' X.A hx hy sx sy rv fL hu).rc _ _ _ _ ⟨.bl _,H,I,rfl,k _ _ _ q (af.refl _) (c.pushS (.bl .nil) rfl)⟩
theorem mQ(hu:X.A.units+6<cLine):bQ X (compareOp .NotEq) vx:=bQ.of λpins s σ H v w u u' Q I rv fL zz=>by
 obtain⟨B,F,aC,δ,ts,x,y,Qd,c,sx,sy,⟨⟨hx,hy⟩,q⟩,k⟩:=zz
 exact(OC I c.ext 6 x y v w u u' X.A hx hy sx sy rv fL hu).ne _ _ _ _ ⟨.bl _,H,I,rfl,k _ _ _ q (af.refl _) (c.pushS (.bl .nil) rfl)⟩
end
end L3
namespace L3
open PySem L2 PySem.Spec PyProof.Rows
section
variable{X:Cx}{F H:Hp}{v w:V}{e a b c o:Expr}{es:List Expr}{pos p p2 apos bE:Pos}{t ta tb tc te:aI}{tr:cE}{x:Str}
theorem bT8{r r':R2}{rd yr:cW}(hl:BI r rd)(pG:BI r' yr):∀σ H Q,lE (rO rd yr ta tb tc) σ H Q->MK r r' (lB ta) (lB tb) (lB tc) σ H Q:=λσ H Q ⟨B,F,δ,ts,Qd,c,q,k⟩ =>
 ⟨B,F,δ,ts,_,c,q,λx ai v F1 H1 q1 f1 h1 c1 s1=>⟨B,F1,ai,ts,_,c1,q1,λy aR w F2 H2 q2 f2 h2 c2 s2=>by
  refine hl c2 (s1.mono f2 h2) s2 q2 λd z H' hd hs c3=>?_
  obtain⟨b,rfl,qb⟩:=hd
  have st:=c3.top
  cases st with
  | bl _ =>
   refine⟨b,rfl,?_⟩
   cases b with
   | true =>
    refine pM ⟨B,F2,aR,ts,_,c3.pop,by simpa using qb,λz iS w3 F3 H3 q3 f3 h3 c4 s3=>?_⟩
    exact pG c4 (s2.mono f3 (hs.trans h3)) s3 q3 λd z H' hd hs' c5=>k d iS z F3 H' hd ((f1.trans f2).trans f3) ((((h1.trans h2).trans hs).trans h3).trans hs') c5
   | false=>exact jm (k _ aR _ F2 H' (by simpa using qb) (f1.trans f2) ((h1.trans h2).trans hs) (c3.pop.pushS (.bl .nil) rfl))⟩⟩
theorem Gu{op rh:CmpOp}{rd yr:cW}(ho:bQ X (compareOp op) rd)(lu:bQ X (compareOp rh) yr)(ha:PE X a (lB ta))(hb:PE X b (lB tb))(hc:PE X c (lB tc))
  (hm:lastMarks [op,rh] [b,c]=false:=by with_unfolding_all rfl):PE X (.Compare a [op,rh] [b,c] pos) (lE (rO rd yr ta tb tc)):=by
 obtain⟨r,h1,h2⟩:=ho
 obtain⟨r',kB,jR⟩:=lu
 exact dq (XR h1 kB ha hb hc hm) (bT8 h2 jR)
noncomputable def yt(t:aI):aI:=λδ Q=>t δ λd ah=>match d with
 | .int i=>Q (.int (-i)) ah
 | _=>False
noncomputable abbrev jV:=List D->(D->Prop)->Prop
noncomputable def lc(rd:jV):List V->Hp->VK->Prop:=λvs H Q=>∃B F σ δ ts ds Qd,ak B F H σ δ ts/\S F H ds vs/\rd ds Qd/\∀d z H',Qd d->af H H'->ak B F H' σ δ ((d,z)::ts)->Q z H'
noncomputable def jv(X:Cx)(f:Value)(rd:jV):Prop:=hJ X f (lc rd)
theorem jv.of{f:Value}{r:List V->Hp->VK->Prop}{rd:jV}(h:hJ X f r)(m:∀vs H Q,lc rd vs H Q->r vs H Q):jv X f rd:=λpins s σ H xs us Q I r q=>h pins s σ H xs us Q I r (m xs H Q q)
noncomputable def p9(rd:jV)(t:cE):aI:=λδ Q=>t δ λds ah=>rd ds λd=>Q d ah
theorem OE{rd:jV}:∀σ H Q,lE (p9 rd tr) σ H Q->Fg (lc rd) (lA tr) σ H Q:=λσ H Q zq=>by
 obtain⟨B,F,δ,ts,Qd,c,q,k⟩:=zq
 exact⟨B,F,δ,ts,_,c,q,λds ai vs F1 H1 q1 f1 h1 c1 s1 =>
 ⟨B,F1,σ,ai,ts,ds,_,c1,s1,q1,λd z H' hd hs c'=>k d ai z F1 H' hd f1 (h1.trans hs) c'⟩⟩
theorem fU{id:String}{rd:jV}(hc:jv X (.builtin id) rd)(hg:Gl X x)(hm:X.mg x=none)(hv:bootBuiltins x=some (.builtin id))(ha:PA X (e::es) (lA tr))(hn:x≠"__name__":=by decide)(dh:(x==("__debug__":Str))=false:=by decide)
  (he:starEach (e::es) X.env=(false,eval e X.env)::starEach es X.env:=by rfl) (bw:(backTo pos (starEach es X.env)).any (·.1)=false:=by rfl):PE X (.Call (.Name x p) (e::es) [] pos) (lE (p9 rd tr)) :=
 dq (Bu hc hg hm hv ha hn dh he bw) OE
theorem Gv{T:String}{rd:jV}(hc:jv X (.type T) rd)(hg:Gl X x)(hm:X.mg x=none)(hv:bootBuiltins x=some (.type T))(ha:PA X (e::es) (lA tr))(hn:x≠"__name__":=by decide)(dh:(x==("__debug__":Str))=false:=by decide)
  (he:starEach (e::es) X.env=(false,eval e X.env)::starEach es X.env:=by rfl) (bw:(backTo pos (starEach es X.env)).any (·.1)=false:=by rfl):PE X (.Call (.Name x p) (e::es) [] pos) (lE (p9 rd tr)) :=
 dq (Yq hc hg hm hv ha hn dh he bw) OE
theorem lU{d:D}{vs:List V}(s:S F H [d] vs):∃v,vs=[v]/\S F H [d] [v]:=by
 obtain⟨v,b9,rfl,h1,h2⟩:=s.dj
 cases h2
 exact⟨v,rfl,h1⟩
theorem kF{K:PySem.W.Frag}{p:Addr}{ws:List V}(h:Rd H p (.lst ws)):bF K H p ws:=.inl h
noncomputable def sq:jV:=λds Q=>match ds with
 | [.lst _ xs]=>Q (.int xs.length)
 | [.fz xs]=>Q (.int xs.length)
 | [.tup xs]=>Q (.int xs.length)
 | [.str z]=>z.length<=sizeLine/\Q (.int z.length)
 | _=>False
theorem iU:jv X (.builtin "len") sq:=jv.of (M7.or YO) λvs H Q zz=>by
 obtain⟨B,F,σ,δ,ts,ds,Qd,c,s,q,k⟩:=zz
 unfold sq at q
 split at q
 ·obtain⟨v,rfl,s1⟩:=lU s
  obtain⟨p,ws,rfl,h,t⟩:=mP s1 c.ext rfl
  refine .inl ⟨p,ws,rfl,.inl (kF h),?_⟩
  rw[<-t.length]
  exact k _ _ _ q (af.refl _) (c.pushS (.int .nil) rfl)
 ·obtain⟨v,rfl,s1⟩:=lU s
  obtain⟨p,ws,rfl,h,t⟩:=mP s1 c.ext rfl
  refine .inl ⟨p,ws,rfl,.inl (kF h),?_⟩
  rw[<-t.length]
  exact k _ _ _ q (af.refl _) (c.pushS (.int .nil) rfl)
 ·obtain⟨v,rfl,s1⟩:=lU s
  obtain⟨p,ws,rfl,h,t⟩:=lN s1
  refine .inl ⟨p,ws,rfl,.inr (g9.of h),?_⟩
  rw[<-t.length]
  exact k _ _ _ q (af.refl _) (c.pushS (.int .nil) rfl)
 ·obtain⟨v,rfl,s1⟩:=lU s
  cases s1
  exact .inr ⟨_,rfl,q.1,k _ _ _ q.2 (af.refl _) (c.pushS (.int .nil) rfl)⟩
 ·exact q.elim
noncomputable def sr:jV:=λds Q=>match ds with
 | [.lst _ xs]=>xs.all D.pl=true/\Q (.lst true xs)
 | [.fz xs]=>Q (.lst true xs)
 | [.tup xs]=>xs.all D.pl=true/\Q (.lst true xs)
 | _=>False
theorem ct0:jv X (.type "list") sr:=jv.of YQ λvs H Q zz=>by
 obtain⟨B,F,σ,δ,ts,ds,Qd,c,s,q,k⟩:=zz
 unfold sr at q
 split at q
 ·obtain⟨v,rfl,s1⟩:=lU s
  obtain⟨p,ws,rfl,h,t⟩:=mP s1 c.ext rfl
  exact⟨p,ws,rfl,.inl (kF h),λl hl=>k _ _ _ q.2 (af.upd hl) (c.pV hl t q.1)⟩
 ·obtain⟨v,rfl,s1⟩:=lU s
  cases s1 with
  | fz h r _=>exact⟨_,_,rfl,.inl (kF (.inr ⟨_,c.ext _ _ h⟩)),λl hl=>k _ _ _ q (af.upd hl) (c.pV hl r.s r.pl)⟩
 ·obtain⟨v,rfl,s1⟩:=lU s
  obtain⟨p,ws,rfl,h,t⟩:=lN s1
  exact⟨p,ws,rfl,.inr (g9.of h),λl hl=>k _ _ _ q.2 (af.upd hl) (c.pV hl t q.1)⟩
 ·exact q.elim
noncomputable def nR(bs:List Bool):List D:=bs.map D.bl
theorem Gw:∀{bs:List Bool} {ws:List V},S F H (nR bs) ws->ws=bs.map V.bl
 | [],_,s=>by cases s;rfl
 | b::bs,_,s=>by
  cases s with
  | bl s=>rw[Gw s];rfl
noncomputable def su:jV:=λds Q=>match ds with
 | [.lst _ xs]=>∃bs,xs=nR bs/\Q (.bl (bs.all id))
 | _=>False
noncomputable def sA:jV:=λds Q=>match ds with
 | [.lst _ xs]=>∃bs,xs=nR bs/\Q (.bl (bs.any id))
 | _=>False
theorem yu(hc:X.calm=true):jv X (.builtin "all") su:=jv.of (ZM hc) λvs H Q zz=>by
 obtain⟨B,F,σ,δ,ts,ds,Qd,c,s,q,k⟩:=zz
 unfold su at q
 split at q
 ·obtain⟨v,rfl,s1⟩:=lU s
  obtain⟨bs,rfl,q⟩:=q
  obtain⟨p,ws,rfl,h,t⟩:=mP s1 c.ext rfl
  rw[Gw t]at h
  exact⟨p,bs,rfl,kF h,k _ _ _ q (af.refl _) (c.pushS (.bl .nil) rfl)⟩
 ·exact q.elim
theorem cC6(hc:X.calm=true):jv X (.builtin "any") sA:=jv.of (ZN hc) λvs H Q zz=>by
 obtain⟨B,F,σ,δ,ts,ds,Qd,c,s,q,k⟩:=zz
 unfold sA at q
 split at q
 ·obtain⟨v,rfl,s1⟩:=lU s
  obtain⟨bs,rfl,q⟩:=q
  obtain⟨p,ws,rfl,h,t⟩:=mP s1 c.ext rfl
  rw[Gw t]at h
  exact⟨p,bs,rfl,kF h,k _ _ _ q (af.refl _) (c.pushS (.bl .nil) rfl)⟩
 ·exact q.elim
noncomputable def BP:D->Option String
 | .int _=>some "int"
 | .bl _=>some "bool"
 | .aq=>some "NoneType"
 | .str _=>some "str"
 | .lst _ _=>some "list"
 | .fz _=>some "list"
 | .tup _=>some "tuple"
 | _=>none
noncomputable def Gx(k n:String):Option Bool:=([("int","int",true),("int","bool",false),("int","list",false),("int","tuple",false),("int","str",false),("bool","int",true),("bool","bool",true),("bool","list",false),("bool","tuple",false),("bool","str",false),
 ("NoneType","int",false),("NoneType","bool",false),("NoneType","list",false),("NoneType","tuple",false),("NoneType","str",false),("str","int",false),("str","bool",false),("str","list",false),("str","tuple",false),("str","str",true),
 ("list","int",false),("list","bool",false),("list","list",true),("list","tuple",false),("list","str",false),("tuple","int",false),("tuple","bool",false),("tuple","list",false),("tuple","tuple",true),("tuple","str",false)].find? λz=>z.1==k&&z.2.1==n).map (·.2.2)
noncomputable def mR(n:String)(d:D):Option Bool:=(BP d).bind λk=>Gx k n
theorem cs8{K:PySem.W.Frag}{k n:String}{r:Bool}(h:Gx k n=some r):PySem.W.kitOne K (.type k) (.type n)=some r:=by
 unfold Gx at h
 obtain⟨z,hz,rfl⟩:=EA.mp h
 have hm:=LS hz
 have hp:=List.find?_some hz
 rw[eV,beq_iff_eq,beq_iff_eq]at hp
 obtain⟨rfl,rfl⟩:=hp
 simp only[cL,i5,or_false]at hm
 repeat' (rcases hm with hm | hm)
 all_goals rfl
theorem nS{K:PySem.W.Frag}{d:D}(s:S F H [d] [v])(e:af F H){k:String}(h:BP d=some k):ia K H v (.type k):=by
 cases s with
 | int _=>cases h;exact .int _
 | bl _=>cases h;exact .bl _
 | aq _=>cases h;exact .aq
 | str _=>cases h;exact .str _
 | shr h' _ _=>cases h;exact .lst (e _ _ h')
 | own h' _ _=>cases h;exact .lst h'
 | fz h' _ _=>cases h;exact .bu (e _ _ h')
 | tup h' _ _=>cases h;exact .tup h'
 | obj _ _ _ _=>cases h
 | bz _ _=>cases h
theorem cE0{K:PySem.W.Frag}{d:D}(s:S F H [d] [v])(e:af F H){n:String}{r:Bool}(h:mR n d=some r):∃t,ia K H v t/\PySem.W.kitOne K t (.type n)=some r:=by
 unfold mR at h
 cases hk:BP d with
 | none=>rw[hk]at h;cases h
 | some k=>rw[hk]at h;exact⟨_,nS s e hk,cs8 h⟩
noncomputable def vy(n:String)(t:aI):aI:=λδ Q=>t δ λd ah=>∃r,mR n d=some r/\Q (.bl r) ah
theorem yv{n:String}{y:Str}{q:Pos}(hg:Gl X "isinstance")(hm:X.mg "isinstance"=none)(yw:Gl X y)(qa:X.mg y=none)(Gz:bootBuiltins y=some (.type n))(ha:PE X a (lB ta))
  (hn:y≠"__name__":=by decide) (hd:(y==("__debug__":Str))=false:=by decide)
  (hs:starEach [a,.Name y q] X.env=(false,eval a X.env)::starEach [.Name y q] X.env:=by rfl) (eK:starEach [.Name y q] X.env=(false,eval (.Name y q) X.env)::starEach [] X.env:=by rfl) (bw:(backTo pos (starEach [.Name y q] X.env)).any (·.1)=false:=by rfl) :
  PE X (.Call (.Name "isinstance" p) [a,.Name y q] [] pos) (lE (vy n ta)) :=
 dq (Bu ZC hg hm NH (b8 ha (b8 (NO yw qa Gz hn hd) eX eK) hs) (by decide) (by decide) hs bw) λσ H Q zq=>by
 obtain⟨B,F,δ,ts,Qd,c,q,k⟩:=zq
 exact⟨B,F,δ,ts,_,c,q,λd ai v F1 H1 q1 f1 h1 c1 s1=>by
  obtain⟨r,e,qr⟩:=q1
  obtain⟨t,h2,h3⟩:=cE0 (K:=X.K) s1 c1.ext e
  exact⟨v,n,t,r,rfl,h2,h3,k _ ai _ F1 H1 qr f1 h1 (c1.pushS (.bl .nil) rfl)⟩⟩
theorem GA{xs:List D}{ws:List V}{i:Int}{d:D}(s:S F H xs ws)(h:fq xs i=some d):∃v,fq ws i=some v/\S F H [d] [v]:=by
 unfold fq at h ⊢
 rw[<-s.length]
 cases e:jl xs.length i with
 | none=>rw[e]at h;cases h
 | some j =>
  rw[e]at h
  exact s.get h
noncomputable def sC(x y:D)(Q:D->Prop):Prop:=match x,y with
 | .lst _ xs,.int i=>∃d,fq xs i=some d/\Q d
 | .fz xs,.int i=>∃d,fq xs i=some d/\Q d
 | .tup xs,.int i=>∃d,fq xs i=some d/\Q d
 | .str z,.int i=>z.length<=sizeLine/\∃ch,fq z.cps.toList i=some ch/\Q (.str ⟨#[ch]⟩)
 | _,_=>False
noncomputable def vz(ta tb:aI):aI:=λδ Q=>ta δ λx ai=>tb ai λy aR=>sC x y λd=>Q d aR
theorem bB(ha:PE X a (lB ta))(hb:PE X b (lB tb))(hs:M0 b):PE X (.Subscript a b pos) (lB (vz ta tb)) :=
 dq (Yz YE ha hb hs) λσ H Q zq=>by
 obtain⟨B,F,δ,ts,Qd,c,q,k⟩:=zq
 exact⟨B,F,δ,ts,_,c,q,λx ai v F1 H1 q1 f1 h1 c1 s1=>⟨B,F1,ai,ts,_,c1,q1,λy aR w F2 H2 q2 f2 h2 c2 s2=>by
  have nU:=s1.mono f2 h2
  have fin:∀d z,Qd d aR->S F2 H2 [d] [z]->Q z H2:=λd z hd s=>k d aR z F2 H2 hd (f1.trans f2) (h1.trans h2) c2 s
  unfold sC at q2
  split at q2
  ·obtain⟨d,ed,qd⟩:=q2
   cases s2
   obtain⟨p,ws,rfl,h,t⟩:=mP nU c2.ext rfl
   obtain⟨z,ez,sz⟩:=GA t ed
   exact .inl ⟨p,ws,_,z,rfl,rfl,kF h,ez,fin d z qd sz⟩
  ·obtain⟨d,ed,qd⟩:=q2
   cases s2
   obtain⟨p,ws,rfl,h,t⟩:=mP nU c2.ext rfl
   obtain⟨z,ez,sz⟩:=GA t ed
   exact .inl ⟨p,ws,_,z,rfl,rfl,kF h,ez,fin d z qd sz⟩
  ·obtain⟨d,ed,qd⟩:=q2
   cases s2
   obtain⟨p,ws,rfl,h,t⟩:=lN nU
   obtain⟨z,ez,sz⟩:=GA t ed
   exact .inr (.inl ⟨p,ws,_,z,rfl,rfl,g9.of h,ez,fin d z qd sz⟩)
  ·obtain⟨hz,ch,ec,qc⟩:=q2
   cases nU
   cases s2
   exact .inr (.inr ⟨_,_,ch,rfl,rfl,hz,ec,fin _ _ qc (.str .nil)⟩)
  ·exact q2.elim⟩⟩
noncomputable abbrev vA:=Dl->(Option Int->Dl->Prop)->Prop
noncomputable def lP(t:vA):TO:=λσ H Q=>∃B F δ ts Qd,ak B F H σ δ ts/\t δ Qd/\∀o ah F' H',Qd o ah->af F F'->af H H'->ak B F' H' σ ah ts->Q o H'
theorem OF{oe:Option Expr}{u u':TO}(h:PO X oe u)(m:∀σ H Q,u' σ H Q->u σ H Q):PO X oe u':=λpins s σ H Q I q=>h pins s σ H Q I (m σ H Q q)
noncomputable def vB:vA:=λδ Q=>Q none δ
noncomputable def vC(t:aI):vA:=λδ Q=>t δ λd ah=>match d with
 | .int i=>Q (some i) ah
 | _=>False
theorem sD:PO X none (lP vB):=OF Yu λσ H Q ⟨B,F,δ,ts,Qd,c,q,k⟩=>k none δ F H q (af.refl _) (af.refl _) c
theorem sE(h:PE X e (lB t)):PO X (some e) (lP (vC t)):=OF (Yv h) λσ H Q zq=>by
 obtain⟨B,F,δ,ts,Qd,c,q,k⟩:=zq
 exact⟨B,F,δ,ts,_,c,q,λd ai v F1 H1 q1 f1 h1 c1 s1=>by
 cases s1 with
 | int _=>exact⟨_,rfl,k _ ai F1 H1 q1 f1 h1 c1⟩
 | _=>exact q1.elim⟩
noncomputable def fV{α:Type}(xs:List α)(lo hi:Option Int):List α:=(xs.drop (HT.di xs.length 0 lo)).take (HT.di xs.length xs.length hi-HT.di xs.length 0 lo)
theorem S.cut{xs:List D}{ws:List V}(s:S F H xs ws)(lo hi:Option Int):S F H (fV xs lo hi) (uw ws lo hi):=by
 unfold fV uw
 rw[<-s.length]
 exact(s.drop _).take _
theorem OG{xs:List D}{p:D->Bool}(h:xs.all p=true)(lo hi:Option Int):(fV xs lo hi).all p=true:=by
 rw[de]at h ⊢
 intro x hx
 exact h x (pz (tX hx))
noncomputable def vD(t:aI):aI:=λδ Q=>t δ λd ah=>match d with
 | .int i=>Q (.int (Mf.bl i.natAbs:Nat)) ah
 | _=>False
theorem nV(ho:PE X o (lB t))(jP:attributeBase o "bit_length" X.env (eval o X.env)=eval o X.env:=by rfl)(jQ:(apos.endLine==bE.line)=true:=by rfl):PE X (.Call (.Attribute o "bit_length" apos) [] [] bE) (lE (vD t)) :=
 dq (FD ho jP jQ) λσ H Q zq=>by
 obtain⟨B,F,δ,ts,Qd,c,q,k⟩:=zq
 exact⟨B,F,δ,ts,_,c,q,λd ai v F1 H1 q1 f1 h1 c1 s1=>by
  cases s1 with
  | int _=>exact⟨rfl,_,rfl,rfl,k _ ai _ F1 H1 q1 f1 h1 (c1.pushS (.int .nil) rfl)⟩
  | _=>exact q1.elim⟩
end
end L3
namespace L3
open PySem L2 PySem.Spec PyProof.Rows
section
variable{X:Cx}{F H:Hp}{v w:V}{e a b c o tg:Expr}{es:List Expr}{pos p p2 apos bE pos':Pos}{t ta tb tc te ti:aI}{tr:cE}{x:Str}{i:Nat}
noncomputable def vE(i:Nat)(t:aI):cF:=λD δ=>(∃xs,δ[i]?=some (some (.lst true xs)))/\t δ λd ah=>∃xs,ah[i]?=some (some (.lst true xs))/\xs.length<sizeLine/\D.nx (ah.set i (some (.lst true (xs++[d]))))
theorem qe(hN:X.N[i]?=some x)(hv:lh X.env.scope x)(he:PE X e (lE t))(hd:(x==("__debug__":Str))=false:=by decide)(cM:(x==("__classdict__":Str))=false:=by decide)
  (jP:attributeBase (.Name x p) "append" X.env (eval (.Name x p) X.env)=eval (.Name x p) X.env:=by rfl)
  (rz:((backTo bE (starEach [e] X.env)).all (λx=>!x.1)&&(backToKw bE (keywordEach [] X.env)).all (λx=>x.1.isSome)
   && decide ([e].length+([]:List Keyword).length+(if([]:List Keyword).isEmpty then 0 else 1)<30))=true:=by rfl)
  (jQ:(apos.endLine==bE.line)=true:=by rfl) (hs:starEach [e] X.env=(false,eval e X.env)::starEach [] X.env:=by rfl) (rA:(backTo bE (starEach [] X.env)).any (·.1)=false:=by rfl)
  (sF:swapsWith (.Call (.Attribute (.Name x p) "append" apos) [e] [] bE) none pos.line X.env=pure false:=by rfl) :
  PS X (.Expr (.Call (.Attribute (.Name x p) "append" apos) [e] [] bE) pos) (lS X (vE i t)) :=
 lL (uj (Fs PySem.F.plainAttrs_list PySem.F.slot_list_append PySem.F.type_list_append Ng (pH hN hv hd cM) (b8 he eX hs) jP rz jQ hs rA) sF) λEn σ H zz=>by
  obtain⟨B,F,δ,Dd,c,⟨⟨ys,ey⟩,q⟩,k1,k2,k3,k4⟩:=zz
  obtain⟨p0,yb,g1,g2,g3⟩:=c.ownAt ey
  refine⟨.ref p0,g1,.inl ⟨rfl,_,bF.of g2⟩,B,F,δ,[],_,c,q,λd ah v F' H' hd sf sh c'=>?_⟩
  obtain⟨xs,ex,hl,hn⟩:=hd
  obtain⟨p1,ws,r1,r2,r3⟩:=c'.ownAt ex
  rw[g1]at r1;cases r1
  exact⟨p0,ws,v,rfl,rfl,r2,by omega,k1 _ _ F' _ hn (c'.app ex g1 r2)⟩
noncomputable def vF(i:Nat)(te ti:aI):cF:=λD δ=>te δ λd ai=>∃ys,ai[i]?=some (some (.lst true ys))/\rN ti ai λk aR=>match k with
 | .int n=>∃xs j,aR[i]?=some (some (.lst true xs))/\jl xs.length n=some j/\D.nx (aR.set i (some (.lst true (xs.set j d))))
 | _=>False
theorem yx(hN:X.N[i]?=some x)(hv:lh X.env.scope x)(he:PE X e (lE te))(hi:PE X b (lB ti))(hd:(x==("__debug__":Str))=false:=by decide)(cM:(x==("__classdict__":Str))=false:=by decide)
  (ha:∀v,assign (.Subscript (.Name x p) b pos') X.env v=(do
   let ov<-holding [v] (eval (.Name x p) X.env)
   let iv<-holding [v,ov] (eval b X.env)
   standAt pos'
   holding [v,ov,iv] (setItem ov iv v)
   release [v,ov,iv] []):=by intro _;rfl)
  (hs:swapsWithSole [.Subscript (.Name x p) b pos'] e pos.line X.env=pure false:=by rfl) (hw:swappedStores [.Subscript (.Name x p) b pos'] e X.env=pure none:=by rfl)
  (h1:(assignEach [.Subscript (.Name x p) b pos'] X.env).map (·.2)=[assign (.Subscript (.Name x p) b pos') X.env]:=by rfl) :
  PS X (.Assign [.Subscript (.Name x p) b pos'] e pos) (lS X (vF i te ti)) :=
 lL (Xg he (Xf (pH hN hv hd cM) (dE hi) M5 ha) hs hw h1) λEn σ H zq=>by
 obtain⟨B,F,δ,Dd,c,q,k1,k2,k3,k4⟩:=zq
 exact⟨B,F,δ,[],_,c,q,λd ai v F1 H1 hq f1 h1 c1=>by
  obtain⟨ys,ey,hq⟩:=hq
  obtain⟨p0,yb,g1,g2,g3⟩:=c1.ownAt ey
  refine⟨.ref p0,g1,B,F1,ai,[(d,v)],_,c1,hq,λkd aR kv F2 H2 hk f2 h2 c2=>?_⟩
  have st:=c2.top
  split at hk
  ·obtain⟨xs,j,ex,ej,hn⟩:=hk
   cases st
   have c3:=c2.pop
   obtain⟨p1,ws,r1,r2,r3⟩:=c3.ownAt ex
   rw[g1]at r1;cases r1
   exact⟨p0,ws,_,j,rfl,rfl,r2,by rw[<-r3];exact ej,k1 _ _ F2 _ hn (c3.N9 ex g1 r2 j)⟩
  ·exact hk.elim⟩
end
end L3
namespace L3
open PySem L2 PySem.Spec PyProof.Rows
theorem dF{A:Around}{k:Nat}(hr:bX k A):A.units+6<cLine:=by have:=hr.un;omega
noncomputable def aF(ns:List Int):List D:=ns.map D.int
noncomputable def GB(o:Obj):Bool:=match o.cls with
 | .type n=>n != "list"
 | _=>true
noncomputable def OH:bh:=λds Q=>∃ns:List Int,ds=[.fz (aF ns)]/\ns.length<=63/\Q (.bl true)
theorem lV{F H:Hp}:∀ns:List Int,R F H (aF ns) (ns.map V.int) []
 | []=>.nil
 | n::ns=>.int (lV ns)
theorem bz4{K:PySem.W.Frag}{a:Addr}{o:Obj}(h:K.lookup a=some o):(a,o)∈K:=by
 induction K with
 | nil=>cases h
 | cons p K ih =>
  obtain⟨b,u⟩:=p
  rw[gD]at h
  split at h
  ·rename_i z
   have:a=b:=by simpa using z
   cases h;subst this;simp
  ·exact fh _ (ih h)
end L3
namespace L3
open PySem L2 PySem.Spec PyProof.Rows
section
variable{B:Bs}{F H:Hp}{σ:L2.St}{δ:Dl}{ts ps:List (D × V)}{i k:Nat}{p q:Addr}{l1 l2 ys N4:List D}{ws si:List V}
end
section
variable{X:Cx}{F H:Hp}{e b:Expr}{pos p pr apos bE GC:Pos}{t ti te:aI}{x y:Str}{i j:Nat}
end
end L3
namespace L3
open PySem L2 PySem.Spec PyProof.Rows
theorem yy(i:Int):(D.int i).pl=true:=rfl
theorem yz(i:Bool):(D.bl i).pl=true:=rfl
theorem yA(i:Str):(D.str i).pl=true:=rfl
theorem yB:D.aq.pl=true:=rfl
theorem yC(xs:List D):(D.fz xs).pl=true:=rfl
theorem yD(C:Addr)(ns:List Str)(xs:List D):(D.obj C ns xs).pl=true:=rfl
theorem by4(i:Int):(D.int i).fr=true:=rfl
theorem yE(i:Bool):(D.bl i).fr=true:=rfl
theorem yF(i:Str):(D.str i).fr=true:=rfl
theorem yG:D.aq.fr=true:=rfl
theorem qf(i:Int):(D.int i).sh=.int i:=rfl
theorem yH(i:Bool):(D.bl i).sh=.bl i:=rfl
theorem yI(i:Str):(D.str i).sh=.str i:=rfl
theorem yJ:D.aq.sh=.aq:=rfl
theorem yK(xs:List D):(D.fz xs).sh=.fz xs:=rfl
theorem yL(C:Addr)(ns:List Str)(xs:List D):(D.obj C ns xs).sh=.obj C ns xs:=rfl
theorem vG{α:Type}(n:Nat)(x:α):(aK n [x]).flatten=aK n x:=by
 induction n with
 | zero=>rfl
 | succ n ih=>rw[qN,oY,ih];rfl
theorem nW(ns:List Int):(aF ns).length=ns.length:=by simp[aF]
theorem qg(ns:List Int):(aF ns).all D.pl=true:=by simp[aF,D.pl]
theorem sG(ns:List Int):(aF ns).all D.fr=true:=by simp[aF,D.fr]
theorem kG(ns:List Int):(aF ns).map D.sh=aF ns:=by simp[aF,D.sh]
theorem sH(a b:List Int):aF a++aF b=aF (a++b):=by simp[aF]
theorem yM(n:Nat)(i:Int):aK n (D.int i)=aF (aK n i):=by simp[aF]
theorem sI(n:Nat)(i:Int):eo n (.int i)=true:=by cases n<;>rfl
theorem yN(n:Nat)(i:Str):eo n (.str i)=true:=by cases n<;>rfl
theorem nX(i j:Int):bI (.int i) (.int j)=decide (i=j):=by
 show(i==j)=_
 rw[Bool.beq_eq_decide_eq]
theorem OI:∀(a b:List Int),bI.gh (aF a) (aF b)=decide (a=b)
 | [],[]=>rfl
 | [],_::_=>by simp[aF,bI.gh]
 | _::_,[]=>by simp[aF,bI.gh]
 | x::xs,y::ys=>by
  show(bI (.int x) (.int y)&&bI.gh (aF xs) (aF ys))=_
  rw[OI xs ys,nX,tU];simp
theorem vH(o o':Bool)(a b:List Int):bI (.lst o (aF a)) (.lst o' (aF b))=decide (a=b):=OI a b
theorem b43{ns:List Int}{k:Nat}(h:k<ns.length):(aF ns)[k]?=some (.int ns[k]):=by simp[aF,h]
theorem mS{ns:List Int}{k:Int}(h0:0<=k)(h:k<ns.length):fq (aF ns) k=some (.int (ns.getD k.toNat 0)):=by
 unfold fq jl
 rw[if_pos h0,nW,if_pos h]
 show(aF ns)[k.toNat]?=_
 have hk:k.toNat<ns.length:=by omega
 rw[b43 hk,aJ,aQ hk];rfl
theorem vI(ns:List Int)(lo hi:Option Int):fV (aF ns) lo hi=aF (fV ns lo hi):=by simp[fV,aF,LU,LV]
theorem yO(i:Int):mR "int" (.int i)=some true:=by rfl
theorem yP(i:Int):mR "bool" (.int i)=some false:=by rfl
theorem yQ(i:Int):mR "list" (.int i)=some false:=by rfl
theorem yR(o:Bool)(xs:List D):mR "list" (.lst o xs)=some true:=by rfl
theorem yS:mR "int" .aq=some false:=by rfl
theorem yT(x:Str):mR "str" (.str x)=some true:=by rfl
theorem yU(xs:List D):mR "tuple" (.tup xs)=some true:=by rfl
theorem sL:sizeLine=16777216:=rfl
theorem yV{p:Prop}[Decidable p]:(decide p=true)=p:=by simp
theorem ce6{α:Type}(xs:List α)(a b:Nat):fV xs (some (a:Int)) (some (b:Int))=(xs.drop a).take (b-a):=by
 unfold fV
 rw[HT.Fh,HT.Fh]
 by_cases h:a<=xs.length
 ·rw[Nat.min_eq_left h]
  apply LW
  intro i
  rw[Wb,Wb,EB]
  by_cases hi:i<b-a
  ·rw[if_pos hi]
   by_cases hb:a+i<xs.length
   ·rw[if_pos (by omega)]
   ·rw[fY (by omega)];simp
  ·rw[if_neg hi,if_neg (by omega)]
 ·rw[Nat.min_eq_right (show xs.length<=a by omega),EC (bD _),EC (show xs.length<=a by omega)];simp
end L3
namespace L2
open PySem PySem.Spec PyProof.Rows
section
variable{X:Cx}{e:Expr}{te:TE}{lo hi:Option Expr}{st:Expr}{tl th ts:TO}{pos p2:Pos}
end
end L2
namespace L3
open PySem L2 PySem.Spec PyProof.Rows
section
variable{X:Cx}{F H:Hp}{e:Expr}{t:aI}{lo hi:Option Expr}{st:Expr}{tl th td:vA}{pos p2:Pos}
theorem OJ:∀{a:List Int} {ws:List V},S F H (aF a) ws->ws=a.map V.int
 | [],_,s=>by cases s;rfl
 | b::bs,_,s=>by
  cases s with
  | int s=>rw[OJ s];rfl
noncomputable def GD:Expr->Option Int
 | .Constant (.int i) _ _=>some i
 | _=>none
noncomputable def BQ:List Expr->Option (List Int)
 | []=>some []
 | e::es=>(GD e).bind λi=>(BQ es).map (i :: ·)
theorem bZ7{e:Expr}{i:Int}(h:GD e=some i):∃a b,e=.Constant (.int i) a b:=by
 cases e with
 | Constant c a b =>
  cases c with
  | int j=>cases h;exact⟨_,_,rfl⟩
  | _=>cases h
 | _=>cases h
noncomputable def cF2(ns:List Int):cE:=λδ Q=>Q (aF ns) δ
theorem OK:∀(es:List Expr) (ns:List Int),BQ es=some ns->PA X es (lO (cF2 ns))
 | [],ns,h=>by cases h;exact cm
 | e::es,ns,h=>by
  obtain⟨i,hi,h2⟩:=Option.bind_eq_some_iff.mp (show(GD e).bind (λi=>(BQ es).map (i :: ·))=some ns from h)
  obtain⟨ms,hm,rfl⟩:=EA.mp h2
  obtain⟨a,b,rfl⟩:=bZ7 hi
  exact yd (cw (ao (i:=i)) (OK es ms hm)) λ_ _ _ q=>q
noncomputable def vJ(ns:List Int):aI:=λδ Q=>ns.length<=sizeLine/\Q (.lst true (aF ns)) δ
theorem OL{es:List Expr}{ns:List Int}(h:BQ es=some ns):PE X (.List es pos) (lE (vJ ns)) :=
 dq (cO (OK es ns h)) λ_ _ _ zq=>by
 obtain⟨B,F,δ,ts,Qd,c,q,k⟩:=zq
 exact⟨B,F,δ,ts,Qd,c,by
  show(aF ns).length<=sizeLine/\_
  rw[nW];exact q,k⟩
theorem vK{n:Nat}{g:iq}{tb:cF}{En:rM}{δ:Dl}(Iv:Nat->Dl->Prop)(h0:Iv 0 δ)(ht:∀k ah,k<n->Iv k ah->g (.int k) ah λaR=>tb { En with nx:=Iv (k+1),ct:=Iv (k+1),bk:=En.nx } aR)
  (hf:∀ah,Iv n ah->En.nx ah):gu (tY (λ(k:Nat)=>D.int (0+(k:Int))) (aM (n:Int).toNat)) g tb En δ:=by
 rw[iJ]
 refine gu.mk Iv h0 (λi d ah hd iv=>?_) λah iv=>hf ah (by simpa using iv)
 rw[cB]at hd
 obtain⟨k,hk,rfl⟩:=EA.mp hd
 have hi:i<n:=by have:=(ke.mp hk).1;simpa using this
 rw[jJ hi]at hk
 cases hk
 rw[LX]
 exact ht i ah hi iv
theorem pL{xs:List D}{k:Int}{d:D}(h0:0<=k)(h:xs[k.toNat]?=some d):fq xs k=some d:=by
 unfold fq jl
 have hk:k.toNat<xs.length:=(ke.mp h).1
 rw[if_pos h0,if_pos (by omega)]
 exact h
end
end L3
namespace L3
open PySem L2 PySem.Spec PyProof.Rows
noncomputable abbrev mT:=List D->(D->Prop)->(Addr->Prop)->Prop
noncomputable def nY(sp:mT):Sp:=λvs H Q E=>∃F ds Qd Ed,af F H/\R F H ds vs []/\sp ds Qd Ed/\(∀d v F' H' A,Qd d->af H H'->af F F'->af F' H'->(∀a ws,F' a=some (.lst ws)->F a=some (.lst ws)\/H a=none)->R F' H' [d] [v] A->A.Nodup->(∀a∈A,H a=none)->Q v H') /\
 ∀C H',Ed C->af H H'->E (.ref C) none H'
section
variable{P:Program}{w:World}{K:PySem.W.Frag}{mg:Str->Option Value}{base:Heap}
theorem GF{x qual:Str}{st:Stmt}{f:Addr}{fd:FuncData}{N ps:List Str}{k:Nat}{sp:mT}(F:bg K x qual st f fd)(S:bf N ps (aT st))(len:∀ds Q E,sp ds Q E->ds.length=ps.length)
  (iN:∀(aH:Value) (A:Around) (outer:List Env) (s:Shared) (H:Hp) (E:XK),bX k (A.deeper (envOfC qual (aT st) s.heap.objs.size f aH)) ->
   ∃t:cF,PSs (ji (kA P w) P w K mg base N qual (aT st) f aH A outer s H E) (iO st) (lS (ji (kA P w) P w K mg base N qual (aT st) f aH A outer s H E) t) /\
    ∀ds Q Ex,sp ds Q Ex->t { nx:=λ_=>Q .aq,rt:=Q,xc:=λC _=>Ex C,xr:=λC _=>Ex C } (lM N ds)):aO P w K mg base (kA P w) (k+1) f fd ps (nY sp):=by
 obtain⟨oc,od,kV,doc,pm,an,aH,ct,mF,rfl,lk,cM⟩:=F.ex
 refine Ff lk cM S (λvs H Q E ⟨F,ds,Qd,Ed,e,r,h,_⟩=>by rw[<-r.length];exact len ds Qd Ed h) λA outer s H vs Q E hr zz=>?_
 obtain⟨F,ds,Qd,Ed,e,r,h,k,kx⟩:=zz
 obtain⟨t,ht,hq⟩:=iN aH A outer s H E hr
 have fin:∀d v ah aC F' H',Qd d->ak ⟨H,F⟩ F' H' aC ah [(d,v)]->Q v H':=λd v ah aC F' H' hd c=>by
  obtain⟨A,C,r',s',nd,fr⟩:=c.own
  exact k d v F' H' A hd c.b1 c.b2 c.ext c.b3 r' (iQ.mp nd).1 λa ha=>fr a (e7 _ ha)
 have e1:L2.start N vs=vs.map some++aK (N.length-ds.length) none:=by unfold L2.start;rw[r.length]
 refine⟨_,ht,⟨H,F⟩,F,lM N ds,_,?_,hq ds Qd Ed h,λah aC F' H' hd c=>fin .aq .aq ah aC F' H' hd (c.pushS (.aq .nil) rfl),fin,λ_ _ _ _ z=>z.elim,λ_ _ _ _ z=>z.elim,λC ah pins aC F' H' s' a T hx c I tr pa pT=>?_,λC ah pins aC F' H' s' h' e vs hx c I hm=>?_⟩
 ·rw[e1]
  exact ak.start e r _
 ·exact ZW I rfl rfl rfl tr pa pT λh' T' g=>⟨a,T',.ref C,H',rfl,I.os,I.bare,g.un,g.aE,g.uF,g.a0,g.a1,g.t0,g.t1,kx C H' hx c.b1⟩
 ·exact ZX I rfl rfl rfl hm λh' T' g=>⟨e,T',.ref C,H',rfl,I.os,I.bare,g.un,g.aE,g.uF,g.a0,g.a1,g.t0,g.t1,kx C H' hx c.b1⟩
end
noncomputable abbrev OM:=L2.St->Hp->VK->(Value->Hp->Prop)->Prop
noncomputable def PX(X:Cx)(e:Expr)(t:OM):Prop:=∀(pins:List (Addr × Obj)) (s:Shared) (σ:L2.St) (H:Hp) (Q:VK) (Z:Value->Hp->Prop),Inv X pins σ H s ->
 (∀a T cls H' s',Inv X pins σ H' s'->ik s'.heap a T cls->Apart X pins H' a->Apart X pins H' T->Z cls H'->X.xe (.ref a) s')->t σ H Q Z->wpAny (model X.prog X.w) X.A (eval e X.env) (EP X pins σ Q) X.xe s
noncomputable abbrev BR:=Dl->(D->Dl->Prop)->(Addr->Dl->Prop)->Prop
noncomputable def lX(t:BR):OM:=λσ H Q Z=>∃B F δ Qd Zd,ak B F H σ δ []/\t δ Qd Zd/\(∀d ah v F' H',Qd d ah->af F F'->af H H'->ak B F' H' σ ah [(d,v)]->Q v H')/\∀C ah F' H',Zd C ah->af F F'->af H H'->ak B F' H' σ ah []->Z (.ref C) H'
section
variable{X:Cx}{n:Nat}{f:Addr}{fd:FuncData}{ps:List Str}{sp:mT}{x:Str}{p pos:Pos}{e:Expr}{es:List Expr}{t:cE}{tx:BR}
theorem cC8{pins:List (Addr × Obj)}{σ:L2.St}{H:Hp}{s:Shared}{Q:VK}{E:XK}{us:List Value}{vs:List V}{sp:Sp}(F:aO X.prog X.w X.K X.mg X.base (kA X.prog X.w) n f fd ps sp)(hr:bX n X.A)(hb:Binds X.K fd ps [])(hex:X.ex=[])
  (I:Inv X pins σ H s) (r:Vals vs us) (h:sp vs H Q E) (hx:∀a T cls H' s',Inv X pins σ H' s'->ik s'.heap a T cls->Apart X pins H' a->Apart X pins H' T->E cls none H'->X.xe (.ref a) s'):wpAny (model X.prog X.w) X.A (call (.ref f) us) (EP X pins σ Q) X.xe s:=by
 have hl:(us++[]).length=ps.length:=by rw[eU,<- r.length];exact F.len _ _ _ _ h
 have lW:=hb s us I.cR hl
 rw[eU]at lW
 refine wpAny_call (codeAny_mono (F.run X.A X.stack s H ⟨us,[]⟩ us vs Q E hr I.uu lW r h) λr s' hq=>?_)
 cases r with
 | error e =>
  obtain⟨a,T,cls,H',rfl,os,bare,un,aE,tr,a0,a1,t0,t1,hE⟩:=hq
  exact hx a T cls H' s' (I.Mv (ch:=[]) os un aE bare λb z=>absurd z (by simp)) tr (I.apart hex a0 a1) (I.apart hex t0 t1) hE
 | ok fl =>
  cases fl with
  | ret u=>exact I.after hq
  | next=>exact fj hq
  | brk=>exact fj hq
  | cont=>exact fj hq
noncomputable def vL(sp:mT)(t:cE):BR:=λδ Q Z=>t δ λds ah=>sp (ds.map D.sh) (λd=>(ds.all D.pl||d.fr)=true/\Q d ah) λC=>Z C ah
theorem b21{B:Bs}{F H:Hp}{σ:L2.St}{δ:Dl}{ts:List (D × V)}{Qd:D->Prop}{Ed:Addr->Prop}{Q:VK}{E:XK}{ds:List D}{vs:List V}(c:ak B F H σ δ ts)(s:S F H ds vs)(q:sp (ds.map D.sh) (λd=>(ds.all D.pl||d.fr)=true/\Qd d) Ed)
  (k:∀d v F' H',Qd d->af F F'->af H H'->ak B F' H' σ δ ((d,v)::ts)->Q v H') (kx:∀C H',Ed C->af H H'->E (.ref C) none H'):nY sp vs H Q E:=by
 by_cases hp:ds.all D.pl=true
 ·rw[lK hp]at q
  exact⟨F,ds,_,_,c.ext,s.r hp,q,λd v F' H' A hd hs hf he h3 r nd fr=>k d v F' H' hd.2 hf hs (c.call hs hf he h3 r nd fr),kx⟩
 ·refine⟨H,ds.map D.sh,_,_,af.refl _,s.frozen c.ext,q,λd v F' H' A hd hs hf he h3 r nd fr=>?_,kx⟩
  have eM:d.fr=true:=by
   have:=hd.1
   rw[Bool.or_eq_true]at this
   exact this.resolve_left hp
  exact k d v F H' hd.2 (af.refl _) hs (c.BG hs (r.rK (by simp[eM]) (c.ext.trans hf)) nd fr)
theorem cw1(F:aO X.prog X.w X.K X.mg X.base (kA X.prog X.w) n f fd ps (nY sp))(hr:bX n X.A)(hg:Gl X x)(hm:X.mg x=some (.ref f))(hk:PySem.W.keepIn X.K (.ref f)=true)(hb:Binds X.K fd ps [])(hex:X.ex=[])
  (ha:PA X (e::es) (lA t)) (dh:(x==("__debug__":Str))=false:=by decide) (he:starEach (e::es) X.env=(false,eval e X.env)::starEach es X.env:=by rfl) (bw:(backTo pos (starEach es X.env)).any (·.1)=false:=by rfl) :
  PX X (.Call (.Name x p) (e::es) [] pos) (lX (vL sp t)):=by
 intro pins s σ H Q Z I hz zz
 obtain⟨B,F0,δ,Qd,Zd,c,q,k,kx⟩:=zz
 refine wpAny_Call_Name_kw (qY I hg hm ?_ dh)
 refine PySem.W.callWith_K (h₀:=X.base) I.ok.mod.mC hk (aN (ha pos pins s σ H (λvs H1=>nY sp vs H1 Q λcls _ H'=>Z cls H') I ⟨B,F0,δ,[],_,c,q,λds ai vs F1 H1 q1 f1 h1 c1 s1=>?_⟩) λus s1 ⟨vs,H1,I1,r,q⟩=>⟨I1.cR,?_⟩) he bw
 ·exact b21 c1 s1 q1 (λd v F' H' hd hf hs c'=>k d ai v F' H' hd (f1.trans hf) (h1.trans hs) c') λC H' hC hs=>kx C ai F1 H' hC f1 (h1.trans hs) (c1.grow hs)
 ·exact cC8 F hr hb hex I1 r q λa T cls H' s' I' tr pa pT hE=>hz a T cls H' s' I' tr pa pT hE
theorem cG3{B:Bs}{F H:Hp}{σ:L2.St}{Dd:rM}{pins:List (Addr × Obj)}(xl:XL X B Dd):∀a T cls H' s',Inv X pins σ H' s'->ik s'.heap a T cls->Apart X pins H' a->Apart X pins H' T->(∃C ah F',cls=.ref C/\Dd.xc C ah/\ak B F' H' σ ah [])->X.xe (.ref a) s':=by
 rintro a T cls H' s' I tr pa pT ⟨C,ah,F',rfl,hx,c⟩
 exact xl.1 C ah pins σ F' H' s' a T hx c I tr pa pT
noncomputable def vM(t:BR):cF:=λD δ=>t δ (λ_ ah=>D.nx ah) D.xc
theorem ci3(he:PX X e (lX tx))(hs:swapsWith e none pos.line X.env=pure false:=by rfl):PS X (.Expr e pos) (lS X (vM tx)):=by
 intro pins s σ H D I zz
 obtain⟨B,F,δ,Dd,c,q,k1,k2,k3,k4,xl⟩:=zz
 refine wpAny_Expr_any (aN (he pins s σ H (λ_ H1=>D.nx σ H1) (λcls H'=>∃C ah F',cls=.ref C/\Dd.xc C ah/\ak B F' H' σ ah []) I (cG3 (H:=H) (F:=F) xl) ⟨B,F,δ,_,_,c,q,λd ah v F' H' hd _ _ c'=>k1 ah σ F' H' hd c'.pop,λC ah F' H' hC _ _ c'=>⟨C,ah,F',rfl,hC,c'⟩⟩) λv s1 ⟨x,H1,I1,r1,q1⟩=>⟨σ,H1,I1,q1⟩) I.quiet hs
noncomputable def vN(t:cF):cF:=λD δ=>t { D with xc:=λ_ _=>False,xr:=λ_ _=>False } δ
theorem ON{st:Stmt}{u:cF}(h:PS X.gK st (lS X.gK u)):PS X st (lS X (vN u)):=by
 intro pins s σ H D I zz
 obtain⟨B,F,δ,Dd,c,q,k1,k2,k3,k4,xl⟩:=zz
 exact wpAny_mono (h pins s σ H D (I.kq _) ⟨B,F,δ,_,c,q,k1,k2,k3,k4,XL.none (λ_ _ z=>z) λ_ _ z=>z⟩) (λ_ _ q=>q.mE) λ_ _ z=>fj z
noncomputable def vO(C:Addr)(t:cE):cF:=λD δ=>t δ λds ah=>ds.length<=9/\D.xr C ah
structure BS(K:PySem.W.Frag)(mg:Str->Option Value)(x:Str)(C:Addr):Prop where
 own:∀h:Heap,K.In h->h.Ns mainGlobals mg->∃newId Bn OO OP B OQ OR BU,OwnCls x C BU newId mg h/\ExcBaseFacts Bn newId OO OP/\BU.contains (.type Bn)=true/\ExcBaseFacts B OQ OR BU
theorem GG{C:Addr}{np bE:Pos}(hm:BS X.K X.mg x C)(hc:X.calm=true)(hg:Gl X x)(ha:PA X (e::es) (lA t))(dh:(x==("__debug__":Str))=false:=by decide)
  (he:starEach (e::es) X.env=(false,eval e X.env)::starEach es X.env:=by rfl) (bw:(backTo bE (starEach es X.env)).any (·.1)=false:=by rfl) :
  PS X (.Raise (some (.Call (.Name x np) (e::es) [] bE)) none pos) (lS X (vO C t)):=by
 intro pins s σ H D I zz
 obtain⟨B,F,δ,Dd,c,q,k1,k2,k3,k4,xl⟩:=zz
 obtain⟨newId,Bn,OO,OP,B',OQ,OR,BU,O,Fn,hBn,FB⟩:=hm.own X.base I.ok.mod.mC I.ok.mod.glob
 obtain⟨tl,N,nm,qn,bs,hdct,sn,sub,ab,col,dd,k0,sj,vv,k3',k5,mN,hC,hN,qh,T⟩:=O.obj
 refine wpAny_Raise_call_subU (k5:=k5) (k3:=k3') (k2:=vv) (k1:=sj) (k0:=k0) (dd:=dd) (col:=col) (ab:=ab) (sub:=sub) (sn:=sn) (hdct:=hdct) (bs:=bs) (N:=N) (q:=qn) (nm:=nm) (C:=C) Fn hBn FB (mN:=mN) (T.hasType FB.hasBase) (I.ok.hd hc) (by rw[he];show(false||(backTo bE (starEach es X.env)).any (·.1))=false;rw[bw];rfl) qh (qY I hg O.bound ⟨rfl,?_⟩ dh)
 have BV:=ha bE pins s σ H (λvs H1=>vs.length<=9/\∃ah F',Dd.xr C ah/\ak B F' H1 σ ah []) I ⟨B,F,δ,[],_,c,q,λds ai vs F1 H1 q1 f1 h1 c1 s1=>⟨by rw[<-s1.length];exact q1.1,ai,F1,q1.2,c1⟩⟩
 rw[he]at BV ⊢
 refine Calls.evalArgs_plain (wpAny_mono BV (λus s2 h2=>?_) λ_ _ y=>y)
 obtain⟨vs,H1,I1,r,hl,ah,F',hx,c'⟩:=h2
 exact⟨rfl,by rw[<-r.length];exact dy hl (by decide),I1.bk _ _ hC,hN.keeps I1.bk,T.keeps I1.bk,λh' e' hm'=>xl.2 C ah pins σ F' H1 s2 h' e' _ hx c' I1 hm'⟩
end
end L3
namespace L3
open PySem L2 PySem.Spec PyProof.Rows
section
variable{X:Cx}{pins ui:List (Addr × Obj)}{σ:L2.St}{H:Hp}{s:Shared}{a:Addr}
noncomputable abbrev tr(X:Cx)(xe:Value->Shared->Prop)(pn:List (Addr × Obj)):Cx:={ X with xe:=xe,pn:=pn }
noncomputable abbrev vP(X:Cx)(A:Around)(xe:Value->Shared->Prop):Cx:={ X with A:=A,calm:=false,xe:=xe }
theorem cG5(ok:X.Ok)(xe:Value->Shared->Prop)(pn:List (Addr × Obj)):(tr X xe pn).Ok :=
 ⟨ok.mod,ok.kind,ok.glob,ok.blt,ok.above,ok.inj,ok.has,ok.nu,ok.hd,ok.frames,ok.qW,ok.qX,ok.bs,ok.i9,ok.pB,ok.pE,ok.gn,ok.jc⟩
theorem cB1(I:Inv X pins σ H s)(xe:Value->Shared->Prop):Inv (tr X xe (X.pn++pins)) [] σ H s :=
 ⟨cG5 I.ok _ _,I.os,I.bare,I.base,I.loc,I.cell,I.free,I.fZ,λp hp=>I.pin p (by simpa using hp),I.aE,I.len⟩
theorem yW{xe:Value->Shared->Prop}(ok:X.Ok)(I:Inv (tr X xe (X.pn++pins)) ui σ H s):Inv X pins σ H s :=
 ⟨ok,I.os,I.bare,I.base,I.loc,I.cell,I.free,I.fZ,λp hp=>I.pin p (e7 _ hp),I.aE,I.len⟩
theorem OS{xe:Value->Shared->Prop}(p:Apart (tr X xe (X.pn++pins)) ui H a):Apart X pins H a:=⟨p.old,p.free,p.loc,p.cell,λq hq=>p.pin q (e7 _ hq),p.fr⟩
theorem cA2(ok:X.Ok){A:Around}(hA:A.frames=X.A.frames)(xe:Value->Shared->Prop):(vP X A xe).Ok :=
 ⟨ok.mod,ok.kind,ok.glob,ok.blt,ok.above,ok.inj,ok.has,ok.nu,(λh=>Bool.noConfusion h),hA.trans ok.frames,ok.qW,ok.qX,ok.bs,ok.i9,ok.pB,ok.pE,ok.gn,ok.jc⟩
theorem OT(I:Inv X pins σ H s){A:Around}(hA:A.frames=X.A.frames)(xe:Value->Shared->Prop):Inv (vP X A xe) pins σ H s :=
 ⟨cA2 I.ok hA xe,I.os,I.bare,I.base,I.loc,I.cell,I.free,I.fZ,I.pin,I.aE,I.len⟩
theorem bY1{A:Around}{xe:Value->Shared->Prop}(ok:X.Ok)(I:Inv (vP X A xe) pins σ H s):Inv X pins σ H s:=⟨ok,I.os,I.bare,I.base,I.loc,I.cell,I.free,I.fZ,I.pin,I.aE,I.len⟩
theorem bN2{φ:Heap->Prop}(I:Inv X pins σ H s)(pa:Apart X pins H a)(ho:∃o,s.heap.get? a=some o)(h1:φ s.heap)(h2:∀g g':Heap,φ g->(∀o,g.get? a=some o->g'.get? a=some o)->φ g'):Inv X pins σ (upd H a (.ext φ)) s:=by
 have ne:∀{b:Addr} {u:HO},H b=some u->b≠a:=λ{b u} q=>eJ q pa.free
 refine⟨I.ok,I.os,I.bare,⟨I.base.keep,I.base.slot,λb o e n hx=>?_,I.base.there,λb xs e=>?_,λb o xs e=>?_,λb ps e=>?_⟩,I.loc,I.cell,?_,λx c e=>?_,λp hp=>?_,λb u e=>?_,I.len⟩
 ·rw[aU (λz=>by rw[z,pa.old]at e;cases e)];exact I.base.free b o e n hx
 ·have q:=I.base.iK b xs e;rw[aU (ne q)];exact q
 ·have q:=I.base.g8 b o xs e;rw[aU (ne q)];exact q
 ·obtain⟨m,q⟩:=I.base.gE b ps e;exact⟨m,by rw[aU (ne q)];exact q⟩
 ·rw[aU (fi pa.loc)];exact I.free
 ·rw[aU (pa.cell x c e)];exact I.fZ x c e
 ·obtain⟨q1,q2,q3,q4,q5⟩:=I.pin p hp
  exact⟨q1,by rw[aU (pa.pin p hp)];exact q2,q3,q4,q5⟩
 ·by_cases hb:b=a
  ·subst hb;rw[bH]at e;cases e;exact⟨h1,ho,λg g' p kk=>h2 g g' p λo q=>kk _ o (.inl rfl) q⟩
  ·rw[aU hb]at e
   exact(I.aE b u e).i8 (λ_ _ _ q=>q) (λc q=>by rw[aU (ne q)];exact q) (λc xs q=>by rw[aU (ne q)];exact q) λc xs q=>by rw[aU (ne q)];exact q
end
theorem ak.unset{B:Bs}{F H:Hp}{σ:L2.St}{δ:Dl}{ts:List (D × V)}(c:ak B F H σ δ ts)(i:Nat):ak B F H (σ.set i none) (δ.set i none) ts:=by
 obtain⟨A,C,r,q,nd,fr⟩:=(c.forget i).own
 refine⟨c.ext,c.b1,c.b2,c.b3,A,C,r,q.uL none ?_,nd,fr⟩
 by_cases h:i<δ.length
 ·exact .inl (by rw[Al h])
 ·exact .inr (by rw[fY (by simpa using h)])
noncomputable abbrev exc(C:Addr):D:=.bz (.ext λa=>mI a C)
theorem OU{h:Heap}{a T C:Addr}(t:ik h a T (.ref C)):mI a C h:=by
 obtain⟨oe,vs,oT,ts,h1,h2,h3,h4,_⟩:=t
 exact⟨oe,h1,h2,by obtain⟨c,d,dt,sl⟩:=oe;cases h4;rfl,h3⟩
theorem b33{a C:Addr}(g g':Heap)(h:mI a C g)(k:∀o,g.get? a=some o->g'.get? a=some o):mI a C g':=let⟨o,h1,r⟩:=h;⟨o,k o h1,r⟩
section
variable{X:Cx}{tb th:cF}{body GH:List Stmt}{GI:Stmt}{K n:Str}{Kc:Addr}{i:Nat}{kp OV pos:Pos}
noncomputable def vQ(K:PySem.W.Frag)(c:Value)(i:Nat)(tb th:cF):cF:=λD δ=>tb { D with
 xc:=λC ah=>PySem.W.exmOne K (.ref C) c=some true/\th { nx:=λaR=>D.nx (aR.set i none),rt:=λ_=>False } (ah.set i (some (exc C)))
 xr:=λ_ _=>False } δ
theorem cD5(hb:∀xe pn,PSs (tr X xe pn) body (lS (tr X xe pn) tb))(hsu:∀A' xe,PSs (vP X A' xe) (GI::GH) (lS (vP X A' xe) th))(hg:Gl X K)(hm:X.mg K=some (.ref Kc))(hN:X.N.Nodup)(hi:X.N[i]?=some n)
  (hl:X.env.scope.names.lookup n=some .local) (hex:X.ex=[]) (cu:X.stack=X.env::X.outer) (hf:X.env.frame=some X.env.locals) (dh:(K==("__debug__":Str))=false:=by decide) :
  PS X (.Try body [.ExceptHandler (some (.Name K kp)) (some n) (GI::GH) OV] [] [] pos) (lS X (vQ X.K (.ref Kc) i tb th)):=by
 intro pins s σ H D I zz
 obtain⟨B,F,δ,Dd,c,q,k1,k2,k3,k4,xl⟩:=zz
 refine wpAny_Try_except (wpAny_mono (hb (λe s'=>∃a T C aC F' H' ah,e=.ref a/\Inv X pins aC H' s'/\ik s'.heap a T (.ref C)/\Apart X pins H' a/\Apart X pins H' T/\ak B F' H' aC ah []/\PySem.W.exmOne X.K (.ref C) (.ref Kc)=some true/\th { nx:=λaR=>Dd.nx (aR.set i none),rt:=λ_=>False } (ah.set i (some (exc C)))) (X.pn++pins) [] s σ H D (cB1 I _) ⟨B,F,δ,_,c,q,k1,k2,k3,k4,λC ah ui aC F' H' s' a T hx c' I' FJ pa pT=>⟨a,T,C,aC,F',H',ah,rfl,yW I.ok I',FJ,OS pa,OS pT,c',hx⟩,λ_ _ _ _ _ _ _ _ _ _ z=>z.elim⟩) (λf s1 hS=>?_) λe s1 hx=>?_)
 ·cases f with
  | next=>obtain⟨aC,H',I',q'⟩:=hS;exact q0 (X:=X) pins s1 aC H' D (yW I.ok I') q'
  | brk=>obtain⟨aC,H',I',q'⟩:=hS;exact⟨aC,H',yW I.ok I',q'⟩
  | cont=>obtain⟨aC,H',I',q'⟩:=hS;exact⟨aC,H',yW I.ok I',q'⟩
  | ret u=>obtain⟨v,aC,H',I',r',q'⟩:=hS;exact⟨v,aC,H',yW I.ok I',r',q'⟩
 ·obtain⟨a,T,C,aC,F',H',ah,rfl,I1,t1,pa,pT,c1,cV,hth⟩:=hx
  refine ZZ I1 cu hex hf t1 pa pT λh2 T2 I2 t2 pT2=>?_
  refine wpAny_handleBy_cons (codeAny_handlers_test (qY (X:=vP X (X.A.mark (some (.ref a))) X.xe) (OT (A:=X.A.mark (some (.ref a))) I2 rfl X.xe) hg hm ?_ dh)) (by intro z;cases z)
  have x2:=OU t2
  obtain⟨o2,e2,hc2,_⟩:=id x2
  have LT:PySem.W.Looks (model X.prog X.w) h2 (typeOf (.ref a)) (.ref C):=hc2 ▸ (PySem.W.Looks.ld e2).andThen .now
  refine(PySem.W.exm_one I2.cR LT cV).here ?_
  refine codeAny_handlers_suite_as (Z0 I2 hex t2 pT2 λh3 I3 t3=>?_)
  have x3:=OU t3
  have I4:=bN2 (φ:=mI a C) I3 pa (x3.imp λo z=>z.1) x3 (λg g' z k=>b33 g g' z k)
  refine AZ I4 hN hi (.inl hl) (v:=.ref a) rfl (λs5 I5=>?_) (.inr hl)
  refine wpAny_mono (hsu _ _ pins s5 _ _ { nx:=λjM H2=>D.nx (jM.set i none) H2,rt:=λ_ _=>False } (OT (A:=X.A.mark (some (.ref a))) I5 rfl _) ⟨B,F',ah.set i (some (exc C)),_,?_,hth,λaR jM F2 H2 hn c2=>k1 _ _ F2 H2 hn (c2.unset i),λ_ _ _ _ _ _ z=>z.elim,λ_ _ _ _ z=>z.elim,λ_ _ _ _ z=>z.elim,XL.none (λ_ _ z=>z) λ_ _ z=>z⟩) (λf s6 hS=>?_) λ_ _ z=>z
  ·exact((c1.grow (af.upd pa.free)).pushS (d:=exc C) (v:=.ref a) (.bz bH .nil) rfl).store i
  ·cases f with
   | next =>
    obtain⟨Bo,H6,I6,q6⟩:=hS
    exact Z1 (bY1 I.ok I6) hN hi hl λs7 I7=>⟨_,H6,I7,q6⟩
   | brk=>obtain⟨_,_,_,z⟩:=hS;exact z.elim
   | cont=>obtain⟨_,_,_,z⟩:=hS;exact z.elim
   | ret u=>obtain⟨_,_,_,_,_,z⟩:=hS;exact z.elim
end
end L3
namespace L3
open PySem L2 PySem.Spec PyProof.Rows
noncomputable def GJ:V->Option Value
 | .ref a=>some (.ref a)
 | .ty n=>some (.type n)
 | _=>none
theorem ci5{c:V}{u cv:Value}(h:GJ c=some cv)(r:RelV c u):u=cv:=by
 cases c<;>cases h<;>exact r
inductive BW(K:PySem.W.Frag)(H:Hp):V->Value->Prop where
 | ty {v:V} {t:Value} (h:ia K H v t):BW K H v t
 | exc {a C:Addr} (e:H a=some (.ext (mI a C))) (x:uG K C):BW K H (.ref a) (.ref C)
noncomputable def cJ1(K:PySem.W.Frag):List V->Hp->VK->Prop:=λxs H Q=>∃x c cv t b,xs=[x,c]/\GJ c=some cv/\BW K H x t/\PySem.W.kitOne K t cv=some b/\Q (.bl b) H
section
variable{X:Cx}{F H:Hp}{v:V}{a:Expr}{ta:aI}{p pos:Pos}
theorem bM0:hJ X (.builtin "isinstance") (cJ1 X.K):=by
 intro pins s σ H xs us Q I r h
 obtain⟨x,c,cv,t,b,rfl,hv,ty,e,q⟩:=h
 obtain⟨u,v,rfl,ru,rv⟩:=r.two
 cases ci5 hv rv
 cases ty with
 | ty ty=>exact MP I ru ty e λtk=>⟨.bl b,H,I.tok _,rfl,q⟩
 | @exc a C ea x =>
  cases(show u=dn a from ru)
  obtain⟨xa,_,_⟩:=(show eC X.prog X.w H s.heap a (.ext (mI a C)) from I.aE a _ ea)
  exact PySem.W.kia_one (ε x) I.cR xa e (λz=>nomatch z) λtk=>⟨.bl b,H,I.tok _,rfl,q⟩
noncomputable def GK(K:PySem.W.Frag)(cv:Value)(d:D)(r:Bool):Prop:=match d with
 | .bz φ=>∃C,(φ=.ext λa=>mI a C)/\uG K C/\PySem.W.kitOne K (.ref C) cv=some r
 | d=>∃k,BP d=some k/\PySem.W.kitOne K (.type k) cv=some r
theorem cu6{K:PySem.W.Frag}{cv:Value}{d:D}{r:Bool}(s:S F H [d] [v])(e:af F H)(h:GK K cv d r):∃t,BW K H v t/\PySem.W.kitOne K t cv=some r:=by
 cases s with
 | bz h' _=>obtain⟨C,rfl,x,k⟩:=h;exact⟨_,.exc h' x,k⟩
 | int z=>obtain⟨k,hk,h⟩:=h;exact⟨_,.ty (nS (.int .nil) e hk),h⟩
 | bl z=>obtain⟨k,hk,h⟩:=h;exact⟨_,.ty (nS (.bl .nil) e hk),h⟩
 | aq z=>obtain⟨k,hk,h⟩:=h;exact⟨_,.ty (nS (.aq .nil) e hk),h⟩
 | str z=>obtain⟨k,hk,h⟩:=h;exact⟨_,.ty (nS (.str .nil) e hk),h⟩
 | shr h' q z=>obtain⟨k,hk,h⟩:=h;exact⟨_,.ty (nS (.shr h' q .nil) e hk),h⟩
 | own h' q z=>obtain⟨k,hk,h⟩:=h;exact⟨_,.ty (nS (.own h' q .nil) e hk),h⟩
 | fz h' q z=>obtain⟨k,hk,h⟩:=h;exact⟨_,.ty (nS (.fz h' q .nil) e hk),h⟩
 | tup h' q z=>obtain⟨k,hk,h⟩:=h;exact⟨_,.ty (nS (.tup h' q .nil) e hk),h⟩
 | obj _ _ _ _=>obtain⟨k,hk,h⟩:=h;cases hk
noncomputable def qi(K:PySem.W.Frag)(cv:Value)(t:aI):aI:=λδ Q=>t δ λd ah=>∃r,GK K cv d r/\Q (.bl r) ah
theorem OW{y:Str}{q:Pos}{c:V}{cv:Value}(hg:Gl X "isinstance")(hm:X.mg "isinstance"=none)(hc:PE X (.Name y q) (tC c))(hcv:GJ c=some cv)(ha:PE X a (lB ta))
  (hs:starEach [a,.Name y q] X.env=(false,eval a X.env)::starEach [.Name y q] X.env) (eK:starEach [.Name y q] X.env=(false,eval (.Name y q) X.env)::starEach [] X.env) (bw:(backTo pos (starEach [.Name y q] X.env)).any (·.1)=false) :
  PE X (.Call (.Name "isinstance" p) [a,.Name y q] [] pos) (lE (qi X.K cv ta)) :=
 dq (Bu bM0 hg hm NH (b8 ha (b8 hc eX eK) hs) (by decide) (by decide) hs bw) λσ H Q zq=>by
 obtain⟨B,F,δ,ts,Qd,c,q,k⟩:=zq
 exact⟨B,F,δ,ts,_,c,q,λd ai v F1 H1 q1 f1 h1 c1 s1=>by
  obtain⟨r,e,qr⟩:=q1
  obtain⟨t,h2,h3⟩:=cu6 (K:=X.K) s1 c1.ext e
  exact⟨v,_,_,t,r,rfl,hcv,h2,h3,k _ ai _ F1 H1 qr f1 h1 (c1.pushS (.bl .nil) rfl)⟩⟩
theorem OX{y:Str}{q:Pos}{C:Addr}(hg:Gl X "isinstance")(hm:X.mg "isinstance"=none)(yw:Gl X y)(qa:X.mg y=some (.ref C))(ha:PE X a (lB ta))(hd:(y==("__debug__":Str))=false:=by decide)
  (hs:starEach [a,.Name y q] X.env=(false,eval a X.env)::starEach [.Name y q] X.env:=by rfl) (eK:starEach [.Name y q] X.env=(false,eval (.Name y q) X.env)::starEach [] X.env:=by rfl) (bw:(backTo pos (starEach [.Name y q] X.env)).any (·.1)=false:=by rfl) :
  PE X (.Call (.Name "isinstance" p) [a,.Name y q] [] pos) (lE (qi X.K (.ref C) ta)) :=
 OW hg hm (Mx (v:=.ref C) yw qa rfl hd) rfl ha hs eK bw
theorem cw5{n:String}{y:Str}{q:Pos}(hg:Gl X "isinstance")(hm:X.mg "isinstance"=none)(yw:Gl X y)(qa:X.mg y=none)(Gz:bootBuiltins y=some (.type n))(ha:PE X a (lB ta))
  (hn:y≠"__name__":=by decide) (hd:(y==("__debug__":Str))=false:=by decide)
  (hs:starEach [a,.Name y q] X.env=(false,eval a X.env)::starEach [.Name y q] X.env:=by rfl) (eK:starEach [.Name y q] X.env=(false,eval (.Name y q) X.env)::starEach [] X.env:=by rfl) (bw:(backTo pos (starEach [.Name y q] X.env)).any (·.1)=false:=by rfl) :
  PE X (.Call (.Name "isinstance" p) [a,.Name y q] [] pos) (lE (qi X.K (.type n) ta)) :=
 OW hg hm (NO yw qa Gz hn hd) rfl ha hs eK bw
end
section
variable{K:PySem.W.Frag}{mg:Str->Option Value}{x:Str}{C:Addr}
theorem OY(hm:mg x=some (.ref C))(q:PySem.W.excIn K C [.type "ValueError",.type "Exception",.type "BaseException",.type "object"] "ValueError.__new__"=true):BS K mg x C:=by
 refine⟨λh X G=>⟨"ValueError.__new__","ValueError",_,_,"ValueError",_,_,[.type "ValueError",.type "Exception",.type "BaseException",.type "object"],?_,PySem.F.excBase_ValueError,rfl,PySem.F.excBase_ValueError⟩⟩
 refine⟨hm,?_⟩
 unfold PySem.W.excIn at q
 split at q
 ·rename_i dd cd sl ho
  split at q
  ·rename_i C' bm k0 k1 k2 k3 n k5 hm hs
   simp only[eV,beq_iff_eq,Bool.not_eq_true']at q
   obtain⟨⟨⟨⟨⟨rfl,rfl⟩,OZ⟩,ht⟩,aE⟩,qh⟩:=q
   obtain⟨nm,bs,mro,ns,qn,hd,sn,sub,ab,col,del⟩:=cd
   dsimp only at hm OZ aE qh
   subst hm OZ
   have hsl:sl=#[k0,k1,k2,k3,some (.builtin "ValueError.__new__"),k5]:=by
    obtain⟨l⟩:=sl
    simp only at hs
    rw[hs]
   subst hsl
   exact⟨bm,ns,nm,qn,bs,hd,sn,sub,ab,col,dd,k0,k1,k2,k3,k5,_,X _ _ ho,.of_isNs (PySem.W.isNs_of_in X aE),PySem.W.nsMap_none_of_in X aE qh,PySem.W.tail_of_in X ht⟩
  ·cases q
 ·cases q
open PySem.W in
theorem vR{t:Value}{b:Bool}(kC:(t==.ref C)=false)(h1:(clsIn K C).isSome=true)(h2:typeIn K (.ref C)=some (.type "type"))(h3:subIn K t (.ref C)=some b):kitOne K t (.ref C)=some b:=by
 unfold kitOne kitCls
 rw[kC]
 simp only[qP,if_false]
 rw[h1,h2,if_pos (by rfl),h3]
open PySem.W in
theorem O0{t:Value}{n:String}{b:Bool}(kC:(t==.type n)=false)(h1:kitMeta n=true)(h3:subIn K t (.type n)=some b):kitOne K t (.type n)=some b:=by
 unfold kitOne kitCls
 rw[kC]
 simp only[qP,if_false]
 rw[if_pos h1,h3]
open PySem.W in
theorem O1{t:Value}{b:Bool}(h1:(clsIn K C).isSome=true)(h2:typeIn K (.ref C)=some (.type "type"))(h0:subIn K (.ref C) (.type "BaseException")=some true)(h3:subIn K t (.ref C)=some b):exmOne K t (.ref C)=some b:=by
 unfold exmOne kitCls
 rw[h0,if_pos (by rfl)]
 simp only
 rw[h1,h2,if_pos (by rfl),h3]
end
theorem sJ{P:Program}{w:World}{X:Cx}:kz (kA P w) X E0:=by
 rintro _ _ _ _ _ _ _ ⟨_,_,_,_,_,_,_,_,_,_,_,_,_,_,z⟩
 exact z.elim
theorem sM{P:Program}{w:World}{K:PySem.W.Frag}{mg:Str->Option Value}{base:Heap}{k:Nat}{f:Addr}{fd:FuncData}{ps:List Str}{sp:mT}(h:aO P w K mg base (kA P w) k f fd ps (nY sp)) :
  aO P w K mg base (kA P w) k f fd ps (bq λds Q=>sp ds Q λ_=>False) :=
 h.imp λvs H Q E zq=>by
 obtain⟨F,ds,Qd,e,r,q,k⟩:=zq
 exact⟨F,ds,Qd,_,e,r,q,k,λ_ _ z=>z.elim⟩
end L3
namespace L3
open PySem L2 PySem.Spec PyProof.Rows
theorem lY{CX:eY}{P:Program}{w:World}{K:PySem.W.Frag}{mg:Str->Option Value}{base:Heap}{N:List Str}{q:Str}{sc:Scope}{f:Addr}{aH:Value}{A:Around}{outer:List Env}{s:Shared}{H:Hp}{E:XK}:(ji CX P w K mg base N q sc f aH A outer s H E).K=K:=rfl
theorem GL{K:PySem.W.Frag}{cv:Value}{C:Addr}{r:Bool}(x:uG K C)(h:PySem.W.kitOne K (.ref C) cv=some r):GK K cv (exc C) r:=⟨C,rfl,x,h⟩
theorem yX(φ:uJ):(D.bz φ).pl=true:=rfl
theorem yY(φ:uJ):(D.bz φ).sh=.bz φ:=rfl
end L3
namespace L3
open PySem L2 PySem.Spec PyProof.Rows
theorem lZ{X:Cx}:X.gK.K=X.K:=rfl
end L3
namespace L3
open PySem L2 PySem.Spec PyProof.Rows
noncomputable def gw(xs ys:List D):List D:=cU (λx y=>D.tup [x,y]) xs ys
noncomputable def gR(xs:List D):List D:=xs.mapIdx λi x=>D.tup [.int i,x]
theorem O2(xs ys:List D):(gw xs ys).map D.sh=gw (xs.map D.sh) (ys.map D.sh):=by
 unfold gw
 rw[ED,List.zipWith_map]
 congr 1
theorem cm0{xs ys:List D}(h1:xs.all D.pl=true)(h2:ys.all D.pl=true):(gw xs ys).all D.pl=true:=by
 unfold gw
 rw[de]at h1 h2 ⊢
 intro d hd
 obtain⟨i,hi,e⟩:=jI hd
 rw[List.getElem_zipWith]at e
 subst e
 rw[lH]
 simp only[dB,tZ,nk,eV]
 exact⟨h1 _ (eB _),h2 _ (eB _)⟩
theorem b81(xs:List D):(gR xs).map D.sh=gR (xs.map D.sh):=by
 unfold gR
 apply LW
 intro i
 simp only[cB,EE,Option.map_map]
 cases xs[i]? with
 | none=>rfl
 | some x =>
  show some (D.sh (.tup [.int i,x]))=some (D.tup [.int i,x.sh])
  rw[mJ];rfl
theorem b70{xs:List D}(h1:xs.all D.pl=true):(gR xs).all D.pl=true:=by
 unfold gR
 rw[de]at h1 ⊢
 intro d hd
 obtain⟨i,hi,e⟩:=jI hd
 rw[List.getElem_mapIdx]at e
 subst e
 rw[lH]
 simp only[dB,tZ,nk,eV]
 exact⟨rfl,h1 _ (eB _)⟩
theorem vS(xs:List D):(gR xs).length=xs.length:=by simp[gR]
theorem GN(xs ys:List D):(gw xs ys).length=min xs.length ys.length:=by simp[gw]
section
variable{F H:Hp}{d:D}{v:V}{xs ys:List D}{ws us:List V}{p q:Addr}{K:PySem.W.Frag}
theorem GO(s:S F H [d] [v])(e2:af F H)(e:kE d=some xs):∃p ws,v=.ref p/\Rd H p (.lst ws)/\R H H (xs.map D.sh) ws []/\(d.pl=true->xs.all D.pl=true/\Rd F p (.lst ws)/\R F H xs ws []):=by
 cases s with
 | @shr p ws ys _ _ hp r _ =>
  obtain rfl:=cT e
  refine⟨p,ws,rfl,.inl (e2 _ _ hp),?_,λ_=>⟨r.pl,.inl hp,r⟩⟩
  rw[lK r.pl]
  exact r.shared e2 (af.refl _)
 | @own p ws ys _ _ hp r _ =>
  obtain rfl:=cT e
  exact⟨p,ws,rfl,.inl hp,r.frozen e2,λz=>by simp[gO]at z⟩
 | @fz p o ws ys _ _ hp r _ =>
  obtain rfl:=cT e
  refine⟨p,ws,rfl,.inr ⟨o,e2 _ _ hp⟩,?_,λ_=>⟨r.pl,.inr ⟨o,hp⟩,r⟩⟩
  rw[lK r.pl]
  exact r.shared e2 (af.refl _)
 | aq _=>cases e
 | bl _=>cases e
 | int _=>cases e
 | str _=>cases e
 | tup _ _ _=>cases e
 | obj _ _ _ _=>cases e
 | bz _ _=>cases e
theorem GP(r:R F H xs ws []){i:Nat}(hi:i<xs.length){x:V}(hx:ws[i]?=some x):R F H [xs[i]] [x] []:=by
 obtain⟨v,A1,e2,r1,sub⟩:=r.get (aQ hi)
 rw[hx]at e2;cases e2
 have:A1=[]:=V8.mpr λa ha=>by simpa using sub ha
 subst this
 exact r1
theorem O3(hp:Rd F p (.lst ws))(r:R F H xs ws [])(hq:Rd F q (.lst us))(t:R F H ys us [])(hF:Full F H):JD (FK K p q) F (gw xs ys) where
 go:=λi H' hs hi=>by
  rw[GN]at hi
  have l1:=r.length
  have l2:=t.length
  exact⟨ws,us,_,_,.inl (iP hp hs),.inl (iP hq hs),aQ (show i<ws.length by omega),aQ (show i<us.length by omega)⟩
 ku:=λi H' v H2 hs hi zz=>by
  obtain⟨T,x,y,e1,e2,e3,hx,hy⟩:=zz
  subst e1 e3
  have BX:=hi
  rw[GN]at BX
  have h1:=GP (r.full hF hs rfl) (show i<xs.length by omega) (hx ws (.inl (iP hp hs)))
  have h2:=GP (t.full hF hs rfl) (show i<ys.length by omega) (hy us (.inl (iP hq hs)))
  have sm:=af.upd (o:=.tup [x,y]) e2
  refine⟨_,aQ hi,sm,?_⟩
  have eg:(gw xs ys)[i]=.tup [xs[i]'(by omega),ys[i]'(by omega)]:=by simp[gw]
  rw[eg]
  exact R.tup (A:=[]) (B:=[]) bH ((h1.shared (af.refl _) sm).cons (h2.shared (af.refl _) sm)) .nil
 stop:=λi H' hs hi=>by
  rw[GN]at hi
  have l1:=r.length
  have l2:=t.length
  exact⟨ws,us,.inl (iP hp hs),.inl (iP hq hs),by omega⟩
theorem O4(hp:Rd F p (.lst ws))(r:R F H xs ws [])(hF:Full F H):JD (FR K p) F (gR xs) where
 go:=λi H' hs hi=>by
  rw[vS]at hi
  have l1:=r.length
  exact⟨ws,_,.inl (iP hp hs),aQ (show i<ws.length by omega)⟩
 ku:=λi H' v H2 hs hi zz=>by
  obtain⟨T,x,e1,e2,e3,hx⟩:=zz
  subst e1 e3
  have BX:=hi
  rw[vS]at BX
  have h1:=GP (r.full hF hs rfl) BX (hx ws (.inl (iP hp hs)))
  have sm:=af.upd (o:=.tup [.int i,x]) e2
  refine⟨_,aQ hi,sm,?_⟩
  have eg:(gR xs)[i]=.tup [.int i,xs[i]]:=by simp[gR]
  rw[eg]
  exact R.tup (A:=[]) (B:=[]) bH (.int (h1.shared (af.refl _) sm)) .nil
 stop:=λi H' hs hi=>by
  rw[vS]at hi
  have l1:=r.length
  exact⟨ws,.inl (iP hp hs),by omega⟩
end
section
variable{X:Cx}{a b:Expr}{ta:cE}{p pos ly:Pos}{elts:List Expr}{x1:Nat}
noncomputable def vT(t:cE):jt:=λδ Q=>t δ λds ah=>match ds with
 | [d1,d2]=>∃xs ys,kE d1=some xs/\kE d2=some ys/\Q (d1.pl&&d2.pl) (gw xs ys) ah
 | _=>False
theorem BY(hg:Gl X "zip")(hm:X.mg "zip"=none)(ha:PA X [a,b] (lA ta))(hs:starEach [a,b] X.env=[(false,eval a X.env),(false,eval b X.env)]:=by rfl)(eK:starEach [b] X.env=[(false,eval b X.env)]:=by rfl) :
  PI X (.Tuple elts x1 ly) (.Call (.Name "zip" p) [a,b] [] pos) (lI (vT ta)) :=
 u0 (χ hg hm ha hs eK) λσ H Q zq=>by
 obtain⟨B,F,δ,ts,Qd,c,q,k⟩:=zq
 exact⟨B,F,δ,ts,_,c,q,λds ai vs F1 H1 hd f1 h1 c1 s=>by
  match ds,hd,s with
  | [d1,d2],⟨xs,ys,i1,i2,hq⟩,s =>
   obtain⟨v1,b9,rfl,s1,s2⟩:=s.dj
   obtain⟨v2,dR9,rfl,s2,s3⟩:=s2.dj
   cases s3
   have e2:=c1.ext
   have sn:=rL e2
   obtain⟨p1,w1,rfl,r1,t1,u1⟩:=GO s1 e2 i1
   obtain⟨p2,w2,rfl,r2,t2,u2⟩:=GO s2 e2 i2
   refine⟨p1,p2,rfl,⟨w1,.inl r1⟩,⟨w2,.inl r2⟩,k _ _ ai _ _ H1 hq (f1.trans sn) h1 c1.snap ?_ λz=>?_⟩
   ·rw[O2]
    exact O3 r1 t1 r2 t2 (Full.refl _)
   ·rw[eV]at z
    obtain⟨a1,a2,a3⟩:=u1 z.1
    obtain⟨b1,b2,b3⟩:=u2 z.2
    exact⟨cm0 a1 b1,O3 (iP a2 sn) (a3.shared sn (af.refl _)) (iP b2 sn) (b3.shared sn (af.refl _)) uK⟩⟩
noncomputable def vU(t:cE):jt:=λδ Q=>t δ λds ah=>match ds with
 | [d1]=>∃xs,kE d1=some xs/\Q d1.pl (gR xs) ah
 | _=>False
theorem yZ(hg:Gl X "enumerate")(hm:X.mg "enumerate"=none)(ha:PA X [a] (lA ta))(hs:starEach [a] X.env=[(false,eval a X.env)]:=by rfl) :
  PI X (.Tuple elts x1 ly) (.Call (.Name "enumerate" p) [a] [] pos) (lI (vU ta)) :=
 u0 (Δ hg hm ha hs) λσ H Q zq=>by
 obtain⟨B,F,δ,ts,Qd,c,q,k⟩:=zq
 exact⟨B,F,δ,ts,_,c,q,λds ai vs F1 H1 hd f1 h1 c1 s=>by
  match ds,hd,s with
  | [d1],⟨xs,i1,hq⟩,s =>
   obtain⟨v1,b9,rfl,s1,s2⟩:=s.dj
   cases s2
   have e2:=c1.ext
   have sn:=rL e2
   obtain⟨p1,w1,rfl,r1,t1,u1⟩:=GO s1 e2 i1
   refine⟨p1,rfl,⟨w1,.inl r1⟩,k _ _ ai _ _ H1 hq (f1.trans sn) h1 c1.snap ?_ λz=>?_⟩
   ·rw[b81]
    exact O4 r1 t1 (Full.refl _)
   ·obtain⟨a1,a2,a3⟩:=u1 z
    exact⟨b70 a1,O4 (iP a2 sn) (a3.shared sn (af.refl _)) uK⟩⟩
end
end L3
namespace L3
open PySem L2 PySem.Spec PyProof.Rows
section
variable{X:Cx}{F H:Hp}{e b:Expr}{pos p p2 p3 pr apos bE GC:Pos}{t ti te:aI}{x y:Str}{i j:Nat}
theorem GQ{α:Type}{xs:List α}{k:Nat}{v:α}(h:xs[k]?=some v):fq xs (k:Int)=some v:=by
 unfold fq jl
 have hk:k<xs.length:=(ke.mp h).1
 rw[if_pos (by omega),if_pos (by omega)]
 exact h
end
section
variable{X:Cx}{CX:eY}{k:Nat}{f:Addr}{fd:FuncData}{ps:List Str}{sp:bh}{E:XK}{fn x1 x2 y1 y2:Str}{i1 i2 j1 j2:Nat}{tk:Nat}
 {tp t1 t2 zp dS0 q1 q2 fp dS1 a1 a2 cT0 dS2 dS3 cp GC pr apos bE dS4 pos:Pos}
end
end L3
namespace L3
open PySem L2 PySem.Spec PyProof.Rows
theorem ak.cT1{B:Bs}{F H:Hp}{σ:L2.St}{δ:Dl}{ts:List (D × V)}{a b:D}{v:V}(c:ak B F H σ δ ((.tup [a,b],v)::ts)):∃p u w,v=.ref p/\H p=some (.tup [u,w])/\ak B F H σ δ ((a,u)::(b,w)::ts):=by
 obtain⟨A,C,r,s,nd,fr⟩:=c.own
 cases r with
 | @tup p ws xs A1 _ _ B1 hp r1 r2 =>
  obtain⟨u,gr,A2,A3,rfl,rfl,h1,h2⟩:=r1.dj
  obtain⟨w,dS5,A4,A5,rfl,rfl,h3,h4⟩:=h2.dj
  cases h4
  refine⟨p,u,w,rfl,hp,c.ext,c.b1,c.b2,c.b3,A2++(A4++B1),C,h1.cons (h3.cons r2),s,?_,?_⟩
  ·simpa using nd
  ·intro a ha;exact fr a (by simpa using ha)
section
variable{X:Cx}{y1 y2:Str}{i1 i2 tk m:Nat}{t1 t2 tp:Pos}
noncomputable def iV(i1 i2:Nat):iq:=λd δ Q=>match d with
 | .tup [a,b]=>Q ((δ.set i1 (some a)).set i2 (some b))
 | _=>False
theorem vV(hc:X.calm=true)(BZ:X.N.Nodup)(m1:X.N[i1]?=some y1)(l1:Loc X.env.scope y1)(m2:X.N[i2]?=some y2)(l2:Loc X.env.scope y2)(O5:m<=i1:=by decide)(qa:m<=i2:=by decide)
  (f1:X.fn y1=true\/X.env.scope.names.lookup y1=some .local:=by first | exact .inl rfl | exact .inr rfl | assumption) (f2:X.fn y2=true\/X.env.scope.names.lookup y2=some .local:=by first | exact .inl rfl | exact .inr rfl | assumption)
  (GR:(assignEach [.Name y1 t1,.Name y2 t2] X.env).map (·.2)=assign (.Name y1 t1) X.env::(assignEach [.Name y2 t2] X.env).map (·.2):=by rfl) (GS:(assignEach [.Name y2 t2] X.env).map (·.2)=assign (.Name y2 t2) X.env::(assignEach [] X.env).map (·.2):=by rfl)
  (hn:(assignEach [.Name y1 t1,.Name y2 t2] X.env).length=2:=by rfl) (cu:(assignEach [.Name y1 t1,.Name y2 t2] X.env).findIdx? (·.1)=none:=by rfl) :
  PG X (.Tuple [.Name y1 t1,.Name y2 t2] tk tp) (lG m (iV i1 i2)) :=
 Oc (Xd hc (MB (Bg BZ m1 l1 f1) (MB (Bg BZ m2 l2 f2) Xb GS) GR) hn cu) λv σ H Q zz=>by
  obtain⟨B,F,δ,ts,d,Qd,c,q,k⟩:=zz
  obtain⟨a,b,rfl,q⟩:∃a b,d=D.tup [a,b]/\Qd ((δ.set i1 (some a)).set i2 (some b)):=by
   unfold iV at q
   split at q
   ·exact⟨_,_,rfl,q⟩
   ·exact q.elim
  obtain⟨p,u,w,rfl,hp,c2⟩:=c.cT1
  refine⟨p,[u,w],rfl,g9.of hp,rfl,u,[w],rfl,w,[],rfl,rfl,k _ _ q (by simp) (λj hj=>?_) ((c2.store i1).store i2)⟩
  rw[qK (by omega),qK (by omega)]
end
open Classical in
theorem fB{α:Type}{sh:Bool}{xs:List D}{aB:List (Str × Nat)}{n m:Nat}{te:aI}{ai:Dl}{Q:D->Dl->Prop}(l:List α)(e g:α->D)(jw:xs.map D.sh=l.map e)(inj:∀a b,e a=e b->a=b)
  (hx:∀a∈l,te ((gv aB n ai).set m (some (e a))) λd _=>d=g a) (eM:(sh&&aB.all (ju ai))=true\/∀a∈l,(g a).fr=true) (hl:l.length<=sizeLine) (hq:Q (.lst true (l.map g)) ai):u9 sh xs aB n (gN m) mM te ai Q:=by
 let f:D->D:=λx=>if h:∃a∈l,e a=x then g h.choose else .aq
 have hf:∀a∈l,f (e a)=g a:=λa ha=>by
  have h:∃b∈l,e b=e a:=⟨a,ha,rfl⟩
  show(if h:∃b∈l,e b=e a then g h.choose else .aq)=g a
  rw[dif_pos h]
  exact congrArg g (inj _ _ h.choose_spec.2)
 refine b66 f (λx h=>?_) (eM.imp id λh x hx=>?_) ?_ ?_
 ·rw[jw]at h
  obtain⟨a,ha,rfl⟩:=aX.mp h
  rw[hf a ha];exact hx a ha
 ·rw[jw]at hx
  obtain⟨a,ha,rfl⟩:=aX.mp hx
  rw[hf a ha];exact h a ha
 ·have:=congrArg Ej jw
  simp at this
  omega
 ·rw[jw,bW,show l.map (f ∘ e)=l.map g from i6 λa ha=>hf a ha]
  exact hq
end L3
namespace L3
open PySem L2 PySem.Spec PyProof.Rows
end L3
namespace L2
open PySem PySem.Spec PyProof.Rows
section
variable{X:Cx}
end
end L2
namespace L3
open PySem L2 PySem.Spec PyProof.Rows
noncomputable abbrev tx(l:List Nat):D:=.str ⟨l.toArray⟩
section
variable{X:Cx}{F H:Hp}{e:Expr}{es:List Expr}{t:aI}{pos p p2 apos bE:Pos}
noncomputable def sN(x:D)(lo hi:Option Int)(Q:D->Prop):Prop:=match x with
 | .lst _ xs=>xs.all D.pl=true/\Q (.lst true (fV xs lo hi))
 | .fz xs=>Q (.lst true (fV xs lo hi))
 | .str z=>z.length<=sizeLine/\Q (tx (fV z.cps.toList lo hi))
 | _=>False
noncomputable def vW(t:aI)(tl th:vA):aI:=λδ Q=>t δ λx ai=>tl ai λl aR=>th aR λu iS=>sN x l u λd=>Q d iS
theorem sO{lo hi:Option Expr}{tl th:vA}(he:PE X e (lB t))(hl:PO X lo (lP tl))(hu:PO X hi (lP th)):PE X (.Subscript e (.Slice lo hi none p2) pos) (lE (vW t tl th)) :=
 dq (Yx (YK.or Ξ) he hl hu) λσ H Q zq=>by
 obtain⟨B,F,δ,ts,Qd,c,q,k⟩:=zq
 exact⟨B,F,δ,ts,_,c,q,λx ai v F1 H1 q1 f1 h1 c1 s1=>⟨B,F1,ai,ts,_,c1,q1,λl aR F2 H2 q2 f2 h2 c2=>⟨B,F2,aR,ts,_,c2,q2,λu iS F3 H3 q3 f3 h3 c3=>by
  have nU:=s1.mono (f2.trans f3) (h2.trans h3)
  unfold sN at q3
  split at q3
  ·obtain⟨p,ws,rfl,h,t⟩:=mP nU c3.ext rfl
   exact .inl ⟨p,ws,rfl,kF h,λr hr=>k _ iS _ F3 _ q3.2 ((f1.trans f2).trans f3) (((h1.trans h2).trans h3).trans (af.upd hr)) (c3.pV hr (t.cut _ _) (OG q3.1 _ _))⟩
  ·obtain⟨p,ws,rfl,h,t⟩:=mP nU c3.ext rfl
   cases nU with
   | fz h' r _=>exact .inl ⟨_,_,rfl,kF (.inr ⟨_,c3.ext _ _ h'⟩),λr' hr=>k _ iS _ F3 _ q3 ((f1.trans f2).trans f3) (((h1.trans h2).trans h3).trans (af.upd hr)) (c3.pV hr (r.s.cut _ _) (OG r.pl _ _))⟩
  ·cases nU with
   | str _=>exact .inr ⟨_,rfl,q3.1,k _ iS _ F3 H3 q3.2 ((f1.trans f2).trans f3) ((h1.trans h2).trans h3) (c3.pushS (.str .nil) rfl)⟩
  ·exact q3.elim⟩⟩⟩
end
theorem y0(a:List Nat):(⟨a.toArray⟩:Str).length=a.length:=by show a.toArray.size=_;simp
end L3
namespace L3
open PySem L2 PySem.Spec PyProof.Rows
noncomputable def au(l:List Nat):List D:=aF (l.map λ(n:Nat)=>(n:Int))
theorem iy(l:List Nat):(au l).length=l.length:=by unfold au;rw[nW,aY]
theorem du(l:List Nat):au l=l.map λ(n:Nat)=>D.int (n:Int):=by unfold au aF;rw[bW];rfl
theorem qj(l:List Nat):(au l).map D.sh=l.map λ(n:Nat)=>D.int (n:Int):=by unfold au;rw[kG];exact du l
theorem l6(a b:Nat)(h:D.int (a:Int)=D.int (b:Int)):a=b:=by injection h with h;omega
theorem nZ(l:List Nat):(au l).all D.pl=true:=qg _
theorem sP(l:List Nat):(au l).map D.sh=au l:=kG _
theorem qk(a b:List Nat):au a++au b=au (a++b):=by unfold au;rw[sH,dS]
theorem y6(l:List Nat)(lo hi:Option Int):fV (au l) lo hi=au (fV l lo hi):=by
 unfold au
 rw[vI]
 congr 1
 unfold fV
 rw[aY,LV,LU]
theorem GU{α:Type}(xs:List α)(b:Nat):fV xs none (some (b:Int))=xs.take b:=by
 have:=ce6 xs 0 b
 unfold fV at this ⊢
 simpa[HT.di]using this
theorem B0{α:Type}(xs:List α)(a:Nat):fV xs (some (a:Int)) none=xs.drop a:=by
 unfold fV
 rw[HT.Fh]
 show(xs.drop (min a xs.length)).take (xs.length-min a xs.length)=_
 by_cases h:a<=xs.length
 ·rw[Nat.min_eq_left h,tW (by rw[fA];exact bD _)]
 ·rw[Nat.min_eq_right (by omega),List.drop_length,EC (by omega)];simp
end L3
namespace L2
open PySem PySem.Spec PyProof.Rows
section
variable{X:Cx}{tg l o e:Expr}{tl to te:TE}{apos bE:Pos}
end
end L2
namespace L3
open PySem L2 PySem.Spec PyProof.Rows
section
variable{X:Cx}{F H:Hp}{tg l e:Expr}{te t tb:aI}{apos bE pos:Pos}
variable{o:Expr}
theorem GV:∀{ns:List Int} {ws:List V},S F H (aF ns) ws->ws=ns.map V.int
 | [],_,s=>by cases s;rfl
 | n::ns,_,s=>by
  cases s with
  | int s=>rw[GV s];rfl
end
end L3
namespace L3
open PySem L2 PySem.Spec PyProof.Rows
end L3
namespace L2
open PySem PySem.Spec PyProof.Rows
noncomputable def Tb(ts:List Addr)(H:Hp):Prop:=∀P∈ts,∃ps,H P=some (.dP ps)
structure vX(ts:List Addr)(H:Hp):Prop where
 any:∀b,H b=none\/(∃o xs,H b=some (.bu o (.lst xs)))\/(b∈ts/\H b=some (.dP #[]))
 tab:∀P∈ts,H P=some (.dP #[])
theorem vX.tb{ts:List Addr}{H:Hp}(h:vX ts H):Tb ts H:=λP hP=>⟨#[],h.tab P hP⟩
noncomputable def Bm(mg:Str->Option Value)(base:Heap):Prop:=∃bm o,mg "__builtins__"=some (.ref bm)/\bm≠builtinsNs/\bm≠mainGlobals/\base.get? bm=some o/\o.cls=.type "module"/\o.dict=some builtinsNs/\o.data=.plain
theorem bN7{P:Program}{w:World}{K:PySem.W.Frag}{mg mb:Str->Option Value}{CX:eY}{k:Nat}{fa a:Addr}{fd:FuncData}{x:Str}{sp:Sp}{bA:Shared}{vs:List Value}{ns:List Int}{ts:List Addr}
  (KX:K.In bA.heap) (B4:bA.heap.Ns mainGlobals mg) (hb:bA.heap.Ns builtinsNs mb) (hbb:∀x:Str,x≠"__name__"->mb x=bootBuiltins x) (cT4:bA.heap.NoLimit) (hg:bA.gens=#[])
  (ht:∀P∈ts,bA.heap.get? P=some (PySem.W.tabObj #[])) (GW:∀P∈ts,isCodeTable bA.heap P) (hkt:∀P∈ts,K.lookup P=none)
  (ha:bA.heap.get? a=some { cls:=.type "list",data:=.seq vs.toArray }) (hi:IntsAre vs ns) (hl:ns.length<=sizeLine) (hr:bX k callerA)
  (y7:Bm mg bA.heap) (F:∀base:Heap,K.In base->base.Ns mainGlobals mg->Bm mg base->aO P w K mg base CX k fa fd [x] sp) (cT6:∀(s:Shared) (u:Value),BindsTo s fd ⟨[u],[]⟩ [(x,u)])
  (jj:∀H:Hp,vX ts H->bF K H a (ns.map V.int)->sp [.ref a] H (λv _=>v=.bl true) λ_ _ _=>False)
  (GX:∀H e s',CX [] H bA (λ_ _ _=>False) e s'->False) :
  codeAny (model P w) callerA (.call (.ref fa) ⟨[.ref a],[]⟩) (λr s'=>r=.ok (.ret (.bool true))/\OldK bA.heap s'.heap/\s'.os=bA.os/\AllBare s'.gens) bA:=by
 have rv:=Ni hi
 have cT7:=hi.length
 have nat:a ∉ ts:=λz=>by
  have:=ht a z
  rw[ha]at this
  cases this
 have core:∀H:Hp,vX ts H->bF K H a (ns.map V.int)->cQ P w H bA.heap->(∀b,H b≠none->b=a\/b∈ts)->(H a≠none->K.lookup a=none) ->
   codeAny (model P w) callerA (.call (.ref fa) ⟨[.ref a],[]⟩) (λr s'=>r=.ok (.ret (.bool true))/\OldK bA.heap s'.heap/\s'.os=bA.os/\AllBare s'.gens) bA:=by
  intro H hO hS aE hA hK
  have GY:∀{b:Addr} {o:Obj},bA.heap.get? b=some o->H b=none->(mB bA.heap H).get? b=some o:=λe n=>WD e n
  have xQ:∀{b:Addr} {o:Obj} {es:Array DictEntry} {ep:Nat},bA.heap.get? b=some o->o.data=.dict es ep->H b=none:=λ{b o es ep} e d=>by
   cases q:H b with
   | none=>rfl
   | some u =>
    rcases hA b (by rw[q];simp)with e' | e'
    ·subst e'
     rw[ha]at e;cases e
     have d':Data.seq vs.toArray _=Data.dict es ep:=d
     cases d'
    ·rw[ht b e']at e;cases e
     have d':Data.fields #[]=Data.dict es ep:=d
     cases d'
  have B5:∀{b:Addr} {m:Str->Option Value},bA.heap.Ns b m->(mB bA.heap H).Ns b m:=λ{b m} ⟨o,es,ep,e,d,r⟩=>⟨o,es,ep,GY e (xQ e d),d,r⟩
  have O6:K.In (mB bA.heap H):=λb o e=>GY (KX b o e) (by
   cases q:H b with
   | none=>rfl
   | some u =>
    rcases hA b (by rw[q];simp)with e' | e'
    ·subst e'
     rw[hK (by rw[q];simp)]at e;cases e
    ·rw[hkt b e']at e;cases e)
  have hBm:Bm mg (mB bA.heap H):=by
   obtain⟨bm,o,b1,b2,b3,b4,b5,b6,b7⟩:=y7
   refine⟨bm,o,b1,b2,b3,GY b4 ?_,b5,b6,b7⟩
   cases q:H bm with
   | none=>rfl
   | some u =>
    rcases hA bm (by rw[q];simp)with e' | e'
    ·rw[e',ha]at b4;cases b4
     have d':Data.seq vs.toArray _=Data.plain:=b7
     cases d'
    ·rw[ht bm e']at b4;cases b4
     have d':Data.fields #[]=Data.plain:=b7
     cases d'
  have hM:Mod K mg (mB bA.heap H):=⟨O6,B5 B4,⟨mb,B5 hb,hbb⟩,let⟨mc,h1,h2⟩:=cT4;⟨mc,B5 h1,h2⟩⟩
  have e0:jg P w K mg (mB bA.heap H) callerA [] bA H:=⟨rfl,hM,λb o e=>WE e,xi (WC _ _),trivial,λb hb=>absurd (show b∈([]:List Addr) from hb) (by simp),aE,.of_eq hg⟩
  refine codeAny_mono ((F _ O6 (B5 B4) hBm).run callerA [] bA H ⟨[.ref a],[]⟩ [.ref a] [.ref a] _ _ hr e0 (cT6 bA (.ref a)) (.cons rfl .nil) (jj H hO hS)) λr s' h=>?_
  cases r with
  | error e=>exact(GX H e s' h).elim
  | ok fl =>
   cases fl with
   | next=>exact fj h
   | brk=>exact fj h
   | cont=>exact fj h
   | ret u =>
    obtain⟨v,H',os,bare,un,O7,r',q⟩:=h
    have q':v=.bl true:=q
    subst q'
    obtain rfl:u=Eg true:=r'
    have each:∀b o,bA.heap.get? b=some o->asItWas bA.heap s'.heap b o/\∃o',s'.heap.get? b=some o':=λb o e=>by
     cases q:H b with
     | none =>
      have z:=un.keep b o e q (by intro z;exact absurd (show b∈([]:List Addr) from z) (by simp)) (by simp)
      exact⟨.inl z,o,z⟩
     | some u =>
      rcases hO.any b with z | ⟨ob,xs,z⟩ | ⟨jW,z⟩
      ·rw[q]at z;cases z
      ·have z2:=un.g8 b ob _ z
       obtain⟨e1,_⟩:=aE b _ z
       obtain⟨e2,_⟩:=O7 b _ z2
       rw[e]at e1;cases e1
       exact⟨.inl e2,_,e2⟩
      ·obtain⟨more,z2⟩:=un.gE b _ z
       have e2:=(O7 b _ z2).1
       rw[ht b jW]at e;cases e
       exact⟨.inr (.inl ⟨GW b jW,rfl,#[],more,rfl,e2⟩),_,e2⟩
    exact⟨rfl,⟨λb o e=>(each b o e).1,λb o e=>(each b o e).2⟩,os,bare⟩
 have tok:∀(H:Hp) (b:Addr),b∈ts->eC P w H bA.heap b (.dP #[]):=λH b hb=>⟨ht b hb,trivial,λpos cv q=>by cases q⟩
 cases hk:K.lookup a with
 | some o =>
  have e:=KX a o hk
  rw[ha]at e
  cases e
  refine core (λb=>if b∈ts then some (.dP #[])else none) ⟨λb=>?_,λb hb=>if_pos hb⟩ (.inr ⟨_,vs.toArray,_,hk,rfl,rfl,rfl,by rw[dN,cT7];exact hl,by simpa using rv⟩) (λb u z=>?_) (λb z=>?_) λz=>absurd (if_neg nat) z
  ·by_cases hb:b∈ts
   ·exact .inr (.inr ⟨hb,if_pos hb⟩)
   ·exact .inl (if_neg hb)
  ·by_cases hb:b∈ts
   ·have z':=(if_pos hb).symm.trans z
    cases z'
    exact tok _ b hb
   ·have z':=(if_neg hb).symm.trans z
    cases z'
  ·by_cases hb:b∈ts
   ·exact .inr hb
   ·exact absurd (if_neg hb) z
 | none =>
  refine core (λb=>if b=a then some (.bu { cls:=.type "list",data:=.seq vs.toArray } (.lst (ns.map V.int)))else if b∈ts then some (.dP #[])else none) ⟨λb=>?_,λb hb=>?_⟩ (.inl (.inr ⟨{ cls:=.type "list",data:=.seq vs.toArray },if_pos rfl⟩)) (λb u z=>?_) (λb z=>?_) λ_=>hk
  ·by_cases hb:b=a
   ·exact .inr (.inl ⟨_,_,if_pos hb⟩)
   ·by_cases jW:b∈ts
    ·exact .inr (.inr ⟨jW,(if_neg hb).trans (if_pos jW)⟩)
    ·exact .inl ((if_neg hb).trans (if_neg jW))
  ·have kC:b≠a:=λz=>nat (z ▸ hb)
   exact(if_neg kC).trans (if_pos hb)
  ·by_cases hb:b=a
   ·have z':=(if_pos hb).symm.trans z
    cases z'
    subst hb
    exact⟨ha,by rw[aY];exact hl,vs,_,rv,ha⟩
   ·by_cases jW:b∈ts
    ·have z':=((if_neg hb).trans (if_pos jW)).symm.trans z
     cases z'
     exact tok _ b jW
    ·have z':=((if_neg hb).trans (if_neg jW)).symm.trans z
     cases z'
  ·by_cases hb:b=a
   ·exact .inl hb
   ·by_cases jW:b∈ts
    ·exact .inr jW
    ·exact absurd ((if_neg hb).trans (if_neg jW)) z
theorem cT9{l:PySem.W.OpenLaw}{n k:Nat}{q:Program}{loose:List Str}{XP:(Str->Option Value)->Heap->Prop}{YP:World->Heap->Prop}{d:DefRec}{K:Params->PySem.W.Frag}{CX:World->eY}{sp:World->Sp}{x:Str}{ts:List Addr}
  (hn:l.most=some n) (Bq:n<=sizeLine) (xU:d.params.defaults=[]) (hr:bX k callerA)
  (hY:∀(w:World) (h:Heap),YP w h->(K w.params).In h/\∀P∈ts,h.get? P=some (PySem.W.tabObj #[]))
  (hC:∀(w:World) (h:Heap),(K w.params).In h->∀P∈ts,(K w.params).lookup P=none/\∃c,PySem.W.CodeHd h c P)
  (F:∀(w:World) (mg:Str->Option Value) (fa:Addr) (h:Heap),(K w.params).In h->h.Ns mainGlobals mg->mg d.name=some (.ref fa) ->
   ∃fd:FuncData,(∀(s:Shared) (u:Value),BindsTo s fd ⟨[u],[]⟩ [(x,u)]) /\
    ∀base:Heap,(K w.params).In base->base.Ns mainGlobals mg->Bm mg base->aO l.prog w (K w.params) mg base (CX w) k fa fd [x] (sp w))
  (jj:∀(w:World) (H:Hp) (a:Addr) (ns:List Int),ns.length<=n->vX ts H->bF (K w.params) H a (ns.map V.int)->sp w [.ref a] H (λv _=>v=.bl true) λ_ _ _=>False)
  (GX:∀(w:World) (H:Hp) (s:Shared) (e:Value) (s':Shared),CX w [] H s (λ_ _ _=>False) e s'->False) :
  PySem.W.WalkO q loose XP YP l.row.toRowW d [] (λf vs=>PySem.call f vs):=by
 refine Att.Y7 hn xU λw cJ bA mg mb fa o pm cd doc a vs ns G Y ho hd cM xV Fv hints hlen hg=>?_
 obtain⟨KX,hT⟩:=hY w _ Y
 obtain⟨fd,hb,hF⟩:=F w mg fa _ KX G.T.g xV
 have GW:∀P∈ts,isCodeTable bA.heap P:=λP hP=>by
  obtain⟨_,c,C⟩:=hC w _ KX P hP
  exact(C.tab (hT P hP)).isCodeTable
 have y7:Bm mg bA.heap:=by
  obtain⟨bm,ob,b1,b2,b3,b4,b5,b6⟩:=G.T.bmain
  refine⟨bm,ob,b1,b2,λq=>?_,b3,b4,b5,b6⟩
  obtain⟨o,es,ep,e,hd,_⟩:=G.T.g
  rw[q,e]at b3;cases b3;rw[hd]at b6;cases b6
 exact bN7 KX G.T.g G.T.b G.T.builtins G.T.nolimit hg hT GW (λP hP=>(hC w _ KX P hP).1) Fv hints (dy hlen Bq) hr y7 hF hb (λH hO hS=>jj w H a ns hlen hO hS) λH e s'=>GX w H bA e s'
end L2
namespace L3
open PySem L2 PySem.Spec PyProof.Rows
noncomputable def vY(ts:List Addr)(sp:Sp):Sp:=λvs H Q E=>Tb ts H/\sp vs H Q E
theorem GZ{X:Cx}{pins:List (Addr × Obj)}{σ:L2.St}{H:Hp}{s:Shared}{ts:List Addr}(I:Inv X pins σ H s)(h:Tb ts X.km):Tb ts H:=λP hP=>by
 obtain⟨ps,e⟩:=h P hP
 obtain⟨m,e2⟩:=I.base.gE P ps e
 exact⟨_,e2⟩
noncomputable def B6(ts:List Addr)(K:PySem.W.Frag):Sp:=λvs H Q _=>∃(a:Addr) (ns:List Int),vs=[.ref a]/\vX ts H/\bF K H a (ns.map V.int)/\ns.length<=63/\∀H',Q (.bl true) H'
theorem b52{ts:List Addr}{K:PySem.W.Frag}(nl:K.all (λp=>GB p.2)=true){vs:List V}{H:Hp}{Q:VK}{E:XK}(h:B6 ts K vs H Q E):vY ts (bq OH) vs H Q E:=by
 obtain⟨a,ns,rfl,hO,hS,hl,q⟩:=h
 have hz:∃o,H a=some (.bu o (.lst (ns.map V.int))):=by
  rcases hS with (hS | hS) | ⟨o,its,n,hk,hc,_⟩
  ·rcases hO.any a with z | ⟨o,xs,z⟩ | ⟨_,z⟩
   ·rw[hS]at z;cases z
   ·rw[hS]at z;cases z
   ·rw[hS]at z;cases z
  ·exact hS
  ·have hm:=bz4 hk
   have:=de.mp nl _ hm
   simp[GB,hc]at this
 obtain⟨o,ho⟩:=hz
 refine⟨hO.tb,H,[.fz (aF ns)],λd=>d=.bl true,af.refl _,.fz ho (lV ns) .nil,⟨ns,rfl,hl,rfl⟩,λd v F' H' A hd hs hf he h3 r nd fr=>?_⟩
 subst hd
 cases r
 exact q H'
end L3
namespace L2
open PySem PySem.Spec PyProof.Rows
noncomputable def rem(H:Hp)(f c:Addr):Hp:=λb=>if b=f\/b=c then none else H b
noncomputable def n6(H H':Hp)(f c:Addr):Hp:=λb=>if b=f\/b=c then H b else H' b
section
variable{P:Program}{w:World}{H H':Hp}{h:Heap}{a b f c:Addr}{o:HO}{of oc:Obj}
theorem O8:rem H f c f=none:=if_pos (.inl rfl)
theorem B7:rem H f c c=none:=if_pos (.inr rfl)
theorem iz(h1:b≠f)(h2:b≠c):rem H f c b=H b:=if_neg (by simp[h1,h2])
theorem vZ(e:H b=none):rem H f c b=none:=by unfold rem;split;rfl;exact e
theorem O9(e:rem H f c b=some o):b≠f/\b≠c/\H b=some o:=by
 unfold rem at e
 split at e
 ·cases e
 ·rename_i n
  exact⟨λz=>n (.inl z),λz=>n (.inr z),e⟩
theorem ql(h1:b≠f)(h2:b≠c):n6 H H' f c b=H' b:=if_neg (by simp[h1,h2])
theorem Pa:n6 H H' f c f=H f:=if_pos (.inl rfl)
theorem G0:n6 H H' f c c=H c:=if_pos (.inr rfl)
theorem eC.rem{φ:Heap->Prop}(x:eC P w H h a o)(ha:a≠f)(hf:H f=some (.ext φ))(hc:H c=some (.own f)\/H c=none)(G1:¬ ∀h',φ h'->∃q,h'.CodeRec (.ref f) q):eC P w (rem H f c) h a o:=by
 have own:∀b,H b=some (.own a)->L2.rem H f c b=some (.own a):=λb e=>by
  rw[iz (λz=>by subst z;rw[hf]at e;cases e) (λz=>by subst z;rcases hc with hc | hc<;>(rw[hc]at e;cases e);exact ha rfl)];exact e
 have tup:∀b xs,H b=some (.tup xs)->L2.rem H f c b=some (.tup xs):=λb xs e=>by
  rw[iz (λz=>by subst z;rw[hf]at e;cases e) (λz=>by subst z;rcases hc with hc | hc<;>(rw[hc]at e;cases e))];exact e
 induction o with
 | lst xs=>exact x
 | tup xs=>exact x
 | dK dU=>exact x
 | dT dU =>
  obtain⟨z,y,xs,r,ob⟩:=x
  exact⟨z,y,xs,Paired.EU r λp q z=>⟨z.1,tup _ _ z.2.1,z.2.2⟩,ob⟩
 | set S n=>exact x
 | ins C dx fs =>
  obtain⟨d,r⟩:=x
  exact⟨own _ d,r⟩
 | own y=>exact x
 | xd fs=>exact x
 | xw lo hi=>exact x
 | bu ob u ih=>obtain⟨e,q⟩:=x;exact⟨e,ih q⟩
 | dP ps =>
  obtain⟨e,t,cc⟩:=x
  refine⟨e,t,λpos cv q=>?_⟩
  obtain⟨d,φ,e1,e2,e3⟩:=cc pos cv q
  refine⟨d,φ,e1,?_,e3⟩
  rw[iz (λz=>?_) (λz=>by subst z;rcases hc with hc | hc<;>(rw[hc]at e2;cases e2))]
  ·exact e2
  ·subst z
   rw[hf]at e2;cases e2
   exact G1 e3
 | met f y=>exact x
 | ext φ=>obtain⟨p,r,st⟩:=x;exact⟨p,r,λh1 h2 p1 kk=>st h1 h2 p1 λb o hb q=>kk b o (hb.imp id (own b)) q⟩
theorem Pb{φ:Heap->Prop}{fd:FuncData}(p:φ h)(g:∀h',φ h'->h'.get? f=some of)(hd:of.data=.func fd):¬ ∀h',φ h'->∃q,h'.CodeRec (.ref f) q:=λz=>by
 obtain⟨q,k,ok,vs,t,q1,q2,q3,_⟩:=z h p
 cases q1
 rw[g h p]at q2;cases q2
 rw[hd]at q3;cases q3
theorem cQ.lam(ok:cQ P w H h)(hf:H f=some (.ext (L3.jS of oc c f))):L3.jS of oc c f h:=(ok f _ hf).1
theorem cQ.rem{fd:FuncData}(ok:cQ P w H h)(hf:H f=some (.ext (L3.jS of oc c f)))(hc:H c=some (.own f))(hd:of.data=.func fd):cQ P w (rem H f c) h:=λb o e =>
 let⟨h1,_,h3⟩:=O9 e;(ok b o h3).rem h1 hf (.inl hc) (Pb (ok.lam hf) (λ_ p=>p.1) hd)
end
theorem jg.rem{P:Program}{w:World}{K:PySem.W.Frag}{mg:Str->Option Value}{base:Heap}{A:Around}{outer:List Env}{s:Shared}{H:Hp}{f c:Addr}{of oc:Obj}{fd:FuncData}(e:jg P w K mg base A outer s H)
  (hf:H f=some (.ext (L3.jS of oc c f))) (hc:H c=some (.own f)) (hd:of.data=.func fd):jg P w K mg base A outer s (rem H f c) :=
 ⟨e.frames,e.mod,λb o q=>⟨(e.bs b o q).1,vZ (e.bs b o q).2⟩,e.i9,e.gn,λb hb=>vZ (e.jc b hb),e.aE.rem hf hc hd,e.bare⟩
theorem CE.add{P:Program}{w:World}{K:PySem.W.Frag}{mg:Str->Option Value}{base:Heap}{A:Around}{outer:List Env}{s s':Shared}{H:Hp}{f c:Addr}{of oc:Obj}{Q Q':VK}{u:Value}(e0:jg P w K mg base A outer s H)
  (hf:H f=some (.ext (L3.jS of oc c f))) (hc:H c=some (.own f)) (h:CE outer P w (rem H f c) s Q u s') (hQ:∀v H',Q v H'->H' f=none->H' c=none->Q' v (n6 H H' f c)):CE outer P w H s Q' u s':=by
 obtain⟨v,H',os,bare,un,aE,r,q⟩:=h
 obtain⟨gf,gc⟩:=e0.aE.lam hf
 have Pc:∀{b o},H b=some o->b ∉ dW outer:=λ{b o} e z=>by rw[e0.jc b z]at e;cases e
 have nf:H' f=none:=un.free f _ gf O8 (by simp)
 have nc:H' c=none:=un.free c _ gc B7 (by simp)
 have kf:=un.keep f _ gf O8 (Pc hf) (by simp)
 have kc:=un.keep c _ gc B7 (Pc hc) (by simp)
 refine⟨v,n6 H H' f c,os,bare,⟨λb o e n=>un.keep b o e (vZ n),λb o e n=>un.slot b o e (vZ n),λb o e n x=>?_,un.there,λb xs e=>?_,λb ob xs e=>?_,λb ps e=>?_⟩,λb o e=>?_,r,hQ v H' q nf nc⟩
 ·rw[ql (λz=>by subst z;rw[hf]at n;cases n) (λz=>by subst z;rw[hc]at n;cases n)]
  exact un.free b o e (vZ n) x
 ·have n1:b≠f:=λz=>by subst z;rw[hf]at e;cases e
  have n2:b≠c:=λz=>by subst z;rw[hc]at e;cases e
  rw[ql n1 n2]
  exact un.iK b xs (by rw[iz n1 n2];exact e)
 ·have n1:b≠f:=λz=>by subst z;rw[hf]at e;cases e
  have n2:b≠c:=λz=>by subst z;rw[hc]at e;cases e
  rw[ql n1 n2]
  exact un.g8 b ob xs (by rw[iz n1 n2];exact e)
 ·have n1:b≠f:=λz=>by subst z;rw[hf]at e;cases e
  have n2:b≠c:=λz=>by subst z;rw[hc]at e;cases e
  rw[ql n1 n2]
  exact un.gE b ps (by rw[iz n1 n2];exact e)
 ·by_cases z:b=f
  ·subst z
   rw[Pa,hf]at e;cases e
   refine⟨⟨kf,kc⟩,⟨_,kf⟩,λh1 h2 p kk=>⟨kk b _ (.inl rfl) p.1,kk c _ (.inr ?_) p.2⟩⟩
   rw[G0];exact hc
  ·by_cases z2:b=c
   ·subst z2
    rw[G0,hc]at e;cases e
    exact⟨_,kc⟩
   ·rw[ql z z2]at e
    have up:∀{b' o'},H' b'=some o'->n6 H H' f c b'=some o':=λ{b' o'} q=>by
     rw[ql (λz=>by subst z;rw[nf]at q;cases q) (λz=>by subst z;rw[nc]at q;cases q)];exact q
    exact(aE b o e).i8 (λ_ _ _ q=>q) (λ_ q=>up q) (λ_ _ q=>up q) λ_ _ q=>up q
theorem b62{prog:Program}{w:World}{A:Around}{R:Result->Shared->Prop}{s:Shared}{a:Addr}{args:Args}{o:Obj}{fd:FuncData}{body:Expr}{q:Str}(cU2:A.depth<recursionLimit)
  (ho:s.heap.get? a=some o)
  (xx:o.data=.func fd) (hco:fd.scope.isCoroutine=false) (cU4:fd.scope.isGenerator=false) (iN:fd.body=.expr body) (cM:s.heap.CodeRec fd.code q)
  (h:wpAny (model prog w) A.in1 (bindArgs fd args) (λbinds bA =>
   wpAny (model prog w) A.in1 (newFunctionEnv fd.scope fd.globals fd.closure binds (q++".<locals>.") (some a) fd.code none fd.builtins)
    (λenv jL=>jL.heap.NoLimit/\codeAny (model prog w) A (.expr body env) R jL) (λe s'=>R (.error e) s') bA) (λe s'=>R (.error e) s') s) :
  codeAny (model prog w) A (.call (.ref a) args) R s:=by
 refine codeAny_of_tree ?_
 show wpAny _ A.in1 (callAny (.ref a) args) _ _ s
 simp only[callAny]
 refine wpAny_bind (wpAny_load ho ?_)
 obtain⟨c,oc,vs,tq,hc,je,G2,hq⟩:=cM
 simp only[xx,callFunction,hco,cU4,iN,hc]
 rw[hc]at h
 refine wpAny_bind (m:=field (.ref c) 1) (wpAny_field je G2 hq (wpAny_bind (wpAny_pure ?_)))
 exact wpAny_bind (wpAny_mono h (λbinds bA B8=>wpAny_bind (wpAny_mono B8 (λenv jL Pd=>wpAny_bind (wpAny_enterFrame Pd.1 cU2
  (wpAny_pure (And.intro rfl Pd.2)))) λ_ _ h'=>h')) λ_ _ h'=>h')
structure Pe(p1 p2 x:Str)(sc:Scope):Prop where
 kind:sc.kind=.function
 co:sc.isCoroutine=false
 gen:sc.isGenerator=false
 nd:[p1,p2,x].Nodup
 l1:sc.names.lookup p1=some .local
 l2:sc.names.lookup p2=some .local
 Pf:∀y∈sc.names,y.2≠.cell
 only:∀y∈sc.names,y.2=.free->y.1=x
 lx:sc.names.lookup x=some .free
noncomputable def sQ(CX:eY)(P:Program)(w:World)(K:PySem.W.Frag)(mg:Str->Option Value)(base:Heap)(N:List Str)(qual:Str)(scope:Scope)(f:Addr)(cd:Value)(cl:List (Str × Addr))(A:Around)(outer:List Env)(s:Shared)(H:Hp)(E:XK):Cx where
 prog:=P
 w:=w
 K:=K
 mg:=mg
 base:=base
 A:=A.deeper (PySem.W.envX qual scope s.heap.objs.size f cd cl)
 N:=N
 cJ:=s
 km:=H
 env:=PySem.W.envX qual scope s.heap.objs.size f cd cl
 outer:=outer
 stack:=PySem.W.envX qual scope s.heap.objs.size f cd cl::outer
 ex:=[]
 calm:=true
 fn:=λ_=>false
 pn:=[]
 xe:=λe s'=>wpAny (model P w) (A.deeper (PySem.W.envX qual scope s.heap.objs.size f cd cl)) (leaving (PySem.W.envX qual scope s.heap.objs.size f cd cl) e) (λ_ rp=>CX outer H s E e rp) (λe' rp=>CX outer H s E e' rp) s'
theorem cf3{CX:eY}{P:Program}{w:World}{K:PySem.W.Frag}{mg:Str->Option Value}{base:Heap}{p1 p2 x qn q:Str}{params:Arguments}{body:Expr}{scope:Scope}{pm jx:Value}{f c c':Addr}{k:Nat}{A:Around}{outer:List Env}{s:Shared}{H:Hp}{E:XK}
  {u1 u2 uc:Value} {v1 v2 vc:V} {Q:VK} {t:TE} {args:Args} (S:Pe p1 p2 x scope) (e0:jg P w K mg base A outer s H) (hr:bX (k+1) A)
  (hf:s.heap.get? f=some (PySem.W.kla_obj "<lambda>" qn params body scope [(x,c)] pm c' jx)) (hc:s.heap.IsCell c (some uc)) (rc:RelV vc uc) (hH:H c=none) (cM:s.heap.CodeRec (.ref c') q)
  (hb:bindArgs (PySem.W.kla_fn "<lambda>" qn params body scope [(x,c)] pm (.ref c') jx) args=pure [(p1,u1),(p2,u2)]) (r1:RelV v1 u1) (r2:RelV v2 u2)
  (ht:PE (sQ CX P w K mg base [p1,p2,x] q scope f (.ref c') [(x,c)] A outer s H E) body t) (h:t [some v1,some v2,some vc] H Q) :
  codeAny (model P w) A (.call (.ref f) args) (CR CX outer P w H s Q E) s:=by
 have lim:s.heap.NoLimit:=e0.mod.nolimit.keeps λb o e=>(e0.bs b o e).1
 refine b62 hr.depth hf rfl S.co S.gen rfl cM ?_
 rw[hb]
 have cU6:∀y∈[(p1,u1),(p2,u2)],scope.names.lookup y.1=some .local:=λy hy=>by
  simp at hy
  rcases hy with rfl | rfl
  ·exact S.l1
  ·exact S.l2
 refine wpAny_pure (wpAny_newFunctionEnv S.Pf cU6 (λB8 B4 Pg=>⟨lim.fresh _ Pg,?_⟩) S.kind)
 show codeAny _ _ (.expr body (PySem.W.envX q scope s.heap.objs.size f (.ref c') [(x,c)])) _ _
 have hk:∀b o,s.heap.get? b=some o->B8.get? b=some o:=λb o e=>Pg.extBut b o (eT (bG e)) (fI _ e)
 have cV:p1≠p2/\p1≠x/\p2≠x:=by have:=S.nd;simp at this;exact⟨this.1.1,this.1.2,this.2⟩
 have look:∀y d,([(x,c)]:List (Str × Addr)).lookup y=some d->y=x/\d=c:=λy d e=>by
  rw[gD]at e
  split at e
  ·rename_i z;exact⟨beq_iff_eq.mp z,(cT e).symm⟩
  ·cases e
 have I:Inv (sQ CX P w K mg base [p1,p2,x] q scope f (.ref c') [(x,c)] A outer s H E) [] [some v1,some v2,some vc] H { s with heap:=B8,toks:=s.toks+[(p1,u1),(p2,u2)].length }:=by
  refine⟨⟨e0.mod,S.kind,rfl,rfl,bD _,λy z d h1 h2=>?_,λy hy=>?_,λy d z _=>absurd z (by simp[sQ]),λ_=>hr.hd,Around.frames_deeper e0.frames,.inr ⟨rfl,rfl⟩,λb z=>absurd z (by simp[sQ]),e0.bs,e0.i9,λb _ _=>by simp[sQ],λb z=>absurd z (by simp[sQ]),e0.gn,e0.jc⟩,
   rfl,e0.bare,Un.kept hk,⟨_,B4,λi y v h1 h2 h3=>?_⟩,λy d h=>?_,e0.aE.fresh (bD _),λy d h=>?_,λp hp=>absurd (show p∈([]:List (Addr × Obj)) from hp) (by simp),e0.aE.kept hk,rfl⟩
  ·exact(look y d h1).1.trans (look z d h2).1.symm
  ·have hy:scope.names.lookup y=some .cell\/scope.names.lookup y=some .free:=hy
   rcases hy with hy | hy
   ·exact absurd rfl (S.Pf _ (PySem.mem_of_lookup hy))
   ·obtain rfl:y=x:=S.only _ (PySem.mem_of_lookup hy) rfl
    exact⟨c,by show([(y,c)]:List (Str × Addr)).lookup y=_;rw[gD,beq_self_eq_true]⟩
  ·match i,h1,h2 with
   | 0,h1,h2 =>
    cases h1;cases h2
    exact⟨u1,r1,.inl ⟨S.l1,by
     show([(p1,u1),(p2,u2)]:List (Str × Value)).reverse.lookup p1=_
     simp[gD,beq_eq_false_iff_ne.mpr cV.1]⟩⟩
   | 1,h1,h2 =>
    cases h1;cases h2
    exact⟨u2,r2,.inl ⟨S.l2,by
     show([(p1,u1),(p2,u2)]:List (Str × Value)).reverse.lookup p2=_
     simp[gD]⟩⟩
   | 2,h1,h2 =>
    cases h1;cases h2
    exact⟨uc,rc,.inr ⟨.inr S.lx,c,by show([(x,c)]:List (Str × Addr)).lookup x=_;rw[gD,beq_self_eq_true],hc.keeps hk⟩⟩
   | n+3,h1,h2=>cases h2
  ·obtain⟨rfl,rfl⟩:=look y d h
   exact⟨_,hc.keeps hk⟩
  ·obtain⟨rfl,rfl⟩:=look y d h
   exact hH
 refine PySem.W.kla_codeExpr (wpAny_mono (ht [] _ _ H _ I h) (λu s' hs=>?_) λe s' hs=>hs)
 obtain⟨v,H',J,rv,q⟩:=hs
 exact⟨v,H',J.os,J.bare,J.base,J.aE,rv,q⟩
end L2
namespace L3
open PySem L2 PySem.Spec PyProof.Rows
theorem af.n6{H H':Hp}{f c:Addr}{o1 o2:HO}(h:af (rem H f c) H')(h1:H f=some o1)(n1:jr o1=true)(h2:H c=some o2)(n2:jr o2=true):af H (n6 H H' f c) where
 get b o e n:=by
  by_cases z:b=f
  ·rw[z,Pa,<- z];exact e
  ·by_cases z2:b=c
   ·rw[z2,G0,<- z2];exact e
   ·rw[ql z z2];exact h.get b o (by rw[iz z z2];exact e) n
 tb b ps e:=by
  have z:b≠f:=λz=>by subst z;rw[h1]at e;cases e;cases n1
  have z2:b≠c:=λz=>by subst z;rw[h2]at e;cases e;cases n2
  rw[ql z z2]
  exact h.tb b ps (by rw[iz z z2];exact e)
noncomputable abbrev v3:=Int->Int->(Int->Prop)->Prop
structure y8(P:Program)(w:World)(K:PySem.W.Frag)(mg:Str->Option Value)(base:Heap)(n:Nat)(of oc:Obj)(c k:Addr)(sp:v3):Prop where
 fn:∃o1 od fd sl,of=⟨o1,od,.func fd,sl⟩
 run:∀(A:Around) (outer:List Env) (s:Shared) (H:Hp) (f:Addr) (t u:Tok) (i j:Int) (Qd:Int->Prop),bX n A->jg P w K mg base A outer s H->s.heap.get? f=some of->s.heap.get? c=some oc->H c=none->(∃q,s.heap.CodeRec (.ref k) q)->sp i j Qd ->
  codeAny (model P w) A (.call (.ref f) ⟨[.int i t,.int j u],[]⟩) (CR aZ outer P w H s (λv H'=>∃r,v=.int r/\Qd r/\af H H') (λ_ _ _=>False)) s
noncomputable def v7(L:Obj->Obj->Addr->Addr->v3->Prop)(i:Nat)(ta:cE):aI:=λδ Q=>∃of oc c k sp,δ[i]?=some (some (.bz (.lam of oc c k)))/\L of oc c k sp/\ta δ λds ah=>∃a b,ds=[.int a,.int b]/\sp a b λr=>Q (.int r) ah
theorem Ph{X:Cx}{n i:Nat}{x:Str}{p pos:Pos}{e1 e2:Expr}{ta:cE}(hN:X.N[i]?=some x)(hv:lh X.env.scope x)(hr:bX n X.A)(ha:PA X [e1,e2] (lA ta))
  (hd:(x==("__debug__":Str))=false:=by decide) (cM:(x==("__classdict__":Str))=false:=by decide) (he:starEach [e1,e2] X.env=(false,eval e1 X.env)::starEach [e2] X.env:=by rfl) (bw:(backTo pos (starEach [e2] X.env)).any (·.1)=false:=by rfl) :
  PE X (.Call (.Name x p) [e1,e2] [] pos) (lE (v7 (y8 X.prog X.w X.K X.mg X.base n) i ta)):=by
 intro pins s σ H Q I zz
 obtain⟨B,F,δ,ts,Qd,c,⟨of,oc,cc,k,sp,ed,L,q⟩,kk⟩:=zz
 obtain⟨v,ev,sv⟩:=c.look ed
 obtain⟨f,rfl,lam⟩:∃f,v=.ref f/\kD H f of oc cc k:=by
  cases sv with
  | bz h _=>exact⟨_,rfl,h⟩
 refine wpAny_Call_Name_kw (aN (pH hN hv hd cM pins s σ H (λv' H'=>v'=.ref f/\H'=H) I ⟨_,ev,rfl,rfl⟩) λu s1 zz=>?_)
 obtain⟨v',H',I1,r1,e1,e2⟩:=zz
 subst e1 e2
 obtain rfl:u=.ref f:=r1
 have fnAt:∀{H1:Hp} {s2:Shared},Inv X pins σ H1 s2->kD H1 f of oc cc k->PySem.W.FnAt f s2.heap:=λ{H1 s2} J l=>by
  obtain⟨o1,od,fd,sl,e⟩:=L.fn
  exact⟨o1,od,fd,sl,by rw[<-e];exact(J.aE.lam l.fn).1⟩
 refine PySem.W.callWith_F (fnAt I1 lam) (aN (ha pos pins s1 σ H' (λvs H2=>∃a b ah F',vs=[.int a,.int b]/\(sp a b λr=>Qd (.int r) ah)/\af F F'/\af H' H2/\ak B F' H2 σ ah ts) I1
  ⟨B,F,δ,ts,_,c,q,λds ah vs F' H2 ⟨a,b,eds,q2⟩ f1 h1 c1 s1=>?_⟩) λus s2 ⟨vs,H2,I2,r2,a,b,ah,F',evs,q2,f1,h1,c1⟩=>⟨fnAt I2 ((show rE H' f (.lam of oc cc k) from lam).mono λa o e _ t=>h1.get a o e t),?_⟩) he bw
 ·subst eds
  refine⟨a,b,ah,F',?_,q2,f1,h1,c1⟩
  cases s1 with
  | int s1=>cases s1 with
   | int s1=>cases s1;rfl
 ·subst evs
  have qm:kD H2 f of oc cc k:=(show rE H' f (.lam of oc cc k) from lam).mono λa o e _ t=>h1.get a o e t
  obtain⟨o1,od,fd,sl,eof⟩:=L.fn
  have cU9:of.data=.func fd:=by rw[eof]
  obtain⟨gf,gc⟩:=I2.aE.lam qm.fn
  obtain⟨ψ,eψ,y9⟩:=qm.FV
  obtain⟨u1,u2,t1,t2,rfl⟩:∃(u1 u2:Unit) (t1 t2:Tok),us=[.int a t1,.int b t2]:=by
   cases r2 with
   | cons ra r2=>cases r2 with
    | cons rb r2 =>
     cases r2
     obtain⟨t1,rfl⟩:=ra
     obtain⟨t2,rfl⟩:=rb
     exact⟨(),(),t1,t2,rfl⟩
  refine wpAny_call (codeAny_mono (L.run X.A X.stack s2 (rem H2 f cc) f t1 t2 a b _ hr (I2.uu.rem qm.fn qm.cell cU9) gf gc B7 (y9 _ (I2.aE k _ eψ).1) q2) λr s' hq=>?_)
  cases r with
  | error e=>exact hq.elim
  | ok fl =>
   cases fl with
   | ret u =>
    refine I2.after (CE.add I2.uu qm.fn qm.cell hq (Q':=Q) ?_)
    rintro v H3 ⟨r,rfl,hqd,hs⟩ nf nc
    have sm:=hs.n6 qm.fn rfl qm.cell rfl
    exact kk _ ah _ F' _ hqd f1 (h1.trans sm) ((c1.grow sm).pushS (.int .nil) rfl)
   | next=>exact fj hq
   | brk=>exact fj hq
   | cont=>exact fj hq
end L3
namespace L2
open PySem PySem.Spec PyProof.Rows
theorem bx2{p:Pos}{c:Value}(l:List Value)(h:TriplesOk l):TriplesOk (l++[rawInt p.line,rawInt p.col,c]):=by
 fun_induction TriplesOk l with
 | case1=>simp[TriplesOk,rawInt]
 | case2 a b d e f rest ih=>exact ih h
 | case3=>exact h.elim
theorem bJ0{p q:Pos}{c cv:Value}(l:List Value)(h:TriplesOk l)(e:codeAmong q (l++[rawInt p.line,rawInt p.col,c])=some cv):codeAmong q l=some cv\/cv=c:=by
 fun_induction TriplesOk l with
 | case1 =>
  simp only[pd,rawInt,codeAmong]at e
  split at e
  ·exact .inr (cT e).symm
  ·cases e
 | case2 a b d e' f rest ih =>
  simp only[t7,codeAmong]at e ⊢
  split at e
  ·rename_i z;rw[if_pos z];exact .inl e
  ·rename_i z;rw[if_neg z];exact ih h e
 | case3=>exact h.elim
noncomputable def og(f:Addr)(o:Obj):Heap->Prop:=λh=>h.get? f=some o
noncomputable def cJ0(P c:Addr)(x:Str)(params:Arguments)(body:Expr)(scope:Scope):TE:=λ_ H Q=>(∃ps,H P=some (.dP ps)) /\
 ∀f k qn pm jx H',H f=none->H' f=some (.ext (og f (PySem.W.kla_obj "<lambda>" qn params body scope [(x,c)] pm k jx)))->L3.FU H' k->k≠f->L3.af H H'->(∀a ws,H' a=some (.lst ws)->H a=some (.lst ws))->Q (.ref f) H'
theorem Pj{X:Cx}{P c cc:Addr}{x:Str}{params:Arguments}{body:Expr}{scope:Scope}{pos:Pos}(gS:closureFor scope X.env=pure [(x,c)])(B9:X.env.code=.ref cc)(hK:PySem.W.codeHdIn X.K cc P=true)(y7:Bm X.mg X.base)
  (cV5:defaultsOf params X.env=([],[]):=by rfl):PE X (.Lambda params body scope pos) (cJ0 P c x params body scope):=by
 intro pins s σ H Q I zz
 obtain⟨⟨ps,hP⟩,q⟩:=zz
 obtain⟨bm,ob,b1,b2,b3,b4,b5,b6,b7⟩:=y7
 have C:=PySem.W.codeHd_of_K I.cR hK
 obtain⟨oP,Ca,codes⟩:=I.aE P _ hP
 have hg:=I.mod.glob.keeps I.bk
 have Pk:∀{b o},X.base.get? b=some o->b≠P:=λ{b o} e z=>by
  have:=(I.bs b o e).2
  rw[z,hP]at this;cases this
 have hgP:mainGlobals≠P:=by
  obtain⟨o,es,ep,e,_⟩:=I.mod.glob
  exact Pk e
 have Pl:s.heap.BuiltinsAt X.mg P:=⟨bm,ob,b1,b2,b3,Pk b4,I.bk _ _ b4,b5,b6,b7⟩
 refine PySem.W.kla_eval cV5 ?_
 have fresh:∀{b:Addr},s.heap.objs.size<=b->H b=none:=λ{b} h=>I.aE.fresh h
 cases G3:codeAmong pos ps.toList with
 | none =>
  refine PySem.W.kla_makeFunction (mg:=X.mg) gS I.ok.glob hg B9 C oP Ca G3 hgP Pl λk jx h' tk hx za ig cV7 Pm=>?_
  have G4:P<s.heap.objs.size:=bG oP
  have hPk:k≠P:=λz=>by rw[z]at za;exact absurd G4 (t9.mpr za)
  have sR:s.heap.objs.size<=h'.objs.size:=dy za (oU ig)
  have hPf:h'.objs.size≠P:=λz=>by rw[<-z]at G4;exact absurd G4 (t9.mpr sR)
  have Pn:k≠h'.objs.size:=eT ig
  generalize Po:PySem.W.kla_obj "<lambda>" (X.env.qual++"<lambda>") params body scope [(x,c)] ((X.mg "__name__").getD .none) k jx=obj
  have eM:obj.isFreed=false:=by rw[<-Po];rfl
  have zb:∀b,b≠P->b≠k->b≠h'.objs.size->upd (upd (upd H P (.dP (ps++#[rawInt pos.line,rawInt pos.col,.ref k]))) k (.ext λh=>∃q,h.CodeRec (.ref k) q)) h'.objs.size (.ext (og h'.objs.size obj)) b=H b:=λb n1 n2 n3=>by
   rw[aU n3,aU n2,aU n1]
  have Cb:upd (upd (upd H P (.dP (ps++#[rawInt pos.line,rawInt pos.col,.ref k]))) k (.ext λh=>∃q,h.CodeRec (.ref k) q)) h'.objs.size (.ext (og h'.objs.size obj)) h'.objs.size=some (.ext (og h'.objs.size obj)):=bH
  have atK:upd (upd (upd H P (.dP (ps++#[rawInt pos.line,rawInt pos.col,.ref k]))) k (.ext λh=>∃q,h.CodeRec (.ref k) q)) h'.objs.size (.ext (og h'.objs.size obj)) k=some (.ext λh=>∃q,h.CodeRec (.ref k) q):=by rw[aU Pn,bH]
  have Cc:upd (upd (upd H P (.dP (ps++#[rawInt pos.line,rawInt pos.col,.ref k]))) k (.ext λh=>∃q,h.CodeRec (.ref k) q)) h'.objs.size (.ext (og h'.objs.size obj)) P=some (.dP (ps++#[rawInt pos.line,rawInt pos.col,.ref k])):=by rw[aU hPf.symm,aU hPk.symm,bH]
  generalize hHn:upd (upd (upd H P (.dP (ps++#[rawInt pos.line,rawInt pos.col,.ref k]))) k (.ext λh=>∃q,h.CodeRec (.ref k) q)) h'.objs.size (.ext (og h'.objs.size obj))=Hn at zb Cb atK Cc
  have old:∀{b o},H b=some o->b≠P->Hn b=some o:=λ{b o} e n=>by
   have hb:b<s.heap.objs.size:=I.aE.lt e
   rw[zb b n (λz=>absurd hb (t9.mpr (z ▸ za))) (λz=>absurd hb (t9.mpr (z ▸ sR)))];exact e
  have kept:∀b o,b≠P->s.heap.get? b=some o->(h'.push obj).get? b=some o:=λb o n e=>fI _ (hx b o n e)
  have un:Un X.fs [] H Hn s.heap (h'.push obj):=by
   refine⟨λb o e n _ _=>kept b o (λz=>by rw[z,hP]at n;cases n) e,λb o e n _ _=>⟨o.slots,kept b o (λz=>by rw[z,hP]at n;cases n) e⟩,λb o e n _=>?_,λb o e _=>?_,λb xs e=>old e (λz=>by rw[z,hP]at e;cases e),λb ob xs e=>old e (λz=>by rw[z,hP]at e;cases e),λb Pp e=>?_⟩
   ·have hb:=bG e
    rw[zb b (λz=>by rw[z,hP]at n;cases n) (λz=>absurd hb (t9.mpr (z ▸ za))) (λz=>absurd hb (t9.mpr (z ▸ sR)))];exact n
   ·by_cases z:b=P
    ·rw[z];exact⟨_,fI _ Pm⟩
    ·exact⟨o,kept b o z e⟩
   ·by_cases z:b=P
    ·subst z
     rw[hP]at e;cases e
     exact⟨_,Cc⟩
    ·exact⟨#[],by rw[old e z];simp⟩
  have aE:cQ X.prog X.w Hn (h'.push obj):=λb o e=>by
   by_cases z1:b=h'.objs.size
   ·subst z1
    rw[Cb]at e;cases e
    exact⟨g7 _ eM,⟨_,g7 _ eM⟩,λh1 h2 p kk=>kk _ _ (.inl rfl) p⟩
   ·by_cases z2:b=k
    ·subst z2
     rw[atK]at e;cases e
     have hr:=cV7.push obj
     refine⟨⟨_,hr⟩,?_,λh1 h2 ⟨q,c1,o1,vs,t,e1,e2,r⟩ kk=>?_⟩
     ·obtain⟨c1,o1,vs,t,e1,e2,_⟩:=hr
      cases e1
      exact⟨o1,e2⟩
     ·cases e1
      exact⟨q,_,o1,vs,t,rfl,kk _ _ (.inl rfl) e2,r⟩
    ·by_cases z3:b=P
     ·subst z3
      rw[Cc]at e;cases e
      refine⟨fI _ Pm,by rw[Wc];exact bx2 _ Ca,λp' cv e'=>?_⟩
      rw[Wc]at e'
      rcases bJ0 _ Ca e' with e' | e'
      ·obtain⟨d,φ,e1,e2,e3⟩:=codes p' cv e'
       exact⟨d,φ,e1,old e2 (λz=>by rw[z,hP]at e2;cases e2),e3⟩
      ·exact⟨k,_,e',atK,λh' p=>p⟩
     ·rw[zb b z3 z2 z1]at e
      have nP:∀{b' o'},H b'=some o'->(∀ps,o'≠.dP ps)->b'≠P:=λ{b' o'} e n z=>by rw[z,hP]at e;cases e;exact n _ rfl
      refine(I.aE b o e).i8 (λb' u lW e'=>kept b' u ?_ e') (λb' e'=>old e' (nP e' (λps z=>by cases z))) (λb' xs e'=>old e' (nP e' (λps z=>by cases z))) λb' φ e'=>old e' (nP e' (λps z=>by cases z))
      rcases lW with rfl | lW
      ·exact z3
      ·exact nP lW (λps z=>by cases z)
  refine⟨.ref h'.objs.size,Hn,I.un un aE,rfl,q _ k _ _ _ _ (fresh sR) (by rw[Po];exact Cb) ⟨_,atK,λh p=>p⟩ Pn ⟨λb o e n=>old e (λz=>by rw[z,hP]at e;cases e;cases n),λb Pp e=>?_⟩ λa ws e=>?_⟩
  ·exact un.gE b Pp e
  ·by_cases z1:a=h'.objs.size
   ·subst z1;rw[Cb]at e;cases e
   ·by_cases z2:a=k
    ·subst z2;rw[atK]at e;cases e
    ·by_cases z3:a=P
     ·subst z3;rw[Cc]at e;cases e
     ·rw[zb a z3 z2 z1]at e;exact e
 | some cv =>
  obtain⟨k,φ,rfl,hk,G1⟩:=codes pos cv G3
  refine PySem.W.kla_makeFunctionHit (mg:=X.mg) gS I.ok.glob hg B9 C oP Ca G3 Pl λjx h' tk hx sR=>?_
  have hf:=fresh sR
  refine⟨.ref h'.objs.size,upd H h'.objs.size (.ext (og h'.objs.size (PySem.W.kla_obj "<lambda>" (X.env.qual++"<lambda>") params body scope [(x,c)] ((X.mg "__name__").getD .none) k jx))),I.laid (λb u e=>fI _ (hx b u e)) sR ?_,rfl,q _ k (X.env.qual++"<lambda>") ((X.mg "__name__").getD .none) jx _ hf bH ⟨φ,?_,G1⟩ (eJ hk hf) (L3.af.of λb o e=>?_) λa ws e=>?_⟩
  ·exact⟨g7 _ rfl,⟨_,g7 _ rfl⟩,λh1 h2 p kk=>kk _ _ (.inl rfl) p⟩
  ·rw[aU (eJ hk hf)];exact hk
  ·rw[aU (eJ e hf)];exact e
  ·by_cases z:a=h'.objs.size
   ·subst z;rw[bH]at e;cases e
   ·rw[aU z]at e;exact e
end L2
namespace L2
open PySem PySem.Spec PyProof.Rows
structure v9(K:PySem.W.Frag)(C:Addr)(m:Str)(f:Addr):Prop where
 ga:PySem.W.specialIn K (.ref C) "__getattribute__"=some (some (.builtin "type.__getattribute__"))
 rd:PySem.W.readsIn K C (.type "type")=true
 at_:PySem.W.findCls K (.ref C) (.type "type") m=some (.val (.ref f))
 kp:PySem.W.keepIn K (.ref f)=true
section
variable{X:Cx}{CX:eY}{k:Nat}{f C:Addr}{fd:FuncData}{ps:List Str}{sp:Sp}{E:XK}{x m:Str}{p pos apos:Pos}{e o:Expr}{es:List Expr}{ta:TE}{t:TA}
theorem b73{pins:List (Addr × Obj)}{σ:St}{H:Hp}{s:Shared}{pl:Sem Bool}{A:Around}{E':Value->Shared->Prop}{Q:Value × List Value->Shared->Prop}(I:Inv X pins σ H s)(M:v9 X.K C m f)(h:∀s',Inv X pins σ H s'->Q (.ref f,[]) s') :
  wpAny (model X.prog X.w) A (getMethod (.ref C) m pl) Q E' s :=
 PySem.W.method_cls I.cR M.ga (PySem.W.cls_value (mc:=.type "type") I.cR M.rd M.at_ rfl (h _ (I.tok _)))
theorem Pq{pins:List (Addr × Obj)}{σ:St}{H:Hp}{s:Shared}{pl:Sem Bool}{Q:Value->Shared->Prop}{QA:List V->Hp->Prop}(I:Inv X pins σ H s)(M:v9 X.K C m f)(hg:Gl X x)(hm:X.mg x=some (.ref C))(ha:PA X (e::es) t)(h:t σ H QA)
  (hq:∀us s1 vs H1,Inv X pins σ H1 s1->Vals vs us->QA vs H1->wpAny (model X.prog X.w) X.A (call (.ref f) us) Q X.xe s1)
  (dh:(x==("__debug__":Str))=false:=by decide) (cu:starEach (e::es) X.env=(false,eval e X.env)::starEach es X.env:=by rfl) (bw:(backTo pos (starEach es X.env)).any (·.1)=false:=by rfl)
  (ht:eval (.Call (.Attribute (.Name x p) m apos) (e::es) [] pos) X.env=(do
   let ov<-eval (.Name x p) X.env
   standAt apos.atName
   let (f,first)<-holding [ov] (getMethod ov m pl)
   callWith pos f first (backTo pos (starEach (e::es) X.env)) (backToKw pos (keywordEach [] X.env))):=by rfl) :
  wpAny (model X.prog X.w) X.A (eval (.Call (.Attribute (.Name x p) m apos) (e::es) [] pos) X.env) Q X.xe s:=by
 refine PySem.W.methodCall_KW (pl:=pl) (qY I hg hm ?_ dh) ht
 refine b73 I M λs1 I1=>?_
 refine PySem.W.callWith_K (first:=[]) (h₀:=X.base) I.ok.mod.mC M.kp (aN (ha pos pins s1 σ H _ I1 h) λus s2 ⟨vs,H2,I2,r,q2⟩=>⟨I2.cR,?_⟩) cu bw
 exact hq us s2 vs H2 I2 r q2
noncomputable def cD0(sp:Sp)(E:XK)(c:Addr)(i:Nat)(t:TA):TE:=λσ H Q=>t σ H λvs H1=>∃f of fd v,H1 f=some (.ext (og f of))/\of.data=.func fd/\σ[i]?=some (some v) /\
 ∀oc u,oc.data=.cell (some u)->RelV v u->H1 c=none->c≠f->sp vs (upd (upd H1 f (.ext (L3.jS of oc c f))) c (.own f)) (λr H2=>H2 f=some (.ext (L3.jS of oc c f))/\H2 c=some (.own f)/\Q r (rem H2 f c)) E
theorem Pr{pl:Sem Bool}{y:Str}{c:Addr}{i:Nat}(M:v9 X.K C m f)(F:aO X.prog X.w X.K X.mg X.base aZ k f fd ps sp)(hr:bX k X.A)(hb:Binds X.K fd ps [])(hg:Gl X x)(hm:X.mg x=some (.ref C))
  (hN:X.N[i]?=some y) (hy:X.env.scope.names.lookup y=some .cell) (gS:X.env.cells.lookup y=some c) (xD:X.fn y=true) (ha:PA X (e::es) t)
  (dh:(x==("__debug__":Str))=false:=by decide) (cu:starEach (e::es) X.env=(false,eval e X.env)::starEach es X.env:=by rfl) (bw:(backTo pos (starEach es X.env)).any (·.1)=false:=by rfl)
  (ht:eval (.Call (.Attribute (.Name x p) m apos) (e::es) [] pos) X.env=(do
   let ov<-eval (.Name x p) X.env
   standAt apos.atName
   let (f,first)<-holding [ov] (getMethod ov m pl)
   callWith pos f first (backTo pos (starEach (e::es) X.env)) (backToKw pos (keywordEach [] X.env))):=by rfl) :
  PE X (.Call (.Attribute (.Name x p) m apos) (e::es) [] pos) (cD0 sp E c i t):=by
 intro pins s σ H Q I h
 refine Pq (pl:=pl) I M hg hm ha h (λus s1 vs H1 I1 r zq=>?_) dh cu bw ht
 obtain⟨fa,of,fdd,v,hf,hd,hv,hq⟩:=zq
 obtain⟨ml,_,hl⟩:=I1.loc
 obtain⟨u,rv,lk⟩:=hl i y v hN hv (.inr (.inl hy))
 obtain⟨oc,gc,je⟩:∃oc,s1.heap.get? c=some oc/\oc.data=.cell (some u):=by
  rcases lk with⟨hk,_⟩ | ⟨_,c',xE,ic⟩
  ·rw[show X.env.kindOf y=some .cell from hy]at hk;cases hk
  ·rw[gS]at xE;cases xE;exact ic
 have nc:H1 c=none:=I1.fZ y c gS
 have qo:c≠fa:=λz=>by rw[z,hf]at nc;cases nc
 have gf:s1.heap.get? fa=some of:=(I1.aE fa _ hf).1
 have nz:=hq oc u je rv nc qo
 have Pt:=I1.ok.nu y c xD gS
 generalize hH:upd (upd H1 fa (.ext (L3.jS of oc c fa))) c (.own fa)=Hp at nz
 have Pu:Hp c=some (.own fa):=by rw[<-hH,bH]
 have atf:Hp fa=some (.ext (L3.jS of oc c fa)):=by rw[<-hH,aU qo.symm,bH]
 have mU:∀b,b≠fa->b≠c->Hp b=H1 b:=λb n1 n2=>by rw[<-hH,aU n2,aU n1]
 have nfs:c ∉ X.fs:=λhb=>by
  obtain⟨_,o,ho,_⟩:=I1.ok.gn.mem hb
  exact absurd (cK (bG ho) Pt) (gC _)
 have nst:∀b∈dW X.stack,b≠c:=λb hb z=>by
  rcases cL.mp (I1.xy b hb)with e | hb
  ·exact I1.kn y c gS (z ▸ e)
  ·exact nfs (z ▸ hb)
 have cW5:cQ X.prog X.w Hp s1.heap:=λb ob q=>by
  by_cases z1:b=c
  ·subst z1;rw[Pu]at q;cases q;exact⟨_,gc⟩
  ·by_cases z2:b=fa
   ·subst z2;rw[atf]at q;cases q
    exact⟨⟨gf,gc⟩,⟨_,gf⟩,λh1 h2 p kk=>⟨kk _ _ (.inl rfl) p.1,kk _ _ (.inr Pu) p.2⟩⟩
   ·rw[mU b z2 z1]at q
    have x1:=(I1.aE b ob q).rem (f:=fa) (c:=c) z2 hf (.inr nc) (Pb gf (λ_ p=>p) hd)
    have up:∀{b' o'},rem H1 fa c b'=some o'->Hp b'=some o':=λ{b' o'} q=>by
     obtain⟨n1,n2,q'⟩:=O9 q
     rw[mU b' n1 n2];exact q'
    exact x1.i8 (λ_ _ _ q=>q) (λ_ q=>up q) (λ_ _ q=>up q) λ_ _ q=>up q
 have e0:jg X.prog X.w X.K X.mg X.base X.A X.stack s1 Hp:=by
  have e1:=I1.uu
  refine⟨e1.frames,e1.mod,λb ob q=>⟨(e1.bs b ob q).1,?_⟩,e1.i9,e1.gn,λb hb=>?_,cW5,e1.bare⟩
  ·have hb0:=(I1.ok.bs b ob q).1
   rw[mU b (λz=>by have:=(e1.bs b ob q).2;rw[z,hf]at this;cases this) (λz=>absurd (cK (bG hb0) (z ▸ Pt)) (gC _))]
   exact(e1.bs b ob q).2
  ·have nb:=e1.jc b hb
   rw[mU b (λz=>by rw[z,hf]at nb;cases nb) (nst b hb)];exact nb
 have hlen:us.length=ps.length:=by rw[<-r.length];exact F.len _ _ _ _ nz
 refine wpAny_call (codeAny_mono (F.run X.A X.stack s1 Hp ⟨us,[]⟩ us vs _ E hr e0 (by have:=hb s1 us I1.cR (by rw[eU];exact hlen);rwa [eU]at this) r nz) λrr s' hz=>?_)
 cases rr with
 | error e=>exact hz.elim
 | ok fl =>
  cases fl with
  | next=>exact fj hz
  | brk=>exact fj hz
  | cont=>exact fj hz
  | ret u' =>
   obtain⟨v',H2,os,bare,un,Pw,rv',q1,q2,q3⟩:=hz
   obtain⟨_,Px⟩:=Pw.lam q1
   refine I1.after ⟨v',rem H2 fa c,os,bare,⟨λb ob g n hb hx=>?_,λb ob g n hb hx=>?_,λb ob g n hx=>?_,un.there,λb xs g=>?_,λb ob xs g=>?_,λb ps g=>?_⟩,Pw.rem q1 q2 hd,rv',q3⟩
   ·by_cases z:b=c
    ·rw[z,gc]at g;cases g;rw[z];exact Px
    ·exact un.keep b ob g (by rw[mU b (λz=>by rw[z,hf]at n;cases n) z];exact n) hb hx
   ·by_cases z:b=c
    ·rw[z,gc]at g;cases g;rw[z];exact⟨_,Px⟩
    ·exact un.slot b ob g (by rw[mU b (λz=>by rw[z,hf]at n;cases n) z];exact n) hb hx
   ·by_cases z:b=c
    ·rw[z];exact B7
    ·exact vZ (un.free b ob g (by rw[mU b (λz=>by rw[z,hf]at n;cases n) z];exact n) hx)
   ·have n1:b≠fa:=λz=>by rw[z,hf]at g;cases g
    have n2:b≠c:=λz=>by rw[z,nc]at g;cases g
    rw[iz n1 n2]
    exact un.iK b xs (by rw[mU b n1 n2];exact g)
   ·have n1:b≠fa:=λz=>by rw[z,hf]at g;cases g
    have n2:b≠c:=λz=>by rw[z,nc]at g;cases g
    rw[iz n1 n2]
    exact un.g8 b ob xs (by rw[mU b n1 n2];exact g)
   ·have n1:b≠fa:=λz=>by rw[z,hf]at g;cases g
    have n2:b≠c:=λz=>by rw[z,nc]at g;cases g
    rw[iz n1 n2]
    exact un.gE b ps (by rw[mU b n1 n2];exact g)
end
end L2
namespace L3
open PySem L2 PySem.Spec PyProof.Rows
theorem zc{ts:List Addr}{H H':Hp}(h:Tb ts H)(s:af H H'):Tb ts H':=λP hP=>by
 obtain⟨ps,e⟩:=h P hP
 obtain⟨m,e2⟩:=s.tb P ps e
 exact⟨_,e2⟩
theorem Py{P:Program}{w:World}{K:PySem.W.Frag}{mg:Str->Option Value}{base:Heap}{n:Nat}{p1 p2 x qn:Str}{params:Arguments}{body:Expr}{scope:Scope}{pm jx:Value}{oc:Obj}{c k:Addr}{m:Int}{tm:Tok}{sp:v3}(S:Pe p1 p2 x scope)
  (je:oc.data=.cell (some (.int m tm))) (hb:∀u1 u2:Value,bindArgs (PySem.W.kla_fn "<lambda>" qn params body scope [(x,c)] pm (.ref k) jx) ⟨[u1,u2],[]⟩=pure [(p1,u1),(p2,u2)])
  (iN:∀(q:Str) (f:Addr) (A:Around) (outer:List Env) (s:Shared) (H:Hp) (E:XK),bX n (A.deeper (PySem.W.envX q scope s.heap.objs.size f (.ref k) [(x,c)])) ->
   ∃t:aI,PE (sQ aZ P w K mg base [p1,p2,x] q scope f (.ref k) [(x,c)] A outer s H E).gK body (lE t)/\∀i j Qd,sp i j Qd->t [some (.int i),some (.int j),some (.int m)] λd _=>∃r,d=.int r/\Qd r) :
  y8 P w K mg base (n+1) (PySem.W.kla_obj "<lambda>" qn params body scope [(x,c)] pm k jx) oc c k sp where
 fn:=⟨_,_,_,_,rfl⟩
 run A outer s H f t u i j Qd hr e0 gf gc hH cM h:=by
  obtain⟨q,cM⟩:=cM
  obtain⟨tt,ht,hq⟩:=iN q f A outer s H (λ_ _ _=>False) (hr.deeper _)
  refine cf3 (v1:=.int i) (v2:=.int j) (vc:=.int m) (E:=λ_ _ _=>False) S e0 hr gf ⟨oc,gc,je⟩ ⟨tm,rfl⟩ hH cM (hb _ _) ⟨t,rfl⟩ ⟨u,rfl⟩ ht.gK ?_
  refine⟨⟨H,H⟩,H,_,[],_,?_,hq i j Qd h,λd ah v F' H' hd f1 h1 c1=>?_⟩
  ·exact ak.start (ds:=[.int i,.int j,.int m]) (vs:=[.int i,.int j,.int m]) (af.refl H) (.int (.int (.int .nil))) 0
  ·obtain⟨r,rfl,hd⟩:=hd
   have s1:=c1.top
   cases s1
   exact⟨r,rfl,hd,h1⟩
section
variable{X:Cx}{CX:eY}{n:Nat}{f:Addr}{fd:FuncData}{ps:List Str}{sp:bh}{E:XK}{x:Str}{p pos:Pos}{e:Expr}{es:List Expr}{t:cE}{tl:List Addr}
theorem Pz(hT:Tb tl X.km)(F:aO X.prog X.w X.K X.mg X.base CX n f fd ps (vY tl (bq sp)))(hr:bX n X.A)(hg:Gl X x)(hm:X.mg x=some (.ref f))(hk:PySem.W.keepIn X.K (.ref f)=true)(hb:Binds X.K fd ps [])(hx:kz CX X E)
  (ha:PA X (e::es) (lA t)) (dh:(x==("__debug__":Str))=false:=by decide) (he:starEach (e::es) X.env=(false,eval e X.env)::starEach es X.env:=by rfl) (bw:(backTo pos (starEach es X.env)).any (·.1)=false:=by rfl) :
  PE X (.Call (.Name x p) (e::es) [] pos) (lE (pZ sp t)):=by
 intro pins s σ H Q I zz
 obtain⟨B,F',δ,ts,Qd,c,q,k⟩:=zz
 have tb:=GZ I hT
 refine jh F hr hg hm hk hb .nil hx ha dh he bw pins s σ H Q I ⟨B,F',δ,ts,_,c,q,λds ai vs F1 H1 q1 f1 h1 c1 s1=>?_⟩
 refine⟨zc tb h1,?_⟩
 rw[eU]
 exact yf c1 s1 q1 λd v F' H' hd hf hs c'=>k d ai v F' H' hd (f1.trans hf) (h1.trans hs) c'
end
section
variable{P:Program}{w:World}{K:PySem.W.Frag}{mg:Str->Option Value}{base:Heap}
theorem G5{x qual:Str}{st:Stmt}{f:Addr}{fd:FuncData}{N ps:List Str}{k:Nat}{sp:bh}{tl:List Addr}(F:bg K x qual st f fd)(S:bf N ps (aT st))(len:∀ds Q,sp ds Q->ds.length=ps.length)
  (iN:∀(aH:Value) (A:Around) (outer:List Env) (s:Shared) (H:Hp) (E:XK),Tb tl H->bX k (A.deeper (envOfC qual (aT st) s.heap.objs.size f aH)) ->
   ∃t:cF,PSs (ji aZ P w K mg base N qual (aT st) f aH A outer s H E).gK (iO st) (lS (ji aZ P w K mg base N qual (aT st) f aH A outer s H E).gK t)/\∀ds Q,sp ds Q->t { nx:=λ_=>Q .aq,rt:=Q } (lM N ds)):aO P w K mg base aZ (k+1) f fd ps (vY tl (bq sp)):=by
 refine F.ok S (λvs H Q E ⟨_,F,ds,Qd,e,r,h,_⟩=>by rw[<-r.length];exact len ds Qd h) λaH A outer s H vs Q E hr zz=>?_
 obtain⟨tb,F,ds,Qd,e,r,h,k⟩:=zz
 obtain⟨t,ht,hq⟩:=iN aH A outer s H E tb hr
 have fin:∀d v ah aC F' H',Qd d->ak ⟨H,F⟩ F' H' aC ah [(d,v)]->Q v H':=λd v ah aC F' H' hd c=>by
  obtain⟨A,C,r',s',nd,fr⟩:=c.own
  exact k d v F' H' A hd c.b1 c.b2 c.ext c.b3 r' (iQ.mp nd).1 λa ha=>fr a (e7 _ ha)
 have e1:L2.start N vs=vs.map some++aK (N.length-ds.length) none:=by unfold L2.start;rw[r.length]
 refine⟨_,ht,⟨H,F⟩,F,lM N ds,_,?_,hq ds Qd h,λah aC F' H' hd c=>fin .aq .aq ah aC F' H' hd (c.pushS (.aq .nil) rfl),fin,λ_ _ _ _ z=>z.elim,λ_ _ _ _ z=>z.elim,XL.none (λ_ _ z=>z) λ_ _ z=>z⟩
 rw[e1]
 exact ak.start e r _
theorem PB{x qual:Str}{st:Stmt}{f cc:Addr}{fd:FuncData}{N ps:List Str}{k:Nat}{sp:Sp}(F:bg K x qual st f fd)(B9:fd.code=.ref cc)(S:bf N ps (aT st))(len:∀vs H Q E,sp vs H Q E->vs.length=ps.length)
  (iN:∀(A:Around) (outer:List Env) (s:Shared) (H:Hp) (vs:List V) (Q:VK) (E:XK),bX k (A.deeper (envOfC qual (aT st) s.heap.objs.size f (.ref cc)))->sp vs H Q E ->
   ∃t,PSs (ji aZ P w K mg base N qual (aT st) f (.ref cc) A outer s H E).gK (iO st) t/\t { nx:=λ_ H'=>Q .aq H',rt:=Q } (L2.start N vs) H):aO P w K mg base aZ (k+1) f fd ps sp:=by
 obtain⟨oc,od,kV,doc,pm,an,aH,ct,mF,rfl,lk,cM⟩:=F.ex
 obtain rfl:aH=.ref cc:=B9
 refine Ff lk cM S len λA outer s H vs Q E hr jj=>?_
 obtain⟨t,h,q⟩:=iN A outer s H vs Q E hr jj
 exact⟨t,h.gK,q⟩
end
end L3
namespace L3
open PySem L2 PySem.Spec PyProof.Rows
theorem bI5{ns:List Str}{xs:List D}{ws:List V}{F H:Hp}{f:Str}{d:D}(r:R F H xs ws [])(h:(ns.zip xs).lookup f=some d):∃w,(ns.zip ws).lookup f=some w/\R F H [d] [w] []:=by
 generalize e:([]:List Addr)=A at r
 induction ns generalizing xs ws A with
 | nil=>simp at h
 | cons n ns ih =>
  cases xs with
  | nil=>simp at h
  | cons x xs =>
   obtain⟨v,b9,A1,A2,rfl,rfl,h1,h2⟩:=R.dj r
   obtain⟨rfl,rfl⟩:=tV.mp e.symm
   rw[We]at h ⊢
   by_cases z:f=n
   ·subst z
    rw[gD,beq_self_eq_true]at h
    cases h
    refine⟨v,?_,h1⟩
    rw[gD,beq_self_eq_true]
   ·have z':(f==n)=false:=beq_eq_false_iff_ne.mpr z
    rw[gD,z']at h
    obtain⟨w,e1,e2⟩:=ih h [] rfl h2
    refine⟨w,?_,e2⟩
    rw[gD,z']
    exact e1
theorem G6{ns:List Str}{ws:List V}{f:Str}(h:f ∉ ns):(ns.zip ws).lookup f=none:=by
 induction ns generalizing ws with
 | nil=>simp
 | cons n ns ih =>
  cases ws with
  | nil=>simp
  | cons w ws =>
   rw[We,gD]
   have hn:(f==n)=false:=beq_eq_false_iff_ne.mpr λz=>h (by rw[z];simp)
   simp only[hn]
   exact ih λz=>h (by simp[z])
theorem Cd{F H:Hp}{C:Addr}{ns:List Str}{xs:List D}{v:V}(s:S F H [.obj C ns xs] [v]):∃p dx ws,v=.ref p/\H p=some (.ins C dx (ns.zip ws))/\ns.length=ws.length/\R F H xs ws []:=by
 cases s with
 | obj h l r _=>exact⟨_,_,_,rfl,h,l,r⟩
section
variable{X:Cx}{e o:Expr}{es:List Expr}{f m x:Str}{pos p apos:Pos}{t to:aI}{ta:cE}{n:Nat}
noncomputable def sS(K:PySem.W.Frag)(t:aI)(f:Str):aI:=λδ Q=>t δ λd ah=>∃C ns xs v,d=.obj C ns xs/\df K C/\bj K C f/\(ns.zip xs).lookup f=some v/\Q v ah
theorem cD6(he:PE X e (lB t))(hb:attributeBase e f X.env (eval e X.env)=eval e X.env:=by rfl):PE X (.Attribute e f pos) (lB (sS X.K t f)) :=
 dq (rm he hb) λσ H Q zq=>by
 obtain⟨B,F,δ,ts,Qd,c,q,k⟩:=zq
 exact⟨B,F,δ,ts,_,c,q,λd ah v F' H' ⟨C,ns,xs,w,ed,hc,hn,hl,hq⟩ f1 h1 c1 s1=>by
  subst ed
  obtain⟨p,dx,ws,rfl,hp,_,r⟩:=Cd s1
  obtain⟨u,hu,ru⟩:=bI5 r hl
  exact⟨p,C,dx,_,u,rfl,hp,hc,hn,hu,k w ah u F' H' hq f1 h1 c1 ru.s⟩⟩
structure kH(P:Program)(w:World)(K:PySem.W.Frag)(mg:Str->Option Value)(base:Heap)(n:Nat)(m:Str)(C:Addr)(sp:bh):Prop where
 cls:df K C
 ex:∃f fd ps,Meth K C m f/\aO P w K mg base aZ n f fd ps (bq sp)/\Binds K fd ps []
noncomputable def sT(MO:Addr->bh->Prop)(m:Str)(to:aI)(ta:cE):aI:=λδ Q=>to δ λd ai=>∃C ns xs sp,d=.obj C ns xs/\MO C sp/\m ∉ ns/\ta ai λds aR=>sp ((D.obj C ns xs::ds).map D.sh) λr=>((D.obj C ns xs::ds).all D.pl||r.fr)=true/\Q r aR
theorem cC0{pl:Sem Bool}(ho:PE X o (lB to))(hr:bX n X.A)(ha:PA X (e::es) (lA ta))
  (cu:starEach (e::es) X.env=(false,eval e X.env)::starEach es X.env:=by rfl) (bw:(backTo pos (starEach es X.env)).any (·.1)=false:=by rfl)
  (ht:eval (.Call (.Attribute o m apos) (e::es) [] pos) X.env=(do
   let ov<-eval o X.env
   standAt apos.atName
   let (f,first)<-holding [ov] (getMethod ov m pl)
   callWith pos f first (backTo pos (starEach (e::es) X.env)) (backToKw pos (keywordEach [] X.env))):=by rfl) :
  PE X (.Call (.Attribute o m apos) (e::es) [] pos) (lE (sT (kH X.prog X.w X.K X.mg X.base n m) m to ta)):=by
 intro pins s σ H Q I zz
 obtain⟨B,F,δ,ts,Qd,c,q,k⟩:=zz
 refine PySem.W.methodCall_KW (pl:=pl) (aN (ho pins s σ H (λx H1=>∃d ai F1,S F1 H1 [d] [x]/\ak B F1 H1 σ ai ts/\af F F1/\af H H1/\∃C ns xs sp,d=.obj C ns xs/\kH X.prog X.w X.K X.mg X.base n m C sp/\m ∉ ns/\ta ai λds aR=>sp ((D.obj C ns xs::ds).map D.sh) λr=>((D.obj C ns xs::ds).all D.pl||r.fr)=true/\Qd r aR) I
  ⟨B,F,δ,ts,_,c,q,λd ai v F1 H1 hq f1 h1 c1 s1=>⟨d,ai,F1,s1,c1,f1,h1,hq⟩⟩) λu s1 zq=>?_) ht
 obtain⟨x,H1,I1,rx,d,ai,F1,sd,c1,f1,h1,C,ns,xs,sp,ed,M,hm,hq⟩:=zq
 subst ed
 obtain⟨a,dx,ws,rfl,ea,hl,r0⟩:=Cd sd
 obtain rfl:u=dn a:=rx
 obtain⟨f,fd,ps,qp,FO,hb⟩:=M.ex
 refine Bt I1 ea M.cls qp (G6 hm) ?_
 refine PySem.W.callWith_K (first:=[.ref a]) (h₀:=X.base) I.ok.mod.mC qp.kp (aN (ha pos pins s1 σ H1 (λvs H2=>∃ds aR F2,S F2 H2 ds vs/\ak B F2 H2 σ aR ts/\af F1 F2/\af H1 H2/\sp ((D.obj C ns xs::ds).map D.sh) λr=>((D.obj C ns xs::ds).all D.pl||r.fr)=true/\Qd r aR) I1
  ⟨B,F1,ai,ts,_,c1,hq,λds aR vs F2 H2 hq f2 h2 c2 s2=>⟨ds,aR,F2,s2,c2,f2,h2,hq⟩⟩) λus s2 ⟨vs,H2,I2,r,ds,aR,F2,G7,c2,f2,h2,jj⟩=>⟨I2.cR,?_⟩) cu bw
 refine uv (us:=.ref a::us) (vs:=.ref a::vs) (fo:=[]) FO hr hb .nil dX I2 (.cons rfl r) ?_
 rw[eU]
 exact yf c2 (.obj (h2 _ _ ea) hl (r0.shared f2 h2) G7) jj λd v F' H' hd hf hs c'=>k d aR v F' H' hd (f1.trans (f2.trans hf)) (h1.trans (h2.trans hs)) c'
noncomputable def sU(MO:Addr->bh->Prop)(m:Str)(to:aI):aI:=λδ Q=>to δ λd ai=>∃C ns xs sp,d=.obj C ns xs/\MO C sp/\m ∉ ns/\sp [D.obj C ns xs] λr=>Q r ai
theorem cj8{pl:Sem Bool}(ho:PE X o (lB to))(hr:bX n X.A)
  (ht:eval (.Call (.Attribute o m apos) [] [] pos) X.env=(do
   let ov<-eval o X.env
   standAt apos.atName
   let (f,first)<-holding [ov] (getMethod ov m pl)
   callWith pos f first (backTo pos (starEach [] X.env)) (backToKw pos (keywordEach [] X.env))):=by rfl) :
  PE X (.Call (.Attribute o m apos) [] [] pos) (lE (sU (kH X.prog X.w X.K X.mg X.base n m) m to)):=by
 intro pins s σ H Q I zz
 obtain⟨B,F,δ,ts,Qd,c,q,k⟩:=zz
 refine PySem.W.methodCall_KW (pl:=pl) (aN (ho pins s σ H (λx H1=>∃d ai F1,S F1 H1 [d] [x]/\ak B F1 H1 σ ai ts/\af F F1/\af H H1/\∃C ns xs sp,d=.obj C ns xs/\kH X.prog X.w X.K X.mg X.base n m C sp/\m ∉ ns/\sp [D.obj C ns xs] λr=>Qd r ai) I
  ⟨B,F,δ,ts,_,c,q,λd ai v F1 H1 hq f1 h1 c1 s1=>⟨d,ai,F1,s1,c1,f1,h1,hq⟩⟩) λu s1 zq=>?_) ht
 obtain⟨x,H1,I1,rx,d,ai,F1,sd,c1,f1,h1,C,ns,xs,sp,ed,M,hm,hq⟩:=zq
 subst ed
 obtain⟨a,dx,ws,rfl,ea,hl,r0⟩:=Cd sd
 obtain rfl:u=dn a:=rx
 obtain⟨f,fd,ps,qp,FO,hb⟩:=M.ex
 refine Bt I1 ea M.cls qp (G6 hm) ?_
 refine PySem.W.callWith_K0 (first:=[.ref a]) I1.cR qp.kp (uv (us:=[.ref a]) (vs:=[.ref a]) (fo:=[]) FO hr hb .nil dX I1 (.cons rfl .nil) ?_)
 show bq sp [.ref a] H1 Q E0
 exact yf (Qd:=λr=>Qd r ai) c1 (.obj ea hl r0 .nil) (by simpa[D.sh,D.pl]using hq) λd v F' H' hd hf hs c'=>k d ai v F' H' hd (f1.trans hf) (h1.trans hs) c'
end
structure bR(x:Addr)(H H':Hp):Prop where
 get:∀b o,b≠x->H b=some o->jr o=true->H' b=some o
 tb:∀b ps,H b=some (.dP ps)->∃more,H' b=some (.dP (ps++more))
theorem bR.trans{x:Addr}{H H1 H2:Hp}(a:bR x H H1)(b:bR x H1 H2):bR x H H2 :=
 ⟨λc o n h t=>b.get c o n (a.get c o n h t) t,λc ps h=>by
  obtain⟨m1,e1⟩:=a.tb c ps h
  obtain⟨m2,e2⟩:=b.tb c _ e1
  exact⟨m1++m2,by rw[e2,tP]⟩⟩
theorem af.x{x:Addr}{H H':Hp}(h:af H H'):bR x H H':=⟨λb o _ e n=>h.get b o e n,h.tb⟩
theorem bR.upd{x C dx:Addr}{H:Hp}{o o':HO}(h:H x=some o)(n:jr o=true):bR x H (upd H x o') :=
 ⟨λb o z e _=>by rw[aU z];exact e,λb ps e=>⟨#[],by rw[aU (λz=>by rw[z,h]at e;cases e;cases n),e];simp⟩⟩
noncomputable def G8(tl:List Addr)(C:Addr)(jX:List D->List Str->List D->Prop):Sp:=λvs H Q _=>∃x dx b9 ds ns xs,vs=.ref x::b9/\Tb tl H/\H x=some (.ins C dx [])/\R H H ds b9 []/\jX ds ns xs /\
 ∀H' ws A,bR x H H'->H' x=some (.ins C dx (ns.zip ws))->ns.length=ws.length->R (λ_=>none) H' xs ws A->A.Nodup->(∀a∈A,H a=none)->Q .aq H'
noncomputable def wa(C:Addr)(jX:List D->List Str->List D->Prop)(ta:cE):aI:=λδ Q=>ta δ λds ah=>∃ns xs,jX (ds.map D.sh) ns xs/\Q (.obj C ns (xs.map D.sh)) ah
theorem ak.made{B:Bs}{F H H':Hp}{σ:L2.St}{δ:Dl}{ts:List (D × V)}{C dx x:Addr}{ns:List Str}{xs:List D}{ws:List V}{A:List Addr}(c:ak B F H σ δ ts)(hs:af H H')(hx:H' x=some (.ins C dx (ns.zip ws)))(hl:ns.length=ws.length)
  (r:R (λ_=>none) H' xs ws A) (fr:∀a∈A,H a=none):af F (L3.bu F H' A)/\ak B (L3.bu F H' A) H' σ δ ((.obj C ns (xs.map D.sh),.ref x)::ts):=by
 have c1:=c.grow hs
 have hF:∀a∈A,F a=none:=λa ha=>c.ext.free (fr a ha)
 have r1:R F H' xs ws A:=r.keep (af.of λb o e=>by cases e) (gq.same (af.refl _)) gP.nil hF (by simp)
 have r2:=r1.bu c1.ext A (λ_ h=>h)
 have fs:af F (L3.bu F H' A):=js c1.ext
 obtain⟨A',C',r',s',nd,wb⟩:=c.own
 have out:∀a,(∃ws,H a=some (.lst ws))/\F a=none->L3.bu F H' A a=none:=λa zz=>by
  obtain⟨⟨ws,h⟩,hf⟩:=zz
  rw[rJ (λz=>by rw[fr a z]at h;cases h)];exact hf
 have g1:=r'.grow fs hs λa ha=>out a (r'.lists a ha)
 have g2:=s'.keep fs (gq.same hs) gP.nil (λa ha=>out a (s'.lists a ha)) (by simp)
 refine⟨fs,rH c1.ext,c1.b1,c1.b2.trans fs,λa ws h=>?_,A',C',?_,g2,nd,wb⟩
 ·by_cases z:a∈A
  ·exact .inr (c.b1.free (fr a z))
  ·rw[rJ z]at h;exact c.b3 a ws h
 ·exact R.obj hx hl r2 g1
section
variable{X:Cx}{CX:eY}{n:Nat}{f C:Addr}{fd:FuncData}{ps:List Str}{jX:List D->List Str->List D->Prop}{E:XK}{x:Str}{p pos:Pos}{e:Expr}{es:List Expr}{t:cE}{tl:List Addr}
theorem PC(hT:Tb tl X.km)(M:Mk X.K C f)(F:aO X.prog X.w X.K X.mg X.base CX n f fd ps (G8 tl C jX))(hr:bX (n+1) X.A)(hg:Gl X x)(hm:X.mg x=some (.ref C))(hb:Binds X.K fd ps [])(hx:kz CX X E)
  (ha:PA X (e::es) (lA t)) (dh:(x==("__debug__":Str))=false:=by decide) (he:starEach (e::es) X.env=(false,eval e X.env)::starEach es X.env:=by rfl) (bw:(backTo pos (starEach es X.env)).any (·.1)=false:=by rfl) :
  PE X (.Call (.Name x p) (e::es) [] pos) (lE (wa C jX t)):=by
 intro pins s σ H Q I zz
 obtain⟨B,F',δ,ts,Qd,c,q,k⟩:=zz
 have tb:=GZ I hT
 refine MS M F hr hg hm hb .nil hx ha dh he bw pins s σ H Q I ⟨B,F',δ,ts,_,c,q,λds ai vs F1 H1 q1 f1 h1 c1 s1=>?_⟩
 intro x dx cV ff kC
 obtain⟨ns,xs,hI,hq⟩:=q1
 have sm:af H1 (upd (upd H1 dx (.own x)) x (.ins C dx [])):=.of λb o e=>by rw[aU (eJ e cV),aU (eJ e ff)];exact e
 refine⟨x,dx,vs,ds.map D.sh,ns,xs,by rw[eU],zc (zc tb h1) sm,bH,(s1.frozen c1.ext).shared sm sm,hI,λH' ws A zd dD hl r nd fr=>⟨rfl,?_⟩⟩
 have s2:af H1 H':=⟨λb o e n=>zd.get b o (eJ e cV) (sm.get b o e n) n,λb ps e=>by
  obtain⟨m1,e1⟩:=sm.tb b ps e
  obtain⟨m2,e2⟩:=zd.tb b _ e1
  exact⟨m1++m2,by rw[e2,tP]⟩⟩
 obtain⟨fs,c2⟩:=c1.made s2 dD hl r λa ha=>sm.free (fr a ha)
 exact k _ ai _ _ H' hq (f1.trans fs) (h1.trans s2) c2
end
end L3
namespace Mf
open PySem L2 L3
noncomputable def gm(m:Bool × Nat)(a b:Nat):Nat:=if m.1 then md (cl a b) m.2 else a*b%m.2
noncomputable def aa(m:Bool × Nat):Nat:=if m.1 then 2 ^ (bl m.2-1)else m.2
noncomputable def Ce(g:Nat->Nat->Nat)(a:Nat):Nat->Nat->List Int->Option (List Int)
 | 0,_,_=>none
 | f+1,p,acc=>if p=1 then some acc else if p<64 then Ce g a f (g p a) (acc++[(p:Int)])else none
noncomputable def G9(g:Nat->Nat->Nat)(a:Nat):Option (List Int):=Ce g a 64 (g 1 a) [1]
noncomputable def Cf(g:Nat->Nat->Nat)(many:Nat):Nat->Nat->List Int->Option (List Int)
 | 0,_,_=>none
 | f+1,st,l=>if l.length+1<many then(match G9 g (st+1)with | some l'=>Cf g many f (st+1) l' | none=>none)else some l
noncomputable def ze(g:Nat->Nat->Nat)(many:Nat):Option (List Int):=match G9 g 1 with | some l=>Cf g many 62 1 l | none=>none
noncomputable def zh(g:Nat->Nat->Nat):v3:=λi j Q=>∃a b:Nat,i=a/\j=b/\a<64/\b<64/\Q (g a b:Nat)
noncomputable def gU:List Nat:=[7,11,13,19,25,31,37,41,47,55,59,61,67,73,87,91,97,103,109,115,117]
noncomputable def oh:List Nat:=[2,3,5,7,11,13,17,19,23,29,31,37,41,43,47,53,59,61]
noncomputable def av:List (Bool × Nat):=gU.map (λn=>(true,n))++oh.map λn=>(false,n)
noncomputable def oi(l:List Int):Nat->List Int
 | 0=>aK (l.length+1) 0
 | i+1=>(oi l i).set (l.getD i 0).toNat (i:Int)
noncomputable def e5(l:List Int):List Int:=oi l l.length
theorem zi(l:List Int):∀i,(oi l i).length=l.length+1
 | 0=>by simp[oi]
 | i+1=>by simp[oi,zi l i]
noncomputable def qq(l g:List Int)(a:Nat):List Int:=if a=0 then aK (l.length+1) 0 else 0::(aM l.length).map λ(b:Nat)=>l.getD ((g.getD a 0+g.getD (b+1) 0)%(l.length:Int)).toNat 0
noncomputable def wc(l g:List Int)(n:Nat):List D:=(aM n).map λa=>D.lst true (aF (qq l g a))
noncomputable def qt(l g:List Int):List D:=wc l g (l.length+1)
end Mf
namespace L3
open PySem L2 Mf
noncomputable def LI(H:Hp)(p:Addr)(ns:List Int):Prop:=H p=some (.lst (ns.map V.int))
theorem LI.same{H H':Hp}{p:Addr}{ns:List Int}(h:LI H p ns)(s:af H H'):LI H' p ns:=s.get _ _ h
theorem LI.upd{H:Hp}{p x:Addr}{ns:List Int}{o o':HO}(h:LI H p ns)(hx:H x=some o)(n:∀ws,o≠.lst ws):LI (upd H x o') p ns:=by
 unfold LI
 rw[aU (λz=>by rw[z]at h;unfold LI at h;rw[hx]at h;cases h;exact n _ rfl)];exact h
theorem PD{F' H' H:Hp}{v:V}{A:List Addr}{ns:List Int}(r:R F' H' [.lst true (aF ns)] [v] A)(fr:∀a∈A,H a=none):∃p,v=.ref p/\LI H' p ns/\H p=none:=by
 cases r with
 | @own p ws xs A1 _ _ B1 hp hf r1 r2 =>
  have:=OJ r1.s
  subst this
  exact⟨p,rfl,hp,fr p (by simp)⟩
structure cX2(K:PySem.W.Frag)(C f:Addr):Prop where
 cls:df K C
 many:bj K C "many"
 wide:bj K C "wide"
 Ha:bj K C "powers"
 cX3:bj K C "logs"
 step:bj K C "step"
 sp:Meth K C "step_power" f
structure PF(g:Nat->Nat->Nat)(many:Nat)(l:List Int)(st:Int):Prop where
 lo:2<=many
 hi:many<=64
 step:ze g many=some l
 len:l.length+1=many
 ins:∀x∈l,0<=x/\x.toNat<=l.length
 st:l[((1:Int)%((many:Int)-1)).toNat]?=some st
noncomputable def iA(b:Str):List Str:=[b,"many","wide","powers","logs","step"]
noncomputable def Cg(n0:Int)(many:Nat)(p1 p2:Addr)(st:Int):List V:=[.int n0,.int many,.int ((bl many:Nat)-1),.ref p1,.ref p2,.int st]
theorem we{f:Str}{v:V}:∀{fs:List (Str × V)},(∀p∈fs,p.1≠f)->bM f v fs=fs++[(f,v)]
 | [],_=>rfl
 | (g,x)::r,h=>by
  unfold bM
  rw[if_neg (h (g,x) (by simp)),we λp hp=>h p (by simp[hp])];rfl
theorem kD.sV{H:Hp}{x C dx f c k:Addr}{fs:List (Str × V)}{o':HO}{of oc:Obj}(h:kD H f of oc c k)(hx:H x=some (.ins C dx fs)):kD (L2.upd H x o') f of oc c k:=by
 obtain⟨ψ,e,y9⟩:=h.FV
 exact⟨by rw[aU (λz=>by rw[<-z,h.fn]at hx;cases hx)];exact h.fn,by rw[aU (λz=>by rw[<-z,h.cell]at hx;cases hx)];exact h.cell,ψ,by rw[aU (λz=>by rw[<-z,e]at hx;cases hx)];exact e,y9⟩
theorem zj{H:Hp}{x p:Addr}{o o':HO}(hx:H x=some o)(h:L2.upd H x o' p=none):H p=none:=by
 by_cases z:p=x
 ·subst z;rw[bH]at h;cases h
 ·rw[aU z]at h;exact h
theorem Ci{α:Type}{b f:Str}{v:α}{r:List (Str × α)}(h:b≠f):((b,v)::r).lookup f=r.lookup f:=by
 rw[gD,beq_eq_false_iff_ne.mpr (fi h)]
section
variable{H2 H3 H':Hp}{x f c p:Addr}{o1 o2:HO}
theorem zk{b:Addr}{o:HO}(e:H3 b=some o)(nb:b≠f)(nc:H3 c=none):L2.upd (L2.upd H3 f o1) c o2 b=some o:=by
 rw[aU (eJ e nc),aU nb];exact e
theorem PH(hs:af H2 H3)(nf:H2 f=none)(nc:H3 c=none)(s:bR x (L2.upd (L2.upd H3 f o1) c o2) H'):bR x H2 (rem H' f c) where
 get b o n e t:=by
  have z1:=eJ e nf
  have e3:=hs.get b o e t
  rw[iz z1 (eJ e3 nc)]
  exact s.get b o n (zk e3 z1 nc) t
 tb b ps e:=by
  have z1:=eJ e nf
  obtain⟨m,e3⟩:=hs.tb b ps e
  obtain⟨m2,e4⟩:=s.tb b _ (zk e3 z1 nc)
  exact⟨m++m2,by rw[iz z1 (eJ e3 nc),e4,tP]⟩
theorem Cj(hs:af H2 H3)(h:L2.upd (L2.upd H3 f o1) c o2 p=none):H2 p=none:=by
 refine hs.free ?_
 by_cases z:p=c
 ·subst z;rw[bH]at h;cases h
 ·rw[aU z]at h
  by_cases z2:p=f
  ·subst z2;rw[bH]at h;cases h
  ·rw[aU z2]at h;exact h
theorem LI.rem{l:List Int}{φ:Heap->Prop}{y:Addr}(h:LI H' p l)(hf:H' f=some (.ext φ))(hc:H' c=some (.own y)):LI (rem H' f c) p l:=by
 unfold LI at h ⊢
 rw[iz (λz=>by rw[z,hf]at h;cases h) (λz=>by rw[z,hc]at h;cases h)];exact h
theorem PJ{of oc:Obj}{k:Addr}(kC:c≠f)(nc:H3 c=none)(hk:FU H3 k)(kf:k≠f):kD (L2.upd (L2.upd H3 f (.ext (jS of oc c f))) c (.own f)) f of oc c k:=by
 obtain⟨ψ,e,y9⟩:=hk
 exact⟨by rw[aU kC.symm,bH],bH,ψ,zk e kf nc,y9⟩
end
noncomputable def fl(m:Bool × Nat):List Int:=(ze (gm m) (aa m)).getD []
noncomputable def fst(m:Bool × Nat):Int:=(fl m).getD ((1:Int)%((aa m:Int)-1)).toNat 0
noncomputable def PK(m:Bool × Nat):Bool:=decide (2<=aa m)&&decide (aa m<=64)&&(ze (gm m) (aa m)).isSome&&decide ((fl m).length+1=aa m)&&(fl m).all (λx=>decide (0<=x)&&decide (x.toNat<=(fl m).length))&&decide (((1:Int)%((aa m:Int)-1)).toNat<(fl m).length)
theorem ch9:av.all PK=true:=by decide +kernel
theorem dm{m:Bool × Nat}(h:m∈av):PF (gm m) (aa m) (fl m) (fst m):=by
 have h:=de.mp ch9 m h
 simp only[PK,eV,decide_eq_true_eq,de]at h
 obtain⟨⟨⟨⟨⟨h1,h2⟩,h3⟩,h4⟩,h5⟩,h6⟩:=h
 obtain⟨l,e⟩:=Ap.mp h3
 have el:fl m=l:=by unfold fl;rw[e];rfl
 refine⟨h1,h2,by rw[e,el],h4,λx hx=>h5 x hx,?_⟩
 unfold fst
 rw[aJ,aQ h6];rfl
theorem b51:∀p∈oh,(decide (2<=(p:Int))&&decide ((p:Int)<=61)&&(aM ((p:Int).toNat-2)).all λi=>(p:Int)%(2+(i:Int)) != 0)=true:=by decide +kernel
theorem co8:∀p∈gU,(decide (4<=(p:Int))&&decide ((p:Int)<=127)&&al (p:Int).toNat)=true:=by decide +kernel
theorem R.sV{F H:Hp}{x C dx:Addr}{fs:List (Str × V)}{o':HO}{ds:List D}{vs:List V}{A:List Addr}(r:R F H ds vs A)(hx:H x=some (.ins C dx fs))(hd:ds.all D.fr=true):R F (L2.upd H x o') ds vs A:=by
 have up:∀{a o},H a=some o->(∀C dx fs,o≠.ins C dx fs)->L2.upd H x o' a=some o:=λ{a o} e n=>by
  rw[aU (λz=>by rw[z,hx]at e;cases e;exact n _ _ _ rfl)];exact e
 induction r with
 | nil=>exact .nil
 | aq _ ih=>exact .aq (ih (by simpa[D.fr]using hd))
 | bl _ ih=>exact .bl (ih (by simpa[D.fr]using hd))
 | int _ ih=>exact .int (ih (by simpa[D.fr]using hd))
 | str _ ih=>exact .str (ih (by simpa[D.fr]using hd))
 | shr h x _ i1 ih=>simp[fM]at hd
 | own h f _ _ i1 i2 =>
  rw[dB,fM,eV,kX]at hd
  exact .own (up h λ_ _ _ z=>by cases z) f (i1 hd.1) (i2 hd.2)
 | tup h _ _ i1 i2 =>
  rw[dB,rF,eV]at hd
  exact .tup (up h λ_ _ _ z=>by cases z) (i1 hd.1) (i2 hd.2)
 | obj h l x _ i1 ih=>simp[D.fr]at hd
 | fz h x _ i1 ih=>simp[D.fr]at hd
 | @bz p z _ _ _ h r ih =>
  refine .bz ?_ (ih (by simpa[D.fr]using hd))
  cases z with
  | ext φ=>exact up h λ_ _ _ z=>by cases z
  | lam of oc c k=>exact kD.sV h hx
theorem PL(l g:List Int):(qt l g).all D.fr=true:=by
 unfold qt wc
 rw[pk,de]
 intro a _
 show(D.lst true (aF _)).fr=true
 rw[fM,sG];rfl
theorem bR.free{x a:Addr}{H H':Hp}(s:bR x H H')(hx:H' x≠none)(h:H' a=none):H a=none:=by
 cases q:H a with
 | none=>rfl
 | some o =>
  by_cases z:a=x
  ·subst z;exact absurd h hx
  ·cases n:jr o with
   | true=>rw[s.get a o z q n]at h;cases h
   | false =>
    obtain⟨ps,rfl⟩:=FT n
    obtain⟨m,e⟩:=s.tb a ps q
    rw[e]at h;cases h
theorem PM(l:List Int):∀i,∀x∈oi l i,0<=x
 | 0=>λx hx=>by rw[(xm.mp hx).2];exact Int.le_refl _
 | i+1=>λx hx=>by
  unfold oi at hx
  rcases LY hx with h | h
  ·exact PM l i x h
  ·rw[h];exact LA _
theorem PN:∀p∈gU,bl p<=7:=by decide +kernel
theorem PQ:∀p∈gU,1<=bl p:=by decide +kernel
theorem b44(a b:Nat):bl (cl a b)<=bl a+bl b:=by
 by_cases ha:a=0
 ·subst ha;rw[pP];exact kR _
 ·by_cases hb:b=0
  ·subst hb
   have:cl a 0=0:=rfl
   rw[this];exact kR _
  ·rw[Nz ha hb];omega
noncomputable def wj(l g:List Int):List D:=(aM (l.length+1)).map λa=>D.lst false (aF (qq l g a))
theorem b47(l g:List Int):(D.lst true (qt l g)).sh=.lst false (wj l g):=by
 rw[eN]
 unfold qt wc wj
 rw[bW]
 congr 1
 apply i6
 intro a _
 show D.sh (.lst true (aF _))=_
 rw[eN,kG]
noncomputable abbrev pD(m:Bool × Nat):List D:=[.int m.2,.int (aa m),.int ((bl (aa m):Nat)-1),.lst false (aF (fl m)),.lst false (aF (e5 (fl m))),.int (fst m)]
noncomputable def wk(C:Addr)(p:Nat):D:=.obj C (iA "prime") (pD (false,p))
noncomputable def zo(C:Addr)(p:Nat):D:=.obj C (iA "bits"++[("products":Str)]) (pD (true,p)++[.lst false (wj (fl (true,p)) (e5 (fl (true,p))))])
noncomputable def fD(cb cp:Addr)(m:Bool × Nat):D:=if m.1 then zo cb m.2 else wk cp m.2
end L3
namespace L3
open PySem L2 Mf
theorem zt{u p:Nat}(h:bl u<bl p):md u p=u:=xZ (q:=0) (by rw[pP,mx]) h
theorem bQ1{u v n:Nat}(hu:bl u<n)(hv:bl v<n):bl (u ^^^ v)<n:=by
 have h1:u<2 ^ (n-1):=fc.mp (by omega)
 have h2:v<2 ^ (n-1):=fc.mp (by omega)
 have:=fc.mpr (uC h1 h2)
 omega
theorem Ck{p:Nat}(hp:p≠0)(u v:Nat):md (u ^^^ v) p=md u p ^^^ md v p:=by
 obtain⟨⟨q1,e1⟩,l1⟩:=xY hp u
 obtain⟨⟨q2,e2⟩,l2⟩:=xY hp v
 refine xZ (q:=q1 ^^^ q2) ?_ (bQ1 l1 l2)
 rw[pO,<- Nn,<- e1,<- e2]
theorem PR{p:Nat}(hp:p≠0)(w:Nat):md (cl p w) p=0:=by rw[xX];exact Zq w hp
theorem bS:∀m∈av,0<m.2:=by decide +kernel
theorem gW(m:Bool × Nat)(a b:Nat):gm m a b=gm m b a:=by
 unfold gm
 split
 ·rw[xX]
 ·rw[kU]
theorem PU{n:Nat}(hn:n≠0)(u c:Nat):md (cl (md u n) c) n=md (cl u c) n:=by
 obtain⟨⟨q,e⟩,_⟩:=xY hn u
 have h:cl u c=cl n (cl q c) ^^^ cl (md u n) c:=by
  conv=>lhs;rw[e]
  rw[pO,xX n q,NF]
 rw[h,Ck hn,PR hn,mx]
theorem jY{m:Bool × Nat}(h:0<m.2)(a b c:Nat):gm m (gm m a b) c=gm m a (gm m b c):=by
 unfold gm
 split
 ·rw[PU (by omega),xX (md (cl b c) m.2) a,PU (by omega),NF a b c,xX (cl b c) a]
 ·rw[xn,LZ,<- xn,xn a (b*c%m.2),LZ,<- xn,pf]
theorem PV{m:Bool × Nat}(h:m.1=true){a:Nat}:a<aa m↔bl a<=bl m.2-1:=by
 unfold aa
 rw[if_pos h];exact fc.symm
theorem kI{m:Bool × Nat}{a:Nat}(ha:a<aa m):gm m 1 a=a:=by
 obtain⟨k,n⟩:=m
 cases k with
 | true =>
  show md (cl 1 a) n=a
  rw[Fy]
  have h1:=(PV (m:=(true,n)) rfl).mp ha
  have h1:bl a<=bl n-1:=h1
  by_cases z:bl n=0
  ·have a0:a=0:=by
    have:=fc (n:=a) (m:=0)
    have:=this.mp (by omega)
    omega
   subst a0
   have n0:n=0:=by
    have:=(fc (n:=n) (m:=0)).mp (by omega)
    omega
   subst n0
   decide
  ·exact zt (by omega)
 | false=>show 1*a%n=a;rw[xo];exact AD ha
theorem kJ{m:Bool × Nat}{a:Nat}(ha:a<aa m):gm m a 1=a:=by rw[gW];exact kI ha
noncomputable def lg(m:Bool × Nat)(a:Nat):Int:=(e5 (fl m)).getD a 0
noncomputable def pw(m:Bool × Nat)(k:Nat):Int:=(fl m).getD k 0
noncomputable def Hb(m:Bool × Nat):Bool:=((aM (aa m-1)).all λk=>decide (1<=pw m k)&&decide (pw m k<aa m)&&decide (lg m (pw m k).toNat=k))&&((aM (aa m-1)).all λa=>decide (0<=lg m (a+1))&&decide (lg m (a+1)<(aa m:Int)-1)&&decide (pw m (lg m (a+1)).toNat=((a+1:Nat):Int)))
theorem PY:av.all Hb=true:=by decide +kernel
theorem Cm{m:Bool × Nat}(hm:m∈av){k:Nat}(hk:k<aa m-1):1<=pw m k/\pw m k<aa m/\lg m (pw m k).toNat=k:=by
 have h:=de.mp PY m hm
 simp only[Hb,eV,de,decide_eq_true_eq,bK]at h
 have:=h.1 k hk
 exact⟨this.1.1,this.1.2,this.2⟩
theorem Cn{m:Bool × Nat}(hm:m∈av){a:Nat}(h1:1<=a)(h2:a<aa m):0<=lg m a/\lg m a<(aa m:Int)-1/\pw m (lg m a).toNat=a:=by
 have h:=de.mp PY m hm
 simp only[Hb,eV,de,decide_eq_true_eq,bK]at h
 have:=h.2 (a-1) (by omega)
 rw[show a-1+1=a by omega]at this
 exact⟨this.1.1,this.1.2,this.2⟩
theorem eE(m:Bool × Nat)(b:Nat)(h:0<m.2):gm m 0 b=0:=by
 unfold gm
 split
 ·rw[pP];exact zt (by rw[nE];exact ib (by omega))
 ·rw[L4,Nat.zero_mod]
theorem iB(m:Bool × Nat)(b:Nat)(h:0<m.2):gm m b 0=0:=by rw[gW];exact eE m b h
noncomputable def stC(m:Bool × Nat):Bool:=decide (pw m 0=1)&&(aM (aa m-1)).all λk=>decide (gm m (pw m k).toNat (pw m (1%(aa m-1))).toNat=(pw m ((k+1)%(aa m-1))).toNat)
theorem PZ:av.all stC=true:=by decide +kernel
theorem cn9(m:Bool × Nat)(hm:m∈av):pw m 0=1:=by
 have h:=de.mp PZ m hm
 simp only[stC,eV,decide_eq_true_eq]at h
 exact h.1
noncomputable def pN(m:Bool × Nat)(k:Nat):Nat:=(pw m (k%(aa m-1))).toNat
theorem cF6{m:Bool × Nat}(hm:m∈av)(k:Nat):pN m k<aa m:=by
 have eD:=(dm hm).lo
 have:=Cm hm (xp k (show 0<aa m-1 by omega))
 unfold pN
 omega
theorem P0{m:Bool × Nat}(hm:m∈av)(k:Nat):gm m (pN m k) (pN m 1)=pN m (k+1):=by
 have eD:=(dm hm).lo
 have h:=de.mp PZ m hm
 simp only[stC,eV,decide_eq_true_eq,de,bK]at h
 have h2:=h.2 (k%(aa m-1)) (xp k (by omega))
 rw[EF]at h2
 exact h2
theorem P1{m:Bool × Nat}(hm:m∈av)(i:Nat):∀j,gm m (pN m i) (pN m j)=pN m (i+j)
 | 0=>by
  have e:pN m 0=1:=by unfold pN;rw[Nat.zero_mod,cn9 m hm];rfl
  rw[e,kJ (cF6 hm i)];rfl
 | j+1=>by rw[<-P0 hm j,<- jY (bS m hm),P1 hm i j,P0 hm];rfl
theorem Hc{m:Bool × Nat}(hm:m∈av){a b:Nat}(a1:1<=a)(a2:a<aa m)(b1:1<=b)(b2:b<aa m):((gm m a b:Nat):Int)=pw m ((lg m a+lg m b)%((aa m:Int)-1)).toNat:=by
 have eD:=(dm hm).lo
 obtain⟨g0,g1,g2⟩:=Cn hm a1 a2
 obtain⟨f0,f1,f2⟩:=Cn hm b1 b2
 have ea:pN m (lg m a).toNat=a:=by unfold pN;rw[AD (by omega),g2];rfl
 have eb:pN m (lg m b).toNat=b:=by unfold pN;rw[AD (by omega),f2];rfl
 have e:=P1 hm (lg m a).toNat (lg m b).toNat
 rw[ea,eb]at e
 rw[e]
 have ei:((lg m a+lg m b)%((aa m:Int)-1)).toNat=((lg m a).toNat+(lg m b).toNat)%(aa m-1):=by
  have:(((lg m a).toNat+(lg m b).toNat)%(aa m-1):Nat)=((lg m a+lg m b)%((aa m:Int)-1)):=by
   rw[qR,L5,ua g0,ua f0,Int.natCast_sub (by omega)];rfl
  omega
 rw[ei]
 have:=Cm hm (xp ((lg m a).toNat+(lg m b).toNat) (show 0<aa m-1 by omega))
 unfold pN
 omega
theorem cf7{p a:Nat}(hp:p∈gU)(ha:a<aa (true,p)):qq (fl (true,p)) (e5 (fl (true,p))) a=(aM (aa (true,p))).map λb=>((gm (true,p) a b:Nat):Int):=by
 have hm:(true,p)∈av:=e7 _ (AE hp)
 have h0:=bS _ hm
 have hF:=dm hm
 have hlen:=hF.len
 unfold qq
 split
 ·rename_i h
  subst h
  rw[hlen]
  refine EG (by simp) λi h1 h2=>?_
  simp[eE _ _ h0]
 ·rename_i h
  rw[<-hlen,LQ,da,bW,iB _ _ h0]
  congr 1
  apply i6
  intro b hb
  have hb:=bK.mp hb
  show(fl (true,p)).getD (((e5 (fl (true,p))).getD a 0+(e5 (fl (true,p))).getD (b+1) 0)%((fl (true,p)).length:Int)).toNat 0=((gm (true,p) a (b+1):Nat):Int)
  rw[Hc hm (by omega) ha (by omega) (by omega),show(((fl (true,p)).length:Nat):Int)=(aa (true,p):Int)-1 by omega]
  rfl
theorem He{p a b:Nat}(hp:p∈gU)(ha:a<aa (true,p))(hb:b<aa (true,p)):fq (aF (qq (fl (true,p)) (e5 (fl (true,p))) a)) (b:Int)=some (.int (gm (true,p) a b:Nat)):=by
 refine pL (by omega) ?_
 rw[cf7 hp ha]
 unfold aF
 rw[iJ,cB,cB,jJ hb];rfl
theorem Hf{p a:Nat}(hp:p∈gU)(ha:a<aa (true,p)):fq (wj (fl (true,p)) (e5 (fl (true,p)))) (a:Int)=some (.lst false (aF (qq (fl (true,p)) (e5 (fl (true,p))) a))):=by
 have hF:=dm (m:=(true,p)) (e7 _ (AE hp))
 refine pL (by omega) ?_
 unfold wj
 rw[iJ,cB,jJ (by rw[hF.len];exact ha)];rfl
end L3
namespace L3
open PySem L2 Mf
theorem cs7(C:Addr)(p:Nat):D.obj C (iA "bits"++[("products":Str)]) (tY D.sh [.int p,.int (aa (true,p)),.int ((bl (aa (true,p)):Nat)-1),.lst true (aF (fl (true,p))),.lst true (aF (e5 (fl (true,p)))),.int (fst (true,p)),.lst true (qt (fl (true,p)) (e5 (fl (true,p))))])=zo C p:=by
 simp only[da,kg]
 rw[b47]
 simp only[eN,qf,kG];rfl
theorem b22(C:Addr)(p:Nat):D.obj C (iA "prime") (tY D.sh [.int p,.int p,.int ((bl p:Nat)-1),.lst true (aF (fl (false,p))),.lst true (aF (e5 (fl (false,p)))),.int (fst (false,p))])=wk C p:=by
 simp only[da,kg,eN,qf,kG];rfl
theorem zu{n:Nat}(h:(true,n)∈av):n∈gU:=by
 rcases bP.mp h with h | h
 ·obtain⟨x,hx,e⟩:=aX.mp h
  cases e;exact hx
 ·obtain⟨x,hx,e⟩:=aX.mp h
  cases e
theorem bB3{n:Nat}(h:(false,n)∈av):n∈oh:=by
 rcases bP.mp h with h | h
 ·obtain⟨x,hx,e⟩:=aX.mp h
  cases e
 ·obtain⟨x,hx,e⟩:=aX.mp h
  cases e;exact hx
open Classical in
theorem bW6{α:Type}{sh:Bool}{xs:List D}{aB:List (Str × Nat)}{n:Nat}{g0:iq}{te:aI}{ai:Dl}{Q:D->Dl->Prop}(l:List α)(e g:α->D)(jw:xs.map D.sh=l.map e)(inj:∀a b,e a=e b->a=b)
  (hx:∀a∈l,g0 (e a) (gv aB n ai) λaR=>te aR λd _=>d=g a) (hg:∀d δ (P P':Dl->Prop),(∀ah,P ah->P' ah)->g0 d δ P->g0 d δ P') (eM:(sh&&aB.all (ju ai))=true\/∀a∈l,(g a).fr=true) (hl:l.length<=sizeLine) (hq:Q (.lst true (l.map g)) ai):u9 sh xs aB n g0 mM te ai Q:=by
 let f:D->D:=λx=>if h:∃a∈l,e a=x then g h.choose else .aq
 have hf:∀a∈l,f (e a)=g a:=λa ha=>by
  have h:∃b∈l,e b=e a:=⟨a,ha,rfl⟩
  show(if h:∃b∈l,e b=e a then g h.choose else .aq)=g a
  rw[dif_pos h]
  exact congrArg g (inj _ _ h.choose_spec.2)
 refine⟨λ_=>true,f,λx h=>?_,eM.imp id λh x hx _=>?_,?_,?_⟩
 ·rw[jw]at h
  obtain⟨a,ha,rfl⟩:=aX.mp h
  rw[hf a ha]
  exact hg _ _ _ _ (λah h=>⟨rfl,λ_=>h⟩) (hx a ha)
 ·rw[jw]at hx
  obtain⟨a,ha,rfl⟩:=aX.mp hx
  rw[hf a ha];exact h a ha
 ·have:=congrArg Ej jw
  simp at this
  omega
 ·rw[jw,V9.mpr (λ_ _=>rfl),bW,show l.map (f ∘ e)=l.map g from i6 λa ha=>hf a ha]
  exact hq
theorem bZ6{i1 i2:Nat}(d:D)(δ:Dl)(P P':Dl->Prop)(h:∀ah,P ah->P' ah)(q:iV i1 i2 d δ P):iV i1 i2 d δ P':=by
 unfold iV at q ⊢
 split at q
 ·exact h _ q
 ·exact q
theorem bY4(xs ys:List Int):(gw (aF xs) (aF ys)).map D.sh=(xs.zip ys).map λz=>D.tup [.int z.1,.int z.2]:=by
 rw[O2,kG,kG]
 unfold gw aF
 rw[List.zipWith_map,List.zip,ED]
theorem ck3{p x y:Nat}(hp:p≠0)(hx:bl x<bl p):md (cl x y) p=(if y%2=1 then x else 0) ^^^ md (cl (if bl (2*x)=bl p then 2*x ^^^ p else 2*x) (y/2)) p:=by
 have e0:md (if y%2=1 then x else 0) p=(if y%2=1 then x else 0):=by
  split
  ·exact zt hx
  ·exact zt (by rw[nE];exact ib hp)
 rw[Nw,Ck hp,e0]
 congr 1
 split
 ·rw[pO,Ck hp,PR hp,mr]
 ·rfl
theorem co6{p x:Nat}(hp:p≠0)(hx:bl x<bl p):bl (if bl (2*x)=bl p then 2*x ^^^ p else 2*x)<bl p:=by
 have h2:=Zs x
 have h0:=ib hp
 split
 ·rename_i h
  have n0:2*x≠0:=λz=>by rw[z,nE]at h;omega
  have a1:=jo (2*x)
  have a2:=jo p
  have b1:=uA n0
  have b2:=uA hp
  rw[h]at a1 b1
  obtain⟨k,hk⟩:∃k,bl p=k+1:=⟨bl p-1,by omega⟩
  rw[hk]at a1 a2 b1 b2 ⊢
  have:=fc.mpr (Nl a1 a2 b1 b2)
  omega
 ·omega
end L3
namespace L3
open PySem L2 PySem.Spec PyProof.Rows
structure Co(P:Program)(w:World)(K:PySem.W.Frag)(mg:Str->Option Value)(base:Heap)(n:Nat)(m:Str)(C:Addr)(sp:mT):Prop where
 cls:df K C
 ex:∃f fd ps,Meth K C m f/\aO P w K mg base (kA P w) n f fd ps (nY sp)/\Binds K fd ps []
section
variable{X:Cx}{e o:Expr}{es:List Expr}{f m x:Str}{pos p apos:Pos}{to:aI}{ta:cE}{n:Nat}
noncomputable def sW(MO:Addr->mT->Prop)(m:Str)(to:aI)(ta:cE):aI:=λδ Q=>to δ λd ai=>∃C ns xs sp,d=.obj C ns xs/\MO C sp/\m ∉ ns/\ta ai λds aR=>sp ((D.obj C ns xs::ds).map D.sh) (λr=>((D.obj C ns xs::ds).all D.pl||r.fr)=true/\Q r aR) λ_=>False
theorem ch6{pl:Sem Bool}(ho:PE X o (lB to))(hr:bX n X.A)(ha:PA X (e::es) (lA ta))
  (cu:starEach (e::es) X.env=(false,eval e X.env)::starEach es X.env:=by rfl) (bw:(backTo pos (starEach es X.env)).any (·.1)=false:=by rfl)
  (ht:eval (.Call (.Attribute o m apos) (e::es) [] pos) X.env=(do
   let ov<-eval o X.env
   standAt apos.atName
   let (f,first)<-holding [ov] (getMethod ov m pl)
   callWith pos f first (backTo pos (starEach (e::es) X.env)) (backToKw pos (keywordEach [] X.env))):=by rfl) :
  PE X (.Call (.Attribute o m apos) (e::es) [] pos) (lE (sW (Co X.prog X.w X.K X.mg X.base n m) m to ta)):=by
 intro pins s σ H Q I zz
 obtain⟨B,F,δ,ts,Qd,c,q,k⟩:=zz
 refine PySem.W.methodCall_KW (pl:=pl) (aN (ho pins s σ H (λx H1=>∃d ai F1,S F1 H1 [d] [x]/\ak B F1 H1 σ ai ts/\af F F1/\af H H1/\∃C ns xs sp,d=.obj C ns xs/\Co X.prog X.w X.K X.mg X.base n m C sp/\m ∉ ns/\ta ai λds aR=>sp ((D.obj C ns xs::ds).map D.sh) (λr=>((D.obj C ns xs::ds).all D.pl||r.fr)=true/\Qd r aR) λ_=>False) I
  ⟨B,F,δ,ts,_,c,q,λd ai v F1 H1 hq f1 h1 c1 s1=>⟨d,ai,F1,s1,c1,f1,h1,hq⟩⟩) λu s1 zq=>?_) ht
 obtain⟨x,H1,I1,rx,d,ai,F1,sd,c1,f1,h1,C,ns,xs,sp,ed,M,hm,hq⟩:=zq
 subst ed
 obtain⟨a,dx,ws,rfl,ea,hl,r0⟩:=Cd sd
 obtain rfl:u=dn a:=rx
 obtain⟨f,fd,ps,qp,FO,hb⟩:=M.ex
 refine Bt I1 ea M.cls qp (G6 hm) ?_
 refine PySem.W.callWith_K (first:=[.ref a]) (h₀:=X.base) I.ok.mod.mC qp.kp (aN (ha pos pins s1 σ H1 (λvs H2=>∃ds aR F2,S F2 H2 ds vs/\ak B F2 H2 σ aR ts/\af F1 F2/\af H1 H2/\sp ((D.obj C ns xs::ds).map D.sh) (λr=>((D.obj C ns xs::ds).all D.pl||r.fr)=true/\Qd r aR) λ_=>False) I1
  ⟨B,F1,ai,ts,_,c1,hq,λds aR vs F2 H2 hq f2 h2 c2 s2=>⟨ds,aR,F2,s2,c2,f2,h2,hq⟩⟩) λus s2 ⟨vs,H2,I2,r,ds,aR,F2,G7,c2,f2,h2,jj⟩=>⟨I2.cR,?_⟩) cu bw
 refine uv (us:=.ref a::us) (vs:=.ref a::vs) (fo:=[]) (sM FO) hr hb .nil sJ I2 (.cons rfl r) ?_
 rw[eU]
 exact yf (sp:=λds Q=>sp ds Q λ_=>False) c2 (.obj (h2 _ _ ea) hl (r0.shared f2 h2) G7) jj λd v F' H' hd hf hs c'=>k d aR v F' H' hd (f1.trans (f2.trans hf)) (h1.trans (h2.trans hs)) c'
end
section
variable{X:Cx}{tb th:cF}{body GH:List Stmt}{GI:Stmt}{K:Str}{Kc:Addr}{kp OV pos:Pos}
end
end L3
namespace L3
open PySem L2 Mf
theorem P2{m:Bool × Nat}(hm:m∈av){a b:Nat}(a1:1<=a)(a2:a<aa m)(b1:1<=b)(b2:b<aa m):∃r:Nat,pw m ((lg m a-lg m b)%((aa m:Int)-1)).toNat=r/\r<aa m/\gm m r b=a:=by
 have hF:=dm hm
 have eD:=hF.lo
 have n0:=jK (lg m a-lg m b) (show(aa m:Int)-1≠0 by omega)
 have n1:=kZ (lg m a-lg m b) (show(0:Int)<(aa m:Int)-1 by omega)
 obtain⟨p1,p2,p3⟩:=Cm hm (k:=((lg m a-lg m b)%((aa m:Int)-1)).toNat) (by omega)
 obtain⟨g0,g1,g2⟩:=Cn hm a1 a2
 refine⟨(pw m ((lg m a-lg m b)%((aa m:Int)-1)).toNat).toNat,by omega,by omega,?_⟩
 have e:=Hc hm (a:=(pw m ((lg m a-lg m b)%((aa m:Int)-1)).toNat).toNat) (by omega) (by omega) b1 b2
 rw[p3,ua n0,Int.emod_add_emod,Int.sub_add_cancel,Int.emod_eq_of_lt g0 g1,g2]at e
 omega
end L3
namespace L3
open PySem L2 PySem.Spec PyProof.Rows
section
variable{X:Cx}{e o a:Expr}{es:List Expr}{f m y:Str}{pos p apos q:Pos}{t to ta':aI}{ta:cE}{n:Nat}{P:Program}{w:World}{K:PySem.W.Frag}{mg:Str->Option Value}{base:Heap}
theorem fW(he:PE X e (lB t))(hK:K=X.K:=by rfl)(hb:attributeBase e f X.env (eval e X.env)=eval e X.env:=by rfl):PE X (.Attribute e f pos) (lB (sS K t f)):=by
 subst hK;exact cD6 he hb
theorem oj{pl:Sem Bool}(ho:PE X o (lB to))(hr:bX n X.A)(ha:PA X (e::es) (lA ta))(hP:P=X.prog:=by rfl)(hw:w=X.w:=by rfl)(hK:K=X.K:=by rfl)(hm:mg=X.mg:=by rfl)(hb:base=X.base:=by rfl)
  (cu:starEach (e::es) X.env=(false,eval e X.env)::starEach es X.env:=by rfl) (bw:(backTo pos (starEach es X.env)).any (·.1)=false:=by rfl)
  (ht:eval (.Call (.Attribute o m apos) (e::es) [] pos) X.env=(do
   let ov<-eval o X.env
   standAt apos.atName
   let (f,first)<-holding [ov] (getMethod ov m pl)
   callWith pos f first (backTo pos (starEach (e::es) X.env)) (backToKw pos (keywordEach [] X.env))):=by rfl) :
  PE X (.Call (.Attribute o m apos) (e::es) [] pos) (lE (sT (kH P w K mg base n m) m to ta)):=by
 subst hP hw hK hm hb;exact cC0 ho hr ha cu bw ht
theorem b68{pl:Sem Bool}(ho:PE X o (lB to))(hr:bX n X.A)(hP:P=X.prog:=by rfl)(hw:w=X.w:=by rfl)(hK:K=X.K:=by rfl)(hm:mg=X.mg:=by rfl)(hb:base=X.base:=by rfl)
  (ht:eval (.Call (.Attribute o m apos) [] [] pos) X.env=(do
   let ov<-eval o X.env
   standAt apos.atName
   let (f,first)<-holding [ov] (getMethod ov m pl)
   callWith pos f first (backTo pos (starEach [] X.env)) (backToKw pos (keywordEach [] X.env))):=by rfl) :
  PE X (.Call (.Attribute o m apos) [] [] pos) (lE (sU (kH P w K mg base n m) m to)):=by
 subst hP hw hK hm hb;exact cj8 ho hr ht
theorem P4{pl:Sem Bool}(ho:PE X o (lB to))(hr:bX n X.A)(ha:PA X (e::es) (lA ta))(hP:P=X.prog:=by rfl)(hw:w=X.w:=by rfl)(hK:K=X.K:=by rfl)(hm:mg=X.mg:=by rfl)(hb:base=X.base:=by rfl)
  (cu:starEach (e::es) X.env=(false,eval e X.env)::starEach es X.env:=by rfl) (bw:(backTo pos (starEach es X.env)).any (·.1)=false:=by rfl)
  (ht:eval (.Call (.Attribute o m apos) (e::es) [] pos) X.env=(do
   let ov<-eval o X.env
   standAt apos.atName
   let (f,first)<-holding [ov] (getMethod ov m pl)
   callWith pos f first (backTo pos (starEach (e::es) X.env)) (backToKw pos (keywordEach [] X.env))):=by rfl) :
  PE X (.Call (.Attribute o m apos) (e::es) [] pos) (lE (sW (Co P w K mg base n m) m to ta)):=by
 subst hP hw hK hm hb;exact ch6 ho hr ha cu bw ht
end
theorem Hg:∀m∈Mf.av,1<=Mf.bl m.2/\Mf.bl m.2<=7:=by decide +kernel
end L3
namespace L3
open PySem L2 Mf
noncomputable def gp(m:Bool × Nat)(a b:Nat):Nat:=if m.1 then a ^^^ b else(a+b)%m.2
noncomputable def gl(m:Bool × Nat)(a b:Nat):Int:=if m.1 then(a ^^^ b:Nat)else((a:Int)-b)%m.2
noncomputable def gd(m:Bool × Nat)(xs ys:List Nat):Nat:=(cU (gm m) xs ys).foldl (gp m) 0
noncomputable def qu(c:Int):Bool × Nat:=if c%2=0 then(true,gU.getD (c/2%21).toNat 0)else(false,oh.getD (c/2%18).toNat 0)
theorem b48(c:Int):qu c∈av:=by
 unfold qu
 split
 ·refine e7 _ (aX.mpr ⟨_,?_,rfl⟩)
  have h:(c/2%21).toNat<gU.length:=by
   have:=kZ (c/2) (show(0:Int)<21 by decide)
   show _<21
   omega
  rw[aJ,aQ h]
  exact eB _
 ·refine dM _ (aX.mpr ⟨_,?_,rfl⟩)
  have h:(c/2%18).toNat<oh.length:=by
   have:=kZ (c/2) (show(0:Int)<18 by decide)
   show _<18
   omega
  rw[aJ,aQ h]
  exact eB _
noncomputable def dG(m:Bool × Nat):D:=.tup [.bl m.1,.int m.2]
theorem wm(cb cp:Addr)(m:Bool × Nat):fD cb cp m=.obj (if m.1 then cb else cp) (if m.1 then iA "bits"++[("products":Str)]else iA "prime") (if m.1 then pD (true,m.2)++[.lst false (wj (fl (true,m.2)) (e5 (fl (true,m.2))))]else pD (false,m.2)):=by
 obtain⟨k,n⟩:=m
 cases k<;>rfl
theorem P5(m:Bool × Nat)(x:Str)(h:x ∉ (["bits","prime","many","wide","powers","logs","step","products"]:List Str)):x ∉ (if m.1 then iA "bits"++[("products":Str)]else iA "prime"):=by
 obtain⟨k,n⟩:=m
 intro z
 apply h
 cases k
 ·have z:x∈iA "prime":=z
  simp[iA]at z
  simp only[cL]
  rcases z with z | z | z | z | z | z<;>simp[z]
 ·have z:x∈iA "bits"++[("products":Str)]:=z
  simp[iA]at z
  simp only[cL]
  rcases z with z | z | z | z | z | z | z<;>simp[z]
theorem P6(cb cp:Addr)(m:Bool × Nat):(fD cb cp m).sh=fD cb cp m:=by rw[wm];rfl
theorem P7(cb cp:Addr)(m:Bool × Nat):(fD cb cp m).pl=true:=by rw[wm];rfl
theorem cl6(m:Bool × Nat):(dG m).sh=dG m:=rfl
theorem cl1(m:Bool × Nat):(dG m).pl=true:=rfl
noncomputable def MOf(P:Program)(w:World)(K:PySem.W.Frag)(mg:Str->Option Value)(base:Heap)(n:Nat)(cb cp:Addr)(m:Bool × Nat)(x:Str)(ds:List D)(Q:D->Prop):Prop:=∃C ns xs sp,fD cb cp m=.obj C ns xs/\kH P w K mg base n x C sp/\x ∉ ns/\sp (.obj C ns xs::ds) Q
theorem jZ(m:Bool × Nat)(a b:Nat):gp m a b=gp m b a:=by
 unfold gp
 split
 ·rw[LF]
 ·rw[Ar]
theorem Hh(m:Bool × Nat)(a b c:Nat):gp m (gp m a b) c=gp m a (gp m b c):=by
 unfold gp
 split
 ·rw[qO]
 ·rw[EF,Nat.add_mod_mod,LR]
theorem Cp{m:Bool × Nat}(h:0<m.2)(a b c:Nat):gm m (gp m a b) c=gp m (gm m a c) (gm m b c):=by
 unfold gm gp
 split
 ·rw[pO,Ck (by omega)]
 ·rw[xn,LZ,<- xn,L6,EF,Nat.add_mod_mod]
theorem Hi{m:Bool × Nat}(h:0<m.2)(a b c:Nat):gm m c (gp m a b)=gp m (gm m c a) (gm m c b):=by rw[gW,Cp h,gW m a,gW m b]
theorem b57:∀m∈av,m.1=true->2<=bl m.2:=by decide +kernel
theorem Hj{m:Bool × Nat}(hm:m∈av){a b:Nat}(ha:a<aa m)(hb:b<aa m):gp m a b<aa m:=by
 have h0:=bS m hm
 obtain⟨k,n⟩:=m
 cases k with
 | true=>exact uC ha hb
 | false=>exact xp _ h0
theorem bC{m:Bool × Nat}(hm:m∈av)(a b:Nat):gm m a b<aa m:=by
 have h0:=bS m hm
 obtain⟨k,n⟩:=m
 cases k with
 | true =>
  have h2:=b57 (true,n) hm rfl
  have:=(xY (show n≠0 by have:0<n:=h0;omega) (cl a b)).2
  refine(PV rfl).mpr ?_
  show bl (md (cl a b) n)<=bl n-1
  omega
 | false=>exact xp _ h0
theorem wo{m:Bool × Nat}{a:Nat}(ha:a<aa m):gp m 0 a=a:=by
 obtain⟨k,n⟩:=m
 cases k with
 | true=>exact mx a
 | false=>show(0+a)%n=a;rw[L7];exact AD ha
theorem om{m:Bool × Nat}{a:Nat}(ha:a<aa m):gp m a 0=a:=by rw[jZ];exact wo ha
theorem cD9{m:Bool × Nat}(hm:m∈av){a b:Nat}(ha:a<aa m)(hb:b<aa m):∃r:Nat,gl m a b=r/\r<aa m/\gp m r b=a:=by
 have h0:=bS m hm
 obtain⟨k,n⟩:=m
 cases k with
 | true=>exact⟨a ^^^ b,rfl,uC ha hb,by show a ^^^ b ^^^ b=a;rw[qO,Av,mr]⟩
 | false =>
  have h0:0<n:=h0
  have ha:a<n:=ha
  have hb:b<n:=hb
  refine⟨(a+(n-b))%n,?_,xp _ h0,?_⟩
  ·show((a:Int)-b)%n=_
   rw[qR,L5,Int.natCast_sub (by omega),show((a:Int)+((n:Int)-b))=((a:Int)-b)+n by omega,Int.add_emod_right]
  ·show((a+(n-b))%n+b)%n=a
   rw[EF,show a+(n-b)+b=a+n by omega,Nat.add_mod_right,AD ha]
noncomputable def eS(m:Bool × Nat)(n:Int):Nat:=(pw m (n%((aa m:Int)-1)).toNat).toNat
theorem Cq{m:Bool × Nat}(hm:m∈av)(n:Int):1<=eS m n/\eS m n<aa m/\lg m (eS m n)=n%((aa m:Int)-1)/\pw m (n%((aa m:Int)-1)).toNat=eS m n:=by
 have eD:=(dm hm).lo
 have n0:=jK n (show(aa m:Int)-1≠0 by omega)
 have n1:=kZ n (show(0:Int)<(aa m:Int)-1 by omega)
 obtain⟨p1,p2,p3⟩:=Cm hm (k:=(n%((aa m:Int)-1)).toNat) (by omega)
 unfold eS
 rw[p3]
 omega
theorem cF5{m:Bool × Nat}(hm:m∈av)(a b:Int):gm m (eS m a) (eS m b)=eS m (a+b):=by
 obtain⟨a1,a2,a3,_⟩:=Cq hm a
 obtain⟨b1,b2,b3,_⟩:=Cq hm b
 have e:=Hc hm a1 a2 b1 b2
 rw[a3,b3,<- Int.add_emod]at e
 have c:=(Cq hm (a+b)).2.2.2
 rw[c]at e
 omega
theorem P8{m:Bool × Nat}(hm:m∈av){a:Nat}(h1:1<=a)(h2:a<aa m):eS m (lg m a)=a:=by
 obtain⟨g0,g1,g2⟩:=Cn hm h1 h2
 unfold eS
 rw[Int.emod_eq_of_lt g0 g1,g2];rfl
theorem cE9{m:Bool × Nat}(hm:m∈av){a b:Nat}(a1:1<=a)(a2:a<aa m)(b1:1<=b)(b2:b<aa m):gm m a b≠0:=by
 rw[<-P8 hm a1 a2,<- P8 hm b1 b2,cF5 hm]
 have:=(Cq hm (lg m a+lg m b)).1
 omega
end L3
namespace L2
open PySem PySem.Spec PyProof.Rows
section
variable{X:Cx}{a:Expr}{ta:TA}{p pos:Pos}{tg:Expr}
end
end L2
namespace L3
open PySem L2 PySem.Spec PyProof.Rows
section
variable{F H:Hp}{K:PySem.W.Frag}{p:Addr}{ws:List V}{xs:List D}
end
section
variable{X:Cx}{a:Expr}{ta:cE}{p pos:Pos}{tg:Expr}
end
end L3
namespace L3
open PySem L2 Mf
noncomputable def AllLt(n:Nat)(l:List Nat):Prop:=∀a∈l,a<n
theorem AllLt.getD{n:Nat}{l:List Nat}(h:AllLt n l)(h0:0<n)(k:Nat):l.getD k 0<n:=by
 rw[aJ]
 cases e:l[k]? with
 | none=>exact h0
 | some v=>exact h v (tS e)
end L3
namespace L3
open PySem L2 PySem.Spec PyProof.Rows
theorem bQ8(n:Nat)(l:List Nat):(au l).all (eo n)=true:=by
 rw[du,pk,de]
 intro a _
 exact sI n _
theorem sX(n:Nat)(o:Bool)(l:List Nat):eo (n+1) (.lst o (au l))=true:=bQ8 n l
theorem wq(o o':Bool)(a b:List Nat):bI (.lst o (au a)) (.lst o' (au b))=decide (a=b):=by
 unfold au
 rw[vH]
 congr 1
 apply propext
 constructor
 ·intro h
  have:=congrArg (tY k9) h
  have e:(k9 ∘ λ(n:Nat)=>(n:Int))=id:=by funext x;rfl
  rw[bW,bW,e,List.map_id,List.map_id]at this
  exact this
 ·intro h;rw[h]
theorem oo{l:List Nat}{k:Int}(h0:0<=k)(h:k.toNat<l.length):fq (au l) k=some (.int ((l.getD k.toNat 0:Nat):Int)):=by
 refine pL h0 ?_
 rw[du,cB,aQ h,aJ,aQ h];rfl
theorem Cr{n:Nat}{k:Int}(h0:0<=k)(h:k.toNat<n):jl n k=some k.toNat:=by
 unfold jl
 rw[if_pos h0,if_pos (by omega)]
theorem Ct{n:Nat}(k:Int)(h:k=n):(((aM k.toNat).map λ(k:Nat)=>D.int (0+(k:Int))).map D.sh)=(aM n).map λ(i:Nat)=>D.int (i:Int):=by
 subst h
 rw[yh,iJ]
 simp
theorem P9(l:List Nat)(k v:Nat):(au l).set k (.int (v:Nat))=au (l.set k v):=by
 rw[du,du,EH]
theorem b45(l:List Nat):(au l).all D.fr=true:=sG _
theorem Cu(o:Bool)(l:List Nat):(D.lst o (au l)).sh=.lst false (au l):=by rw[eN,sP]
theorem l8(l:List Nat):(D.lst true (au l)).fr=true:=by rw[fM,b45];rfl
theorem b65{a:Int}{n i:Nat}{d:D}(h:((aM n).map λ(k:Nat)=>D.int (a+(k:Int)))[i]?=some d):i<n/\d=.int (a+i):=by
 have hi:i<n:=by
  have:=(ke.mp h).1
  simpa using this
 refine⟨hi,?_⟩
 rw[cB,jJ hi]at h
 exact(cT h).symm
section
variable{X:Cx}
noncomputable def zw:jV:=λds Q=>match ds with
 | [.int i]=>Q (.int (if i<0 then -i else i))
 | _=>False
noncomputable def sY:jV:=λds Q=>match ds with
 | [.int i]=>Q (.int i)
 | [.bl b]=>Q (.int (if b then 1 else 0))
 | _=>False
theorem Qa:jv X (.type "int") sY:=jv.of XT λvs H Q zz=>by
 obtain⟨B,F,σ,δ,ts,ds,Qd,c,s,q,k⟩:=zz
 unfold sY at q
 split at q
 ·obtain⟨v,rfl,s1⟩:=lU s
  cases s1
  exact .inl ⟨_,rfl,k _ _ _ q (af.refl _) (c.pushS (.int .nil) rfl)⟩
 ·obtain⟨v,rfl,s1⟩:=lU s
  cases s1
  exact .inr ⟨_,rfl,k _ _ _ q (af.refl _) (c.pushS (.int .nil) rfl)⟩
 ·exact q.elim
end
end L3
namespace L3
open PySem L2 Mf
noncomputable def aS(m:Bool × Nat)(a b:Nat):Nat:=(gl m a b).toNat
theorem iW{m:Bool × Nat}(hm:m∈av){a b:Nat}(ha:a<aa m)(hb:b<aa m):gl m a b=(aS m a b:Nat)/\aS m a b<aa m/\gp m (aS m a b) b=a:=by
 obtain⟨r,e,h1,h2⟩:=cD9 hm ha hb
 have:aS m a b=r:=by unfold aS;rw[e];rfl
 rw[this]
 exact⟨e,h1,h2⟩
theorem Hk{n:Nat}{f:Nat->Nat->Nat}:∀{a b:List Nat},(∀x∈a,∀y∈b,f x y<n)->AllLt n (cU f a b)
 | [],_,_=>by intro x hx;simp at hx
 | _::_,[],_=>by intro x hx;simp at hx
 | x::a,y::b,h=>by
  intro z hz
  rw[List.zipWith_cons_cons]at hz
  rcases cL.mp hz with rfl | hz
  ·exact h x (by simp) y (by simp)
  ·exact Hk (λx hx y hy=>h x (by simp[hx]) y (by simp[hy])) z hz
theorem bI4(xs ys:List Nat):(gw (au xs) (au ys)).map D.sh=(xs.zip ys).map λz=>D.tup [.int (z.1:Int),.int (z.2:Int)]:=by
 unfold au
 rw[bY4,List.zip_map,bW];rfl
theorem Hl{sh:Bool}{aB:List (Str × Nat)}{n i1 i2:Nat}{te:aI}{ai:Dl}{Q:D->Dl->Prop}(f:Nat->Nat->Nat){A B:List Nat}(hx:∀x∈A,∀y∈B,iV i1 i2 (.tup [.int (x:Int),.int (y:Int)]) (gv aB n ai) λaR=>te aR λd _=>d=.int ((f x y:Nat):Int))
  (hl:A.length<=100000) (hq:Q (.lst true (au (cU f A B))) ai):u9 sh (gw (au A) (au B)) aB n (iV i1 i2) mM te ai Q:=by
 refine bW6 (A.zip B) (λz=>D.tup [.int (z.1:Int),.int (z.2:Int)]) (λz=>D.int ((f z.1 z.2:Nat):Int)) (bI4 A B) (λa b h=>?_) (λz hz=>hx z.1 (Ao hz).1 z.2 (Ao hz).2) bZ6 (.inr λ_ _=>rfl) (by rw[L8,sL];omega) ?_
 ·injection h with h
  simp at h
  exact Prod.ext (by omega) (by omega)
 ·rw[show((A.zip B).map λz=>D.int ((f z.1 z.2:Nat):Int))=au (cU f A B) by rw[du,List.zip,ED,ED]]
  exact hq
end L3
namespace L3
open PySem L2 PySem.Spec PyProof.Rows
theorem ak.c05{B:Bs}{F H:Hp}{σ:L2.St}{δ:Dl}{ps ts:List (D × V)}{p:Addr}{o:HO}{A1:List Addr}(c:ak B F H σ δ (ps++ts))(hp:H p=none)(r:R F (upd H p o) (ps.map (·.1)) (ps.map (·.2)) A1):p ∉ A1:=λh=>by
 obtain⟨A,C,r0,_,_,_⟩:=c.own
 rw[dS,dS]at r0
 obtain⟨v1,v2,B1,B2,e,rfl,h1,h2⟩:=R.split r0
 have l1:(ps.map (·.2)).length=v1.length:=by rw[<-h1.length];simp
 obtain⟨rfl,rfl⟩:=AA e l1
 have g1:=h1.grow (af.refl F) (af.upd (o:=o) hp) λa ha=>(h1.lists a ha).2
 have:A1=B1:=R.inj r g1
 subst this
 obtain⟨ws,e⟩:=(h1.lists p h).1
 rw[hp]at e;cases e
theorem ak.join{B:Bs}{F H:Hp}{σ:L2.St}{δ:Dl}{ts:List (D × V)}{p p' r:Addr}{xs ys:List D}{ws gr:List V}(c:ak B F H σ δ ((.lst true ys,.ref p')::(.lst true xs,.ref p)::ts))(e1:H p=some (.lst ws))(e2:H p'=some (.lst gr))(hr:H r=none) :
  ak B F (upd H r (.lst (ws++gr))) σ δ ((.lst true (xs++ys),.ref r)::ts):=by
 refine ak.pack (ps:=[(.lst true ys,.ref p'),(.lst true xs,.ref p)]) c (af.upd hr) λA1 r1 nd=>?_
 have nin:=ak.c05 (ps:=[(.lst true ys,.ref p'),(.lst true xs,.ref p)]) (ts:=ts) c hr r1
 have n1:p≠r:=λz=>by rw[z,hr]at e1;cases e1
 have n2:p'≠r:=λz=>by rw[z,hr]at e2;cases e2
 have r1:R F (upd H r (.lst (ws++gr))) [.lst true ys,.lst true xs] [.ref p',.ref p] A1:=r1
 cases r1 with
 | @own _ wy _ Ay _ _ By hy fy ry rb =>
  cases rb with
  | @own _ wx _ Ax _ _ Bx hx fx rx rc =>
   cases rc
   rw[aU n2,e2]at hy;cases hy
   rw[aU n1,e1]at hx;cases hx
   refine⟨r::(Ax++Ay),by simpa using R.own bH (c.ext.free hr) (rx.append ry) .nil,?_,λa ha=>?_⟩
   ·refine kS.mpr ⟨λz=>nin ?_,?_⟩
    ·rcases bP.mp z with z | z<;>simp[z]
    ·have sl:(Ay++Ax).Sublist (p'::Ay++(p::Ax++[])):=by
      rw[eU]
      exact(((L9 p Ax).append_left Ay).trans (L9 p' _))
     exact pj.nodup_iff.mp (nd.sublist sl)
   ·simp only[cL,bP]at ha ⊢
    rcases ha with rfl | ha | ha
    ·exact .inr hr
    ·simp[ha]
    ·simp[ha]
section
variable{X:Cx}{a b:Expr}{ta tb:aI}{pos:Pos}
noncomputable def wt(ta tb:aI):aI:=λδ Q=>ta δ λx ai=>tb ai λy aR=>∃xs ys,x=.lst true xs/\y=.lst true ys/\xs.length+ys.length<=sizeLine/\Q (.lst true (xs++ys)) aR
theorem ct5(ha:PE X a (lE ta))(hb:PE X b (lE tb)):PE X (.BinOp a .Add b pos) (lE (wt ta tb)) :=
 dq (xO Nh ha hb) λσ H Q ⟨B,F,δ,ts,Qd,c,q,k⟩ =>
  ⟨B,F,δ,ts,_,c,q,λx ai v F1 H1 q1 f1 h1 c1=>⟨B,F1,ai,(x,v)::ts,_,c1,q1,λy aR w F2 H2 q2 f2 h2 c2=>by
   obtain⟨xs,ys,rfl,rfl,hz,hq⟩:=q2
   obtain⟨p',gr,rfl,e2,s2⟩:=iw c2.top c2.ext
   obtain⟨p,ws,rfl,e1,s1⟩:=iw c2.pop.top c2.ext
   refine⟨p,p',ws,gr,rfl,rfl,e1,e2,by rw[<-s1.length,<- s2.length];exact hz,λr hr=>?_⟩
   exact k _ aR _ F2 _ hq (f1.trans f2) ((h1.trans h2).trans (af.upd hr)) (c2.join e1 e2 hr)⟩⟩
end
theorem bL5{a b:List Nat}(h:au a=au b):a=b:=by
 have:=wq true true a b
 rw[h,show bI (D.lst true (au b)) (D.lst true (au b))=true from(wq _ _ _ _).trans (decide_eq_true rfl)]at this
 exact of_decide_eq_true this.symm
theorem oq{o:Bool}(a b:List Nat)(h:D.lst o (au a)=D.lst o (au b)):a=b:=bL5 (by injection h)
end L3
namespace L3
open PySem L2 Mf
end L3
namespace L2
open PySem PySem.Spec PyProof.Rows
end L2
namespace L3
open PySem L2 PySem.Spec PyProof.Rows Mf
end L3
namespace L3
open PySem L2 Mf
noncomputable def cf(l:List Nat)(k:Nat):Nat:=l.getD k 0
theorem wu{l:List Nat}{k:Nat}(h:l.length<=k):cf l k=0:=by
 unfold cf;rw[aJ,fY h];rfl
theorem cP{m:Bool × Nat}(hm:m∈av){l:List Nat}(h:AllLt (aa m) l)(k:Nat):cf l k<aa m:=h.getD (by have:=(dm hm).lo;omega) k
theorem ck4(a:Nat)(l:List Nat)(k:Nat):cf (a::l) (k+1)=cf l k:=rfl
theorem Qb(l:List Nat)(n k:Nat):cf (l.drop n) k=cf l (n+k):=by
 unfold cf
 rw[aJ,EB,aJ]
theorem cz5(n k:Nat):cf (aK n 0) k=0:=by
 unfold cf
 rw[aJ,m9]
 split<;>rfl
theorem Cv(m:Bool × Nat)(x:Nat):aS m x x=0:=by
 obtain⟨k,n⟩:=m
 cases k with
 | true=>show(((x ^^^ x:Nat):Int)).toNat=0;rw[Av];rfl
 | false=>show(((x:Int)-(x:Int))%(n:Int)).toNat=0;rw[Int.sub_self,Int.zero_emod];rfl
end L3
namespace L3
open PySem L2 PySem.Spec PyProof.Rows
section
variable{B:Bs}{F H:Hp}{σ:L2.St}{δ:Dl}{ts ps:List (D × V)}{i k:Nat}{p q:Addr}{l1 l2 ys N4:List D}{ws si:List V}
end
section
variable{X:Cx}{F H:Hp}{e b:Expr}{pos p p2 p3 pr apos bE GC:Pos}{t ti te:aI}{x y:Str}{i j:Nat}
end
end L3
namespace L3
structure Rg(N:Nat)(p q:Nat->Nat->Nat):Prop where
 pc:∀a b,p a b=p b a
 pa:∀a b c,p (p a b) c=p a (p b c)
 mc:∀a b,q a b=q b a
 ma:∀{a b c},a<N->b<N->c<N->q (q a b) c=q a (q b c)
 dl:∀a b c,q a (p b c)=p (q a b) (q a c)
 z:∀{a},a<N->p 0 a=a
 qz:∀a,q a 0=0
 one:∀{a},a<N->q 1 a=a
 lp:∀{a b},a<N->b<N->p a b<N
 lq:∀a b,q a b<N
 ng:∀{a},a<N->∃b,b<N/\p a b=0
section
variable{N:Nat}{p q:Nat->Nat->Nat}
noncomputable def sm(p:Nat->Nat->Nat):Nat->(Nat->Nat)->Nat
 | 0,_=>0
 | n+1,f=>p (sm p n f) (f n)
theorem Rg.pos(r:Rg N p q):0<N:=ni (kR _) (r.lq 0 0)
theorem Rg.z'(r:Rg N p q){a:Nat}(h:a<N):p a 0=a:=by rw[r.pc];exact r.z h
theorem Rg.Hm(r:Rg N p q){a b c:Nat}(ha:a<N)(hb:b<N)(hc:c<N)(h:p a c=p b c):a=b:=by
 obtain⟨d,_,e⟩:=r.ng hc
 have:=congrArg (λx=>p x d) h
 simp only[r.pa,e]at this
 rw[r.z' ha,r.z' hb]at this
 exact this
theorem Rg.cn(r:Rg N p q){a b:Nat}(ha:a<N)(hb:b<N)(h:p a b=b):a=0:=r.Hm ha r.pos hb (by rw[h,r.z hb])
theorem cX{f g:Nat->Nat}:∀{n:Nat},(∀j,j<n->f j=g j)->sm p n f=sm p n g
 | 0,_=>rfl
 | n+1,h=>by rw[sm,sm,cX λj hj=>h j (by omega),h n (by omega)]
theorem mV(r:Rg N p q){f:Nat->Nat}:∀{n:Nat},(∀j,j<n->f j<N)->sm p n f<N
 | 0,_=>r.pos
 | n+1,h=>r.lp (mV r λj hj=>h j (by omega)) (h n (by omega))
theorem gx(r:Rg N p q){f:Nat->Nat}:∀{n:Nat},(∀j,j<n->f j=0)->sm p n f=0
 | 0,_=>rfl
 | n+1,h=>by rw[sm,gx r λj hj=>h j (by omega),h n (by omega)];exact r.z r.pos
theorem Rg.four(r:Rg N p q)(a b c d:Nat):p (p a b) (p c d)=p (p a c) (p b d):=by
 rw[r.pa,r.pa,<- r.pa b,<- r.pa c,r.pc b c]
theorem ot(r:Rg N p q)(f g:Nat->Nat):∀n,sm p n (λj=>p (f j) (g j))=p (sm p n f) (sm p n g)
 | 0=>(r.z r.pos).symm
 | n+1=>by rw[sm,ot r f g n,sm,sm,r.four]
theorem qv(r:Rg N p q)(c:Nat)(f:Nat->Nat):∀n,sm p n (λj=>q c (f j))=q c (sm p n f)
 | 0=>(r.qz c).symm
 | n+1=>by rw[sm,qv r c f n,sm,r.dl]
theorem Qc(r:Rg N p q)(F:Nat->Nat->Nat)(k:Nat):∀n,sm p n (λi=>sm p k λj=>F i j)=sm p k λj=>sm p n λi=>F i j
 | 0=>(gx r λ_ _=>rfl).symm
 | n+1=>by
  rw[sm,Qc r F k n,<- ot r];rfl
theorem Cw(r:Rg N p q){f:Nat->Nat}(n:Nat):∀k,(∀j,j<n+k->f j<N)->sm p (n+k) f=p (sm p n f) (sm p k λj=>f (n+j))
 | 0,h=>(r.z' (mV r λj hj=>h j (by omega))).symm
 | k+1,h=>by
  rw[<-LR,sm,Cw r n k λj hj=>h j (by omega),sm,r.pa]
end
end L3
namespace L3
section
variable{N:Nat}{p q:Nat->Nat->Nat}
end
end L3
namespace L3
open PySem L2 Mf
theorem rg{m:Bool × Nat}(hm:m∈av):Rg (aa m) (gp m) (gm m) where
 pc:=jZ m
 pa:=Hh m
 mc:=gW m
 ma:=λ_ _ _=>jY (bS m hm) _ _ _
 dl:=λa b c=>Hi (bS m hm) b c a
 z:=wo
 qz:=λa=>iB m a (bS m hm)
 one:=kI
 lp:=Hj hm
 lq:=bC hm
 ng:=λ{a} ha=>by
  have g:=iW hm (a:=0) (b:=a) (by omega) ha
  exact⟨_,g.2.1,(jZ m _ _).trans g.2.2⟩
theorem b82(p:Nat->Nat->Nat)(l:List Nat):l.foldl p 0=sm p l.length λj=>l.getD j 0:=by
 have key:∀n,n<=l.length->(l.take n).foldl p 0=sm p n λj=>l.getD j 0:=by
  intro n
  induction n with
  | zero=>intro _;rfl
  | succ n ih =>
   intro h
   rw[kY,aQ (by omega),AF,ih (by omega),sm,aJ,aQ (show n<l.length by omega)]
   rfl
 have:=key l.length (bD _)
 rw[qQ]at this
 exact this
theorem Qe{m:Bool × Nat}(hm:m∈av)(f:Nat)(b:List Nat)(j:Nat):cf (b.map (gm m f)) j=gm m f (cf b j):=by
 unfold cf
 rw[aJ,cB,aJ]
 cases b[j]? with
 | none=>exact(iB m f (bS m hm)).symm
 | some x=>rfl
theorem Qf{m:Bool × Nat}(hm:m∈av){a b:Nat}(ha:a<aa m)(hb:b<aa m)(h0:b≠0):∃r,r<aa m/\gm m r b=a:=by
 by_cases a0:a=0
 ·exact⟨0,by have:=(dm hm).lo;omega,by rw[a0];exact eE m b (bS m hm)⟩
 ·obtain⟨r,_,h1,h2⟩:=P2 hm (show 1<=a by omega) ha (show 1<=b by omega) hb
  exact⟨r,h1,h2⟩
end L3
namespace L3
open PySem L2 PySem.Spec PyProof.Rows
section
variable{X:Cx}{i j:Nat}{x y:Str}{p pos pos' apos bE:Pos}
end
section
variable{X:Cx}{e:Expr}{t:aI}{p pos:Pos}
end
section
variable{X:Cx}
theorem b10(i:Int)(ns:List Int):Bv (.int i) (ns.map V.int)=decide (i∈ns):=by
 unfold Bv
 rw[List.any_map,tU,LJ,decide_eq_true_iff]
 exact⟨λ⟨x,hx,he⟩=>(show x=i by simpa[mG]using he) ▸ hx,λhx=>⟨i,hx,by simp[mG]⟩⟩
noncomputable def sZ:cW:=λx y Q=>match x,y with
 | .int i,.lst _ xs=>∃ns:List Int,xs=aF ns/\Q (.bl (!decide (i∈ns)))
 | _,_=>False
theorem cz4:bQ X (compareOp .NotIn) sZ :=
 ⟨_,YN,λ{B F H σ δ ts x y v w Q Qd} c sx sy h k=>by
  unfold sZ at h
  split at h
  ·rename_i i o xs
   obtain⟨ns,rfl,q⟩:=h
   obtain⟨p,ws,rfl,e1,s1⟩:=iw sy c.ext
   have e:=GV s1
   subst e
   cases sx
   refine⟨p,_,rfl,.inl (bF.of e1),rfl,by simp[nC],?_⟩
   rw[if_pos rfl,b10]
   exact k _ _ _ q (af.refl _) (c.pushS (.bl .nil) rfl)
  ·exact h.elim⟩
end
end L3
namespace L3
open PySem L2 Mf
noncomputable def aw(o:Bool)(T:List (List Nat)):List D:=T.map λr=>.lst o (au r)
theorem jy(o:Bool)(T:List (List Nat)):(aw o T).length=T.length:=by unfold aw;rw[aY]
theorem eP(o:Bool)(T:List (List Nat)):(aw o T).map D.sh=aw false T:=by
 unfold aw
 rw[bW]
 exact i6 λr _=>Cu o r
theorem s8(T:List (List Nat)):(aw false T).all D.pl=true:=by
 unfold aw
 rw[pk,de]
 intro r _
 show(D.lst false (au r)).pl=true
 rw[gO,nZ];rfl
theorem qw(T:List (List Nat)):(aw true T).all D.fr=true:=by
 unfold aw
 rw[pk,de]
 intro r _
 exact l8 r
theorem s9(o:Bool)(S T:List (List Nat)):aw o S++aw o T=aw o (S++T):=by unfold aw;rw[dS]
theorem zx(o:Bool)(T:List (List Nat))(lo hi:Option Int):fV (aw o T) lo hi=aw o (fV T lo hi):=by
 unfold aw fV
 rw[aY,LV,LU]
theorem zy(o:Bool){T:List (List Nat)}{i:Nat}(h:i<T.length):fq (aw o T) (i:Int)=some (.lst o (au T[i])):=by
 refine L3.GQ ?_
 unfold aw
 rw[cB,aQ h];rfl
theorem bY8(n:Nat)(o:Bool)(T:List (List Nat)):(aw o T).all (eo (n+1))=true:=by
 unfold aw
 rw[pk,de]
 intro r _
 exact sX _ _ _
theorem Qg(n:Nat)(o o':Bool)(T:List (List Nat)):eo (n+2) (.lst o (aw o' T))=true:=bY8 n o' T
theorem Qh(o o':Bool):∀(a b:List (List Nat)),bI.gh (aw o a) (aw o' b)=decide (a=b)
 | [],[]=>rfl
 | [],_::_=>by simp[aw,bI.gh]
 | _::_,[]=>by simp[aw,bI.gh]
 | x::xs,y::ys=>by
  show(bI (.lst o (au x)) (.lst o' (au y))&&bI.gh (aw o xs) (aw o' ys))=_
  rw[Qh o o' xs ys,wq,tU];simp
theorem cf2(o o' o1 o2:Bool)(a b:List (List Nat)):bI (.lst o (aw o1 a)) (.lst o' (aw o2 b))=decide (a=b):=Qh o1 o2 a b
open Classical in
theorem Cy{α:Type}{sh:Bool}{xs:List D}{aB:List (Str × Nat)}{n:Nat}{g0:iq}{tt:fP}{te:aI}{ai:Dl}{Q:D->Dl->Prop}(l:List α)(e g:α->D)(kp:α->Bool)(jw:xs.map D.sh=l.map e)(inj:∀a b,e a=e b->a=b)
  (hx:∀a∈l,g0 (e a) (gv aB n ai) λaR=>tt aR λb iS=>b=kp a/\(kp a=true->te iS λd _=>d=g a)) (eM:(sh&&aB.all (ju ai))=true\/∀a∈l,kp a=true->(g a).fr=true) (hl:l.length<=sizeLine) (hq:Q (.lst true ((l.filter kp).map g)) ai):u9 sh xs aB n g0 tt te ai Q:=by
 have pick:∀{β:Type} (h:α->β) (z:β),∃f:D->β,∀a∈l,f (e a)=h a:=λh z=>⟨λx=>if w:∃a∈l,e a=x then h w.choose else z,λa ha=>by
  have w:∃b∈l,e b=e a:=⟨a,ha,rfl⟩
  show(if w:∃b∈l,e b=e a then h w.choose else z)=h a
  rw[dif_pos w]
  exact congrArg h (inj _ _ w.choose_spec.2)⟩
 obtain⟨f,hf⟩:=pick g .aq
 obtain⟨p,hp⟩:=pick kp false
 refine⟨p,f,λx h=>?_,eM.imp id λh x dD=>?_,?_,?_⟩
 ·rw[jw]at h
  obtain⟨a,ha,rfl⟩:=aX.mp h
  rw[hp a ha,hf a ha]
  exact hx a ha
 ·rw[jw]at dD
  obtain⟨a,ha,rfl⟩:=aX.mp dD
  rw[hp a ha,hf a ha];exact h a ha
 ·have:=congrArg Ej jw
  simp at this
  omega
 ·rw[jw,List.filter_map,bW,show l.filter (p ∘ e)=l.filter kp from List.filter_congr λa ha=>hp a ha,show(l.filter kp).map (f ∘ e)=(l.filter kp).map g from i6 λa ha=>hf a (m5.mp ha).1]
  exact hq
theorem Qi{o:Bool}{G:List (List Nat)}{i:Nat}{d:D}(h:(gR (aw o G))[i]?=some d):∃hi:i<G.length,d=.tup [.int i,.lst o (au G[i])]:=by
 unfold gR aw at h
 rw[EE,cB]at h
 by_cases hi:i<G.length
 ·rw[aQ hi]at h
  exact⟨hi,(cT h).symm⟩
 ·rw[fY (by omega)]at h;cases h
theorem Qj(r:List Nat):(gR (au r)).map D.sh=(aM r.length).map λ(i:Nat)=>D.tup [.int (i:Int),.int ((r.getD i 0:Nat):Int)]:=by
 apply LW
 intro i
 unfold gR
 rw[du,cB,EE,cB,cB]
 by_cases hi:i<r.length
 ·have e:r.getD i 0=r[i]:=by rw[aJ,aQ hi];rfl
  rw[aQ hi,jJ hi]
  show _=some (D.tup [D.int (i:Int),D.int ((r.getD i 0:Nat):Int)])
  rw[e];rfl
 ·rw[fY (show r.length<=i by omega),fY (show(aM r.length).length<=i by simpa using hi)];rfl
theorem Qk{r:List Nat}(h:∃x∈r,x≠0):((aM r.length).filter λi=>r.getD i 0 != 0)[0]?=some (r.findIdx (· != 0)):=by
 obtain⟨x,hx,h0⟩:=h
 have hl:r.findIdx (· != 0)<r.length:=Ma ⟨x,hx,by simpa using h0⟩
 rw[<-List.head?_eq_getElem?,List.head?_filter,List.find?_range_eq_some]
 refine⟨?_,bK.mpr hl,λj hj=>?_⟩
 ·rw[aJ,aQ hl]
  exact Wf (w:=hl)
 ·have:=List.not_of_lt_findIdx hj
  rw[aJ,aQ (by omega)]
  simpa using this
noncomputable def ag(T:List (List Nat)):Nat:=(T.headD []).length
noncomputable def j5(T:List (List Nat))(j:Nat):Option Nat:=T.findIdx? λr=>r.getD j 0 != 0
noncomputable def gG(m:Bool × Nat)(T:List (List Nat))(l:List Nat)(j:Nat):List (List Nat):=T.map λr=>cU (λx y=>aS m x (gm m (r.getD j 0) y)) r l
noncomputable def mW(m:Bool × Nat)(b:Nat):Nat:=((aM (aa m)).find? λr=>gm m r b==1).getD 0
theorem Cz{m:Bool × Nat}(hm:m∈av){b r:Nat}(hr:r<aa m)(h:gm m r b=1):mW m b=r:=by
 have m0:=bS m hm
 unfold mW
 cases e:(aM (aa m)).find? λr=>gm m r b==1 with
 | none =>
  have:=Mb.mp e r (bK.mpr hr)
  simp[h]at this
 | some r' =>
  have h':gm m r' b=1:=by simpa using List.find?_some e
  have l':r'<aa m:=bK.mp (LS e)
  show r'=r
  rw[<-kJ hr,<- h',<- jY m0,gW m r r',jY m0,h,kJ l']
noncomputable def RT(N w:Nat)(T:List (List Nat)):Prop:=∀r∈T,r.length=w/\AllLt N r
theorem RT.app{N w:Nat}{S T:List (List Nat)}(a:RT N w S)(b:RT N w T):RT N w (S++T):=λr hr=>(bP.mp hr).elim (a r) (b r)
theorem Ql{m:Bool × Nat}(hm:m∈av){w j:Nat}{T:List (List Nat)}{l:List Nat}(h:RT (aa m) w T)(hl:l.length=w):RT (aa m) w (gG m T l j):=λr hr=>by
 obtain⟨r,h1,rfl⟩:=aX.mp hr
 obtain⟨a,b⟩:=h r h1
 exact⟨by rw[kh,a,hl,pq],Hk λx hx y hy=>(iW hm (b x hx) (bC hm _ y)).2.1⟩
noncomputable def eG(m:Bool × Nat)(T:List (List Nat))(i p:Nat):List Nat:=(T.getD i []).map (gm m (mW m ((T.getD i []).getD p 0)))
noncomputable def iC(m:Bool × Nat)(s:List (List Nat) × List (List Nat))(p:Nat):List (List Nat) × List (List Nat):=match j5 s.2 p with
 | none=>s
 | some i=>(gG m s.1 (eG m s.2 i p) p++[eG m s.2 i p],gG m (s.2.take i++s.2.drop (i+1)) (eG m s.2 i p) p)
noncomputable def j6(m:Bool × Nat)(G:List (List Nat))(k:Nat):List (List Nat) × List (List Nat):=(aM k).foldl (iC m) ([],G)
noncomputable def bU(m:Bool × Nat)(G:List (List Nat)):List (List Nat):=(j6 m G (ag G)).1
theorem Ho(m:Bool × Nat)(G:List (List Nat))(k:Nat):j6 m G (k+1)=iC m (j6 m G k) k:=by
 unfold j6
 rw[ub,AF];rfl
theorem CA{T:List (List Nat)}{j i:Nat}(h:j5 T j=some i):∃hi:i<T.length,T[i].getD j 0≠0/\T.getD i []=T[i]:=by
 obtain⟨hi,h1,_⟩:=Wg.mp h
 exact⟨hi,by simpa using h1,by rw[aJ,aQ hi];rfl⟩
structure zA(N w n:Nat)(s:List (List Nat) × List (List Nat)):Prop where
 a:RT N w s.1
 b:RT N w s.2
 l:s.1.length+s.2.length<=n
theorem b35{m:Bool × Nat}(hm:m∈av){w n p:Nat}{s:List (List Nat) × List (List Nat)}(h:zA (aa m) w n s):zA (aa m) w n (iC m s p):=by
 unfold iC
 split
 ·exact h
 ·rename_i i e
  obtain⟨hi,h1,h2⟩:=CA e
  have hl:(eG m s.2 i p).length=w:=by unfold eG;rw[aY,h2];exact(h.b _ (eB hi)).1
  have hr:RT (aa m) w [eG m s.2 i p]:=λr hr=>by
   rw[dR]at hr
   refine⟨by rw[hr];exact hl,λx hx=>?_⟩
   rw[hr]at hx
   obtain⟨y,_,rfl⟩:=aX.mp hx
   exact bC hm _ _
  refine⟨(Ql hm h.a hl).app hr,Ql hm (λr hr=>h.b r ?_) hl,?_⟩
  ·rcases bP.mp hr with hr | hr
   ·exact tX hr
   ·exact pz hr
  ·have:=h.l
   unfold gG
   rw[cy,aY,aY,cy,fJ,fA]
   show s.1.length+1+_<=n
   omega
theorem CB{m:Bool × Nat}(hm:m∈av){w:Nat}{G:List (List Nat)}(h:RT (aa m) w G):∀k,zA (aa m) w G.length (j6 m G k)
 | 0=>⟨(λr hr=>nomatch hr),h,xi (L7 _)⟩
 | k+1=>by rw[Ho];exact b35 hm (CB hm h k)
theorem b20(j:Nat)(l:List Nat):decide ((j:Int)∈l.map λ(n:Nat)=>(n:Int))=l.contains j:=by
 rw[tU,decide_eq_true_iff,EI,aX]
 exact⟨λ⟨a,h,e⟩=>(show a=j by omega) ▸ h,λh=>⟨j,h,rfl⟩⟩
theorem ck0{o:Bool}{G:List (List Nat)}{f:List Nat->Nat}{k:Nat}{d:D}(h:(gw (au (G.map f)) (aw o G))[k]?=some d):∃hk:k<G.length,d=.tup [.int ((f G[k]:Nat):Int),.lst o (au G[k])]:=by
 unfold gw aw at h
 rw[du,AG,cB,cB,cB]at h
 by_cases hk:k<G.length
 ·rw[aQ hk]at h
  exact⟨hk,(cT h).symm⟩
 ·rw[fY (by omega)]at h;cases h
theorem Qm{α:Type}(a:α->Nat)(b:α->Nat):∀(l:List α) (x:List Nat),(l.foldl (λx z=>x.set (a z) (b z)) x).length=x.length
 | [],_=>rfl
 | z::l,x=>by rw[oZ,Qm a b l,qM]
end L3
namespace L2
open PySem PySem.Spec PyProof.Rows
theorem bK5{M:Model}{A:Around}{E:Value->Shared->Prop}{s:Shared}{scope:Scope}{globals:Addr}{cl:List (Str × Addr)}{qual:Str}{env:Env}{bi:Addr}{Q:Env->Shared->Prop}
  (hQ:Q (newEnv scope s.heap.objs.size globals (cellsFrom (s.heap.objs.size+1) scope.names cl) qual none .none (some env) bi) { s with heap:=pushCells (s.heap.push { cls:=.type "dict",data:=.dict #[] }) scope.names }) :
  wpAny M A (newFunctionEnv scope globals cl [] qual none .none (some env) bi) Q E s:=by
 simp only[newFunctionEnv,Option.isSome_some,if_true]
 refine wpAny_bind (wpAny_alloc (wpAny_bind (wpAny_layCells _ (λname kind cells=>by cases e:kind==EJ<;>simp[e]) _ _ _ _ ?_)))
 rw[List.forIn_nil]
 refine wpAny_bind (wpAny_pure (wpAny_pure ?_))
 have z:({ s with heap:=s.heap.push { cls:=.type "dict",data:=.dict #[] } }:Shared).heap.objs.size=s.heap.objs.size+1:=xh ..
 rw[z]
 exact hQ
theorem zB:∀(ns:List (Str × NameKind)) (n:Nat) (acc:List (Str × Addr)) (y:Str) (c:Addr),(cellsFrom n ns acc).lookup y=some c->(n<=c/\(y,EJ)∈ns)\/acc.lookup y=some c
 | [],_,_,_,_,h=>.inr h
 | (z,k)::r,n,acc,y,c,h=>by
  unfold cellsFrom at h
  split at h
  ·rename_i hk
   rcases zB r (n+1) _ y c h with⟨h1,h2⟩ | h1
   ·exact .inl ⟨by omega,fh _ h2⟩
   ·rw[gD]at h1
    cases q:y==z with
    | true =>
     rw[q]at h1;cases h1
     exact .inl ⟨bD _,by rw[eq_of_beq q,eq_of_beq hk];exact gj⟩
    | false=>rw[q]at h1;exact .inr h1
  ·rcases zB r n acc y c h with⟨h1,h2⟩ | h1
   ·exact .inl ⟨h1,fh _ h2⟩
   ·exact .inr h1
theorem Hq:∀(ns:List (Str × NameKind)) (n:Nat) (acc:List (Str × Addr)),(∀y z c,acc.lookup y=some c->acc.lookup z=some c->y=z)->(∀y c,acc.lookup y=some c->c<n) ->
  ∀y z c,(cellsFrom n ns acc).lookup y=some c->(cellsFrom n ns acc).lookup z=some c->y=z
 | [],_,_,i,_,y,z,c,h1,h2=>i y z c h1 h2
 | (u,k)::r,n,acc,i,b,y,z,c,h1,h2=>by
  unfold cellsFrom at h1 h2
  split at h1
  ·rw[if_pos (by assumption)]at h2
   refine Hq r (n+1) ((u,n)::acc) (λy z c e1 e2=>?_) (λy c e=>?_) y z c h1 h2
   ·rw[gD]at e1 e2
    cases q1:y==u with
    | true =>
     rw[q1]at e1;cases e1
     cases q2:z==u with
     | true=>rw[eq_of_beq q1,eq_of_beq q2]
     | false=>rw[q2]at e2;exact absurd (b _ _ e2) (gC _)
    | false =>
     rw[q1]at e1
     cases q2:z==u with
     | true=>rw[q2]at e2;cases e2;exact absurd (b _ _ e1) (gC _)
     | false=>rw[q2]at e2;exact i y z c e1 e2
   ·rw[gD]at e
    cases q:y==u with
    | true=>rw[q]at e;cases e;exact Ei _
    | false=>rw[q]at e;exact Nat.lt_succ_of_lt (b _ _ e)
  ·rw[if_neg (by assumption)]at h2
   exact Hq r n acc i b y z c h1 h2
theorem Hr:∀(ns:List (Str × NameKind)) (n:Nat) (acc:List (Str × Addr)) (y:Str) (c:Addr),(y,EJ)∈ns->(cellsFrom n ns acc).lookup y=some c->n<=c
 | [],_,_,_,_,m,_=>nomatch m
 | (z,k)::r,n,acc,y,c,m,h=>by
  unfold cellsFrom at h
  split at h
  ·rename_i hk
   rcases cL.mp m with e | m
   ·have e1:y=z:=(Prod.mk.inj e).1
    rcases zB r (n+1) _ y c h with⟨h1,_⟩ | h1
    ·exact AH h1
    ·rw[gD,e1,beq_self_eq_true]at h1
     exact xi (cT h1)
   ·exact AH (Hr r (n+1) _ y c m h)
  ·rename_i hk
   rcases cL.mp m with e | m
   ·cases e;exact absurd rfl hk
   ·exact Hr r n acc y c m h
noncomputable def eH(X:Cx)(scope:Scope)(N:List Str)(cl:List (Str × Addr))(C:Addr)(s:Shared)(H:Hp)(fp:List Addr):Cx :=
 { BC X scope N (cellsFrom (C+1) scope.names cl) C s H fp with fn:=λy=>scope.names.contains (y,EJ) }
section
variable{X:Cx}{scope:Scope}{cl:List (Str × Addr)}
theorem b72{pins:List (Addr × Obj)}{σ:St}{H:Hp}{s:Shared}{fp:List Addr}{C:Addr}(I:Inv X pins σ H s)(jk:scope.kind=.function)(hC:s.heap.objs.size<=C)
  (gS:∀y c,cl.lookup y=some c->X.env.cells.lookup y=some c) (c22:∀y,((relabel scope X.env).names.lookup y=some .cell\/(relabel scope X.env).names.lookup y=some .free)->∃c,(cellsFrom (C+1) scope.names cl).lookup y=some c)
  (hf:∀b∈fp,jf X pins H b) (ho:∀b∈fp,∃o,s.heap.get? b=some o/\∀v,o.data≠.cell v) (N:List Str):(eH X scope N cl C s H fp).Ok where
 mod:=I.ok.mod
 kind:=jk
 glob:=I.ok.glob
 blt:=I.ok.blt
 above:=hC
 inj:=Hq scope.names (C+1) cl (λy z c h1 h2=>I.ok.inj y z c (gS _ _ h1) (gS _ _ h2)) λy c e=>by
  obtain⟨v,o,ho,_⟩:=I.cell y c (gS y c e)
  exact Nat.lt_succ_of_le (oU (cK (bG ho) hC))
 has:=c22
 nu:=λy c h e=>dy hC (AH (Hr _ _ _ y c (EI.mp h) e))
 hd:=I.ok.hd
 frames:=I.ok.frames
 qW:=.inl rfl
 qX:=λb hb=>⟨by
  obtain⟨o,e,_⟩:=ho b hb
  exact eT (cK (bG e) hC),λy c e z=>by
  rcases zB _ _ _ y c e with⟨h1,_⟩ | h1
  ·obtain⟨o,e,_⟩:=ho b hb
   rw[z]at h1
   exact absurd (cK (bG e) (dy hC (AH h1))) (gC _)
  ·exact(hf b hb).2.2.2.2.1 y c (gS _ _ h1) z⟩
 bs:=I.bs
 i9:=dy I.ok.i9 I.sz
 pB:=λb o e hb=>by
  rcases(hf b hb).2.2.2.1 with z | z
  ·exact I.ok.pB b o e z
  ·exact absurd (cK (bG (I.ok.bs b o e).1) z) (gC _)
 pE:=λb hb z=>(cL.mp (I.xy b z)).elim (hf b hb).2.1 (hf b hb).2.2.1
 gn:=I.stack
 jc:=I.AY
end
theorem Hs:∀(ns:List (Str × NameKind)) (h:Heap) (acc:List (Str × Addr)) (y:Str) (c:Addr),(cellsFrom h.objs.size ns acc).lookup y=some c->(∃o,(pushCells h ns).get? c=some o/\o.data=.cell none)\/acc.lookup y=some c
 | [],_,_,_,_,e=>.inr e
 | (z,k)::r,h,acc,y,c,e=>by
  unfold cellsFrom at e
  unfold pushCells
  split at e
  ·rename_i hk
   rw[if_pos hk]
   rw[<-xh h { cls:=.type "cell",data:=.cell none }]at e
   rcases Hs r _ _ y c e with h1 | h1
   ·exact .inl h1
   ·rw[gD]at h1
    cases q:y==z with
    | true =>
     rw[q]at h1;cases h1
     exact .inl ⟨_,pushCells_keeps _ _ _ _ (g7 _ rfl),rfl⟩
    | false=>rw[q]at h1;exact .inr h1
  ·rename_i hk
   rw[if_neg hk]
   exact Hs r h acc y c e
end L2
namespace L2
open PySem PySem.Spec PyProof.Rows
section
variable{X:Cx}{elt iter tg:Expr}{pos:Pos}{ifs:List Expr}{scope:Scope}{cl:List (Str × Addr)}{wi:TI}{tt:TT}{te:TE}{g:TG}
theorem Qn(aB:List (Str × Nat))(bY:List Str)(hc:X.calm=true)(hi:PI X tg iter wi)
  (hg:∀C s H fp,PG (eH X scope (aB.map (·.1)++bY) cl C s H fp) tg g)
  (ht:∀C s H fp,nG (eH X scope (aB.map (·.1)++bY) cl C s H fp) ifs tt) (he:∀C s H fp,PE (eH X scope (aB.map (·.1)++bY) cl C s H fp) elt te)
  (ou:closureFor scope X.env=pure cl) (ow:nH X cl) (oy:∀C:Addr,nI (cellsFrom (C+1) scope.names cl) (relabel scope X.env).names) (oA:∀C:Addr,nF X scope (cellsFrom (C+1) scope.names cl) aB)
  (jk:scope.kind=.function) (oB:∀y∈scope.names,y.2=.local->scope.names.lookup y.1=some .local)
  (hs:∀x,foldedSetIterable iter X.env x=pure x:=by intro _;rfl) {pins:List (Addr × Obj)} {s:Shared} {σ:L2.St} {H:Hp} {Q:VK} {use:Option (Value->Sem Unit)} {bE:Pos} {Rf:Value->Shared->Prop} (I:Inv X pins σ H s) (h:BD wi aB bY.length g tt te σ H Q)
  (c23:∀(s':Shared) (H':Hp) (C Da:Addr) (m:Str->Option Value),Inv X pins σ H' s'->s'.heap.Ns C m->H' C=none->C≠X.env.locals->X.cJ.heap.objs.size<=C->(∀x c,X.env.cells.lookup x=some c->c≠C)->(∀p∈X.pn++pins,p.1≠C)->C ∉ X.fs->Q (.ref Da) H' ->
   compPost (model X.prog X.w) X.A X.xe use Rf (.ref Da) C (.ok .next) s') :
  wpAny (model X.prog X.w) X.A (comprehension (.ListComp elt [⟨tg,iter,ifs,0⟩] scope pos) scope X.env bE (newList []) false (eval iter X.env) use) Rf X.xe s:=by
 have gS:=ow.all
 refine wpAny_comprehension_free (use:=use) rfl hs ou jk oB (aN (hi pins s σ H _ I h) λv s1 h1=>aN h1 λE4 s2 h2=>?_)
 obtain⟨it,fp,tn,J,H2,e,I2,T,pK,f2,q⟩:=h2
 subst e
 refine wpAny_newList ?_
 refine bK5 ?_
 have hD:H2 s2.heap.objs.size=none:=I2.aE.fresh (bD _)
 obtain⟨W,⟨m0,w0⟩,turn⟩:=q s2.heap.objs.size hD
 generalize Ht:s2.heap.push { cls:=.type "list",data:=.seq ([]:List Value).toArray }=g0 at ⊢
 have hCs:g0.objs.size=s2.heap.objs.size+1:=by rw[<-Ht,xh]
 have hDC:s2.heap.objs.size≠g0.objs.size:=by omega
 have hle:s2.heap.objs.size<=g0.objs.size:=by omega
 have uh:∀b o,s2.heap.get? b=some o->b≠g0.objs.size:=λb o e=>eT (cK (bG e) hle)
 obtain⟨g1,CC⟩:∃g1,g1=pushCells (g0.push { cls:=.type "dict",data:=.dict #[] }) scope.names:=⟨_,rfl⟩
 have ns1:g1.Ns g0.objs.size (λ_=>none):=by rw[CC];exact(Heap.Ns.new g0 (.type "dict")).keeps (pushCells_keeps _ _)
 have Qo:∀b o,g0.get? b=some o->g1.get? b=some o:=λb o e=>by rw[CC];exact pushCells_keeps _ _ b o (fI _ e)
 have old:∀b o,s2.heap.get? b=some o->g1.get? b=some o:=λb o e=>Qo b o (Ht ▸ fI _ e)
 rw[<-CC]
 have hDg:g1.get? s2.heap.objs.size=some { cls:=.type "list",data:=.seq ([]:List Value).toArray }:=Qo _ _ (Ht ▸ g7 _ rfl)
 have Qp:∀b∈fp,∃o,s2.heap.get? b=some o/\∀v,o.data≠.cell v:=T.obj _ _ pK
 have CD:=b72 (scope:=scope) (cl:=cl) (C:=g0.objs.size) I2 jk hle gS (oy g0.objs.size).all f2 Qp (aB.map (·.1)++bY)
 have I4:Inv (eH X scope (aB.map (·.1)++bY) cl g0.objs.size s2 H2 fp) [] (ij aB bY.length σ) (upd H2 s2.heap.objs.size (.lst [])) { s2 with heap:=g1 }:=by
  refine⟨CD,rfl,I2.bare,Un.laid old (bD _) hD,⟨_,ns1,λi y v h1 h2 h3=>?_⟩,λy c e=>?_,?_,λy c e=>?_,λp hp=>absurd hp (by simp[eH,BC]),I2.aE.laid old (bD _) ⟨kR _,[],0,.nil,hDg⟩,by simp[ij,eH,BC]⟩
  ·by_cases Hu:i<aB.length
   case neg =>
    have jR:((aB.map λp=>(σ[p.2]?).getD none)++aK bY.length none)[i]?=some (some v):=h2
    rw[m8 (by simpa using Hu),m9]at jR
    split at jR<;>cases jR
   case pos =>
    have kB:(aB.map (·.1))[i]?=some y:=by
     have z:(aB.map (·.1)++bY)[i]?=some y:=h1
     rwa [oX (by simpa using Hu)]at z
    have jR:(aB.map λp=>(σ[p.2]?).getD none)[i]?=some (some v):=by
     have z:((aB.map λp=>(σ[p.2]?).getD none)++aK bY.length none)[i]?=some (some v):=h2
     rwa [oX (by simpa using Hu)]at z
    rw[cB]at kB jR
    cases hj:aB[i]? with
    | none=>rw[hj]at kB;cases kB
    | some p =>
     rw[hj]at kB jR
     have ey:p.1=y:=cT kB
     have ev:(σ[p.2]?).getD none=some v:=cT jR
     obtain⟨hN,hk,Qq,c,e1,e2⟩:=(oA g0.objs.size).at p (tS hj)
     obtain⟨m,hn,hl⟩:=I2.loc
     have es:σ[p.2]?=some (some v):=by
      cases z:σ[p.2]? with
      | none=>rw[z]at ev;cases ev
      | some o=>rw[z]at ev;exact congrArg some ev
     obtain⟨u,ru,lk⟩:=hl p.2 p.1 v hN es (hk.elim (λz=>.inr (.inl z)) λz=>.inr (.inr z))
     refine⟨u,ru,?_⟩
     rcases lk with⟨lk,_⟩ | ⟨_,c',e3,ic⟩
     ·rcases hk with hk | hk
      ·have:=hk.symm.trans lk;cases this
      ·have:=hk.symm.trans lk;cases this
     ·rw[e2]at e3
      cases e3
      subst ey
      obtain⟨oc,je,G2⟩:=ic
      exact .inr ⟨Qq,c,e1,oc,old _ _ je,G2⟩
  ·rcases Hs _ _ _ y c (show(cellsFrom (g0.push { cls:=.type "dict",data:=.dict #[] }).objs.size scope.names cl).lookup y=some c by rw[xh];exact e)with h1 | h1
   ·rw[<-CC]at h1
    exact⟨none,h1⟩
   ·obtain⟨v,o,ho,hd⟩:=I2.cell y c (gS y c h1)
    exact⟨v,o,old _ _ ho,hd⟩
  ·show upd H2 _ _ g0.objs.size=none
   rw[aU (fi hDC)]
   exact I2.aE.fresh hle
  ·rcases zB _ _ _ y c e with⟨h1,_⟩ | h1
   ·rw[aU (Lz (ni hle h1))]
    exact I2.aE.fresh (dy hle (AH h1))
   ·obtain⟨v,o,ho,hd⟩:=I2.cell y c (gS y c h1)
    rw[aU (eT (bG ho))]
    exact I2.fZ y c (gS y c h1)
 have fin:∀(s':Shared) (H':Hp) (aC:L2.St),Inv (eH X scope (aB.map (·.1)++bY) cl g0.objs.size s2 H2 fp) [] aC H' s'->Q (.ref s2.heap.objs.size) H' ->
   compPost (model X.prog X.w) X.A X.xe use Rf (.ref s2.heap.objs.size) g0.objs.size (.ok .next) s':=by
  intro s' H' aC I' q'
  obtain⟨m,hn,_⟩:=I'.loc
  have u:=I'.base
  have hC':H' g0.objs.size=none:=I'.free
  have IX:Inv X pins σ H' s':=I2.Mv (s':=s') (ch:=fp) I'.os ⟨u.keep,u.slot,u.free,u.there,u.iK,u.g8,u.gE⟩ I'.aE I'.bare λb hb=>by
   obtain⟨_,y1,y2,y3,y4,y5⟩:=f2 b hb
   exact⟨y3,y1,y4,y5⟩
  have Qr:∀b,(∃o,s2.heap.get? b=some o)->b≠g0.objs.size:=λb ⟨o,e⟩=>uh b o e
  refine c23 s' H' g0.objs.size s2.heap.objs.size m IX hn hC' (λz=>?_) (dy I2.sz hle) (λx c e z=>?_) (λp hp z=>?_) (λz=>?_) q'
  ·have h0:X.env.locals<s2.heap.objs.size:=I2.lt
   rw[<-z]at h0
   exact gC _ (cK h0 hle)
  ·obtain⟨v,o,ho,_⟩:=I2.cell x c e
   exact Qr c ⟨o,ho⟩ z
  ·exact Qr p.1 ⟨_,(I2.pin p hp).1⟩ z
  ·exact I2.Mp hle z
 have Hv:∀(H':Hp),(∀b∈fp,H' b=none)->∀b∈fp,jf (eH X scope (aB.map (·.1)++bY) cl g0.objs.size s2 H2 fp) [] H' b:=λH' hn b hb =>
  ⟨hn b hb,(CD.qX b hb).1,CD.pE b hb,.inl hb,(CD.qX b hb).2,λp hp=>absurd hp (by simp[eH,BC])⟩
 have loop:codeAny (model X.prog X.w) X.A (.compLoop (.ListComp elt [⟨tg,iter,ifs,0⟩] scope pos) 0 (.ref it) (.ref s2.heap.objs.size) (compEnvC scope (cellsFrom (g0.objs.size+1) scope.names cl) g0.objs.size X.env))
   (compPost (model X.prog X.w) X.A X.xe use Rf (.ref s2.heap.objs.size) g0.objs.size) { s2 with heap:=g1 }:=by
  refine ZJ (λn s'=>∃i acc H',Inv (eH X scope (aB.map (·.1)++bY) cl g0.objs.size s2 H2 fp) [] (ij aB bY.length σ) H' s'/\tn i s'.heap/\(∀b∈fp,H' b=none)/\W i n acc H') ?_ m0
   ⟨0,[],_,I4,T.keep _ _ _ pK λb hb o e=>old b o e,λb hb=>?_,w0⟩
  ·rintro n s' ⟨i,acc,H',I',pJ,wb,w'⟩
   obtain⟨Gh,⟨stop,qn⟩ | ⟨go,step⟩⟩:=turn i n acc H' w'
   ·refine aN (T.done (eH X scope (aB.map (·.1)++bY) cl g0.objs.size s2 H2 fp) rfl rfl rfl hc i [] s' _ H' (λ_ _=>False) I' (Hv H' wb) pJ stop) λr t1 zz=>?_
    obtain⟨hr,I1⟩:=zz
    subst hr
    exact fin _ _ _ I1 qn
   ·refine aN (T.item (eH X scope (aB.map (·.1)++bY) cl g0.objs.size s2 H2 fp) rfl rfl rfl hc i [] s' _ H' (λ_ _=>False) I' (Hv H' wb) pJ go) λr t1 zz=>?_
    obtain⟨u,hr,h4⟩:=zz
    subst hr
    refine aN h4 λ_ t2 zz=>?_
    obtain⟨x5,H5,I5,r5,y5,q9,xM⟩:=zz
    obtain⟨BM,st6⟩:=step x5 H5 y5
    have E8:=I5.pinned (Hv H5 xM) (T.obj _ _ q9)
    refine aN (hg _ _ _ _ _ t2 _ H5 x5 u _ E8 r5 st6) λ_ t3 zz=>?_
    obtain⟨Bo,H6,I6,⟨c29,c30⟩,st7⟩:=zz
    have back:∀(s7:Shared) (H7:Hp) (Hw:List V) (m7:Nat),Inv (eH X scope (aB.map (·.1)++bY) cl g0.objs.size s2 H2 fp) ([]++xJ fp t2.heap) Bo H7 s7->W (i+1) m7 Hw H7 ->
      ∃i acc H',Inv (eH X scope (aB.map (·.1)++bY) cl g0.objs.size s2 H2 fp) [] (ij aB bY.length σ) H' s7/\tn i s7.heap/\(∀b∈fp,H' b=none)/\W i m7 acc H':=λs7 H7 Hw m7 I7 w7 =>
     ⟨i+1,Hw,H7,(I7.xK).weak c29.symm λj v z=>by
       by_cases hj:j<aB.length
       ·rw[c30 j hj];exact z
       ·have z':((aB.map λp=>(σ[p.2]?).getD none)++aK bY.length none)[j]?=some (some v):=z
        rw[m8 (by simpa using hj),m9]at z'
        split at z'<;>(cases z'),
      T.keep _ _ _ q9 λb hb o e=>(I7.pin (b,o) (dM _ (dM _ (Bl hb e)))).1,λb hb=>by
       obtain⟨o,e,d⟩:=T.obj _ _ q9 b hb
       exact(I7.pin (b,o) (dM _ (dM _ (Bl hb e)))).2.1,w7⟩
    refine aN (ht _ _ _ _ _ t3 _ H6 _ I6 st7) λok t4 zz=>?_
    obtain⟨H7,I7,hD7,q7⟩:=zz
    cases ok with
    | false =>
     obtain⟨m',hm,w7⟩:=(show ∃m',m'<n/\W (i+1) m' acc H7 from q7)
     exact⟨m',hm,back t4 H7 acc m' I7 w7⟩
    | true =>
     refine aN (he _ _ _ _ _ t4 _ H7 _ I7 q7) λy t5 zz=>?_
     obtain⟨v8,H8,I8,r8,hD8,hl8,m',hm,w8⟩:=zz
     exact aN (Ng _ t5 _ H8 (.ref s2.heap.objs.size) [v8] (.ref s2.heap.objs.size) [y] (λ_ H9=>H9=upd H8 s2.heap.objs.size (.lst (acc++[v8]))) I8 rfl (.cons r8 .nil) ⟨_,acc,v8,rfl,rfl,hD8,hl8,rfl⟩) λ_ t6 zz=>by
      obtain⟨_,H9,I9,_,e9⟩:=zz
      subst e9
      exact⟨m',hm,back t6 _ _ m' I9 w8⟩
  ·obtain⟨o,e,_⟩:=Qp b hb
   rw[aU (eT (bG e))]
   exact(f2 b hb).1
 exact codeAny_compStart_list loop (T.self _ 0 _ _ _ (T.keep _ _ _ pK λb hb o e=>old b o e) loop)
theorem b49(aB:List (Str × Nat))(bY:List Str)(hc:X.calm=true)(hi:PI X tg iter wi)
  (hg:∀C s H fp,PG (eH X scope (aB.map (·.1)++bY) cl C s H fp) tg g)
  (ht:∀C s H fp,nG (eH X scope (aB.map (·.1)++bY) cl C s H fp) ifs tt) (he:∀C s H fp,PE (eH X scope (aB.map (·.1)++bY) cl C s H fp) elt te)
  (ou:closureFor scope X.env=pure cl) (ow:nH X cl) (oy:∀C:Addr,nI (cellsFrom (C+1) scope.names cl) (relabel scope X.env).names) (oA:∀C:Addr,nF X scope (cellsFrom (C+1) scope.names cl) aB)
  (jk:scope.kind=.function) (oB:∀y∈scope.names,y.2=.local->scope.names.lookup y.1=some .local)
  (hs:∀x,foldedSetIterable iter X.env x=pure x:=by intro _;rfl):PE X (.ListComp elt [⟨tg,iter,ifs,0⟩] scope pos) (BD wi aB bY.length g tt te):=by
 intro pins s σ H Q I h
 rw[eval_ListComp]
 refine Qn aB bY hc hi hg ht he ou ow oy oA jk oB hs I h λs' H' C Da m IX hn hC hL h1 h2 h3 h4 q'=>?_
 exact⟨m,hn,λh' sb=>⟨.ref Da,H',IX.turned (t':=s'.toks) (λb o hb e=>sb.extBut b o hb e) hC hL (.inr h1) h2 h3,rfl,q'⟩⟩
theorem b46{i:Nat}{x:Str}{pos' apos:Pos}(hN:X.N.Nodup)(qh:X.N[i]?=some x)(hx:Loc X.env.scope x)(hf:X.fn x=true\/X.env.scope.names.lookup x=some .local)(aB:List (Str × Nat))(bY:List Str)(hc:X.calm=true)(hi:PI X tg iter wi)
  (hg:∀C s H fp,PG (eH X scope (aB.map (·.1)++bY) cl C s H fp) tg g)
  (ht:∀C s H fp,nG (eH X scope (aB.map (·.1)++bY) cl C s H fp) ifs tt) (he:∀C s H fp,PE (eH X scope (aB.map (·.1)++bY) cl C s H fp) elt te)
  (ou:closureFor scope X.env=pure cl) (ow:nH X cl) (oy:∀C:Addr,nI (cellsFrom (C+1) scope.names cl) (relabel scope X.env).names) (oA:∀C:Addr,nF X scope (cellsFrom (C+1) scope.names cl) aB)
  (jk:scope.kind=.function) (oB:∀y∈scope.names,y.2=.local->scope.names.lookup y.1=some .local)
  (sF:swapsWith (.ListComp elt [⟨tg,iter,ifs,0⟩] scope pos) (some (.Name x pos')) apos.line X.env=pure true) (hs:∀x,foldedSetIterable iter X.env x=pure x:=by intro _;rfl):PS X (.Assign [.Name x pos'] (.ListComp elt [⟨tg,iter,ifs,0⟩] scope pos) apos) (E2 (BD wi aB bY.length g tt te) (Bf i)):=by
 intro pins s σ H D I h
 rw[exec_Assign_Name_used x pos' _ apos sF]
 refine wpAny_bind (wpAny_standAt (wpAny_bind ?_))
 have hh:BD wi aB bY.length g tt te σ H λv H1=>D.nx (σ.set i (some v)) H1:=h
 show wpAny _ _ (comprehension (.ListComp elt [⟨tg,iter,ifs,0⟩] scope pos) scope X.env (firstIterPos [⟨tg,iter,ifs,0⟩] pos) (newList []) false (eval iter X.env) (some (assign (.Name x pos') X.env)) >>= λ_=>pure ()) _ _ _
 refine wpAny_bind (Qn (use:=some (assign (.Name x pos') X.env)) (pos:=pos) aB bY hc hi hg ht he ou ow oy oA jk oB hs I hh λs' H' C Da m IX hn hC hL h1 h2 h3 h4 q'=>?_)
 obtain⟨oC,es,ep,hoC,Qs,rest⟩:=id hn
 have IP:Inv X (pins++[(C,oC)]) σ H' s':=⟨IX.ok,IX.os,IX.bare,IX.base,IX.loc,IX.cell,IX.free,IX.fZ,λp hp=>by
  rcases bP.mp hp with z | z
  ·exact IX.pin p (e7 _ z)
  ·rcases bP.mp z with z | z
   ·exact IX.pin p (dM _ z)
   ·obtain rfl:=dR.mp z
    exact⟨hoC,hC,hL,h4,λv w=>by rw[Qs]at w;cases w⟩,IX.aE,IX.len⟩
 refine aN (Bg (X:=X) hN qh hx hf _ s' σ H' (.ref Da) (.ref Da) (λjM H2=>jM=σ.set i (some (.ref Da))/\H2=H') IP rfl ⟨rfl,rfl⟩) λ_ s2 zz=>?_
 obtain⟨jM,H2,I2,e1,e2⟩:=zz
 subst e1 e2
 have pC:=I2.pin (C,oC) (dM _ (dM _ (by simp)))
 refine⟨m,⟨oC,es,ep,pC.1,Qs,rest⟩,λh' sb=>wpAny_pure (wpAny_pure ?_)⟩
 exact⟨σ.set i (some (.ref Da)),H2,(I2.xK).turned (t':=s2.toks) (λb o hb e=>sb.extBut b o hb e) hC hL (.inr h1) h2 h3,q'⟩
end
end L2
namespace L3
open PySem L2 PySem.Spec PyProof.Rows
section
variable{X:Cx}{elt iter tg:Expr}{pos:Pos}{ifs:List Expr}{scope:Scope}{cl:List (Str × Addr)}{ti:jt}{tt:fP}{te:aI}{g:iq}
theorem eI(aB:List (Str × Nat))(bY:List Str)(hc:X.calm=true)(hi:PI X tg iter (lI ti))
  (hg:∀C s H fp,PG (eH X scope (aB.map (·.1)++bY) cl C s H fp) tg (lG aB.length g))
  (ht:∀C s H fp,nG (eH X scope (aB.map (·.1)++bY) cl C s H fp) ifs (lT tt)) (he:∀C s H fp,PE (eH X scope (aB.map (·.1)++bY) cl C s H fp) elt (lE te))
  (ou:closureFor scope X.env=pure cl) (ow:nH X cl:=by repeat' (first | exact trivial | refine⟨rfl,?_⟩)) (oy:∀C:Addr,nI (cellsFrom (C+1) scope.names cl) (relabel scope X.env).names:=by intro _;repeat' (first | exact trivial | refine⟨.inl rfl,?_⟩ | refine⟨.inr (.inl rfl),?_⟩ | refine⟨.inr (.inr ⟨_,rfl⟩),?_⟩)) (oA:∀C:Addr,nF X scope (cellsFrom (C+1) scope.names cl) aB:=by intro _;repeat' (first | exact trivial | refine⟨⟨rfl,.inl rfl,.inl rfl,_,rfl,rfl⟩,?_⟩))
  (jk:scope.kind=.function:=by rfl) (oB:∀y∈scope.names,y.2=.local->scope.names.lookup y.1=some .local:=by decide +kernel)
  (hs:∀x,foldedSetIterable iter X.env x=pure x:=by intro _;rfl):PE X (.ListComp elt [⟨tg,iter,ifs,0⟩] scope pos) (lE (rX ti aB bY.length g tt te)) :=
 dq (b49 aB bY hc hi hg ht he ou ow oy oA jk oB hs) λσ H Q zq=>by
 obtain⟨B,F,δ,ts,Qd,c,q,k⟩:=zq
 exact⟨B,F,δ,ts,_,c,q,λsh xs ai J F1 H1 hq f1 h1 c1 rY yi=>by
  obtain⟨p,f,hx,eM,hlen,hQ⟩:=hq
  exact Oh c1 rY yi p f hx eM hlen hQ λd ah v F' H' hd hf hs c'=>k d ah v F' H' hd (f1.trans hf) (h1.trans hs) c'⟩
theorem Qt{i:Nat}{x:Str}{pos' apos:Pos}(hN:X.N.Nodup)(qh:X.N[i]?=some x)(hx:L2.Loc X.env.scope x)(aB:List (Str × Nat))(bY:List Str)(hc:X.calm=true)(hi:PI X tg iter (lI ti))
  (hg:∀C s H fp,PG (eH X scope (aB.map (·.1)++bY) cl C s H fp) tg (lG aB.length g))
  (ht:∀C s H fp,nG (eH X scope (aB.map (·.1)++bY) cl C s H fp) ifs (lT tt)) (he:∀C s H fp,PE (eH X scope (aB.map (·.1)++bY) cl C s H fp) elt (lE te))
  (ou:closureFor scope X.env=pure cl) (ow:nH X cl:=by repeat' (first | exact trivial | refine⟨rfl,?_⟩)) (oy:∀C:Addr,nI (cellsFrom (C+1) scope.names cl) (relabel scope X.env).names:=by intro _;repeat' (first | exact trivial | refine⟨.inl rfl,?_⟩ | refine⟨.inr (.inl rfl),?_⟩ | refine⟨.inr (.inr ⟨_,rfl⟩),?_⟩)) (oA:∀C:Addr,nF X scope (cellsFrom (C+1) scope.names cl) aB:=by intro _;repeat' (first | exact trivial | refine⟨⟨rfl,.inl rfl,.inl rfl,_,rfl,rfl⟩,?_⟩))
  (jk:scope.kind=.function:=by rfl) (oB:∀y∈scope.names,y.2=.local->scope.names.lookup y.1=some .local:=by decide +kernel)
  (sF:swapsWith (.ListComp elt [⟨tg,iter,ifs,0⟩] scope pos) (some (.Name x pos')) apos.line X.env=pure true:=by rfl) (hf:X.fn x=true\/X.env.scope.names.lookup x=some .local:=by first | exact .inl rfl | exact .inr rfl)
  (hs:∀x,foldedSetIterable iter X.env x=pure x:=by intro _;rfl):PS X (.Assign [.Name x pos'] (.ListComp elt [⟨tg,iter,ifs,0⟩] scope pos) apos) (lS X (rU i (rX ti aB bY.length g tt te))) :=
 lL (b46 hN qh hx hf aB bY hc hi hg ht he ou ow oy oA jk oB sF hs) λEn σ H zq=>by
 obtain⟨B,F,δ,Dd,c,q,k1,k2,k3,k4⟩:=zq
 exact⟨B,F,δ,[],_,c,q,λsh xs ai J F1 H1 hq f1 h1 c1 rY yi=>by
  obtain⟨p,f,hx,eM,hlen,hQ⟩:=hq
  exact Oh (Qd:=λd ah=>Dd.nx (ah.set i (some d))) c1 rY yi p f hx eM hlen hQ λd ah v F' H' hd hf hs c'=>k1 _ _ F' H' hd (c'.store i)⟩
end
end L3
namespace L3
open PySem L2 Mf
theorem lo1{m:Bool × Nat}(hm:m∈av):1<aa m:=by have:=(dm hm).lo;omega
inductive Sp(N:Nat)(p q:Nat->Nat->Nat)(S:(Nat->Nat)->Prop):(Nat->Nat)->Prop
 | mem {f:Nat->Nat}:S f->Sp N p q S f
 | zero:Sp N p q S λ_=>0
 | add {f g:Nat->Nat}:Sp N p q S f->Sp N p q S g->Sp N p q S λk=>p (f k) (g k)
 | mul {f:Nat->Nat} (c:Nat):c<N->Sp N p q S f->Sp N p q S λk=>q c (f k)
theorem Sp.trans{N:Nat}{p q:Nat->Nat->Nat}{S S':(Nat->Nat)->Prop}(h:∀f,S f->Sp N p q S' f){f:Nat->Nat}(s:Sp N p q S f):Sp N p q S' f:=by
 induction s with
 | mem a=>exact h _ a
 | zero=>exact .zero
 | add _ _ a b=>exact .add a b
 | mul c hc _ a=>exact .mul c hc a
noncomputable def Gn(T:List (List Nat))(f:Nat->Nat):Prop:=∃r∈T,f=cf r
noncomputable def bN(m:Bool × Nat)(T:List (List Nat))(f:Nat->Nat):Prop:=Sp (aa m) (gp m) (gm m) (Gn T) f
theorem bN.of{m:Bool × Nat}{T:List (List Nat)}{r:List Nat}(h:r∈T):bN m T (cf r):=.mem ⟨r,h,rfl⟩
theorem b03{m:Bool × Nat}(hm:m∈av){a:Nat}(ha:a<aa m){f f' l:Nat->Nat}(hf':∀k,f' k<aa m)(hl:∀k,l k<aa m)(h:∀k,gp m (f' k) (gm m a (l k))=f k):∃b,b<aa m/\f'=λk=>gp m (f k) (gm m b (l k)):=by
 have r:=rg hm
 obtain⟨b,hb,e⟩:=r.ng ha
 refine⟨b,hb,funext λk=>?_⟩
 rw[<-h k,r.pa,r.mc a,r.mc b,<- r.dl,e,r.qz,r.z' (hf' k)]
theorem Hx{m:Bool × Nat}(hm:m∈av){r l:List Nat}{w:Nat}(hr:r.length=w)(hl:l.length=w)(a k:Nat):cf (cU (λx y=>aS m x (gm m a y)) r l) k=aS m (cf r k) (gm m a (cf l k)):=by
 by_cases h:k<w
 ·unfold cf
  rw[aJ,AG,aQ (by omega),aQ (by omega),aJ,aQ (by omega),aJ,aQ (by omega)]
  rfl
 ·rw[wu (by rw[kh];omega),wu (l:=r) (by omega),wu (l:=l) (by omega),iB m _ (bS m hm),Cv]
theorem CF{m:Bool × Nat}(hm:m∈av){r l:List Nat}{w a:Nat}(hr:r.length=w)(hl:l.length=w)(ar:AllLt (aa m) r)(k:Nat):gp m (cf (cU (λx y=>aS m x (gm m a y)) r l) k) (gm m a (cf l k))=cf r k:=by
 rw[Hx hm hr hl]
 exact(iW hm (cP hm ar k) (bC hm _ _)).2.2
theorem Hy{m:Bool × Nat}(hm:m∈av){r l:List Nat}{w:Nat}(hr:r.length=w)(hl:l.length=w)(ar:AllLt (aa m) r)(a k:Nat):cf (cU (λx y=>aS m x (gm m a y)) r l) k<aa m:=by
 rw[Hx hm hr hl]
 exact(iW hm (cP hm ar k) (bC hm _ _)).2.1
theorem Qu{m:Bool × Nat}(hm:m∈av){w p i:Nat}{T:List (List Nat)}(hT:RT (aa m) w T)(e:j5 T p=some i):∃(g:List Nat) (c:Nat),g∈T/\T.getD i []=g/\g.length=w/\AllLt (aa m) g/\c<aa m/\gm m c (cf g p)=1/\(eG m T i p).length=w/\AllLt (aa m) (eG m T i p)/\(∀k,cf (eG m T i p) k=gm m c (cf g k))/\cf (eG m T i p) p=1/\∀k,gm m (cf g p) (cf (eG m T i p) k)=cf g k:=by
 obtain⟨hi,h1,h2⟩:=CA e
 obtain⟨a,b⟩:=hT _ (eB hi)
 have l1:1<aa m:=lo1 hm
 obtain⟨c,hc,CG⟩:=Qf hm l1 (cP hm b p) h1
 have ec:mW m (cf T[i] p)=c:=Cz hm hc CG
 have el:eG m T i p=T[i].map (gm m c):=by unfold eG;rw[h2,<- ec];rfl
 have ek:∀k,cf (eG m T i p) k=gm m c (cf T[i] k):=λk=>by rw[el];exact Qe hm _ _ _
 refine⟨T[i],c,eB hi,h2,a,b,hc,CG,by rw[el,aY,a],λx hx=>?_,ek,by rw[ek];exact CG,λk=>?_⟩
 ·rw[el]at hx
  obtain⟨y,_,rfl⟩:=aX.mp hx
  exact bC hm _ _
 ·rw[ek,<- jY (bS m hm),gW m _ c,CG,kI (cP hm b k)]
theorem Qv{m:Bool × Nat}{s:List (List Nat) × List (List Nat)}{p i:Nat}(e:j5 s.2 p=some i):iC m s p=(gG m s.1 (eG m s.2 i p) p++[eG m s.2 i p],gG m (s.2.take i++s.2.drop (i+1)) (eG m s.2 i p) p):=by unfold iC;rw[e]
theorem Qw{m:Bool × Nat}{s:List (List Nat) × List (List Nat)}{p:Nat}(e:j5 s.2 p=none):iC m s p=s:=by unfold iC;rw[e]
theorem CH{α:Type}{T:List α}{i:Nat}{r:α}(h:r∈T.take i++T.drop (i+1)):r∈T:=(bP.mp h).elim tX pz
theorem b24{α:Type}{T:List α}{i:Nat}{r:α}(h:r∈T)(hi:i<T.length):r=T[i]\/r∈T.take i++T.drop (i+1):=by
 obtain⟨j,hj,rfl⟩:=jI h
 rcases Nat.lt_trichotomy j i with h | h | h
 ·exact .inr (bP.mpr (.inl (List.mem_take_iff_getElem.mpr ⟨j,by omega,rfl⟩)))
 ·subst h;exact .inl rfl
 ·exact .inr (bP.mpr (.inr (List.mem_drop_iff_getElem.mpr ⟨j-(i+1),by omega,by congr 1;omega⟩)))
theorem bI7{m:Bool × Nat}(hm:m∈av){w n p:Nat}{s:List (List Nat) × List (List Nat)}(h:zA (aa m) w n s)(f:Nat->Nat):bN m (s.1++s.2) f↔bN m ((iC m s p).1++(iC m s p).2) f:=by
 cases e:j5 s.2 p with
 | none=>rw[Qw e]
 | some i =>
  obtain⟨g,c,g1,g2,g3,g4,c1,c2,l1,l2,l3,l4,l5⟩:=Qu hm h.b e
  obtain⟨hi,_,hg⟩:=CA e
  rw[Qv e]
  generalize eG m s.2 i p=l at l1 l2 l3 l4 l5
  have ll:=cP hm l2
  have row:∀{T:List (List Nat)},RT (aa m) w T->∀r'∈gG m T l p,∃r∈T,∃b,b<aa m/\cf r'=λk=>gp m (cf r k) (gm m b (cf l k)):=λ{T} hT r' bo=>by
   obtain⟨r,hr,rfl⟩:=aX.mp bo
   obtain⟨a1,a2⟩:=hT r hr
   exact⟨r,hr,b03 hm (cP hm a2 p) (Hy hm a1 l1 a2 _) ll (CF hm a1 l1 a2)⟩
  have Qx:∀{T:List (List Nat)},RT (aa m) w T->∀r∈T,∃r'∈gG m T l p,cf r=λk=>gp m (cf r' k) (gm m (cf r p) (cf l k)):=λ{T} hT r hr=>by
   obtain⟨a1,a2⟩:=hT r hr
   exact⟨_,aX.mpr ⟨r,hr,rfl⟩,funext λk=>(CF hm a1 l1 a2 k).symm⟩
  have hB:RT (aa m) w (s.2.take i++s.2.drop (i+1)):=λr hr=>h.b r (CH hr)
  constructor
  ·refine Sp.trans ?_
   rintro f ⟨r,hr,rfl⟩
   have hl:bN m ((gG m s.1 l p++[l])++gG m (s.2.take i++s.2.drop (i+1)) l p) (cf l):=bN.of (by simp)
   rcases bP.mp hr with hr | hr
   ·obtain⟨r',h1,h2⟩:=Qx h.a r hr
    rw[h2]
    exact .add (bN.of (by simp[h1])) (.mul _ (cP hm (h.a r hr).2 p) hl)
   ·rcases b24 hr hi with e' | bo
    ·have:cf r=λk=>gm m (cf g p) (cf l k):=funext λk=>by rw[l5 k,e',<- hg,g2]
     rw[this]
     exact .mul _ (cP hm g4 p) hl
    ·obtain⟨r',h1,h2⟩:=Qx hB r bo
     rw[h2]
     exact .add (bN.of (by simp[h1])) (.mul _ (cP hm (h.b r hr).2 p) hl)
  ·refine Sp.trans ?_
   rintro f ⟨r,hr,rfl⟩
   have hl:bN m (s.1++s.2) (cf l):=by
    have:cf l=λk=>gm m c (cf g k):=funext l3
    rw[this]
    exact .mul _ c1 (bN.of (dM _ g1))
   rcases bP.mp hr with hr | hr
   ·rcases bP.mp hr with hr | hr
    ·obtain⟨r1,h1,b,hb,h2⟩:=row h.a r hr
     rw[h2]
     exact .add (bN.of (e7 _ h1)) (.mul _ hb hl)
    ·rw[dR]at hr
     rw[hr];exact hl
   ·obtain⟨r1,h1,b,hb,h2⟩:=row hB r hr
    rw[h2]
    exact .add (bN.of (dM _ (CH h1))) (.mul _ hb hl)
structure RR(w:Nat)(R:List (List Nat))(H:Nat->Nat):Prop where
 u:∀i j,i<R.length->j<R.length->cf (R.getD i []) (H j)=if i=j then 1 else 0
 z:∀i,i<R.length->∀t,t<H i->cf (R.getD i []) t=0
 i:∀i j,i<j->j<R.length->H i<H j
 l:∀i,i<R.length->H i<w
theorem kK{α β:Type}(f:α->β){l:List α}{i:Nat}(h:i<l.length)(a:α)(b:β):(l.map f).getD i b=f (l.getD i a):=by
 rw[aJ,cB,aJ,aQ h];rfl
theorem bZ{α:Type}{l:List α}{i:Nat}(h:i<l.length)(a:α):l.getD i a∈l:=by
 rw[aJ,aQ h];exact eB h
theorem bA0{m:Bool × Nat}(hm:m∈av){w n p:Nat}{s:List (List Nat) × List (List Nat)}(h:zA (aa m) w n s){H:Nat->Nat}(I:RR p s.1 H)(e2:∀r∈s.2,∀t,t<p->cf r t=0):∃H',RR (p+1) (iC m s p).1 H'/\∀r∈(iC m s p).2,∀t,t<p+1->cf r t=0:=by
 cases e:j5 s.2 p with
 | none =>
  rw[Qw e]
  refine⟨H,⟨I.u,I.z,I.i,λi hi=>Nat.lt_succ_of_lt (I.l i hi)⟩,λr hr t ht=>?_⟩
  rcases AI t p with h1 | h1
  ·exact e2 r hr t h1
  ·have:=Wh.mp e r hr
   have z:r.getD p 0=0:=by simpa using this
   rw[show t=p by omega]
   exact z
 | some i0 =>
  obtain⟨g,c,g1,g2,g3,g4,c1,c2,l1,l2,l3,l4,l5⟩:=Qu hm h.b e
  rw[Qv e]
  generalize eG m s.2 i0 p=l at l1 l2 l3 l4 l5
  have m0:=bS m hm
  have lz:∀t,t<p->cf l t=0:=λt ht=>by rw[l3,e2 g g1 t ht,iB m _ m0]
  have zC:∀{r:List Nat},r.length=w->AllLt (aa m) r->(∀t,t<p->cf (cU (λx y=>aS m x (gm m (r.getD p 0) y)) r l) t=cf r t)/\cf (cU (λx y=>aS m x (gm m (r.getD p 0) y)) r l) p=0:=λ{r} a1 a2=>by
   constructor
   ·intro t ht
    have:=CF hm (a:=r.getD p 0) a1 l1 a2 t
    rw[lz t ht,iB m _ m0,om (Hy hm a1 l1 a2 _ _)]at this
    exact this
   ·rw[Hx hm a1 l1,l4]
    show aS m (r.getD p 0) (gm m (r.getD p 0) 1)=0
    rw[kJ (show r.getD p 0<aa m from cP hm a2 p),Cv]
  have nl:(gG m s.1 l p).length=s.1.length:=by unfold gG;rw[aY]
  have Qy:∀i,i<s.1.length->∃r,s.1.getD i []=r/\r.length=w/\AllLt (aa m) r/\(gG m s.1 l p++[l]).getD i []=cU (λx y=>aS m x (gm m (r.getD p 0) y)) r l:=λi hi=>by
   refine⟨_,rfl,(h.a _ (bZ hi [])).1,(h.a _ (bZ hi [])).2,?_⟩
   rw[aJ,oX (by omega),<- aJ]
   exact kK _ hi [] []
  have Qz:(gG m s.1 l p++[l]).getD s.1.length []=l:=by
   rw[aJ,m8 (by omega),nl,xq];rfl
  have le:(gG m s.1 l p++[l]).length=s.1.length+1:=by rw[cy,nl];rfl
  refine⟨λi=>if i<s.1.length then H i else p,⟨λi j hi hj=>?_,λi hi t ht=>?_,λi j zD hj=>?_,λi hi=>?_⟩,λr hr t ht=>?_⟩
  ·show cf ((gG m s.1 l p++[l]).getD i []) _=_
   dsimp only at hi hj ⊢
   rw[le]at hi hj
   by_cases h1:i<s.1.length
   ·obtain⟨r,r1,r2,r3,r4⟩:=Qy i h1
    rw[r4]
    by_cases h2:j<s.1.length
    ·rw[if_pos h2,(zC r2 r3).1 _ (I.l j h2),<- r1]
     exact I.u i j h1 h2
    ·rw[if_neg h2,(zC r2 r3).2,if_neg (by omega)]
   ·have e1:i=s.1.length:=by omega
    rw[e1,Qz]
    by_cases h2:j<s.1.length
    ·rw[if_pos h2,lz _ (I.l j h2),if_neg (by omega)]
    ·rw[if_neg h2,l4,if_pos (by omega)]
  ·dsimp only at hi ht ⊢
   rw[le]at hi
   by_cases h1:i<s.1.length
   ·rw[if_pos h1]at ht
    obtain⟨r,r1,r2,r3,r4⟩:=Qy i h1
    rw[r4,(zC r2 r3).1 _ (by have:=I.l i h1;omega),<- r1]
    exact I.z i h1 t ht
   ·rw[if_neg h1]at ht
    have e1:i=s.1.length:=by omega
    rw[e1,Qz];exact lz t ht
  ·dsimp only at hj ⊢
   rw[le]at hj
   rw[if_pos (by omega)]
   by_cases h2:j<s.1.length
   ·rw[if_pos h2];exact I.i i j zD h2
   ·rw[if_neg h2];exact I.l i (by omega)
  ·dsimp only at hi ⊢
   rw[le]at hi
   split
   ·have:=I.l i (by omega);omega
   ·omega
  ·obtain⟨r1,CI,rfl⟩:=aX.mp hr
   obtain⟨a1,a2⟩:=h.b r1 (CH CI)
   rcases AI t p with h1 | h1
   ·rw[(zC a1 a2).1 t h1];exact e2 _ (CH CI) t h1
   ·rw[show t=p by omega];exact(zC a1 a2).2
theorem QB{m:Bool × Nat}(hm:m∈av){w:Nat}{G:List (List Nat)}(h:RT (aa m) w G):∀k,(∃H,RR k (j6 m G k).1 H/\∀r∈(j6 m G k).2,∀t,t<k->cf r t=0)/\∀f,bN m G f↔bN m ((j6 m G k).1++(j6 m G k).2) f
 | 0=>⟨⟨λ_=>0,⟨(λ_ _ h=>nomatch h),(λ_ h=>nomatch h),(λ_ _ _ h=>nomatch h),(λ_ h=>nomatch h)⟩,λr _ t ht=>nomatch ht⟩,λf=>.rfl⟩
 | k+1=>by
  obtain⟨⟨H,h1,h2⟩,h3⟩:=QB hm h k
  have D:=CB hm h k
  rw[Ho]
  exact⟨bA0 hm D h1 h2,λf=>(h3 f).trans (bI7 hm D f)⟩
theorem kL{m:Bool × Nat}(hm:m∈av){G:List (List Nat)}(h:RT (aa m) (ag G) G):(∃H,RR (ag G) (bU m G) H)/\RT (aa m) (ag G) (bU m G)/\(bU m G).length<=G.length/\∀f,bN m G f↔bN m (bU m G) f:=by
 obtain⟨⟨H,h1,h2⟩,h3⟩:=QB hm h (ag G)
 have D:=CB hm h (ag G)
 refine⟨⟨H,h1⟩,D.a,by have:=D.l;show(j6 m G (ag G)).1.length<=_;omega,λf=>(h3 f).trans ⟨Sp.trans ?_,Sp.trans ?_⟩⟩
 ·rintro f ⟨r,hr,rfl⟩
  rcases bP.mp hr with hr | hr
  ·exact bN.of hr
  ·have:cf r=λ_=>0:=funext λt=>by
    rcases AI t (ag G)with h4 | h4
    ·exact h2 r hr t h4
    ·exact wu (by rw[(D.b r hr).1];exact h4)
   rw[this];exact .zero
 ·rintro f ⟨r,hr,rfl⟩
  exact bN.of (e7 _ hr)
theorem kM{N:Nat}{p q:Nat->Nat->Nat}(r:Rg N p q){f:Nat->Nat}{j0:Nat}(hf:f j0<N):∀{n:Nat},j0<n->(∀j,j<n->j≠j0->f j=0)->sm p n f=f j0
 | 0,h,_=>nomatch h
 | n+1,h,hz=>by
  rw[sm]
  by_cases e:j0=n
  ·subst e
   rw[gx r λj hj=>hz j (by omega) (by omega),r.z hf]
  ·rw[kM r hf (by omega) λj hj=>hz j (by omega),hz n (by omega) (by omega),r.z' hf]
theorem RR.own{m:Bool × Nat}(hm:m∈av){w:Nat}{R:List (List Nat)}{H:Nat->Nat}(hR:RT (aa m) w R)(I:RR w R H){f:Nat->Nat}(s:bN m R f):∀k,f k=sm (gp m) R.length λi=>gm m (f (H i)) (cf (R.getD i []) k):=by
 have r:=rg hm
 have m0:=bS m hm
 induction s with
 | mem a =>
  intro k
  obtain⟨x,hx,rfl⟩:=a
  obtain⟨i,hi,rfl⟩:=jI hx
  have ei:R[i]=R.getD i []:=by rw[aJ,aQ hi];rfl
  have one:gm m (cf R[i] (H i)) (cf (R.getD i []) k)=cf R[i] k:=by
   rw[ei,I.u i i hi hi,if_pos rfl]
   exact kI (cP hm (hR _ (bZ hi [])).2 k)
  refine((kM r (f:=λa=>gm m (cf R[i] (H a)) (cf (R.getD a []) k)) (j0:=i) (bC hm _ _) hi λj hj hn=>?_).trans one).symm
  rw[ei,I.u i j hi hj,if_neg (by omega),eE m _ m0]
 | zero=>exact λk=>(gx r λj _=>eE m _ m0).symm
 | add _ _ a b =>
  intro k
  dsimp only
  rw[a k,b k,<- ot r]
  refine cX λj _=>?_
  rw[r.mc (gp m _ _),r.dl,r.mc _ (cf _ k),r.mc _ (cf _ k)]
 | mul c hc _ a =>
  intro k
  dsimp only
  rw[a k,<- qv r]
  refine cX λj _=>?_
  rw[jY m0]
theorem bN.sum{m:Bool × Nat}(hm:m∈av){w:Nat}{R:List (List Nat)}(hR:RT (aa m) w R){f:Nat->Nat}(s:bN m R f):∃c:Nat->Nat,(∀i,c i<aa m)/\∀k,f k=sm (gp m) R.length λi=>gm m (c i) (cf (R.getD i []) k):=by
 have r:=rg hm
 have m0:=bS m hm
 have l1:=lo1 hm
 induction s with
 | mem a =>
  obtain⟨x,hx,rfl⟩:=a
  obtain⟨i,hi,rfl⟩:=jI hx
  have ei:R[i]=R.getD i []:=by rw[aJ,aQ hi];rfl
  refine⟨λj=>if j=i then 1 else 0,λj=>by dsimp only;split<;>omega,λk=>?_⟩
  refine((kM r (f:=λa=>gm m (if a=i then 1 else 0) (cf (R.getD a []) k)) (j0:=i) (bC hm _ _) hi λj hj hn=>?_).trans ?_).symm
  ·rw[if_neg hn,eE m _ m0]
  ·rw[if_pos rfl,ei]
   exact kI (cP hm (hR _ (bZ hi [])).2 k)
 | zero=>exact⟨λ_=>0,λ_=>r.pos,λk=>(gx r λj _=>eE m _ m0).symm⟩
 | add _ _ a b =>
  obtain⟨c,hc,a⟩:=a
  obtain⟨d,hd,b⟩:=b
  refine⟨λi=>gp m (c i) (d i),λi=>r.lp (hc i) (hd i),λk=>?_⟩
  dsimp only
  rw[a k,b k,<- ot r]
  refine cX λj _=>?_
  rw[r.mc (gp m _ _),r.dl,r.mc _ (cf _ k),r.mc _ (cf _ k)]
 | mul e he _ a =>
  obtain⟨c,hc,a⟩:=a
  refine⟨λi=>gm m e (c i),λi=>bC hm _ _,λk=>?_⟩
  dsimp only
  rw[a k,<- qv r]
  refine cX λj _=>?_
  rw[jY m0]
theorem bN.ann{m:Bool × Nat}(hm:m∈av){R:List (List Nat)}{n:Nat}{y:Nat->Nat}(h:∀x∈R,sm (gp m) n (λj=>gm m (cf x j) (y j))=0){f:Nat->Nat}(s:bN m R f):sm (gp m) n (λj=>gm m (f j) (y j))=0:=by
 have r:=rg hm
 have m0:=bS m hm
 induction s with
 | mem a=>obtain⟨x,hx,rfl⟩:=a;exact h x hx
 | zero=>exact gx r λj _=>eE m _ m0
 | @add f g _ _ a b =>
  rw[cX (g:=λj=>gp m (gm m (f j) (y j)) (gm m (g j) (y j))) λj _=>by dsimp only;rw[r.mc (gp m _ _),r.dl,r.mc (y j),r.mc (y j)],ot r,a,b,r.z r.pos]
 | @mul f e he _ a =>
  rw[cX (g:=λj=>gm m e (gm m (f j) (y j))) λj _=>jY m0 _ _ _,qv r,a,r.qz]
theorem RR.Hz{m:Bool × Nat}(hm:m∈av){w:Nat}{R:List (List Nat)}{H:Nat->Nat}(hR:RT (aa m) w R)(I:RR w R H){i:Nat}(hi:i<R.length):(R.getD i []).findIdx (· != 0)=H i/\∃x∈R.getD i [],x≠0:=by
 have a:=(hR _ (bZ hi [])).1
 have l:=I.l i hi
 have u:=I.u i i hi hi
 rw[if_pos rfl]at u
 have eu:(R.getD i [])[H i]'(by omega)=1:=by
  unfold cf at u
  rw[aJ (l:=R.getD i []),aQ (by omega)]at u
  exact u
 refine⟨?_,_,eB (show H i<(R.getD i []).length by omega),by rw[eu];decide⟩
 rw[List.findIdx_eq (by omega)]
 refine⟨by rw[eu];rfl,λj hj=>?_⟩
 have z:=I.z i hi j hj
 unfold cf at z
 rw[aJ (l:=R.getD i []),aQ (by omega)]at z
 simpa using z
theorem j7{a b:List Nat}{w:Nat}(ha:a.length=w)(hb:b.length=w)(h:∀k,k<w->cf a k=cf b k):a=b:=by
 refine EG (ha.trans hb.symm) λk h1 h2=>?_
 have:=h k (by omega)
 unfold cf at this
 rw[aJ,aJ,aQ h1,aQ h2]at this
 exact this
theorem CJ(f:Nat->Nat){w k:Nat}(h:k<w):cf ((aM w).map f) k=f k:=by
 unfold cf
 rw[aJ,cB,jJ h];rfl
theorem l9(m:Bool × Nat){xs ys:List Nat}(h:xs.length=ys.length):gd m xs ys=sm (gp m) xs.length λj=>gm m (cf xs j) (cf ys j):=by
 unfold gd
 rw[b82,kh,h,pq]
 refine cX λj hj=>?_
 unfold cf
 rw[aJ,AG,aQ (by omega),aQ (by omega),aJ,aQ (by omega),aJ,aQ (by omega)]
 rfl
noncomputable def cY(m:Bool × Nat)(xs:List Nat)(T:List (List Nat))(w:Nat):List Nat:=(aM w).map λk=>gd m xs (T.map λr=>r.getD k 0)
theorem QC{T:List (List Nat)}(k i:Nat):cf (T.map λr=>r.getD k 0) i=cf (T.getD i []) k:=by
 by_cases h:i<T.length
 ·exact kK (λr:List Nat=>r.getD k 0) h [] 0
 ·rw[wu (by rw[aY];omega),aJ,fY (by omega)];rfl
theorem mf(m:Bool × Nat)(xs:List Nat)(T:List (List Nat))(w:Nat):(cY m xs T w).length=w:=by unfold cY;rw[aY,cq]
theorem oE(m:Bool × Nat){xs:List Nat}{T:List (List Nat)}{w k:Nat}(h:xs.length=T.length)(hk:k<w):cf (cY m xs T w) k=sm (gp m) T.length λi=>gm m (cf xs i) (cf (T.getD i []) k):=by
 unfold cY
 rw[CJ _ hk,l9 m (by rw[aY,h]),h]
 exact cX λj _=>by rw[QC]
theorem cr9{m:Bool × Nat}(hm:m∈av){xs ys:List Nat}(h:xs.length=ys.length):gd m xs ys<aa m:=by
 rw[l9 m h];exact mV (rg hm) λj _=>bC hm _ _
theorem CK{m:Bool × Nat}(hm:m∈av){xs:List Nat}{T:List (List Nat)}(w:Nat)(h:xs.length=T.length):AllLt (aa m) (cY m xs T w):=λx hx=>by
 obtain⟨k,_,rfl⟩:=aX.mp hx
 exact cr9 hm (by rw[aY,h])
noncomputable def aV(r:List Nat):Nat:=r.findIdx (· != 0)
theorem CL{α:Type}(a b:α->Nat){j:Nat}:∀(l:List α) (x:List Nat),(∀z∈l,a z≠j)->cf (l.foldl (λx z=>x.set (a z) (b z)) x) j=cf x j
 | [],_,_=>rfl
 | z::l,x,h=>by
  rw[oZ,CL a b l _ λy hy=>h y (fh _ hy)]
  unfold cf
  rw[aJ,qK (h z gj),<- aJ]
theorem QD{α:Type}(a b:α->Nat):∀(l:List α) (x:List Nat),l.Pairwise (λy z=>a y≠a z)->∀z∈l,a z<x.length->cf (l.foldl (λx z=>x.set (a z) (b z)) x) (a z)=b z
 | [],_,_,_,h,_=>nomatch h
 | y::l,x,hp,z,hz,hl=>by
  rw[oZ]
  rw[EK]at hp
  rcases cL.mp hz with rfl | hz
  ·rw[CL a b l _ λy hy=>fi (hp.1 y hy)]
   unfold cf
   rw[aJ,Al hl];rfl
  ·exact QD a b l _ hp.2 z hz (by rw[qM];exact hl)
theorem QE{α:Type}(a b:α->Nat):∀(l:List α) (x:List Nat),(l.foldl (λx z=>x.set (a z) (b z)) x).length=x.length
 | [],_=>rfl
 | z::l,x=>by rw[oZ,QE a b l,qM]
theorem cE7{m:Bool × Nat}(hm:m∈av):∃e,e<aa m/\gp m 1 e=0/\e≠0/\∀{a b},a<aa m->b<aa m->(gp m a (gm m b e)=0↔a=b):=by
 have r:=rg hm
 obtain⟨e,he,h⟩:=r.ng (lo1 hm)
 refine⟨e,he,h,λz=>?_,λ{a b} ha hb=>?_⟩
 ·rw[z,r.z' (lo1 hm)]at h;omega
 ·have k:gp m b (gm m b e)=0:=by
   have:=r.dl b 1 e
   rw[h,r.qz,kJ hb]at this
   exact this.symm
  exact⟨λh1=>r.Hm ha hb (bC hm b e) (h1.trans k.symm),λh1=>h1 ▸ k⟩
noncomputable def ft(T:List (List Nat)):List (List Nat):=(aM (ag T)).map λj=>T.map λr=>r.getD j 0
theorem QF{T:List (List Nat)}{a:Nat}(h:a<ag T):(ft T).getD a []=T.map λr=>r.getD a 0:=by
 unfold ft
 rw[aJ,cB,jJ h];rfl
theorem HA{N:Nat}{T:List (List Nat)}(h0:0<N)(hw:0<ag T)(hT:RT N (ag T) T):(ft T).length=ag T/\ag (ft T)=T.length/\RT N T.length (ft T):=by
 have a:(ft T).length=ag T:=by unfold ft;rw[aY,cq]
 have c:RT N T.length (ft T):=λr hr=>by
  obtain⟨j,_,rfl⟩:=aX.mp hr
  refine⟨aY _,λx hx=>?_⟩
  obtain⟨y,hy,rfl⟩:=aX.mp hx
  exact(hT y hy).2.getD h0 j
 refine⟨a,?_,c⟩
 have:=QF hw
 have e:ag (ft T)=((ft T).getD 0 []).length:=by
  unfold ag
  cases ft T<;>rfl
 rw[e,this,aY]
end L3
namespace L3
open PySem L2 Mf
noncomputable def cI(T:List (List Nat))(w:Nat):List Nat:=(aM w).filter λj=>!(T.map aV).contains j
noncomputable def fC(m:Bool × Nat)(T:List (List Nat))(w f:Nat):List Nat:=(((T.map aV).zip T).foldl (λx z=>x.set z.1 (aS m 0 (z.2.getD f 0))) ((aK w 0).set f 1))
noncomputable def iX(m:Bool × Nat)(T:List (List Nat))(w:Nat):List (List Nat):=(cI T w).map (fC m T w)
theorem RR.heads{m:Bool × Nat}(hm:m∈av){w:Nat}{R:List (List Nat)}{H:Nat->Nat}(hR:RT (aa m) w R)(I:RR w R H):R.map aV=(aM R.length).map H:=by
 refine EG (by rw[aY,aY,cq]) λi h1 h2=>?_
 rw[aY]at h1
 rw[AJ,AJ,Mc,<- (I.Hz hm hR h1).1,aJ,aQ h1];rfl
theorem RR.mem{m:Bool × Nat}(hm:m∈av){w:Nat}{R:List (List Nat)}{H:Nat->Nat}(hR:RT (aa m) w R)(I:RR w R H)(j:Nat):j∈R.map aV↔∃i,i<R.length/\H i=j:=by
 rw[I.heads hm hR,aX]
 exact⟨λ⟨i,a,b⟩=>⟨i,bK.mp a,b⟩,λ⟨i,a,b⟩=>⟨i,bK.mpr a,b⟩⟩
theorem RR.free{m:Bool × Nat}(hm:m∈av){w:Nat}{R:List (List Nat)}{H:Nat->Nat}(hR:RT (aa m) w R)(I:RR w R H)(j:Nat):j∈cI R w↔j<w/\∀i,i<R.length->H i≠j:=by
 unfold cI
 rw[m5,bK,Bool.not_eq_true',<- Bool.not_eq_true,EI,I.mem hm hR]
 exact and_congr_right λ_=>⟨λh i a b=>h ⟨i,a,b⟩,λh ⟨i,a,b⟩=>h i a b⟩
theorem RR.HB{m:Bool × Nat}(hm:m∈av){w:Nat}{R:List (List Nat)}{H:Nat->Nat}(hR:RT (aa m) w R)(I:RR w R H):(cI R w).length+R.length=w:=by
 have nd:(R.map aV).Nodup:=by
  rw[I.heads hm hR]
  unfold List.Nodup
  rw[Wi]
  intro i j hi hj zD
  rw[aY,cq]at hi hj
  rw[AJ,AJ,Mc,Mc]
  have:=I.i i j zD hj
  omega
 have pe:((aM w).filter λj=>(R.map aV).contains j).Perm (R.map aV):=by
  refine(Wj (Md _ xt) nd).mpr λj=>?_
  rw[m5,EI,bK]
  refine⟨λh=>h.2,λh=>⟨?_,h⟩⟩
  obtain⟨i,hi,rfl⟩:=(I.mem hm hR j).mp h
  exact I.l i hi
 have l1:=pe.length_eq
 rw[aY]at l1
 have l2:=EL (λj=>(R.map aV).contains j) (l:=aM w)
 rw[cq,EM,EM,l1]at l2
 unfold cI
 have e:((aM w).filter λa=>decide ¬(R.map aV).contains a=true)=(aM w).filter λj=>!(R.map aV).contains j:=List.filter_congr λx _=>by
  cases(R.map aV).contains x<;>rfl
 rw[e]at l2
 omega
theorem tf{m:Bool × Nat}(hm:m∈av){w f:Nat}{R:List (List Nat)}{H:Nat->Nat}(hR:RT (aa m) w R)(I:RR w R H)(hf:f∈cI R w):(fC m R w f).length=w/\AllLt (aa m) (fC m R w f)/\cf (fC m R w f) f=1/\(∀i,i<R.length->cf (fC m R w f) (H i)=aS m 0 (cf (R.getD i []) f))/\∀j,j≠f->(∀i,i<R.length->H i≠j)->cf (fC m R w f) j=0:=by
 obtain⟨f1,f2⟩:=(I.free hm hR f).mp hf
 have l1:=lo1 hm
 have zl:((R.map aV).zip R).length=R.length:=by rw[L8,aY,pq]
 have zg:∀i (h:i<R.length),((R.map aV).zip R)[i]'(by omega)=(H i,R.getD i []):=λi h=>by
  rw[List.getElem_zip,AJ]
  have e:R.getD i []=R[i]:=by rw[aJ,aQ h];rfl
  have:=(I.Hz hm hR h).1
  rw[e]at this ⊢
  exact Prod.ext this rfl
 have zm:∀z∈(R.map aV).zip R,∃i,i<R.length/\z=(H i,R.getD i []):=λz hz=>by
  obtain⟨i,hi,rfl⟩:=jI hz
  exact⟨i,by omega,zg i (by omega)⟩
 have mz:∀i,i<R.length->(H i,R.getD i [])∈(R.map aV).zip R:=λi h=>by
  rw[<-zg i h];exact eB _
 have bd:∀z∈(R.map aV).zip R,aS m 0 (z.2.getD f 0)<aa m:=λz hz=>by
  obtain⟨i,hi,rfl⟩:=zm z hz
  exact(iW hm (by omega) (cP hm (hR _ (bZ hi [])).2 f)).2.1
 refine⟨?_,?_,?_,λi hi=>?_,λj hj hj2=>?_⟩
 ·unfold fC
  rw[QE (λz:Nat × List Nat=>z.1) (λz=>aS m 0 (z.2.getD f 0)),qM,dA]
 ·have key:∀(l:List (Nat × List Nat)) (x:List Nat),(∀z∈l,aS m 0 (z.2.getD f 0)<aa m)->AllLt (aa m) x->AllLt (aa m) (l.foldl (λx z=>x.set z.1 (aS m 0 (z.2.getD f 0))) x):=by
   intro l
   induction l with
   | nil=>exact λx _ h=>h
   | cons z l ih =>
    intro x hz h
    rw[oZ]
    refine ih _ (λy hy=>hz y (fh _ hy)) λy hy=>?_
    rcases LY hy with h1 | h1
    ·exact h y h1
    ·rw[h1];exact hz z gj
  refine key _ _ bd λx hx=>?_
  rcases LY hx with h1 | h1
  ·rw[(xm.mp h1).2];omega
  ·omega
 ·unfold fC
  rw[CL (λz:Nat × List Nat=>z.1) (λz=>aS m 0 (z.2.getD f 0)) _ _ λz hz=>?_]
  ·unfold cf
   rw[aJ,Al (by rw[dA];exact f1)];rfl
  ·obtain⟨i,hi,rfl⟩:=zm z hz
   exact f2 i hi
 ·have hp:((R.map aV).zip R).Pairwise (λy z:Nat × List Nat=>y.1≠z.1):=by
   rw[Wi]
   intro i j hi hj zD
   rw[zg i (by omega),zg j (by omega)]
   have:=I.i i j zD (by omega)
   show H i≠H j
   omega
  exact QD (λz:Nat × List Nat=>z.1) (λz=>aS m 0 (z.2.getD f 0)) _ _ hp _ (mz i hi) (by rw[qM,dA];exact I.l i hi)
 ·unfold fC
  rw[CL (λz:Nat × List Nat=>z.1) (λz=>aS m 0 (z.2.getD f 0)) _ _ λz hz=>?_]
  ·unfold cf
   rw[aJ,qK (fi hj),m9]
   split<;>rfl
  ·obtain⟨i,hi,rfl⟩:=zm z hz
   exact hj2 i hi
theorem HC{N:Nat}{p q:Nat->Nat->Nat}(r:Rg N p q){f:Nat->Nat}{a b n:Nat}(ha:a<n)(hb:b<n)(hn:a≠b)(fa:f a<N)(fb:f b<N)(hz:∀j,j<n->j≠a->j≠b->f j=0):sm p n f=p (f a) (f b):=by
 have h1:=kM r (f:=λj=>if j=a then f a else 0) (j0:=a) (n:=n) (by rw[if_pos rfl];exact fa) ha λj _ h=>if_neg h
 have h2:=kM r (f:=λj=>if j=b then f b else 0) (j0:=b) (n:=n) (by rw[if_pos rfl];exact fb) hb λj _ h=>if_neg h
 rw[if_pos rfl]at h1 h2
 rw[<-h1,<- h2,<- ot r]
 refine cX λj hj=>?_
 by_cases ja:j=a
 ·rw[if_pos ja,if_neg (by omega),r.z' fa,ja]
 ·by_cases jb:j=b
  ·rw[if_neg ja,if_pos jb,r.z fb,jb]
  ·rw[if_neg ja,if_neg jb,hz j hj ja jb,r.z r.pos]
noncomputable def dt(m:Bool × Nat)(w:Nat)(x y:Nat->Nat):Nat:=sm (gp m) w λj=>gm m (x j) (y j)
theorem QG{m:Bool × Nat}(hm:m∈av)(w:Nat)(x y z:Nat->Nat):dt m w x (λk=>gp m (y k) (z k))=gp m (dt m w x y) (dt m w x z):=by
 have r:=rg hm
 unfold dt
 rw[<-ot r]
 exact cX λj _=>r.dl _ _ _
theorem QH{m:Bool × Nat}(hm:m∈av)(w c:Nat)(x y:Nat->Nat):dt m w x (λk=>gm m c (y k))=gm m c (dt m w x y):=by
 have r:=rg hm
 have m0:=bS m hm
 unfold dt
 rw[<-qv r]
 exact cX λj _=>by rw[<-jY m0,gW m (x j),jY m0]
theorem HD{m:Bool × Nat}(hm:m∈av)(w:Nat)(x:Nat->Nat)(c:Nat->Nat)(F:Nat->Nat->Nat):∀n,dt m w x (λk=>sm (gp m) n λi=>gm m (c i) (F i k))=sm (gp m) n λi=>gm m (c i) (dt m w x (F i))
 | 0=>gx (rg hm) λj _=>(rg hm).qz _
 | n+1=>by
  rw[sm,<- HD hm w x c F n,<- QH hm,<- QG hm];rfl
theorem HE{m:Bool × Nat}(hm:m∈av){w f:Nat}{R:List (List Nat)}{H:Nat->Nat}(hR:RT (aa m) w R)(I:RR w R H)(hf:f∈cI R w){i:Nat}(hi:i<R.length):dt m w (cf (R.getD i [])) (cf (fC m R w f))=0:=by
 have r:=rg hm
 obtain⟨f1,f2⟩:=(I.free hm hR f).mp hf
 obtain⟨k1,k2,k3,k4,k5⟩:=tf hm hR I hf
 have il:=cP hm (hR _ (bZ hi [])).2
 have g:=iW hm (a:=0) r.pos (il f)
 unfold dt
 rw[HC r (f:=λj=>gm m (cf (R.getD i []) j) (cf (fC m R w f) j)) (a:=H i) (b:=f) (I.l i hi) f1 (f2 i hi) (bC hm _ _) (bC hm _ _) λj hj ja jb=>?_]
 ·rw[k3,k4 i hi,I.u i i hi hi,if_pos rfl,kI g.2.1,kJ (il f)]
  exact g.2.2
 ·by_cases c:∃i',i'<R.length/\H i'=j
  ·obtain⟨i',h1,rfl⟩:=c
   rw[I.u i i' hi h1,if_neg (λz:i=i'=>ja (by rw[z])),eE m _ (bS m hm)]
  ·rw[k5 j jb λi' h1 h2=>c ⟨i',h1,h2⟩,r.qz]
theorem bN.dt{m:Bool × Nat}(hm:m∈av){R:List (List Nat)}{n:Nat}{y:Nat->Nat}(h:∀i,i<R.length->dt m n (cf (R.getD i [])) y=0){f:Nat->Nat}(s:bN m R f):dt m n f y=0:=by
 refine s.ann hm λx hx=>?_
 obtain⟨i,hi,rfl⟩:=jI hx
 have:=h i hi
 rw[aJ,aQ hi]at this
 exact this
theorem RR.ker{m:Bool × Nat}(hm:m∈av){w:Nat}{R:List (List Nat)}{H:Nat->Nat}(hR:RT (aa m) w R)(I:RR w R H){z:Nat->Nat}(hz:∀k,z k<aa m)(h:∀i,i<R.length->dt m w (cf (R.getD i [])) z=0){k:Nat}(hk:k<w):z k=sm (gp m) (cI R w).length λa=>gm m (z ((cI R w).getD a 0)) (cf (fC m R w ((cI R w).getD a 0)) k):=by
 have r:=rg hm
 have m0:=bS m hm
 obtain⟨e,e1,e2,e3,e4⟩:=cE7 hm
 let z':=λk=>sm (gp m) (cI R w).length λa=>gm m (z ((cI R w).getD a 0)) (cf (fC m R w ((cI R w).getD a 0)) k)
 have zE:∀k,z' k<aa m:=λk=>mV r λ_ _=>bC hm _ _
 let d:=λk=>gp m (z k) (gm m e (z' k))
 have dk:∀k,d k=0↔z k=z' k:=λk=>by
  show gp m (z k) (gm m e (z' k))=0↔_
  rw[gW m e]
  exact e4 (hz k) (zE k)
 have dz:∀i,i<R.length->dt m w (cf (R.getD i [])) d=0:=λi hi=>by
  show dt m w (cf (R.getD i [])) (λk=>gp m (z k) (gm m e (z' k)))=0
  rw[QG hm,QH hm,h i hi,HD hm,gx r λa ha=>?_,r.qz,r.z r.pos]
  rw[HE hm hR I (bZ ha 0) hi,r.qz]
 have zf:∀f,f∈cI R w->z' f=z f:=λf hf=>by
  obtain⟨a,ha,rfl⟩:=jI hf
  have ea:(cI R w)[a]=(cI R w).getD a 0:=by rw[aJ,aQ ha];rfl
  show sm (gp m) (cI R w).length (λb=>gm m (z ((cI R w).getD b 0)) (cf (fC m R w ((cI R w).getD b 0)) _))=_
  rw[ea,kM r (f:=λb=>gm m (z ((cI R w).getD b 0)) (cf (fC m R w ((cI R w).getD b 0)) ((cI R w).getD a 0))) (bC hm _ _) ha λb hb hn=>?_]
  ·rw[(tf hm hR I (bZ ha 0)).2.2.1,kJ (hz _)]
  ·have nd:(cI R w).Nodup:=Md _ xt
   rw[(tf hm hR I (bZ hb 0)).2.2.2.2 _ ?_ ((I.free hm hR _).mp (bZ ha 0)).2,r.qz]
   intro c
   rw[aJ,aQ ha,aJ,aQ hb]at c
   exact hn ((Eh nd).mp (cT (congrArg some c))).symm
 have key:d k=0:=by
  by_cases c:∃i,i<R.length/\H i=k
  ·obtain⟨i,hi,rfl⟩:=c
   have:=dz i hi
   unfold dt at this
   rw[kM r (f:=λj=>gm m (cf (R.getD i []) j) (d j)) (j0:=H i) (bC hm _ _) hk λj hj hn=>?_,I.u i i hi hi,if_pos rfl,kI (r.lp (hz _) (bC hm _ _))]at this
   ·exact this
   ·by_cases c:∃i',i'<R.length/\H i'=j
    ·obtain⟨i',h1,rfl⟩:=c
     rw[I.u i i' hi h1,if_neg (λz:i=i'=>hn (by rw[z])),eE m _ m0]
    ·have hf:=(I.free hm hR j).mpr ⟨hj,λi' h1 h2=>c ⟨i',h1,h2⟩⟩
     have:d j=0:=(dk j).mpr (zf j hf).symm
     rw[this,r.qz]
  ·have hf:=(I.free hm hR k).mpr ⟨hk,λi' h1 h2=>c ⟨i',h1,h2⟩⟩
   exact(dk k).mpr (zf k hf).symm
 exact(dk k).mp key
theorem CM{N n:Nat}{M:List (List Nat)}(h:RT N n M)(h0:M≠[]):ag M=n:=by
 cases M with
 | nil=>exact absurd rfl h0
 | cons g M=>exact(h g gj).1
theorem QI{m:Bool × Nat}(hm:m∈av){n:Nat}{M:List (List Nat)}(h:RT (aa m) n M)(hl:M.length<n):∃(x:Nat->Nat) (f:Nat),f<n/\(∀k,x k<aa m)/\x f=1/\∀i,i<M.length->dt m n (cf (M.getD i [])) x=0:=by
 by_cases h0:M=[]
 ·subst h0
  exact⟨λ_=>1,0,hl,λ_=>lo1 hm,rfl,λi hi=>nomatch hi⟩
 ·have hw:=CM h h0
  obtain⟨⟨H,I⟩,iR,il,sp⟩:=kL hm (G:=M) (by rw[hw];exact h)
  rw[hw]at I iR
  have fl:=I.HB hm iR
  have f0:0<(cI (bU m M) n).length:=by omega
  have hf:=bZ f0 0
  obtain⟨k1,k2,k3,k4,k5⟩:=tf hm iR I hf
  refine⟨cf (fC m (bU m M) n ((cI (bU m M) n).getD 0 0)),_,((I.free hm iR _).mp hf).1,cP hm k2,k3,λi hi=>?_⟩
  exact bN.dt hm (λi' gM=>HE hm iR I hf gM) ((sp _).mp (bN.of (bZ hi [])))
theorem RR.wz{m:Bool × Nat}(hm:m∈av){w v:Nat}{S R:List (List Nat)}{H:Nat->Nat}(hS:RT (aa m) w S)(I:RR w S H)(hR:RT (aa m) v R)(h:∀i,i<S.length->bN m R (cf (S.getD i []))):S.length<=R.length:=by
 have r:=rg hm
 refine Eo λhl=>?_
 have hc:∀i,∃c:Nat->Nat,i<S.length->(∀j,c j<aa m)/\∀k,cf (S.getD i []) k=sm (gp m) R.length λj=>gm m (c j) (cf (R.getD j []) k):=λi=>by
  by_cases hi:i<S.length
  ·obtain⟨c,a,b⟩:=(h i hi).sum hm hR
   exact⟨c,λ_=>⟨a,b⟩⟩
  ·exact⟨λ_=>0,λz=>absurd z hi⟩
 obtain⟨C,hC⟩:=Classical.axiomOfChoice hc
 have cl:∀i,i<S.length->∀j,C i j<aa m:=λi hi=>(hC i hi).1
 obtain⟨x,f,f1,x1,x2,x3⟩:=QI hm (n:=S.length) (M:=(aM R.length).map λj=>(aM S.length).map λi=>C i j) (λy hy=>by
  obtain⟨j,_,rfl⟩:=aX.mp hy
  refine⟨by rw[aY,cq],λz hz=>?_⟩
  obtain⟨i,hi,rfl⟩:=aX.mp hz
  exact cl i (bK.mp hi) j) (by rw[aY,cq];exact hl)
 rw[aY,cq]at x3
 have x4:∀j,j<R.length->sm (gp m) S.length (λi=>gm m (C i j) (x i))=0:=λj hj=>by
  rw[<-x3 j hj]
  refine cX λi hi=>?_
  rw[kK (λj=>(aM S.length).map λi=>C i j) (by rw[cq];exact hj) 0 [],CJ _ hi,aJ,jJ hj];rfl
 have x5:∀k,sm (gp m) S.length (λi=>gm m (x i) (cf (S.getD i []) k))=0:=λk=>by
  rw[cX (g:=λi=>sm (gp m) R.length λj=>gm m (gm m (C i j) (x i)) (cf (R.getD j []) k)) λi hi=>?_,Qc r,gx r λj hj=>?_]
  ·rw[cX (g:=λi=>gm m (cf (R.getD j []) k) (gm m (C i j) (x i))) λi hi=>gW m _ _,qv r,x4 j hj,r.qz]
  ·rw[(hC i hi).2 k,<- qv r]
   exact cX λj _=>by rw[<-jY (bS m hm),gW m (x i)]
 have:=x5 (H f)
 rw[kM r (f:=λi=>gm m (x i) (cf (S.getD i []) (H f))) (bC hm _ _) f1 λj hj hn=>by rw[I.u j f hj f1,if_neg hn,r.qz],I.u f f f1 f1,if_pos rfl,x2,kI (lo1 hm)]at this
 omega
theorem co1{m:Bool × Nat}(hm:m∈av){v:Nat}{G R:List (List Nat)}(hG:RT (aa m) (ag G) G)(hR:RT (aa m) v R)(h:∀i,i<G.length->bN m R (cf (G.getD i []))):(bU m G).length<=R.length:=by
 obtain⟨⟨H,I⟩,iR,il,sp⟩:=kL hm hG
 refine I.wz hm iR hR λi hi=>?_
 refine Sp.trans (λf hf=>?_) ((sp _).mpr (bN.of (bZ hi [])))
 obtain⟨x,hx,rfl⟩:=hf
 obtain⟨i,hi,rfl⟩:=jI hx
 have:=h i hi
 rw[aJ,aQ hi]at this
 exact this
theorem zF{T:List (List Nat)}{i:Nat}(h:i<T.length):T.getD i []=T[i]:=by rw[aJ,aQ h];rfl
theorem bN.red{m:Bool × Nat}(hm:m∈av){G:List (List Nat)}(hG:RT (aa m) (ag G) G){f:Nat->Nat}(h:bN m G f):bN m (bU m G) f:=((kL hm hG).2.2.2 f).mp h
end L3
namespace L3
open PySem L2 PySem.Spec PyProof.Rows
section
variable{X:Cx}{F H:Hp}{e b:Expr}{pos pos' p p2 p3 apos bE:Pos}{ti te:aI}{x y:Str}{i j:Nat}
end
section
variable{X:Cx}
end
section
variable{X:Cx}{es:List Expr}{tr:cE}{pos:Pos}
theorem cu3(h:PA X es (lA tr)):PE X (.List es pos) (lB (rS tr)) :=
 dq (MQ h) λσ H Q zq=>by
 obtain⟨B,F,δ,ts,Qd,c,q,k⟩:=zq
 exact⟨B,F,δ,ts,_,c,q,λds ai vs F1 H1 q1 f1 h1 c1 s1=>⟨by rw[<-s1.length];exact q1.1,λp hp=>k _ ai _ F1 _ q1.2 f1 (h1.trans (af.upd hp)) (c1.grow (af.upd hp)) (.own bH (s1.mono (af.refl _) (af.upd hp)) .nil)⟩⟩
end
end L3
namespace L3
open PySem L2 Mf
theorem RR.lead{m:Bool × Nat}(hm:m∈av){w:Nat}{R:List (List Nat)}{H:Nat->Nat}(hR:RT (aa m) w R)(I:RR w R H){f:Nat->Nat}(s:bN m R f){t:Nat}(h1:f t≠0)(h2:∀j,j<t->f j=0):∃i,i<R.length/\H i=t:=by
 refine Aw λc=>h1 ?_
 rw[I.own hm hR s t]
 refine gx (rg hm) λi hi=>?_
 rcases Nat.lt_trichotomy (H i) t with h | h | h
 ·rw[h2 _ h,eE m _ (bS m hm)]
 ·exact absurd ⟨i,hi,h⟩ c
 ·rw[I.z i hi t h,(rg hm).qz]
theorem RR.same{m:Bool × Nat}(hm:m∈av){w:Nat}{R R':List (List Nat)}{H H':Nat->Nat}(hR:RT (aa m) w R)(I:RR w R H)(CN:RT (aa m) w R')(I':RR w R' H')(h:∀x∈R,bN m R' (cf x))(h':∀x∈R',bN m R (cf x)):R=R':=by
 have l:R.length=R'.length:=Nat.le_antisymm (I.wz hm hR CN λi hi=>h _ (bZ hi [])) (I'.wz hm CN hR λi hi=>h' _ (bZ hi []))
 have a:∀i,i<R.length->∃j,j<R'.length/\H' j=H i:=λi hi=>I'.lead hm CN (h _ (bZ hi [])) (by rw[I.u i i hi hi,if_pos rfl];decide) λj hj=>I.z i hi j hj
 have a':∀i,i<R'.length->∃j,j<R.length/\H j=H' i:=λi hi=>I.lead hm hR (h' _ (bZ hi [])) (by rw[I'.u i i hi hi,if_pos rfl];decide) λj hj=>I'.z i hi j hj
 have e:∀n i,i<n->i<R.length->H i=H' i:=by
  intro n
  induction n with
  | zero=>exact λi hi=>nomatch hi
  | succ n ih =>
   intro i hi hl
   by_cases hn:i<n
   ·exact ih i hn hl
   obtain rfl:i=n:=by omega
   obtain⟨j,j1,j2⟩:=a i hl
   obtain⟨j',j3,j4⟩:=a' i (by omega)
   have b1:i<=j:=Eo λc=>by
    have:=ih j c (by omega)
    have:=I.i j i c hl
    omega
   have b2:i<=j':=Eo λc=>by
    have:=ih j' c (by omega)
    have:=I'.i j' i c (by omega)
    omega
   have c1:H' i<=H' j:=by
    rcases AI i j with c | c
    ·exact oU (I'.i i j c j1)
    ·rw[show i=j by omega];exact bD _
   have c2:H i<=H j':=by
    rcases AI i j' with c | c
    ·exact oU (I.i i j' c j3)
    ·rw[show i=j' by omega];exact bD _
   omega
 refine EG l λi h1 h2=>?_
 rw[<-zF h1,<- zF h2]
 refine j7 (hR _ (bZ h1 [])).1 (CN _ (bZ h2 [])).1 λk _=>?_
 rw[I.own hm hR (h' _ (bZ h2 [])) k,kM (rg hm) (f:=λj=>gm m (cf (R'.getD i []) (H j)) (cf (R.getD j []) k)) (bC hm _ _) h1 λj hj hn=>?_]
 ·rw[e (i+1) i (by omega) h1,I'.u i i h2 h2,if_pos rfl,kI (cP hm (hR _ (bZ h1 [])).2 k)]
 ·rw[e (j+1) j (by omega) hj,I'.u i j h2 (by omega),if_neg (λz:i=j=>hn z.symm),eE m _ (bS m hm)]
theorem cs4{m:Bool × Nat}(hm:m∈av){A T:List (List Nat)}{H:Nat->Nat}(hT:RT (aa m) (ag T) T)(hA:RT (aa m) (ag T) A)(I:RR (ag T) A H)(h:∀x∈T,bN m A (cf x))(h':∀x∈A,bN m T (cf x)):bU m T=A:=by
 obtain⟨⟨H1,I1⟩,iR,il,sp⟩:=kL hm hT
 refine I1.same hm iR hA I (λx hx=>?_) λx hx=>(sp _).mp (h' x hx)
 refine Sp.trans (λf hf=>?_) ((sp _).mpr (bN.of hx))
 obtain⟨y,hy,rfl⟩:=hf
 exact h y hy
end L3
namespace L3
open PySem L2 Mf
theorem mX(a b:List Nat)(k:Nat):cf (a++b) k=if k<a.length then cf a k else cf b (k-a.length):=by
 unfold cf
 rw[aJ,List.getElem?_append]
 split<;>rw[aJ]
end L3
namespace L3
open PySem L2 Mf
end L3
namespace L2
open PySem PySem.Spec PyProof.Rows
section
variable{X:Cx}
end
end L2
namespace L3
open PySem L2 PySem.Spec PyProof.Rows
section
variable{X:Cx}
end
end L3
namespace L2
open PySem PySem.Spec PyProof.Rows
section
variable{X:Cx}{a:Expr}{ta:TE}{p p2 pos zG:Pos}
end
end L2
namespace L3
open PySem L2 PySem.Spec PyProof.Rows
section
variable{X:Cx}{a:Expr}{t:aI}{p p2 pos zG:Pos}
end
end L3
namespace L3
open PySem L2 PySem.Spec PyProof.Rows
section
variable{F H:Hp}
end
section
variable{X:Cx}{e:Expr}{t:aI}{p2 pos:Pos}
end
end L3
namespace L3
open PySem L2 PySem.Spec PyProof.Rows
section
variable{F H:Hp}
end
section
variable{P:Program}{w:World}{K:PySem.W.Frag}{mg:Str->Option Value}{base:Heap}
end
section
variable{X:Cx}{CX:eY}{n i:Nat}{f:Addr}{fd:FuncData}{ps:List Str}{sp:bh}{E:XK}{fn x:Str}{e:Expr}{te:aI}{p p2 pos pos' zG:Pos}
end
end L3
namespace L2
section
variable{α:Type}{P:List α->Prop}
theorem cB9(h:P []):∀us:List α,us.length=0->P us:=by
 intro us hl;rcases us with _ | ⟨a,t⟩
 ·exact h
 ·cases hl
theorem gy(h:∀a,P [a]):∀us:List α,us.length=1->P us:=by
 intro us hl;rcases us with _ | ⟨a,t⟩
 ·cases hl
 ·exact cB9 (P:=λt=>P (a::t)) (h a) t (EN hl)
theorem fu(h:∀a b,P [a,b]):∀us:List α,us.length=2->P us:=by
 intro us hl;rcases us with _ | ⟨a,t⟩
 ·cases hl
 ·exact gy (P:=λt=>P (a::t)) (h a) t (EN hl)
theorem gX(h:∀a b c,P [a,b,c]):∀us:List α,us.length=3->P us:=by
 intro us hl;rcases us with _ | ⟨a,t⟩
 ·cases hl
 ·exact fu (P:=λt=>P (a::t)) (h a) t (EN hl)
theorem HF(h:∀a b c d,P [a,b,c,d]):∀us:List α,us.length=4->P us:=by
 intro us hl;rcases us with _ | ⟨a,t⟩
 ·cases hl
 ·exact gX (P:=λt=>P (a::t)) (h a) t (EN hl)
end
end L2
namespace L3
open PySem L2 PySem.Spec PyProof.Rows
section
variable{B:Bs}{F H:Hp}{σ:L2.St}{δ:Dl}{ts:List (D × V)}
end
section
variable{X:Cx}{elt iter tg:Expr}{pos:Pos}{scope:Scope}{cl:List (Str × Addr)}{ti:jt}{te:aI}{g:iq}
end
end L3
namespace L2
open PySem PySem.Spec PyProof.Rows
section
variable{X:Cx}
end
end L2
namespace L3
open PySem L2 PySem.Spec PyProof.Rows
section
variable{X:Cx}
end
end L3
namespace L3
open PySem L2 Mf
theorem QJ{m:Bool × Nat}(hm:m∈av){a b:Nat}(ha:a<aa m)(hb:b<aa m):gm m a b=0↔a=0\/b=0:=by
 constructor
 ·intro h
  by_cases a0:a=0
  ·exact .inl a0
  ·by_cases b0:b=0
   ·exact .inr b0
   ·exact absurd h (cE9 hm (by omega) ha (by omega) hb)
 ·rintro (rfl | rfl)
  ·exact eE m _ (bS m hm)
  ·exact iB m _ (bS m hm)
theorem bO1(l:List Nat):au l=aF (l.map λ(n:Nat)=>(n:Int)):=by rw[du];unfold aF;rw[bW];rfl
end L3
namespace L3
open PySem L2 Mf
noncomputable def gz(m:Bool × Nat)(c:List Nat)(os:List (List Nat)):List (List Nat):=os.map λo =>
 (cU (λx y=>aS m x (gm m (gm m (o.getD (aV c) 0) (mW m (c.getD (aV c) 0))) y)) o c).take (aV c)++(cU (λx y=>aS m x (gm m (gm m (o.getD (aV c) 0) (mW m (c.getD (aV c) 0))) y)) o c).drop (aV c+1)
noncomputable abbrev Cs:=List Nat × List (List Nat)
noncomputable def nul(c:List Nat):Bool:=c.all (·==0)
noncomputable def gA(m:Bool × Nat)(w:Nat)(z:Cs × Nat):Cs:=(z.1.1++[w-z.1.2.length+z.2],gz m (z.1.2.getD z.2 []) (z.1.2.drop (z.2+1)))
noncomputable def fv(s:Cs):List (Cs × Nat):=(aM s.2.length).map λi=>(s,i)
noncomputable def dH(l:List Cs):List (Cs × Nat):=l.flatMap fv
noncomputable def oF(z:Cs × Nat):Bool:=nul (z.1.2.getD z.2 [])
noncomputable def tu(m:Bool × Nat)(w:Nat):Nat->List Cs->Option (List Nat)
 | 0,_=>none
 | f+1,l=>if l=[]then none else match (dH l).find? oF with
  | some z=>some (z.1.1++[w-z.1.2.length+z.2])
  | none=>tu m w f ((dH l).map (gA m w))
noncomputable def gB(m:Bool × Nat)(C:Nat->Nat->Nat)(ps:List Nat)(c:Nat->Nat)(k:Nat):Nat:=sm (gp m) ps.length λt=>gm m (c t) (C (ps.getD t 0) k)
noncomputable def wA(m:Bool × Nat)(C:Nat->Nat->Nat)(ps:List Nat):Prop:=∀c:Nat->Nat,(∀t,c t<aa m)->(∀k,gB m C ps c k=0)->∀t,t<ps.length->c t=0
structure Gs(m:Bool × Nat)(C:Nat->Nat->Nat)(w:Nat)(s:Cs):Prop where
 le:s.2.length<=w
 inc:s.1.Pairwise (· < ·)
 off:∀p∈s.1,p<w-s.2.length
 nx:∀j,(∀p∈s.1,p<j)->w-s.2.length<=j
 rt:∃h,RT (aa m) h s.2
 rel:∀a:Nat->Nat,(∀i,a i<aa m)->((∀k,sm (gp m) s.2.length (λi=>gm m (a i) (cf (s.2.getD i []) k))=0)↔∃c:Nat->Nat,(∀t,c t<aa m)/\∀k,gp m (sm (gp m) s.2.length λi=>gm m (a i) (C (w-s.2.length+i) k)) (gB m C s.1 c k)=0)
 ind:wA m C s.1
section
variable{m:Bool × Nat}{C:Nat->Nat->Nat}{w:Nat}
theorem ct9(hm:m∈av)(C:Nat->Nat->Nat)(ps:List Nat)(c:Nat->Nat)(k:Nat):gB m C ps c k<aa m:=mV (rg hm) λ_ _=>bC hm _ _
theorem CO(hm:m∈av)(C:Nat->Nat->Nat)(ps:List Nat)(j:Nat)(c:Nat->Nat)(k:Nat):gB m C (ps++[j]) c k=gp m (gB m C ps c k) (gm m (c ps.length) (C j k)):=by
 unfold gB
 rw[cy,kT,sm]
 congr 1
 ·refine cX λt ht=>?_
  rw[aJ,oX ht,<- aJ]
 ·rw[aJ,m8 (bD _),xq];rfl
theorem QK{ps:List Nat}{c c':Nat->Nat}{k:Nat}(h:∀t,t<ps.length->c t=c' t):gB m C ps c k=gB m C ps c' k:=cX λt ht=>by rw[h t ht]
theorem qy(hm:m∈av){n i e:Nat}(hi:i<n)(a' X:Nat->Nat):sm (gp m) n (λj=>gm m (if j<i then 0 else if j=i then e else a' (j-i-1)) (X j))=gp m (sm (gp m) (n-i-1) λj=>gm m (a' j) (X (i+1+j))) (gm m e (X i)):=by
 have r:=rg hm
 have h0:=bS m hm
 obtain⟨d,rfl⟩:∃d,n=(i+1)+d:=⟨n-i-1,by omega⟩
 rw[Cw r (i+1) d λ_ _=>bC hm _ _,sm,gx r λj hj=>by rw[if_pos hj,eE m _ h0],if_neg (gC _),if_pos rfl,r.z (bC hm _ _),jZ]
 congr 1
 rw[show i+1+d-i-1=d by omega]
 refine cX λj hj=>?_
 rw[if_neg (by omega),if_neg (by omega),show i+1+j-i-1=j by omega]
theorem QL{c:List Nat}:nul c=true↔∀k,cf c k=0:=by
 unfold nul
 rw[de]
 constructor
 ·intro h k
  by_cases hk:k<c.length
  ·unfold cf
   have:=h _ (bZ hk 0)
   exact beq_iff_eq.mp this
  ·exact wu (by omega)
 ·intro h x hx
  obtain⟨k,hk,rfl⟩:=jI hx
  have:=h k
  unfold cf at this
  rw[aJ,aQ hk]at this
  exact beq_iff_eq.mpr this
theorem HG{c:List Nat}(h:nul c=false):aV c<c.length/\cf c (aV c)≠0:=by
 have hx:∃x∈c,(x != 0)=true:=by
  refine Aw λz=>?_
  have:nul c=true:=by
   unfold nul
   rw[de]
   intro x hx
   refine Aw λy=>z ⟨x,hx,?_⟩
   simpa using y
  rw[h]at this;cases this
 have hl:aV c<c.length:=Ma hx
 refine⟨hl,?_⟩
 have h2:(c[aV c] != 0)=true:=Wf (xs:=c) (p:=(· != 0)) (w:=hl)
 unfold cf
 rw[aJ,aQ hl]
 simpa using h2
theorem cg5(hm:m∈av){b:List Nat}{os:List (List Nat)}{h:Nat}(hb:b.length=h)(ab:AllLt (aa m) b)(mh:RT (aa m) h os)(nb:nul b=false){a:Nat->Nat}(ha:∀i,a i<aa m) :
  (∀k,sm (gp m) os.length (λj=>gm m (a j) (cf ((gz m b os).getD j []) k))=0)↔∃e,e<aa m/\∀k,gp m (sm (gp m) os.length λj=>gm m (a j) (cf (os.getD j []) k)) (gm m e (cf b k))=0:=by
 have r:=rg hm
 have h0:=bS m hm
 have eD:=lo1 hm
 obtain⟨hp,bp⟩:=HG nb
 have QM:=cP hm ab (aV b)
 obtain⟨iv,iv1,QN⟩:=Qf hm (a:=1) (by omega) QM bp
 have HH:mW m (b.getD (aV b) 0)=iv:=Cz hm iv1 QN
 obtain⟨D,hD⟩:∃D:Nat->List Nat,∀j,D j=cU (λx y=>aS m x (gm m (gm m ((os.getD j []).getD (aV b) 0) iv) y)) (os.getD j []) b:=⟨_,λ_=>rfl⟩
 have QO:∀j,j<os.length->∀k,gp m (cf (D j) k) (gm m (gm m (cf (os.getD j []) (aV b)) iv) (cf b k))=cf (os.getD j []) k:=λj hj k=>by
  rw[hD]
  exact CF hm (mh _ (bZ hj [])).1 hb (mh _ (bZ hj [])).2 k
 have Dlt:∀j,j<os.length->∀k,cf (D j) k<aa m:=λj hj k=>by
  rw[hD]
  exact Hy hm (mh _ (bZ hj [])).1 hb (mh _ (bZ hj [])).2 _ k
 have Dp:∀j,j<os.length->cf (D j) (aV b)=0:=λj hj=>by
  have l1:=cP hm (mh _ (bZ hj [])).2 (aV b)
  have:=QO j hj (aV b)
  rw[jY h0,QN,kJ l1]at this
  exact r.cn (Dlt j hj _) l1 this
 have c55:∀j,j<os.length->(D j).length=h:=λj hj=>by
  rw[hD,kh,(mh _ (bZ hj [])).1,hb,pq]
 have HI:∀j,j<os.length->∀k,cf ((gz m b os).getD j []) k=cf (D j) (if k<aV b then k else k+1):=λj hj k=>by
  have e1:(gz m b os).getD j []=(D j).take (aV b)++(D j).drop (aV b+1):=by
   unfold gz
   rw[kK _ hj [] [],HH,hD]
  rw[e1]
  have lt:((D j).take (aV b)).length=aV b:=by rw[fJ,c55 j hj];omega
  unfold cf
  by_cases hk:k<aV b
  ·rw[if_pos hk,aJ,oX (by omega),V0 hk,<- aJ]
  ·rw[if_neg hk,aJ,m8 (by omega),lt,EB,show aV b+1+(k-aV b)=k+1 by omega,<- aJ]
 obtain⟨F,hF⟩:∃F,F=sm (gp m) os.length λj=>gm m (a j) (gm m (cf (os.getD j []) (aV b)) iv):=⟨_,rfl⟩
 have Flt:F<aa m:=by rw[hF];exact mV r λ_ _=>bC hm _ _
 have QP:∀k,(sm (gp m) os.length λj=>gm m (a j) (cf (os.getD j []) k))=gp m (sm (gp m) os.length λj=>gm m (a j) (cf (D j) k)) (gm m F (cf b k)):=λk=>by
  rw[cX (g:=λj=>gp m (gm m (a j) (cf (D j) k)) (gm m (cf b k) (gm m (a j) (gm m (cf (os.getD j []) (aV b)) iv)))) λj hj=>?_,ot r,qv r,<- hF,gW m (cf b k)]
  rw[<-QO j hj k,Hi h0]
  congr 1
  rw[<-jY h0,gW m _ (cf b k)]
 have c56:(∀k,sm (gp m) os.length (λj=>gm m (a j) (cf ((gz m b os).getD j []) k))=0)↔∀k,sm (gp m) os.length (λj=>gm m (a j) (cf (D j) k))=0:=by
  constructor
  ·intro h k
   by_cases e:k=aV b
   ·exact gx r λj hj=>by rw[e,Dp j hj,iB m _ h0]
   ·by_cases c:k<aV b
    ·rw[<-h k]
     exact cX λj hj=>by rw[HI j hj,if_pos c]
    ·rw[<-h (k-1)]
     exact cX λj hj=>by rw[HI j hj,if_neg (by omega),show k-1+1=k by omega]
  ·intro h k
   rw[cX λj hj=>by rw[HI j hj]]
   exact h _
 rw[c56]
 constructor
 ·intro h
  obtain⟨e,e1,e2⟩:=r.ng Flt
  refine⟨e,e1,λk=>?_⟩
  rw[QP k,h k,r.z (bC hm _ _),<- Cp h0,e2,eE m _ h0]
 ·rintro⟨e,e1,h⟩
  have key:∀k,gp m (sm (gp m) os.length λj=>gm m (a j) (cf (D j) k)) (gm m (gp m F e) (cf b k))=0:=λk=>by
   rw[Cp h0,<- Hh,<- QP k]
   exact h k
  have fe:gp m F e=0:=by
   have:=key (aV b)
   rw[gx r λj hj=>by rw[Dp j hj,iB m _ h0],r.z (bC hm _ _)]at this
   rcases(QJ hm (Hj hm Flt e1) QM).mp this with z | z
   ·exact z
   ·exact absurd z bp
  intro k
  have:=key k
  rw[fe,eE m _ h0,om (mV r λ_ _=>bC hm _ _)]at this
  exact this
theorem HJ(m:Bool × Nat)(b:List Nat)(os:List (List Nat)):(gz m b os).length=os.length:=by unfold gz;rw[aY]
theorem cy3(hm:m∈av){b:List Nat}{os:List (List Nat)}{h:Nat}(hb:b.length=h)(mh:RT (aa m) h os)(nb:nul b=false):RT (aa m) (h-1) (gz m b os):=λx hx=>by
 obtain⟨o,ho,rfl⟩:=aX.mp hx
 obtain⟨hp,_⟩:=HG nb
 obtain⟨l1,l2⟩:=mh o ho
 refine⟨by rw[cy,fJ,fA,kh,l1,hb];omega,λy hy=>?_⟩
 have:AllLt (aa m) (cU (λx y=>aS m x (gm m (gm m (o.getD (aV b) 0) (mW m (b.getD (aV b) 0))) y)) o b):=Hk λx hx y _=>(iW hm (l2 x hx) (bC hm _ y)).2.1
 rcases bP.mp hy with z | z
 ·exact this y (tX z)
 ·exact this y (pz z)
theorem Gs.next(hm:m∈av){s:Cs}(G:Gs m C w s){i:Nat}(hi:i<s.2.length)(nb:nul (s.2.getD i [])=false)(hC:∀j k,C j k<aa m):Gs m C w (gA m w (s,i)):=by
 have r:=rg hm
 have h0:=bS m hm
 have eD:=lo1 hm
 have hle:=G.le
 obtain⟨h,CP⟩:=G.rt
 obtain⟨bl,ba⟩:=CP _ (bZ hi [])
 have QQ:RT (aa m) h (s.2.drop (i+1)):=λx hx=>CP x (pz hx)
 have kl:(gA m w (s,i)).2.length=s.2.length-i-1:=by
  show(gz m _ _).length=_
  rw[HJ,fA]
  show s.2.length-(i+1)=_
  omega
 have dl:(s.2.drop (i+1)).length=s.2.length-i-1:=by rw[fA];omega
 have ko:w-(gA m w (s,i)).2.length=w-s.2.length+i+1:=by omega
 have dg:∀j,(s.2.drop (i+1)).getD j []=s.2.getD (i+1+j) []:=λj=>by rw[aJ,EB,<- aJ]
 refine⟨by omega,?_,λp hp=>?_,λj hj=>?_,⟨h-1,cy3 hm bl QQ nb⟩,λa ha=>?_,λc hc hz t ht=>?_⟩
 ·refine AK.mpr ⟨G.inc,Me _ _,λx hx y hy=>?_⟩
  rw[dR.mp hy]
  have:=G.off x hx
  show x<w-s.2.length+i
  omega
 ·rw[ko]
  rcases bP.mp hp with z | z
  ·have:=G.off p z;omega
  ·rw[dR.mp z];exact Ei _
 ·rw[ko]
  have:=hj (w-s.2.length+i) (dM _ (dR.mpr rfl))
  omega
 ·have e1:(∀k,sm (gp m) (gA m w (s,i)).2.length (λj=>gm m (a j) (cf ((gA m w (s,i)).2.getD j []) k))=0)↔∃e,e<aa m/\∀k,gp m (sm (gp m) (s.2.length-i-1) λj=>gm m (a j) (cf (s.2.getD (i+1+j) []) k)) (gm m e (cf (s.2.getD i []) k))=0:=by
   have:=cg5 hm bl ba QQ nb ha
   rw[dl]at this
   rw[kl]
   refine this.trans ?_
   constructor
   ·rintro⟨e,e1,e2⟩
    exact⟨e,e1,λk=>by rw[<-e2 k,cX λj _=>by rw[<-dg j]]⟩
   ·rintro⟨e,e1,e2⟩
    exact⟨e,e1,λk=>by rw[<-e2 k,cX λj _=>by rw[dg j]]⟩
  rw[e1]
  have al:∀e,e<aa m->∀j,(if j<i then 0 else if j=i then e else a (j-i-1))<aa m:=λe he j=>by
   split
   ·omega
   ·split
    ·exact he
    ·exact ha _
  have QR:∀(c:Nat->Nat) (e k:Nat),gp m (sm (gp m) s.2.length λj=>gm m (if j<i then 0 else if j=i then e else a (j-i-1)) (C (w-s.2.length+j) k)) (gB m C s.1 c k)=gp m (sm (gp m) (s.2.length-i-1) λj=>gm m (a j) (C (w-s.2.length+i+1+j) k)) (gp m (gB m C s.1 c k) (gm m e (C (w-s.2.length+i) k))):=λc e k=>by
   rw[qy hm hi a (λj=>C (w-s.2.length+j) k),Hh,jZ m (gm m e _)]
   congr 1
   exact cX λj _=>by rw[show w-s.2.length+(i+1+j)=w-s.2.length+i+1+j by omega]
  have ln:∀c k,gB m C (gA m w (s,i)).1 c k=gp m (gB m C s.1 c k) (gm m (c s.1.length) (C (w-s.2.length+i) k)):=λc k=>CO hm C s.1 _ c k
  constructor
  ·rintro⟨e,e1,e2⟩
   obtain⟨c,c1,c2⟩:=(G.rel _ (al e e1)).mp λk=>by
    rw[qy hm hi a (λj=>cf (s.2.getD j []) k)]
    exact e2 k
   refine⟨λt=>if t=s.1.length then e else c t,λt=>by
    show(if t=s.1.length then e else c t)<aa m
    split
    ·exact e1
    ·exact c1 t,λk=>?_⟩
   rw[ln,ko,kl,if_pos rfl,QK (c':=c) λt ht=>if_neg (eT ht),<- QR c e k]
   exact c2 k
  ·rintro⟨c,c1,c2⟩
   refine⟨c s.1.length,c1 _,λk=>?_⟩
   have:=(G.rel _ (al _ (c1 s.1.length))).mpr ⟨c,c1,λk=>by
    rw[QR c _ k]
    have:=c2 k
    rw[ln,ko,kl]at this
    exact this⟩ k
   rw[qy hm hi a (λj=>cf (s.2.getD j []) k)]at this
   exact this
 ·have ln:∀k,gp m (gB m C s.1 c k) (gm m (c s.1.length) (C (w-s.2.length+i) k))=0:=λk=>by
   rw[<-CO hm C s.1 _ c k]
   exact hz k
  have e0:c s.1.length=0:=by
   refine Aw λz=>?_
   have al:∀j,(if j<i then 0 else if j=i then c s.1.length else(λ_=>0) (j-i-1))<aa m:=λj=>by
    split
    ·omega
    ·split
     ·exact hc _
     ·show 0<_;omega
   have z0:∀(n:Nat) (X:Nat->Nat),sm (gp m) n (λj=>gm m ((λ_=>0) j) (X j))=0:=λn X=>gx r λ_ _=>eE m _ h0
   have:=(G.rel _ al).mpr ⟨c,hc,λk=>by
    rw[qy hm hi (λ_=>0) (λj=>C (w-s.2.length+j) k),z0,r.z (bC hm _ _),jZ]
    exact ln k⟩
   have nn:nul (s.2.getD i [])=true:=QL.mpr λk=>by
    have q:=this k
    rw[qy hm hi (λ_=>0) (λj=>cf (s.2.getD j []) k),z0,r.z (bC hm _ _)]at q
    rcases(QJ hm (hc _) (cP hm ba k)).mp q with y | y
    ·exact absurd y z
    ·exact y
   rw[nb]at nn;cases nn
  have hs:∀k,gB m C s.1 c k=0:=λk=>by
   have:=ln k
   rw[e0,eE m _ h0,om (ct9 hm C _ c k)]at this
   exact this
  have hl:(gA m w (s,i)).1.length=s.1.length+1:=by show(s.1++[_]).length=_;rw[cy];rfl
  by_cases ct:t<s.1.length
  ·exact G.ind c hc hs t ct
  ·rw[show t=s.1.length by omega];exact e0
theorem Gs.bound(hm:m∈av){s:Cs}(G:Gs m C w s){i:Nat}(hi:i<s.2.length)(hC:∀j k,C j k<aa m):nul (s.2.getD i [])=true↔∃c:Nat->Nat,(∀t,c t<aa m)/\c s.1.length=1/\∀k,gB m C (s.1++[w-s.2.length+i]) c k=0:=by
 have r:=rg hm
 have h0:=bS m hm
 have eD:=lo1 hm
 obtain⟨h,CP⟩:=G.rt
 obtain⟨bl,ba⟩:=CP _ (bZ hi [])
 have al:∀j,(if j<i then 0 else if j=i then 1 else(λ_=>0) (j-i-1))<aa m:=λj=>by
  split
  ·omega
  ·split
   ·omega
   ·show 0<_;omega
 have z0:∀(n:Nat) (X:Nat->Nat),sm (gp m) n (λj=>gm m ((λ_=>0) j) (X j))=0:=λn X=>gx r λ_ _=>eE m _ h0
 have e1:nul (s.2.getD i [])=true↔∀k,sm (gp m) s.2.length (λj=>gm m (if j<i then 0 else if j=i then 1 else(λ_=>0) (j-i-1)) (cf (s.2.getD j []) k))=0:=by
  rw[QL]
  refine forall_congr' λk=>?_
  rw[qy hm hi (λ_=>0) (λj=>cf (s.2.getD j []) k),z0,r.z (bC hm _ _),kI (cP hm ba k)]
 rw[e1,G.rel _ al]
 constructor
 ·rintro⟨c,c1,c2⟩
  refine⟨λt=>if t=s.1.length then 1 else c t,λt=>by
   show(if t=s.1.length then 1 else c t)<aa m
   split
   ·omega
   ·exact c1 t,if_pos rfl,λk=>?_⟩
  rw[CO hm,if_pos rfl,QK (c':=c) λt ht=>if_neg (eT ht),jZ,<- c2 k,qy hm hi (λ_=>0) (λj=>C (w-s.2.length+j) k),z0,r.z (bC hm _ _)]
 ·rintro⟨c,c1,c2,c3⟩
  refine⟨c,c1,λk=>?_⟩
  have:=c3 k
  rw[CO hm,c2]at this
  rw[qy hm hi (λ_=>0) (λj=>C (w-s.2.length+j) k),z0,r.z (bC hm _ _),jZ]
  exact this
end
end L3
namespace L3
open PySem L2 Mf
noncomputable def j8:List Nat->List Nat->Prop
 | a::as,b::bs=>a<b\/(a=b/\j8 as bs)
 | _,_=>False
theorem QS:∀l:List Nat,¬ j8 l l
 | [],h=>h
 | a::l,h=>h.elim (λz=>gC _ z) λz=>QS l z.2
theorem QT:∀a b:List Nat,j8 a b->¬ j8 b a
 | [],_,h,_=>h
 | _::_,[],h,_=>h
 | a::as,b::bs,h,h'=>by
  rcases h with h | ⟨rfl,h⟩
  ·rcases h' with h' | ⟨e,_⟩
   ·omega
   ·omega
  ·rcases h' with h' | ⟨_,h'⟩
   ·omega
   ·exact QT as bs h h'
theorem QU:∀(a b:List Nat) (x y:List Nat),a.length=b.length->j8 a b->j8 (a++x) (b++y)
 | [],_,_,_,_,h=>h.elim
 | _::_,[],_,_,_,h=>h.elim
 | a::as,b::bs,x,y,hl,h=>by
  rcases h with h | ⟨e,h⟩
  ·exact .inl h
  ·exact .inr ⟨e,QU as bs x y (by simpa using hl) h⟩
theorem QV:∀(a:List Nat) (x y:Nat),x<y->j8 (a++[x]) (a++[y])
 | [],_,_,h=>.inl h
 | _::as,x,y,h=>.inr ⟨rfl,QV as x y h⟩
noncomputable def jz(w:Nat)(S:List Nat):Prop:=S.Pairwise (· < ·)/\∀x∈S,x<w
theorem QW:∀(S:List Nat) (lo w:Nat),S.Pairwise (· < ·)->(∀x∈S,lo<=x/\x<w)->S.length<=w-lo
 | [],_,_,_,_=>kR _
 | a::S,lo,w,hp,h=>by
  rw[EK]at hp
  have ih:=QW S (a+1) w hp.2 λx hx=>⟨hp.1 x hx,(h x (fh _ hx)).2⟩
  have ha:=h a (gj ..)
  rw[gJ]
  omega
theorem jz.len{S:List Nat}{w:Nat}(h:jz w S):S.length<=w:=QW S 0 w h.1 λx hx=>⟨kR _,h.2 x hx⟩
theorem jz.take{S:List Nat}{w:Nat}(h:jz w S)(k:Nat):jz w (S.take k):=⟨h.1.sublist (List.take_sublist k S),λx hx=>h.2 x (tX hx)⟩
noncomputable def j9(w:Nat)(z:Cs × Nat):List Nat:=z.1.1++[w-z.1.2.length+z.2]
structure Lv(m:Bool × Nat)(C:Nat->Nat->Nat)(w k:Nat)(l:List Cs):Prop where
 gs:∀s∈l,Gs m C w s/\s.1.length=k
 all:∀S,jz w S->S.length=k->∃s∈l,s.1=S
 ord:(l.map (·.1)).Pairwise j8
theorem wB{l:List Cs}{z:Cs × Nat}:z∈dH l↔z.1∈l/\z.2<z.1.2.length:=by
 unfold dH
 rw[List.mem_flatMap]
 constructor
 ·rintro⟨s,hs,hz⟩
  obtain⟨i,hi,rfl⟩:=aX.mp hz
  exact⟨hs,bK.mp hi⟩
 ·rintro⟨h1,h2⟩
  exact⟨z.1,h1,aX.mpr ⟨z.2,bK.mpr h2,rfl⟩⟩
section
variable{m:Bool × Nat}{C:Nat->Nat->Nat}{w:Nat}
theorem HK{k:Nat}:∀{l:List Cs},(∀s∈l,s.1.length=k)->(l.map (·.1)).Pairwise j8->((dH l).map (j9 w)).Pairwise j8
 | [],_,_=>LC
 | s::l,hl,ho=>by
  rw[da,EK]at ho
  show(((fv s)++dH l).map (j9 w)).Pairwise j8
  rw[dS,AK]
  refine⟨?_,HK (λs hs=>hl s (fh _ hs)) ho.2,λa ha b hb=>?_⟩
  ·unfold fv
   rw[bW]
   refine EO.mpr (Wk.imp λ{a b} hab=>?_)
   exact QV s.1 _ _ (show w-s.2.length+a<w-s.2.length+b by omega)
  ·obtain⟨z,hz,rfl⟩:=aX.mp ha
   obtain⟨i,_,rfl⟩:=aX.mp hz
   obtain⟨y,hy,rfl⟩:=aX.mp hb
   obtain⟨h1,_⟩:=wB.mp hy
   exact QU _ _ _ _ (by rw[hl s (gj ..),hl _ (fh _ h1)]) (ho.1 _ (aX.mpr ⟨_,h1,rfl⟩))
theorem Lv.meets(L:Lv m C w k l){S:List Nat}(hS:jz w S)(hk:S.length=k+1):∃z∈dH l,j9 w z=S:=by
 have e:S=S.take k++[S.getD k 0]:=by
  have h1:S.drop k=[S.getD k 0]:=by
   rw[List.drop_eq_getElem_cons (by omega),List.drop_of_length_le (by omega),aJ,aQ (by omega)];rfl
  conv=>lhs;rw[<-ki k S,h1]
 obtain⟨s,hs,es⟩:=L.all _ (hS.take k) (by rw[fJ];omega)
 obtain⟨G,_⟩:=L.gs s hs
 have hj:∀p∈s.1,p<S.getD k 0:=λp hp=>by
  rw[es]at hp
  have:=hS.1
  rw[e,AK]at this
  exact this.2.2 p hp _ (dR.mpr rfl)
 have h1:=G.nx _ hj
 have h2:=hS.2 (S.getD k 0) (bZ (by omega) 0)
 have h3:=G.le
 refine⟨(s,S.getD k 0-(w-s.2.length)),wB.mpr ⟨hs,?_⟩,?_⟩
 ·show S.getD k 0-(w-s.2.length)<s.2.length
  omega
 ·show s.1++[w-s.2.length+(S.getD k 0-(w-s.2.length))]=S
  rw[show w-s.2.length+(S.getD k 0-(w-s.2.length))=S.getD k 0 by omega,es]
  exact e.symm
theorem Lv.next(hm:m∈av)(hC:∀j k,C j k<aa m)(L:Lv m C w k l)(hn:∀z∈dH l,oF z=false):Lv m C w (k+1) ((dH l).map (gA m w)) where
 gs:=λs hs=>by
  obtain⟨z,hz,rfl⟩:=aX.mp hs
  obtain⟨h1,h2⟩:=wB.mp hz
  obtain⟨G,hl⟩:=L.gs _ h1
  refine⟨G.next hm h2 (hn z hz) hC,?_⟩
  show(z.1.1++[_]).length=_
  rw[cy,hl];rfl
 all:=λS hS hk=>by
  obtain⟨z,hz,e⟩:=L.meets hS hk
  exact⟨gA m w z,aX.mpr ⟨z,hz,rfl⟩,e⟩
 ord:=by
  rw[bW]
  exact HK (λs hs=>(L.gs s hs).2) L.ord
theorem QX(hm:m∈av)(hC:∀j k,C j k<aa m):∀(f k:Nat) (l:List Cs),Lv m C w k l->w+1<=f+k ->
  match tu m w f l with
  | none=>∀S,jz w S->k<=S.length->wA m C S
  | some F=>jz w F/\k<F.length/\(∃c:Nat->Nat,(∀t,c t<aa m)/\c (F.length-1)=1/\∀j,gB m C F c j=0)/\∀S,jz w S->k<=S.length->S.length<F.length\/(S.length=F.length/\j8 S F)->wA m C S
 | 0,k,l,L,hf=>λS hS hk=>absurd hS.len (by omega)
 | f+1,k,l,L,hf=>by
  have here:∀S,jz w S->S.length=k->wA m C S:=λS hS hk=>by
   obtain⟨s,hs,rfl⟩:=L.all S hS hk
   exact(L.gs s hs).1.ind
  rw[tu]
  by_cases l0:l=[]
  ·rw[if_pos l0]
   subst l0
   intro S hS hk
   obtain⟨s,hs,_⟩:=L.all (S.take k) (hS.take k) (by rw[fJ];omega)
   cases hs
  ·rw[if_neg l0]
   cases e:(dH l).find? oF with
   | some z =>
    obtain⟨hz,as,bs,eL,qA⟩:=Wl.mp e
    obtain⟨h1,h2⟩:=wB.mp (LS e)
    obtain⟨G,hl⟩:=L.gs _ h1
    have hle:=G.le
    have fl:(j9 w z).length=k+1:=by show(z.1.1++[_]).length=_;rw[cy,hl];rfl
    refine⟨⟨?_,λx hx=>?_⟩,by show k<(j9 w z).length;omega,?_,λS hS hk hc=>?_⟩
    ·refine AK.mpr ⟨G.inc,Me _ _,λx hx y hy=>?_⟩
     rw[dR.mp hy]
     have:=G.off x hx
     omega
    ·rcases bP.mp hx with q | q
     ·have:=G.off x q;omega
     ·rw[dR.mp q];omega
    ·obtain⟨c,c1,c2,c3⟩:=(G.bound hm h2 hC).mp hz
     refine⟨c,c1,?_,c3⟩
     show c ((j9 w z).length-1)=1
     rw[fl,Nat.add_sub_cancel,<- hl]
     exact c2
    ·by_cases ck:S.length=k
     ·exact here S hS ck
     have cl:S.length=k+1/\j8 S (j9 w z):=by
      rcases hc with q | ⟨q1,q2⟩
      ·exact absurd (show S.length<(j9 w z).length from q) (by omega)
      ·exact⟨(show S.length=(j9 w z).length from q1).trans fl,q2⟩
     obtain⟨y,hy,ey⟩:=L.meets hS cl.1
     obtain⟨y1,y2⟩:=wB.mp hy
     obtain⟨Gy,_⟩:=L.gs _ y1
     cases ny:oF y with
     | false =>
      have:=(Gy.next hm y2 ny hC).ind
      rwa [show(gA m w (y.1,y.2)).1=S from ey]at this
     | true =>
      exfalso
      have od:=HK (w:=w) (λs hs=>(L.gs s hs).2) L.ord
      rw[eL]at hy od
      rw[dS,da,AK]at od
      have od2:=(EK.mp od.2.1).1
      rcases bP.mp hy with q | q
      ·have:=qA y q
       rw[ny]at this;simp at this
      ·rcases cL.mp q with q | q
       ·rw[q]at ey
        rw[<-ey]at cl
        exact QS _ cl.2
       ·have:=od2 _ (aX.mpr ⟨y,q,rfl⟩)
        rw[ey]at this
        exact QT _ _ this cl.2
   | none =>
    have hn:∀z∈dH l,oF z=false:=λz hz=>by
     have:=Mb.mp e z hz
     simpa using this
    have ih:=QX hm hC f (k+1) _ (L.next hm hC hn) (by omega)
    dsimp only
    split
    ·rename_i e2
     rw[e2]at ih
     intro S hS hk
     by_cases ck:S.length=k
     ·exact here S hS ck
     ·exact ih S hS (by omega)
    ·rename_i F e2
     rw[e2]at ih
     obtain⟨i1,i2,i3,i4⟩:=ih
     refine⟨i1,by omega,i3,λS hS hk hc=>?_⟩
     by_cases ck:S.length=k
     ·exact here S hS ck
     ·exact i4 S hS (by omega) hc
end
end L3
namespace L3
open PySem L2 Mf
noncomputable def ka(T:List (List Nat))(j k:Nat):Nat:=cf (T.getD k []) j
theorem QY{m:Bool × Nat}(hm:m∈av){w:Nat}{T:List (List Nat)}(hT:RT (aa m) w T)(j k:Nat):ka T j k<aa m:=by
 unfold ka
 by_cases hk:k<T.length
 ·exact cP hm (hT _ (bZ hk [])).2 j
 ·have e:T.getD k []=[]:=by rw[aJ,fY (by omega)];rfl
  rw[e]
  have:=lo1 hm
  show 0<_
  omega
theorem Lv.start{m:Bool × Nat}(hm:m∈av){T:List (List Nat)}(hw:0<ag T)(hT:RT (aa m) (ag T) T):Lv m (ka T) (ag T) 0 [([],ft T)]:=by
 have r:=rg hm
 obtain⟨t1,t2,t3⟩:=HA (Nat.lt_trans Nat.zero_lt_one (lo1 hm)) hw hT
 refine⟨λs hs=>?_,λS _ h=>⟨_,dR.mpr rfl,(Wm.mp h).symm⟩,Me _ _⟩
 rw[dR.mp hs]
 refine⟨⟨xi t1,LC,λp hp=>absurd hp (i5),λj _=>by show ag T-(ft T).length<=j;omega,⟨_,t3⟩,λa ha=>?_,λc _ _ t ht=>absurd ht (by show ¬ t<0;omega)⟩,rfl⟩
 have e:∀k,sm (gp m) (ft T).length (λi=>gm m (a i) (cf ((ft T).getD i []) k))=sm (gp m) (ft T).length λi=>gm m (a i) (ka T (ag T-(ft T).length+i) k):=λk=>cX λi hi=>by
  rw[QF (by omega),QC,show ag T-(ft T).length+i=i by omega];rfl
 have z:∀c k,gB m (ka T) [] c k=0:=λ_ _=>rfl
 constructor
 ·intro h
  refine⟨λ_=>0,λ_=>by have:=lo1 hm;show 0<_;omega,λk=>?_⟩
  rw[z,om (mV r λ_ _=>bC hm _ _),<- e k]
  exact h k
 ·rintro⟨c,_,h⟩ k
  have:=h k
  rw[z,om (mV r λ_ _=>bC hm _ _),<- e k]at this
  exact this
noncomputable def oG(m:Bool × Nat)(T:List (List Nat)):Option (List Nat):=tu m (ag T) (ag T+1) [([],ft T)]
section
variable{m:Bool × Nat}{C:Nat->Nat->Nat}
end
noncomputable def wC(T:List (List Nat))(F:List Nat):List (List Nat):=T.map λr=>F.map λj=>r.getD j 0
theorem cx7{N w:Nat}{T:List (List Nat)}{F:List Nat}(h0:0<N)(hT:RT N w T):RT N F.length (wC T F)/\(wC T F).length=T.length:=by
 refine⟨λx hx=>?_,by unfold wC;rw[aY]⟩
 obtain⟨r,hr,rfl⟩:=aX.mp hx
 refine⟨by rw[aY],λy hy=>?_⟩
 obtain⟨j,_,rfl⟩:=aX.mp hy
 exact(hT r hr).2.getD h0 j
theorem cv0{T:List (List Nat)}{F:List Nat}{k t:Nat}(hk:k<T.length)(ht:t<F.length):cf ((wC T F).getD k []) t=ka T (F.getD t 0) k:=by
 unfold wC ka cf
 rw[kK _ hk [] [],kK _ ht 0 0]
theorem cu0(m:Bool × Nat){T:List (List Nat)}{F:List Nat}{k:Nat}(hk:k<T.length)(x:Nat->Nat):dt m F.length (cf ((wC T F).getD k [])) x=gB m (ka T) F x k:=by
 unfold dt gB
 exact cX λt ht=>by rw[cv0 hk ht,gW]
theorem b77{o:Bool}{G:List (List Nat)}{i:Nat}{d:D}(hd:(aw o G)[i]?=some d):∃hi:i<G.length,d=.lst o (au G[i]):=by
 unfold aw at hd
 rw[cB]at hd
 by_cases hi:i<G.length
 ·rw[aQ hi]at hd
  exact⟨hi,(cT hd).symm⟩
 ·rw[fY (by omega)]at hd;cases hd
end L3
namespace L3
open PySem L2 PySem.Spec PyProof.Rows
section
variable{B:Bs}{F H:Hp}{σ:L2.St}{δ:Dl}{ts:List (D × V)}
end
section
variable{X:Cx}{a:Expr}{ta:aI}{pos p2:Pos}{tk:Nat}
end
end L3
namespace L3
open PySem L2 PySem.Spec PyProof.Rows
section
variable{X:Cx}{a b:Expr}{ta tb:aI}{elts:List Expr}{x1:Nat}{ly p pos:Pos}
end
end L3
namespace L3
open PySem L2 Mf
section
variable{m:Bool × Nat}
theorem cm4(hm:m∈av){T:List (List Nat)}(hw:0<ag T)(hT:RT (aa m) (ag T) T)(h:oG m T=none):∀S,jz (ag T) S->wA m (ka T) S:=by
 have:=QX hm (QY hm hT) (ag T+1) 0 _ (Lv.start hm hw hT) (by omega)
 unfold oG at h
 rw[h]at this
 exact λS hS=>this S hS (kR _)
theorem bL3{n W:Nat}(h:n<=W):jz W (aM n):=⟨Wk,λx hx=>by have:=bK.mp hx;omega⟩
theorem bH5(hm:m∈av){W:Nat}{T:List (List Nat)}(hT:RT (aa m) W T){F:List Nat}(hF:T.length<F.length):¬ wA m (ka T) F:=λI=>by
 have eD:=lo1 hm
 obtain⟨p1,p2⟩:=cx7 (F:=F) (by omega) hT
 obtain⟨x,f,hf,hx,x1,hz⟩:=QI hm p1 (by omega)
 have:=I x hx (λk=>by
  by_cases hk:k<T.length
  ·rw[<-cu0 m hk];exact hz k (by omega)
  ·refine gx (rg hm) λt _=>?_
   have e:ka T (F.getD t 0) k=0:=by
    unfold ka
    rw[show T.getD k []=[] by rw[aJ,fY (by omega)];rfl];rfl
   rw[e,iB m _ (bS m hm)]) f hf
 omega
end
end L3
namespace L2
open PySem PySem.Spec PyProof.Rows
section
variable{X:Cx}
theorem bX9:xR X "list.count" (λx xs H Q=>∃(p:Addr) (ns:List Int) (k:Int),x=.ref p/\xs=[.int k]/\bF X.K H p (ns.map V.int)/\Q (.int (ns.count k:Nat)) H):=by
 intro pins s σ H x xs v us Q I rx r h
 obtain⟨p,ns,k,rfl,rfl,hS,q⟩:=h
 cases rx
 obtain⟨u,rfl,ru⟩:=r.one
 obtain⟨t,rfl⟩:=ru
 obtain⟨its,rv,pl,hz⟩:=I.list hS
 exact count_list_ints pl.isList (Yt rv) ⟨.int _,H,I.tok _,⟨_,rfl⟩,q⟩
end
end L2
namespace L3
open PySem L2 PySem.Spec PyProof.Rows
section
variable{X:Cx}{o e:Expr}{t tb:aI}{apos bE:Pos}
noncomputable def wD(t tb:aI):aI:=λδ Q=>t δ λd ai=>∃(o:Bool) (ns:List Int),d=.lst o (aF ns)/\tb ai λb aR=>∃k,b=.int k/\Q (.int (ns.count k:Nat)) aR
theorem cj0(ho:PE X o (lB t))(he:PE X e (lB tb))(jP:attributeBase o "count" X.env (eval o X.env)=eval o X.env:=by rfl)
  (rz:((backTo bE (starEach [e] X.env)).all (λx=>!x.1)&&(backToKw bE (keywordEach [] X.env)).all (λx=>x.1.isSome)
   && decide ([e].length+([]:List Keyword).length+(if([]:List Keyword).isEmpty then 0 else 1)<30))=true:=by rfl)
  (jQ:(apos.endLine==bE.line)=true:=by rfl) (hs:starEach [e] X.env=(false,eval e X.env)::starEach [] X.env:=by rfl) (rA:(backTo bE (starEach [] X.env)).any (·.1)=false:=by rfl) :
  PE X (.Call (.Attribute o "count" apos) [e] [] bE) (lE (wD t tb)) :=
 dq (Fs PySem.F.plainAttrs_list PySem.F.slot_list_count PySem.F.type_list_count bX9 ho (b8 he eX hs) jP rz jQ hs rA) λσ H Q zq=>by
 obtain⟨B,F,δ,ts,Qd,c,q,k⟩:=zq
 exact⟨B,F,δ,ts,_,c,q,λd ai v F1 H1 q1 f1 h1 c1 s1=>by
  obtain⟨o,ns,rfl,q1⟩:=q1
  obtain⟨p,ws,rfl,h,t⟩:=mP s1 c1.ext rfl
  rw[GV t]at h
  exact⟨.inl ⟨rfl,_,kF h⟩,B,F1,ai,ts,_,c1,q1,λb aR w F2 H2 q2 f2 h2 c2 s2=>by
   obtain⟨n,rfl,q3⟩:=q2
   cases s2
   exact⟨p,ns,n,rfl,rfl,kF (h.elim (λz=>.inl (h2 _ _ z)) λ⟨o,z⟩=>.inr ⟨o,h2 _ _ z⟩),k _ aR _ F2 H2 q3 (f1.trans f2) (h1.trans h2) (c2.pushS (.int .nil) rfl)⟩⟩⟩
end
section
variable{X:Cx}{i:Nat}{x:Str}{p pos apos bE cT0 zG:Pos}{a b:List Stmt}{t u:cF}{k:Int}{j}
end
end L3
namespace L3
open PySem L2 Mf
section
variable{N:Nat}{p q:Nat->Nat->Nat}
theorem Rg.dr(r:Rg N p q)(a b c:Nat):q (p a b) c=p (q a c) (q b c):=by rw[r.mc,r.dl,r.mc c,r.mc c]
variable{ng:Nat->Nat}{c:Nat}
end
section
variable{m:Bool × Nat}
theorem oH(hm:m∈av){s:Nat}(hs:s<aa m):aS m 0 s<aa m/\gp m (aS m 0 s) s=0:=by
 have:=iW hm (a:=0) (b:=s) (by omega) hs
 exact⟨this.2.1,this.2.2⟩
end
end L3
namespace L2
open PySem PySem.Spec PyProof.Rows
section
variable{prog:Program}{w:World}{A:Around}{E:Value->Shared->Prop}{s:Shared}
end
section
variable{X:Cx}{e:Expr}{ta:TA}{p p2 pos zG:Pos}
end
end L2
namespace L3
open PySem L2 PySem.Spec PyProof.Rows
section
variable{X:Cx}{e:Expr}{tr:cE}{p p2 pos zG:Pos}
end
end L3
namespace L3
open PySem L2 Mf
section
variable{m:Bool × Nat}
theorem cn2(hm:m∈av){a x:Nat}(ha:a<aa m)(hx:x<aa m):aS m a (aS m a x)=x:=by
 have g:=iW hm ha hx
 have k:=iW hm ha g.2.1
 refine(rg hm).Hm k.2.1 hx g.2.1 (k.2.2.trans ?_)
 rw[jZ]
 exact g.2.2.symm
section
variable{b e L o:Nat}{y:List (Option Nat)}{w c:List Nat}{bb:Nat->Nat}
end
end
end L3
namespace L3
open PySem L2 Mf
section
variable{m:Bool × Nat}
theorem QZ:∀{l l':List Nat},l.Nodup->(∀a∈l,a∈l')->l.length<=l'.length
 | [],_,_,_=>kR _
 | a::l,l',nd,h=>by
  obtain⟨n1,n2⟩:=kS.mp nd
  have ha:=h a gj
  have:=QZ (l:=l) (l':=l'.erase a) n2 λb hb=>(List.mem_erase_of_ne (λz:b=a=>n1 (z ▸ hb))).mpr (h b (fh _ hb))
  rw[List.length_erase_of_mem ha]at this
  have:=List.length_pos_of_mem ha
  rw[gJ]
  omega
end
end L3
namespace L3
open PySem L2 Mf
section
variable{m:Bool × Nat}
end
end L3
namespace L3
open PySem L2 Mf
section
variable{m:Bool × Nat}
end
end L3
namespace L3
open PySem L2 Mf
section
variable{m:Bool × Nat}
end
end L3
namespace L3
open PySem L2 PySem.Spec PyProof.Rows
section
variable{X:Cx}{e:Expr}{t:aI}
noncomputable def wF(t:aI):aI:=λδ Q=>t δ λd ah=>Q d.sh ah
theorem HL(h:PE X e (lE t)):PE X e (lB (wF t)):=dq h λσ H Q zq=>by
 obtain⟨B,F,δ,ts,Qd,c,q,k⟩:=zq
 exact⟨B,F,δ,ts,_,c,q,λd ah v F' H' hd sf sh c'=>by
 obtain⟨F2,f2,c2⟩:=c'.FY
 exact k d.sh ah v F2 H' hd (sf.trans f2) sh c2.pop c2.top⟩
end
end L3
namespace L3
open PySem L2 Mf
section
variable{m:Bool × Nat}
theorem HM(hm:m∈av){T:List (List Nat)}(hT:RT (aa m) (ag T) T):RT (aa m) (ag T) (iX m (bU m T) (ag T))/\(iX m (bU m T) (ag T)).length<=ag T:=by
 obtain⟨⟨Hd,I⟩,iR,_,_⟩:=kL hm hT
 refine⟨λr hr=>?_,?_⟩
 ·obtain⟨f,hf,rfl⟩:=aX.mp hr
  obtain⟨k1,k2,_⟩:=tf hm iR I hf
  exact⟨k1,k2⟩
 ·unfold iX cI
  rw[aY]
  exact dy (Wn ..) (by rw[cq];exact bD _)
theorem cv7(hm:m∈av){T:List (List Nat)}(hT:RT (aa m) (ag T) T):∀r∈bU m T,∃x∈r,x≠0:=λr bo=>by
 obtain⟨⟨Hd,I⟩,iR,_,_⟩:=kL hm hT
 obtain⟨j,hj,rfl⟩:=jI bo
 have:=(I.Hz hm iR hj).2
 rw[zF hj]at this
 exact this
theorem cm1(hm:m∈av){T:List (List Nat)}{xs:List Nat}(hT:RT (aa m) (ag T) T)(hx:xs.length=(iX m (bU m T) (ag T)).length):∀r∈T,gd m r (cY m xs (iX m (bU m T) (ag T)) (ag T))=0:=λr hr=>by
 have h0:=bS m hm
 obtain⟨⟨Hd,I⟩,iR,_,_⟩:=kL hm hT
 have s:bN m (bU m T) (cf r):=bN.red hm hT (bN.of hr)
 rw[l9 m ((hT r hr).1.trans (mf ..).symm),(hT r hr).1]
 rw[cX (g:=λj=>gm m (cf r j) (sm (gp m) (iX m (bU m T) (ag T)).length λi=>gm m (cf xs i) (cf ((iX m (bU m T) (ag T)).getD i []) j))) λj hj=>by rw[oE m hx hj]]
 have e:=HD hm (ag T) (cf r) (cf xs) (λi=>cf ((iX m (bU m T) (ag T)).getD i [])) (iX m (bU m T) (ag T)).length
 unfold dt at e
 rw[e]
 refine gx (rg hm) λi hi=>?_
 have z:=bZ hi []
 generalize (iX m (bU m T) (ag T)).getD i []=K at z
 obtain⟨f,hf,rfl⟩:=aX.mp z
 have:=bN.dt hm (R:=bU m T) (n:=ag T) (y:=cf (fC m (bU m T) (ag T) f)) (λi hi=>HE hm iR I hf hi) s
 unfold dt at this
 rw[this,iB m _ h0]
end
end L3
namespace L3
open PySem L2 Mf
section
variable{m:Bool × Nat}
end
end L3
namespace L2
open PySem PySem.Spec PyProof.Rows
section
variable{X:Cx}{CX:eY}{k:Nat}{f C:Addr}{fd:FuncData}{ps:List Str}{sp:Sp}{E:XK}{x m:Str}{p pos apos:Pos}{e:Expr}{es:List Expr}{t:TA}
noncomputable def tCM(sp:Sp)(E:XK)(t:TA):TE:=λσ H Q=>t σ H λvs H1=>sp vs H1 Q E
theorem Q0{pl:Sem Bool}(M:v9 X.K C m f)(F:aO X.prog X.w X.K X.mg X.base CX k f fd ps sp)(hr:bX k X.A)(hb:Binds X.K fd ps [])(hx:kz CX X E)(hg:Gl X x)(hm:X.mg x=some (.ref C))(ha:PA X (e::es) t)
  (dh:(x==("__debug__":Str))=false:=by decide) (cu:starEach (e::es) X.env=(false,eval e X.env)::starEach es X.env:=by rfl) (bw:(backTo pos (starEach es X.env)).any (·.1)=false:=by rfl)
  (ht:eval (.Call (.Attribute (.Name x p) m apos) (e::es) [] pos) X.env=(do
   let ov<-eval (.Name x p) X.env
   standAt apos.atName
   let (f,first)<-holding [ov] (getMethod ov m pl)
   callWith pos f first (backTo pos (starEach (e::es) X.env)) (backToKw pos (keywordEach [] X.env))):=by rfl) :
  PE X (.Call (.Attribute (.Name x p) m apos) (e::es) [] pos) (tCM sp E t):=by
 intro pins s σ H Q I h
 exact Pq (pl:=pl) I M hg hm ha h (λus s1 vs H1 I1 r q=>uv (fo:=[]) F hr hb .nil hx I1 r (by rw[eU];exact q)) dh cu bw ht
end
end L2
namespace L3
open PySem L2 PySem.Spec PyProof.Rows
end L3
namespace L3
open PySem L2 PySem.Spec PyProof.Rows
noncomputable def HN(tl:List Addr)(C:Addr)(jX:List D->List Str->List D->Prop):L2.Sp:=λvs H Q _=>∃F H0 x dx b9 ds ns xs,vs=.ref x::b9/\Tb tl H/\af F H0/\H0 x=none/\af H0 H/\H x=some (.ins C dx [])/\R F H0 ds b9 []/\jX ds ns xs /\
 ∀H' ws A,bR x H H'->H' x=some (.ins C dx (ns.zip ws))->ns.length=ws.length->R F H' xs ws A->A.Nodup->(∀a∈A,H a=none)->Q .aq H'
noncomputable def wH(C:Addr)(jX:List D->List Str->List D->Prop)(ta:cE):aI:=λδ Q=>ta δ λds ah=>ds.all D.pl=true/\∃ns xs,jX ds ns xs/\Q (.obj C ns (xs.map D.sh)) ah
theorem ak.c73{B:Bs}{F H H':Hp}{σ:L2.St}{δ:Dl}{ts:List (D × V)}{C dx x:Addr}{ns:List Str}{xs:List D}{ws:List V}{A:List Addr}(c:ak B F H σ δ ts)(hs:af H H')(hx:H' x=some (.ins C dx (ns.zip ws)))(hl:ns.length=ws.length)
  (r1:R F H' xs ws A) (fr:∀a∈A,H a=none):af F (L3.bu F H' A)/\ak B (L3.bu F H' A) H' σ δ ((.obj C ns (xs.map D.sh),.ref x)::ts):=by
 have c1:=c.grow hs
 have r2:=r1.bu c1.ext A (λ_ h=>h)
 have fs:af F (L3.bu F H' A):=js c1.ext
 obtain⟨A',C',r',s',nd,wb⟩:=c.own
 have out:∀a,(∃ws,H a=some (.lst ws))/\F a=none->L3.bu F H' A a=none:=λa zz=>by
  obtain⟨⟨ws,h⟩,hf⟩:=zz
  rw[rJ (λz=>by rw[fr a z]at h;cases h)];exact hf
 have g1:=r'.grow fs hs λa ha=>out a (r'.lists a ha)
 have g2:=s'.keep fs (gq.same hs) gP.nil (λa ha=>out a (s'.lists a ha)) (by simp)
 refine⟨fs,rH c1.ext,c1.b1,c1.b2.trans fs,λa ws h=>?_,A',C',?_,g2,nd,wb⟩
 ·by_cases z:a∈A
  ·exact .inr (c.b1.free (fr a z))
  ·rw[rJ z]at h;exact c.b3 a ws h
 ·exact R.obj hx hl r2 g1
section
variable{X:Cx}{CX:eY}{n:Nat}{f C:Addr}{fd:FuncData}{ps:List Str}{jX:List D->List Str->List D->Prop}{E:XK}{x:Str}{p pos:Pos}{e:Expr}{es:List Expr}{t:cE}{tl:List Addr}
theorem CQ(hT:Tb tl X.km)(M:L2.Mk X.K C f)(F:aO X.prog X.w X.K X.mg X.base CX n f fd ps (HN tl C jX))(hr:bX (n+1) X.A)(hg:Gl X x)(hm:X.mg x=some (.ref C))(hb:Binds X.K fd ps [])(hx:kz CX X E)
  (ha:PA X (e::es) (lA t)) (dh:(x==("__debug__":Str))=false:=by decide) (he:starEach (e::es) X.env=(false,eval e X.env)::starEach es X.env:=by rfl) (bw:(backTo pos (starEach es X.env)).any (·.1)=false:=by rfl) :
  PE X (.Call (.Name x p) (e::es) [] pos) (lE (wH C jX t)):=by
 intro pins s σ H Q I zz
 obtain⟨B,F',δ,ts,Qd,c,q,k⟩:=zz
 have tb:=GZ I hT
 refine MS M F hr hg hm hb .nil hx ha dh he bw pins s σ H Q I ⟨B,F',δ,ts,_,c,q,λds ai vs F1 H1 q1 f1 h1 c1 s1=>?_⟩
 intro x dx cV ff kC
 obtain⟨hp,ns,xs,hI,hq⟩:=q1
 have sm:af H1 (upd (upd H1 dx (.own x)) x (.ins C dx [])):=.of λb o e=>by rw[aU (eJ e cV),aU (eJ e ff)];exact e
 refine⟨F1,H1,x,dx,vs,ds,ns,xs,by rw[eU],zc (zc tb h1) sm,c1.ext,cV,sm,bH,s1.r hp,hI,λH' ws A zd dD hl r nd fr=>⟨rfl,?_⟩⟩
 have s2:af H1 H':=⟨λb o e n=>zd.get b o (eJ e cV) (sm.get b o e n) n,λb ps e=>by
  obtain⟨m1,e1⟩:=sm.tb b ps e
  obtain⟨m2,e2⟩:=zd.tb b _ e1
  exact⟨m1++m2,by rw[e2,tP]⟩⟩
 obtain⟨fs,c2⟩:=c1.c73 s2 dD hl r λa ha=>sm.free (fr a ha)
 exact k _ ai _ _ H' hq (f1.trans fs) (h1.trans s2) c2
end
section
variable{X:Cx}{e:Expr}{te:aI}{x:Str}{p pos:Pos}{i:Nat}
end
theorem bR.of0{x:Addr}{H0 H H':Hp}(h0:H0 x=none)(s:af H0 H)(sx:bR x H H'):af H0 H' :=
 ⟨λb o e n=>sx.get b o (λz=>by rw[z,h0]at e;cases e) (s.get b o e n) n,λb ps e=>by
  obtain⟨m1,e1⟩:=s.tb b ps e
  obtain⟨m2,e2⟩:=sx.tb b _ e1
  exact⟨m1++m2,by rw[e2,tP]⟩⟩
theorem zH{F H:Hp}{v:V}{A:List Addr}{xs:List D}(r:R F H [.lst true xs] [v] A):∃p,v=.ref p:=by
 cases r
 exact⟨_,rfl⟩
theorem Q1{F H F' H':Hp}:∀{l:List Int} {ws:List V} {A:List Addr},R F H (aF l) ws A->R F' H' (aF l) ws A
 | [],_,_,r=>by cases r;exact .nil
 | i::l,_,_,r=>by
  cases r with
  | int r=>exact .int (Q1 r)
theorem Q2{F H H':Hp}:∀{G:List (List Nat)} {ws:List V} {A:List Addr},R F H (aw true G) ws A->(∀a∈A,H' a=H a)->R F H' (aw true G) ws A
 | [],_,_,r,_=>by cases r;exact .nil
 | g::G,_,_,r,h=>by
  cases r with
  | own e f x y=>exact .own (by rw[h _ gj];exact e) f (Q1 (l:=g.map λ(n:Nat)=>(n:Int)) x) (Q2 y λa ha=>h a (fh _ (dM _ ha)))
theorem cl9{F H H':Hp}{G:List (List Nat)}{v:V}{A:List Addr}(r:R F H [.lst true (aw true G)] [v] A)(h:∀a∈A,H' a=H a):R F H' [.lst true (aw true G)] [v] A:=by
 cases r with
 | own e f x y =>
  cases y
  exact .own (by rw[h _ gj];exact e) f (Q2 x λa ha=>h a (fh _ (e7 _ ha))) .nil
noncomputable abbrev qB:List Str:=["field","length","check_rows","word_rows","message_places","size"]
structure c75(K:PySem.W.Frag)(C:Addr):Prop where
 cls:df K C
 field:bj K C "field"
 length:bj K C "length"
 c76:bj K C "check_rows"
 c77:bj K C "word_rows"
 Q3:bj K C "message_places"
 size:bj K C "size"
end L3
namespace L3
open PySem L2 Mf
section
variable{m:Bool × Nat}
noncomputable def kN(m:Bool × Nat)(n i:Nat):List Nat:=aK i 0++[1]++aK (n-2-i) 0++[aS m 0 1]
noncomputable def dJ(m:Bool × Nat)(n:Nat):List (List Nat):=(aM (n-1)).map (kN m n)
theorem qC{n i:Nat}(hi:i<n-1)(j:Nat):cf (kN m n i) j=if j=i then 1 else if j=n-1 then aS m 0 1 else 0:=by
 unfold kN cf
 rw[aJ]
 by_cases c1:j<i
 ·rw[if_neg (by omega),if_neg (by omega),dO,dO,oX (by rw[dA];exact c1),m9,if_pos c1];rfl
 ·by_cases c2:j=i
  ·rw[if_pos c2,dO,dO,m8 (by rw[dA];omega),dA,c2,xq];rfl
  ·rw[if_neg c2]
   by_cases c3:j<n-1
   ·rw[if_neg (by omega),oX (by simp only[cy,dA,kT];omega),m8 (by simp only[cy,dA,kT];omega),m9]
    split<;>rfl
   ·rw[m8 (by simp only[cy,dA,kT];omega)]
    simp only[cy,dA,kT]
    by_cases c4:j=n-1
    ·rw[if_pos c4,show j-(i+1+(n-2-i))=0 by omega];rfl
    ·rw[if_neg c4,fY (by rw[kT];omega)];rfl
theorem qD(hm:m∈av){n:Nat}(h2:2<=n):RT (aa m) n (dJ m n)/\(dJ m n).length=n-1/\ag (dJ m n)=n:=by
 have eD:=lo1 hm
 have g:=(iW hm (show 0<aa m by omega) (show 1<aa m by omega)).2.1
 have l:(dJ m n).length=n-1:=by unfold dJ;rw[aY,cq]
 have r:RT (aa m) n (dJ m n):=λx hx=>by
  obtain⟨i,hi,rfl⟩:=aX.mp hx
  have hi:=bK.mp hi
  unfold kN
  refine⟨by simp only[cy,dA,kT];omega,λa ha=>?_⟩
  simp only[bP,xm,dR]at ha
  rcases ha with ((⟨_,rfl⟩ | rfl) | ⟨_,rfl⟩) | rfl
  ·omega
  ·omega
  ·omega
  ·exact g
 exact⟨r,l,CM r λz=>by rw[z]at l;exact absurd l (by show ¬ (0=n-1);omega)⟩
theorem Q4{n i:Nat}(hi:i<n-1):(dJ m n).getD i []=kN m n i:=by
 unfold dJ
 rw[aJ,cB,jJ hi];rfl
theorem Q5(hm:m∈av){n:Nat}(h2:2<=n):RR n (dJ m n) λi=>i:=by
 obtain⟨_,l,_⟩:=qD hm h2
 refine⟨λi j hi hj=>?_,λi hi t ht=>?_,λi j h _=>h,λi hi=>by omega⟩
 ·rw[Q4 (by omega),qC (by omega)]
  by_cases c:j=i
  ·rw[if_pos c,if_pos c.symm]
  ·rw[if_neg c,if_neg (by omega),if_neg λz=>c z.symm]
 ·rw[Q4 (by omega),qC (by omega),if_neg (by omega),if_neg (by omega)]
theorem ck5(hm:m∈av){n:Nat}(h2:2<=n):bU m (dJ m n)=dJ m n:=by
 obtain⟨r,l,w⟩:=qD hm h2
 exact cs4 hm (by rw[w];exact r) (by rw[w];exact r) (by rw[w];exact Q5 hm h2) (λx hx=>bN.of hx) λx hx=>bN.of hx
theorem b38(hm:m∈av){n:Nat}(h2:2<=n):cI (dJ m n) n=[n-1]:=by
 obtain⟨r,l,w⟩:=qD hm h2
 have I:=Q5 hm h2
 have mem:=I.free hm r
 unfold cI at mem ⊢
 rw[show aM n=aM (n-1)++[n-1] by rw[<-ub,show(n-1).succ=n by omega]]at mem ⊢
 rw[Wa,List.filter_eq_nil_iff.mpr λj hj z=>?_,pd,List.filter_cons_of_pos ?_,List.filter_nil]
 ·have q:=(mem (n-1)).mpr ⟨by omega,λi hi=>by omega⟩
  exact(m5.mp q).2
 ·have:=(mem j).mp (m5.mpr ⟨e7 _ hj,z⟩)
  have hj:=bK.mp hj
  exact this.2 j (by omega) rfl
theorem cL0(hm:m∈av){x:Nat}(hx:x<aa m):aS m 0 (aS m 0 x)=x:=cn2 hm (by have:=lo1 hm;omega) hx
theorem b40(hm:m∈av){n s:Nat}(h2:2<=n)(hs:s<aa m):∀r∈dJ m n,gd m r (aK n s)=0:=λr hr=>by
 have g:=rg hm
 have h0:=bS m hm
 have eD:=lo1 hm
 obtain⟨rt,l,w⟩:=qD hm h2
 obtain⟨i,hi,rfl⟩:=aX.mp hr
 have hi:=bK.mp hi
 have lr:=(rt _ hr).1
 rw[l9 m (by rw[lr,dA]),lr,HC g (f:=λj=>gm m (cf (kN m n i) j) (cf (aK n s) j)) (a:=i) (b:=n-1) (by omega) (by omega) (by omega) (bC hm _ _) (bC hm _ _) λj hj c1 c2=>by rw[qC hi,if_neg c1,if_neg c2,eE m _ h0]]
 have e:∀j,j<n->cf (aK n s) j=s:=λj hj=>by unfold cf;rw[aJ,m9,if_pos hj];rfl
 rw[qC hi,if_pos rfl,qC hi,if_neg (by omega),if_pos rfl,e i (by omega),e (n-1) (by omega),<- Cp h0,jZ,(iW hm (show 0<aa m by omega) (show 1<aa m by omega)).2.2,eE m _ h0]
end
end L3
namespace L2
open PySem PySem.Spec PyProof.Rows
section
variable{P:Program}{w:World}{K:PySem.W.Frag}{mg:Str->Option Value}{base:Heap}
end
end L2
namespace L3
open PySem L2 Mf
inductive Kd
 | CS (b:Nat) | rep | rts (e f:Nat)
structure zI(pre:List (Str × V)):Prop where
 put:∀(n:Str) (v:V) (l:List (Str × V)),n∈qB->bM n v (pre++l)=pre++bM n v l
 look:∀(n:Str) (l:List (Str × V)),n∈qB->(pre++l).lookup n=l.lookup n
 len:pre.length<=2
theorem zI.nil:zI []:=⟨λ_ _ _ _=>rfl,λ_ _ _=>rfl,by decide⟩
theorem zI.lt{pre l:List (Str × V)}(h:zI pre)(hl:l.length<=6):(pre++l).length<1000:=by
 have:=h.len
 rw[cy];omega
section
variable{m:Bool × Nat}{G:List (List Nat)}
noncomputable def bx(m:Bool × Nat)(G:List (List Nat)):List (List Nat):=iX m (bU m G) (ag G)
noncomputable def bJ(m:Bool × Nat)(G:List (List Nat)):List Nat:=cI (bU m G) (ag G)
noncomputable def oI(cb cp:Addr)(o:Bool)(m:Bool × Nat)(G:List (List Nat)):List D:=[fD cb cp m,.int (ag G:Nat),.lst o (aw o G),.lst o (aw o (bx m G)),.lst o (au (bJ m G)),.int ((bJ m G).length:Nat)]
noncomputable def uH(cb cp cc cr cs:Addr)(m:Bool × Nat)(G:List (List Nat)):Kd->D
 | .CS b=>.obj cc ["field","length","check_rows","word_rows","message_places","size","bound"] (oI cb cp false m G++[.int (b:Nat)])
 | .rep=>.obj cr qB (oI cb cp false m G)
 | .rts e f=>.obj cs ["extra","first","field","length","check_rows","word_rows","message_places","size"] ([.int (e:Nat),.int (f:Nat)]++oI cb cp false m G)
theorem CT(cb cp:Addr)(o:Bool)(m:Bool × Nat)(G:List (List Nat)):(oI cb cp o m G).map D.sh=oI cb cp false m G:=by
 unfold oI
 simp only[da,kg,P6,eN,eP,qj,<- du,qf]
theorem zJ(cb cp cc cr cs:Addr)(m:Bool × Nat)(G:List (List Nat))(k:Kd):(uH cb cp cc cr cs m G k).sh=uH cb cp cc cr cs m G k:=by cases k<;>rfl
theorem HP(cb cp cc cr cs:Addr)(m:Bool × Nat)(G:List (List Nat))(k:Kd):(uH cb cp cc cr cs m G k).pl=true:=by cases k<;>rfl
structure cZ(m:Bool × Nat)(G:List (List Nat)):Prop where
 hm:m∈av
 rt:RT (aa m) (ag G) G
 len:G.length<=64
 HQ:ag G<=64
 sz:0<(bJ m G).length
theorem cZ.red(h:cZ m G):(∃H,RR (ag G) (bU m G) H)/\RT (aa m) (ag G) (bU m G):=⟨(kL h.hm h.rt).1,(kL h.hm h.rt).2.1⟩
theorem iD(m:Bool × Nat)(G:List (List Nat)):(bx m G).length=(bJ m G).length:=by unfold bx bJ iX;rw[aY]
theorem HR{j:Nat}(hj:j<(bJ m G).length):(bx m G).getD j []=fC m (bU m G) (ag G) ((bJ m G).getD j 0):=kK (fC m (bU m G) (ag G)) hj 0 []
theorem CU{j:Nat}(hj:j<(bJ m G).length):(bJ m G).getD j 0∈cI (bU m G) (ag G):=by
 rw[aJ,aQ hj];exact eB hj
theorem Q6(m:Bool × Nat)(G:List (List Nat)):(bJ m G).Nodup:=Md _ xt
theorem cz6{j:Nat}(hj:j∈bJ m G):j<ag G:=bK.mp (m5.mp hj).1
theorem cZ.rows(h:cZ m G):RT (aa m) (ag G) (bx m G):=(HM h.hm h.rt).1
theorem cZ.wz(h:cZ m G):(bJ m G).length<=ag G:=by rw[<-iD];exact(HM h.hm h.rt).2
noncomputable def iE(m:Bool × Nat)(G:List (List Nat))(l:List Nat):List Nat:=cY m l (bx m G) (ag G)
theorem oJ(m:Bool × Nat)(G:List (List Nat))(l:List Nat):(iE m G l).length=ag G:=mf ..
theorem cZ.wlt(h:cZ m G){l:List Nat}(hl:l.length=(bJ m G).length):AllLt (aa m) (iE m G l):=CK h.hm _ (by rw[iD];exact hl)
theorem cZ.word(h:cZ m G){l:List Nat}(hl:l.length=(bJ m G).length):∀r∈G,gd m r (iE m G l)=0:=cm1 h.hm h.rt (by rw[hl,<- iD];rfl)
theorem cZ.at(h:cZ m G){l:List Nat}(hl:l.length=(bJ m G).length)(al:AllLt (aa m) l){j:Nat}(hj:j<(bJ m G).length):cf (iE m G l) ((bJ m G).getD j 0)=cf l j:=by
 have hm:=h.hm
 have g:=rg hm
 obtain⟨⟨H,I⟩,hR⟩:=h.red
 have fr:=λ{k:Nat} (hk:k<(bJ m G).length)=>(I.free hm hR _).mp (CU hk)
 unfold iE
 rw[oE m (by rw[iD];exact hl) (fr hj).1,iD]
 have k1:∀i,i<(bJ m G).length->cf ((bx m G).getD i []) ((bJ m G).getD j 0)=if i=j then 1 else 0:=λi hi=>by
  rw[HR hi]
  obtain⟨_,_,a,_,b⟩:=tf hm hR I (CU hi)
  by_cases c:i=j
  ·rw[if_pos c,<- c];exact a
  ·rw[if_neg c]
   refine b _ (λz=>c ?_) (fr hj).2
   rw[aJ,aJ,aQ hi,aQ hj]at z
   exact((Eh (Q6 m G)).mp z).symm
 rw[kM g (f:=λi=>gm m (cf l i) (cf ((bx m G).getD i []) ((bJ m G).getD j 0))) (j0:=j) (bC hm _ _) hj λi hi c=>by rw[k1 i hi,if_neg c,gW m _ 0,eE m _ (bS m hm)],k1 j hj,if_pos rfl,kJ (cP hm al j)]
end
end L3
namespace L3
open PySem L2 PySem.Spec PyProof.Rows
section
variable{X:Cx}{scope:Scope}{tg iter elt:Expr}{ifs:List Expr}{pos:Pos}{cl:List (Str × Addr)}{ti:jt}{g:iq}{tt:fP}{te:aI}
end
theorem ak.self{F H:Hp}{σ:L2.St}{δ:Dl}{o:Option V}(e:af F H)(r:RS F H δ σ []):ak ⟨H,F⟩ F H (o::σ) (none::δ) []:=⟨e,af.refl _,af.refl _,λ_ _ q=>.inl q,[],[],.nil,.aq r,by simp,by simp⟩
end L3
namespace L2
open PySem
theorem bt{N P:List Str}{sc:Scope}(a:sc.kind=.function:=by rfl)(b:sc.isCoroutine=false:=by rfl)(c:sc.isGenerator=false:=by rfl)(d:N.Nodup:=by decide +kernel)(e:N.take P.length=P:=by rfl)(f:∀x∈P,sc.names.lookup x=some .local\/sc.names.lookup x=some .cell:=by decide +kernel)(g:∀y∈sc.names,y.2≠.free:=by decide +kernel):bf N P sc:=⟨a,b,c,d,e,f,g⟩
end L2
namespace L2
open PySem
end L2
namespace L3
open PySem L2 PySem.Spec PyProof.Rows
theorem fg{X:Cx}{m i:Nat}{x:Str}{pos:Pos}(hN:X.N.Nodup)(hi:X.N[i]?=some x:=by rfl)(hx:Loc X.env.scope x:=by first | exact ax (lookup_relabel_local rfl) | exact bV rfl | exact ax rfl)(hm:m<=i:=by decide)
  (hf:X.fn x=true\/X.env.scope.names.lookup x=some .local:=by first | exact .inr (lookup_relabel_local rfl) | exact .inl rfl | exact .inr rfl):PG X (.Name x pos) (lG m (gN i)):=ir hN hi hx hm hf
theorem zK{X:Cx}{m i1 i2:Nat}{y1 y2:Str}{t1 t2 tp:Pos}{tk:Nat}(BZ:X.N.Nodup)(hc:X.calm=true:=by rfl)(m1:X.N[i1]?=some y1:=by rfl)(l1:Loc X.env.scope y1:=by first | exact ax (lookup_relabel_local rfl) | exact bV rfl)(m2:X.N[i2]?=some y2:=by rfl)(l2:Loc X.env.scope y2:=by first | exact ax (lookup_relabel_local rfl) | exact bV rfl)(O5:m<=i1:=by decide)(qa:m<=i2:=by decide)
  (f1:X.fn y1=true\/X.env.scope.names.lookup y1=some .local:=by first | exact .inr (lookup_relabel_local rfl) | exact .inl rfl) (f2:X.fn y2=true\/X.env.scope.names.lookup y2=some .local:=by first | exact .inr (lookup_relabel_local rfl) | exact .inl rfl)
  (GR:(assignEach [.Name y1 t1,.Name y2 t2] X.env).map (·.2)=assign (.Name y1 t1) X.env::(assignEach [.Name y2 t2] X.env).map (·.2):=by rfl) (GS:(assignEach [.Name y2 t2] X.env).map (·.2)=assign (.Name y2 t2) X.env::(assignEach [] X.env).map (·.2):=by rfl)
  (hn:(assignEach [.Name y1 t1,.Name y2 t2] X.env).length=2:=by rfl) (cu:(assignEach [.Name y1 t1,.Name y2 t2] X.env).findIdx? (·.1)=none:=by rfl) :
  PG X (.Tuple [.Name y1 t1,.Name y2 t2] tk tp) (lG m (iV i1 i2)):=vV hc BZ m1 l1 m2 l2 O5 qa f1 f2 GR GS hn cu
end L3
namespace L2
open PySem
structure Fk(K:PySem.W.Frag)(mg:Str->Option Value)(x:Str)(st:Stmt)(ps:List Str)(f:Addr)(fd:FuncData):Prop where
 F:bg K x x st f fd
 g:mg x=some (.ref f)
 b:Binds K fd ps []
structure Fm(K:PySem.W.Frag)(x q:Str)(st:Stmt)(ps:List Str)(f:Addr)(fd:FuncData):Prop where
 F:bg K x q st f fd
 b:Binds K fd ps []
end L2
namespace L3
open PySem L2 PySem.Spec PyProof.Rows
theorem cA{X:Cx}{x:Str}{st:Stmt}{ps:List Str}{f:Addr}{fd:FuncData}{n k:Nat}{sp:bh}{e:Expr}{es:List Expr}{t:cE}{p pos:Pos}(Q:Fk X.K X.mg x st ps f fd)(F:aO X.prog X.w X.K X.mg X.base aZ n f fd ps (bq sp))(hr:bX k X.A)(ha:PA X (e::es) (lA t))(hn:n<=k:=by decide)(hg:Gl X x:=by rfl)
  (dh:(x==("__debug__":Str))=false:=by decide) (he:starEach (e::es) X.env=(false,eval e X.env)::starEach es X.env:=by rfl) (bw:(backTo pos (starEach es X.env)).any (·.1)=false:=by rfl) :
  PE X (.Call (.Name x p) (e::es) [] pos) (lE (pZ sp t)):=mK (F.mono hn) hr hg Q.g Q.F.kp Q.b dX ha dh he bw
end L3
namespace L3
open PySem L2 Mf
end L3
namespace L3
open PySem L2 Mf
section
variable{m:Bool × Nat}
structure Wd(m:Bool × Nat)(T:List (List Nat))(w:List Nat):Prop where
 ln:w.length=ag T
 lt:AllLt (aa m) w
 z:∀r∈T,gd m r w=0
noncomputable def tD(n:Nat)(u v:List Nat):List Nat:=(aM n).filter λj=>decide (cf u j≠cf v j)
theorem c85{n:Nat}{u v:List Nat}{j:Nat}:j∈tD n u v↔j<n/\cf u j≠cf v j:=by unfold tD;rw[m5,bK,decide_eq_true_iff]
noncomputable def Q7(m:Bool × Nat)(T:List (List Nat))(d:Nat):Prop:=∀u v,Wd m T u->Wd m T v->u≠v->d<=(tD (ag T) u v).length
theorem zL(n j:Nat):cf (aK n 0) j=0:=by
 unfold cf
 rw[aJ,m9]
 split<;>rfl
theorem bJ6(hm:m∈av){T:List (List Nat)}(hT:RT (aa m) (ag T) T):Wd m T (aK (ag T) 0):=by
 have eD:=lo1 hm
 refine⟨dA ..,λa ha=>by rw[(xm.mp ha).2];omega,λr hr=>?_⟩
 rw[l9 m (by rw[(hT r hr).1,dA])]
 exact gx (rg hm) λj _=>by rw[zL];exact iB m _ (bS m hm)
theorem CV(hm:m∈av){a b x:Nat}(ha:a<aa m)(hb:b<aa m)(hx:x<aa m)(h:gp m a x=gp m b x):a=b:=by
 have g:=rg hm
 obtain⟨y,hy⟩:∃y,gp m x y=0:=⟨_,by rw[jZ];exact(oH hm hx).2⟩
 have e:=congrArg (λz=>gp m z y) h
 rw[g.pa,g.pa,hy,om ha,om hb]at e
 exact e
theorem CW(hm:m∈av){n:Nat}(h2:2<=n){w:List Nat}(h:Wd m (dJ m n) w){i:Nat}(hi:i<n):cf w i=cf w (n-1):=by
 have g:=rg hm
 have h0:=bS m hm
 have eD:=lo1 hm
 obtain⟨rt,l,ww⟩:=qD hm h2
 by_cases c:i=n-1
 ·rw[c]
 have hi:i<n-1:=by omega
 have hr:kN m n i∈dJ m n:=AE (bK.mpr hi)
 have hs:=cP hm h.lt (n-1)
 have e1:=h.z _ hr
 have e2:=b40 hm h2 hs _ hr
 have lr:=(rt _ hr).1
 have two:∀v:List Nat,v.length=n->gd m (kN m n i) v=gp m (cf v i) (gm m (aS m 0 1) (cf v (n-1)))\/¬ cf v i<aa m:=λv lv=>by
  by_cases lt:cf v i<aa m
  ·refine .inl ?_
   rw[l9 m (by rw[lr,lv]),lr,HC g (f:=λj=>gm m (cf (kN m n i) j) (cf v j)) (a:=i) (b:=n-1) (by omega) (by omega) (by omega) (bC hm _ _) (bC hm _ _) λj hj c1 c2=>by rw[qC hi,if_neg c1,if_neg c2,eE m _ h0]]
   rw[qC hi,if_pos rfl,qC hi,if_neg (by omega),if_pos rfl,kI lt]
  ·exact .inr lt
 have er:∀j,j<n->cf (aK n (cf w (n-1))) j=cf w (n-1):=λj hj=>by unfold cf;rw[aJ,m9,if_pos hj];rfl
 have a1:=(two w (h.ln.trans ww)).resolve_right λz=>z (cP hm h.lt i)
 have a2:=(two (aK n (cf w (n-1))) (dA ..)).resolve_right λz=>z (by rw[er i (by omega)];exact hs)
 rw[er i (by omega),er (n-1) (by omega)]at a2
 exact CV hm (cP hm h.lt i) hs (bC hm _ _) (a1.symm.trans (e1.trans (e2.symm.trans a2)))
theorem cn5(hm:m∈av){n:Nat}(h2:2<=n):Q7 m (dJ m n) n:=λu v hu hv hn=>by
 obtain⟨rt,l,ww⟩:=qD hm h2
 rw[ww]
 have ne:cf u (n-1)≠cf v (n-1):=λz=>hn (j7 (hu.ln.trans ww) (hv.ln.trans ww) λj hj=>by rw[CW hm h2 hu hj,CW hm h2 hv hj,z])
 have:=QZ (l:=aM n) (l':=tD n u v) xt λj hj=>by
  have hj:=bK.mp hj
  exact c85.mpr ⟨hj,by rw[CW hm h2 hu hj,CW hm h2 hv hj];exact ne⟩
 rw[cq]at this
 exact this
variable{G:List (List Nat)}
theorem cZ.wd(h:cZ m G){l:List Nat}(hl:l.length=(bJ m G).length):Wd m G (iE m G l):=⟨oJ ..,h.wlt hl,h.word hl⟩
theorem Q8{a b:List Nat}{f:Nat->Nat->Nat}{k:Nat}(ha:k<a.length)(hb:k<b.length):cf (cU f a b) k=f (cf a k) (cf b k):=by
 unfold cf
 rw[aJ,AG,aJ,aJ,aQ ha,aQ hb];rfl
end
end L3
namespace L2
open PySem PySem.Spec PyProof.Rows
noncomputable def gtL:V->V->Hp->VK->Prop:=λo i H Q=>∃p xs k v,o=.ref p/\i=.int k/\H p=some (.lst xs)/\0<=k/\xs[k.toNat]?=some v/\Q v H
theorem cf8{X:Cx}:MC X gtL:=by
 intro pins s σ H o i ov iv Q I ro ri h
 obtain⟨p,xs,k,z,rfl,rfl,hp,h0,he,q⟩:=h
 cases ro
 obtain⟨t,rfl⟩:=ri
 obtain⟨its,r,pl,hz⟩:=I.list (bF.of hp)
 obtain⟨w,ew,fL⟩:=r.get he
 have hn:=rj
 have hl:=r.length
 have hk:=(ke.mp he).1
 exact wpAny_getItem_list pl.isList h0 (by omega) (by simpa using ew) ⟨z,H,I,fL,q⟩
end L2
namespace L3
open PySem L2 PySem.Spec PyProof.Rows
section
variable{X:Cx}{i:Nat}{x:Str}{p pos ly:Pos}{b e:Expr}{ti te:aI}
noncomputable def wI(i:Nat)(ti:aI)(n:Int):cF:=λEn δ=>(∃xs,δ[i]?=some (some (.lst true xs)))/\ti δ λkd ai=>match kd with
 | .int k=>∃xs z,ai[i]?=some (some (.lst true xs))/\0<=k/\xs[k.toNat]?=some (.int z)/\En.nx (ai.set i (some (.lst true (xs.set k.toNat (.int (z+n))))))
 | _=>False
theorem cz3{n:Int}(hN:X.N[i]?=some x)(hv:lh X.env.scope x)(hi:PE X b (lB ti))(he:PE X e (tC (.int n)))(hd:(x==("__debug__":Str))=false:=by decide)(cM:(x==("__classdict__":Str))=false:=by decide)
  (ha:∀ov iv new,augStore b ov iv new=(do holding [new,ov,iv] (setItem ov iv new);release [new,ov,iv] [];pure .next):=by intros;rfl) :
  PS X (.AugAssign (.Subscript (.Name x p) b ly) .Add e pos) (lS X (wI i ti n)) :=
 lL (Xm (pH hN hv hd cM) hi cf8 he Xo M5 ha) λEn σ H zz=>by
  obtain⟨B,F,δ,Dd,c,⟨⟨ys,ey⟩,q⟩,k1,k2,k3,k4⟩:=zz
  obtain⟨p0,yb,g1,g2,g3⟩:=c.ownAt ey
  refine⟨.ref p0,g1,B,F,δ,[],_,c,q,λkd ai kv F1 H1 hk f1 h1 c1 s1=>?_⟩
  have st:=s1
  split at hk
  ·rename_i k
   obtain⟨xs,z,ex,h0,ez,hn⟩:=hk
   cases st
   obtain⟨v,ev,sv⟩:=c1.look ex
   rw[g1]at ev;cases ev
   obtain⟨p1,ws,e1,e2,sw⟩:=iw sv c1.ext
   cases e1
   obtain⟨w,ew,s2⟩:=sw.get ez
   cases s2
   have hk:=(ke.mp ew).1
   refine⟨p0,ws,k,.int z,rfl,rfl,e2,h0,ew,z,n,rfl,rfl,p0,ws,k,k.toNat,rfl,rfl,e2,?_,k1 _ _ F1 _ hn (ak.N9 (c1.pushS (d:=.int (z+n)) (.int .nil) rfl) ex g1 e2 k.toNat)⟩
   unfold jl
   rw[if_pos h0,if_pos (by omega)]
  ·exact hk.elim
noncomputable def wJ(i:Nat)(t:aI):cF:=λEn δ=>(∃xs,δ[i]?=some (some (.lst true xs)))/\t δ λd ah=>∃zs xs,d=.lst true zs/\ah[i]?=some (some (.lst true xs))/\xs.length+zs.length<=sizeLine/\En.nx (ah.set i (some (.lst true (xs++zs))))
theorem cu7{t:aI}{apos bE:Pos}(hN:X.N[i]?=some x)(hv:lh X.env.scope x)(he:PE X e (lE t))(hd:(x==("__debug__":Str))=false:=by decide)(cM:(x==("__classdict__":Str))=false:=by decide)
  (jP:attributeBase (.Name x p) "extend" X.env (eval (.Name x p) X.env)=eval (.Name x p) X.env:=by rfl)
  (rz:((backTo bE (starEach [e] X.env)).all (λx=>!x.1)&&(backToKw bE (keywordEach [] X.env)).all (λx=>x.1.isSome)
   && decide ([e].length+([]:List Keyword).length+(if([]:List Keyword).isEmpty then 0 else 1)<30))=true:=by rfl)
  (jQ:(apos.endLine==bE.line)=true:=by rfl) (hs:starEach [e] X.env=(false,eval e X.env)::starEach [] X.env:=by rfl) (rA:(backTo bE (starEach [] X.env)).any (·.1)=false:=by rfl)
  (sF:swapsWith (.Call (.Attribute (.Name x p) "extend" apos) [e] [] bE) none pos.line X.env=pure false:=by rfl) :
  PS X (.Expr (.Call (.Attribute (.Name x p) "extend" apos) [e] [] bE) pos) (lS X (wJ i t)) :=
 lL (uj (Fs PySem.F.plainAttrs_list PySem.F.slot_list_extend PySem.F.type_list_extend YV (pH hN hv hd cM) (b8 he eX hs) jP rz jQ hs rA) sF) λEn σ H zz=>by
  obtain⟨B,F,δ,Dd,c,⟨⟨ys,ey⟩,q⟩,k1,k2,k3,k4⟩:=zz
  obtain⟨p0,yb,g1,g2,g3⟩:=c.ownAt ey
  refine⟨.ref p0,g1,.inl ⟨rfl,_,bF.of g2⟩,B,F,δ,[],_,c,q,λd ah v F' H' hd sf sh c'=>?_⟩
  obtain⟨zs,xs,rfl,ex,hl,hn⟩:=hd
  obtain⟨p1,ws,r1,r2,r3⟩:=c'.ownAt ex
  rw[g1]at r1;cases r1
  obtain⟨p2,us,rfl,e2,t2⟩:=iw c'.top c'.ext
  refine⟨p0,p2,ws,us,rfl,rfl,r2,e2,by rw[<-r3,<- t2.length];exact hl,k1 _ _ F' _ hn ?_⟩
  exact ak.mut (ps:=[(.lst true zs,.ref p2)]) c' ex g1 λgr A1 A2 h r1 HS nd=>by
   rw[r2]at h;cases h
   have HS:R F' H' [.lst true zs] [.ref p2] A2:=HS
   cases HS with
   | @own _ si _ Az _ _ Bz hH hF hx hr =>
    cases hr
    rw[e2]at hH;cases hH
    rw[eU]at nd ⊢
    have sl:(A1++Az).Sublist (A1++p2::Az):=(L9 p2 Az).append_left A1
    exact⟨A1++Az,r1.append hx,nd.sublist sl,λa ha=>sl.subset ha⟩
end
end L3
namespace L3
open PySem L2 Mf
section
variable{m:Bool × Nat}
noncomputable def fE(m:Bool × Nat)(w:List Nat)(a:Nat)(r:List Nat):List Nat:=cU (λx y=>aS m x (gm m a y)) w r
noncomputable def jA(m:Bool × Nat)(ws:List (List Nat))(r:List Nat)(n:Nat):List (List Nat):=((aM n).map λa=>ws.map λw=>fE m w a r).flatten
noncomputable def eA(m:Bool × Nat)(n:Nat)(R:List (List Nat)):List (List Nat):=R.foldl (λws r=>jA m ws r (aa m)) [aK n 0]
noncomputable def eQ(w:List Nat):Nat:=w.length-w.count 0
noncomputable def fw(n:Nat)(ws:List (List Nat)):List Nat:=(aM (n+1)).map λj=>ws.countP λw=>eQ w==j
theorem Q9:∀w:List Nat,w.count 0=(aM w.length).countP λp=>cf w p==0
 | []=>rfl
 | a::w=>by
  rw[gJ,LQ,List.countP_cons,Mg,Mh,Q9 w]
  rfl
theorem co7{n a:Nat}(h:a<n){P:Nat->Bool}(hP:∀x,x<n->(P x=true↔x=a)):(aM n).countP P=1:=by
 rw[xu (q:=λx=>x==a) λx hx=>by rw[hP x (bK.mp hx),beq_iff_eq]]
 exact xt.count (a:=a) |>.trans (if_pos (bK.mpr h))
theorem cx3{n:Nat}{P:Nat->Bool}(hP:∀x,x<n->P x=false):(aM n).countP P=0 :=
 List.countP_eq_zero.mpr λx hx=>by rw[hP x (bK.mp hx)];decide
theorem cF7(hm:m∈av){a:Nat}(ha:a<aa m):aS m 0 a<aa m:=(oH hm ha).1
theorem HU(hm:m∈av){x a y:Nat}(hx:x<aa m)(ha:a<aa m)(hy:y<aa m):aS m x (gm m a y)=gp m x (gm m (aS m 0 a) y):=by
 have g:=rg hm
 have h0:=bS m hm
 obtain⟨_,b,c⟩:=iW hm hx (bC hm a y)
 refine CV hm b (Hj hm hx (bC hm _ _)) (bC hm a y) (c.trans ?_)
 rw[g.pa,<- g.dr,(oH hm ha).2,eE m _ h0,om hx]
variable{G:List (List Nat)}
theorem Ra(h:cZ m G){r1 r2:List Nat}(e:bx m G=[r1,r2]){c1 c2 p:Nat}(hp:p<ag G):cf (iE m G [c1,c2]) p=gp m (gm m c1 (cf r1 p)) (gm m c2 (cf r2 p)):=by
 unfold iE
 rw[oE m (by rw[e];rfl) hp,e]
 show gp m (gp m 0 (gm m c1 (cf r1 p))) (gm m c2 (cf r2 p))=_
 rw[wo (bC h.hm _ _)]
theorem Rb(h:cZ m G){r1:List Nat}(e:bx m G=[r1]){c1 p:Nat}(hp:p<ag G):cf (iE m G [c1]) p=gm m c1 (cf r1 p):=by
 unfold iE
 rw[oE m (by rw[e];rfl) hp,e]
 show gp m 0 (gm m c1 (cf r1 p))=_
 rw[wo (bC h.hm _ _)]
theorem HV{w r:List Nat}{n a p:Nat}(hw:w.length=n)(hr:r.length=n)(hp:p<n):cf (fE m w a r) p=aS m (cf w p) (gm m a (cf r p)):=Q8 (by omega) (by omega)
theorem CY{w r:List Nat}{n:Nat}(hw:w.length=n)(hr:r.length=n)(a:Nat):(fE m w a r).length=n:=by unfold fE;rw[kh,hw,hr,pq]
theorem Rc(h:cZ m G){r:List Nat}(hr:r∈bx m G){a p:Nat}(ha:a<aa m)(hp:p<ag G):cf (fE m (aK (ag G) 0) a r) p=gm m (aS m 0 a) (cf r p):=by
 have hm:=h.hm
 have eD:=lo1 hm
 have r1:=h.rows r hr
 rw[HV (dA ..) r1.1 hp,zL,HU hm (by omega) ha (cP hm r1.2 p),wo (bC hm _ _)]
theorem ce4(h:cZ m G){r1:List Nat}(e:bx m G=[r1]):eA m (ag G) (bx m G)=(aM (aa m)).map λa=>iE m G [aS m 0 a]:=by
 have hr:r1∈bx m G:=by rw[e];exact gj ..
 rw[e]
 show((aM (aa m)).map λa=>[fE m (aK (ag G) 0) a r1]).flatten=_
 rw[show((aM (aa m)).map λa=>[fE m (aK (ag G) 0) a r1])=((aM (aa m)).map λa=>fE m (aK (ag G) 0) a r1).map λw=>[w] by rw[bW];rfl,show ∀l:List (List Nat),(l.map λw=>[w]).flatten=l from λl=>by induction l with | nil=>rfl | cons a l ih=>rw[da,oY,ih];rfl]
 refine i6 λa ha=>?_
 have ha:=bK.mp ha
 exact j7 (CY (dA ..) (h.rows r1 hr).1 a) (oJ ..) λp hp=>by rw[Rc h hr ha hp,Rb h e hp]
theorem cg3(h:cZ m G){r1 r2:List Nat}(e:bx m G=[r1,r2]):eA m (ag G) (bx m G)=((aM (aa m)).map λb=>(aM (aa m)).map λa=>iE m G [aS m 0 a,aS m 0 b]).flatten:=by
 have hm:=h.hm
 have h1:r1∈bx m G:=by rw[e];exact gj ..
 have h2:r2∈bx m G:=by rw[e];exact fh _ (gj ..)
 rw[e]
 show((aM (aa m)).map λb=>(jA m [aK (ag G) 0] r1 (aa m)).map λw=>fE m w b r2).flatten=_
 refine congrArg _ (i6 λb hb=>?_)
 have hb:=bK.mp hb
 rw[show jA m [aK (ag G) 0] r1 (aa m)=(aM (aa m)).map λa=>fE m (aK (ag G) 0) a r1 by
  show((aM (aa m)).map λa=>[fE m (aK (ag G) 0) a r1]).flatten=_
  rw[show((aM (aa m)).map λa=>[fE m (aK (ag G) 0) a r1])=((aM (aa m)).map λa=>fE m (aK (ag G) 0) a r1).map λw=>[w] by rw[bW];rfl]
  exact(show ∀l:List (List Nat),(l.map λw=>[w]).flatten=l from λl=>by induction l with | nil=>rfl | cons a l ih=>rw[da,oY,ih];rfl) _,bW]
 refine i6 λa ha=>?_
 have ha:=bK.mp ha
 have l1:=CY (m:=m) (dA (n:=ag G) (a:=0)) (h.rows r1 h1).1 a
 show fE m (fE m (aK (ag G) 0) a r1) b r2=_
 refine j7 (CY l1 (h.rows r2 h2).1 b) (oJ ..) λp hp=>?_
 rw[HV l1 (h.rows r2 h2).1 hp,Rc h h1 ha hp,HU hm (bC hm _ _) hb (cP hm (h.rows r2 h2).2 p),Ra h e hp]
theorem cn8{w:List Nat}{n d:Nat}(hw:w.length=n)(h:d<=(tD n w (aK n 0)).length):w.count 0+d<=n:=by
 have e:=EL (λp=>cf w p==0) (l:=aM n)
 rw[cq]at e
 rw[Q9,hw]
 have:(tD n w (aK n 0)).length=(aM n).countP λp=>¬ (cf w p==0)=true:=by
  unfold tD
  rw[<-EM]
  refine xu λp _=>?_
  rw[zL]
  simp
 omega
theorem Rh(hm:m∈av){a:Nat}(ha:a<aa m):aS m 0 a=0↔a=0:=by
 have eD:=lo1 hm
 constructor
 ·intro h
  have:=cL0 hm ha
  rw[h,Cv]at this
  exact this.symm
 ·intro h;rw[h,Cv]
theorem b42{w:List Nat}{n:Nat}(hw:w.length=n):w.count 0=n↔w=aK n 0:=by
 rw[<-hw]
 refine⟨λh=>Mi.mpr ⟨rfl,λb hb=>(List.count_eq_length.mp h b hb).symm⟩,λh=>?_⟩
 rw[h,List.count_replicate_self,dA]
theorem cI6{l:List (List Nat)}(h:l.length=1):∃a,l=[a]:=by
 cases l with
 | nil=>cases h
 | cons a l =>
  cases l with
  | nil=>exact⟨a,rfl⟩
  | cons b l=>simp at h
theorem co0(h:cZ m G)(h2:2<=ag G)(hd:Q7 m G (ag G))(h1:(bJ m G).length=1):(eA m (ag G) (bx m G)).countP (λw=>eQ w==0)=1/\(eA m (ag G) (bx m G)).countP (λw=>eQ w==ag G)+1=aa m/\∀j,j≠0->j≠ag G->(eA m (ag G) (bx m G)).countP (λw=>eQ w==j)=0:=by
 have hm:=h.hm
 have eD:=lo1 hm
 have h0:=bS m hm
 obtain⟨r1,e⟩:=cI6 ((iD m G).trans h1)
 have wg:∀a,a<aa m->eQ (iE m G [aS m 0 a])=if a=0 then 0 else ag G:=λa ha=>by
  have hn:=cF7 hm ha
  have al:AllLt (aa m) [aS m 0 a]:=λx hx=>by rw[dR.mp hx];exact hn
  unfold eQ
  rw[oJ]
  by_cases z:a=0
  ·rw[if_pos z,(b42 (oJ m G [aS m 0 a])).mpr (j7 (oJ ..) (dA ..) λp hp=>by rw[Rb h e hp,(Rh hm ha).mpr z,eE m _ h0,zL]),xq]
  ·rw[if_neg z]
   have:=cn8 (oJ m G _) (hd _ _ (h.wd (l:=[aS m 0 a]) h1.symm) (bJ6 hm h.rt) λk=>z ((Rh hm ha).mp ?_))
   ·omega
   ·have e0:=h.at (l:=[aS m 0 a]) h1.symm al (j:=0) (by omega)
    rw[k,zL]at e0
    exact e0.symm
 have cj:∀j,(eA m (ag G) (bx m G)).countP (λw=>eQ w==j)=(aM (aa m)).countP λa=>(if a=0 then 0 else ag G)==j:=λj=>by
  rw[ce4 h e,Mg]
  exact xu λa ha=>by
   show(eQ (iE m G [aS m 0 a])==j)=true↔_
   rw[wg a (bK.mp ha)]
 have c0:(aM (aa m)).countP (λa=>(if a=0 then 0 else ag G)==0)=1:=co7 (a:=0) (by omega) λx _=>by
  rw[beq_iff_eq]
  by_cases z:x=0
  ·rw[if_pos z];exact⟨λ_=>z,λ_=>rfl⟩
  ·rw[if_neg z];exact⟨λk=>by omega,λk=>absurd k z⟩
 refine⟨(cj 0).trans c0,?_,λj j0 jn=>(cj j).trans (cx3 λx _=>beq_false_of_ne ?_)⟩
 ·have:=EL (λa=>(if a=0 then 0 else ag G)==0) (l:=aM (aa m))
  rw[cq,c0,xu (p:=λa=>¬ ((if a=0 then 0 else ag G)==0)=true) (q:=λa=>(if a=0 then 0 else ag G)==ag G) λx _=>by
   by_cases z:x=0
   ·rw[if_pos z];simp;omega
   ·rw[if_neg z];simp;omega,<- cj]at this
  omega
 ·split<;>omega
end
end L3
namespace L3
open PySem L2 Mf
section
variable{m:Bool × Nat}{G:List (List Nat)}
noncomputable def fX(M:Nat)(c:Nat->Nat):Nat->List (List Nat)
 | 0=>[[]]
 | k+1=>((aM M).map λa=>(fX M c k).map λl=>l++[c a]).flatten
theorem qE{M:Nat}{c:Nat->Nat}(hc:∀a,a<M->c a<M)(sc:∀b,b<M->∃a,a<M/\c a=b):∀(k:Nat) (l:List Nat),l∈fX M c k↔l.length=k/\AllLt M l
 | 0,l=>by
  unfold fX
  rw[dR]
  exact⟨λh=>by subst h;exact⟨rfl,λa h=>absurd h (by simp)⟩,λh=>Wm.mp h.1⟩
 | k+1,l=>by
  unfold fX
  rw[AB]
  constructor
  ·rintro⟨L,hL,hl⟩
   obtain⟨a,ha,rfl⟩:=aX.mp hL
   obtain⟨l',pG,rfl⟩:=aX.mp hl
   obtain⟨e,al⟩:=(qE hc sc k l').mp pG
   refine⟨by rw[cy,e];rfl,λx hx=>?_⟩
   rcases bP.mp hx with z | z
   ·exact al x z
   ·rw[dR.mp z];exact hc a (bK.mp ha)
  ·rintro⟨e,al⟩
   have ne:l≠[]:=λz=>by rw[z]at e;cases e
   have sp:=List.dropLast_concat_getLast ne
   obtain⟨a,ha,ca⟩:=sc (l.getLast ne) (al _ (List.getLast_mem ne))
   refine⟨_,aX.mpr ⟨a,bK.mpr ha,rfl⟩,aX.mpr ⟨l.dropLast,(qE hc sc k _).mpr ⟨by rw[List.length_dropLast,e];rfl,λx hx=>al x (List.dropLast_subset l hx)⟩,?_⟩⟩
   rw[ca];exact sp
theorem Ri{M:Nat}{c:Nat->Nat}(ic:∀a b,a<M->b<M->c a=c b->a=b):∀k,(fX M c k).Nodup
 | 0=>by unfold fX;simp
 | k+1=>by
  unfold fX
  refine List.pairwise_flatten.mpr ⟨λL hL=>?_,?_⟩
  ·obtain⟨a,_,rfl⟩:=aX.mp hL
   exact List.Pairwise.map _ (λx y ne h=>ne (List.append_cancel_right h)) (Ri ic k)
  ·refine EO.mpr (Mj (R:=λa b=>a≠b) (λ{a b} ha hb ne x h1 y h2 e=>?_) xt)
   obtain⟨x,_,rfl⟩:=aX.mp h1
   obtain⟨y,_,rfl⟩:=aX.mp h2
   have:=List.append_inj_right' e rfl
   exact ne (ic a b (bK.mp ha) (bK.mp hb) (by injection this))
theorem Rj(hm:m∈av){l:List Nat}{R:List (List Nat)}{r:List Nat}{n c k:Nat}(h:l.length=R.length)(hk:k<n):cf (cY m (l++[c]) (R++[r]) n) k=gp m (cf (cY m l R n) k) (gm m c (cf r k)):=by
 rw[oE m (by rw[cy,cy,h];rfl) hk,oE m h hk,cy]
 show gp m (sm (gp m) R.length _) _=_
 congr 1
 ·refine cX λj hj=>?_
  rw[mX,if_pos (by omega),aJ,oX hj,<- aJ]
 ·show gm m (cf (l++[c]) R.length) (cf ((R++[r]).getD R.length []) k)=_
  rw[mX,if_neg (by omega),h,xq,aJ,m8 (bD _),xq];rfl
noncomputable def jB(M:Nat)(f:Nat->List Nat->List Nat->List Nat)(ws:List (List Nat))(r:List Nat):List (List Nat):=((aM M).map λa=>ws.map λw=>f a w r).flatten
theorem Rk(M:Nat)(f:Nat->List Nat->List Nat->List Nat)(ws:List (List Nat))(r:List Nat):jB (M+1) f ws r=jB M f ws r++ws.map λw=>f M w r:=by
 unfold jB
 rw[ub,dS,Wo]
 exact congrArg _ (eU _)
theorem HW(f:Nat->List Nat->List Nat->List Nat)(ws:List (List Nat))(r:List Nat):∀n,(jB n f ws r).length=n*ws.length
 | 0=>by rw[L4];rfl
 | n+1=>by rw[Rk,cy,HW f ws r n,aY,L6,xo]
theorem HX(M:Nat)(f:Nat->List Nat->List Nat->List Nat):∀(R ws:List (List Nat)),(R.foldl (jB M f) ws).length=M ^ R.length*ws.length
 | [],ws=>by rw[ud,LG,xo];rfl
 | r::R,ws=>by rw[oZ,HX M f R,HW,gJ,iZ,pf]
theorem Rl{M n:Nat}{f:Nat->List Nat->List Nat->List Nat}(P:List Nat->Prop):∀(R ws:List (List Nat)),(∀a w r,a<M->P w->r∈R->P (f a w r))->(∀w∈ws,P w)->∀w∈R.foldl (jB M f) ws,P w
 | [],ws,_,h=>h
 | r::R,ws,hf,h=>Rl (n:=n) P R _ (λa w r' ha hw hr=>hf a w r' ha hw (fh _ hr)) λw hw=>by
  obtain⟨l,hl,hw⟩:=AB.mp hw
  obtain⟨a,ha,rfl⟩:=aX.mp hl
  obtain⟨v,hv,rfl⟩:=aX.mp hw
  exact hf a v r (bK.mp ha) (h v hv) (gj ..)
theorem cg4{M n:Nat}{f:Nat->List Nat->List Nat->List Nat}{c:Nat->Nat}{S:List (List Nat)}{r:List Nat}(hl:∀l∈fX M c S.length,l.length=S.length)(hf:∀l a,l.length=S.length->a<M->f a (cY m l S n) r=cY m (l++[c a]) (S++[r]) n) :
  jB M f ((fX M c S.length).map λl=>cY m l S n) r=(fX M c (S++[r]).length).map λl=>cY m l (S++[r]) n:=by
 rw[cy]
 show _=(fX M c (S.length+1)).map _
 unfold jB
 conv=>rhs;unfold fX
 rw[List.map_flatten,bW]
 congr 1
 refine i6 λa ha=>?_
 show _=((fX M c S.length).map λl=>l++[c a]).map _
 rw[bW,bW]
 exact i6 λl h=>hf l a (hl l h) (bK.mp ha)
theorem Rm{M n:Nat}{f:Nat->List Nat->List Nat->List Nat}{c:Nat->Nat}(hl:∀k,∀l∈fX M c k,l.length=k):∀(R S:List (List Nat)),(∀S r l a,r∈R->l.length=S.length->a<M->f a (cY m l S n) r=cY m (l++[c a]) (S++[r]) n) ->
  R.foldl (jB M f) ((fX M c S.length).map λl=>cY m l S n)=(fX M c (S++R).length).map λl=>cY m l (S++R) n
 | [],S,_=>by rw[eU];rfl
 | r::R,S,hf=>by
  rw[oZ,cg4 (hl _) λl a h1 h2=>hf S r l a (gj ..) h1 h2,Rm hl R (S++[r]) λS' r' l a h=>hf S' r' l a (fh _ h),dO];rfl
theorem Rn{M n:Nat}{f:Nat->List Nat->List Nat->List Nat}{c:Nat->Nat}(hc:∀a,a<M->c a<M)(sc:∀b,b<M->∃a,a<M/\c a=b)(R:List (List Nat))(hf:∀S r l a,r∈R->l.length=S.length->a<M->f a (cY m l S n) r=cY m (l++[c a]) (S++[r]) n) :
  R.foldl (jB M f) [aK n 0]=(fX M c R.length).map λl=>cY m l R n:=by
 have:=Rm (m:=m) (n:=n) (f:=f) (λk l h=>((qE hc sc k l).mp h).1) R [] hf
 rw[pd]at this
 rw[<-this]
 congr 1
 show _=[cY m [] [] n]
 unfold cY
 rw[show(λk=>gd m [] (([]:List (List Nat)).map λr=>r.getD k 0))=λ_=>0 from rfl,List.map_const',cq]
structure Own(m:Bool × Nat)(n:Nat)(R:List (List Nat))(ps:List Nat):Prop where
 len:ps.length=R.length
 lt:∀p∈ps,p<n
 one:∀i j,i<R.length->j<R.length->cf (R.getD i []) (ps.getD j 0)=if i=j then 1 else 0
section
variable{n:Nat}{R:List (List Nat)}{ps:List Nat}
theorem Own.at(h:Own m n R ps)(hm:m∈av){l:List Nat}(hl:l.length=R.length)(al:AllLt (aa m) l){j:Nat}(hj:j<R.length):cf (cY m l R n) (ps.getD j 0)=cf l j:=by
 have hp:ps.getD j 0<n:=h.lt _ (bZ (by rw[h.len];exact hj) 0)
 have m0:=bS m hm
 rw[oE m hl hp,kM (rg hm) (j0:=j) (by exact bC hm _ _) hj λi hi ne=>by rw[h.one i j hi hj,if_neg ne,iB _ _ m0]]
 rw[h.one j j hj hj,if_pos rfl,kJ (cP hm al j)]
theorem Own.inj(h:Own m n R ps)(hm:m∈av){l l':List Nat}(hl:l.length=R.length)(al:AllLt (aa m) l)(pG:l'.length=R.length)(al':AllLt (aa m) l')(e:cY m l R n=cY m l' R n):l=l' :=
 j7 hl pG λk hk=>by rw[<-h.at hm hl al hk,e,h.at hm pG al' hk]
theorem Own.nd(h:Own m n R ps)(hm:m∈av){c:Nat->Nat}(hc:∀a,a<aa m->c a<aa m)(sc:∀b,b<aa m->∃a,a<aa m/\c a=b)(ic:∀a b,a<aa m->b<aa m->c a=c b->a=b):((fX (aa m) c R.length).map λl=>cY m l R n).Nodup:=by
 refine EO.mpr (Mj (λ{a b} ha hb ne e=>ne ?_) (Ri ic R.length))
 obtain⟨h1,h2⟩:=(qE hc sc _ _).mp ha
 obtain⟨h3,h4⟩:=(qE hc sc _ _).mp hb
 exact h.inj hm h1 h2 h3 h4 e
theorem Own.mem(h:Own m n R ps)(hm:m∈av){c:Nat->Nat}(hc:∀a,a<aa m->c a<aa m)(sc:∀b,b<aa m->∃a,a<aa m/\c a=b){v:List Nat}:v∈(fX (aa m) c R.length).map (λl=>cY m l R n)↔∃l,l.length=R.length/\AllLt (aa m) l/\v=cY m l R n:=by
 rw[aX]
 exact⟨λ⟨l,h1,h2⟩=>⟨l,((qE hc sc _ _).mp h1).1,((qE hc sc _ _).mp h1).2,h2.symm⟩,λ⟨l,h1,h2,h3⟩=>⟨l,(qE hc sc _ _).mpr ⟨h1,h2⟩,h3.symm⟩⟩
end
end
section
variable{m:Bool × Nat}{G:List (List Nat)}
theorem Ro(hm:m∈av):(∀a,a<aa m->aS m 0 a<aa m)/\(∀b,b<aa m->∃a,a<aa m/\aS m 0 a=b)/\∀a b,a<aa m->b<aa m->aS m 0 a=aS m 0 b->a=b:=by
 have tw:∀a,a<aa m->aS m 0 (aS m 0 a)=a:=λa ha=>by
  have h1:=(oH hm ha)
  have h2:=(oH hm h1.1)
  exact CV hm h2.1 ha h1.1 (by rw[h2.2,jZ,h1.2])
 exact⟨λa ha=>(oH hm ha).1,λb hb=>⟨aS m 0 b,(oH hm hb).1,tw b hb⟩,λa b ha hb e=>by rw[<-tw a ha,e,tw b hb]⟩
theorem cr8(hm:m∈av){n:Nat}{R:List (List Nat)}(hR:RT (aa m) n R):eA m n R=(fX (aa m) (aS m 0) R.length).map λl=>cY m l R n:=by
 obtain⟨c1,c2,c3⟩:=Ro hm
 refine Rn (f:=λa w r=>fE m w a r) c1 c2 R λS r l a hr hl ha=>?_
 obtain⟨rl,CZ⟩:=hR r hr
 refine j7 (w:=n) (CY (mf ..) rl a) (mf ..) λk hk=>?_
 rw[HV (mf ..) rl hk,Rj hm hl hk,HU hm (cP hm (CK hm n hl) k) ha (cP hm CZ k)]
theorem cZ.own(h:cZ m G):Own m (ag G) (bx m G) (bJ m G) where
 len:=(iD ..).symm
 lt:=λp hp=>cz6 hp
 one:=λi j hi hj=>by
  have hm:=h.hm
  rw[iD]at hi hj
  obtain⟨⟨H,I⟩,hR⟩:=h.red
  have fr:=λ{k:Nat} (hk:k<(bJ m G).length)=>(I.free hm hR _).mp (CU hk)
  rw[HR hi]
  obtain⟨_,_,a,_,b⟩:=tf hm hR I (CU hi)
  by_cases c:i=j
  ·rw[if_pos c,<- c];exact a
  ·rw[if_neg c]
   refine b _ (λz=>c ?_) (fr hj).2
   rw[aJ,aJ,aQ hi,aQ hj]at z
   exact((Eh (Q6 m G)).mp z).symm
theorem cZ.all(h:cZ m G){v:List Nat}(hv:Wd m G v):v=iE m G ((bJ m G).map λj=>cf v j):=by
 have hm:=h.hm
 obtain⟨⟨H,I⟩,iR,_,sp⟩:=kL hm h.rt
 have lm:((bJ m G).map λj=>cf v j).length=(bx m G).length:=by rw[iD,aY]
 refine j7 hv.ln (oJ ..) λk hk=>?_
 have zr:∀i,i<G.length->dt m (ag G) (cf (G.getD i [])) (cf v)=0:=λi hi=>by
  have:=hv.z _ (bZ hi [])
  rw[l9 m (by rw[(h.rt _ (bZ hi [])).1,hv.ln]),(h.rt _ (bZ hi [])).1]at this
  exact this
 rw[I.ker hm iR (cP hm hv.lt) (λi hi=>bN.dt hm zr ((sp _).mpr (bN.of (bZ hi [])))) hk]
 unfold iE
 rw[oE m lm hk,iD]
 refine cX λj hj=>?_
 rw[HR hj,show cf ((bJ m G).map λj=>cf v j) j=cf v ((bJ m G).getD j 0) from kK (λj=>cf v j) hj 0 0]
 rfl
theorem cZ.da4(h:cZ m G):(eA m (ag G) (bx m G)).Nodup/\∀v,v∈eA m (ag G) (bx m G)↔Wd m G v:=by
 obtain⟨c1,c2,c3⟩:=Ro h.hm
 rw[cr8 h.hm h.rows]
 refine⟨h.own.nd h.hm c1 c2 c3,λv=>?_⟩
 rw[h.own.mem h.hm c1 c2]
 constructor
 ·rintro⟨l,h1,h2,rfl⟩
  exact h.wd (by rw[<-iD];exact h1)
 ·intro hv
  refine⟨(bJ m G).map λj=>cf v j,by rw[iD,aY],λx hx=>?_,h.all hv⟩
  obtain⟨j,_,rfl⟩:=aX.mp hx
  exact cP h.hm hv.lt j
theorem Rp(m:Bool × Nat)(ws:List (List Nat))(r:List Nat)(n:Nat):jA m ws r (n+1)=jA m ws r n++ws.map λw=>fE m w n r:=by
 unfold jA
 rw[ub,dS,Wo]
 exact congrArg _ (eU _)
theorem HY(m:Bool × Nat)(ws:List (List Nat))(r:List Nat):∀n,(jA m ws r n).length=n*ws.length
 | 0=>by rw[L4];rfl
 | n+1=>by rw[Rp,cy,HY m ws r n,aY,L6,xo]
theorem HZ(m:Bool × Nat)(n:Nat)(R:List (List Nat)):(eA m n R).length=aa m ^ R.length:=by
 have:∀(R ws:List (List Nat)),(R.foldl (λws r=>jA m ws r (aa m)) ws).length=aa m ^ R.length*ws.length:=λR=>by
  induction R with
  | nil=>intro ws;rw[ud,LG,xo];rfl
  | cons r R ih=>intro ws;rw[oZ,ih,HY,gJ,iZ,pf]
 unfold eA
 rw[this,kT,Ml]
theorem cm5(m:Bool × Nat)(n:Nat)(R:List (List Nat)):∀w∈eA m n R,w.length<=n:=by
 have:∀(R ws:List (List Nat)),(∀w∈ws,w.length<=n)->∀w∈R.foldl (λws r=>jA m ws r (aa m)) ws,w.length<=n:=λR=>by
  induction R with
  | nil=>exact λws h=>h
  | cons r R ih =>
   refine λws h=>ih _ λw hw=>?_
   unfold jA at hw
   obtain⟨l,hl,hw⟩:=AB.mp hw
   obtain⟨a,_,rfl⟩:=aX.mp hl
   obtain⟨v,hv,rfl⟩:=aX.mp hw
   unfold fE
   rw[kh]
   have:=h v hv
   omega
 exact this R _ λw hw=>by rw[dR.mp hw,dA];exact bD _
theorem cn0(m:Bool × Nat){n:Nat}{R:List (List Nat)}(hR:RT (aa m) n R):∀w∈eA m n R,w.length=n:=by
 have:∀(R ws:List (List Nat)),(∀r∈R,r.length=n)->(∀w∈ws,w.length=n)->∀w∈R.foldl (λws r=>jA m ws r (aa m)) ws,w.length=n:=λR=>by
  induction R with
  | nil=>exact λws _ h=>h
  | cons r R ih =>
   refine λws hr h=>ih _ (λr' h'=>hr r' (fh _ h')) λw hw=>?_
   unfold jA at hw
   obtain⟨l,hl,hw⟩:=AB.mp hw
   obtain⟨a,_,rfl⟩:=aX.mp hl
   obtain⟨v,hv,rfl⟩:=aX.mp hw
   unfold fE
   rw[kh,h v hv,hr r (gj ..),pq]
 exact this R _ (λr hr=>(hR r hr).1) λw hw=>by rw[dR.mp hw,dA]
theorem oK(n:Nat)(ws:List (List Nat)):(fw n ws).length=n+1:=by unfold fw;rw[aY,cq]
theorem C2{n j:Nat}(ws:List (List Nat))(h:j<=n):cf (fw n ws) j=ws.countP λw=>eQ w==j:=CJ _ (by omega)
theorem Rq{n:Nat}(ws:List (List Nat)){w:List Nat}(h:eQ w<=n):fw n (ws++[w])=(fw n ws).set (eQ w) (cf (fw n ws) (eQ w)+1):=by
 refine j7 (w:=n+1) (oK ..) (by rw[qM,oK]) λj hj=>?_
 rw[C2 _ (by omega),List.countP_append]
 unfold cf
 rw[aJ,List.getElem?_set]
 by_cases c:eQ w=j
 ·rw[if_pos c,if_pos (by rw[oK];omega),ph,List.countP_cons_of_pos (by rw[c];exact beq_self_eq_true j),List.countP_nil]
  rw[c]
  exact congrArg (·+1) (C2 ws (show j<=n by omega)).symm
 ·rw[if_neg c,List.countP_cons_of_neg (by rw[beq_false_of_ne c];decide),List.countP_nil,<- aJ]
  exact(C2 ws (show j<=n by omega)).symm
theorem b63(w:List Nat):(w.map λ(n:Nat)=>(n:Int)).count 0=w.count 0:=by
 induction w with
 | nil=>rfl
 | cons a w ih =>
  rw[da,Mh,Mh,ih]
  congr 1
  by_cases z:a=0
  ·rw[z];rfl
  ·rw[beq_false_of_ne z,beq_false_of_ne (show(a:Int)≠0 by omega)]
noncomputable def c9{α:Type}(b:Nat)(l:List α):List α:=l.drop b++l.take b
theorem zM{α:Type}(b:Nat)(l:List α):(c9 b l).length=l.length:=by unfold c9;rw[cy,Ar,<- cy,ki]
theorem cf1{α:Type}{b:Nat}{l l':List α}(e:l.length=l'.length)(h:c9 b l=c9 b l'):l=l':=by
 unfold c9 at h
 have:=AA h (by rw[fA,fA,e])
 rw[<-ki b l,<- ki b l',this.1,this.2]
theorem b06{α:Type}{b:Nat}{l:List α}(hb:b<=l.length):c9 b (c9 (l.length-b) l)=l:=by
 unfold c9
 rw[List.drop_append_of_le_length (by rw[fA];omega),List.take_append_of_le_length (by rw[fA];omega),tW (l:=l.drop _) (by rw[fA];omega),show List.drop b (List.drop (l.length-b) l)=[] by rw[List.drop_drop];exact EC (by omega)]
 exact ki ..
theorem bM3(b:Nat)(l:List Nat):(c9 b l).count 0=l.count 0:=by
 unfold c9
 rw[List.count_append,Ar,<- List.count_append,ki]
theorem C4{N b:Nat}{l:List Nat}:AllLt N (c9 b l)↔AllLt N l:=by
 unfold c9 AllLt
 constructor
 ·intro h a ha
  rw[<-ki b l]at ha
  exact h a (bP.mpr ((bP.mp ha).symm))
 ·intro h a ha
  refine h a ?_
  rw[<-ki b l]
  exact bP.mpr ((bP.mp ha).symm)
theorem Rt(hm:m∈av){a b c d:List Nat}(h:a.length=c.length)(h':b.length=d.length):gd m (a++b) (c++d)=gp m (gd m a c) (gd m b d):=by
 rw[l9 m (by rw[cy,cy,h,h']),l9 m h,l9 m h',cy,Cw (rg hm) _ _ λ_ _=>bC hm _ _]
 congr 1
 ·exact cX λj hj=>by rw[mX,if_pos hj,mX,if_pos (by omega)]
 ·exact cX λj hj=>by rw[mX,if_neg (by omega),mX,if_neg (by omega),h,Wq,]
theorem Ru(hm:m∈av){x y:List Nat}(b:Nat)(h:x.length=y.length):gd m (c9 b x) (c9 b y)=gd m x y:=by
 unfold c9
 rw[Rt hm (by rw[fA,fA,h]) (by rw[fJ,fJ,h]),jZ,<- Rt hm (by rw[fJ,fJ,h]) (by rw[fA,fA,h]),ki,ki]
theorem Rw(hm:m∈av){T:List (List Nat)}{b n:Nat}(hT:RT (aa m) n T)(h1:ag T=n)(h2:ag (T.map (c9 b))=n){v:List Nat}(hv:v.length=n):Wd m (T.map (c9 b)) (c9 b v)↔Wd m T v:=by
 constructor
 ·intro h
  refine⟨by rw[hv,h1],C4.mp h.lt,λr hr=>?_⟩
  have:=h.z _ (aX.mpr ⟨r,hr,rfl⟩)
  rwa [Ru hm b (by rw[(hT r hr).1,hv])]at this
 ·intro h
  refine⟨by rw[zM,hv,h2],C4.mpr h.lt,λr' bo=>?_⟩
  obtain⟨r,hr,rfl⟩:=aX.mp bo
  rw[Ru hm b (by rw[(hT r hr).1,hv])]
  exact h.z r hr
theorem b76(hm:m∈av){T W:List (List Nat)}{b n:Nat}(hT:RT (aa m) n T)(h1:ag T=n)(h2:ag (T.map (c9 b))=n)(hb:b<=n)(hc:cZ m (T.map (c9 b)))(nd:W.Nodup)(hW:∀v,v∈W↔Wd m T v):(W.map (c9 b)).Perm (eA m n (bx m (T.map (c9 b)))):=by
 obtain⟨n2,m2⟩:=hc.da4
 rw[h2]at n2 m2
 have ln:∀v∈W,v.length=n:=λv hv=>by rw[((hW v).mp hv).ln,h1]
 refine(Wj (EO.mpr (Mj (λ{x y} hx hy ne e=>ne (cf1 (by rw[ln x hx,ln y hy]) e)) nd)) n2).mpr λv=>?_
 rw[m2,aX]
 constructor
 ·rintro⟨u,hu,rfl⟩
  exact(Rw hm hT h1 h2 (ln u hu)).mpr ((hW u).mp hu)
 ·intro hv
  have lv:v.length=n:=by rw[hv.ln,h2]
  have e:=b06 (b:=b) (l:=v) (by omega)
  refine⟨_,(hW _).mpr ((Rw hm hT h1 h2 (by rw[zM,lv])).mp ?_),e⟩
  rw[e];exact hv
theorem b25{W A:List (List Nat)}{b n:Nat}(pm:(W.map (c9 b)).Perm A):fw n W=fw n A:=by
 unfold fw
 refine i6 λj _=>?_
 rw[<-pm.countP_eq,Mg]
 refine xu λw _=>?_
 show(eQ w==j)=true↔(eQ (c9 b w)==j)=true
 unfold eQ
 rw[zM,bM3]
structure Sys(m:Bool × Nat)(r n:Nat)(T:List (List Nat)):Prop where
 len:T.length=r
 rt:RT (aa m) n T
 le:r<=n
 unit:∀i j,i<r->j<r->cf (T.getD i []) j=if i=j then 1 else 0
noncomputable def jC(m:Bool × Nat)(r n:Nat)(T:List (List Nat))(p:Nat):List Nat:=T.map (λl=>aS m 0 (cf l p))++(ER r (n-r)).map λq=>if q=p then 1 else 0
noncomputable def dv(m:Bool × Nat)(r n:Nat)(T:List (List Nat)):List (List Nat):=(ER r (n-r)).map (jC m r n T)
theorem C5{r k j d:Nat}(hj:j<k):(ER r k).getD j d=r+j:=by rw[aJ,List.getElem?_range' hj,xo];rfl
section
variable{r n:Nat}{T:List (List Nat)}
theorem mi:(dv m r n T).length=n-r:=by unfold dv;rw[aY,AL]
theorem C6{j:Nat}(hj:j<n-r):(dv m r n T).getD j []=jC m r n T (r+j):=by
 unfold dv
 rw[kK (jC m r n T) (by rw[AL];exact hj) 0 [],C5 hj]
theorem Sys.db3(S:Sys m r n T)(p:Nat){j:Nat}(hj:j<n-r):cf (jC m r n T p) (r+j)=if r+j=p then 1 else 0:=by
 unfold jC
 rw[mX,if_neg (by rw[aY,S.len];omega),aY,S.len,Wq]
 unfold cf
 rw[kK (λq=>if q=p then 1 else 0) (by rw[AL];exact hj) 0 0,C5 hj]
theorem Sys.early(S:Sys m r n T)(p:Nat){q:Nat}(hq:q<r):cf (jC m r n T p) q=aS m 0 (cf (T.getD q []) p):=by
 unfold jC
 rw[mX,if_pos (by rw[aY,S.len];exact hq)]
 exact kK (λl=>aS m 0 (cf l p)) (by rw[S.len];exact hq) [] 0
theorem Sys.own(S:Sys m r n T):Own m n (dv m r n T) (ER r (n-r)) where
 len:=by rw[mi,AL]
 lt:=λp hp=>by have:=List.mem_range'_1.mp hp;have:=S.le;omega
 one:=λi j hi hj=>by
  rw[mi]at hi hj
  rw[C6 hi,C5 hj,S.db3 _ hj]
  by_cases c:i=j
  ·rw[if_pos (by omega),if_pos c]
  ·rw[if_neg (by omega),if_neg c]
theorem Sys.rows(S:Sys m r n T)(hm:m∈av):RT (aa m) n (dv m r n T):=λx hx=>by
 obtain⟨p,hp,rfl⟩:=aX.mp hx
 have:=S.le
 have lo:=lo1 hm
 refine⟨by unfold jC;rw[cy,aY,S.len,aY,AL];omega,λa ha=>?_⟩
 rcases bP.mp ha with z | z
 ·obtain⟨l,hl,rfl⟩:=aX.mp z
  exact(oH hm (cP hm (S.rt l hl).2 p)).1
 ·obtain⟨q,_,rfl⟩:=aX.mp z
  show(if q=p then 1 else 0)<_
  split<;>omega
theorem Sys.dot(S:Sys m r n T)(hm:m∈av){v:List Nat}(lv:v.length=n)(hv:AllLt (aa m) v){q:Nat}(hq:q<r):gd m (T.getD q []) v=gp m (cf v q) (sm (gp m) (n-r) λj=>gm m (cf (T.getD q []) (r+j)) (cf v (r+j))):=by
 have hT:=(S.rt _ (bZ (show q<T.length by rw[S.len];exact hq) [])).1
 rw[l9 m (by rw[hT,lv]),hT]
 conv=>lhs;rw[show n=r+(n-r) by have:=S.le;omega]
 rw[Cw (rg hm) _ _ λ_ _=>bC hm _ _]
 congr 1
 ·rw[kM (rg hm) (j0:=q) (by exact bC hm _ _) hq λj hj ne=>by rw[S.unit q j hq hj,if_neg λz=>ne z.symm,eE _ _ (bS m hm)],S.unit q q hq hq,if_pos rfl,kI (cP hm hv q)]
theorem Sys.back(S:Sys m r n T)(hm:m∈av){l:List Nat}(hl:l.length=n-r)(al:AllLt (aa m) l){q:Nat}(hq:q<r):gp m (cf (cY m l (dv m r n T) n) q) (sm (gp m) (n-r) λj=>gm m (cf (T.getD q []) (r+j)) (cf l j))=0:=by
 have hT:=(S.rt _ (bZ (show q<T.length by rw[S.len];exact hq) [])).2
 rw[oE m (by rw[mi];exact hl) (by have:=S.le;omega),mi,<- ot (rg hm)]
 refine gx (rg hm) λj hj=>?_
 rw[C6 hj,S.early _ hq,gW m (cf (T.getD q []) (r+j)),<- Hi (bS m hm),(oH hm (cP hm hT _)).2,iB _ _ (bS m hm)]
theorem Sys.words(S:Sys m r n T)(hm:m∈av)(hw:ag T=n)(v:List Nat):(∃l,l.length=(dv m r n T).length/\AllLt (aa m) l/\v=cY m l (dv m r n T) n)↔Wd m T v:=by
 rw[mi]
 have le:=S.le
 have at':=λ{l:List Nat} (hl:l.length=n-r) (al:AllLt (aa m) l) {j:Nat} (hj:j<n-r)=>S.own.at hm (by rw[mi];exact hl) al (j:=j) (by rw[mi];exact hj)
 have at2:∀{l:List Nat},l.length=n-r->AllLt (aa m) l->∀{j:Nat},j<n-r->cf (cY m l (dv m r n T) n) (r+j)=cf l j:=λhl al j hj=>by
  have:=at' hl al hj
  rwa [C5 hj]at this
 constructor
 ·rintro⟨l,hl,al,rfl⟩
  have bl:AllLt (aa m) (cY m l (dv m r n T) n):=CK hm n (by rw[mi];exact hl)
  refine⟨by rw[mf,hw],bl,λx hx=>?_⟩
  obtain⟨q,hq,rfl⟩:=List.mem_iff_getElem.mp hx
  rw[<-zF hq,S.dot hm (mf ..) bl (by rw[<-S.len];exact hq),cX (g:=λj=>gm m (cf (T.getD q []) (r+j)) (cf l j)) λj hj=>by rw[at2 hl al hj]]
  exact S.back hm hl al (by rw[<-S.len];exact hq)
 ·intro h
  have hd:(v.drop r).length=n-r:=by rw[fA,h.ln,hw]
  have al:AllLt (aa m) (v.drop r):=λa ha=>h.lt a (pz ha)
  refine⟨v.drop r,hd,al,j7 (w:=n) (by rw[h.ln,hw]) (mf ..) λk hk=>?_⟩
  by_cases c:k<r
  ·have z:=h.z _ (bZ (show k<T.length by rw[S.len];exact c) [])
   rw[S.dot hm (by rw[h.ln,hw]) h.lt c,cX (g:=λj=>gm m (cf (T.getD k []) (r+j)) (cf (v.drop r) j)) λj hj=>by rw[Qb]]at z
   exact CV hm (cP hm h.lt k) (cP hm (CK hm n (by rw[mi];exact hd)) k) (mV (rg hm) λ_ _=>bC hm _ _) (z.trans (S.back hm hd al c).symm)
  ·obtain⟨j,rfl⟩:=Nat.le.dest (t9.mp c)
   rw[at2 hd al (by omega),Qb]
noncomputable def fF(m:Bool × Nat)(n:Nat)(R:List (List Nat)):List (List Nat):=R.foldl (jB (aa m) λa w r=>cU (gp m) w (r.map (gm m a))) [aK n 0]
theorem Sys.db4(S:Sys m r n T)(hm:m∈av)(hw:ag T=n):(fF m n (dv m r n T)).Nodup/\∀v,v∈fF m n (dv m r n T)↔Wd m T v:=by
 have c1:∀a,a<aa m->id a<aa m:=λa h=>h
 have c2:∀b,b<aa m->∃a,a<aa m/\id a=b:=λb h=>⟨b,h,rfl⟩
 have e:fF m n (dv m r n T)=(fX (aa m) id (dv m r n T).length).map λl=>cY m l (dv m r n T) n:=by
  refine Rn c1 c2 _ λS' x l a hx hl ha=>?_
  obtain⟨rl,CZ⟩:=S.rows hm x hx
  refine j7 (w:=n) (by rw[kh,mf,aY,rl,pq]) (mf ..) λk hk=>?_
  rw[Q8 (by rw[mf];exact hk) (by rw[aY,rl];exact hk),Rj hm hl hk,Qe hm]
  rfl
 rw[e]
 exact⟨S.own.nd hm c1 c2 λ_ _ _ _ h=>h,λv=>(S.own.mem hm c1 c2).trans (S.words hm hw v)⟩
end
end
end L3
namespace HK45
open PySem.W (Frag codeHdIn kitOne nsIn findIn isFn plainGet hasDictIn plainOver makesIn keepIn specialIn typeIn subIn mroIn fnOf codeIn clsIn mg_of mg_none_of CodeHd)
open PySem L2 L3 Mf
seal L2.PSs L2.PS L2.PE L2.PT L2.PA L2.PI L2.PG L2.PO L2.PW
local macro_rules | `(tactic| walk_at "l3") => do
  let l ← (("uU rU uV uW dT nK pW pX dC rN pZ rR rQ rS uS p9 vz sC vB vC uM uN uO uP uQ uR rO yt sq sr rZ vb se vd ve vg vi vj vk iI ix vm vn vo vp sg p7 vw vx gN vD vy uX u3 u4 u5 u6 u7 vE vF rX mM gv jU ju ph tT AM AN rT lM kE su sA vJ vM vL vN vO vQ qi lY vW sN vT iV lZ yX yY da kg t7 pd gJ ud aK qS qT fk fm xv exists_eq_left' exists_eq_left D.bl.injEq D.int.injEq D.lst.injEq D.fz.injEq D.str.injEq D.tup.injEq AO and_true true_and dB tZ nk kX yy yz yA yB yC yD gO lH qf yH yI yJ yK yL eN mJ by4 yE yF yG fM rF AQ AR tQ nq AS AU xj yO yP yQ yR yS yT yU nW qg sG kG sH yM vI vG sI yN nX vH if_true qP if_false reduceIte yV decide_eq_true_eq iy nZ sP y6 qk y0 uY v7 sW vU sS sT sU wa zw sY wt eP s8 jy zx sZ wD wF wH wI wJ sL P6 P7 cl6 cl1 sX wq".splitOn " ").toArray.map fun (s : String) => Lean.mkIdent s.toName).mapM fun i => `(Lean.Parser.Tactic.simpLemma| $i:term)
  `(tactic| (try dsimp only [$l,*]) <;> (try simp only [$l,*]))
noncomputable def top (i:Nat):Stmt:=PySem.Challenge.pw_mendfield_k45_census_counted.main.body.getD i (.Pass ⟨0,0,0,0⟩)
noncomputable abbrev Ia:Stmt:=top 71
theorem Ib:bf ["_law_cell_here","_law_some","_law_primes"] ["_law_cell_here"] (aT Ia):=bt
noncomputable abbrev Ic:Stmt:=top 59
theorem C7:bf ["a","product","found","power"] ["a","product"] (aT Ic):=bt
noncomputable abbrev Ie:Stmt:=top 60
theorem zN:bf ["many","product","step","found"] ["many","product"] (aT Ie):=bt
noncomputable abbrev Ig:Stmt:=top 61
theorem Ih:bf ["powers","logs","n","a"] ["powers"] (aT Ig):=bt
noncomputable abbrev Ii:Stmt:=gF (top 65) 8
theorem at6:bf ["self","n"] ["self","n"] (aT Ii):=bt
noncomputable abbrev Ij:Stmt:=gF (top 65) 0
theorem aD0:bf ["self","many","product"] ["self","many","product"] (aT Ij):=bt
noncomputable abbrev Ik:Stmt:=top 64
theorem aq6:bf ["prime"] ["prime"] (aT Ik):=bt
noncomputable abbrev oM:Stmt:=gF (top 67) 0
theorem au3:bf ["self","prime"] ["self","prime"] (aT oM):=bt
noncomputable abbrev Il:Stmt:=top 62
theorem C8:bf ["powers","logs","many","rows","a"] ["powers","logs"] (aT Il):=bt
noncomputable abbrev Im:Stmt:=top 56
theorem wK:bf ["a","b","quotient","rest","shift"] ["a","b"] (aT Im):=bt
noncomputable abbrev Io:Stmt:=top 57
theorem Ip:bf ["a","half","b"] ["a"] (aT Io):=bt
noncomputable abbrev Iq:Stmt:=top 63
theorem au4:bf ["bits"] ["bits"] (aT Iq):=bt
noncomputable abbrev Ir:Stmt:=top 55
theorem C9:bf ["a","b","product","k"] ["a","b"] (aT Ir):=bt
noncomputable abbrev oN:Stmt:=gF (top 66) 0
theorem Rx:bf ["self","bits","many"] ["self","bits"] (aT oN):=bt
noncomputable abbrev Iu:Stmt:=top 75
theorem aD1:bf ["_law_told_here"] ["_law_told_here"] (aT Iu):=bt
noncomputable abbrev Iw:Stmt:=top 72
theorem aG3:bf ["_law_told_here"] ["_law_told_here"] (aT Iw):=bt
noncomputable abbrev Iy:Stmt:=top 69
theorem aG4:bf ["_law_script","_law_k"] ["_law_script","_law_k"] (aT Iy):=bt
noncomputable abbrev Iz:Stmt:=top 77
theorem wL:bf ["_law_script","_law_told_here","_law_many_here","_law_length"] ["_law_script","_law_told_here"] (aT Iz):=bt
noncomputable abbrev IA:Stmt:=top 16
theorem aJ1:bf ["table"] ["table"] (aT IA):=bt
noncomputable abbrev IB:Stmt:=top 20
theorem Ry:bf ["rows","place","number","row"] ["rows","place"] (aT IB):=bt
noncomputable abbrev IC:Stmt:=gF (top 66) 6
theorem Rz:bf ["self","a","row","by_a"] ["self","a","row"] (aT IC):=bt
noncomputable abbrev ID:Stmt:=gF (top 67) 6
theorem RA:bf ["self","a","row","prime"] ["self","a","row"] (aT ID):=bt
noncomputable abbrev IE:Stmt:=gF (top 66) 7
theorem RB:bf ["self","row","a","other","by_a"] ["self","row","a","other"] (aT IE):=bt
noncomputable abbrev IF:Stmt:=gF (top 67) 7
theorem RC:bf ["self","row","a","other","prime"] ["self","row","a","other"] (aT IF):=bt
noncomputable abbrev IG:Stmt:=top 21
theorem aK2:bf ["field","rows","lead_row","place"] ["field","rows","lead_row","place"] (aT IG):=bt
noncomputable abbrev IH:Stmt:=gF (top 65) 5
theorem aD2:bf ["self","a","b"] ["self","a","b"] (aT IH):=bt
noncomputable abbrev II:Stmt:=top 22
theorem qF:bf ["field","table","done","left","place","number","lead_row"] ["field","table"] (aT II):=bt
noncomputable abbrev IJ:Stmt:=top 28
theorem aK9:bf ["table"] ["table"] (aT IJ):=bt
noncomputable abbrev IK:Stmt:=top 23
theorem bZ8:bf ["rows"] ["rows"] (aT IK):=bt
noncomputable abbrev IL:Stmt:=top 25
theorem RD:bf ["rows","width","taken"] ["rows","width"] (aT IL):=bt
noncomputable abbrev IM:Stmt:=gF (top 66) 2
theorem ay3:bf ["self","a","b"] ["self","a","b"] (aT IM):=bt
noncomputable abbrev IQ:Stmt:=gF (top 67) 2
theorem at7:bf ["self","a","b"] ["self","a","b"] (aT IQ):=bt
noncomputable abbrev IS:Stmt:=top 26
theorem wM:bf ["field","rows","width","taken","found","free","x","lead","row"] ["field","rows","width"] (aT IS):=bt
noncomputable abbrev IT:Stmt:=gF (top 31) 0
theorem RE:bf ["self","field","checks","rows"] ["self","field","checks"] (aT IT):=bt
noncomputable abbrev IU:Stmt:=gF (top 65) 1
theorem aC0:bf ["self","x"] ["self","x"] (aT IU):=bt
noncomputable abbrev IV:Stmt:=top 47
theorem RF:bf ["field","table","width"] ["field","table"] (aT IV):=bt
noncomputable abbrev IW:Stmt:=top 24
theorem cf4:bf ["field","table"] ["field","table"] (aT IW):=bt
noncomputable abbrev IY:Stmt:=top 17
theorem aL0:bf ["table"] ["table"] (aT IY):=bt
noncomputable abbrev IZ:Stmt:=top 35
theorem aG5:bf ["column"] ["column"] (aT IZ):=bt
noncomputable abbrev I0:Stmt:=gF (top 66) 3
theorem ay4:bf ["self","a","b"] ["self","a","b"] (aT I0):=bt
noncomputable abbrev Ja:Stmt:=gF (top 67) 3
theorem at8:bf ["self","a","b"] ["self","a","b"] (aT Ja):=bt
noncomputable abbrev Jb:Stmt:=top 36
theorem wN:bf ["field","column","others","place","inverse","found","other","left"] ["field","column","others"] (aT Jb):=bt
noncomputable abbrev Jc:Stmt:=top 37
theorem qG:bf ["field","table","width","sets","larger","places","behind","number","column","bigger"] ["field","table"] (aT Jc):=bt
noncomputable abbrev Jd:Stmt:=gF (top 48) 0
theorem ay5:bf ["self","field","table"] ["self","field","table"] (aT Jd):=bt
noncomputable abbrev Je:Stmt:=gF (top 31) 2
theorem aG6:bf ["self"] ["self"] (aT Je):=bt
noncomputable abbrev Jf:Stmt:=top 52
theorem tE:bf ["code","field","words","row","larger","a"] ["code"] (aT Jf):=bt
noncomputable abbrev Jg:Stmt:=top 51
theorem Dc:bf ["code","total","place"] ["code"] (aT Jg):=bt
noncomputable abbrev Jh:Stmt:=top 53
theorem Ji:bf ["code","counts","word"] ["code"] (aT Jh):=bt
noncomputable abbrev Jj:Stmt:=top 80
theorem De:bf ["_law_words_here","_law_length","_law_counts_here","_law_word","_law_weight"] ["_law_words_here","_law_length"] (aT Jj):=bt
noncomputable abbrev Jk:Stmt:=top 81
theorem oO:bf ["_law_field_here","_law_many_here","_law_size","_law_words_here","_law_code","_law_refusal","e"] ["_law_field_here","_law_many_here"] (aT Jk):=bt
noncomputable abbrev Jl:Stmt:=top 78
theorem aD3:bf ["_law_told_here","_law_a"] ["_law_told_here","_law_a"] (aT Jl):=bt
noncomputable abbrev Jm:Stmt:=top 74
theorem wO:bf ["_law_told_here","_law_a","_law_b","_law_total"] ["_law_told_here","_law_a","_law_b"] (aT Jm):=bt
noncomputable abbrev Jn:Stmt:=top 73
theorem aG7:bf ["_law_told_here","_law_a","_law_b"] ["_law_told_here","_law_a","_law_b"] (aT Jn):=bt
noncomputable abbrev Jo:Stmt:=top 79
theorem mY:bf ["_law_told_here","_law_length","_law_table","_law_rows","_law_words_here","_law_at","_law_row","_law_further","_law_sign","_law_times_here","_law_word"] ["_law_told_here","_law_length","_law_table"] (aT Jo):=bt
noncomputable abbrev Jp:Stmt:=top 32
theorem RG:bf ["field","length","less_one"] ["field","length"] (aT Jp):=bt
noncomputable abbrev Jq:Stmt:=gF (top 33) 0
theorem au7:bf ["self","field","length"] ["self","field","length"] (aT Jq):=bt
noncomputable abbrev Jr:Stmt:=top 76
theorem aD4:bf ["_law_cell_here","_law_k"] ["_law_cell_here","_law_k"] (aT Jr):=bt
noncomputable abbrev Js:Stmt:=top 70
theorem aD5:bf ["_law_x"] ["_law_x"] (aT Js):=bt
noncomputable abbrev oQ:Stmt:=top 82
theorem jD:bf ["_law_script","_law_told_here","_law_field_here","_law_many_here","_law_kind","_law_length","_law_size","_law_table","_law_i","_law_free","_law_by","_law_code","_law_found","_law_due"] ["_law_script"] (aT oQ):=bt
set_option genInjectivity false in
set_option genSizeOf false in
structure gb where
 RH:Addr
 RI:FuncData
 RJ:Addr
 RK:FuncData
 RL:Addr
 RM:FuncData
 RN:Addr
 RO:FuncData
 zO:Addr
 RP:FuncData
 Jt:Addr
 RQ:FuncData
 RU:Addr
 RV:FuncData
 Ju:Addr
 Jv:FuncData
 RW:Addr
 RX:FuncData
 RY:Addr
 RZ:FuncData
 R0:Addr
 R1:FuncData
 R3:Addr
 R4:FuncData
 R5:Addr
 R6:FuncData
 Jw:Addr
 Jx:FuncData
 R7:Addr
 R8:FuncData
 R9:Addr
 Sa:FuncData
 Sb:Addr
 Sd:FuncData
 Se:Addr
 Sf:FuncData
 Sg:Addr
 Sh:FuncData
 Si:Addr
 Sj:FuncData
 Jy:Addr
 Sk:FuncData
 Jz:Addr
 Sl:FuncData
 JA:Addr
 Sm:FuncData
 JB:Addr
 Sn:FuncData
 So:Addr
 Sq:FuncData
 Df:Addr
 Sr:FuncData
 Ss:Addr
 Su:FuncData
 Sv:Addr
 Sw:FuncData
 Sx:Addr
 Sy:FuncData
 Sz:Addr
 SA:FuncData
 JC:Addr
 SD:FuncData
 JE:Addr
 SE:FuncData
 SF:Addr
 SG:FuncData
 JF:Addr
 SH:FuncData
 Dg:Addr
 SI:FuncData
 SJ:Addr
 SK:FuncData
 SM:Addr
 SN:FuncData
 SO:Addr
 SQ:FuncData
 SR:Addr
 SS:FuncData
 JG:Addr
 SU:FuncData
 JH:Addr
 SV:FuncData
 SW:Addr
 SX:FuncData
 SY:Addr
 S0:FuncData
 JI:Addr
 S1:FuncData
 Dh:Addr
 S2:FuncData
 S3:Addr
 S4:FuncData
 S5:Addr
 S6:FuncData
 S7:Addr
 S8:FuncData
 S9:Addr
 Ta:FuncData
 Tc:Addr
 Td:FuncData
 Te:Addr
 Tf:FuncData
 Tg:Addr
 Th:FuncData
 Ti:Addr
 Tj:FuncData
 Tn:Addr
 To:FuncData
 Tp:Addr
 Tq:FuncData
 JJ:Addr
 Tr:FuncData
 Ts:Addr
 Tt:FuncData
 Tu:Addr
 Tv:FuncData
 Tw:Addr
 Tx:FuncData
 Tz:Addr
 jE:Addr
 TB:Addr
 jF:Addr
 aL:Addr
 eR:Addr
 cC:Addr
 mZ:Addr
 kO:Addr
 jG:Addr
 jH:Addr
 aP:Addr
 dw:Addr
 dQ:Addr
 Di:Tok
structure Txt(K:Frag)(mg:Str->Option Value)(t:gb):Prop where
 TC:Fk K mg "_law_told" Ia ["_law_cell_here"] t.RH t.RI
 JK:Fk K mg "powers_of" Ic ["a","product"] t.RJ t.RK
 Dj:Fk K mg "step_powers" Ie ["many","product"] t.RL t.RM
 Dk:Fk K mg "logs_of" Ig ["powers"] t.RN t.RO
 Dm:Fm K "step_power" "Field.step_power" Ii ["self","n"] t.zO t.RP
 JL:Fm K "__init__" "Field.__init__" Ij ["self","many","product"] t.Jt t.RQ
 Dn:Fk K mg "makes_prime_field" Ik ["prime"] t.RU t.RV
 TF:Fm K "__init__" "PrimeField.__init__" oM ["self","prime"] t.Ju t.Jv
 Dq:Fk K mg "product_rows" Il ["powers","logs"] t.RW t.RX
 tF:Fk K mg "bits_divided" Im ["a","b"] t.RY t.RZ
 TH:Fk K mg "stands_alone" Io ["a"] t.R0 t.R1
 Dr:Fk K mg "makes_bit_field" Iq ["bits"] t.R3 t.R4
 Ds:Fk K mg "bits_times" Ir ["a","b"] t.R5 t.R6
 TJ:Fm K "__init__" "BitField.__init__" oN ["self","bits"] t.Jw t.Jx
 Dt:Fk K mg "_law_field" Iu ["_law_told_here"] t.R7 t.R8
 Du:Fk K mg "_law_many" Iw ["_law_told_here"] t.R9 t.Sa
 mj:Fk K mg "_law_cell" Iy ["_law_script","_law_k"] t.Sb t.Sd
 TK:Fk K mg "_law_small" Iz ["_law_script","_law_told_here"] t.Se t.Sf
 tG:Fk K mg "width_of" IA ["table"] t.Sg t.Sh
 TL:Fk K mg "first_with" IB ["rows","place"] t.Si t.Sj
 TM:Fm K "scaled" "BitField.scaled" IC ["self","a","row"] t.Jy t.Sk
 TN:Fm K "scaled" "PrimeField.scaled" ID ["self","a","row"] t.Jz t.Sl
 TQ:Fm K "lessened" "BitField.lessened" IE ["self","row","a","other"] t.JA t.Sm
 TR:Fm K "lessened" "PrimeField.lessened" IF ["self","row","a","other"] t.JB t.Sn
 JM:Fk K mg "cleared" IG ["field","rows","lead_row","place"] t.So t.Sq
 JN:Fm K "over" "Field.over" IH ["self","a","b"] t.Df t.Sr
 zP:Fk K mg "reduced" II ["field","table"] t.Ss t.Su
 zQ:Fk K mg "copied" IJ ["table"] t.Sv t.Sw
 JO:Fk K mg "leads" IK ["rows"] t.Sx t.Sy
 zR:Fk K mg "free_places" IL ["rows","width"] t.Sz t.SA
 TU:Fm K "minus" "BitField.minus" IM ["self","a","b"] t.JC t.SD
 TV:Fm K "minus" "PrimeField.minus" IQ ["self","a","b"] t.JE t.SE
 Dv:Fk K mg "kernel_of_reduced" IS ["field","rows","width"] t.SF t.SG
 JP:Fm K "__init__" "Code.__init__" IT ["self","field","checks"] t.JF t.SH
 JQ:Fm K "holds" "Field.holds" IU ["self","x"] t.Dg t.SI
 Dw:Fk K mg "is_small_table" IV ["field","table"] t.SJ t.SK
 Dx:Fk K mg "rank" IW ["field","table"] t.SM t.SN
 TX:Fk K mg "turned" IY ["table"] t.SO t.SQ
 TY:Fk K mg "is_nought" IZ ["column"] t.SR t.SS
 TZ:Fm K "times" "BitField.times" I0 ["self","a","b"] t.JG t.SU
 T1:Fm K "times" "PrimeField.times" Ja ["self","a","b"] t.JH t.SV
 T3:Fk K mg "past" Jb ["field","column","others"] t.SW t.SX
 Dy:Fk K mg "first_bound" Jc ["field","table"] t.SY t.S0
 Dz:Fm K "__init__" "CheckCode.__init__" Jd ["self","field","table"] t.JI t.S1
 T4:Fm K "rows" "Code.rows" Je ["self"] t.Dh t.S2
 T5:Fk K mg "all_words" Jf ["code"] t.S3 t.S4
 T6:Fk K mg "how_many_words" Jg ["code"] t.S5 t.S6
 iF:Fk K mg "census" Jh ["code"] t.S7 t.S8
 T7:Fk K mg "_law_counts" Jj ["_law_words_here","_law_length"] t.S9 t.Ta
 DA:Fk K mg "_law_refused" Jk ["_law_field_here","_law_many_here"] t.Tc t.Td
 T8:Fk K mg "_law_minus" Jl ["_law_told_here","_law_a"] t.Te t.Tf
 T9:Fk K mg "_law_times" Jm ["_law_told_here","_law_a","_law_b"] t.Tg t.Th
 Ua:Fk K mg "_law_plus" Jn ["_law_told_here","_law_a","_law_b"] t.Ti t.Tj
 Ub:Fk K mg "_law_words" Jo ["_law_told_here","_law_length","_law_table"] t.Tn t.To
 DB:Fk K mg "repeat_checks" Jp ["field","length"] t.Tp t.Tq
 Uc:Fm K "__init__" "RepeatCode.__init__" Jq ["self","field","length"] t.JJ t.Tr
 Ud:Fk K mg "_law_mixed" Jr ["_law_cell_here","_law_k"] t.Ts t.Tt
 Ue:Fk K mg "_law_whole" Js ["_law_x"] t.Tu t.Tv
 de4:Fk K mg "law" oQ ["_law_script"] t.Tw t.Tx
 aw5:t.Jv.code=.ref t.Tz
 aw6:codeHdIn K t.Tz t.jE=true
 aA0:t.Jx.code=.ref t.TB
 aA1:codeHdIn K t.TB t.jF=true
 gi:df K t.aL
 JR:Mk K t.aL t.Jw
 JS:bj K t.aL "bits"
 wQ:bj K t.aL "logs"
 wR:bj K t.aL "many"
 zS:bj K t.aL "powers"
 wU:bj K t.aL "products"
 JT:bj K t.aL "step"
 JU:bj K t.aL "wide"
 JV:Meth K t.aL "holds" t.Dg
 aq7:Meth K t.aL "lessened" t.JA
 ay6:Meth K t.aL "minus" t.JC
 JW:Meth K t.aL "over" t.Df
 aw7:Meth K t.aL "scaled" t.Jy
 DC:Meth K t.aL "step_power" t.zO
 ay7:Meth K t.aL "times" t.JG
 wV:df K t.cC
 zT:Mk K t.cC t.JI
 JX:bj K t.cC "bound"
 JY:bj K t.cC "check_rows"
 zU:bj K t.cC "field"
 zV:bj K t.cC "length"
 JZ:bj K t.cC "message_places"
 zW:bj K t.cC "size"
 zX:bj K t.cC "word_rows"
 DD:Meth K t.cC "rows" t.Dh
 gH:df K t.aP
 J0:Mk K t.aP t.Ju
 zY:bj K t.aP "logs"
 wW:bj K t.aP "many"
 DE:bj K t.aP "powers"
 tH:bj K t.aP "prime"
 J1:bj K t.aP "step"
 J2:bj K t.aP "wide"
 J3:Meth K t.aP "holds" t.Dg
 ap2:Meth K t.aP "lessened" t.JB
 at9:Meth K t.aP "minus" t.JE
 J4:Meth K t.aP "over" t.Df
 aq8:Meth K t.aP "scaled" t.Jz
 DF:Meth K t.aP "step_power" t.zO
 au0:Meth K t.aP "times" t.JH
 J5:df K t.dw
 J6:Mk K t.dw t.JJ
 J7:bj K t.dw "check_rows"
 DG:bj K t.dw "field"
 DH:bj K t.dw "length"
 J8:bj K t.dw "message_places"
 DI:bj K t.dw "size"
 DJ:bj K t.dw "word_rows"
 J9:Meth K t.dw "rows" t.Dh
 Ug:v9 K t.mZ "__init__" t.JF
 Uh:v9 K t.kO "__init__" t.Jt
 df7:mg "ValueError"=none
 zZ:mg "all"=none
 df8:mg "any"=none
 Ui:mg "bool"=none
 z5:mg "enumerate"=none
 DK:mg "int"=none
 qH:mg "isinstance"=none
 iG:mg "len"=none
 Uj:mg "list"=none
 gY:mg "range"=none
 DL:mg "zip"=none
 df9:mg "MOST_WORDS"=some (.int 4096 t.Di)
 Ka:mg "BitField"=some (.ref t.aL)
 Kb:mg "ByNought"=some (.ref t.eR)
 z7:mg "CheckCode"=some (.ref t.cC)
 DM:mg "Code"=some (.ref t.mZ)
 DN:mg "Field"=some (.ref t.kO)
 Ke:mg "MendError"=some (.ref t.jG)
 Kf:mg "NoCode"=some (.ref t.jH)
 Kg:mg "PrimeField"=some (.ref t.aP)
 Kh:mg "RepeatCode"=some (.ref t.dw)
 DO:mg "TooLarge"=some (.ref t.dQ)
 Uk:BS K mg "ByNought" t.eR
 aM2:uG K t.eR
 aK3:kitOne K (.ref t.eR) (.ref t.jG)=some true
 aL7:kitOne K (.ref t.eR) (.ref t.jH)=some false
 aK8:PySem.W.exmOne K (.ref t.eR) (.ref t.dQ)=some false
 aK1:kitOne K (.ref t.eR) (.type "ValueError")=some true
 dg0:BS K mg "TooLarge" t.dQ
 Ki:uG K t.dQ
 ar1:kitOne K (.ref t.dQ) (.ref t.jG)=some true
 dg2:kitOne K (.ref t.dQ) (.ref t.jH)=some false
 dg3:PySem.W.exmOne K (.ref t.dQ) (.ref t.dQ)=some true
 dg4:kitOne K (.ref t.dQ) (.type "ValueError")=some true
 aL8:kitOne K (.type "NoneType") (.ref t.jG)=some false
 dT8:kitOne K (.type "NoneType") (.ref t.jH)=some false
section
variable{P:Program}{w:World}{K:Frag}{mg:Str->Option Value}{base:Heap}{t:gb}
theorem Ul(T:Txt K mg t)(m:Bool × Nat){Q:D->Prop}(q:Q (.int (aa m))):∃C ns xs v,fD t.aL t.aP m=.obj C ns xs/\df K C/\bj K C "many"/\(ns.zip xs).lookup ("many":Str)=some v/\Q v:=by
 obtain⟨k,n⟩:=m
 cases k with
 | true=>exact⟨_,_,_,_,rfl,T.gi,T.wR,rfl,q⟩
 | false=>exact⟨_,_,_,_,rfl,T.gH,T.wW,rfl,q⟩
noncomputable abbrev gZ(t:gb)(m:Bool × Nat)(G:List (List Nat))(k:Kd):D:=uH t.aL t.aP t.cC t.dw t.cC m G k
theorem DP(T:Txt K mg t)(m:Bool × Nat)(G:List (List Nat))(k:Kd){a:Str}{v:D}(n1:bj K t.cC a)(n2:bj K t.dw a)(n3:bj K t.cC a)(ha:a∈qB)(h:(qB.zip (oI t.aL t.aP false m G)).lookup a=some v){Q:D->Prop}(q:Q v):∃C ns xs v,gZ t m G k=.obj C ns xs/\df K C/\bj K C a/\(ns.zip xs).lookup a=some v/\Q v:=by
 have ha:a="field"\/a="length"\/a="check_rows"\/a="word_rows"\/a="message_places"\/a="size":=by simpa only[cL,i5,or_false]using ha
 rcases ha with rfl | rfl | rfl | rfl | rfl | rfl<;>cases k
 all_goals first | exact⟨_,_,_,v,rfl,T.wV,n1,h,q⟩ | exact⟨_,_,_,v,rfl,T.J5,n2,h,q⟩ | exact⟨_,_,_,v,rfl,T.wV,n3,h,q⟩
theorem Um(T:Txt K mg t)(m:Bool × Nat)(G:List (List Nat))(k:Kd){Q:D->Prop}(q:Q (fD t.aL t.aP m)):∃C ns xs v,gZ t m G k=.obj C ns xs/\df K C/\bj K C "field"/\(ns.zip xs).lookup ("field":Str)=some v/\Q v:=DP T m G k T.zU T.DG T.zU (by decide) rfl q
theorem Kj(T:Txt K mg t)(m:Bool × Nat)(G:List (List Nat))(k:Kd){Q:D->Prop}(q:Q (.int (ag G:Nat))):∃C ns xs v,gZ t m G k=.obj C ns xs/\df K C/\bj K C "length"/\(ns.zip xs).lookup ("length":Str)=some v/\Q v:=DP T m G k T.zV T.DH T.zV (by decide) rfl q
theorem cj3(T:Txt K mg t)(m:Bool × Nat)(G:List (List Nat))(k:Kd){Q:D->Prop}(q:Q (.lst false (aw false (bx m G)))):∃C ns xs v,gZ t m G k=.obj C ns xs/\df K C/\bj K C "word_rows"/\(ns.zip xs).lookup ("word_rows":Str)=some v/\Q v:=DP T m G k T.zX T.DJ T.zX (by decide) rfl q
theorem cm3(T:Txt K mg t)(m:Bool × Nat)(G:List (List Nat))(k:Kd){Q:D->Prop}(q:Q (.int ((bJ m G).length:Nat))):∃C ns xs v,gZ t m G k=.obj C ns xs/\df K C/\bj K C "size"/\(ns.zip xs).lookup ("size":Str)=some v/\Q v:=DP T m G k T.zW T.DI T.zW (by decide) rfl q
theorem ci1(T:Txt K mg t){m:Bool × Nat}{G:List (List Nat)}{k:Kd}{me:Str}{n:Nat}{f:Addr}{fd:FuncData}{ps:List Str}{sp:bh}(h1:Meth K t.cC me f)(h2:Meth K t.dw me f)(h3:Meth K t.cC me f)(F:aO P w K mg base aZ n f fd ps (bq sp))(b:Binds K fd ps [])(nm:me ∉ (["extra","first","field","length","check_rows","word_rows","message_places","size","bound"]:List Str)){ds:List D}{Q:D->Prop}(q:sp (gZ t m G k::ds) Q):∃C ns zs sp,gZ t m G k=.obj C ns zs/\kH P w K mg base n me C sp/\me ∉ ns/\sp (.obj C ns zs::ds) Q:=by
 simp only[cL,i5,or_false,not_or]at nm
 cases k
 ·exact⟨_,_,_,sp,rfl,⟨T.wV,_,_,_,h1,F,b⟩,by simp[nm],q⟩
 ·exact⟨_,_,_,sp,rfl,⟨T.J5,_,_,_,h2,F,b⟩,by simp[nm],q⟩
 ·exact⟨_,_,_,sp,rfl,⟨T.wV,_,_,_,h3,F,b⟩,by simp[nm],q⟩
noncomputable abbrev aG8:bh:=λds Q=>∃c:Int,ds=[.int c]/\Q (dG (qu c))
theorem aG9(T:Txt K mg t):aO P w K mg base aZ 1 t.RH t.RI ["_law_cell_here"] (bq (aG8 )):=by
 refine bO T.TC.F Ib ?_ ?_
 ·intro ds Q h
  obtain⟨c,rfl,q⟩:=h<;>rfl
 ·intro aH A outer s H E hr
  refine⟨_,(aA (aW (i:=1) Ib.nd rfl (ax rfl) (OL (ns:=[7,11,13,19,25,31,37,41,47,55,59,61,67,73,87,91,97,103,109,115,117]) (by decide +kernel)))
   (aA (aW (i:=2) Ib.nd rfl (ax rfl) (OL (ns:=[2,3,5,7,11,13,17,19,23,29,31,37,41,43,47,53,59,61]) (by decide +kernel)))
   (aA (dZ (cH (fS (dF hr)) (ae (aD eO (bv 0) (ae ao))) (ae ao) (bL _)) (aG (bc (uT (cw nJ (cw (dE (bB (bv 1) (ae (aD eO (ae (aD yn (bv 0) (ae ao))) (ae ao))) (λ_ _=>rfl))) cm))))) dY)
   (aG (bc (uT (cw nJ (cw (dE (bB (bv 2) (ae (aD eO (ae (aD yn (bv 0) (ae ao))) (ae ao))) (λ_ _=>rfl))) cm)))))))),λds Q h=>?_⟩
  obtain⟨c,rfl,q⟩:=h
  refine az λU hU=>?_
  walk_at"l3"
  refine⟨by decide,hU _ ?_⟩
  clear hU U
  refine az λU hU=>?_
  walk_at"l3"
  refine⟨by decide,hU _ ?_⟩
  clear hU U
  refine az λU hU=>?_
  walk_at"l3"
  refine⟨by decide,?_⟩
  have n1:=jK (c/2) (show(21:Int)≠0 by decide)
  have n2:=kZ (c/2) (show(0:Int)<21 by decide)
  have n3:=jK (c/2) (show(18:Int)≠0 by decide)
  have n4:=kZ (c/2) (show(0:Int)<18 by decide)
  split
  ·rename_i hc
   refine⟨ym (by decide) (by decide),by decide,_,mS n1 (by simpa using n2),rfl,by decide,?_⟩
   have e:dG (qu c)=.tup [.bl true,.int (([7,11,13,19,25,31,37,41,47,55,59,61,67,73,87,91,97,103,109,115,117]:List Int).getD (c/2%21).toNat 0)]:=by
    unfold qu dG
    rw[if_pos hc]
    have:∀k:Nat,((gU.getD k 0:Nat):Int)=([7,11,13,19,25,31,37,41,47,55,59,61,67,73,87,91,97,103,109,115,117]:List Int).getD k 0:=λk=>by
     show _=(gU.map (λ(n:Nat)=>(n:Int))).getD k ((0:Nat):Int)
     rw[aJ,aJ,cB]
     cases gU[k]?<;>rfl
    rw[<-this]
   rw[<-e];exact q
  ·rename_i hc
   refine hU _ ?_
   walk_at"l3"
   refine⟨ym (by decide) (by decide),by decide,_,mS n3 (by simpa using n4),rfl,by decide,?_⟩
   have e:dG (qu c)=.tup [.bl false,.int (([2,3,5,7,11,13,17,19,23,29,31,37,41,43,47,53,59,61]:List Int).getD (c/2%18).toNat 0)]:=by
    unfold qu dG
    rw[if_neg hc]
    have:∀k:Nat,((oh.getD k 0:Nat):Int)=([2,3,5,7,11,13,17,19,23,29,31,37,41,43,47,53,59,61]:List Int).getD k 0:=λk=>by
     show _=(oh.map (λ(n:Nat)=>(n:Int))).getD k ((0:Nat):Int)
     rw[aJ,aJ,cB]
     cases oh[k]?<;>rfl
    rw[<-this]
   rw[<-e];exact q
noncomputable abbrev aH0(L:Obj->Obj->Addr->Addr->v3->Prop):bh:=λds Q=>∃(a:Nat) (of oc:Obj) (c k:Addr) (g:Nat->Nat->Nat) (l:List Int),ds=[.int a,.bz (.lam of oc c k)]/\L of oc c k (zh g)/\a<64/\G9 g a=some l/\Q (.lst true (aF l))
theorem Uo(T:Txt K mg t):aO P w K mg base aZ 5 t.RJ t.RK ["a","product"] (bq (aH0 (y8 P w K mg base 4))):=by
 refine bO T.JK.F C7 ?_ ?_
 ·intro ds Q h
  obtain⟨a,of,oc,c,k,g,l,rfl,hL,ha,hp,q⟩:=h<;>rfl
 ·intro aH A outer s H E hr
  refine⟨_,(aA (aW (i:=2) C7.nd rfl (ax rfl) (cO (cw ao cm)))
   (aA (aW (i:=3) C7.nd rfl (ax rfl) (Ph (n:=4) (i:=1) rfl (by first | exact ax rfl | exact bV (ax rfl)) (hr.mono (by decide)) (aj (ae ao) (aj (bv 0) ay))))
   (aA (uZ eW (cH (mQ (dF hr)) (bv 3) (ae ao) (bL _))
    (aA (qe (i:=2) rfl (by first | exact ax rfl | exact bV (ax rfl)) (dE (bv 3)))
    (aG (aW (i:=3) C7.nd rfl (ax rfl) (Ph (n:=4) (i:=1) rfl (by first | exact ax rfl | exact bV (ax rfl)) (hr.mono (by decide)) (aj (bv 3) (aj (bv 0) ay)))))))
   (aG (bc (em 2)))))),λds Q h=>?_⟩
  obtain⟨a,of,oc,c,k,g,l,rfl,hL,ha,hp,q⟩:=h
  refine az λU hU=>?_
  walk_at"l3"
  refine⟨by decide,hU _ ?_⟩
  clear hU U
  refine az λU hU=>?_
  walk_at"l3"
  refine⟨of,oc,c,k,zh g,rfl,hL,1,a,⟨rfl,rfl⟩,1,a,rfl,rfl,by decide,ha,hU _ ?_⟩
  clear hU U
  refine az λU hU=>?_
  walk_at"l3"
  refine⟨λm δ=>∃(p:Nat) (acc:List Int),δ=[some (.int a),some (.bz (.lam of oc c k)),some (.lst true (aF acc)),some (.int p)]/\acc.length+m<=70/\Ce g a m p acc=some l,⟨64,_,[1],rfl,by decide,hp⟩,?_⟩
  rintro m δ ⟨p,acc,rfl,hn,hg⟩
  walk_at"l3"
  cases m with
  | zero=>cases hg
  | succ m =>
   unfold Ce at hg
   split at hg
   ·rename_i h1
    subst h1
    cases hg
    rw[if_neg (by simp)]
    refine hU _ ?_
    walk_at"l3"
    exact q
   ·rename_i h1
    rw[if_pos (by simp;omega)]
    split at hg
    ·rename_i h2
     clear hU
     refine az λU hU=>?_
     walk_at"l3"
     refine⟨⟨_,rfl⟩,by omega,hU _ ?_⟩
     clear hU
     walk_at"l3"
     exact⟨of,oc,c,k,zh g,rfl,hL,p,a,⟨rfl,rfl⟩,p,a,rfl,rfl,h2,ha,m,by omega,g p a,acc++[(p:Int)],⟨by rw[<-sH];rfl,rfl⟩,by simp;omega,hg⟩
    ·cases hg
noncomputable abbrev aC1(L:Obj->Obj->Addr->Addr->v3->Prop):bh:=λds Q=>∃(n:Nat) (of oc:Obj) (c k:Addr) (g:Nat->Nat->Nat) (l:List Int),ds=[.int n,.bz (.lam of oc c k)]/\L of oc c k (zh g)/\ze g n=some l/\Q (.lst true (aF l))
theorem aC2(T:Txt K mg t):aO P w K mg base aZ 6 t.RL t.RM ["many","product"] (bq (aC1 (y8 P w K mg base 4))):=by
 refine bO T.Dj.F zN ?_ ?_
 ·intro ds Q h
  obtain⟨n,of,oc,c,k,g,l,rfl,hL,hp,q⟩:=h<;>rfl
 ·intro aH A outer s H E hr
  refine⟨_,(aA (aW (i:=2) zN.nd rfl (ax rfl) ao)
   (aA (aW (i:=3) zN.nd rfl (ax rfl) (cA T.JK (Uo T) hr (aj (bv 2) (aj (bv 1) ay))))
   (aA (uZ eW (cH vq (ae (fU (iU) (by rfl) T.iG ie (aj (bv 3) ay))) (ae (aD gQ (bv 0) (ae ao))) (bL _))
    (aA (yg (i:=2) zN.nd rfl (ax rfl) (ae ao) cA9)
    (aG (aW (i:=3) zN.nd rfl (ax rfl) (cA T.JK (Uo T) hr (aj (bv 2) (aj (bv 1) ay)))))))
   (aG (bc (em 3)))))),λds Q h=>?_⟩
  obtain⟨n,of,oc,c,k,g,l,rfl,hL,hp,q⟩:=h
  unfold ze at hp
  split at hp
  ·rename_i l0 h0
   refine az λU hU=>?_
   walk_at"l3"
   refine hU _ ?_
   clear hU U
   refine az λU hU=>?_
   walk_at"l3"
   refine⟨1,of,oc,c,k,g,l0,rfl,hL,by decide,h0,hU _ ?_⟩
   clear hU U
   refine az λU hU=>?_
   walk_at"l3"
   refine⟨λm δ=>∃(st:Nat) (l1:List Int),δ=[some (.int n),some (.bz (.lam of oc c k)),some (.int st),some (.lst true (aF l1))]/\st+m<=63/\Cf g n m st l1=some l,⟨62,1,l0,rfl,by decide,hp⟩,?_⟩
   rintro m δ ⟨st,l1,rfl,hn,hg⟩
   walk_at"l3"
   cases m with
   | zero=>cases hg
   | succ m =>
    unfold Cf at hg
    split at hg
    ·rename_i h1
     rw[if_pos (by omega)]
     split at hg
     ·rename_i l2 h2
      clear hU
      refine az λU hU=>?_
      walk_at"l3"
      refine hU _ ?_
      clear hU
      walk_at"l3"
      exact⟨st+1,of,oc,c,k,g,l2,rfl,hL,by omega,h2,m,by omega,st+1,l2,⟨rfl,rfl⟩,by omega,hg⟩
     ·cases hg
    ·rename_i h1
     rw[if_neg (by omega)]
     cases hg
     refine hU _ ?_
     walk_at"l3"
     exact q
  ·cases hp
noncomputable abbrev aK4:bh:=λds Q=>∃(l:List Int),ds=[.lst false (aF l)]/\l.length<=64/\(∀x∈l,0<=x/\x.toNat<=l.length)/\Q (.lst true (aF (e5 l)))
theorem aK5(T:Txt K mg t):aO P w K mg base aZ 1 t.RN t.RO ["powers"] (bq (aK4 )):=by
 refine bO T.Dk.F Ih ?_ ?_
 ·intro ds Q h
  obtain⟨l,rfl,hl,hx,q⟩:=h<;>rfl
 ·intro aH A outer s H E hr
  refine⟨_,(aA (aW (i:=1) Ih.nd rfl (ax rfl) (aD fQ (ae (cO (cw ao cm))) (ae (aD cS (ae (fU (iU) (by rfl) T.iG ie (aj (bv 0) ay))) (ae ao)))))
   (aA (gg eW rfl (yZ rfl T.z5 (aj (bv 0) ay)) (vV (i1:=2) (i2:=3) rfl Ih.nd rfl (ax rfl) rfl (ax rfl))
    (aG (yx (i:=1) rfl (by first | exact ax rfl | exact bV (ax rfl)) (dE (bv 2)) (bv 3))))
   (aG (bc (em 1))))),λds Q h=>?_⟩
  obtain⟨l,rfl,hl,hx,q⟩:=h
  refine az λU hU=>?_
  walk_at"l3"
  refine⟨by decide,⟨by omega,by omega,by omega⟩,hU _ ?_⟩
  clear hU U
  refine az λU hU=>?_
  walk_at"l3"
  refine gu.mk (λi δ=>∃o1 o2,δ=[some (.lst false (aF l)),some (.lst true (aF (oi l i))),o1,o2]) ⟨none,none,?_⟩ ?_ ?_
  ·rw[show((l.length:Int)+1).toNat=l.length+1 by omega];rfl
  ·rintro i d δ hd ⟨o1,o2,rfl⟩
   obtain⟨hi,rfl⟩:∃h:i<l.length,d=.tup [.int i,.int l[i]]:=by
    unfold gR aF at hd
    rw[EE,cB]at hd
    by_cases hi:i<l.length
    ·rw[aQ hi]at hd
     simp at hd
     exact⟨hi,hd.symm⟩
    ·rw[fY (by omega)]at hd;simp at hd
   have cV:=hx l[i] (eB _)
   walk_at"l3"
   refine⟨_,(l[i]).toNat,rfl,?_,_,_,?_,rfl,rfl⟩
   ·unfold jl
    rw[nW,zi,if_pos cV.1,if_pos (by omega)]
   ·unfold aF
    rw[<-EH]
    congr 1
    show _=(oi l i).set (l.getD i 0).toNat (i:Int)
    rw[aJ,aQ hi];rfl
  ·rintro δ ⟨o1,o2,rfl⟩
   refine hU _ ?_
   simp only[uU,rU,uV,uW,dT,nK,pW,pX,dC,rN,pZ,rR,rQ,rS,uS,p9,vz,sC,vB,vC,uM,uN,uO,uP,uQ,uR,rO,yt,sq,sr,rZ,vb,se,vd,ve,vg,vi,vj,vk,iI,ix,vm,vn,vo,vp,sg,p7,vw,vx,gN,vD,vy,uX,u3,u4,u5,u6,u7,vE,vF,rX,mM,gv,jU,ju,ph,tT,AM,AN,rT,lM,kE,su,sA,vJ,vM,vL,vN,vO,vQ,qi,lY,vW,sN,vT,iV,lZ,yX,yY,da,kg,t7,pd,gJ,ud,aK,qS,qT,fk,fm,xv,exists_eq_left',exists_eq_left,D.bl.injEq,D.int.injEq,D.lst.injEq,D.fz.injEq,D.str.injEq,D.tup.injEq,AO,and_true,true_and,dB,tZ,nk,kX,yy,yz,yA,yB,yC,yD,gO,lH,qf,yH,yI,yJ,yK,yL,eN,mJ,by4,yE,yF,yG,fM,rF,AQ,AR,tQ,nq,AS,AU,xj,yO,yP,yQ,yR,yS,yT,yU,nW,qg,sG,kG,sH,yM,vI,vG,sI,yN,nX,vH,if_true,qP,if_false,reduceIte,yV,decide_eq_true_eq,iy,nZ,sP,y6,qk,y0,uY,v7,sW,vU,sS,sT,sU,wa,zw,sY,wt,eP,s8,jy,zx,sZ,wD,wF,wH,wI,wJ,vS]
   exact q
noncomputable abbrev Kk(K:Frag):bh:=λds Q=>∃(C:Addr) (ns:List Str) (xs:List D) (n:Int) (many:Nat) (l:List Int) (r:Int),ds=[.obj C ns xs,.int n]/\df K C/\bj K C "powers"/\bj K C "many"/\(ns.zip xs).lookup ("powers":Str)=some (.lst false (aF l))/\(ns.zip xs).lookup ("many":Str)=some (.int many)/\2<=many/\l[(n%((many:Int)-1)).toNat]?=some r/\Q (.int r)
theorem Kl(T:Txt K mg t):aO P w K mg base aZ 1 t.zO t.RP ["self","n"] (bq (Kk K)):=by
 refine bO T.Dm.F at6 ?_ ?_
 ·intro ds Q h
  obtain⟨C,ns,xs,n,many,l,r,rfl,hC,h1,h2,h3,h4,h5,h6,q⟩:=h<;>rfl
 ·intro aH A outer s H E hr
  refine⟨_,(aG (bc (dE (bB (fW (K:=K) (bv 0)) (ae (aD eO (bv 1) (ae (aD gQ (fW (K:=K) (bv 0)) (ae ao))))) (λ_ _=>rfl))))),λds Q h=>?_⟩
  obtain⟨C,ns,xs,n,many,l,r,rfl,hC,h1,h2,h3,h4,h5,h6,q⟩:=h
  walk_at"l3"
  refine⟨C,ns,xs,_,rfl,hC,h1,h3,C,ns,xs,_,rfl,hC,h2,h4,?_⟩
  refine⟨by omega,_,pL (d:=.int r) (jK _ (by omega)) ?_,rfl,q⟩
  unfold aF
  rw[cB,h6];rfl
noncomputable abbrev aD6(P:Program)(w:World)(K:Frag)(mg:Str->Option Value)(base:Heap)(fs:Addr):Sp:=λvs H Q _=>∃(x dx f C:Addr) (b:Str) (n0:Int) (many:Nat) (of oc:Obj) (c k:Addr) (g:Nat->Nat->Nat) (l:List Int) (st:Int),
 vs=[.ref x,.int many,.ref f]/\H x=some (.ins C dx [(b,.int n0)])/\(∀n∈(["many","wide","powers","logs","step","step_power"]:List Str),b≠n)/\cX2 K C fs/\kD H f of oc c k/\y8 P w K mg base 4 of oc c k (zh g)/\PF g many l st /\
 ∀H' p1 p2,bR x H H'->H' x=some (.ins C dx ((iA b).zip (Cg n0 many p1 p2 st)))->LI H' p1 l->LI H' p2 (e5 l)->p1≠p2->H p1=none->H p2=none->Q .aq H'
theorem Up(T:Txt K mg t):aO P w K mg base aZ 7 t.Jt t.RQ ["self","many","product"] (aD6 P w K mg base t.zO):=by
 refine T.JL.F.ok aD0 (λvs H Q E h=>?_) λaH A outer s H vs Q E hr h=>?_
 ·obtain⟨x,dx,f,C,b,n0,many,of,oc,c,k,g,l,st,rfl,_⟩:=h;rfl
 obtain⟨x,dx,f,C,b,n0,many,of,oc,c,k,g,l,st,rfl,hx,hb,hC,dh6,hL,hF,q⟩:=h
 refine⟨_,fK (iM (pv 0) (pv 1) rfl) (fK (iM (pv 0) (xO Fc (FD (pv 1)) pI) rfl)
  (fK (iM (pv 0) (jh ((aC2 T).mono (by decide)) hr rfl T.Dj.g T.Dj.F.kp T.Dj.b .nil dX (b8 (pv 1) (b8 (pv 2) eX))) rfl)
  (fK (iM (pv 0) (jh ((aK5 T).mono (by decide)) hr rfl T.Dk.g T.Dk.F.kp T.Dk.b .nil dX (b8 (rm (pv 0) rfl) eX)) rfl)
  (kr (iM (pv 0) (Ym (pv 0) hC.cls hC.sp ((Kl T).mono (by decide)) hr T.Dm.b .nil dX (b8 pI eX)) rfl))))),?_⟩
 try dsimp only[lY,lZ]
 have nb:∀n∈(["many","wide","powers","logs","step","step_power"]:List Str),b≠n:=hb
 refine⟨.int many,rfl,.ref x,rfl,x,C,dx,_,rfl,hx,hC.cls,hC.many,ni (bD 1) (by decide),?_⟩
 rw[we (by simpa using nb "many" (by simp))]
 generalize e1:upd H x (HO.ins C dx ([(b,V.int n0)]++[(("many":Str),V.int many)]))=H1
 have cV:H1 x=some (.ins C dx [(b,V.int n0),(("many":Str),V.int many)]):=by rw[<-e1,bH];rfl
 have s1:bR x H H1:=by rw[<-e1];exact bR.upd (C:=C) (dx:=dx) hx rfl
 have l1:kD H1 f of oc c k:=by rw[<-e1];exact dh6.sV hx
 have n1:∀p,H1 p=none->H p=none:=λp h=>zj hx (by rw[e1];exact h)
 refine⟨_,rfl,rfl,_,rfl,rfl,_,_,rfl,rfl,.ref x,rfl,x,C,dx,_,rfl,cV,hC.cls,hC.wide,ni (bD 2) (by decide),?_⟩
 rw[we (by simp;exact⟨nb "wide" (by simp),by decide⟩),i7]
 generalize e2:upd H1 x (HO.ins C dx ([(b,V.int n0),(("many":Str),V.int many)]++[(("wide":Str),V.int ((bl many:Nat)-1))]))=H2
 have ff:H2 x=some (.ins C dx [(b,V.int n0),(("many":Str),V.int many),(("wide":Str),V.int ((bl many:Nat)-1))]):=by rw[<-e2,bH];rfl
 have s2:bR x H H2:=by rw[<-e2];exact s1.trans (bR.upd (C:=C) (dx:=dx) cV rfl)
 have l2:kD H2 f of oc c k:=by rw[<-e2];exact l1.sV cV
 have n2:∀p,H2 p=none->H p=none:=λp h=>n1 p (zj cV (by rw[e2];exact h))
 refine⟨_,rfl,_,rfl,H2,[.int many,.bz (.lam of oc c k)],λd=>d=.lst true (aF l),af.refl _,.int (.bz l2 .nil),⟨many,of,oc,c,k,g,l,rfl,hL,hF.step,rfl⟩,λd v F' H3 A' hd hs hf he h3 r nd fr=>?_⟩
 subst hd
 obtain⟨p1,rfl,hp1,z9⟩:=PD r fr
 have gI:=hs.get _ _ ff
 have s3:=s2.trans (hs.x (x:=x))
 refine⟨.ref x,rfl,x,C,dx,_,rfl,gI,hC.cls,hC.Ha,ni (bD 3) (by decide),?_⟩
 rw[we (by simp;exact⟨nb "powers" (by simp),by decide,by decide⟩)]
 generalize e4:upd H3 x (HO.ins C dx ([(b,V.int n0),(("many":Str),V.int many),(("wide":Str),V.int ((bl many:Nat)-1))]++[(("powers":Str),V.ref p1)]))=H4
 have kP:H4 x=some (.ins C dx [(b,V.int n0),(("many":Str),V.int many),(("wide":Str),V.int ((bl many:Nat)-1)),(("powers":Str),V.ref p1)]):=by rw[<-e4,bH];rfl
 have s4:bR x H H4:=by rw[<-e4];exact s3.trans (bR.upd (C:=C) (dx:=dx) gI rfl)
 have p4:LI H4 p1 l:=by rw[<-e4];exact hp1.upd gI (λws z=>by cases z)
 have n4:∀p,H4 p=none->H p=none:=λp h=>n2 p (hs.free (zj gI (by rw[e4];exact h)))
 refine⟨.ref x,rfl,x,C,dx,_,.ref p1,rfl,kP,hC.cls,hC.Ha,by rw[Ci (nb "powers" (by simp))];rfl,H4,[.lst false (aF l)],λd=>d=.lst true (aF (e5 l)),af.refl _,.shr p4 (lV l) .nil,⟨l,rfl,by have:=hF.len;have:=hF.hi;omega,hF.ins,rfl⟩,λd v F' H5 A' hd kQ hf he h3 r nd fr=>?_⟩
 subst hd
 obtain⟨p2,rfl,Uq,tI⟩:=PD r fr
 have iY:=kQ.get _ _ kP
 have s5:=s4.trans (kQ.x (x:=x))
 have dh8:p1≠p2:=λz=>by rw[<-z]at tI;unfold LI at p4;rw[tI]at p4;cases p4
 refine⟨.ref x,rfl,x,C,dx,_,rfl,iY,hC.cls,hC.cX3,ni (bD 4) (by decide),?_⟩
 rw[we (by simp;exact⟨nb "logs" (by simp),by decide,by decide,by decide⟩)]
 generalize e6:upd H5 x (HO.ins C dx ([(b,V.int n0),(("many":Str),V.int many),(("wide":Str),V.int ((bl many:Nat)-1)),(("powers":Str),V.ref p1)]++[(("logs":Str),V.ref p2)]))=H6
 have qI:H6 x=some (.ins C dx (([b,"many","wide","powers","logs"]:List Str).zip [V.int n0,V.int many,V.int ((bl many:Nat)-1),V.ref p1,V.ref p2])):=by rw[<-e6,bH];rfl
 have s6:bR x H H6:=by rw[<-e6];exact s5.trans (bR.upd (C:=C) (dx:=dx) iY rfl)
 have p6:LI H6 p1 l:=by rw[<-e6];exact(p4.same kQ).upd iY (λws z=>by cases z)
 have q6:LI H6 p2 (e5 l):=by rw[<-e6];exact Uq.upd iY (λws z=>by cases z)
 refine⟨.ref x,rfl,x,dx,_,rfl,qI,by show m6 ("step_power":Str) ((b,V.int n0)::_)=none;rw[Ci (nb "step_power" (by simp))];rfl,H6,[.obj C [b,"many","wide","powers","logs"] [.int n0,.int many,.int ((bl many:Nat)-1),.lst false (aF l),.lst false (aF (e5 l))],.int 1],λd=>d=.int st,af.refl _,
  .obj qI rfl (.int (.int (.int (.shr p6 (lV l) (.shr q6 (lV _) .nil))))) (.int .nil),⟨C,_,_,1,many,l,st,rfl,hC.cls,hC.Ha,hC.many,by show m6 ("powers":Str) ((b,D.int n0)::_)=_;rw[Ci (nb "powers" (by simp))];rfl,by show m6 ("many":Str) ((b,D.int n0)::_)=_;rw[Ci (nb "many" (by simp))];rfl,hF.lo,hF.st,rfl⟩,λd v F' H7 A' hd oR hf he h3 r nd fr=>?_⟩
 subst hd
 cases r
 have m3:=oR.get _ _ qI
 refine⟨.ref x,rfl,x,C,dx,_,rfl,m3,hC.cls,hC.step,ni (bD 5) (by decide),?_⟩
 rw[we (by simp;exact⟨nb "step" (by simp),by decide,by decide,by decide,by decide⟩)]
 refine q _ p1 p2 ((s6.trans (oR.x (x:=x))).trans (bR.upd (C:=C) (dx:=dx) m3 rfl)) (by rw[bH];rfl) ((p6.same oR).upd m3 (λws z=>by cases z)) ((q6.same oR).upd m3 (λws z=>by cases z)) dh8 (n2 p1 z9) (n4 p2 tI)
noncomputable abbrev ar2:bh:=λds Q=>∃a:Int,ds=[.int a]/\Q (.bl (decide (2<=a)&&decide (a<=61)&&(aM (a.toNat-2)).all λi=>a%(2+(i:Int)) != 0))
theorem ar3(T:Txt K mg t):aO P w K mg base aZ 1 t.RU t.RV ["prime"] (bq (ar2 )):=by
 refine bO T.Dn.F aq6 ?_ ?_
 ·intro ds Q h
  obtain⟨a,rfl,q⟩:=h<;>rfl
 ·intro aH A outer s H E hr
  refine⟨_,(aG (bc (rP (ae (Gu p5 p5 (ae ao) (bv 0) (ae ao))) (xF (fU (yu rfl) (by rfl) T.zZ x6 (aj (ae (eI [("prime",0)] ["d"] rfl (rW rfl T.gY (aj (ae ao) (aj (bv 0) ay))) (λ_ _ _ _=>(fg (i:=1) (show(["prime","d"]:List Str).Nodup by decide +kernel))) (λ_ _ _ _=>eZ) (λ_ _ _ _=>(pY (mQ (dF hr)) (ae (aD eO (bv 0) (bv 1))) (ae ao) (bL _))) rfl)) ay)))))),λds Q h=>?_⟩
  obtain⟨a,rfl,q⟩:=h
  walk_at"l3"
  split
  ·rename_i h1
   split
   ·rename_i h2
    refine⟨2,a,⟨rfl,rfl⟩,⟨by decide,by decide,by omega,by omega⟩,?_⟩
    have e0:(a-2).toNat=a.toNat-2:=by omega
    rw[e0]
    refine fB (aM (a.toNat-2)) (λ(k:Nat)=>D.int (2+(k:Int))) (λ(k:Nat)=>D.bl (a%(2+(k:Int)) != 0)) (by rw[yh]) (λx y h=>by injection h with h;omega) (λk hk=>?_) (.inr λ_ _=>rfl) (by rw[cq,sL];omega) ?_
    ·walk_at"l3"
     refine⟨by omega,?_⟩
     by_cases z:a%(2+(k:Int))=0<;>simp[z]
    ·refine⟨(aM (a.toNat-2)).map λ(k:Nat)=>a%(2+(k:Int)) != 0,?_,?_⟩
     ·unfold nR;rw[bW];rfl
     ·have e:(decide (2<=a)&&decide (a<=61)&&(aM (a.toNat-2)).all λi=>a%(2+(i:Int)) != 0)=((aM (a.toNat-2)).map λ(k:Nat)=>a%(2+(k:Int)) != 0).all id:=by
       simp[h1,h2,pk]
      rw[<-e];exact q
   ·rename_i h2
    have e:(decide (2<=a)&&decide (a<=61)&&(aM (a.toNat-2)).all λi=>a%(2+(i:Int)) != 0)=false:=by simp[h2]
    rw[e]at q;exact q
  ·rename_i h1
   have e:(decide (2<=a)&&decide (a<=61)&&(aM (a.toNat-2)).all λi=>a%(2+(i:Int)) != 0)=false:=by simp[h1]
   rw[e]at q;exact q
noncomputable abbrev aC3:List D->List Str->List D->Prop:=λds ns xs=>∃p:Nat,ds=[.int p]/\p∈oh/\ns=iA "prime"/\xs=[.int p,.int p,.int ((bl p:Nat)-1),.lst true (aF (fl (false,p))),.lst true (aF (e5 (fl (false,p)))),.int (fst (false,p))]
theorem aw9(T:Txt K mg t)(hB:Bm mg base):aO P w K mg base aZ 8 t.Ju t.Jv ["self","prime"] (G8 [t.jE,t.jF] t.aP aC3):=by
 refine PB T.TF.F T.aw5 au3 (λvs H Q E h=>?_) λA outer s H vs Q E hr h=>?_
 ·obtain⟨x,dx,b9,ds,ns,xs,rfl,_,_,r,⟨p,rfl,_⟩,_⟩:=h
  have:=r.length
  simp at this
  simp[this]
 obtain⟨x,dx,b9,ds,ns,xs,rfl,tb,hx,r,⟨p,rfl,hp,rfl,rfl⟩,q⟩:=h
 obtain rfl:b9=[.int p]:=by
  cases r with
  | int r=>cases r;rfl
 have hm:(false,p)∈av:=dM _ (AE hp)
 have hF:=dm hm
 refine⟨_,fK (uk (Bc (A8 (jh ((ar3 T).mono (by decide)) hr rfl T.Dn.g T.Dn.F.kp T.Dn.b .nil dX (b8 (pv 1) eX)))) (kr xG) q0)
  (fK (iM (pv 0) (pv 1) rfl)
  (kr (uj (Pr (E:=E0) (i:=1) T.Uh ((Up T).mono (by decide)) hr T.JL.b rfl T.DN rfl rfl rfl rfl (b8 (pv 0) (b8 (pv 1) (b8 (Pj rfl rfl T.aw6 hB) eX))))))),?_⟩
 try dsimp only[lY,lZ]
 refine⟨_,rfl,H,[.int p],λd=>d=.bl true,af.refl _,.int .nil,⟨p,rfl,by rw[b51 p hp]⟩,λd v F' H1 A1 hd fG hf he h3 r nd fr=>?_⟩
 subst hd
 cases r
 refine⟨true,rfl,?_⟩
 refine jm ?_
 have cV:=fG.get _ _ hx
 refine⟨.int p,rfl,.ref x,rfl,x,t.aP,dx,_,rfl,cV,T.gH,T.tH,by decide,?_⟩
 generalize e2:upd H1 x (HO.ins t.aP dx (bM "prime" (.int p) []))=H2
 have ff:H2 x=some (.ins t.aP dx [(("prime":Str),.int p)]):=by rw[<-e2,bH];rfl
 have s2:bR x H H2:=by rw[<-e2];exact(fG.x (x:=x)).trans (bR.upd (C:=x) (dx:=dx) cV rfl)
 have n2:∀p,H2 p=none->H p=none:=λp h=>fG.free (zj cV (by rw[e2];exact h))
 obtain⟨ps,hP⟩:=tb t.jE (by simp)
 obtain⟨more,Km⟩:=s2.tb _ ps hP
 refine⟨.ref x,rfl,.int p,rfl,⟨_,Km⟩,λf k qn pm jx H3 nf Aa hk kf g5 hl3=>?_⟩
 refine⟨f,_,_,.int p,Aa,rfl,rfl,λoc u je hu nc qo=>?_⟩
 obtain⟨tm,rfl⟩:∃tm,u=xf p tm:=hu
 have gI:=g5.get _ _ ff
 refine⟨x,dx,f,t.aP,"prime",p,p,_,oc,_,k,gm (false,p),fl (false,p),fst (false,p),rfl,zk gI (λz=>by rw[z,nf]at ff;cases ff) nc,by decide,⟨T.gH,T.wW,T.J2,T.DE,T.zY,T.J1,T.DF⟩,PJ qo nc hk kf,?_,hF,λH' p1 p2 sx dD Kn xS ne z9 tI=>?_⟩
 ·refine Py (n:=3) ⟨rfl,rfl,rfl,by decide,rfl,rfl,by decide,by decide,rfl⟩ je (λu1 u2=>rfl) λq f A outer s H E hr=>?_
  refine⟨_,aD eO (ae (aD fQ (bv 0) (bv 1))) (bv 2),λi j Qd h=>?_⟩
  obtain⟨a,b,rfl,rfl,ha,hb,hq⟩:=h
  walk_at"l3"
  have hp0:2<=p:=hF.lo
  refine⟨jO.ok (.inr ⟨by omega,by omega⟩),by omega,?_⟩
  have e:((gm (false,p) a b:Nat):Int)=(a:Int)*b%p:=by
   show((a*b%p:Nat):Int)=_
   rw[qR,ue]
  rw[<-e];exact hq
 ·have gf:H' f=some (.ext (jS _ oc _ f)):=sx.get f _ (λz=>by rw[z]at nf;rw[nf]at ff;cases ff) (by rw[aU qo.symm,bH]) rfl
  have gc:=sx.get _ _ (eJ gI nc).symm bH rfl
  refine⟨gf,gc,?_⟩
  refine q _ (Cg p p p1 p2 (fst (false,p))) [p1,p2] (s2.trans (PH g5 nf nc sx)) ?_ rfl ?_ (by simp[ne]) (λa ha=>?_)
  ·rw[iz (λz=>by rw[z,gf]at dD;cases dD) (λz=>by rw[z,gc]at dD;cases dD)];exact dD
  ·exact .int (.int (.int (.own (Kn.rem gf gc) rfl (lV _) (.own (xS.rem gf gc) rfl (lV _) (.int .nil)))))
  ·simp at ha
   rcases ha with rfl | rfl
   ·exact n2 _ (Cj g5 z9)
   ·exact n2 _ (Cj g5 tI)
noncomputable abbrev aB1:bh:=λds Q=>∃(l g:List Int),ds=[.lst false (aF l),.lst false (aF g)]/\1<=l.length/\l.length<=63/\g.length=l.length+1/\(∀x∈g,0<=x)/\Q (.lst true (qt l g))
theorem aB2(T:Txt K mg t):aO P w K mg base aZ 1 t.RW t.RX ["powers","logs"] (bq (aB1 )):=by
 refine bO T.Dq.F C8 ?_ ?_
 ·intro ds Q h
  obtain⟨l,g,rfl,h1,h2,h3,h4,q⟩:=h<;>rfl
 ·intro aH A outer s H E hr
  refine⟨_,(aA (aW (i:=2) C8.nd rfl (bV rfl) (aD cS (ae (fU (iU) (by rfl) T.iG ie (aj (bv 0) ay))) (ae ao)))
   (aA (aW (i:=3) C8.nd rfl (ax rfl) (cO (cw (aD fQ (ae (cO (cw ao cm))) (bv 2)) cm)))
   (aA (gg eW rfl (rW rfl T.gY (aj (ae ao) (aj (bv 2) ay))) (ir (i:=4) C8.nd rfl (bV rfl))
    (aG (qe (i:=3) rfl (by first | exact ax rfl | exact bV (ax rfl)) (aD cS (ae (cO (cw ao cm))) (ae (eI [("powers",0),("many",2),("logs",1),("a",4)] ["b"] rfl (rW rfl T.gY (aj (ae ao) (aj (bv 2) ay))) (λ_ _ _ _=>(fg (i:=4) (show(["powers","many","logs","a","b"]:List Str).Nodup by decide +kernel))) (λ_ _ _ _=>eZ) (λ_ _ _ _=>(dE (bB (bv 0) (ae (aD eO (ae (aD cS (bB (bv 2) (bv 3) (λ_ _=>rfl)) (bB (bv 2) (bv 4) (λ_ _=>rfl)))) (ae (aD gQ (bv 1) (ae ao))))) (λ_ _=>rfl)))) rfl))))))
   (aG (bc (em 3)))))),λds Q h=>?_⟩
  obtain⟨l,g,rfl,h1,h2,h3,h4,q⟩:=h
  refine az λU hU=>?_
  walk_at"l3"
  refine hU _ ?_
  clear hU U
  refine az λU hU=>?_
  walk_at"l3"
  refine⟨by decide,⟨by omega,by omega,by omega⟩,by decide,hU _ ?_⟩
  clear hU U
  refine az λU hU=>?_
  walk_at"l3"
  refine⟨1,(l.length:Int)+1,⟨rfl,rfl⟩,⟨by decide,by decide,by omega,by omega⟩,?_⟩
  have en:((l.length:Int)+1-1).toNat=l.length:=by omega
  rw[en]
  refine gu.mk (λi δ=>∃o,δ=[some (.lst false (aF l)),some (.lst false (aF g)),some (.int ((l.length:Int)+1)),some (.lst true (wc l g (i+1))),o]) ⟨none,?_⟩ ?_ ?_
  ·rw[show((l.length:Int)+1).toNat=l.length+1 by omega];rfl
  ·rintro i d δ hd ⟨o,rfl⟩
   obtain⟨hi,rfl⟩:i<l.length/\d=.int (1+(i:Int)):=by
    rw[cB]at hd
    by_cases hi:i<l.length
    ·rw[jJ hi]at hd
     exact⟨hi,(cT hd).symm⟩
    ·rw[fY (by simpa using hi)]at hd;cases hd
   walk_at"l3"
   refine⟨⟨_,rfl⟩,by decide,1,(l.length:Int)+1,⟨rfl,rfl⟩,⟨by decide,by decide,by omega,by omega⟩,?_⟩
   rw[en]
   refine fB (aM l.length) (λ(k:Nat)=>D.int (1+(k:Int))) (λ(k:Nat)=>D.int (l.getD ((g.getD (i+1) 0+g.getD (k+1) 0)%(l.length:Int)).toNat 0)) (by rw[yh]) (λx y h=>by injection h with h;omega) (λk hk=>?_) (.inr λ_ _=>rfl) (by rw[cq,sL];omega) ?_
   ·have Qq:=bK.mp hk
    walk_at"l3"
    have e1:(1+(i:Int)).toNat=i+1:=by omega
    have e2:(1+(k:Int)).toNat=k+1:=by omega
    have e3:(l.length:Int)+1-1=l.length:=by omega
    have n0:=jK (g.getD (i+1) 0+g.getD (k+1) 0) (show(l.length:Int)≠0 by omega)
    have n1:=kZ (g.getD (i+1) 0+g.getD (k+1) 0) (show(0:Int)<l.length by omega)
    refine⟨_,mS (by omega) (by omega),_,mS (by omega) (by omega),?_⟩
    rw[e1,e2,e3]
    exact⟨by omega,_,mS n0 n1,rfl,rfl⟩
   ·walk_at"l3"
    refine⟨⟨by simp;omega,by rw[pk,de];intro x _;rfl⟩,by simp[wc];omega,_,?_,rfl⟩
    unfold wc
    rw[ub (n:=i+1),dS]
    congr 1
    show _=[D.lst true (aF (qq l g (i+1)))]
    unfold qq
    rw[if_neg (by omega)]
    unfold aF
    rw[da,bW];rfl
  ·rintro δ ⟨o,rfl⟩
   refine hU _ ?_
   simp only[uU,rU,uV,uW,dT,nK,pW,pX,dC,rN,pZ,rR,rQ,rS,uS,p9,vz,sC,vB,vC,uM,uN,uO,uP,uQ,uR,rO,yt,sq,sr,rZ,vb,se,vd,ve,vg,vi,vj,vk,iI,ix,vm,vn,vo,vp,sg,p7,vw,vx,gN,vD,vy,uX,u3,u4,u5,u6,u7,vE,vF,rX,mM,gv,jU,ju,ph,tT,AM,AN,rT,lM,kE,su,sA,vJ,vM,vL,vN,vO,vQ,qi,lY,vW,sN,vT,iV,lZ,yX,yY,da,kg,t7,pd,gJ,ud,aK,qS,qT,fk,fm,xv,exists_eq_left',exists_eq_left,D.bl.injEq,D.int.injEq,D.lst.injEq,D.fz.injEq,D.str.injEq,D.tup.injEq,AO,and_true,true_and,dB,tZ,nk,kX,yy,yz,yA,yB,yC,yD,gO,lH,qf,yH,yI,yJ,yK,yL,eN,mJ,by4,yE,yF,yG,fM,rF,AQ,AR,tQ,nq,AS,AU,xj,yO,yP,yQ,yR,yS,yT,yU,nW,qg,sG,kG,sH,yM,vI,vG,sI,yN,nX,vH,if_true,qP,if_false,reduceIte,yV,decide_eq_true_eq,iy,nZ,sP,y6,qk,y0,uY,v7,sW,vU,sS,sT,sU,wa,zw,sY,wt,eP,s8,jy,zx,sZ,wD,wF,wH,wI,wJ,aY,cq]
   exact q
noncomputable abbrev aB3(t:gb):mT:=λds Q Ex=>∃a b:Nat,ds=[.int a,.int b]/\bl a<=1000000/\bl b<=1000000/\(b=0->Ex t.eR)/\(b≠0->∀q r:Nat,a=cl q b ^^^ r->bl r<bl b->Q (.tup [.int q,.int r]))
theorem Ur(T:Txt K mg t):aO P w K mg base (kA P w) 1 t.RY t.RZ ["a","b"] (nY (aB3 t )):=by
 refine GF T.tF.F wK ?_ ?_
 ·intro ds Q Ex h
  obtain⟨a,b,rfl,ha,hb,qx,q⟩:=h<;>rfl
 ·intro aH A outer s H E hr
  refine⟨_,(aA (dZ (cH (fS (dF hr)) (bv 1) (ae ao) (bL _)) (aG (GG T.Uk rfl (by rfl) (aj (ae Gb) ay))) dY)
   (aA (aW (i:=2) wK.nd rfl (ax rfl) ao)
   (aA (aW (i:=3) wK.nd rfl (ax rfl) (em 0))
   (aA (ON (uZ eW (cH cJ9 (ae (nV (bv 3))) (ae (nV (bv 1))) (bL _))
    (aA (aW (i:=4) wK.nd rfl (ax rfl) (aD gQ (ae (nV (bv 3))) (ae (nV (bv 1)))))
    (aA (yg (i:=2) wK.nd rfl (ax rfl) (ae (aD vh (ae ao) (bv 4))) Gm)
    (aG (yg (i:=3) wK.nd rfl (ax rfl) (ae (aD vh (bv 1) (bv 4))) Gm))))))
   (aG (bc (uT (cw (em 2) (cw (em 3) cm))))))))),λds Q Ex h=>?_⟩
  obtain⟨a,b,rfl,ha,hb,qx,q⟩:=h
  refine az λU hU=>?_
  walk_at"l3"
  split
  ·rename_i h0
   exact⟨by decide,qx (by omega)⟩
  ·rename_i h0
   have b0:b≠0:=by omega
   refine hU _ ?_
   clear hU U
   refine az λU hU=>?_
   walk_at"l3"
   refine hU _ ?_
   clear hU U
   refine az λU hU=>?_
   walk_at"l3"
   refine hU _ ?_
   clear hU U
   refine az λU hU=>?_
   walk_at"l3"
   refine⟨λm δ=>∃(x r:Nat) (o sh:Option D),δ=[o,some (.int b),some (.int (x:Nat)),some (.int (r:Nat)),sh]/\a=cl x b ^^^ r/\bl r<=bl a/\m=bl r,
    ⟨bl a,0,a,_,none,rfl,by rw[pP,mx],bD _,rfl⟩,?_⟩
   rintro m δ ⟨x,r,o,sh,rfl,inv,hra,rfl⟩
   simp only[uU,rU,uV,uW,dT,nK,pW,pX,dC,rN,pZ,rR,rQ,rS,uS,p9,vz,sC,vB,vC,uM,uN,uO,uP,uQ,uR,rO,yt,sq,sr,rZ,vb,se,vd,ve,vg,vi,vj,vk,iI,ix,vm,vn,vo,vp,sg,p7,vw,vx,gN,vD,vy,uX,u3,u4,u5,u6,u7,vE,vF,rX,mM,gv,jU,ju,ph,tT,AM,AN,rT,lM,kE,su,sA,vJ,vM,vL,vN,vO,vQ,qi,lY,vW,sN,vT,iV,lZ,yX,yY,da,kg,t7,pd,gJ,ud,aK,qS,qT,fk,fm,xv,exists_eq_left',exists_eq_left,D.bl.injEq,D.int.injEq,D.lst.injEq,D.fz.injEq,D.str.injEq,D.tup.injEq,AO,and_true,true_and,dB,tZ,nk,kX,yy,yz,yA,yB,yC,yD,gO,lH,qf,yH,yI,yJ,yK,yL,eN,mJ,by4,yE,yF,yG,fM,rF,AQ,AR,tQ,nq,AS,AU,xj,yO,yP,yQ,yR,yS,yT,yU,nW,qg,sG,kG,sH,yM,vI,vG,sI,yN,nX,vH,if_true,qP,if_false,reduceIte,yV,decide_eq_true_eq,iy,nZ,sP,y6,qk,y0,uY,v7,sW,vU,sS,sT,sU,wa,zw,sY,wt,eP,s8,jy,zx,sZ,wD,wF,wH,wI,wJ,i7]
   split
   ·rename_i hc
    have hle:bl b<=bl r:=by omega
    have less:=NB b0 hle
    have es:(((bl r:Nat):Int)-((bl b:Nat):Int))=((bl r-bl b:Nat):Int):=by omega
    clear hU
    refine az λU hU=>?_
    walk_at"l3"
    simp only[i7,es]
    refine hU _ ?_
    clear hU
    refine az λU hU=>?_
    walk_at"l3"
    have o1:bl (1:Int).natAbs=1:=by decide
    refine⟨⟨by omega,by omega⟩,hU _ ?_⟩
    clear hU
    simp only[uU,rU,uV,uW,dT,nK,pW,pX,dC,rN,pZ,rR,rQ,rS,uS,p9,vz,sC,vB,vC,uM,uN,uO,uP,uQ,uR,rO,yt,sq,sr,rZ,vb,se,vd,ve,vg,vi,vj,vk,iI,ix,vm,vn,vo,vp,sg,p7,vw,vx,gN,vD,vy,uX,u3,u4,u5,u6,u7,vE,vF,rX,mM,gv,jU,ju,ph,tT,AM,AN,rT,lM,kE,su,sA,vJ,vM,vL,vN,vO,vQ,qi,lY,vW,sN,vT,iV,lZ,yX,yY,da,kg,t7,pd,gJ,ud,aK,qS,qT,fk,fm,xv,exists_eq_left',exists_eq_left,D.bl.injEq,D.int.injEq,D.lst.injEq,D.fz.injEq,D.str.injEq,D.tup.injEq,AO,and_true,true_and,dB,tZ,nk,kX,yy,yz,yA,yB,yC,yD,gO,lH,qf,yH,yI,yJ,yK,yL,eN,mJ,by4,yE,yF,yG,fM,rF,AQ,AR,tQ,nq,AS,AU,xj,yO,yP,yQ,yR,yS,yT,yU,nW,qg,sG,kG,sH,yM,vI,vG,sI,yN,nX,vH,if_true,qP,if_false,reduceIte,yV,decide_eq_true_eq,iy,nZ,sP,y6,qk,y0,uY,v7,sW,vU,sS,sT,sU,wa,zw,sY,wt,eP,s8,jy,zx,sZ,wD,wF,wH,wI,wJ,i7]
    refine⟨⟨by omega,by rw[i7];omega⟩,_,less,x ^^^ 2 ^ (bl r-bl b),r ^^^ b <<< (bl r-bl b),o,_,⟨rfl,?_,?_,rfl⟩,Zh inv,by omega,rfl⟩
    ·rw[show(1:Int)=((1:Nat):Int) from rfl,uD,pQ,ES]
    ·rw[uD,pQ]
   ·rename_i hc
    refine hU _ ?_
    walk_at"l3"
    refine⟨by decide,q b0 x r inv (by omega)⟩
noncomputable abbrev aB4:bh:=λds Q=>∃a:Nat,ds=[.int a]/\bl a<=60/\Q (.bl (al a))
theorem aB5(T:Txt K mg t):aO P w K mg base aZ 2 t.R0 t.R1 ["a"] (bq (aB4 )):=by
 refine bO T.TH.F Ip ?_ ?_
 ·intro ds Q h
  obtain⟨a,rfl,ha,q⟩:=h<;>rfl
 ·intro aH A outer s H E hr
  refine⟨_,(aA (dZ (cH vq (bv 0) (ae ao) (bL _)) (aG (bc nJ)) dY)
   (aA (aW (i:=1) Ip.nd rfl (ax rfl) (aD yn (ae (aD gQ (ae (nV (bv 0))) (ae ao))) (ae ao)))
   (aA (gg eW rfl (rW rfl T.gY (aj (ae ao) (aj (ae (aD vh (ae ao) (ae (aD cS (bv 1) (ae ao))))) ay))) (ir (i:=2) Ip.nd rfl (ax rfl))
    (aG (dZ (cH (fS (dF hr)) (bB (ae (mK (sM ((Ur T).mono (by decide))) hr rfl T.tF.g T.tF.F.kp T.tF.b sJ (aj (bv 0) (aj (bv 2) ay)))) (ae ao) (λ_ _=>rfl)) (ae ao) (bL _)) (aG (bc nJ)) dY)))
   (aG (bc nJ))))),λds Q h=>?_⟩
  obtain⟨a,rfl,ha,q⟩:=h
  refine az λU hU=>?_
  walk_at"l3"
  split
  ·rename_i h2
   rw[Zt (by omega)]at q;exact q
  ·rename_i h2
   have h2:2<=a:=by omega
   have hp:=ib (show a≠0 by omega)
   refine hU _ ?_
   clear hU U
   refine az λU hU=>?_
   walk_at"l3"
   simp only[i7]
   refine⟨ym (by omega) (by omega),hU _ ?_⟩
   clear hU U
   have eh:((((bl a:Nat):Int)-1)/2+1)=(((bl a-1)/2+1:Nat):Int):=by omega
   have e1:(1:Int)*2 ^ ((((bl a:Nat):Int)-1)/2+1).toNat=((2 ^ ((bl a-1)/2+1):Nat):Int):=by
    rw[eh,show(1:Int)=((1:Nat):Int) from rfl,uD,ES]
   have big:2 ^ ((bl a-1)/2+1)<=2 ^ 40:=mq (by decide) (by omega)
   have o1:bl (1:Int).natAbs=1:=by decide
   refine az λU hU=>?_
   walk_at"l3"
   rw[e1]
   have dU1:((2 ^ ((bl a-1)/2+1):Nat):Int)<=2 ^ 40:=by exact_mod_cast big
   have nn:(0:Int)<=((2 ^ ((bl a-1)/2+1):Nat):Int):=LA _
   refine⟨⟨by omega,by omega⟩,_,_,⟨rfl,rfl⟩,⟨by decide,by decide,by omega,by omega⟩,?_⟩
   have en:(((2 ^ ((bl a-1)/2+1):Nat):Int)-2).toNat=2 ^ ((bl a-1)/2+1)-2:=by omega
   rw[en]
   refine gu.mk (λi δ=>(∃o1 o2,δ=[some (.int a),o1,o2])/\∀j,j<i->md a (2+j)≠0) ⟨⟨_,_,rfl⟩,λj hj=>absurd hj (by omega)⟩ ?_ ?_
   ·rintro i d δ hd ⟨⟨o1,o2,rfl⟩,inv⟩
    obtain⟨hi,rfl⟩:i<2 ^ ((bl a-1)/2+1)-2/\d=.int (2+(i:Int)):=by
     rw[cB]at hd
     by_cases hi:i<2 ^ ((bl a-1)/2+1)-2
     ·rw[jJ hi]at hd
      exact⟨hi,(cT hd).symm⟩
     ·rw[fY (by simpa using hi)]at hd;cases hd
    have bi:bl (2+i)<=60:=by
     have:=(Zw h2 (show 2+i<2 ^ ((bl a-1)/2+1) by omega)).2
     omega
    walk_at"l3"
    refine⟨a,2+i,by rw[show((2+i:Nat):Int)=2+(i:Int) by omega],by omega,by omega,by omega,λ_ x r e l=>?_⟩
    have em:md a (2+i)=r:=xZ e l
    refine⟨.int r,rfl,rfl,?_⟩
    rw[nX]
    split
    ·rename_i hz
     have r0:r=0:=by have:=of_decide_eq_true hz;omega
     rw[Zv hi (em.trans r0)]at q
     exact q
    ·rename_i hz
     refine⟨⟨_,_,rfl,rfl⟩,λj hj=>?_⟩
     by_cases ej:j=i
     ·rw[ej,em]
      intro r0
      exact hz (decide_eq_true (by omega))
     ·exact inv j (by omega)
   ·rintro δ ⟨⟨o1,o2,rfl⟩,inv⟩
    rw[aY,cq]at inv
    rw[Zu h2 inv]at q
    refine hU _ ?_
    walk_at"l3"
    exact q
noncomputable abbrev ax0:bh:=λds Q=>∃a:Int,ds=[.int a]/\Q (.bl (decide (4<=a)&&decide (a<=127)&&al a.toNat))
theorem ax1(T:Txt K mg t):aO P w K mg base aZ 3 t.R3 t.R4 ["bits"] (bq (ax0 )):=by
 refine bO T.Dr.F au4 ?_ ?_
 ·intro ds Q h
  obtain⟨a,rfl,q⟩:=h<;>rfl
 ·intro aH A outer s H E hr
  refine⟨_,(aG (bc (rP (ae (Gu p5 p5 (ae ao) (bv 0) (ae ao))) (xF (cA T.TH (aB5 T) hr (aj (bv 0) ay)))))),λds Q h=>?_⟩
  obtain⟨a,rfl,q⟩:=h
  walk_at"l3"
  split
  ·rename_i h1
   split
   ·rename_i h2
    refine⟨a.toNat,by rw[ua (by omega)],?_,?_⟩
    ·have:bl a.toNat<=bl 127:=FC (by omega)
     exact dy this (by decide)
    ·have e:(decide (4<=a)&&decide (a<=127)&&al a.toNat)=al a.toNat:=by simp[h1,h2]
     rw[e]at q;exact q
   ·rename_i h2
    have e:(decide (4<=a)&&decide (a<=127)&&al a.toNat)=false:=by simp[h2]
    rw[e]at q;exact q
  ·rename_i h1
   have e:(decide (4<=a)&&decide (a<=127)&&al a.toNat)=false:=by simp[h1]
   rw[e]at q;exact q
noncomputable abbrev aD7:bh:=λds Q=>∃a b:Nat,ds=[.int a,.int b]/\bl a<=1000/\bl b<=1000/\Q (.int (cl a b:Nat))
theorem aD8(T:Txt K mg t):aO P w K mg base aZ 1 t.R5 t.R6 ["a","b"] (bq (aD7 )):=by
 refine bO T.Ds.F C9 ?_ ?_
 ·intro ds Q h
  obtain⟨a,b,rfl,ha,hb,q⟩:=h<;>rfl
 ·intro aH A outer s H E hr
  refine⟨_,(aA (aW (i:=2) C9.nd rfl (ax rfl) ao)
   (aA (gg eW rfl (mL rfl T.gY (aj (ae (nV (bv 1))) ay)) (ir (i:=3) C9.nd rfl (ax rfl))
    (aG (dZ (cH (fS (dF hr)) (ae (aD Ot (ae (aD Oq (bv 1) (bv 3))) (ae ao))) (ae ao) (bL _)) (aG (yg (i:=2) C9.nd rfl (ax rfl) (ae (aD vh (bv 0) (bv 3))) Gm)) dY)))
   (aG (bc (em 2))))),λds Q h=>?_⟩
  obtain⟨a,b,rfl,ha,hb,q⟩:=h
  refine az λU hU=>?_
  walk_at"l3"
  refine hU _ ?_
  clear hU U
  refine az λU hU=>?_
  walk_at"l3"
  simp only[i7]
  refine⟨⟨by omega,by omega⟩,vK (λi δ=>∃o,δ=[some (.int a),some (.int b),some (.int (Mf.P a b i:Nat)),o]) ⟨none,rfl⟩ ?_ ?_⟩
  ·rintro i δ hi ⟨o,rfl⟩
   walk_at"l3"
   refine⟨by omega,?_⟩
   have DQ:(oV ((b:Int)/2 ^ ((i:Int)).toNat) 1=1)↔b.testBit i=true:=by
    have h:=ZD b i
    rw[LX]at h
    rw[<-h,dI]
   split
   ·rename_i hc
    have h:=ZE (a:=a) (DQ.mp hc)
    rw[LX]at h
    exact⟨⟨by omega,by rw[i7];omega⟩,_,h,rfl⟩
   ·rename_i hc
    exact⟨_,by rw[ZF (λz=>hc (DQ.mpr z))],rfl⟩
  ·rintro δ ⟨o,rfl⟩
   refine hU _ ?_
   walk_at"l3"
   exact q
noncomputable abbrev aH1:List D->List Str->List D->Prop:=λds ns xs=>∃p:Nat,ds=[.int p]/\p∈gU/\ns=iA "bits"++[("products":Str)]/\xs=[.int p,.int (aa (true,p)),.int ((bl (aa (true,p)):Nat)-1),.lst true (aF (fl (true,p))),.lst true (aF (e5 (fl (true,p)))),.int (fst (true,p)),.lst true (qt (fl (true,p)) (e5 (fl (true,p))))]
theorem aA2(T:Txt K mg t)(hB:Bm mg base):aO P w K mg base aZ 8 t.Jw t.Jx ["self","bits"] (G8 [t.jE,t.jF] t.aL aH1):=by
 refine PB T.TJ.F T.aA0 Rx (λvs H Q E h=>?_) λA outer s H vs Q E hr h=>?_
 ·obtain⟨x,dx,b9,ds,ns,xs,rfl,_,_,r,⟨p,rfl,_⟩,_⟩:=h
  have:=r.length
  simp at this
  simp[this]
 obtain⟨x,dx,b9,ds,ns,xs,rfl,tb,hx,r,⟨p,rfl,hp,rfl,rfl⟩,q⟩:=h
 obtain rfl:b9=[.int p]:=by
  cases r with
  | int r=>cases r;rfl
 have hm:(true,p)∈av:=e7 _ (AE hp)
 have hF:=dm hm
 refine⟨_,fK (uk (Bc (A8 (jh ((ax1 T).mono (by decide)) hr rfl T.Dr.g T.Dr.F.kp T.Dr.b .nil dX (b8 (pv 1) eX)))) (kr xG) q0)
  (fK (iM (pv 0) (pv 1) rfl)
  (fK (E3 (i:=2) Rx.nd rfl (ax rfl) (xO NN pI (xO Fc (FD (pv 1)) pI)))
  (fK (uj (Pr (E:=E0) (i:=1) T.Uh ((Up T).mono (by decide)) hr T.JL.b rfl T.DN rfl rfl rfl rfl (b8 (pv 0) (b8 (pv 2) (b8 (Pj rfl rfl T.aA1 hB) eX)))))
  (kr (iM (pv 0) (jh ((aB2 T).mono (by decide)) hr rfl T.Dq.g T.Dq.F.kp T.Dq.b .nil dX (b8 (rm (pv 0) rfl) (b8 (rm (pv 0) rfl) eX))) rfl))))),?_⟩
 try dsimp only[lY,lZ]
 refine⟨_,rfl,H,[.int p],λd=>d=.bl true,af.refl _,.int .nil,⟨p,rfl,by rw[co8 p hp]⟩,λd v F' H1 A1 hd fG hf he h3 r nd fr=>?_⟩
 subst hd
 cases r
 refine⟨true,rfl,?_⟩
 refine jm ?_
 have cV:=fG.get _ _ hx
 refine⟨.int p,rfl,.ref x,rfl,x,t.aL,dx,_,rfl,cV,T.gi,T.JS,by decide,?_⟩
 generalize e2:upd H1 x (HO.ins t.aL dx (bM "bits" (.int p) []))=H2
 have ff:H2 x=some (.ins t.aL dx [(("bits":Str),.int p)]):=by rw[<-e2,bH];rfl
 have s2:bR x H H2:=by rw[<-e2];exact(fG.x (x:=x)).trans (bR.upd (C:=x) (dx:=dx) cV rfl)
 have n2:∀p,H2 p=none->H p=none:=λp h=>fG.free (zj cV (by rw[e2];exact h))
 obtain⟨ps,hP⟩:=tb t.jF (by simp)
 obtain⟨more,Km⟩:=s2.tb _ ps hP
 have bp:bl p<=7:=PN p hp
 have DR:1<=bl p:=PQ p hp
 refine⟨.int p,rfl,rfl,p,rfl,rfl,_,_,rfl,rfl,_,_,rfl,rfl,?_,?_⟩
 ·have o1:bl (1:Int).natAbs=1:=by decide
  rw[i7]
  exact⟨by omega,by omega⟩
 have em:(1:Int)*2 ^ (((bl ((p:Int)).natAbs:Nat):Int)-1).toNat=((aa (true,p):Nat):Int):=by
  rw[i7,show(((bl p:Nat):Int)-1)=((bl p-1:Nat):Int) by omega,show(1:Int)=((1:Nat):Int) from rfl,uD,ES];rfl
 show Bf 2 (.int ((1:Int)*2 ^ (((bl ((p:Int)).natAbs:Nat):Int)-1).toNat)) _ _ _
 rw[em]
 refine⟨.ref x,rfl,.int (aa (true,p)),rfl,⟨_,Km⟩,λf k qn pm jx H3 nf Aa hk kf g5 hl3=>?_⟩
 refine⟨f,_,_,.int p,Aa,rfl,rfl,λoc u je hu nc qo=>?_⟩
 obtain⟨tm,rfl⟩:∃tm,u=xf p tm:=hu
 have gI:=g5.get _ _ ff
 refine⟨x,dx,f,t.aL,"bits",p,aa (true,p),_,oc,_,k,gm (true,p),fl (true,p),fst (true,p),rfl,zk gI (λz=>by rw[z,nf]at ff;cases ff) nc,by decide,⟨T.gi,T.wR,T.JU,T.zS,T.wQ,T.JT,T.DC⟩,PJ qo nc hk kf,?_,hF,λH' p1 p2 sx dD Kn xS ne z9 tI=>?_⟩
 ·refine Py (n:=3) ⟨rfl,rfl,rfl,by decide,rfl,rfl,by decide,by decide,rfl⟩ je (λu1 u2=>rfl) λq f A outer s H E hr=>?_
  refine⟨_,dE (bB (ae (mK (sM ((Ur T).mono (by decide))) hr rfl T.tF.g T.tF.F.kp T.tF.b sJ (aj (ae (mK ((aD8 T).mono (by decide)) hr rfl T.Ds.g T.Ds.F.kp T.Ds.b dX (aj (bv 0) (aj (bv 1) ay)))) (aj (bv 2) ay)))) (ae ao) (λ_ _=>rfl)),λi j Qd h=>?_⟩
  obtain⟨a,b,rfl,rfl,ha,hb,hq⟩:=h
  walk_at"l3"
  have b1:bl a<=6:=by
   have:bl a<=bl 63:=FC (by omega)
   exact dy this (by decide)
  have b2:bl b<=6:=by
   have:bl b<=bl 63:=FC (by omega)
   exact dy this (by decide)
  have p0:p≠0:=by
   intro z
   rw[z]at DR
   exact absurd DR (by decide)
  refine⟨a,b,rfl,by omega,by omega,cl a b,p,rfl,dy (b44 a b) (by omega),by omega,λz=>p0 z,λ_ x r e l=>⟨by simp[D.pl],.int r,rfl,rfl,r,rfl,?_⟩⟩
  have er:gm (true,p) a b=r:=xZ e l
  rw[<-er];exact hq
 ·have gf:H' f=some (.ext (jS _ oc _ f)):=sx.get f _ (λz=>by rw[z]at nf;rw[nf]at ff;cases ff) (by rw[aU qo.symm,bH]) rfl
  have gc:=sx.get _ _ (eJ gI nc).symm bH rfl
  refine⟨gf,gc,?_⟩
  have s4:=s2.trans (PH g5 nf nc sx)
  have f1:=n2 _ (Cj g5 z9)
  have f2:=n2 _ (Cj g5 tI)
  have l1:=Kn.rem gf gc
  have l2:=xS.rem gf gc
  have kP:rem H' f (s.heap.objs.size+1) x=some (.ins t.aL dx ((iA "bits").zip (Cg p (aa (true,p)) p1 p2 (fst (true,p))))):=by
   rw[iz (λz=>by rw[z,gf]at dD;cases dD) (λz=>by rw[z,gc]at dD;cases dD)];exact dD
  generalize rem H' f (s.heap.objs.size+1)=H4 at s4 l1 l2 kP
  refine⟨.ref x,rfl,x,t.aL,dx,_,.ref p1,rfl,kP,T.gi,T.zS,rfl,.ref x,rfl,x,t.aL,dx,_,.ref p2,rfl,kP,T.gi,T.wQ,rfl,H4,[.lst false (aF (fl (true,p))),.lst false (aF (e5 (fl (true,p))))],λd=>d=.lst true (qt (fl (true,p)) (e5 (fl (true,p)))),af.refl _,.shr l1 (lV _) (.shr l2 (lV _) .nil),
   ⟨_,_,rfl,by have:=hF.len;have:=hF.lo;omega,by have:=hF.len;have:=hF.hi;omega,zi _ _,PM _ _,rfl⟩,λd v F' H5 A' hd kQ hf he h3 r nd fr=>?_⟩
  subst hd
  obtain⟨p3,rfl⟩:∃p3,v=.ref p3:=by cases r;exact⟨_,rfl⟩
  have iY:=kQ.get _ _ kP
  have nA:∀{a ws},H4 a=some (.lst ws)->a ∉ A':=λ{a ws} e z=>by rw[fr a z]at e;cases e
  refine⟨.ref x,rfl,x,t.aL,dx,_,rfl,iY,T.gi,T.wU,ni (bD 6) (by decide),?_⟩
  refine q _ (Cg p (aa (true,p)) p1 p2 (fst (true,p))++[.ref p3]) (p1::p2::A') ((s4.trans (kQ.x (x:=x))).trans (bR.upd (C:=x) (dx:=dx) iY rfl)) (by rw[bH];rfl) rfl ?_ ?_ ?_
  ·exact .int (.int (.int (.own ((l1.same kQ).upd iY (λws z=>by cases z)) rfl (lV _) (.own ((l2.same kQ).upd iY (λws z=>by cases z)) rfl (lV _) (.int ((r.rK (by simp[fM,PL]) (af.of λb o e=>by cases e)).sV iY (by simp[fM,PL])))))))
  ·exact kS.mpr ⟨by simp[ne];exact nA l1,kS.mpr ⟨nA l2,nd⟩⟩
  ·intro a ha
   rcases cL.mp ha with rfl | ha
   ·exact f1
   ·rcases cL.mp ha with rfl | ha
    ·exact f2
    ·exact s4.free (by rw[kP];simp) (fr a ha)
noncomputable abbrev aD9(cb cp:Addr):bh:=λds Q=>∃m:Bool × Nat,ds=[dG m]/\m∈av/\Q (fD cb cp m)
theorem aE0(T:Txt K mg t)(hB:Bm mg base):aO P w K mg base aZ 10 t.R7 t.R8 ["_law_told_here"] (vY [t.jE,t.jF] (bq (aD9 t.aL t.aP))):=by
 refine G5 T.Dt.F aD1 ?_ ?_
 ·intro ds Q h
  obtain⟨m,rfl,hm,q⟩:=h<;>rfl
 ·intro aH A outer s H E hT hr
  refine⟨_,(aA (dZ (nL (bB (bv 0) (ae ao) (λ_ _=>rfl))) (aG (bc (PC hT T.JR ((aA2 T hB).mono (by decide)) hr rfl T.Ka T.TJ.b dX (aj (bB (bv 0) (ae ao) (λ_ _=>rfl)) ay)))) dY)
   (aG (bc (PC hT T.J0 ((aw9 T hB).mono (by decide)) hr rfl T.Kg T.TF.b dX (aj (bB (bv 0) (ae ao) (λ_ _=>rfl)) ay))))),λds Q h=>?_⟩
  obtain⟨m,rfl,hm,q⟩:=h
  unfold dG at *
  refine az λU hU=>?_
  walk_at"l3"
  obtain⟨b,n⟩:=m
  cases b with
  | true =>
   refine⟨_,rfl,true,rfl,?_⟩
   rw[if_pos rfl]
   refine⟨_,rfl,_,_,⟨n,rfl,zu hm,rfl,rfl⟩,?_⟩
   rw[cs7];exact q
  | false =>
   refine⟨_,rfl,false,rfl,?_⟩
   rw[if_neg (by decide)]
   refine hU _ ?_
   walk_at"l3"
   refine⟨_,rfl,_,_,⟨n,rfl,bB3 hm,rfl,rfl⟩,?_⟩
   rw[b22];exact q
noncomputable abbrev aH2:bh:=λds Q=>∃m:Bool × Nat,ds=[dG m]/\bl m.2<=1000/\1<=bl m.2/\Q (.int (aa m:Nat))
theorem Ko(T:Txt K mg t):aO P w K mg base aZ 1 t.R9 t.Sa ["_law_told_here"] (bq (aH2 )):=by
 refine bO T.Du.F aG3 ?_ ?_
 ·intro ds Q h
  obtain⟨m,rfl,h1,h2,q⟩:=h<;>rfl
 ·intro aH A outer s H E hr
  refine⟨_,(aA (dZ (nL (bB (bv 0) (ae ao) (λ_ _=>rfl))) (aG (bc (aD vh (ae ao) (ae (aD gQ (ae (nV (bB (bv 0) (ae ao) (λ_ _=>rfl)))) (ae ao)))))) dY)
   (aG (bc (dE (bB (bv 0) (ae ao) (λ_ _=>rfl)))))),λds Q h=>?_⟩
  obtain⟨m,rfl,h1,h2,q⟩:=h
  unfold dG at *
  refine az λU hU=>?_
  walk_at"l3"
  obtain⟨b,n⟩:=m
  cases b with
  | true =>
   refine⟨_,rfl,true,rfl,?_⟩
   rw[if_pos rfl]
   refine⟨_,rfl,?_⟩
   have o1:bl (1:Int).natAbs=1:=by decide
   have e:(1:Int)*2 ^ (((bl ((n:Int)).natAbs:Nat):Int)-1).toNat=((aa (true,n):Nat):Int):=by
    have jR:1<=bl n:=h2
    rw[i7,show(((bl n:Nat):Int)-1)=((bl n-1:Nat):Int) by omega,show(1:Int)=((1:Nat):Int) from rfl,uD,ES];rfl
   refine⟨?_,by rw[e];exact q⟩
   rw[i7]
   have kB:bl n<=1000:=h1
   have jR:1<=bl n:=h2
   exact⟨by omega,by omega⟩
  | false =>
   refine⟨_,rfl,false,rfl,?_⟩
   rw[if_neg (by decide)]
   refine hU _ ?_
   walk_at"l3"
   exact⟨_,rfl,rfl,q⟩
noncomputable abbrev aH3:bh:=λds Q=>∃(ns:List Int) (k:Int),ds=[.fz (aF ns),.int k]/\0<=k/\Q (.int (ns.getD k.toNat 0))
theorem m4(T:Txt K mg t):aO P w K mg base aZ 1 t.Sb t.Sd ["_law_script","_law_k"] (bq (aH3 )):=by
 refine bO T.mj.F aG4 ?_ ?_
 ·intro ds Q h
  obtain⟨ns,k,rfl,hk,q⟩:=h<;>rfl
 ·intro aH A outer s H E hr
  refine⟨_,(aA (dZ (cH vq (bv 1) (ae (fU (iU) (by rfl) T.iG ie (aj (bv 0) ay))) (bL _)) (aG (bc (dE (bB (bv 0) (bv 1) (λ_ _=>rfl))))) dY)
   (aG (bc ao))),λds Q h=>?_⟩
  obtain⟨ns,k,rfl,hk,q⟩:=h
  refine az λU hU=>?_
  walk_at"l3"
  split
  ·rename_i h
   exact⟨_,mS hk h,rfl,q⟩
  ·rename_i h
   refine hU _ ?_
   walk_at"l3"
   rw[aJ,fY (by omega)]at q
   exact q
theorem wX(x:Int){M:Int}(h:0<M):∃k:Nat,x%M=k/\(k:Int)<M :=
 ⟨(x%M).toNat,by have:=jK x (show M≠0 by omega);omega,by have:=kZ x h;omega⟩
theorem DS{M d A e:Nat}(h:M<=A)(hd:d<=e)(hA:0<A)(hE:A ^ e<=64):M ^ d<=64:=dy (Wr h d) (dy (mq hA hd) hE)
noncomputable abbrev aE1:bh:=λds Q=>∃(m:Bool × Nat) (ns:List Int),ds=[.fz (aF ns),dG m]/\m∈av/\∀n r:Nat,2<=n->n<=8->1<=r->r<n->aa m ^ (n-r)<=64->Q (.tup [.int n,.int r])
theorem aE2(T:Txt K mg t):aO P w K mg base aZ 2 t.Se t.Sf ["_law_script","_law_told_here"] (bq (aE1 )):=by
 refine bO T.TK.F wL ?_ ?_
 ·intro ds Q h
  obtain⟨m,ns,rfl,hm,q⟩:=h<;>rfl
 ·intro aH A outer s H E hr
  refine⟨_,(aA (aW (i:=2) wL.nd rfl (ax rfl) (cA T.Du (Ko T) hr (aj (bv 1) ay)))
   (aA (aW (i:=3) wL.nd rfl (ax rfl) ao)
   (aA (dZ (cH p5 (bv 2) (ae ao) (bL _)) (aG (aW (i:=3) wL.nd rfl (ax rfl) (aD cS (ae ao) (ae (aD eO (ae (cA T.mj (m4 T) hr (aj (bv 0) (aj (ae ao) ay)))) (ae ao)))))) dY)
   (aA (dZ (cH p5 (bv 2) (ae ao) (bL _)) (aG (aW (i:=3) wL.nd rfl (ax rfl) (aD cS (ae ao) (ae (aD eO (ae (cA T.mj (m4 T) hr (aj (bv 0) (aj (ae ao) ay)))) (ae ao)))))) dY)
   (aA (dZ (cH (fS (dF hr)) (bv 2) (ae ao) (bL _)) (aG (aW (i:=3) wL.nd rfl (ax rfl) (aD cS (ae ao) (ae (aD eO (ae (cA T.mj (m4 T) hr (aj (bv 0) (aj (ae ao) ay)))) (ae ao)))))) dY)
   (aG (bc (uT (cw (dE (bv 3)) (cw (aD cS (ae (aD yn (bv 3) (ae ao))) (ae (aD eO (ae (cA T.mj (m4 T) hr (aj (bv 0) (aj (ae ao) ay)))) (ae (aD cS (ae ao) (ae (aD eO (bv 3) (ae ao)))))))) cm)))))))))),λds Q h=>?_⟩
  obtain⟨m,ns,rfl,hm,q⟩:=h
  have eD:=(dm hm).lo
  have tJ:=(dm hm).hi
  have Us:=Hg m hm
  refine az λU hU=>?_
  walk_at"l3"
  refine⟨m,rfl,by omega,by omega,hU _ ?_⟩
  clear hU U
  refine az λU hU=>?_
  walk_at"l3"
  refine hU _ ?_
  clear hU U
  generalize hM:aa m=M at *
  refine az λU hU=>?_
  walk_at"l3"
  have s1:∀n:Nat,(n=2\/M<=8/\(n=3\/n=4))->U [some (D.fz (aF ns)),some (dG m),some (D.int M),some (D.int n)]:=by
   intro n hn
   refine hU _ ?_
   clear hU U
   refine az λU hU=>?_
   walk_at"l3"
   have s2:∀n:Nat,(n=2\/M<=8/\(n=3\/n=4)\/M<=4/\3<=n/\n<=6)->U [some (D.fz (aF ns)),some (dG m),some (D.int M),some (D.int n)]:=by
    clear hn n
    intro n hn
    refine hU _ ?_
    clear hU U
    refine az λU hU=>?_
    walk_at"l3"
    have s3:∀n:Nat,(n=2\/M<=8/\(n=3\/n=4)\/M<=4/\3<=n/\n<=6\/M=2/\3<=n/\n<=8)->U [some (D.fz (aF ns)),some (dG m),some (D.int M),some (D.int n)]:=by
     clear hn n
     intro n hn
     refine hU _ ?_
     clear hU U
     walk_at"l3"
     obtain⟨j,ej,j1,j2⟩:∃j:Int,(1:Int)+(n:Int)%2=j/\1<=j/\j<=2/\(j=1\/(n:Int)%2=1):=⟨_,rfl,by omega,by omega,by omega⟩
     obtain⟨k,ek,hk⟩:=wX (ns.getD (k9 2) 0) (show(0:Int)<j by omega)
     refine⟨ym (by decide) (by decide),ns,2,rfl,by decide,by decide,?_⟩
     dsimp only
     rw[ej,ek]
     refine⟨by omega,by decide,?_⟩
     have:=q n (n/2+k) (by omega) (by omega) (by omega) (by omega) (by
      rcases hn with h | ⟨h,h'⟩ | ⟨h,h'⟩ | ⟨h,h'⟩
      ·exact DS tJ (e:=1) (by omega) (by decide) (by decide)
      ·exact DS h (e:=2) (by omega) (by decide) (by decide)
      ·exact DS h (e:=3) (by omega) (by decide) (by decide)
      ·exact DS (xi h) (e:=4) (by omega) (by decide) (by decide))
     rw[show((n/2+k:Nat):Int)=(n:Int)/2+(k:Int) by omega]at this
     exact this
    split
    ·refine⟨ns,1,rfl,by decide,?_⟩
     dsimp only
     obtain⟨k,ek,hk⟩:=wX (ns.getD (k9 1) 0) (show(0:Int)<6 by decide)
     rw[ek]
     refine⟨by decide,?_⟩
     have:=s3 (3+k) (by omega)
     exact this
    ·exact s3 n (by omega)
   split
   ·refine⟨ns,1,rfl,by decide,?_⟩
    dsimp only
    obtain⟨k,ek,hk⟩:=wX (ns.getD (k9 1) 0) (show(0:Int)<4 by decide)
    rw[ek]
    refine⟨by decide,?_⟩
    have:=s2 (3+k) (by omega)
    exact this
   ·exact s2 n (by omega)
  split
  ·refine⟨ns,1,rfl,by decide,?_⟩
   dsimp only
   obtain⟨k,ek,hk⟩:=wX (ns.getD (k9 1) 0) (show(0:Int)<2 by decide)
   rw[ek]
   refine⟨by decide,?_⟩
   have:=s1 (3+k) (by omega)
   exact this
  ·exact s1 2 (by omega)
noncomputable abbrev aJ2:bh:=λds Q=>∃T:List (List Nat),ds=[.lst false (aw false T)]/\T.length<=1000/\(∀r∈T,r.length<=1000)/\Q (.int (ag T:Nat))
theorem DT(T:Txt K mg t):aO P w K mg base aZ 1 t.Sg t.Sh ["table"] (bq (aJ2 )):=by
 refine bO T.tG.F aJ1 ?_ ?_
 ·intro ds Q h
  obtain⟨G,rfl,hG,hr,q⟩:=h<;>rfl
 ·intro aH A outer s H E hr
  refine⟨_,(aG (bc (cJ7 (cH (mQ (dF hr)) (bv 0) (ae (cO cm)) (bL _)) (fU (iU) (by rfl) T.iG ie (aj (bB (bv 0) (ae ao) (λ_ _=>rfl)) ay)) ao))),λds Q h=>?_⟩
  obtain⟨G,rfl,hG,hr,q⟩:=h
  walk_at"l3"
  refine⟨by decide,⟨Qg 4 _ _ _,rfl⟩,?_⟩
  rw[show(D.lst true ([]:List D))=D.lst true (aw true []) from rfl,cf2]
  cases G with
  | nil=>rw[if_neg (by simp)];exact q
  | cons r G =>
   rw[if_pos (by simp)]
   refine⟨.lst false (au r),zy false (T:=r::G) (i:=0) (ET _),?_⟩
   show Q (D.int ((au r).length:Nat))
   rw[iy];exact q
noncomputable abbrev aE3:bh:=λds Q=>∃(T:List (List Nat)) (j:Nat),ds=[.lst false (aw false T),.int j]/\T.length<=1000/\(∀r∈T,j<r.length)/\Q (match j5 T j with | some i=>.int (i:Nat) | none=>.aq)
theorem aE4(T:Txt K mg t):aO P w K mg base aZ 1 t.Si t.Sj ["rows","place"] (bq (aE3 )):=by
 refine bO T.TL.F Ry ?_ ?_
 ·intro ds Q h
  obtain⟨G,j,rfl,hG,hr,q⟩:=h<;>rfl
 ·intro aH A outer s H E hr
  refine⟨_,(aA (gg eW rfl (yZ rfl T.z5 (aj (bv 0) ay)) (vV (i1:=2) (i2:=3) rfl Ry.nd rfl (ax rfl) rfl (ax rfl))
    (aG (dZ (cH (mQ (dF hr)) (bB (bv 3) (bv 1) (λ_ _=>rfl)) (ae ao) (bL _)) (aG (bc (em 2))) dY)))
   (aG (bc BH))),λds Q h=>?_⟩
  obtain⟨G,j,rfl,hG,hr,q⟩:=h
  refine az λU hU=>?_
  walk_at"l3"
  refine gu.mk (λi δ=>∃o1 o2,δ=[some (D.lst false (aw false G)),some (D.int j),o1,o2]/\∀k,k<i->(G.getD k []).getD j 0=0) ⟨_,_,rfl,λk hk=>absurd hk (Nat.not_lt_zero k)⟩ ?_ ?_
  ·rintro i d δ hd ⟨o1,o2,rfl,hz⟩
   obtain⟨hi,rfl⟩:=Qi hd
   have hj:=hr _ (eB hi)
   have eg:G.getD i []=G[i]:=by rw[aJ,aQ hi];rfl
   walk_at"l3"
   refine⟨.int (G[i].getD j 0:Nat),by rw[oo (by omega) (by omega),iJ],rfl,?_⟩
   rw[nX]
   by_cases h0:G[i].getD j 0=0
   ·rw[if_neg (by rw[h0];decide)]
    refine⟨_,_,⟨rfl,rfl⟩,λk hk=>?_⟩
    by_cases e:k=i
    ·rw[e,eg];exact h0
    ·exact hz k (by omega)
   ·rw[if_pos (by rw[decide_eq_false (by omega)];rfl)]
    have ef:j5 G j=some i:=by
     unfold j5
     rw[Wg]
     refine⟨hi,by simpa using h0,λk hk=>?_⟩
     have:=hz k hk
     rw[aJ (l:=G),aQ (by omega)]at this
     simpa using this
    rw[ef]at q
    exact q
  ·rintro δ ⟨o1,o2,rfl,hz⟩
   refine hU _ ?_
   walk_at"l3"
   have ef:j5 G j=none:=by
    unfold j5
    rw[Wh]
    intro r bo
    obtain⟨i,hi,rfl⟩:=jI bo
    have:=hz i (by rw[vS,jy];exact hi)
    rw[aJ (l:=G),aQ hi]at this
    simpa using this
   rw[ef]at q
   exact q
noncomputable abbrev Ut(K:Frag):bh:=λds Q=>∃(C:Addr) (p a:Nat) (xs:List Nat),ds=[zo C p,.int a,.lst false (au xs)]/\df K C/\bj K C "products"/\p∈gU/\a<aa (true,p)/\(∀y∈xs,y<aa (true,p))/\xs.length<=1000/\Q (.lst true (au (xs.map (gm (true,p) a))))
theorem ax2(T:Txt K mg t):aO P w K mg base aZ 1 t.Jy t.Sk ["self","a","row"] (bq (Ut K)):=by
 refine bO T.TM.F Rz ?_ ?_
 ·intro ds Q h
  obtain⟨C,p,a,xs,rfl,hC,hn,hp,ha,hy,hl,q⟩:=h<;>rfl
 ·intro aH A outer s H E hr
  refine⟨_,(aA (aW (i:=3) Rz.nd rfl (bV rfl) (dE (bB (fW (K:=K) (bv 0)) (bv 1) (λ_ _=>rfl))))
   (aG (bc (eI [("by_a",3)] ["x"] rfl (iu (bv 2)) (λ_ _ _ _=>(fg (i:=1) (show(["by_a","x"]:List Str).Nodup by decide +kernel))) (λ_ _ _ _=>eZ) (λ_ _ _ _=>(dE (bB (bv 0) (bv 1) (λ_ _=>rfl)))) rfl)))),λds Q h=>?_⟩
  obtain⟨C,p,a,xs,rfl,hC,hn,hp,ha,hy,hl,q⟩:=h
  refine az λU hU=>?_
  walk_at"l3"
  refine⟨C,_,_,_,rfl,hC,hn,rfl,_,Hf hp ha,?_⟩
  refine⟨by rw[gO,qg];rfl,hU _ ?_⟩
  clear hU U
  walk_at"l3"
  refine fB xs (λ(i:Nat)=>D.int (i:Int)) (λx=>D.int ((gm (true,p) a x:Nat):Int)) (qj xs) l6 (λx hx=>?_) (.inr λ_ _=>rfl) (by rw[sL];omega) ?_
  ·walk_at"l3"
   exact⟨_,He hp ha (hy x hx),rfl,rfl⟩
  ·rw[du,bW]at q
   exact q
noncomputable abbrev Uu(K:Frag):bh:=λds Q=>∃(C:Addr) (p a:Nat) (xs:List Nat),ds=[wk C p,.int a,.lst false (au xs)]/\df K C/\bj K C "prime"/\0<p/\a<64/\(∀y∈xs,y<64)/\xs.length<=1000/\Q (.lst true (au (xs.map (gm (false,p) a))))
theorem ar4(T:Txt K mg t):aO P w K mg base aZ 1 t.Jz t.Sl ["self","a","row"] (bq (Uu K)):=by
 refine bO T.TN.F RA ?_ ?_
 ·intro ds Q h
  obtain⟨C,p,a,xs,rfl,hC,hn,hp,ha,hy,hl,q⟩:=h<;>rfl
 ·intro aH A outer s H E hr
  refine⟨_,(aA (aW (i:=3) RA.nd rfl (bV rfl) (dE (fW (K:=K) (bv 0))))
   (aG (bc (eI [("prime",3),("a",1)] ["x"] rfl (iu (bv 2)) (λ_ _ _ _=>(fg (i:=2) (show(["prime","a","x"]:List Str).Nodup by decide +kernel))) (λ_ _ _ _=>eZ) (λ_ _ _ _=>(aD eO (ae (aD fQ (bv 1) (bv 2))) (bv 0))) rfl)))),λds Q h=>?_⟩
  obtain⟨C,p,a,xs,rfl,hC,hn,hp,ha,hy,hl,q⟩:=h
  refine az λU hU=>?_
  walk_at"l3"
  refine⟨C,_,_,.int p,rfl,hC,hn,rfl,rfl,hU _ ?_⟩
  clear hU U
  walk_at"l3"
  refine fB xs (λ(i:Nat)=>D.int (i:Int)) (λx=>D.int ((gm (false,p) a x:Nat):Int)) (qj xs) l6 (λx hx=>?_) (.inr λ_ _=>rfl) (by rw[sL];omega) ?_
  ·have h2:=hy x hx
   walk_at"l3"
   refine⟨jO.ok (.inr ⟨by omega,by omega⟩),by omega,?_⟩
   show _=((a*x%p:Nat):Int)
   rw[qR,ue]
  ·rw[du,bW]at q
   exact q
theorem b74(T:Txt K mg t){m:Bool × Nat}(hm:m∈av):∃C ns zs sp,fD t.aL t.aP m=.obj C ns zs/\kH P w K mg base 1 "scaled" C sp/\("scaled":Str) ∉ ns/\∀(xs:List Nat) (a:Nat) (Q:D->Prop),a<aa m->(∀y∈xs,y<aa m)->xs.length<=1000->Q (.lst true (au (xs.map (gm m a))))->sp [.obj C ns zs,.int a,.lst false (au xs)] Q:=by
 have hF:=dm hm
 obtain⟨k,n⟩:=m
 cases k with
 | true=>exact⟨_,_,_,Ut K,rfl,⟨T.gi,_,_,_,T.aw7,ax2 T,T.TM.b⟩,by decide,λxs a Q ha hy hl q=>⟨_,n,a,xs,rfl,T.gi,T.wU,zu hm,ha,hy,hl,q⟩⟩
 | false =>
  have tK:n<=64:=hF.hi
  have l2:2<=n:=hF.lo
  exact⟨_,_,_,Uu K,rfl,⟨T.gH,_,_,_,T.aq8,ar4 T,T.TN.b⟩,by decide,λxs a Q ha hy hl q=>⟨_,n,a,xs,rfl,T.gH,T.tH,by omega,cK (show a<n from ha) tK,λy h=>cK (show y<n from hy y h) tK,hl,q⟩⟩
noncomputable abbrev Uv(K:Frag):bh:=λds Q=>∃(C:Addr) (p a:Nat) (xs ys:List Nat),ds=[zo C p,.lst false (au xs),.int a,.lst false (au ys)]/\df K C/\bj K C "products"/\p∈gU/\a<aa (true,p)/\(∀y∈ys,y<aa (true,p))/\xs.length<=1000/\Q (.lst true (au (cU (λx y=>aS (true,p) x (gm (true,p) a y)) xs ys)))
theorem ar5(T:Txt K mg t):aO P w K mg base aZ 1 t.JA t.Sm ["self","row","a","other"] (bq (Uv K)):=by
 refine bO T.TQ.F RB ?_ ?_
 ·intro ds Q h
  obtain⟨C,p,a,xs,ys,rfl,hC,hn,hp,ha,hy,hl,q⟩:=h<;>rfl
 ·intro aH A outer s H E hr
  refine⟨_,(aA (aW (i:=4) RB.nd rfl (bV rfl) (dE (bB (fW (K:=K) (bv 0)) (bv 2) (λ_ _=>rfl))))
   (aG (bc (eI [("by_a",4)] ["x","y"] rfl (BY rfl T.DL (aj (bv 1) (aj (bv 3) ay))) (λ_ _ _ _=>(zK (i1:=1) (i2:=2) (show(["by_a","x","y"]:List Str).Nodup by decide +kernel))) (λ_ _ _ _=>eZ) (λ_ _ _ _=>(aD yo (bv 1) (bB (bv 0) (bv 2) (λ_ _=>rfl)))) rfl)))),λds Q h=>?_⟩
  obtain⟨C,p,a,xs,ys,rfl,hC,hn,hp,ha,hy,hl,q⟩:=h
  refine az λU hU=>?_
  walk_at"l3"
  refine⟨C,_,_,_,rfl,hC,hn,rfl,_,Hf hp ha,?_⟩
  refine⟨by rw[gO,qg];rfl,hU _ ?_⟩
  clear hU U
  walk_at"l3"
  refine⟨_,_,rfl,rfl,Hl (λx y=>aS (true,p) x (gm (true,p) a y)) (λx hx y DU=>?_) (by omega) q⟩
  walk_at"l3"
  refine⟨_,He hp ha (hy y DU),?_⟩
  show oW (x:Int) ((gm (true,p) a y:Nat):Int)=_
  rw[pQ];rfl
noncomputable abbrev Uw(K:Frag):bh:=λds Q=>∃(C:Addr) (p a:Nat) (xs ys:List Nat),ds=[wk C p,.lst false (au xs),.int a,.lst false (au ys)]/\df K C/\bj K C "prime"/\0<p/\a<64/\(∀y∈ys,y<64)/\xs.length<=1000/\Q (.lst true (au (cU (λx y=>aS (false,p) x (gm (false,p) a y)) xs ys)))
theorem ap4(T:Txt K mg t):aO P w K mg base aZ 1 t.JB t.Sn ["self","row","a","other"] (bq (Uw K)):=by
 refine bO T.TR.F RC ?_ ?_
 ·intro ds Q h
  obtain⟨C,p,a,xs,ys,rfl,hC,hn,hp,ha,hy,hl,q⟩:=h<;>rfl
 ·intro aH A outer s H E hr
  refine⟨_,(aA (aW (i:=4) RC.nd rfl (bV rfl) (dE (fW (K:=K) (bv 0))))
   (aG (bc (eI [("prime",4),("a",2)] ["x","y"] rfl (BY rfl T.DL (aj (bv 1) (aj (bv 3) ay))) (λ_ _ _ _=>(zK (i1:=2) (i2:=3) (show(["prime","a","x","y"]:List Str).Nodup by decide +kernel))) (λ_ _ _ _=>eZ) (λ_ _ _ _=>(aD eO (ae (aD gQ (bv 2) (ae (aD fQ (bv 1) (bv 3))))) (bv 0))) rfl)))),λds Q h=>?_⟩
  obtain⟨C,p,a,xs,ys,rfl,hC,hn,hp,ha,hy,hl,q⟩:=h
  refine az λU hU=>?_
  walk_at"l3"
  refine⟨C,_,_,.int p,rfl,hC,hn,rfl,rfl,hU _ ?_⟩
  clear hU U
  walk_at"l3"
  refine⟨_,_,rfl,rfl,Hl (λx y=>aS (false,p) x (gm (false,p) a y)) (λx hx y DU=>?_) (by omega) q⟩
  have h2:=hy y DU
  walk_at"l3"
  refine⟨jO.ok (.inr ⟨by omega,by omega⟩),by omega,?_⟩
  have e:((x:Int)-((a*y%p:Nat):Int))%(p:Int)=((x:Int)-(a:Int)*y)%p:=by
   rw[qR,ue,Int.sub_emod,Int.emod_emod,<- Int.sub_emod]
  show _=(((((x:Int)-((a*y%p:Nat):Int))%(p:Int)).toNat:Nat):Int)
  rw[e,ua (jK _ (by omega))]
theorem Kp(T:Txt K mg t){m:Bool × Nat}(hm:m∈av):∃C ns zs sp,fD t.aL t.aP m=.obj C ns zs/\kH P w K mg base 1 "lessened" C sp/\("lessened":Str) ∉ ns/\∀(xs ys:List Nat) (a:Nat) (Q:D->Prop),a<aa m->(∀y∈ys,y<aa m)->xs.length<=1000->Q (.lst true (au (cU (λx y=>aS m x (gm m a y)) xs ys)))->sp [.obj C ns zs,.lst false (au xs),.int a,.lst false (au ys)] Q:=by
 have hF:=dm hm
 obtain⟨k,n⟩:=m
 cases k with
 | true=>exact⟨_,_,_,Uv K,rfl,⟨T.gi,_,_,_,T.aq7,ar5 T,T.TQ.b⟩,by decide,λxs ys a Q ha hy hl q=>⟨_,n,a,xs,ys,rfl,T.gi,T.wU,zu hm,ha,hy,hl,q⟩⟩
 | false =>
  have tK:n<=64:=hF.hi
  have l2:2<=n:=hF.lo
  exact⟨_,_,_,Uw K,rfl,⟨T.gH,_,_,_,T.ap2,ap4 T,T.TR.b⟩,by decide,λxs ys a Q ha hy hl q=>⟨_,n,a,xs,ys,rfl,T.gH,T.tH,by omega,cK (show a<n from ha) tK,λy h=>cK (show y<n from hy y h) tK,hl,q⟩⟩
noncomputable abbrev aK6(cb cp:Addr):bh:=λds Q=>∃(m:Bool × Nat) (T:List (List Nat)) (l:List Nat) (j:Nat),ds=[fD cb cp m,.lst false (aw false T),.lst false (au l),.int j]/\m∈av/\T.length<=1000/\AllLt (aa m) l/\(∀r∈T,j<r.length/\r.length<=1000/\AllLt (aa m) r)/\Q (.lst true (aw true (T.map λr=>cU (λx y=>aS m x (gm m (r.getD j 0) y)) r l)))
theorem Ux(T:Txt K mg t):aO P w K mg base aZ 2 t.So t.Sq ["field","rows","lead_row","place"] (bq (aK6 t.aL t.aP)):=by
 refine bO T.JM.F aK2 ?_ ?_
 ·intro ds Q h
  obtain⟨m,G,l,j,rfl,hm,hG,hl,hr,q⟩:=h<;>rfl
 ·intro aH A outer s H E hr
  refine⟨_,(aG (bc (eI [("lead_row",2),("field",0),("place",3)] ["row"] rfl (iu (bv 1)) (λ_ _ _ _=>(fg (i:=3) (show(["lead_row","field","place","row"]:List Str).Nodup by decide +kernel))) (λ_ _ _ _=>eZ) (λ_ _ _ _=>(oj (P:=P) (w:=w) (K:=K) (mg:=mg) (base:=base) (n:=1) (bv 1) (hr.mono (by decide)) (aj (bv 3) (aj (bB (bv 3) (bv 2) (λ_ _=>rfl)) (aj (bv 0) ay))))) rfl))),λds Q h=>?_⟩
  obtain⟨m,G,l,j,rfl,hm,hG,hl,hr,q⟩:=h
  walk_at"l3"
  refine fB G (λr=>D.lst false (au r)) (λr=>D.lst true (au (cU (λx y=>aS m x (gm m (r.getD j 0) y)) r l))) (by rw[eP];rfl) (λa b h=>oq a b h) (λr bo=>?_) (.inr λr _=>l8 _) (by rw[sL];omega) ?_
  ·obtain⟨h1,h2,h3⟩:=hr r bo
   obtain⟨C,ns,zs,sp,e1,e2,e3,e4⟩:=Kp (P:=P) (w:=w) (base:=base) T hm
   walk_at"l3"
   refine⟨C,ns,zs,sp,e1,e2,e3,.int (r.getD j 0:Nat),by rw[oo (by omega) (by omega),iJ],e4 _ _ _ _ (h3.getD (by have:=(dm hm).lo;omega) j) hl h2 ⟨rfl,rfl⟩⟩
  ·rw[aw,bW]at q
   exact q
noncomputable abbrev Uy(t:gb)(P:Program)(w:World)(K:Frag)(mg:Str->Option Value)(base:Heap):mT:=λds Q Ex=>∃(m:Bool × Nat) (a b:Nat),ds=[fD t.aL t.aP m,.int a,.int b]/\m∈av/\a<aa m/\b<aa m/\(b=0->Ex t.eR)/\(b≠0->∀r:Nat,r<aa m->gm m r b=a->Q (.int (r:Nat)))
theorem Uz(T:Txt K mg t):aO P w K mg base (kA P w) 2 t.Df t.Sr ["self","a","b"] (nY (Uy t P w K mg base)):=by
 refine GF T.JN.F aD2 ?_ ?_
 ·intro ds Q Ex h
  obtain⟨m,a,b,rfl,hm,ha,hb,qx,q⟩:=h<;>rfl
 ·intro aH A outer s H E hr
  refine⟨_,(aA (dZ (cH (fS (dF hr)) (bv 2) (ae ao) (bL _)) (aG (GG T.Uk rfl (by rfl) (aj (ae Gb) ay))) dY)
   (aA (dZ (cH (fS (dF hr)) (bv 1) (ae ao) (bL _)) (aG (bc ao)) dY)
   (aG (bc (oj (P:=P) (w:=w) (K:=K) (mg:=mg) (base:=base) (n:=1) (bv 0) (hr.mono (by decide)) (aj (ae (aD gQ (bB (fW (K:=K) (bv 0)) (bv 1) (λ_ _=>rfl)) (bB (fW (K:=K) (bv 0)) (bv 2) (λ_ _=>rfl)))) ay)))))),λds Q Ex h=>?_⟩
  obtain⟨m,a,b,rfl,hm,ha,hb,qx,q⟩:=h
  refine az λU hU=>?_
  walk_at"l3"
  split
  ·rename_i h0
   exact⟨by decide,qx (by omega)⟩
  ·rename_i h0
   have b0:b≠0:=by omega
   refine hU _ ?_
   clear hU U
   refine az λU hU=>?_
   walk_at"l3"
   split
   ·rename_i h1
    have a0:a=0:=by omega
    subst a0
    exact q b0 0 ha (eE m b (bS m hm))
   ·rename_i h1
    have a0:a≠0:=by omega
    refine hU _ ?_
    clear hU U
    have hF:=dm hm
    obtain⟨r,e,CI,hr2⟩:=P2 hm (show 1<=a by omega) ha (show 1<=b by omega) hb
    have qr:=q b0 r CI hr2
    obtain⟨k,n⟩:=m
    cases k with
    | true =>
     walk_at"l3"
     have ll:(e5 (fl (true,n))).length=aa (true,n):=(zi _ _).trans hF.len
     have n0:=jK (lg (true,n) a-lg (true,n) b) (show(aa (true,n):Int)-1≠0 by have:=hF.lo;omega)
     have n1:=kZ (lg (true,n) a-lg (true,n) b) (show(0:Int)<(aa (true,n):Int)-1 by have:=hF.lo;omega)
     refine⟨_,_,_,Kk K,rfl,⟨T.gi,_,_,_,T.DC,Kl T,T.Dm.b⟩,by decide,_,_,_,_,rfl,T.gi,T.wQ,rfl,_,mS (by omega) (by rw[ll];omega),_,_,_,_,rfl,T.gi,T.wQ,rfl,_,mS (by omega) (by rw[ll];omega),?_⟩
     refine⟨_,_,_,_,aa (true,n),fl (true,n),r,rfl,T.gi,T.zS,T.wR,rfl,rfl,hF.lo,?_,qr⟩
     have hk:((lg (true,n) a-lg (true,n) b)%((aa (true,n):Int)-1)).toNat<(fl (true,n)).length:=by have:=hF.len;omega
     show(fl (true,n))[((lg (true,n) a-lg (true,n) b)%((aa (true,n):Int)-1)).toNat]?=some (r:Int)
     rw[<-e]
     unfold pw
     rw[aJ,aQ hk];rfl
    | false =>
     walk_at"l3"
     have ll:(e5 (fl (false,n))).length=aa (false,n):=(zi _ _).trans hF.len
     have n0:=jK (lg (false,n) a-lg (false,n) b) (show(aa (false,n):Int)-1≠0 by have:=hF.lo;omega)
     have n1:=kZ (lg (false,n) a-lg (false,n) b) (show(0:Int)<(aa (false,n):Int)-1 by have:=hF.lo;omega)
     refine⟨_,_,_,Kk K,rfl,⟨T.gH,_,_,_,T.DF,Kl T,T.Dm.b⟩,by decide,_,_,_,_,rfl,T.gH,T.zY,rfl,_,mS (by omega) (by rw[ll];omega),_,_,_,_,rfl,T.gH,T.zY,rfl,_,mS (by omega) (by rw[ll];omega),?_⟩
     refine⟨_,_,_,_,aa (false,n),fl (false,n),r,rfl,T.gH,T.DE,T.wW,rfl,rfl,hF.lo,?_,qr⟩
     have hk:((lg (false,n) a-lg (false,n) b)%((aa (false,n):Int)-1)).toNat<(fl (false,n)).length:=by have:=hF.len;omega
     show(fl (false,n))[((lg (false,n) a-lg (false,n) b)%((aa (false,n):Int)-1)).toNat]?=some (r:Int)
     rw[<-e]
     unfold pw
     rw[aJ,aQ hk];rfl
theorem UA(T:Txt K mg t)(m:Bool × Nat):Co P w K mg base 2 "over" (if m.1 then t.aL else t.aP) (Uy t P w K mg base):=by
 obtain⟨k,n⟩:=m
 cases k with
 | true=>exact⟨T.gi,_,_,_,T.JW,Uz T,T.JN.b⟩
 | false=>exact⟨T.gH,_,_,_,T.J4,Uz T,T.JN.b⟩
noncomputable abbrev aK7(t:gb)(P:Program)(w:World)(K:Frag)(mg:Str->Option Value)(base:Heap):bh:=λds Q=>∃(m:Bool × Nat) (G:List (List Nat)),ds=[fD t.aL t.aP m,.lst false (aw false G)]/\m∈av/\G.length<=900/\RT (aa m) (ag G) G/\ag G<=900/\Q (.lst true (aw true (bU m G)))
theorem UB(T:Txt K mg t):aO P w K mg base aZ 3 t.Ss t.Su ["field","table"] (bq (aK7 t P w K mg base)):=by
 refine bO T.zP.F qF ?_ ?_
 ·intro ds Q h
  obtain⟨m,G,rfl,hm,hG,hR,hw,q⟩:=h<;>rfl
 ·intro aH A outer s H E hr
  refine⟨_,(aA (aW (i:=2) qF.nd rfl (ax rfl) (cO cm))
   (aA (aW (i:=3) qF.nd rfl (ax rfl) (dE (bv 1)))
   (aA (gg eW rfl (mL rfl T.gY (aj (ae (cA T.tG (DT T) hr (aj (bv 1) ay))) ay)) (ir (i:=4) qF.nd rfl (ax rfl))
    (BK 3 (aA (aW (i:=5) qF.nd rfl (ax rfl) (cA T.TL (aE4 T) hr (aj (bv 3) (aj (bv 4) ay))))
    (aG (dZ (cH cB8 (bv 5) (ae BH) (bL _)) (aA (aW (i:=6) qF.nd rfl (ax rfl) (oj (P:=P) (w:=w) (K:=K) (mg:=mg) (base:=base) (n:=1) (bv 0) (hr.mono (by decide)) (aj (ae (P4 (P:=P) (w:=w) (K:=K) (mg:=mg) (base:=base) (n:=2) (bv 0) (hr.mono (by decide)) (aj (ae ao) (aj (bB (bB (bv 3) (bv 5) (λ_ _=>rfl)) (bv 4) (λ_ _=>rfl)) ay)))) (aj (bB (bv 3) (bv 5) (λ_ _=>rfl)) ay))))
     (aA (aW (i:=3) qF.nd rfl (ax rfl) (cA T.JM (Ux T) hr (aj (bv 0) (aj (ae (aD cS (ae (sO (bv 3) sD (sE (bv 5)))) (ae (sO (bv 3) (sE (ae (aD cS (bv 5) (ae ao)))) sD)))) (aj (bv 6) (aj (bv 4) ay))))))
     (aG (aW (i:=2) qF.nd rfl (ax rfl) (ct5 (cA T.JM (Ux T) hr (aj (bv 0) (aj (bv 2) (aj (bv 6) (aj (bv 4) ay))))) (cO (cw (em 6) cm))))))) dY)))))
   (aG (bc (em 2)))))),λds Q h=>?_⟩
  obtain⟨m,G,rfl,hm,hG,hR,hw,q⟩:=h
  have eD:=(dm hm).lo
  refine az λU hU=>?_
  walk_at"l3"
  refine⟨by decide,hU _ ?_⟩
  clear hU U
  refine az λU hU=>?_
  walk_at"l3"
  refine hU _ ?_
  clear hU U
  refine az λU hU=>?_
  walk_at"l3"
  refine⟨G,rfl,by omega,λr bo=>?_,?_⟩
  ·rw[(hR r bo).1];omega
  refine⟨_,rfl,⟨by omega,by omega⟩,?_⟩
  refine vK (λk δ=>∃(o:Bool) (o1 o2 o3:Option D),δ=[some (fD t.aL t.aP m),some (D.lst false (aw false G)),some (D.lst true (aw true (j6 m G k).1)),some (D.lst o (aw o (j6 m G k).2)),o1,o2,o3]) ⟨false,none,none,none,rfl⟩ ?_ ?_
  ·rintro k δ hk ⟨o,o1,o2,o3,rfl⟩
   have I:=CB hm hR k
   rw[Ho]
   generalize j6 m G k=s at I ⊢
   simp only[gN,rT,fm,fk,qT,qS,xv,exists_eq_left',eN,eP]
   clear hU
   have il:=I.l
   refine az λU hU=>?_
   walk_at"l3"
   refine⟨s.2,k,rfl,by omega,λr bo=>by rw[(I.b r bo).1];omega,?_⟩
   cases e:j5 s.2 k with
   | none =>
    rw[show iC m s k=s by unfold iC;rw[e]]at hU
    refine hU _ ?_
    walk_at"l3"
    exact⟨false,_,_,_,⟨rfl,rfl⟩,rfl,rfl,rfl⟩
   | some i =>
    obtain⟨hi,h1,h2⟩:=CA e
    have er:iC m s k=(gG m s.1 (eG m s.2 i k) k++[eG m s.2 i k],gG m (s.2.take i++s.2.drop (i+1)) (eG m s.2 i k) k):=by unfold iC;rw[e]
    rw[er]at hU
    refine hU _ ?_
    clear hU
    walk_at"l3"
    obtain⟨C,ns,xs,sp,e1,e2,e3,e4⟩:=b74 (P:=P) (w:=w) (base:=base) T hm
    refine az λU hU=>?_
    walk_at"l3"
    obtain⟨lw,lr⟩:=I.b _ (eB hi)
    have bk:=lr.getD (show 0<aa m by omega) k
    refine⟨C,ns,xs,sp,e1,e2,e3,_,_,_,_,wm _ _ m,UA T m,P5 m _ (by decide),.lst false (au s.2[i]),zy false hi,?_⟩
    dsimp only
    refine⟨.int (s.2[i].getD k 0:Nat),by rw[oo (by omega) (by omega),iJ],m,1,s.2[i].getD k 0,by rw[wm];rfl,hm,eD,bk,λz=>absurd z h1,λ_ f hf hfo=>⟨rfl,.lst false (au s.2[i]),zy false hi,?_⟩⟩
    have ef:mW m (s.2[i].getD k 0)=f:=Cz hm hf hfo
    rw[Cu]
    refine e4 _ _ _ hf lr (by omega) ⟨by rw[l8,nq],hU _ ?_⟩
    have el:s.2[i].map (gm m f)=eG m s.2 i k:=by unfold eG;rw[h2,ef]
    rw[el]
    have ll:(eG m s.2 i k).length=ag G:=by rw[<-el,aY];exact lw
    have la:AllLt (aa m) (eG m s.2 i k):=λx hx=>by
     rw[<-el]at hx
     obtain⟨y,_,rfl⟩:=aX.mp hx
     exact bC hm _ _
    generalize eG m s.2 i k=ld at ll la ⊢
    clear hU
    refine az λU hU=>?_
    walk_at"l3"
    have Kq:∀r∈s.2.take i++s.2.drop (i+1),r.length=ag G/\AllLt (aa m) r:=λr bo=>by
     rcases bP.mp bo with h | h
     ·exact I.b r (tX h)
     ·exact I.b r (pz h)
    have UC:∀X:List (List Nat),(D.lst true (aw true X)).fr=true:=λX=>by rw[fM,qw];rfl
    rw[GU,show((i:Int)+1)=((i+1:Nat):Int) by omega,B0,s9,eP]
    refine⟨by rw[fJ,fA];omega,m,_,ld,k,rfl,hm,by rw[cy,fJ,fA];omega,la,λr bo=>⟨by rw[(Kq r bo).1];exact hk,by rw[(Kq r bo).1];omega,(Kq r bo).2⟩,UC _,hU _ ?_⟩
    clear hU
    walk_at"l3"
    refine⟨m,s.1,ld,k,rfl,hm,by omega,la,λr bo=>⟨by rw[(I.a r bo).1];exact hk,by rw[(I.a r bo).1];omega,(I.a r bo).2⟩,UC _,by decide,_,_,rfl,rfl,?_,true,_,_,_,s9 true _ [ld],⟨rfl,rfl⟩,rfl,rfl,rfl⟩
    rw[jy,aY]
    show s.1.length+1<=_
    omega
  ·rintro δ ⟨o,o1,o2,o3,rfl⟩
   refine hU _ ?_
   walk_at"l3"
   exact q
noncomputable abbrev aL1:bh:=λds Q=>∃T:List (List Nat),ds=[.lst false (aw false T)]/\T.length<=1000/\Q (.lst true (aw true T))
theorem UD(T:Txt K mg t):aO P w K mg base aZ 1 t.Sv t.Sw ["table"] (bq (aL1 )):=by
 refine bO T.zQ.F aK9 ?_ ?_
 ·intro ds Q h
  obtain⟨G,rfl,hG,q⟩:=h<;>rfl
 ·intro aH A outer s H E hr
  refine⟨_,(aG (bc (eI [] ["row"] rfl (iu (bv 0)) (λ_ _ _ _=>(fg (i:=0) (show(["row"]:List Str).Nodup by decide +kernel))) (λ_ _ _ _=>eZ) (λ_ _ _ _=>(Gv (ct0) (by rfl) T.Uj NJ (aj (bv 0) ay))) rfl))),λds Q h=>?_⟩
  obtain⟨G,rfl,hG,q⟩:=h
  walk_at"l3"
  refine fB G (λr=>D.lst false (au r)) (λr=>D.lst true (au r)) (by rw[eP];rfl) (λa b h=>oq a b h) (λr bo=>?_) (.inr λr _=>l8 r) (by rw[sL];omega) q
  walk_at"l3"
noncomputable abbrev b15:bh:=λds Q=>∃T:List (List Nat),ds=[.lst false (aw false T)]/\T.length<=1000/\(∀r∈T,r.length<=1000/\∃x∈r,x≠0)/\Q (.lst true (au (T.map aV)))
theorem UE(T:Txt K mg t):aO P w K mg base aZ 1 t.Sx t.Sy ["rows"] (bq (b15 )):=by
 refine bO T.JO.F bZ8 ?_ ?_
 ·intro ds Q h
  obtain⟨G,rfl,hG,hr,q⟩:=h<;>rfl
 ·intro aH A outer s H E hr
  refine⟨_,(aG (bc (eI [] ["row"] rfl (iu (bv 0)) (λ_ _ _ _=>(fg (i:=0) (show(["row"]:List Str).Nodup by decide +kernel))) (λ_ _ _ _=>eZ) (by exact λ_ _ _ _=>(dE (bB (ae (eI [] ["place","x"] rfl (yZ rfl T.z5 (aj (bv 0) ay)) (λ_ _ _ _=>(zK (i1:=0) (i2:=1) (show(["place","x"]:List Str).Nodup by decide +kernel))) (λ_ _ _ _=>(BN (cH (mQ (dF hr)) (bv 1) (ae ao) (bL _)))) (λ_ _ _ _=>(dE (bv 0))) rfl)) (ae ao) (λ_ _=>rfl)))) rfl))),λds Q h=>?_⟩
  obtain⟨G,rfl,hG,hr,q⟩:=h
  walk_at"l3"
  refine fB G (λr=>D.lst false (au r)) (λr=>D.int (aV r:Nat)) (by rw[eP];rfl) (λa b h=>oq a b h) (λr bo=>?_) (.inr λr _=>rfl) (by rw[sL];omega) ?_
  ·obtain⟨h1,x,hx,h3⟩:=hr r bo
   walk_at"l3"
   refine Cy (aM r.length) (λ(i:Nat)=>D.tup [.int (i:Int),.int ((r.getD i 0:Nat):Int)]) (λ(i:Nat)=>D.int (i:Int)) (λi=>r.getD i 0 != 0) (Qj r) (λa b h=>by injection h with h;simp at h;omega) (λi hi=>?_) (.inr λ_ _ _=>rfl) (by rw[cq,sL];omega) ?_
   ·walk_at"l3"
    refine⟨?_,λ_=>trivial⟩
    by_cases h0:r.getD i 0=0
    ·rw[h0];rfl
    ·rw[decide_eq_false (by omega),bne_iff_ne.mpr h0];rfl
   ·refine⟨.int (aV r:Nat),L3.GQ (k:=0) ?_,rfl,rfl⟩
    rw[cB,Qk ⟨x,hx,h3⟩];rfl
  ·rw[du,bW]at q
   exact q
noncomputable abbrev aC4:bh:=λds Q=>∃(T:List (List Nat)) (w:Nat),ds=[.lst false (aw false T),.int w]/\T.length<=1000/\w<=1000/\(∀r∈T,r.length<=1000/\∃x∈r,x≠0)/\Q (.lst true (au (cI T w)))
theorem UG(T:Txt K mg t):aO P w K mg base aZ 2 t.Sz t.SA ["rows","width"] (bq (aC4 )):=by
 refine bO T.zR.F RD ?_ ?_
 ·intro ds Q h
  obtain⟨G,w,rfl,hG,hw,hr,q⟩:=h<;>rfl
 ·intro aH A outer s H E hr
  refine⟨_,(aA (aW (i:=2) RD.nd rfl (bV rfl) (cA T.JO (UE T) hr (aj (bv 0) ay)))
   (aG (bc (eI [("taken",2)] ["place"] rfl (mL rfl T.gY (aj (bv 1) ay)) (λ_ _ _ _=>(fg (i:=1) (show(["taken","place"]:List Str).Nodup by decide +kernel))) (λ_ _ _ _=>(BN (cH cz4 (bv 1) (bv 0) (by with_unfolding_all rfl)))) (λ_ _ _ _=>(dE (bv 1))) rfl)))),λds Q h=>?_⟩
  obtain⟨G,w,rfl,hG,hw,hr,q⟩:=h
  refine az λU hU=>?_
  walk_at"l3"
  refine⟨G,rfl,hG,hr,?_⟩
  refine hU _ ?_
  clear hU U
  walk_at"l3"
  refine⟨⟨by omega,by omega⟩,Cy (aM w) (λ(i:Nat)=>D.int (i:Int)) (λ(i:Nat)=>D.int (i:Int)) (λj=>!(G.map aV).contains j) (Ct _ rfl) l6 (λj hj=>?_) (.inr λ_ _ _=>rfl) (by rw[cq,sL];omega) ?_⟩
  ·walk_at"l3"
   exact⟨_,rfl,by rw[b20],λ_=>trivial⟩
  ·rw[du]at q
   exact q
noncomputable abbrev UH:bh:=λds Q=>∃(d:D) (a b:Nat),ds=[d,.int a,.int b]/\Q (.int (a ^^^ b:Nat))
theorem ay8(T:Txt K mg t):aO P w K mg base aZ 1 t.JC t.SD ["self","a","b"] (bq (UH )):=by
 refine bO T.TU.F ay3 ?_ ?_
 ·intro ds Q h
  obtain⟨d,a,b,rfl,q⟩:=h<;>rfl
 ·intro aH A outer s H E hr
  refine⟨_,(aG (bc (aD yo (bv 1) (bv 2)))),λds Q h=>?_⟩
  obtain⟨d,a,b,rfl,q⟩:=h
  walk_at"l3"
  rw[pQ];exact q
noncomputable abbrev UI(K:Frag):bh:=λds Q=>∃(C:Addr) (p:Nat) (a b:Int),ds=[wk C p,.int a,.int b]/\df K C/\bj K C "prime"/\0<p/\Q (.int ((a-b)%p))
theorem au1(T:Txt K mg t):aO P w K mg base aZ 1 t.JE t.SE ["self","a","b"] (bq (UI K)):=by
 refine bO T.TV.F at7 ?_ ?_
 ·intro ds Q h
  obtain⟨C,p,a,b,rfl,hC,hn,hp,q⟩:=h<;>rfl
 ·intro aH A outer s H E hr
  refine⟨_,(aG (bc (aD eO (ae (aD gQ (bv 1) (bv 2))) (fW (K:=K) (bv 0))))),λds Q h=>?_⟩
  obtain⟨C,p,a,b,rfl,hC,hn,hp,q⟩:=h
  walk_at"l3"
  refine⟨C,_,_,.int p,rfl,hC,hn,rfl,?_⟩
  exact⟨by omega,q⟩
theorem UJ(T:Txt K mg t){m:Bool × Nat}(h0:0<m.2):∃C ns xs sp,fD t.aL t.aP m=.obj C ns xs/\kH P w K mg base 1 "minus" C sp/\("minus":Str) ∉ ns/\∀(a b:Nat) (Q:D->Prop),Q (.int (gl m a b))->sp [.obj C ns xs,.int a,.int b] Q:=by
 obtain⟨k,n⟩:=m
 cases k with
 | true=>exact⟨_,_,_,UH,rfl,⟨T.gi,_,_,_,T.ay6,ay8 T,T.TU.b⟩,by decide,λa b Q q=>⟨_,a,b,rfl,q⟩⟩
 | false=>exact⟨_,_,_,UI K,rfl,⟨T.gH,_,_,_,T.at9,au1 T,T.TV.b⟩,by decide,λa b Q q=>⟨_,n,a,b,rfl,T.gH,T.tH,h0,q⟩⟩
noncomputable abbrev ar6(cb cp:Addr):bh:=λds Q=>∃(m:Bool × Nat) (T:List (List Nat)) (w:Nat),ds=[fD cb cp m,.lst false (aw false T),.int w]/\m∈av/\T.length<=1000/\w<=1000/\RT (aa m) w T/\(∀r∈T,∃x∈r,x≠0)/\Q (.lst true (aw true (iX m T w)))
theorem ar7(T:Txt K mg t):aO P w K mg base aZ 3 t.SF t.SG ["field","rows","width"] (bq (ar6 t.aL t.aP)):=by
 refine bO T.Dv.F wM ?_ ?_
 ·intro ds Q h
  obtain⟨m,G,wi,rfl,hm,hG,hw,hR,hr,q⟩:=h<;>rfl
 ·intro aH A outer s H E hr
  refine⟨_,(aA (aW (i:=3) wM.nd rfl (ax rfl) (cA T.JO (UE T) hr (aj (bv 1) ay)))
   (aA (aW (i:=4) wM.nd rfl (ax rfl) (cO cm))
   (BK 3 (aA (gg eW rfl (rV (cA T.zR (UG T) hr (aj (bv 1) (aj (bv 2) ay)))) (ir (i:=5) wM.nd rfl (ax rfl))
    (aA (aW (i:=6) wM.nd rfl (ax rfl) (aD fQ (ae (cO (cw ao cm))) (bv 2)))
    (aA (yx (i:=6) rfl (by first | exact ax rfl | exact bV (ax rfl)) ao (bv 5))
    (aA (gg eW rfl (BY rfl T.DL (aj (bv 3) (aj (bv 1) ay))) (vV (i1:=7) (i2:=8) rfl wM.nd rfl (ax rfl) rfl (ax rfl))
     (aG (yx (i:=6) rfl (by first | exact ax rfl | exact bV (ax rfl)) (oj (P:=P) (w:=w) (K:=K) (mg:=mg) (base:=base) (n:=1) (bv 0) (hr.mono (by decide)) (aj (ae ao) (aj (bB (bv 8) (bv 5) (λ_ _=>rfl)) ay))) (bv 7))))
    (aG (qe (i:=4) rfl (by first | exact ax rfl | exact bV (ax rfl)) (em 6)))))))
   (aG (bc (em 4))))))),λds Q h=>?_⟩
  obtain⟨m,G,wi,rfl,hm,hG,hw,hR,hr,q⟩:=h
  have m0:=bS m hm
  have eD:=(dm hm).lo
  refine az λU hU=>?_
  walk_at"l3"
  refine⟨G,rfl,hG,λr bo=>⟨by rw[(hR r bo).1];exact hw,hr r bo⟩,hU _ ?_⟩
  clear hU U
  refine az λU hU=>?_
  walk_at"l3"
  refine⟨by decide,hU _ ?_⟩
  clear hU U
  refine⟨_,rfl,?_⟩
  rw[Cu]
  simp only[fm,fk]
  refine az λU hU=>?_
  walk_at"l3"
  refine⟨G,wi,rfl,hG,hw,λr bo=>⟨by rw[(hR r bo).1];exact hw,hr r bo⟩,?_⟩
  refine⟨_,rfl,?_⟩
  have hfp:∀j∈cI G wi,j<wi:=λj hj=>bK.mp (m5.mp hj).1
  have lfp:(cI G wi).length<=wi:=by
   have:=Wn (λj=>!(G.map aV).contains j) (aM wi)
   rw[cq]at this
   exact this
  rw[sP]
  refine gu.mk (λi δ=>∃o1 o2 o3 o4,δ=[some (fD t.aL t.aP m),some (D.lst false (aw false G)),some (D.int wi),some (D.lst false (au (G.map aV))),some (D.lst true (aw true (((cI G wi).take i).map (fC m G wi)))),o1,o2,o3,o4]) ⟨_,_,_,_,rfl⟩ ?_ ?_
  ·rintro i d δ hd ⟨o1,o2,o3,o4,rfl⟩
   rw[du,cB]at hd
   obtain⟨f,hf,rfl⟩:=EA.mp hd
   have hfw:=hfp f (tS hf)
   clear hd
   refine az λU hU=>?_
   walk_at"l3"
   have er:aF (aK wi 0)=au (aK wi 0):=by
    rw[du,kj];unfold aF;rw[kj];rfl
   rw[iJ,er]
   refine⟨by decide,⟨by omega,by omega,by omega⟩,hU _ ?_⟩
   clear hU
   refine az λU hU=>?_
   walk_at"l3"
   refine⟨_,f,rfl,?_,?_⟩
   ·rw[Cr (by omega) (by rw[iy,dA];omega)];rfl
   rw[show(au (aK wi 0)).set f (D.int 1)=au ((aK wi 0).set f 1) from P9 _ _ 1]
   refine hU _ ?_
   clear hU
   refine az λU hU=>?_
   walk_at"l3"
   refine⟨_,_,rfl,rfl,?_⟩
   refine gu.mk (λk δ=>∃o3 o4,δ=[some (fD t.aL t.aP m),some (D.lst false (aw false G)),some (D.int wi),some (D.lst false (au (G.map aV))),some (D.lst true (aw true (((cI G wi).take i).map (fC m G wi)))),some (D.int f),some (D.lst true (au ((((G.map aV).zip G).take k).foldl (λx z=>x.set z.1 (aS m 0 (z.2.getD f 0))) ((aK wi 0).set f 1)))),o3,o4]) ⟨_,_,rfl⟩ ?_ ?_
   ·rintro k d δ hd ⟨o3,o4,rfl⟩
    obtain⟨hk,rfl⟩:=ck0 hd
    clear hd
    obtain⟨lw,la⟩:=hR _ (eB hk)
    have xl:=Qm (λz:Nat × List Nat=>z.1) (λz=>aS m 0 (z.2.getD f 0)) (((G.map aV).zip G).take k) ((aK wi 0).set f 1)
    rw[qM,dA]at xl
    obtain⟨C,ns,xs,sp,e1,e2,e3,e4⟩:=UJ (P:=P) (w:=w) (base:=base) T m0
    have hld:aV G[k]<wi:=by
     rw[<-lw]
     obtain⟨x,hx,h0⟩:=hr _ (eB hk)
     exact Ma ⟨x,hx,by simpa using h0⟩
    have ga:=iW hm (a:=0) (b:=G[k].getD f 0) (by omega) (la.getD (by omega) f)
    walk_at"l3"
    refine⟨C,ns,xs,sp,e1,e2,e3,.int (G[k].getD f 0:Nat),by rw[oo (by omega) (by omega),iJ],e4 0 (G[k].getD f 0) _ ⟨rfl,_,aV G[k],rfl,?_,_,_,?_,rfl,rfl⟩⟩
    ·rw[Cr (by omega) (by rw[iy,xl];omega)];rfl
    ·rw[ga.1,P9,kY,AF]
     have ez:((G.map aV).zip G)[k]?=some (aV G[k],G[k]):=by
      rw[List.zip,AG,cB,aQ hk];rfl
     rw[ez];rfl
   ·rintro δ ⟨o3,o4,rfl⟩
    refine hU _ ?_
    walk_at"l3"
    refine⟨⟨_,rfl⟩,by rw[aY,fJ];omega,_,_,_,_,?_,rfl,rfl,rfl,rfl⟩
    rw[show((G.map aV).zip G).take (gw (au (G.map aV)) (aw false G)).length=(G.map aV).zip G from tW (by unfold gw;rw[L8,kh,iy,jy];exact bD _),kY,hf,dS]
    exact s9 true _ [fC m G wi f]
  ·rintro δ ⟨o1,o2,o3,o4,rfl⟩
   refine hU _ ?_
   walk_at"l3"
   rw[qQ]
   exact q
noncomputable abbrev aH4(t:gb)(K:Frag):L2.Sp:=λvs H Q _=>∃(F H0:Hp) (x dx C:Addr) (vf vc:V) (m:Bool × Nat) (G:List (List Nat)) (pre:List (Str × V)),vs=[.ref x,vf,vc]/\L3.af F H0/\H0 x=none/\L3.af H0 H/\H x=some (.ins C dx (pre++[]))/\zI pre/\c75 K C /\
 R F H0 [fD t.aL t.aP m] [vf] []/\R F H0 [.lst false (aw false G)] [vc] []/\m∈av/\RT (aa m) (ag G) G/\G.length<=64/\ag G<=64 /\
 ∀H' p1 p2 p3 A1 A2 A3,bR x H H'->H' x=some (.ins C dx (pre++qB.zip [vf,.int (ag G:Nat),.ref p1,.ref p2,.ref p3,.int ((cI (bU m G) (ag G)).length:Nat)]))->R (λ_=>none) H' [.lst true (aw true G)] [.ref p1] A1->R (λ_=>none) H' [.lst true (aw true (iX m (bU m G) (ag G)))] [.ref p2] A2->R (λ_=>none) H' [.lst true (au (cI (bU m G) (ag G)))] [.ref p3] A3->(A1++(A2++A3)).Nodup->(∀a∈A1++(A2++A3),H a=none)->Q .aq H'
theorem UK(T:Txt K mg t):aO P w K mg base aZ 4 t.JF t.SH ["self","field","checks"] (aH4 t K):=by
 refine T.JP.F.ok RE (λvs H Q E h=>?_) λaH A outer s H vs Q E hr h=>?_
 ·obtain⟨F,H0,x,dx,C,vf,vc,m,G,pre,rfl,_⟩:=h;rfl
 obtain⟨F,H0,x,dx,C,vf,vc,m,G,pre,rfl,e0,iT,s0,hx,hp,hC,rf,rc,hm,hG,hGl,hGw,q⟩:=h
 refine⟨_,fK (E3 (i:=3) RE.nd rfl (ax rfl) (jh ((UB T).mono (by decide)) hr rfl T.zP.g T.zP.F.kp T.zP.b .nil dX (b8 (pv 1) (b8 (pv 2) eX))))
  (fK (iM (pv 0) (pv 1) rfl)
  (fK (iM (pv 0) (jh ((DT T).mono (by decide)) hr rfl T.tG.g T.tG.F.kp T.tG.b .nil dX (b8 (pv 2) eX)) rfl)
  (fK (iM (pv 0) (jh ((UD T).mono (by decide)) hr rfl T.zQ.g T.zQ.F.kp T.zQ.b .nil dX (b8 (pv 2) eX)) rfl)
  (fK (iM (pv 0) (jh ((ar7 T).mono (by decide)) hr rfl T.Dv.g T.Dv.F.kp T.Dv.b .nil dX (b8 (pv 1) (b8 (pv 3) (b8 (rm (pv 0) rfl) eX)))) rfl)
  (fK (iM (pv 0) (jh ((UG T).mono (by decide)) hr rfl T.zR.g T.zR.F.kp T.zR.b .nil dX (b8 (pv 3) (b8 (rm (pv 0) rfl) eX))) rfl)
  (kr (iM (pv 0) (Bu M7 rfl T.iG ie (b8 (rm (pv 0) rfl) eX)) rfl))))))),?_⟩
 try dsimp only[lY,lZ]
 have hn:=cv7 hm hG
 have hk:=HM hm hG
 obtain⟨_,iR,iL,_⟩:=kL hm hG
 have fR:∀X:List (List Nat),[D.lst true (aw true X)].all D.fr=true:=λX=>by rw[dB,fM,qw];rfl
 have fN:∀X:List Nat,[D.lst true (au X)].all D.fr=true:=λX=>by rw[dB,l8];rfl
 refine⟨_,rfl,_,rfl,F,[fD t.aL t.aP m,.lst false (aw false G)],λd=>d=.lst true (aw true (bU m G)),e0.trans s0,R.cons (A:=[]) (rf.shared (L3.af.refl _) s0) (rc.shared (L3.af.refl _) s0),⟨m,G,rfl,hm,by omega,hG,by omega,rfl⟩,λd v F1 H1 A1 hd fG DV UL UM r1 UN Kr=>?_⟩
 subst hd
 obtain⟨p0,rfl⟩:=zH r1
 have cV:=fG.get _ _ hx rfl
 have z1:bR x H H1:=fG.x
 have r1:=r1.rK (fR _) DV
 have DW:∀X:List (List Nat),[D.lst true (aw true X)].map D.sh=[D.lst false (aw false X)]:=λX=>by rw[da,eN,eP];rfl
 have aq:∀{F' H':Hp} {d:D} {v:V} {A':List Addr},R F' H' [d] [v] A'->[d].all D.fr=true->R (λ_=>none) H' [d] [v] A':=λr h=>r.rK h (L3.af.of λb o e=>by cases e)
 have mv:∀{F' H' wY:Hp} {ds:List D} {vs:List V} {A':List Addr} {fs fs':List (Str × V)},R F' H' ds vs A'->L3.af H' wY->wY x=some (.ins C dx fs)->ds.all D.fr=true->R F' (upd wY x (.ins C dx fs')) ds vs A':=λr h dD hd=>(r.grow (L3.af.refl _) h λa ha=>(r.lists a ha).2).sV dD hd
 refine⟨vf,rfl,.ref x,rfl,x,C,dx,_,rfl,cV,hC.cls,hC.field,hp.lt (by decide),?_⟩
 have r2:=mv r1 (L3.af.refl _) cV (fR _) (fs':=bM "field" vf (pre++[]))
 have z2:=z1.trans (bR.upd (C:=x) (dx:=dx) cV rfl (o':=.ins C dx (bM "field" vf (pre++[]))))
 have ff:upd H1 x (.ins C dx (bM "field" vf (pre++[]))) x=some (.ins C dx (pre++([("field",vf)]:List (Str × V)))):=by rw[bH,hp.put _ _ _ (by decide)];rfl
 generalize upd H1 x (.ins C dx (bM "field" vf (pre++[])))=H2 at r2 z2 ff ⊢
 have t2:=bR.of0 iT s0 z2
 refine⟨_,rfl,F,[.lst false (aw false G)],λd=>d=.int (ag G:Nat),e0.trans t2,rc.shared (L3.af.refl _) t2,⟨G,rfl,by omega,λr bo=>by rw[(hG r bo).1];omega,rfl⟩,λd v F3 H3 A3 hd g5 Aa he3 h33 r3 nd3 E7=>?_⟩
 subst hd
 cases r3
 have gI:=g5.get _ _ ff rfl
 refine⟨.ref x,rfl,x,C,dx,_,rfl,gI,hC.cls,hC.length,hp.lt (by show 1<=6;decide),?_⟩
 have r4:=mv r2 g5 gI (fR _) (fs':=bM "length" (.int (ag G:Nat)) (pre++([("field",vf)]:List (Str × V))))
 have z4:=(z2.trans (g5.x (x:=x))).trans (bR.upd (C:=x) (dx:=dx) gI rfl (o':=.ins C dx (bM "length" (.int (ag G:Nat)) (pre++([("field",vf)]:List (Str × V))))))
 have kP:upd H3 x (.ins C dx (bM "length" (.int (ag G:Nat)) (pre++([("field",vf)]:List (Str × V))))) x=some (.ins C dx (pre++([("field",vf),("length",.int (ag G:Nat))]:List (Str × V)))):=by rw[bH,hp.put _ _ _ (by decide)];rfl
 generalize upd H3 x (.ins C dx (bM "length" (.int (ag G:Nat)) (pre++([("field",vf)]:List (Str × V)))))=H4 at r4 z4 kP ⊢
 have t4:=bR.of0 iT s0 z4
 refine⟨_,rfl,F,[.lst false (aw false G)],λd=>d=.lst true (aw true G),e0.trans t4,rc.shared (L3.af.refl _) t4,⟨G,rfl,by omega,rfl⟩,λd v F5 H5 A5 hd kQ hf5 he5 h35 r5 nd5 xM=>?_⟩
 subst hd
 obtain⟨p1,rfl⟩:=zH r5
 have iY:=kQ.get _ _ kP rfl
 refine⟨.ref x,rfl,x,C,dx,_,rfl,iY,hC.cls,hC.c76,hp.lt (by show 2<=6;decide),?_⟩
 have r6:=mv r4 kQ iY (fR _) (fs':=bM "check_rows" (.ref p1) (pre++([("field",vf),("length",.int (ag G:Nat))]:List (Str × V))))
 have k6:=mv (aq r5 (fR _)) (L3.af.refl _) iY (fR _) (fs':=bM "check_rows" (.ref p1) (pre++([("field",vf),("length",.int (ag G:Nat))]:List (Str × V))))
 have z6:=(z4.trans (kQ.x (x:=x))).trans (bR.upd (C:=x) (dx:=dx) iY rfl (o':=.ins C dx (bM "check_rows" (.ref p1) (pre++([("field",vf),("length",.int (ag G:Nat))]:List (Str × V))))))
 have qI:upd H5 x (.ins C dx (bM "check_rows" (.ref p1) (pre++([("field",vf),("length",.int (ag G:Nat))]:List (Str × V))))) x=some (.ins C dx (pre++([("field",vf),("length",.int (ag G:Nat)),("check_rows",.ref p1)]:List (Str × V)))):=by rw[bH,hp.put _ _ _ (by decide)];rfl
 generalize upd H5 x (.ins C dx (bM "check_rows" (.ref p1) (pre++([("field",vf),("length",.int (ag G:Nat))]:List (Str × V)))))=H6 at r6 k6 z6 qI ⊢
 have n5:∀a∈A5,H a=none:=λa ha=>z4.free (by rw[kP];simp) (xM a ha)
 have t6:=bR.of0 iT s0 z6
 have e6:=e0.trans t6
 refine⟨_,rfl,_,rfl,.ref x,rfl,x,C,dx,_,.int (ag G:Nat),rfl,qI,hC.cls,hC.length,(hp.look _ _ (by decide)).trans rfl,L3.bu F H6 A1,[fD t.aL t.aP m,.lst false (aw false (bU m G)),.int (ag G:Nat)],λd=>d=.lst true (aw true (iX m (bU m G) (ag G))),rH e6,R.cons (A:=[]) (rf.shared (js e6) t6) (R.cons (A:=[]) (DW _ ▸ r6.bu e6 A1 λ_ h=>h) (.int .nil)),⟨m,bU m G,ag G,rfl,hm,by omega,by omega,iR,hn,rfl⟩,λd v F7 H7 A7 hd oR hf7 he7 h37 r7 nd7 UO=>?_⟩
 subst hd
 obtain⟨p2,rfl⟩:=zH r7
 have m3:=oR.get _ _ qI rfl
 refine⟨.ref x,rfl,x,C,dx,_,rfl,m3,hC.cls,hC.c77,hp.lt (by show 3<=6;decide),?_⟩
 have r8:=mv r6 oR m3 (fR _) (fs':=bM "word_rows" (.ref p2) (pre++([("field",vf),("length",.int (ag G:Nat)),("check_rows",.ref p1)]:List (Str × V))))
 have k8:=mv k6 oR m3 (fR _) (fs':=bM "word_rows" (.ref p2) (pre++([("field",vf),("length",.int (ag G:Nat)),("check_rows",.ref p1)]:List (Str × V))))
 have w8:=mv (aq r7 (fR _)) (L3.af.refl _) m3 (fR _) (fs':=bM "word_rows" (.ref p2) (pre++([("field",vf),("length",.int (ag G:Nat)),("check_rows",.ref p1)]:List (Str × V))))
 have z8:=(z6.trans (oR.x (x:=x))).trans (bR.upd (C:=x) (dx:=dx) m3 rfl (o':=.ins C dx (bM "word_rows" (.ref p2) (pre++([("field",vf),("length",.int (ag G:Nat)),("check_rows",.ref p1)]:List (Str × V))))))
 have DX:upd H7 x (.ins C dx (bM "word_rows" (.ref p2) (pre++([("field",vf),("length",.int (ag G:Nat)),("check_rows",.ref p1)]:List (Str × V))))) x=some (.ins C dx (pre++([("field",vf),("length",.int (ag G:Nat)),("check_rows",.ref p1),("word_rows",.ref p2)]:List (Str × V)))):=by rw[bH,hp.put _ _ _ (by decide)];rfl
 generalize upd H7 x (.ins C dx (bM "word_rows" (.ref p2) (pre++([("field",vf),("length",.int (ag G:Nat)),("check_rows",.ref p1)]:List (Str × V)))))=H8 at r8 k8 w8 z8 DX ⊢
 have n7:∀a∈A7,H a=none:=λa ha=>z6.free (by rw[qI];simp) (UO a ha)
 have d57:∀a∈A5,a ∉ A7:=λa ha hb=>by
  obtain⟨⟨ws,e⟩,_⟩:=k6.lists a ha
  rw[UO a hb]at e;cases e
 have t8:=bR.of0 iT s0 z8
 have e8:=e0.trans t8
 refine⟨_,rfl,.ref x,rfl,x,C,dx,_,.int (ag G:Nat),rfl,DX,hC.cls,hC.length,(hp.look _ _ (by decide)).trans rfl,L3.bu F H8 A1,[.lst false (aw false (bU m G)),.int (ag G:Nat)],λd=>d=.lst true (au (cI (bU m G) (ag G))),rH e8,R.cons (A:=[]) (DW _ ▸ r8.bu e8 A1 λ_ h=>h) (.int .nil),⟨bU m G,ag G,rfl,by omega,by omega,λr bo=>⟨by rw[(iR r bo).1];omega,hn r bo⟩,rfl⟩,λd v F9 H9 A9 hd DY hf9 he9 h39 r9 nd9 Ks=>?_⟩
 subst hd
 obtain⟨p3,rfl⟩:=zH r9
 have Ab:=DY.get _ _ DX rfl
 refine⟨.ref x,rfl,x,C,dx,_,rfl,Ab,hC.cls,hC.Q3,hp.lt (by show 4<=6;decide),?_⟩
 have UP:=mv k8 DY Ab (fR _) (fs':=bM "message_places" (.ref p3) (pre++([("field",vf),("length",.int (ag G:Nat)),("check_rows",.ref p1),("word_rows",.ref p2)]:List (Str × V))))
 have UQ:=mv w8 DY Ab (fR _) (fs':=bM "message_places" (.ref p3) (pre++([("field",vf),("length",.int (ag G:Nat)),("check_rows",.ref p1),("word_rows",.ref p2)]:List (Str × V))))
 have Kt:=mv (aq r9 (fN _)) (L3.af.refl _) Ab (fN _) (fs':=bM "message_places" (.ref p3) (pre++([("field",vf),("length",.int (ag G:Nat)),("check_rows",.ref p1),("word_rows",.ref p2)]:List (Str × V))))
 have UR:=(z8.trans (DY.x (x:=x))).trans (bR.upd (C:=x) (dx:=dx) Ab rfl (o':=.ins C dx (bM "message_places" (.ref p3) (pre++([("field",vf),("length",.int (ag G:Nat)),("check_rows",.ref p1),("word_rows",.ref p2)]:List (Str × V))))))
 have tL:upd H9 x (.ins C dx (bM "message_places" (.ref p3) (pre++([("field",vf),("length",.int (ag G:Nat)),("check_rows",.ref p1),("word_rows",.ref p2)]:List (Str × V))))) x=some (.ins C dx (pre++([("field",vf),("length",.int (ag G:Nat)),("check_rows",.ref p1),("word_rows",.ref p2),("message_places",.ref p3)]:List (Str × V)))):=by rw[bH,hp.put _ _ _ (by decide)];rfl
 generalize upd H9 x (.ins C dx (bM "message_places" (.ref p3) (pre++([("field",vf),("length",.int (ag G:Nat)),("check_rows",.ref p1),("word_rows",.ref p2)]:List (Str × V)))))=H10 at UP UQ Kt UR tL ⊢
 have n9:∀a∈A9,H a=none:=λa ha=>z8.free (by rw[DX];simp) (Ks a ha)
 have d59:∀a∈A5,a ∉ A9:=λa ha hb=>by
  obtain⟨⟨ws,e⟩,_⟩:=k8.lists a ha
  rw[Ks a hb]at e;cases e
 have d79:∀a∈A7,a ∉ A9:=λa ha hb=>by
  obtain⟨⟨ws,e⟩,_⟩:=w8.lists a ha
  rw[Ks a hb]at e;cases e
 obtain⟨ws,lw,ew⟩:∃ws,ws.length=(cI (bU m G) (ag G)).length/\H10 p3=some (.lst ws):=by
  cases Kt with
  | own h _ r _=>exact⟨_,by rw[<-r.length,iy],h⟩
 refine⟨.ref x,rfl,x,C,dx,_,.ref p3,rfl,tL,hC.cls,hC.Q3,(hp.look _ _ (by decide)).trans rfl,p3,ws,rfl,.inl (bF.of ew),.ref x,rfl,x,C,dx,_,rfl,tL,hC.cls,hC.size,hp.lt (by show 5<=6;decide),?_⟩
 rw[lw]
 refine q _ p1 p2 p3 A5 A7 A9 (UR.trans (bR.upd (C:=x) (dx:=dx) tL rfl)) (by rw[bH,hp.put _ _ _ (by decide)];rfl) (mv UP (L3.af.refl _) tL (fR _)) (mv UQ (L3.af.refl _) tL (fR _)) (mv Kt (L3.af.refl _) tL (fN _)) ?_ ?_
 ·exact iQ.mpr ⟨nd5,iQ.mpr ⟨nd7,nd9,d79⟩,λa ha hb=>(bP.mp hb).elim (d57 a ha) (d59 a ha)⟩
 ·intro a ha
  rcases bP.mp ha with ha | ha
  ·exact n5 a ha
  ·exact(bP.mp ha).elim (n7 a) (n9 a)
noncomputable abbrev Ku(K:Frag):bh:=λds Q=>∃(C:Addr) (ns:List Str) (xs:List D) (n:Nat) (x:D),ds=[.obj C ns xs,x]/\df K C/\bj K C "many"/\(ns.zip xs).lookup ("many":Str)=some (.int n)/\((∃i,x=.int i/\Q (.bl (decide (0<=i)&&decide (i<n))))\/(x=.aq/\Q (.bl false)))
theorem US(T:Txt K mg t):aO P w K mg base aZ 1 t.Dg t.SI ["self","x"] (bq (Ku K)):=by
 refine bO T.JQ.F aC0 ?_ ?_
 ·intro ds Q h
  obtain⟨C,ns,xs,n,x,rfl,h1,h2,h3,q⟩:=h<;>rfl
 ·intro aH A outer s H E hr
  refine⟨_,(aG (bc (rP (ae (yv (by rfl) T.qH (by rfl) T.DK BB (bv 1))) (rP (ae (Gg (ae (yv (by rfl) T.qH (by rfl) T.Ui NI (bv 1))))) (xF (Gu p5 vq (ae ao) (bv 1) (fW (K:=K) (bv 0)))))))),λds Q h=>?_⟩
  obtain⟨C,ns,xs,n,x,rfl,h1,h2,h3,q⟩:=h
  rcases q with⟨i,rfl,q⟩ | ⟨rfl,q⟩
  ·walk_at"l3"
   split
   ·rename_i h0
    refine⟨C,ns,xs,_,rfl,h1,h2,h3,?_⟩
    dsimp only
    rw[decide_eq_true h0,kX]at q
    exact q
   ·rename_i h0
    rw[decide_eq_false h0,tQ]at q
    exact q
  ·walk_at"l3"
   exact q
theorem cf6(T:Txt K mg t)(m:Bool × Nat){x:D}{Q:D->Prop}(h:(∃i,x=.int i/\Q (.bl (decide (0<=i)&&decide (i<aa m))))\/(x=.aq/\Q (.bl false))):MOf P w K mg base 1 t.aL t.aP m "holds" [x] Q:=by
 obtain⟨k,n⟩:=m
 cases k with
 | true=>exact⟨_,_,_,Ku K,rfl,⟨T.gi,_,_,_,T.JV,US T,T.JQ.b⟩,by decide,_,_,_,aa (true,n),x,rfl,T.gi,T.wR,rfl,h⟩
 | false=>exact⟨_,_,_,Ku K,rfl,⟨T.gH,_,_,_,T.J3,US T,T.JQ.b⟩,by decide,_,_,_,aa (false,n),x,rfl,T.gH,T.wW,rfl,h⟩
noncomputable abbrev ay9(t:gb):bh:=λds Q=>∃(m:Bool × Nat) (G:List (List Nat)),ds=[fD t.aL t.aP m,.lst false (aw false G)]/\m∈av/\RT (aa m) (ag G) G/\1<=G.length/\G.length<=12/\2<=ag G/\ag G<=12/\Q (.bl true)
theorem az0(T:Txt K mg t):aO P w K mg base aZ 2 t.SJ t.SK ["field","table"] (bq (ay9 t)):=by
 refine bO T.Dw.F RF ?_ ?_
 ·intro ds Q h
  obtain⟨m,G,rfl,hm,hR,g1,Ac,w2,UT,q⟩:=h<;>rfl
 ·intro aH A outer s H E hr
  refine⟨_,(aA (dZ (PW.pt (BJ (cH vq (ae (fU (iU) (by rfl) T.iG ie (aj (bv 1) ay))) (ae ao) (bL _)) (Bb (cH yp (ae (fU (iU) (by rfl) T.iG ie (aj (bv 1) ay))) (ae ao) (bL _))))) (aG (bc nJ)) dY)
   (aA (aW (i:=2) RF.nd rfl (bV rfl) (fU (iU) (by rfl) T.iG ie (aj (bB (bv 1) (ae ao) (λ_ _=>rfl)) ay)))
   (aA (dZ (PW.pt (BJ (cH vq (bv 2) (ae ao) (bL _)) (BJ (cH yp (bv 2) (ae ao) (bL _)) (Bb (nL (ae (fU (cC6 rfl) (by rfl) T.df8 Zx (aj (ae (eI [("width",2)] ["row"] rfl (iu (bv 1)) (λ_ _ _ _=>(fg (i:=1) (show(["width","row"]:List Str).Nodup by decide +kernel))) (λ_ _ _ _=>eZ) (λ_ _ _ _=>(pY (mQ (dF hr)) (ae (fU (iU) (by rfl) T.iG ie (aj (bv 1) ay))) (bv 0) (bL _))) rfl)) ay)))))))) (aG (bc nJ)) dY)
   (aG (bc (fU (yu rfl) (by rfl) T.zZ x6 (aj (ae (eI [("field",0)] ["row"] rfl (iu (bv 1)) (λ_ _ _ _=>(fg (i:=1) (show(["field","row"]:List Str).Nodup by decide +kernel))) (λ_ _ _ _=>eZ) (by exact λ_ _ _ _=>(fU (yu rfl) (by rfl) T.zZ x6 (aj (ae (eI [("field",0)] ["x"] rfl (iu (bv 1)) (λ_ _ _ _=>(fg (i:=1) (show(["field","x"]:List Str).Nodup by decide +kernel))) (λ_ _ _ _=>eZ) (λ_ _ _ _=>(oj (P:=P) (w:=w) (K:=K) (mg:=mg) (base:=base) (n:=1) (bv 0) (hr.mono (by decide)) (aj (bv 1) ay))) rfl)) ay))) rfl)) ay))))))),λds Q h=>?_⟩
  obtain⟨m,G,rfl,hm,hR,g1,Ac,w2,UT,q⟩:=h
  obtain⟨g,G',rfl⟩:∃g G',G=g::G':=by
   cases G with
   | nil=>exact absurd g1 (by decide)
   | cons g G'=>exact⟨g,G',rfl⟩
  refine az λU hU=>?_
  walk_at"l3"
  rw[if_neg (by omega),if_neg (by rw[gJ]at Ac;omega)]
  refine hU _ ?_
  clear hU U
  refine az λU hU=>?_
  walk_at"l3"
  refine⟨.lst false (au g),zy false (T:=g::G') (i:=0) (ET _),?_⟩
  show U [some (fD t.aL t.aP m),some (.lst false (aw false (g::G'))),some (.int ((au g).length:Nat))]
  have gl:(au g).length=ag (g::G'):=by rw[iy];rfl
  rw[gl]
  generalize g::G'=G at hR g1 Ac w2 UT gl hU ⊢
  refine hU _ ?_
  clear hU U
  refine az λU hU=>?_
  walk_at"l3"
  rw[if_neg (by omega),if_neg (by omega)]
  refine fB G (λr=>D.lst false (au r)) (λ_=>D.bl false) (by rw[eP];rfl) (λa b h=>oq a b h) (λr bo=>?_) (.inr λr _=>rfl) (by rw[sL];omega) ?_
  ·have:=(hR r bo).1
   walk_at"l3"
   rw[decide_eq_true (by omega)];rfl
  refine⟨G.map λ_=>false,by unfold nR;rw[bW];rfl,?_⟩
  rw[if_neg (by simp)]
  refine hU _ ?_
  clear hU U
  walk_at"l3"
  refine fB G (λr=>D.lst false (au r)) (λ_=>D.bl true) (by rw[eP];rfl) (λa b h=>oq a b h) (λr bo=>?_) (.inr λr _=>rfl) (by rw[sL];omega) ?_
  ·obtain⟨r1,r2⟩:=hR r bo
   walk_at"l3"
   refine fB r (λ(i:Nat)=>D.int (i:Int)) (λ_=>D.bl true) (qj _) l6 (λi hi=>?_) (.inr λ_ _=>rfl) (by rw[sL];omega) ?_
   ·have:=r2 i hi
    walk_at"l3"
    refine cf6 T m (.inl ⟨_,rfl,?_⟩)
    rw[decide_eq_true (by omega),decide_eq_true (by omega)];rfl
   ·refine⟨r.map λ_=>true,by unfold nR;rw[bW];rfl,?_⟩
    simp
  ·refine⟨G.map λ_=>true,by unfold nR;rw[bW];rfl,?_⟩
   rw[show(G.map λ_=>true).all id=true by simp]
   exact q
noncomputable abbrev ce8(t:gb)(P:Program)(w:World)(K:Frag)(mg:Str->Option Value)(base:Heap):bh:=λds Q=>∃(m:Bool × Nat) (G:List (List Nat)),ds=[fD t.aL t.aP m,.lst false (aw false G)]/\m∈av/\G.length<=900/\RT (aa m) (ag G) G/\ag G<=900/\Q (.int (bU m G).length)
theorem cg9(T:Txt K mg t):aO P w K mg base aZ 4 t.SM t.SN ["field","table"] (bq (ce8 t P w K mg base)):=by
 refine bO T.Dx.F cf4 ?_ ?_
 ·intro ds Q h
  obtain⟨m,G,rfl,hm,hG,hR,hw,q⟩:=h<;>rfl
 ·intro aH A outer s H E hr
  refine⟨_,(aG (bc (fU (iU) (by rfl) T.iG ie (aj (ae (cA T.zP (UB T) hr (aj (bv 0) (aj (bv 1) ay)))) ay)))),λds Q h=>?_⟩
  obtain⟨m,G,rfl,hm,hG,hR,hw,q⟩:=h
  walk_at"l3"
  refine⟨m,G,rfl,hm,hG,hR,hw,?_⟩
  dsimp only
  rw[jy];exact q
noncomputable abbrev aL2:bh:=λds Q=>∃T:List (List Nat),ds=[.lst false (aw false T)]/\T.length<=1000/\(∀r∈T,r.length=ag T)/\ag T<=1000/\Q (.lst true (aw true (ft T)))
theorem aL3(T:Txt K mg t):aO P w K mg base aZ 2 t.SO t.SQ ["table"] (bq (aL2 )):=by
 refine bO T.TX.F aL0 ?_ ?_
 ·intro ds Q h
  obtain⟨G,rfl,hG,hr,hw,q⟩:=h<;>rfl
 ·intro aH A outer s H E hr
  refine⟨_,(aG (bc (eI [("table",0)] ["j"] rfl (mL rfl T.gY (aj (ae (cA T.tG (DT T) hr (aj (bv 0) ay))) ay)) (λ_ _ _ _=>(fg (i:=1) (show(["table","j"]:List Str).Nodup by decide +kernel))) (λ_ _ _ _=>eZ) (by exact λ_ _ _ _=>(eI [("j",1)] ["row"] rfl (iu (bv 0)) (λ_ _ _ _=>(fg (i:=1) (show(["j","row"]:List Str).Nodup by decide +kernel))) (λ_ _ _ _=>eZ) (λ_ _ _ _=>(dE (bB (bv 1) (bv 0) (λ_ _=>rfl)))) rfl)) rfl))),λds Q h=>?_⟩
  obtain⟨G,rfl,hG,hr,hw,q⟩:=h
  walk_at"l3"
  refine⟨G,rfl,hG,λr bo=>by rw[hr r bo];exact hw,?_⟩
  dsimp only
  refine⟨_,rfl,⟨by omega,by omega⟩,?_⟩
  refine fB (aM (ag G)) (λ(i:Nat)=>D.int (i:Int)) (λj=>D.lst true (au (G.map λr=>r.getD j 0))) (Ct _ rfl) l6 (λj hj=>?_) (.inr λj _=>l8 _) (by rw[cq,sL];omega) ?_
  ·have hj:=bK.mp hj
   walk_at"l3"
   refine fB G (λr=>D.lst false (au r)) (λr=>D.int ((r.getD j 0:Nat):Int)) (by rw[eP];rfl) (λa b h=>oq a b h) (λr bo=>?_) (.inr λr _=>rfl) (by rw[sL];omega) ?_
   ·walk_at"l3"
    have hl:=hr r bo
    exact⟨.int (r.getD j 0:Nat),by rw[oo (by omega) (by omega),iJ],rfl,rfl⟩
   ·rw[du,bW];rfl
  ·unfold ft aw at q
   rw[bW]at q
   exact q
noncomputable abbrev aH5:bh:=λds Q=>∃c:List Nat,ds=[.lst false (au c)]/\c.length<=1000/\Q (.bl (nul c))
theorem aH6(T:Txt K mg t):aO P w K mg base aZ 1 t.SR t.SS ["column"] (bq (aH5 )):=by
 refine bO T.TY.F aG5 ?_ ?_
 ·intro ds Q h
  obtain⟨c,rfl,hc,q⟩:=h<;>rfl
 ·intro aH A outer s H E hr
  refine⟨_,(aG (bc (fU (yu rfl) (by rfl) T.zZ x6 (aj (ae (eI [] ["x"] rfl (iu (bv 0)) (λ_ _ _ _=>(fg (i:=0) (show(["x"]:List Str).Nodup by decide +kernel))) (λ_ _ _ _=>eZ) (λ_ _ _ _=>(pY (fS (dF hr)) (bv 0) (ae ao) (bL _))) rfl)) ay)))),λds Q h=>?_⟩
  obtain⟨c,rfl,hc,q⟩:=h
  walk_at"l3"
  refine fB c (λ(i:Nat)=>D.int (i:Int)) (λ(x:Nat)=>D.bl (x==0)) (qj _) l6 (λx hx=>?_) (.inr λ_ _=>rfl) (by rw[sL];omega) ?_
  ·walk_at"l3"
   congr 1
   exact propext (by omega)
  dsimp only
  refine⟨c.map (·==0),by unfold nR;rw[bW];rfl,?_⟩
  rw[pk]
  exact q
noncomputable abbrev UU(K:Frag):bh:=λds Q=>∃(C:Addr) (p a b:Nat),ds=[zo C p,.int a,.int b]/\df K C/\bj K C "products"/\p∈gU/\a<aa (true,p)/\b<aa (true,p)/\Q (.int (gm (true,p) a b:Nat))
theorem az1(T:Txt K mg t):aO P w K mg base aZ 1 t.JG t.SU ["self","a","b"] (bq (UU K)):=by
 refine bO T.TZ.F ay4 ?_ ?_
 ·intro ds Q h
  obtain⟨C,p,a,b,rfl,hC,hn,hp,ha,hb,q⟩:=h<;>rfl
 ·intro aH A outer s H E hr
  refine⟨_,(aG (bc (dE (bB (bB (fW (K:=K) (bv 0)) (bv 1) (λ_ _=>rfl)) (bv 2) (λ_ _=>rfl))))),λds Q h=>?_⟩
  obtain⟨C,p,a,b,rfl,hC,hn,hp,ha,hb,q⟩:=h
  walk_at"l3"
  refine⟨C,_,_,_,rfl,hC,hn,rfl,?_⟩
  exact⟨_,Hf hp ha,_,He hp ha hb,rfl,q⟩
noncomputable abbrev UW(K:Frag):bh:=λds Q=>∃(C:Addr) (p:Nat) (a b:Int),ds=[wk C p,.int a,.int b]/\df K C/\bj K C "prime"/\0<p/\IntMulOk a b/\Q (.int (a*b%p))
theorem au2(T:Txt K mg t):aO P w K mg base aZ 1 t.JH t.SV ["self","a","b"] (bq (UW K)):=by
 refine bO T.T1.F at8 ?_ ?_
 ·intro ds Q h
  obtain⟨C,p,a,b,rfl,hC,hn,hp,hm,q⟩:=h<;>rfl
 ·intro aH A outer s H E hr
  refine⟨_,(aG (bc (aD eO (ae (aD fQ (bv 1) (bv 2))) (fW (K:=K) (bv 0))))),λds Q h=>?_⟩
  obtain⟨C,p,a,b,rfl,hC,hn,hp,hm,q⟩:=h
  walk_at"l3"
  exact⟨hm,C,_,_,.int p,rfl,hC,hn,rfl,by omega,q⟩
theorem cf0(T:Txt K mg t){m:Bool × Nat}(hm:m∈av):∃C ns xs sp,fD t.aL t.aP m=.obj C ns xs/\kH P w K mg base 1 "times" C sp/\("times":Str) ∉ ns/\∀(a b:Nat) (Q:D->Prop),a<aa m->b<aa m->Q (.int (gm m a b:Nat))->sp [.obj C ns xs,.int a,.int b] Q:=by
 have hF:=dm hm
 obtain⟨k,n⟩:=m
 cases k with
 | true=>exact⟨_,_,_,UU K,rfl,⟨T.gi,_,_,_,T.ay7,az1 T,T.TZ.b⟩,by decide,λa b Q ha hb q=>⟨_,n,a,b,rfl,T.gi,T.wU,zu hm,ha,hb,q⟩⟩
 | false =>
  have tK:n<=64:=hF.hi
  refine⟨_,_,_,UW K,rfl,⟨T.gH,_,_,_,T.au0,au2 T,T.T1.b⟩,by decide,λa b Q ha hb q=>?_⟩
  have BV:a<n:=ha
  have lW:b<n:=hb
  refine⟨_,n,a,b,rfl,T.gH,T.tH,by omega,jO.ok (.inr ⟨by omega,by omega⟩),?_⟩
  have e:((gm (false,n) a b:Nat):Int)=(a:Int)*b%n:=by
   show((a*b%n:Nat):Int)=_
   rw[qR,ue]
  rw[<-e];exact q
noncomputable abbrev ce1(t:gb)(P:Program)(w:World)(K:Frag)(mg:Str->Option Value)(base:Heap):bh:=λds Q=>∃(m:Bool × Nat) (c:List Nat) (os:List (List Nat)),ds=[fD t.aL t.aP m,.lst false (au c),.lst false (aw false os)]/\m∈av/\nul c=false/\c.length<=64/\AllLt (aa m) c/\RT (aa m) c.length os/\os.length<=1000/\Q (.lst true (aw true (gz m c os)))
theorem cj2(T:Txt K mg t):aO P w K mg base aZ 3 t.SW t.SX ["field","column","others"] (bq (ce1 t P w K mg base)):=by
 refine bO T.T3.F wN ?_ ?_
 ·intro ds Q h
  obtain⟨m,c,os,rfl,hm,hn,hc,Kv,mh,hol,q⟩:=h<;>rfl
 ·intro aH A outer s H E hr
  refine⟨_,(aA (aW (i:=3) wN.nd rfl (ax rfl) (dE (bB (ae (eI [] ["k","x"] rfl (yZ rfl T.z5 (aj (bv 1) ay)) (λ_ _ _ _=>(zK (i1:=0) (i2:=1) (show(["k","x"]:List Str).Nodup by decide +kernel))) (λ_ _ _ _=>(BN (cH (mQ (dF hr)) (bv 1) (ae ao) (bL _)))) (λ_ _ _ _=>(dE (bv 0))) rfl)) (ae ao) (λ_ _=>rfl))))
   (aA (aW (i:=4) wN.nd rfl (ax rfl) (P4 (P:=P) (w:=w) (K:=K) (mg:=mg) (base:=base) (n:=2) (bv 0) (hr.mono (by decide)) (aj (ae ao) (aj (bB (bv 1) (bv 3) (λ_ _=>rfl)) ay))))
   (aA (aW (i:=5) wN.nd rfl (ax rfl) (cO cm))
   (aA (gg eW rfl (rV (dE (bv 2))) (ir (i:=6) wN.nd rfl (ax rfl))
    (aA (aW (i:=7) wN.nd rfl (ax rfl) (oj (P:=P) (w:=w) (K:=K) (mg:=mg) (base:=base) (n:=1) (bv 0) (hr.mono (by decide)) (aj (bv 6) (aj (ae (oj (P:=P) (w:=w) (K:=K) (mg:=mg) (base:=base) (n:=1) (bv 0) (hr.mono (by decide)) (aj (bB (bv 6) (bv 3) (λ_ _=>rfl)) (aj (bv 4) ay)))) (aj (bv 1) ay)))))
    (aG (qe (i:=5) rfl (by first | exact ax rfl | exact bV (ax rfl)) (aD cS (ae (sO (bv 7) sD (sE (bv 3)))) (ae (sO (bv 7) (sE (ae (aD cS (bv 3) (ae ao)))) sD)))))))
   (aG (bc (em 5))))))),λds Q h=>?_⟩
  obtain⟨m,c,os,rfl,hm,hn,hc,Kv,mh,hol,q⟩:=h
  have eD:=(dm hm).lo
  obtain⟨pl,pn⟩:=HG hn
  have cp:=Kv.getD (show 0<aa m by omega) (aV c)
  have cx:∃x∈c,x≠0:=⟨_,bZ pl 0,pn⟩
  refine az λU hU=>?_
  walk_at"l3"
  refine Cy (aM c.length) (λ(i:Nat)=>D.tup [.int (i:Int),.int ((c.getD i 0:Nat):Int)]) (λ(i:Nat)=>D.int (i:Int)) (λi=>c.getD i 0 != 0) (Qj c) (λa b h=>by injection h with h;simp at h;omega) (λi hi=>?_) (.inr λ_ _ _=>rfl) (by rw[cq,sL];omega) ?_
  ·walk_at"l3"
   refine⟨?_,λ_=>trivial⟩
   by_cases h0:c.getD i 0=0
   ·rw[h0];rfl
   ·rw[decide_eq_false (by omega),bne_iff_ne.mpr h0];rfl
  dsimp only
  refine⟨.int (aV c:Nat),L3.GQ (k:=0) (by rw[cB,Qk cx];rfl),rfl,hU _ ?_⟩
  clear hU U
  refine az λU hU=>?_
  walk_at"l3"
  refine⟨_,_,_,_,wm _ _ m,UA T m,P5 m _ (by decide),.int (c.getD (aV c) 0:Nat),by rw[oo (by omega) (by omega),iJ],m,1,c.getD (aV c) 0,by rw[wm];rfl,hm,eD,cp,λz=>absurd z pn,λ_ iv UX HH=>?_⟩
  have ei:mW m (c.getD (aV c) 0)=iv:=Cz hm UX HH
  refine⟨rfl,hU _ ?_⟩
  clear hU U
  refine az λU hU=>?_
  walk_at"l3"
  refine⟨by decide,hU _ ?_⟩
  clear hU U
  refine az λU hU=>?_
  walk_at"l3"
  refine gu.mk (λi δ=>∃o6 o7,δ=[some (fD t.aL t.aP m),some (D.lst false (au c)),some (D.lst false (aw false os)),some (D.int (aV c)),some (D.int iv),some (D.lst true (aw true (gz m c (os.take i)))),o6,o7]) ⟨_,_,rfl⟩ ?_ ?_
  ·rintro i d δ hd ⟨o6,o7,rfl⟩
   obtain⟨hi,rfl⟩:=b77 hd
   clear hd hU
   obtain⟨ol,oa⟩:=mh _ (eB hi)
   have op:=oa.getD (show 0<aa m by omega) (aV c)
   obtain⟨C,ns,xs,sp,e1,e2,e3,e4⟩:=Kp (P:=P) (w:=w) (base:=base) T hm
   refine az λU hU=>?_
   walk_at"l3"
   obtain⟨C1,n1,x1,sp1,g1,g2,g3,g4⟩:=cf0 (P:=P) (w:=w) (base:=base) T hm
   refine⟨C,ns,xs,sp,e1,e2,e3,C1,n1,x1,sp1,g1,g2,g3,.int (os[i].getD (aV c) 0:Nat),by rw[oo (by omega) (by omega),iJ],g4 _ iv _ op UX ⟨rfl,e4 os[i] c (gm m (os[i].getD (aV c) 0) iv) _ (bC hm _ _) Kv (by omega) ⟨rfl,hU _ ?_⟩⟩⟩
   clear hU
   have ep:gz m c (os.take (i+1))=gz m c (os.take i)++[(cU (λx y=>aS m x (gm m (gm m (os[i].getD (aV c) 0) iv) y)) os[i] c).take (aV c)++(cU (λx y=>aS m x (gm m (gm m (os[i].getD (aV c) 0) iv) y)) os[i] c).drop (aV c+1)]:=by
    unfold gz
    rw[kY,aQ hi,LP,dS,da,kg,ei]
   rw[ep]
   have ll:(cU (λx y=>aS m x (gm m (gm m (os[i].getD (aV c) 0) iv) y)) os[i] c).length<=64:=by rw[kh];omega
   generalize cU (λx y=>aS m x (gm m (gm m (os[i].getD (aV c) 0) iv) y)) os[i] c=lf at ll ⊢
   have pl2:(gz m c (os.take i)).length<=1000:=by rw[HJ,fJ];omega
   walk_at"l3"
   rw[GU,show((aV c:Int)+1)=((aV c+1:Nat):Int) by omega,B0]
   exact⟨⟨_,rfl⟩,by rw[fJ,fA];omega,by omega,_,_,s9 true _ [lf.take (aV c)++lf.drop (aV c+1)],rfl,rfl⟩
  ·rintro δ ⟨o6,o7,rfl⟩
   refine hU _ ?_
   walk_at"l3"
   rw[qQ]
   exact q
noncomputable def fH(o:Bool)(l:List Cs):List D:=l.map λs=>.tup [.lst o (au s.1),.lst o (aw o s.2)]
theorem UY(o:Bool)(l:List Cs):(fH o l).map D.sh=fH false l:=by
 unfold fH
 rw[bW]
 refine i6 λs _=>?_
 show(D.tup [.lst o (au s.1),.lst o (aw o s.2)]).sh=_
 rw[mJ,da,da,kg,Cu,eN,eP]
theorem cn7(l:List Cs):(fH false l).all D.pl=true:=by
 rw[de]
 intro d hd
 obtain⟨s,_,rfl⟩:=aX.mp hd
 show(D.tup [.lst false (au s.1),.lst false (aw false s.2)]).pl=true
 rw[lH,dB,dB,gO,gO,nZ,s8];rfl
theorem b67(o:Bool)(a b:List Cs):fH o a++fH o b=fH o (a++b):=by unfold fH;rw[dS]
theorem cm9{o:Bool}{l:List Cs}{i:Nat}{d:D}(hd:(fH o l)[i]?=some d):∃hi:i<l.length,d=.tup [.lst o (au l[i].1),.lst o (aw o l[i].2)]:=by
 unfold fH at hd
 rw[cB]at hd
 by_cases hi:i<l.length
 ·rw[aQ hi]at hd
  exact⟨hi,(cT hd).symm⟩
 ·rw[fY (by omega)]at hd;cases hd
theorem b14(o:Bool)(l:List Cs):eo 6 (.lst o (fH o l))=true:=by
 show(fH o l).all (eo 5)=true
 rw[de]
 intro d hd
 obtain⟨s,_,rfl⟩:=aX.mp hd
 show([D.lst o (au s.1),.lst o (aw o s.2)]).all (eo 4)=true
 rw[dB,dB,sX 3 o s.1,Qg 2 o o s.2];rfl
theorem bO6{m:Bool × Nat}{c:List Nat}{os:List (List Nat)}{N:Nat}(h:∀o∈os,o.length<=N):∀x∈gz m c os,x.length<=N:=λx hx=>by
 obtain⟨o,ho,rfl⟩:=aX.mp hx
 have:=h o ho
 rw[cy,fJ,fA,kh]
 omega
noncomputable def kb(l:List Cs):Nat:=(l.map λs=>2 ^ s.2.length).sum
theorem Kw(a b:List Cs):kb (a++b)=kb a+kb b:=by unfold kb;rw[dS,List.sum_append]
theorem UZ:∀l:List Cs,(dH l).length<=kb l
 | []=>kR _
 | s::l=>by
  have ih:=UZ l
  have h1:=Nat.lt_two_pow_self (n:=s.2.length)
  show(fv s++dH l).length<=2 ^ s.2.length+kb l
  rw[cy,show(fv s).length=s.2.length by unfold fv;rw[aY,cq]]
  omega
theorem U0(m:Bool × Nat)(w:Nat)(s:Cs):∀i,i<=s.2.length->kb (((aM i).map λi=>(s,i)).map (gA m w))+2 ^ (s.2.length-i)=2 ^ s.2.length
 | 0,_=>L7 _
 | i+1,h=>by
  have ih:=U0 m w s i (by omega)
  rw[ub,dS,dS,Kw]
  have e:kb (([i].map λi=>(s,i)).map (gA m w))=2 ^ (s.2.length-(i+1)):=by
   show 2 ^ (gz m _ (s.2.drop (i+1))).length+0=_
   rw[HJ,fA];rfl
  rw[e]
  have:2 ^ (s.2.length-i)=2 ^ (s.2.length-(i+1))*2:=by rw[<-iZ];congr 1;omega
  omega
theorem U1(m:Bool × Nat)(w:Nat):∀l:List Cs,kb ((dH l).map (gA m w))<=kb l
 | []=>bD _
 | s::l=>by
  have ih:=U1 m w l
  have h1:=U0 m w s s.2.length (bD _)
  show kb ((fv s++dH l).map (gA m w))<=2 ^ s.2.length+kb l
  rw[dS,Kw]
  exact Nat.add_le_add (by rw[<-h1];exact Nat.le_add_right ..) ih
noncomputable def cK1:Option (List Nat)->D
 | some l=>.lst true (au l)
 | none=>.aq
noncomputable abbrev aC5(t:gb)(P:Program)(w:World)(K:Frag)(mg:Str->Option Value)(base:Heap):bh:=λds Q=>∃(m:Bool × Nat) (G:List (List Nat)),ds=[fD t.aL t.aP m,.lst false (aw false G)]/\m∈av/\G.length<=64/\RT (aa m) (ag G) G/\0<ag G/\ag G<=12/\Q (cK1 (oG m G))
theorem aC6(T:Txt K mg t):aO P w K mg base aZ 4 t.SY t.S0 ["field","table"] (bq (aC5 t P w K mg base)):=by
 refine bO T.Dy.F qG ?_ ?_
 ·intro ds Q h
  obtain⟨m,G,rfl,hm,hG,hR,DZ,hw,q⟩:=h<;>rfl
 ·intro aH A outer s H E hr
  refine⟨_,(aA (aW (i:=2) qG.nd rfl (ax rfl) (cA T.tG (DT T) hr (aj (bv 1) ay)))
   (aA (aW (i:=3) qG.nd rfl (ax rfl) (cO (cw (uT (cw (cO cm) (cw (cA T.TX (aL3 T) hr (aj (bv 1) ay)) cm))) cm)))
   (aA (uZ eW (cH (mQ (dF hr)) (bv 3) (ae (cO cm)) (bL _))
    (aA (aW (i:=4) qG.nd rfl (ax rfl) (cO cm))
    (BK 3 (aA (gg eW rfl (rV (dE (bv 3))) (vV (i1:=5) (i2:=6) rfl qG.nd rfl (ax rfl) rfl (ax rfl))
     (aG (gg eW rfl (yZ rfl T.z5 (aj (bv 6) ay)) (vV (i1:=7) (i2:=8) rfl qG.nd rfl (ax rfl) rfl (ax rfl))
      (aA (aW (i:=9) qG.nd rfl (ax rfl) (aD cS (bv 5) (ae (cO (cw (aD cS (ae (aD gQ (bv 2) (ae (fU (iU) (by rfl) T.iG ie (aj (bv 6) ay))))) (bv 7)) cm)))))
      (aA (dZ (nL (ae (cA T.TY (aH6 T) hr (aj (bv 8) ay)))) (aG (bc (em 9))) dY)
      (aG (qe (i:=4) rfl (by first | exact ax rfl | exact bV (ax rfl)) (uT (cw (em 9) (cw (cA T.T3 (cj2 T) hr (aj (bv 0) (aj (bv 8) (aj (ae (sO (bv 6) (sE (ae (aD cS (bv 7) (ae ao)))) sD)) ay)))) cm))))))))))
    (aG (aW (i:=3) qG.nd rfl (ax rfl) (em 4)))))))
   (aG (bc BH))))),λds Q h=>?_⟩
  obtain⟨m,G,rfl,hm,hG,hR,DZ,hw,q⟩:=h
  have eD:=(dm hm).lo
  refine az λU hU=>?_
  walk_at"l3"
  refine⟨G,rfl,by omega,λr bo=>by rw[(hR r bo).1];omega,hU _ ?_⟩
  clear hU U
  refine az λU hU=>?_
  walk_at"l3"
  refine⟨by decide,G,rfl,by omega,λr bo=>(hR r bo).1,by omega,by decide,by decide,hU _ ?_⟩
  clear hU U
  have Ls:=Lv.start hm DZ hR
  refine az λU hU=>?_
  walk_at"l3"
  refine⟨λn δ=>∃(l:List Cs) (k:Nat) (o4 o5 o6 o7 o8 o9:Option D),δ=[some (fD t.aL t.aP m),some (D.lst false (aw false G)),some (D.int (ag G)),some (D.lst true (fH true l)),o4,o5,o6,o7,o8,o9]/\Lv m (ka G) (ag G) k l/\k+n=ag G+1/\tu m (ag G) n l=oG m G/\kb l<=4096/\∀s∈l,∀r∈s.2,r.length<=64,⟨ag G+1,[([],ft G)],0,_,_,_,_,_,_,rfl,Ls,by omega,rfl,?_,λs hs r bo=>?_⟩,?_⟩
  ·show 2 ^ (ft G).length+0<=4096
   rw[(HA (by omega) DZ hR).1]
   exact mq (by decide) hw
  ·rw[dR.mp hs]at bo
   have:=((HA (by omega) DZ hR).2.2 r bo).1
   omega
  rintro n δ ⟨l,k,o4,o5,o6,o7,o8,o9,rfl,L,hk,Kx,hll,tM⟩
  walk_at"l3"
  refine⟨by decide,⟨b14 true l,rfl⟩,?_⟩
  by_cases l0:l=[]
  ·subst l0
   rw[show bI (D.lst true (fH true [])) (D.lst true [])=true from rfl,if_neg (by decide)]
   refine hU _ ?_
   walk_at"l3"
   have e0:oG m G=none:=by
    rw[<-Kx]
    cases n with
    | zero=>rfl
    | succ n=>rfl
   rw[e0]at q
   exact q
  have d0:bI (D.lst true (fH true l)) (D.lst true [])=false:=by
   cases l with
   | nil=>exact absurd rfl l0
   | cons s l=>rfl
  rw[d0,if_pos (by decide)]
  have Ky:∀s∈l,jz (ag G) s.1/\s.2.length<=12:=λs hs=>by
   have g:=(L.gs s hs).1
   have gl:=g.le
   exact⟨⟨g.inc,λx hx=>by have:=g.off x hx;omega⟩,by omega⟩
  obtain⟨n,rfl⟩:∃n',n=n'+1:=by
   cases n with
   | succ n=>exact⟨n,rfl⟩
   | zero =>
    exfalso
    cases l with
    | nil=>exact l0 rfl
    | cons s l =>
     have h1:=(Ky s (gj ..)).1.len
     have h2:=(L.gs s (gj ..)).2
     omega
  clear hU
  have dp5:∀a,(dH (l.take a)).length<=4096:=λa=>by
   have h1:=UZ (l.take a)
   have h2:=Kw (l.take a) (l.drop a)
   rw[ki]at h2
   omega
  refine az λU hU=>?_
  walk_at"l3"
  refine⟨by decide,hU _ ?_⟩
  clear hU
  refine⟨_,rfl,?_⟩
  rw[eN,UY]
  simp only[fm,fk]
  refine az λU hU=>?_
  walk_at"l3"
  refine⟨cn7 l,?_⟩
  rw[UY]
  refine gu.mk (λa δ=>(∀z∈dH (l.take a),oF z=false)/\∃o5 o6 o7 o8 o9,δ=[some (fD t.aL t.aP m),some (D.lst false (aw false G)),some (D.int (ag G)),some (D.lst false (fH false l)),some (D.lst true (fH true ((dH (l.take a)).map (gA m (ag G))))),o5,o6,o7,o8,o9]) ⟨λz hz=>absurd hz i5,_,_,_,_,_,rfl⟩ ?_ ?_
  ·rintro a d δ hd ⟨qA,o5,o6,o7,o8,o9,rfl⟩
   obtain⟨ha,rfl⟩:=cm9 hd
   clear hd hU
   have hs:=eB ha
   obtain⟨gs,gk⟩:=L.gs _ hs
   obtain⟨hh,Kz⟩:=gs.rt
   have g6:=(Ky _ hs).2
   have et:dH (l.take (a+1))=dH (l.take a)++fv l[a]:=by
    unfold dH
    rw[kY,aQ ha,LP,Ws,List.flatMap_cons,List.flatMap_nil,eU]
   rw[et]
   have U2:=dp5 (a+1)
   rw[et,cy]at U2
   generalize hS:l[a]=s0 at hs gs gk Kz g6 et U2 ⊢
   have l1:(fv s0).length=s0.2.length:=by unfold fv;rw[aY,cq]
   walk_at"l3"
   refine gu.mk (λi δ=>(∀z∈(fv s0).take i,oF z=false)/\∃o7 o8 o9,δ=[some (fD t.aL t.aP m),some (D.lst false (aw false G)),some (D.int (ag G)),some (D.lst false (fH false l)),some (D.lst true (fH true ((dH (l.take a)++(fv s0).take i).map (gA m (ag G))))),some (D.lst false (au s0.1)),some (D.lst false (aw false s0.2)),o7,o8,o9]) ⟨λz hz=>absurd hz i5,_,_,_,by rw[List.take_zero,eU]⟩ ?_ ?_
   ·rintro i d δ hd ⟨Ad,o7,o8,o9,rfl⟩
    obtain⟨hi,rfl⟩:=Qi hd
    clear hd
    obtain⟨cl,ca⟩:=Kz _ (eB hi)
    have gc:s0.2.getD i []=s0.2[i]:=by rw[aJ,aQ hi];rfl
    have gle:=gs.le
    have ei:(fv s0).take (i+1)=(fv s0).take i++[(s0,i)]:=by
     rw[kY]
     congr 1
     unfold fv
     rw[cB,jJ hi];rfl
    have hh6:hh<=64:=by have:=tM _ hs _ (eB hi);omega
    have il1:=(Ky _ hs).1.len
    simp only[iV,fm,fk]
    refine az λU hU=>?_
    walk_at"l3"
    have eb:au s0.1++[D.int ((ag G:Int)-(s0.2.length:Int)+(i:Int))]=au (j9 (ag G) (s0,i)):=by
     unfold j9
     rw[du,du,dS]
     show _=_++[D.int ((ag G-s0.2.length+i:Nat):Int)]
     rw[show(ag G:Int)-(s0.2.length:Int)+(i:Int)=((ag G-s0.2.length+i:Nat):Int) by omega]
    rw[eb]
    refine⟨by decide,by omega,hU _ ?_⟩
    clear hU
    refine az λU hU=>?_
    walk_at"l3"
    refine⟨s0.2[i],rfl,by omega,nul s0.2[i],rfl,?_⟩
    cases hz:nul s0.2[i]with
    | true =>
     rw[if_pos rfl]
     have ef:oG m G=some (j9 (ag G) (s0,i)):=by
      rw[<-Kx,tu,if_neg l0]
      have:(dH l).find? oF=some (s0,i):=by
       refine Wl.mpr ⟨by show nul (s0.2.getD i [])=true;rw[gc];exact hz,dH (l.take a)++(fv s0).take i,(fv s0).drop (i+1)++dH (l.drop (a+1)),?_,λz zE=>?_⟩
       ·have e1:dH l=dH (l.take (a+1))++dH (l.drop (a+1)):=by
         conv=>lhs;rw[<-ki (a+1) l]
         unfold dH
         rw[Ws]
        have e2:fv s0=(fv s0).take i++(s0,i)::(fv s0).drop (i+1):=by
         conv=>lhs;rw[<-ki (i+1) (fv s0),ei,dO]
         rfl
        rw[e1,et]
        conv=>lhs;rw[e2]
        simp only[dO,t7]
       ·have:=(bP.mp zE).elim (qA z) (Ad z)
        rw[this];rfl
      rw[this];rfl
     rw[ef]at q
     exact q
    | false =>
     rw[if_neg (by decide)]
     refine hU _ ?_
     clear hU
     walk_at"l3"
     rw[show((i:Int)+1)=((i+1:Nat):Int) by omega,B0,ei]
     refine⟨⟨_,rfl⟩,m,s0.2[i],s0.2.drop (i+1),rfl,hm,hz,by omega,ca,λr bo=>by rw[cl];exact Kz r (pz bo),by rw[fA];omega,by rw[fM,qw];rfl,by decide,?_,λz zE=>?_,_,_,_,?_,rfl,rfl,rfl⟩
     ·unfold fH
      rw[aY,aY,cy,fJ]
      omega
     ·rcases bP.mp zE with y | y
      ·exact Ad z y
      ·rw[dR.mp y]
       show nul (s0.2.getD i [])=false
       rw[gc];exact hz
     ·rw[<-dO,dS (l₁:=dH (l.take a)++(fv s0).take i),<- b67]
      congr 1
      show _=[D.tup [.lst true (au (gA m (ag G) (s0,i)).1),.lst true (aw true (gA m (ag G) (s0,i)).2)]]
      show _=[D.tup [.lst true (au (j9 (ag G) (s0,i))),.lst true (aw true (gz m (s0.2.getD i []) (s0.2.drop (i+1))))]]
      rw[gc]
   ·rintro δ ⟨Ad,o7,o8,o9,rfl⟩
    rw[show(gR (aw false s0.2)).length=(fv s0).length by rw[vS,jy,l1],qQ]at Ad ⊢
    exact⟨λz hz=>(bP.mp hz).elim (qA z) (Ad z),_,_,_,_,_,rfl⟩
  ·rintro δ ⟨qA,o5,o6,o7,o8,o9,rfl⟩
   refine hU _ ?_
   clear hU
   rw[show(fH false l).length=l.length by unfold fH;rw[aY],qQ]at qA ⊢
   walk_at"l3"
   have hf:(dH l).find? oF=none:=Mb.mpr λz hz=>by rw[qA z hz];decide
   refine⟨n,by omega,_,k+1,_,_,_,_,_,_,⟨rfl,rfl,rfl,rfl,rfl,rfl,rfl⟩,L.next hm (QY hm hR) qA,by omega,?_,?_,λs hs r bo=>?_⟩
   ·rw[<-Kx,tu,if_neg l0,hf]
   ·exact dy (U1 m (ag G) l) hll
   ·obtain⟨z,hz,rfl⟩:=aX.mp hs
    exact bO6 (λo ho=>tM _ (wB.mp hz).1 o (pz ho)) r bo
noncomputable abbrev bq5(t:gb):List D->List Str->List D->Prop:=λds ns xs=>∃(m:Bool × Nat) (G:List (List Nat)) (Fb:List Nat),ds=[fD t.aL t.aP m,.lst false (aw false G)]/\cZ m G/\1<=G.length/\G.length<=12/\2<=ag G/\ag G<=12/\oG m G=some Fb/\ns=(["field","length","check_rows","word_rows","message_places","size","bound"]:List Str)/\xs=oI t.aL t.aP true m G++[.int (Fb.length:Nat)]
theorem KA(T:Txt K mg t)(hB:Bm mg base):aO P w K mg base aZ 5 t.JI t.S1 ["self","field","table"] (HN [t.jE,t.jF] t.cC (bq5 t)):=by
 refine T.Dz.F.ok ay5 (λvs H Q E h=>?_) λaH A outer s H vs Q E hr h=>?_
 ·obtain⟨F,H0,x,dx,b9,ds,ns,xs,rfl,_,_,_,_,_,r,⟨m,G,Fb,rfl,_⟩,_⟩:=h
  have:=r.length
  simp at this
  simp[this]
 obtain⟨F,H0,x,dx,b9,ds,ns,xs,rfl,tb,e0,iT,s0,hx,r,⟨m,G,Fb,rfl,hc,g1,Ac,w2,w6,hF,rfl,rfl⟩,q⟩:=h
 have hm:=hc.hm
 have hG:=hc.rt
 obtain⟨vf,U3,B1,B2,rfl,hB',rf,r2⟩:=R.dj r
 obtain⟨rfl,rfl⟩:=tV.mp hB'.symm
 obtain⟨vc,FW,B1,B2,rfl,dp8,rc,r3⟩:=R.dj r2
 obtain⟨rfl,rfl⟩:=tV.mp dp8.symm
 cases r3
 refine⟨_,fK (uk (Bc (A8 (jh ((az0 T).mono (by decide)) hr rfl T.Dw.g T.Dw.F.kp T.Dw.b .nil dX (b8 (pv 1) (b8 (pv 2) eX))))) (kr xG) q0)
  (fK (uk (cH (fS (dF hr)) (ae (mK ((cg9 T).mono (by decide)) hr rfl T.Dx.g T.Dx.F.kp T.Dx.b dX (aj (bv 1) (aj (bv 2) ay)))) (ae (fU (iU) (by rfl) T.iG ie (aj (bB (bv 2) (ae ao) (λ_ _=>rfl)) ay))) (bL _)) (kr xG) q0)
  (fK (uj (Q0 (E:=E0) T.Ug ((UK T).mono (by decide)) hr T.JP.b dX rfl T.DM (b8 (pv 0) (b8 (pv 1) (b8 (pv 2) eX)))))
  (kr (iM (pv 0) (fU (iU) (by rfl) T.iG ie (aj (ae (mK ((aC6 T).mono (by decide)) hr rfl T.Dy.g T.Dy.F.kp T.Dy.b dX (aj (bv 1) (aj (bv 2) ay)))) ay)) rfl)))),?_⟩
 try dsimp only[lY,lZ]
 refine⟨_,rfl,_,rfl,F,[fD t.aL t.aP m,.lst false (aw false G)],λd=>d=.bl true,e0.trans s0,R.cons (A:=[]) (rf.shared (L3.af.refl _) s0) (rc.shared (L3.af.refl _) s0),⟨m,G,rfl,hm,hG,g1,Ac,w2,by omega,rfl⟩,λd v F1 H1 A1 hd fG DV UL UM r1 UN Kr=>?_⟩
 subst hd
 cases r1
 refine⟨true,rfl,?_⟩
 refine jm ?_
 have s1:=s0.trans fG
 have cV:=fG.get _ _ hx rfl
 have nr:(bU m G).length≠ag G:=λz=>by
  obtain⟨⟨Hd,I⟩,iR⟩:=hc.red
  have:=I.HB hm iR
  have h0:=hc.sz
  unfold bJ at h0
  omega
 refine⟨⟨H1,F⟩,F,[none,some (fD t.aL t.aP m),some (.lst false (aw false G))],[],λb _=>b=false,ak.self (e0.trans s1) (.fO (A:=[]) (C:=[]) (rf.shared (L3.af.refl _) s1) (.fO (A:=[]) (C:=[]) (rc.shared (L3.af.refl _) s1) .nil)),?_,λb ah F2 H2 hb hf2 eK c2=>?_⟩
 ·walk_at"l3"
  refine⟨m,G,rfl,hm,by omega,hG,by omega,?_⟩
  obtain⟨g,G',rfl⟩:∃g G',G=g::G':=by
   cases G with
   | nil=>exact absurd g1 (by decide)
   | cons g G'=>exact⟨g,G',rfl⟩
  refine⟨.lst false (au g),zy false (T:=g::G') (i:=0) (ET _),sI 5 ((bU m (g::G')).length:Nat),?_⟩
  rw[nX,iy]
  exact decide_eq_false λz=>nr (Int.ofNat.inj z)
 subst hb
 refine jm ?_
 have s2:=s1.trans eK
 have ff:=eK.get _ _ cV rfl
 refine⟨.ref x,rfl,vf,rfl,vc,rfl,F,H0,x,dx,t.cC,vf,vc,m,G,[],rfl,e0,iT,s2,ff,.nil,⟨T.wV,T.zU,T.zV,T.JY,T.zX,T.JZ,T.zW⟩,rf,rc,hm,hG,by omega,by omega,λH' p1 p2 p3 B1 B2 B3 sx dD k1 k2 k3 nd fr=>?_⟩
 have so:=bR.of0 iT s2 sx
 refine⟨⟨H',F⟩,F,[none,some (fD t.aL t.aP m),some (.lst false (aw false G))],[],λd _=>d=.int (Fb.length:Nat),ak.self (e0.trans so) (.fO (A:=[]) (C:=[]) (rf.shared (L3.af.refl _) so) (.fO (A:=[]) (C:=[]) (rc.shared (L3.af.refl _) so) .nil)),?_,λd ah v F3 H3 hd Aa g5 c3=>?_⟩
 ·walk_at"l3"
  refine⟨m,G,rfl,hm,by omega,hG,by omega,w6,?_⟩
  rw[hF]
  show(((au Fb).length:Nat):Int)=_
  rw[iy]
 subst hd
 obtain⟨A3,C3,r3,_,nd3,_⟩:=c3.own
 obtain rfl:v=.int (Fb.length:Nat):=by cases r3;rfl
 have gI:=g5.get _ _ dD rfl
 refine⟨.ref x,rfl,x,t.cC,dx,_,rfl,gI,T.wV,T.JX,by show 6<1000;decide,?_⟩
 have mv:∀{ds:List D} {vs:List V} {A':List Addr} {fs':List (Str × V)},R (λ_=>none) H' ds vs A'->ds.all D.fr=true->R (λ_=>none) (upd H3 x (.ins t.cC dx fs')) ds vs A':=λr hd=>(r.grow (L3.af.refl _) g5 λa ha=>(r.lists a ha).2).sV gI hd
 have fR:∀X:List (List Nat),[D.lst true (aw true X)].all D.fr=true:=λX=>by rw[dB,fM,qw];rfl
 have fN:∀X:List Nat,[D.lst true (au X)].all D.fr=true:=λX=>by rw[dB,l8];rfl
 have z:=((((fG.trans eK).x (x:=x)).trans sx).trans (g5.x (x:=x))).trans (bR.upd (C:=x) (dx:=dx) gI rfl (o':=.ins t.cC dx (bM "bound" (.int (Fb.length:Nat)) ([]++qB.zip [vf,.int (ag G:Nat),.ref p1,.ref p2,.ref p3,.int ((bJ m G).length:Nat)]))))
 refine q _ [vf,.int (ag G:Nat),.ref p1,.ref p2,.ref p3,.int ((bJ m G).length:Nat),.int (Fb.length:Nat)] (B1++(B2++(B3++[]))) z (by rw[bH];rfl) rfl ?_ ?_ ?_
 ·have e:=e0.trans s0
  have up:∀{wY:Hp} {ds:List D} {vs:List V} {B:List Addr},R (λ_=>none) wY ds vs B->(∀a∈B,H2 a=none)->R F wY ds vs B:=λr h=>r.keep (L3.af.of λb o e=>by cases e) (gq.same (L3.af.refl _)) gP.nil (λa ha=>e.free ((fG.trans eK).free (h a ha))) (by simp)
  exact R.cons (A:=[]) (rf.shared (L3.af.refl _) (bR.of0 iT s0 z)) (.int (R.cons (up (mv k1 (fR _)) λa ha=>fr a (e7 _ ha)) (R.cons (up (mv k2 (fR _)) λa ha=>fr a (dM _ (e7 _ ha))) (R.cons (up (mv k3 (fN _)) λa ha=>fr a (dM _ (dM _ ha))) (.int (.int .nil))))))
 ·rw[eU];exact nd
 ·rw[eU]
  intro a ha
  exact(fG.trans eK).free (fr a ha)
noncomputable abbrev aH7(t:gb):bh:=λds Q=>∃(m:Bool × Nat) (G:List (List Nat)) (k:Kd),ds=[gZ t m G k]/\cZ m G/\Q (.lst true (aw true (bx m G)))
theorem aH8(T:Txt K mg t):aO P w K mg base aZ 2 t.Dh t.S2 ["self"] (bq (aH7 t)):=by
 refine bO T.T4.F aG6 ?_ ?_
 ·intro ds Q h
  obtain⟨m,G,k,rfl,hc,q⟩:=h<;>rfl
 ·intro aH A outer s H E hr
  refine⟨_,(aG (bc (cA T.zQ (UD T) hr (aj (fW (K:=K) (bv 0)) ay)))),λds Q h=>?_⟩
  obtain⟨m,G,k,rfl,hc,q⟩:=h
  have hw:=hc.HQ
  have hf:=hc.wz
  walk_at"l3"
  refine cj3 T m G k ⟨_,by rw[eN,eP],by rw[iD];omega,by rw[fM,qw,kX,nq],q⟩
noncomputable abbrev aH9(t:gb)(P:Program)(w:World)(K:Frag)(mg:Str->Option Value)(base:Heap):bh:=λds Q=>∃(m:Bool × Nat) (G:List (List Nat)) (k:Kd),ds=[gZ t m G k]/\cZ m G/\aa m ^ (bJ m G).length<=4096/\Q (.lst true (aw true (eA m (ag G) (bx m G))))
theorem aI0(T:Txt K mg t):aO P w K mg base aZ 3 t.S3 t.S4 ["code"] (bq (aH9 t P w K mg base)):=by
 refine bO T.T5.F tE ?_ ?_
 ·intro ds Q h
  obtain⟨m,G,k,rfl,hc,hl,q⟩:=h<;>rfl
 ·intro aH A outer s H E hr
  refine⟨_,(aA (aW (i:=1) tE.nd rfl (bV rfl) (dE (fW (K:=K) (bv 0))))
   (aA (aW (i:=2) tE.nd rfl (ax rfl) (cO (cw (aD fQ (ae (cO (cw ao cm))) (fW (K:=K) (bv 0))) cm)))
   (aA (gg eW rfl (rV (b68 (P:=P) (w:=w) (K:=K) (mg:=mg) (base:=base) (n:=2) (bv 0) (hr.mono (by decide)))) (ir (i:=3) tE.nd rfl (bV rfl))
    (aA (aW (i:=4) tE.nd rfl (ax rfl) (cO cm))
    (aA (gg eW rfl (mL rfl T.gY (aj (fW (K:=K) (bv 1)) ay)) (ir (i:=5) tE.nd rfl (bV rfl))
     (aG (cu7 (i:=4) rfl (by first | exact ax rfl | exact bV (ax rfl)) (eI [("a",5),("row",3),("field",1)] ["word"] rfl (iu (bv 2)) (λ_ _ _ _=>(fg (i:=3) (show(["a","row","field","word"]:List Str).Nodup by decide +kernel))) (λ_ _ _ _=>eZ) (λ_ _ _ _=>(oj (P:=P) (w:=w) (K:=K) (mg:=mg) (base:=base) (n:=1) (bv 2) (hr.mono (by decide)) (aj (bv 3) (aj (bv 0) (aj (bv 1) ay))))) rfl))))
    (aG (aW (i:=2) tE.nd rfl (ax rfl) (em 4))))))
   (aG (bc (em 2)))))),λds Q h=>?_⟩
  obtain⟨m,G,k,rfl,hc,hl,q⟩:=h
  have hm:=hc.hm
  have tJ:=(dm hm).hi
  have hw:=hc.HQ
  refine az λU hU=>?_
  walk_at"l3"
  refine Um T m G k ⟨P7 _ _ _,hU _ ?_⟩
  clear hU U
  refine az λU hU=>?_
  walk_at"l3"
  refine⟨by decide,Kj T m G k ?_⟩
  dsimp only
  refine⟨⟨by omega,by omega,by show 1*_<=_;omega,rfl⟩,by decide,hU _ ?_⟩
  clear hU U
  have hR:=hc.rows
  have eD:=(dm hm).lo
  rw[vG,iJ,show aK (ag G) (D.int 0)=au (aK (ag G) 0) by rw[du,kj];rfl]
  refine az λU hU=>?_
  walk_at"l3"
  refine ci1 T T.DD T.J9 T.DD (aH8 T) T.T4.b (by decide) ⟨m,G,k,rfl,hc,_,rfl,?_⟩
  refine gu.mk (λi δ=>∃o3 o4 o5,δ=[some (gZ t m G k),some (fD t.aL t.aP m),some (D.lst true (aw true (eA m (ag G) ((bx m G).take i)))),o3,o4,o5]) ⟨_,_,_,rfl⟩ ?_ ?_
  ·rintro i d δ hd ⟨o3,o4,o5,rfl⟩
   obtain⟨hi,rfl⟩:∃hi:i<(bx m G).length,d=.lst false (au (bx m G)[i]):=by
    rw[eP]at hd
    unfold aw at hd
    rw[cB]at hd
    by_cases hi:i<(bx m G).length
    ·rw[aQ hi]at hd;exact⟨hi,(cT hd).symm⟩
    ·rw[fY (by omega)]at hd;cases hd
   clear hd hU
   have ri:=hR _ (eB hi)
   have lw:=HZ m (ag G) ((bx m G).take i)
   have lt:((bx m G).take i).length=i:=by rw[fJ];omega
   rw[lt]at lw
   have lq:(eA m (ag G) ((bx m G).take i)).length*aa m<=4096:=by
    rw[lw,<- iZ]
    exact dy (mq (by omega) (by rw[iD]at hi;omega)) hl
   have li:(eA m (ag G) ((bx m G).take i)).length<=4096:=dy (Wt _ (by omega)) lq
   have ww:=cm5 m (ag G) ((bx m G).take i)
   rw[show eA m (ag G) ((bx m G).take (i+1))=jA m (eA m (ag G) ((bx m G).take i)) (bx m G)[i] (aa m) by
    unfold eA
    rw[kY,aQ hi,AF];rfl]
   generalize eA m (ag G) ((bx m G).take i)=ws at li lq ww ⊢
   simp only[gN,fm,fk]
   refine az λU hU=>?_
   walk_at"l3"
   refine⟨by decide,hU _ ?_⟩
   clear hU
   refine az λU hU=>?_
   walk_at"l3"
   refine Ul T m ⟨_,rfl,⟨by omega,by omega⟩,?_⟩
   refine vK (λj δ=>∃o5,δ=[some (gZ t m G k),some (fD t.aL t.aP m),some (D.lst true (aw true ws)),some (D.lst false (au (bx m G)[i])),some (D.lst true (aw true (jA m ws (bx m G)[i] j))),o5]) ⟨_,rfl⟩ ?_ ?_
   ·rintro a δ ha ⟨o5,rfl⟩
    simp only[gN,fm,fk]
    clear hU
    walk_at"l3"
    refine⟨⟨_,rfl⟩,?_⟩
    refine fB ws (λw=>D.lst false (au w)) (λw=>D.lst true (au (fE m w a (bx m G)[i]))) (by rw[eP];rfl) (λa b h=>oq a b h) (λv wZ=>?_) (.inr λ_ _=>l8 _) (by rw[sL];omega) ?_
    ·walk_at"l3"
     obtain⟨C,ns,zs,sp,e1,e2,e3,e4⟩:=Kp (P:=P) (w:=w) (base:=base) T hm
     have:=ww v wZ
     exact⟨C,ns,zs,sp,e1,e2,e3,e4 v _ a _ ha ri.2 (by omega) rfl⟩
    have al:=HY m ws (bx m G)[i] a
    have am:a*ws.length<=ws.length*aa m:=by rw[kU];exact Nat.mul_le_mul_left _ (by omega)
    refine⟨_,_,rfl,rfl,by rw[jy,aY];omega,some (D.int a),?_⟩
    rw[Rp,<- s9,show aw true (ws.map λw=>fE m w a (bx m G)[i])=ws.map λw=>D.lst true (au (fE m w a (bx m G)[i])) by unfold aw;rw[bW];rfl]
    rfl
   ·rintro δ ⟨o5,rfl⟩
    refine hU _ ?_
    clear hU
    walk_at"l3"
    exact⟨_,_,_,rfl,rfl,rfl⟩
  ·rintro δ ⟨o3,o4,o5,rfl⟩
   refine hU _ ?_
   walk_at"l3"
   rw[qQ]
   exact q
noncomputable abbrev az2(t:gb):bh:=λds Q=>∃(m:Bool × Nat) (G:List (List Nat)) (k:Kd),ds=[gZ t m G k]/\m∈av/\(bJ m G).length<=64/\Q (.int ((aa m ^ (bJ m G).length:Nat):Int))
theorem az3(T:Txt K mg t):aO P w K mg base aZ 1 t.S5 t.S6 ["code"] (bq (az2 t)):=by
 refine bO T.T6.F Dc ?_ ?_
 ·intro ds Q h
  obtain⟨m,G,k,rfl,hm,hl,q⟩:=h<;>rfl
 ·intro aH A outer s H E hr
  refine⟨_,(aA (aW (i:=1) Dc.nd rfl (ax rfl) ao)
   (aA (gg eW rfl (mL rfl T.gY (aj (fW (K:=K) (bv 0)) ay)) (ir (i:=2) Dc.nd rfl (ax rfl))
    (aG (yg (i:=1) Dc.nd rfl (ax rfl) (fW (K:=K) (fW (K:=K) (bv 0))) cw9)))
   (aG (bc (em 1))))),λds Q h=>?_⟩
  obtain⟨m,G,k,rfl,hm,hl,q⟩:=h
  have tJ:=(dm hm).hi
  refine az λU hU=>?_
  walk_at"l3"
  refine hU _ ?_
  clear hU U
  refine az λU hU=>?_
  walk_at"l3"
  refine cm3 T m G k ⟨_,rfl,⟨by omega,by omega⟩,?_⟩
  refine vK (λi δ=>∃o,δ=[some (gZ t m G k),some (.int ((aa m ^ i:Nat):Int)),o]) ⟨none,rfl⟩ ?_ ?_
  ·rintro i δ hi ⟨o,rfl⟩
   simp only[gN,fm,fk]
   walk_at"l3"
   refine Um T m G k (Ul T m ?_)
   dsimp only
   exact⟨jO.ok (.inr ⟨by omega,by omega⟩),_,by rw[iZ,ue],rfl⟩
  ·rintro δ ⟨o,rfl⟩
   refine hU _ ?_
   walk_at"l3"
   exact q
noncomputable abbrev aL4(t:gb)(P:Program)(w:World)(K:Frag)(mg:Str->Option Value)(base:Heap):mT:=λds Q Ex=>∃(m:Bool × Nat) (G:List (List Nat)) (k:Kd),ds=[gZ t m G k]/\cZ m G/\(aa m ^ (bJ m G).length<=4096->Q (.lst true (au (fw (ag G) (eA m (ag G) (bx m G))))))/\(4096<aa m ^ (bJ m G).length->Ex t.dQ)
theorem Ae(T:Txt K mg t):aO P w K mg base (kA P w) 4 t.S7 t.S8 ["code"] (nY (aL4 t P w K mg base)):=by
 refine GF T.iF.F Ji ?_ ?_
 ·intro ds Q Ex h
  obtain⟨m,G,k,rfl,hc,q,qx⟩:=h<;>rfl
 ·intro aH A outer s H E hr
  refine⟨_,(aA (dZ (cH yp (ae (cA T.T6 (az3 T) hr (aj (bv 0) ay))) (ae (cx9 (by rfl) T.df9)) (bL _)) (aG (GG T.dg0 rfl (by rfl) (aj (ae Gb) ay))) dY)
   (aA (aW (i:=1) Ji.nd rfl (ax rfl) (aD fQ (ae (cO (cw ao cm))) (ae (aD cS (fW (K:=K) (bv 0)) (ae ao)))))
   (aA (ON (gg eW rfl (rV (cA T.T5 (aI0 T) hr (aj (bv 0) ay))) (ir (i:=2) Ji.nd rfl (ax rfl))
    (aG (cz3 (i:=1) rfl (by first | exact ax rfl | exact bV (ax rfl)) (ae (aD gQ (fW (K:=K) (bv 0)) (ae (cj0 (bv 2) (ae ao))))) pI))))
   (aG (bc (em 1)))))),λds Q Ex h=>?_⟩
  obtain⟨m,G,k,rfl,hc,q,qx⟩:=h
  have hm:=hc.hm
  have tJ:=(dm hm).hi
  have hw:=hc.HQ
  refine az λU hU=>?_
  walk_at"l3"
  rw[zJ]
  have hf:=hc.wz
  refine⟨m,G,k,rfl,hm,by omega,by rw[HP];rfl,?_⟩
  dsimp only
  by_cases h4:4096<aa m ^ (bJ m G).length
  ·rw[if_pos (by omega)]
   exact⟨by decide,qx h4⟩
  have q:=q (by omega)
  rw[if_neg (by omega)]
  refine hU _ ?_
  clear hU U
  refine az λU hU=>?_
  walk_at"l3"
  refine⟨by decide,Kj T m G k ?_⟩
  dsimp only
  refine⟨⟨by omega,by omega,by show 1*_<=_;omega⟩,?_⟩
  rw[show aF (aK ((ag G:Int)+1).toNat 0)=au (fw (ag G) []) by
   rw[show fw (ag G) []=aK (ag G+1) 0 from Mi.mpr ⟨oK ..,λb hb=>by
    obtain⟨_,_,rfl⟩:=aX.mp hb
    rfl⟩,du,show((ag G:Int)+1).toNat=ag G+1 by omega]
   unfold aF
   rw[kj,kj];rfl]
  refine hU _ ?_
  clear hU U
  have wl:∀w∈eA m (ag G) (bx m G),w.length=ag G:=cn0 m hc.rows
  refine az λU hU=>?_
  walk_at"l3"
  rw[zJ]
  refine⟨m,G,k,rfl,hc,by omega,by rw[fM,qw,kX,nq],_,rfl,?_⟩
  have al:=HZ m (ag G) (bx m G)
  rw[iD]at al
  generalize eA m (ag G) (bx m G)=W at wl al q ⊢
  refine gu.mk (λi δ=>∃o,δ=[some (gZ t m G k),some (D.lst true (au (fw (ag G) (W.take i)))),o]) ⟨_,rfl⟩ ?_ ?_
  ·rintro i d δ hd ⟨o,rfl⟩
   obtain⟨hi,rfl⟩:∃hi:i<W.length,d=.lst false (au W[i]):=by
    rw[eP]at hd
    unfold aw at hd
    rw[cB]at hd
    by_cases hi:i<W.length
    ·rw[aQ hi]at hd;exact⟨hi,(cT hd).symm⟩
    ·rw[fY (by omega)]at hd;cases hd
   clear hd hU
   have lw:=wl _ (eB hi)
   have cl:W[i].count 0<=W[i].length:=Wu
   have wZ:eQ W[i]<=ag G:=by unfold eQ;omega
   simp only[gN,fm,fk]
   walk_at"l3"
   refine⟨⟨_,rfl⟩,Kj T m G k ⟨_,_,⟨rfl,bO1 W[i]⟩,?_⟩⟩
   dsimp only
   rw[b63,show((ag G:Int)-((W[i].count 0:Nat):Int)).toNat=eQ W[i] by unfold eQ;omega]
   have ln:=oK (ag G) (W.take i)
   refine⟨_,((cf (fw (ag G) (W.take i)) (eQ W[i]):Nat):Int),rfl,by omega,?_,_,?_,rfl⟩
   ·rw[du,cB,aQ (by omega)]
    unfold cf
    rw[aJ,aQ (by omega)];rfl
   ·rw[kY,aQ hi,show(some W[i]).toList=[W[i]] from rfl,Rq _ wZ,du,du,EH];rfl
  ·rintro δ ⟨o,rfl⟩
   refine hU _ ?_
   walk_at"l3"
   rw[tW (bD _)]
   exact q
theorem ce7:∀w:List Nat,(w.filter λx=>x != 0).length=eQ w:=λw=>by
 unfold eQ
 rw[<-EM,List.count,EL (p:=λx=>x != 0) (l:=w)]
 rw[show(List.countP (λx=>decide ¬(x != 0)=true) w)=List.countP (λx=>x==0) w from xu λx _=>by cases x<;>simp]
 omega
noncomputable abbrev aC7:bh:=λds Q=>∃(W:List (List Nat)) (n:Nat),ds=[.lst false (aw false W),.int n]/\n<=64/\W.length<=4096/\(∀w∈W,w.length=n)/\Q (.lst true (au (fw n W)))
theorem aC8(T:Txt K mg t):aO P w K mg base aZ 1 t.S9 t.Ta ["_law_words_here","_law_length"] (bq (aC7 )):=by
 refine bO T.T7.F De ?_ ?_
 ·intro ds Q h
  obtain⟨W,n,rfl,hn,hW,wl,q⟩:=h<;>rfl
 ·intro aH A outer s H E hr
  refine⟨_,(aA (aW (i:=2) De.nd rfl (ax rfl) (aD fQ (ae (cO (cw ao cm))) (ae (aD cS (bv 1) (ae ao)))))
   (aA (gg eW rfl (rV (dE (bv 0))) (ir (i:=3) De.nd rfl (ax rfl))
    (aA (aW (i:=4) De.nd rfl (ax rfl) (fU (iU) (by rfl) T.iG ie (aj (ae (eI [] ["_law_x"] rfl (iu (bv 3)) (λ_ _ _ _=>(fg (i:=0) (show(["_law_x"]:List Str).Nodup by decide +kernel))) (λ_ _ _ _=>(BN (cH (mQ (dF hr)) (bv 0) (ae ao) (bL _)))) (λ_ _ _ _=>(dE (bv 0))) rfl)) ay)))
    (aG (yx (i:=2) rfl (by first | exact ax rfl | exact bV (ax rfl)) (aD cS (bB (bv 2) (bv 4) (λ_ _=>rfl)) (ae ao)) (bv 4)))))
   (aG (bc (em 2))))),λds Q h=>?_⟩
  obtain⟨W,n,rfl,hn,hW,wl,q⟩:=h
  refine az λU hU=>?_
  walk_at"l3"
  refine⟨by decide,⟨by omega,by omega,by omega⟩,?_⟩
  rw[show aF (aK ((n:Int)+1).toNat 0)=au (fw n []) by
   rw[show fw n []=aK (n+1) 0 from Mi.mpr ⟨oK ..,λb hb=>by
    obtain⟨_,_,rfl⟩:=aX.mp hb
    rfl⟩,du,show((n:Int)+1).toNat=n+1 by omega]
   unfold aF
   rw[kj,kj];rfl]
  refine hU _ ?_
  clear hU U
  refine az λU hU=>?_
  walk_at"l3"
  refine gu.mk (λi δ=>∃o3 o4,δ=[some (D.lst false (aw false W)),some (D.int n),some (D.lst true (au (fw n (W.take i)))),o3,o4]) ⟨_,_,rfl⟩ ?_ ?_
  ·rintro i d δ hd ⟨o3,o4,rfl⟩
   obtain⟨hi,rfl⟩:∃hi:i<W.length,d=.lst false (au W[i]):=by
    unfold aw at hd
    rw[cB]at hd
    by_cases hi:i<W.length
    ·rw[aQ hi]at hd;exact⟨hi,(cT hd).symm⟩
    ·rw[fY (by omega)]at hd;cases hd
   clear hd hU
   have lw:=wl _ (eB hi)
   have cl:W[i].count 0<=W[i].length:=Wu
   have wZ:eQ W[i]<=n:=by unfold eQ;omega
   have ln:=oK n (W.take i)
   rw[show W.take (i+1)=W.take i++[W[i]] by rw[kY,aQ hi];rfl]
   generalize W[i]=v at lw cl wZ ⊢
   simp only[gN,fm,fk]
   refine az λU hU=>?_
   walk_at"l3"
   refine Cy v (λ(x:Nat)=>D.int (x:Int)) (λ(x:Nat)=>D.int (x:Int)) (λx=>x != 0) (qj _) l6 (λx hx=>?_) (.inr λ_ _ _=>rfl) (by rw[sL];omega) ?_
   ·walk_at"l3"
    refine⟨?_,λ_=>trivial⟩
    cases x<;>simp
    omega
   dsimp only[fm,fk]
   rw[aY,ce7]
   refine hU _ ?_
   clear hU
   walk_at"l3"
   refine⟨_,oo (by omega) (by omega),?_⟩
   dsimp only
   refine⟨_,eQ v,rfl,Cr (by omega) (by rw[iy];omega),_,_,?_,rfl,rfl⟩
   rw[Rq _ wZ,du,du,EH]
   rfl
  ·rintro δ ⟨o3,o4,rfl⟩
   refine hU _ ?_
   walk_at"l3"
   rw[tW (bD _)]
   exact q
theorem D0{m:Bool × Nat}(hm:m∈av){G:List (List Nat)}(hR:RT (aa m) (ag G) G)(h:G.length<ag G)(hw:ag G<=64):cZ m G/\ag G<=(bJ m G).length+G.length:=by
 obtain⟨⟨H,I⟩,iR,_⟩:=kL hm hR
 have f:=I.HB hm iR
 have r:=co1 hm hR hR λi hi=>by
  rw[aJ,aQ hi]
  exact bN.of (eB hi)
 unfold bJ
 exact⟨⟨hm,hR,by omega,hw,by unfold bJ;omega⟩,by omega⟩
theorem KC{m:Bool × Nat}(hm:m∈av){G:List (List Nat)}(hR:RT (aa m) (ag G) G)(h:G.length<ag G):∃Fb,oG m G=some Fb:=by
 cases e:oG m G with
 | some Fb=>exact⟨Fb,rfl⟩
 | none=>exact absurd (cm4 hm (by omega) hR e (aM (ag G)) (bL3 (bD _))) (bH5 hm hR (by rw[cq];exact h))
noncomputable abbrev aB8(t:gb):bh:=λds Q=>∃m:Bool × Nat,ds=[fD t.aL t.aP m,.int (aa m:Nat)]/\m∈av/\3<=aa m/\Q (.bl true)
theorem aB9(T:Txt K mg t)(hB:Bm mg base):aO P w K mg base aZ 7 t.Tc t.Td ["_law_field_here","_law_many_here"] (vY [t.jE,t.jF] (bq (aB8 t))):=by
 refine G5 T.DA.F oO ?_ ?_
 ·intro ds Q h
  obtain⟨m,rfl,hm,h3,q⟩:=h<;>rfl
 ·intro aH A outer s H E hT hr
  refine⟨_,(aA (aW (i:=2) oO.nd rfl (ax rfl) ao)
   (aA (aW (i:=3) oO.nd rfl (ax rfl) (dE (bv 1)))
   (aA (uZ eW (cH p5 (bv 3) (ae ao) (bL _))
    (aA (aW (i:=3) oO.nd rfl (ax rfl) (aD fQ (bv 3) (bv 1)))
    (aG (aW (i:=2) oO.nd rfl (ax rfl) (aD cS (bv 2) (ae ao))))))
   (aA (aW (i:=4) oO.nd rfl (ax rfl) (CQ hT T.zT ((KA T hB).mono (by decide)) hr rfl T.z7 T.Dz.b dX (aj (bv 0) (aj (HL (cO (cw (aD fQ (ae (cO (cw ao cm))) (ae (aD cS (bv 2) (ae ao)))) cm))) ay))))
   (aA (aW (i:=5) oO.nd rfl (ax rfl) BH)
   (aA (cD5 (i:=6) (λ_ _=>(aG (ci3 (cw1 ((Ae T).mono (by decide)) hr rfl T.iF.g T.iF.F.kp T.iF.b rfl (aj (bv 4) ay)))))
    (λ_ _=>(aG (aW (i:=5) oO.nd rfl (ax rfl) (em 6)))) (by rfl) T.DO oO.nd rfl rfl rfl rfl rfl)
   (aG (bc (rP (ae (OX (by rfl) T.qH (by rfl) T.Ke (bv 5))) (rP (ae (cw5 (by rfl) T.qH (by rfl) T.df7 Zy (bv 5))) (xF (Gg (ae (OX (by rfl) T.qH (by rfl) T.Kf (bv 5))))))))))))))),λds Q h=>?_⟩
  obtain⟨m,rfl,hm,h3,q⟩:=h
  have tJ:=(dm hm).hi
  refine az λU hU=>?_
  walk_at"l3"
  refine hU _ ?_
  clear hU U
  refine az λU hU=>?_
  walk_at"l3"
  refine hU _ ?_
  clear hU U
  refine az λU hU=>?_
  walk_at"l3"
  refine⟨λn δ=>∃s:Nat,1<=s/\s+n=9/\1<=n/\δ=[some (fD t.aL t.aP m),some (D.int (aa m:Nat)),some (D.int s),some (D.int ((aa m ^ s:Nat):Int)),none,none,none],⟨8,1,by decide,rfl,by decide,by rw[LD];rfl⟩,?_⟩
  rintro n δ ⟨s,s1,sn,n1,rfl⟩
  walk_at"l3"
  by_cases c:aa m ^ s<=4096
  ·rw[if_pos (by omega)]
   clear hU
   have s7:s+1<=8:=by
    refine Nat.lt_of_not_le λz=>?_
    have h1:3 ^ 8<=aa m ^ s:=dy (Wr h3 8) (mq (by omega) (by omega))
    have h2:(6561:Nat)<=4096:=dy h1 c
    omega
   refine az λU hU=>?_
   walk_at"l3"
   refine⟨jO.ok (.inr ⟨by omega,by omega⟩),hU _ ?_⟩
   clear hU
   walk_at"l3"
   exact⟨n-1,by omega,s+1,by omega,by omega,by omega,by rw[iZ,ue];exact⟨rfl,rfl⟩⟩
  ·rw[if_neg (by omega)]
   refine hU _ ?_
   clear hU
   refine az λU hU=>?_
   walk_at"l3"
   refine⟨by decide,⟨by omega,by omega,by omega⟩,by decide,?_⟩
   rw[show((s:Int)+1).toNat=s+1 by omega]
   obtain⟨G,hG⟩:∃G,G=[aK (s+1) 1]:=⟨_,rfl⟩
   have wG:ag G=s+1:=by rw[hG];exact dA
   have lG:G.length=1:=by rw[hG];rfl
   have rG:RT (aa m) (ag G) G:=λr hr=>by
    rw[wG]
    rw[hG]at hr
    rw[dR.mp hr]
    exact⟨dA,λa ha=>by rw[(xm.mp ha).2];omega⟩
   rw[show D.lst false [D.lst false (aF (aK (s+1) 1))]=D.lst false (aw false G) by rw[hG];unfold aw;rw[Wv,du,kj];unfold aF;rw[kj];rfl]
   clear hG
   obtain⟨cG,sz⟩:=D0 hm rG (by omega) (by omega)
   obtain⟨Fb,eF⟩:=KC hm rG (by omega)
   refine⟨_,_,⟨m,G,Fb,rfl,cG,by omega,by omega,by omega,by omega,eF,rfl,rfl⟩,?_⟩
   rw[dS,CT]
   show U [some (fD t.aL t.aP m),some (D.int (aa m:Nat)),some (D.int s),some (D.int ((aa m ^ s:Nat):Int)),some (gZ t m G (.CS Fb.length)),none,none]
   have big:4096<aa m ^ (bJ m G).length:=cK (Nat.lt_of_not_le c) (mq (by omega) (by omega))
   refine hU _ ?_
   clear hU
   refine az λU hU=>?_
   walk_at"l3"
   refine hU _ ?_
   clear hU
   refine az λU hU=>?_
   walk_at"l3"
   rw[zJ]
   refine⟨m,G,_,rfl,cG,λz=>absurd z (by omega),λ_=>⟨T.dg3,hU _ ?_⟩⟩
   clear hU
   walk_at"l3"
   refine⟨_,GL T.Ki T.ar1,?_⟩
   rw[if_pos rfl]
   refine⟨_,GL T.Ki T.dg4,?_⟩
   rw[if_pos rfl]
   exact⟨_,GL T.Ki T.dg2,q⟩
noncomputable abbrev aE5:bh:=λds Q=>∃(m:Bool × Nat) (a:Nat),ds=[dG m,.int a]/\0<m.2/\Q (.int (aS m 0 a:Nat))
theorem aE6(T:Txt K mg t):aO P w K mg base aZ 1 t.Te t.Tf ["_law_told_here","_law_a"] (bq (aE5 )):=by
 refine bO T.T8.F aD3 ?_ ?_
 ·intro ds Q h
  obtain⟨m,a,rfl,h0,q⟩:=h<;>rfl
 ·intro aH A outer s H E hr
  refine⟨_,(aA (dZ (nL (bB (bv 0) (ae ao) (λ_ _=>rfl))) (aG (bc (em 1))) dY)
   (aG (bc (aD eO (ae (aD gQ (ae ao) (bv 1))) (bB (bv 0) (ae ao) (λ_ _=>rfl)))))),λds Q h=>?_⟩
  obtain⟨m,a,rfl,h0,q⟩:=h
  unfold dG at *
  obtain⟨k,n⟩:=m
  refine az λU hU=>?_
  walk_at"l3"
  cases k with
  | true =>
   refine⟨_,rfl,true,rfl,?_⟩
   rw[if_pos rfl]
   have e:aS (true,n) 0 a=a:=by unfold aS;show((0 ^^^ a:Nat):Int).toNat=a;rw[mx];rfl
   rw[e]at q
   exact q
  | false =>
   refine⟨_,rfl,false,rfl,?_⟩
   rw[if_neg (by decide)]
   refine hU _ ?_
   walk_at"l3"
   refine⟨_,rfl,?_⟩
   have e:((aS (false,n) 0 a:Nat):Int)=(0-(a:Int))%(n:Int):=by
    unfold aS
    exact ua (jK _ (by have:0<n:=h0;omega))
   rw[e]at q
   exact⟨by omega,q⟩
noncomputable abbrev aE7:bh:=λds Q=>∃(m:Bool × Nat) (a b:Nat),ds=[dG m,.int a,.int b]/\m∈av/\a<aa m/\b<aa m/\Q (.int (gm m a b:Nat))
theorem aE8(T:Txt K mg t):aO P w K mg base aZ 1 t.Tg t.Th ["_law_told_here","_law_a","_law_b"] (bq (aE7 )):=by
 refine bO T.T9.F wO ?_ ?_
 ·intro ds Q h
  obtain⟨m,a,b,rfl,hm,ha,hb,q⟩:=h<;>rfl
 ·intro aH A outer s H E hr
  refine⟨_,(aA (dZ (Gf (nL (bB (bv 0) (ae ao) (λ_ _=>rfl)))) (aG (bc (aD eO (ae (aD fQ (bv 1) (bv 2))) (bB (bv 0) (ae ao) (λ_ _=>rfl))))) dY)
   (aA (aW (i:=3) wO.nd rfl (ax rfl) ao)
   (aA (uZ eW (cH yp (bv 2) (ae ao) (bL _))
    (aA (dZ (cH (fS (dF hr)) (ae (aD Ot (bv 2) (ae ao))) (ae ao) (bL _)) (aG (aW (i:=3) wO.nd rfl (ax rfl) (aD yo (bv 3) (bv 1)))) dY)
    (aA (aW (i:=1) wO.nd rfl (ax rfl) (aD vh (bv 1) (ae ao)))
    (aA (dZ (cH (fS (dF hr)) (ae (nV (bv 1))) (ae (nV (bB (bv 0) (ae ao) (λ_ _=>rfl)))) (bL _)) (aG (aW (i:=1) wO.nd rfl (ax rfl) (aD yo (bv 1) (bB (bv 0) (ae ao) (λ_ _=>rfl))))) dY)
    (aG (aW (i:=2) wO.nd rfl (ax rfl) (aD Oq (bv 2) (ae ao))))))))
   (aG (bc (em 3)))))),λds Q h=>?_⟩
  obtain⟨m,a,b,rfl,hm,ha,hb,q⟩:=h
  unfold dG at *
  obtain⟨k,n⟩:=m
  refine az λU hU=>?_
  walk_at"l3"
  have hF:=dm hm
  cases k with
  | false =>
   refine⟨_,rfl,false,rfl,?_⟩
   have tK:n<=64:=hF.hi
   have l2:2<=n:=hF.lo
   have BV:a<n:=ha
   have lW:b<n:=hb
   rw[if_pos (by decide)]
   refine⟨jO.ok (.inr ⟨by omega,by omega⟩),_,rfl,by omega,?_⟩
   have e:((gm (false,n) a b:Nat):Int)=(a:Int)*b%n:=by
    show((a*b%n:Nat):Int)=_
    rw[qR,ue]
   rw[<-e];exact q
  | true =>
   refine⟨_,rfl,true,rfl,?_⟩
   rw[if_neg (by decide)]
   have hp:=zu hm
   have bp:=PN n hp
   have DR:=PQ n hp
   have p0:n≠0:=λz=>by rw[z,nE]at DR;omega
   have iT:bl a<bl n:=by
    have:=fc.mpr (show a<2 ^ (bl n-1) from ha)
    omega
   have hy0:bl b<bl n:=by
    have:=fc.mpr (show b<2 ^ (bl n-1) from hb)
    omega
   refine hU _ ?_
   clear hU U
   refine az λU hU=>?_
   walk_at"l3"
   refine hU _ ?_
   clear hU U
   refine az λU hU=>?_
   walk_at"l3"
   refine⟨λm δ=>∃(x y z:Nat),δ=[some (.tup [.bl true,.int n]),some (.int (x:Nat)),some (.int (y:Nat)),some (.int (z:Nat))]/\z ^^^ md (cl x y) n=gm (true,n) a b/\bl x<bl n/\bl y<bl n/\m=bl y,
    ⟨bl b,a,b,0,rfl,by rw[mx];rfl,iT,hy0,rfl⟩,?_⟩
   rintro m δ ⟨x,y,z,rfl,inv,hx,hy,rfl⟩
   walk_at"l3"
   split
   ·rename_i hy1
    have Uq:=ib (show y≠0 by omega)
    have DU:bl (y/2)=bl y-1:=Zr y
    have e1:((x:Int)*2 ^ (1:Int).toNat)=((2*x:Nat):Int):=by
     show(x:Int)*(2:Int) ^ 1=_
     omega
    have e2:((y:Int)/2 ^ (1:Int).toNat)=((y/2:Nat):Int):=by
     show(y:Int)/(2:Int) ^ 1=_
     omega
    have a1:oV (y:Int) 1=((y%2:Nat):Int):=by
     rw[show(1:Int)=((1:Nat):Int) from rfl,ND,Nat.and_one_is_mod]
    have tm:=ck3 (y:=y) p0 hx
    have tb:=co6 p0 hx
    clear hU
    refine az λU hU=>?_
    walk_at"l3"
    have fin:∀z':Nat,z'=z ^^^ (if y%2=1 then x else 0)->U [some (.tup [.bl true,.int n]),some (.int x),some (.int y),some (.int z')]:=by
     intro z' hz
     have dr7:z' ^^^ md (cl (if bl (2*x)=bl n then 2*x ^^^ n else 2*x) (y/2)) n=gm (true,n) a b:=by
      rw[hz,qO,<- tm];exact inv
     refine hU _ ?_
     clear hU
     refine az λU hU=>?_
     walk_at"l3"
     refine⟨⟨by decide,by simp only[i7];omega⟩,hU _ ?_⟩
     clear hU
     rw[e1]
     refine az λU hU=>?_
     walk_at"l3"
     have last:∀x':Nat,x'=(if bl (2*x)=bl n then 2*x ^^^ n else 2*x)->U [some (.tup [.bl true,.int n]),some (.int (x':Nat)),some (.int y),some (.int z')]:=by
      intro x' dD
      refine hU _ ?_
      walk_at"l3"
      exact⟨by decide,bl (y/2),by omega,x',y/2,z',⟨rfl,e2,rfl⟩,by rw[dD];exact dr7,by rw[dD];exact tb,by omega,rfl⟩
     refine⟨_,rfl,?_⟩
     show(if(((bl (((2*x:Nat):Int)).natAbs:Nat):Int)=((bl ((n:Int)).natAbs:Nat):Int))then _ else _)
     rw[i7,i7]
     split
     ·rename_i hc
      refine⟨_,rfl,?_⟩
      have g:=last (2*x ^^^ n) (by rw[if_pos (by omega)])
      rw[<-pQ]at g
      exact g
     ·rename_i hc
      exact last (2*x) (by rw[if_neg (by omega)])
    rw[a1]
    split
    ·rename_i DQ
     have odd:y%2=1:=by omega
     have g:=fin (z ^^^ x) (by rw[if_pos odd])
     rw[<-pQ]at g
     exact g
    ·rename_i DQ
     exact fin z (by rw[if_neg (by omega),mr])
   ·rename_i hy1
    have hy:y=0:=by omega
    subst hy
    rw[Za,zt (by rw[nE];exact ib p0),mr]at inv
    subst inv
    refine hU _ ?_
    walk_at"l3"
    exact q
noncomputable abbrev aI1:bh:=λds Q=>∃(m:Bool × Nat) (a b:Nat),ds=[dG m,.int a,.int b]/\0<m.2/\Q (.int (gp m a b:Nat))
theorem aI2(T:Txt K mg t):aO P w K mg base aZ 1 t.Ti t.Tj ["_law_told_here","_law_a","_law_b"] (bq (aI1 )):=by
 refine bO T.Ua.F aG7 ?_ ?_
 ·intro ds Q h
  obtain⟨m,a,b,rfl,h0,q⟩:=h<;>rfl
 ·intro aH A outer s H E hr
  refine⟨_,(aA (dZ (nL (bB (bv 0) (ae ao) (λ_ _=>rfl))) (aG (bc (aD yo (bv 1) (bv 2)))) dY)
   (aG (bc (aD eO (ae (aD cS (bv 1) (bv 2))) (bB (bv 0) (ae ao) (λ_ _=>rfl)))))),λds Q h=>?_⟩
  obtain⟨m,a,b,rfl,h0,q⟩:=h
  unfold dG at *
  obtain⟨k,n⟩:=m
  refine az λU hU=>?_
  walk_at"l3"
  cases k with
  | true =>
   refine⟨_,rfl,true,rfl,?_⟩
   rw[if_pos rfl,pQ]
   exact q
  | false =>
   refine⟨_,rfl,false,rfl,?_⟩
   rw[if_neg (by decide)]
   refine hU _ ?_
   walk_at"l3"
   refine⟨_,rfl,?_⟩
   refine⟨by omega,?_⟩
   have e:((gp (false,n) a b:Nat):Int)=((a:Int)+b)%n:=by
    show(((a+b)%n:Nat):Int)=_
    rw[qR,L5]
   rw[<-e];exact q
noncomputable abbrev aE9:bh:=λds Q=>∃(m:Bool × Nat) (r n:Nat) (B:List (List Nat)),ds=[dG m,.int n,.lst false (aw false B)]/\m∈av/\Sys m r n B/\n<=8/\aa m ^ (n-r)<=64/\Q (.lst true (aw true (fF m n (dv m r n B))))
theorem aF0(T:Txt K mg t):aO P w K mg base aZ 2 t.Tn t.To ["_law_told_here","_law_length","_law_table"] (bq (aE9 )):=by
 refine bO T.Ub.F mY ?_ ?_
 ·intro ds Q h
  obtain⟨m,r,n,B,rfl,hm,S,hn,hq,q⟩:=h<;>rfl
 ·intro aH A outer s H E hr
  refine⟨_,(aA (aW (i:=3) mY.nd rfl (ax rfl) (fU (iU) (by rfl) T.iG ie (aj (bv 2) ay)))
   (aA (aW (i:=4) mY.nd rfl (ax rfl) (cO (cw (aD fQ (ae (cO (cw ao cm))) (bv 1)) cm)))
   (aA (gg eW rfl (rW rfl T.gY (aj (bv 3) (aj (bv 1) ay))) (ir (i:=5) mY.nd rfl (bV rfl))
    (aA (aW (i:=6) mY.nd rfl (ax rfl) (aD cS (ae (eI [("_law_told_here",0),("_law_at",5)] ["_law_line"] rfl (iu (bv 2)) (λ_ _ _ _=>(fg (i:=2) (show(["_law_told_here","_law_at","_law_line"]:List Str).Nodup by decide +kernel))) (λ_ _ _ _=>eZ) (λ_ _ _ _=>(cA T.T8 (aE6 T) hr (aj (bv 0) (aj (bB (bv 2) (bv 1) (λ_ _=>rfl)) ay)))) rfl)) (ae (eI [("_law_at",5)] ["_law_k"] rfl (rW rfl T.gY (aj (bv 3) (aj (bv 1) ay))) (λ_ _ _ _=>(fg (i:=1) (show(["_law_at","_law_k"]:List Str).Nodup by decide +kernel))) (λ_ _ _ _=>eZ) (λ_ _ _ _=>(Gv Qa (by rfl) T.DK BB (aj (ae (pY (fS (dF hr)) (bv 1) (bv 0) (bL _))) ay))) rfl))))
    (aA (aW (i:=7) mY.nd rfl (ax rfl) (cO cm))
    (BK 4 (aA (gg eW rfl (mL rfl T.gY (aj (ae (cA T.Du (Ko T) hr (aj (bv 0) ay))) ay)) (ir (i:=8) mY.nd rfl (bV rfl))
     (aA (Qt (i:=9) mY.nd rfl (ax rfl) [("_law_told_here",0),("_law_sign",8)] ["_law_x"] rfl (iu (bv 6)) (λ_ _ _ _=>(fg (i:=2) (show(["_law_told_here","_law_sign","_law_x"]:List Str).Nodup by decide +kernel))) (λ_ _ _ _=>eZ) (λ_ _ _ _=>(cA T.T9 (aE8 T) hr (aj (bv 0) (aj (bv 1) (aj (bv 2) ay))))) rfl)
     (aG (gg eW rfl (rV (dE (bv 4))) (ir (i:=10) mY.nd rfl (ax rfl))
      (aG (qe (i:=7) rfl (by first | exact ax rfl | exact bV (ax rfl)) (eI [("_law_told_here",0)] ["_law_x","_law_y"] rfl (BY rfl T.DL (aj (bv 10) (aj (bv 9) ay))) (λ_ _ _ _=>(zK (i1:=1) (i2:=2) (show(["_law_told_here","_law_x","_law_y"]:List Str).Nodup by decide +kernel))) (λ_ _ _ _=>eZ) (λ_ _ _ _=>(cA T.Ua (aI2 T) hr (aj (bv 0) (aj (bv 1) (aj (bv 2) ay))))) rfl)))))))
    (aG (aW (i:=4) mY.nd rfl (ax rfl) (em 7))))))))
   (aG (bc (em 4)))))),λds Q h=>?_⟩
  obtain⟨m,r,n,B,rfl,hm,S,hn,hq,q⟩:=h
  have eD:=(dm hm).lo
  have tJ:=(dm hm).hi
  have Us:=Hg m hm
  have m0:=bS m hm
  have hR:=S.rows hm
  refine az λU hU=>?_
  walk_at"l3"
  refine hU _ ?_
  clear hU U
  refine az λU hU=>?_
  walk_at"l3"
  refine⟨by decide,⟨by omega,by omega,by omega⟩,by decide,?_⟩
  rw[iJ,show aF (aK n 0)=au (aK n 0) by unfold au;rw[kj];rfl,S.len]
  refine hU _ ?_
  clear hU U
  have lR:=mi (m:=m) (r:=r) (n:=n) (T:=B)
  have rn:=S.le
  refine az λU hU=>?_
  walk_at"l3"
  refine⟨_,_,⟨rfl,rfl⟩,⟨by omega,by omega,by omega,by omega⟩,?_⟩
  refine gu.mk (λi δ=>∃o5 o6 o7 o8 o9 mm,δ=[some (dG m),some (D.int n),some (D.lst false (aw false B)),some (D.int r),some (D.lst true (aw true (fF m n ((dv m r n B).take i)))),o5,o6,o7,o8,o9,mm]) ⟨_,_,_,_,_,_,rfl⟩ ?_ ?_
  ·rintro i d δ hd ⟨o5,o6,o7,o8,o9,mm,rfl⟩
   obtain⟨hi,rfl⟩:=b65 hd
   clear hd hU
   simp only[gN,fm,fk]
   have Af:i<n-r:=by omega
   refine az λU hU=>?_
   walk_at"l3"
   refine fB B (λl=>D.lst false (au l)) (λl=>D.int ((aS m 0 (cf l (r+i)):Nat):Int)) (by rw[eP];rfl) (λa b h=>oq a b h) (λl hl=>?_) (.inr λ_ _=>rfl) (by rw[sL,S.len];omega) ?_
   ·have ll:=(S.rt l hl).1
    walk_at"l3"
    refine⟨_,show fq (au l) ((r:Int)+(i:Int))=_ from oo (by omega) (by omega),?_⟩
    rw[show((r:Int)+(i:Int)).toNat=r+i by omega]
    exact⟨m,_,rfl,m0,rfl,rfl⟩
   dsimp only[fm,fk,qT,qS]
   refine⟨_,_,⟨rfl,rfl⟩,⟨by omega,by omega,by omega,by omega⟩,?_⟩
   rw[show((n:Int)-(r:Int)).toNat=n-r by omega]
   refine fB (aM (n-r)) (λ(k:Nat)=>D.int ((r:Int)+(k:Int))) (λ(k:Nat)=>D.int (((if r+k=r+i then 1 else 0:Nat):Nat):Int)) ?_ (λa b h=>by injection h;omega) (λk hk=>?_) (.inr λ_ _=>rfl) (by rw[cq,sL];omega) ?_
   ·rw[bW];rfl
   ·walk_at"l3"
    by_cases c:r+k=r+i
    ·rw[if_pos (by omega),if_pos c];rfl
    ·rw[if_neg (by omega),if_neg c];rfl
   dsimp only
   rw[show tY (λl=>D.int ((aS m 0 (cf l (r+i)):Nat):Int)) B++tY (λ(k:Nat)=>D.int (((if r+k=r+i then 1 else 0:Nat):Nat):Int)) (aM (n-r))=au (jC m r n B (r+i)) by
    unfold jC
    rw[du,dS,bW,bW,List.range'_eq_map_range,bW];rfl]
   refine⟨⟨by rw[aY,aY,cq,S.len];omega,de.mpr λd hd=>by obtain⟨_,_,rfl⟩:=aX.mp hd;rfl,de.mpr λd hd=>by obtain⟨_,_,rfl⟩:=aX.mp hd;rfl⟩,?_⟩
   simp only[fm,fk]
   refine hU _ ?_
   clear hU U
   obtain⟨rl,U4⟩:(jC m r n B (r+i)).length=n/\AllLt (aa m) (jC m r n B (r+i)):=by
    rw[<-C6 Af];exact hR _ (bZ (by rw[lR];exact Af) [])
   have et:fF m n ((dv m r n B).take (i+1))=jB (aa m) (λa w r=>cU (gp m) w (r.map (gm m a))) (fF m n ((dv m r n B).take i)) (jC m r n B (r+i)):=by
    unfold fF
    rw[kY,aQ (by rw[lR];exact Af),AF,<- zF (T:=dv m r n B) (by rw[lR];exact Af),C6 Af];rfl
   rw[et]
   have wl:(fF m n ((dv m r n B).take i)).length*aa m<=64:=by
    unfold fF
    rw[HX,kT,Ml,<- iZ,fJ]
    exact dy (mq (by omega) (by omega)) hq
   have ww:∀w∈fF m n ((dv m r n B).take i),w.length=n:=by
    unfold fF
    refine Rl (n:=n) (λw=>w.length=n) _ _ (λa w r' _ hw bo=>?_) λw hw=>by rw[dR.mp hw,dA]
    show(cU _ w (r'.map _)).length=n
    rw[kh,aY,hw,(hR r' (tX bo)).1,pq]
   have wl':(fF m n ((dv m r n B).take i)).length<=64:=dy (Wt _ (by omega)) wl
   generalize fF m n ((dv m r n B).take i)=ws at wl wl' ww ⊢
   generalize jC m r n B (r+i)=row at rl U4 ⊢
   refine az λU hU=>?_
   walk_at"l3"
   refine⟨by decide,hU _ ?_⟩
   clear hU
   refine⟨_,rfl,?_⟩
   rw[eN,eP]
   simp only[fm,fk]
   refine az λU hU=>?_
   walk_at"l3"
   refine⟨m,rfl,by omega,by omega,_,rfl,⟨by omega,by omega⟩,?_⟩
   refine vK (λa δ=>∃o8 o9 mm,δ=[some (dG m),some (D.int n),some (D.lst false (aw false B)),some (D.int r),some (D.lst false (aw false ws)),some (D.int ((r:Int)+(i:Int))),some (D.lst true (au row)),some (D.lst true (aw true (jB a (λa w r=>cU (gp m) w (r.map (gm m a))) ws row))),o8,o9,mm]) ⟨_,_,_,rfl⟩ ?_ ?_
   ·rintro a δ ha ⟨o8,o9,mm,rfl⟩
    simp only[gN,fm,fk]
    clear hU
    refine az λU hU=>?_
    walk_at"l3"
    refine fB row (λ(x:Nat)=>D.int (x:Int)) (λ(x:Nat)=>D.int ((gm m a x:Nat):Int)) (qj _) l6 (λx hx=>?_) (.inr λ_ _=>rfl) (by rw[sL];omega) ?_
    ·walk_at"l3"
     exact⟨m,a,x,rfl,hm,ha,U4 x hx,rfl⟩
    dsimp only[fm,fk]
    rw[show row.map (λ(x:Nat)=>D.int ((gm m a x:Nat):Int))=au (row.map (gm m a)) by rw[du,bW];rfl]
    refine hU _ ?_
    clear hU
    have CZ:(row.map (gm m a)).length=n:=by rw[aY,rl]
    rw[Rk]
    have lc:=HW (λa w r=>cU (gp m) w (r.map (gm m a))) ws row a
    have lm:a*ws.length<=64:=dy (Nat.mul_le_mul_right _ (oU ha)) (by rw[kU];exact wl)
    generalize jB a (λa w r=>cU (gp m) w (r.map (gm m a))) ws row=W at lc ⊢
    generalize row.map (gm m a)=tm at CZ ⊢
    walk_at"l3"
    refine gu.mk (λj δ=>∃o8 mm,δ=[some (dG m),some (D.int n),some (D.lst false (aw false B)),some (D.int r),some (D.lst false (aw false ws)),some (D.int ((r:Int)+(i:Int))),some (D.lst true (au row)),some (D.lst true (aw true (W++(ws.take j).map λw=>cU (gp m) w tm))),o8,some (D.lst true (au tm)),mm]) ⟨_,_,by rw[List.take_zero,kg,eU]⟩ ?_ ?_
    ·rintro j d δ hd ⟨o8,mm,rfl⟩
     obtain⟨hj,rfl⟩:∃hj:j<ws.length,d=.lst false (au ws[j]):=by
      unfold aw at hd
      rw[cB]at hd
      by_cases hj:j<ws.length
      ·rw[aQ hj]at hd;exact⟨hj,(cT hd).symm⟩
      ·rw[fY (by omega)]at hd;cases hd
     clear hd
     have lw:=ww _ (eB hj)
     rw[show ws.take (j+1)=ws.take j++[ws[j]] by rw[kY,aQ hj];rfl,dS,<- dO]
     have lj:(W++(ws.take j).map λw=>cU (gp m) w tm).length<=200:=by rw[cy,aY,fJ];omega
     generalize W++(ws.take j).map (λw=>cU (gp m) w tm)=Y at lj ⊢
     generalize ws[j]=v at lw ⊢
     simp only[gN,fm,fk]
     walk_at"l3"
     refine⟨⟨_,rfl⟩,_,_,rfl,rfl,Hl (gp m) (λx _ y _=>?_) (by omega) ?_⟩
     ·simp only[iV]
      walk_at"l3"
      exact⟨m,x,y,rfl,m0,rfl⟩
     ·refine⟨_,rfl,by rw[jy];omega,o8,some (D.lst false (au v)),?_⟩
      rw[<-s9]
      rfl
    ·rintro δ ⟨o8,mm,rfl⟩
     rw[jy,qQ]
     exact⟨_,_,_,rfl⟩
   ·rintro δ ⟨o8,o9,mm,rfl⟩
    refine hU _ ?_
    clear hU
    walk_at"l3"
    exact⟨_,_,_,_,_,_,rfl,rfl,rfl,rfl,rfl,rfl⟩
  ·rintro δ ⟨o5,o6,o7,o8,o9,mm,rfl⟩
   refine hU _ ?_
   walk_at"l3"
   rw[aY,cq,tW (by rw[lR];omega)]
   exact q
noncomputable abbrev aA3(t:gb):bh:=λds Q=>∃(m:Bool × Nat) (n:Nat),ds=[fD t.aL t.aP m,.int n]/\m∈av/\2<=n/\n<=24/\Q (.lst true (aw true (dJ m n)))
theorem aA4(T:Txt K mg t):aO P w K mg base aZ 2 t.Tp t.Tq ["field","length"] (bq (aA3 t)):=by
 refine bO T.DB.F RG ?_ ?_
 ·intro ds Q h
  obtain⟨m,n,rfl,hm,h2,KD,q⟩:=h<;>rfl
 ·intro aH A outer s H E hr
  refine⟨_,(aA (aW (i:=2) RG.nd rfl (bV rfl) (oj (P:=P) (w:=w) (K:=K) (mg:=mg) (base:=base) (n:=1) (bv 0) (hr.mono (by decide)) (aj (ae ao) (aj (ae ao) ay))))
   (aG (bc (eI [("less_one",2),("length",1)] ["i"] rfl (mL rfl T.gY (aj (ae (aD gQ (bv 1) (ae ao))) ay)) (λ_ _ _ _=>(fg (i:=2) (show(["less_one","length","i"]:List Str).Nodup by decide +kernel))) (λ_ _ _ _=>eZ) (λ_ _ _ _=>(aD cS (ae (aD cS (ae (aD cS (ae (aD fQ (ae (cO (cw ao cm))) (bv 2))) (ae (cO (cw ao cm))))) (ae (aD fQ (ae (cO (cw ao cm))) (ae (aD gQ (ae (aD gQ (bv 1) (ae ao))) (bv 2))))))) (cu3 (aj (bv 0) ay)))) rfl)))),λds Q h=>?_⟩
  obtain⟨m,n,rfl,hm,h2,KD,q⟩:=h
  have m0:=bS m hm
  have eD:=(dm hm).lo
  obtain⟨C,ns,zs,sp,e1,e2,e3,e4⟩:=UJ (P:=P) (w:=w) (base:=base) T m0
  refine az λU hU=>?_
  walk_at"l3"
  refine⟨C,ns,zs,sp,e1,e2,e3,e4 0 1 _ ?_⟩
  rw[(iW hm (show 0<aa m by omega) (show 1<aa m by omega)).1]
  refine hU _ ?_
  clear hU U e1 e2 e3 e4
  walk_at"l3"
  refine⟨⟨by omega,by omega⟩,fB (aM (n-1)) (λ(i:Nat)=>D.int (i:Int)) (λi=>D.lst true (au (kN m n i))) (Ct _ (by omega)) l6 (λi hi=>?_) (.inr λ_ _=>l8 _) (by rw[cq,sL];omega) ?_⟩
  ·have hi:=bK.mp hi
   walk_at"l3"
   unfold kN
   have zn:∀k:Nat,aF (aK k (0:Int))=au (aK k 0):=λk=>by unfold au;rw[kj];rfl
   rw[iJ,show((n:Int)-2-(i:Int)).toNat=n-2-i by omega,zn,zn,show [D.int 1]=au [1] from rfl,show [D.int ((aS m 0 1:Nat):Int)]=au [aS m 0 1] from rfl,qk,qk,qk,nZ,nZ,iy,iy]
   simp only[cy,dA,kT]
   exact⟨by decide,⟨by omega,by omega,by omega⟩,by decide,by omega,by decide,⟨by omega,by omega,by omega⟩,⟨by omega,trivial⟩,by decide,⟨by omega,trivial⟩,trivial⟩
  ·rw[show((aM (n-1)).map λi=>D.lst true (au (kN m n i)))=aw true (dJ m n) by unfold aw dJ;rw[bW];rfl]
   exact q
noncomputable abbrev bm2(t:gb):List D->List Str->List D->Prop:=λds ns xs=>∃(m:Bool × Nat) (n:Nat),ds=[fD t.aL t.aP m,.int n]/\m∈av/\2<=n/\n<=24/\ns=qB/\xs=oI t.aL t.aP true m (dJ m n)
theorem ax4(T:Txt K mg t)(hB:Bm mg base):aO P w K mg base aZ 5 t.JJ t.Tr ["self","field","length"] (HN [t.jE,t.jF] t.dw (bm2 t)):=by
 refine T.Uc.F.ok au7 (λvs H Q E h=>?_) λaH A outer s H vs Q E hr h=>?_
 ·obtain⟨F,H0,x,dx,b9,ds,ns,xs,rfl,_,_,_,_,_,r,⟨m,n,rfl,_⟩,_⟩:=h
  have:=r.length
  simp at this
  simp[this]
 obtain⟨F,H0,x,dx,b9,ds,ns,xs,rfl,tb,e0,iT,s0,hx,r,⟨m,n,rfl,hm,h2,KD,rfl,rfl⟩,q⟩:=h
 obtain⟨g1,g2,g3⟩:=qD hm h2
 obtain⟨vf,U3,B1,B2,rfl,hB,rf,r2⟩:=R.dj r
 obtain⟨rfl,rfl⟩:=tV.mp hB.symm
 obtain rfl:U3=[.int n]:=by
  cases r2 with
  | int r=>cases r;rfl
 refine⟨_,fK (uk (PW.pt (MA (Fd MH (pv 2) pI (bL _)) (Bb (Fd MI (pv 2) pI (bL _))))) (kr xG) q0)
  (kr (uj (Q0 (E:=E0) T.Ug ((UK T).mono (by decide)) hr T.JP.b dX rfl T.DM (b8 (pv 0) (b8 (pv 1) (b8 (jh ((aA4 T).mono (by decide)) hr rfl T.DB.g T.DB.F.kp T.DB.b .nil dX (b8 (pv 1) (b8 (pv 2) eX))) eX)))))),?_⟩
 try dsimp only[lY,lZ]
 refine⟨.int n,rfl,_,_,rfl,rfl,_,rfl,?_⟩
 rw[decide_eq_false (by omega)]
 refine jm ?_
 refine⟨.int n,rfl,_,_,rfl,rfl,_,rfl,?_⟩
 rw[decide_eq_false (by omega)]
 refine jm ?_
 have e:=e0.trans s0
 refine⟨.ref x,rfl,vf,rfl,vf,rfl,.int n,rfl,F,[fD t.aL t.aP m,.int n],λd=>d=.lst true (aw true (dJ m n)),e,R.cons (A:=[]) (rf.shared (L3.af.refl _) s0) (.int .nil),⟨m,n,rfl,hm,h2,KD,rfl⟩,λd v F1 H1 A1 hd fG DV UL UM r1 UN Kr=>?_⟩
 subst hd
 obtain⟨pc,rfl⟩:=zH r1
 have cV:=fG.get _ _ hx rfl
 have fR:∀X:List (List Nat),[D.lst true (aw true X)].all D.fr=true:=λX=>by rw[dB,fM,qw];rfl
 have DW:∀X:List (List Nat),[D.lst true (aw true X)].map D.sh=[D.lst false (aw false X)]:=λX=>by rw[da,eN,eP];rfl
 have r1:=r1.rK (fR _) DV
 have U5:=s0.trans fG
 have xA:x ∉ A1:=λz=>by rw[Kr x z]at hx;cases hx
 have s2:L3.af H0 (L3.bu H0 H1 A1):=js U5
 have e2:=e0.trans s2
 have r2:R F (L3.bu H0 H1 A1) [.lst true (aw true (dJ m n))] [.ref pc] A1:=cl9 r1 λa ha=>by unfold L3.bu;rw[if_pos ha]
 refine⟨L3.bu F (L3.bu H0 H1 A1) A1,L3.bu H0 H1 A1,x,dx,t.dw,vf,.ref pc,m,dJ m n,[],rfl,rH e2,by rw[rJ xA];exact iT,rH U5,cV,.nil,⟨T.J5,T.DG,T.DH,T.J7,T.DJ,T.J8,T.DI⟩,rf.shared (js e2) s2,DW _ ▸ r2.bu e2 A1 λ_ h=>h,hm,by rw[g3];exact g1,by omega,by omega,λH' p1 p2 p3 B1 B2 B3 sx dD k1 k2 k3 nd fr=>?_⟩
 have z:=(fG.x (x:=x)).trans sx
 have so:=bR.of0 iT s0 z
 refine q H' [vf,.int (ag (dJ m n):Nat),.ref p1,.ref p2,.ref p3,.int ((bJ m (dJ m n)).length:Nat)] (B1++(B2++(B3++[]))) z dD rfl ?_ ?_ ?_
 ·have up:∀{ds:List D} {vs:List V} {B:List Addr},R (λ_=>none) H' ds vs B->(∀a∈B,H1 a=none)->R F H' ds vs B:=λr h=>r.keep (L3.af.of λb o e=>by cases e) (gq.same (L3.af.refl _)) gP.nil (λa ha=>e.free (fG.free (h a ha))) (by simp)
  exact R.cons (A:=[]) (rf.shared (L3.af.refl _) so) (.int (R.cons (up k1 λa ha=>fr a (e7 _ ha)) (R.cons (up k2 λa ha=>fr a (dM _ (e7 _ ha))) (R.cons (up k3 λa ha=>fr a (dM _ (dM _ ha))) (.int .nil)))))
 ·rw[eU];exact nd
 ·rw[eU]
  intro a ha
  exact fG.free (fr a ha)
noncomputable def w4(c k:Int):Int:=(c%999983+7*k+1)*(k*k+48271)%1000003
noncomputable abbrev aF1:bh:=λds Q=>∃(c k:Int),ds=[.int c,.int k]/\0<=k/\k<=100000/\Q (.int (w4 c k))
theorem aF2(T:Txt K mg t):aO P w K mg base aZ 1 t.Ts t.Tt ["_law_cell_here","_law_k"] (bq (aF1 )):=by
 refine bO T.Ud.F aD4 ?_ ?_
 ·intro ds Q h
  obtain⟨c,k,rfl,k0,k1,q⟩:=h<;>rfl
 ·intro aH A outer s H E hr
  refine⟨_,(aG (bc (aD eO (ae (aD fQ (ae (aD cS (ae (aD cS (ae (aD eO (bv 0) (ae ao))) (ae (aD fQ (ae ao) (bv 1))))) (ae ao))) (ae (aD cS (ae (aD fQ (bv 1) (bv 1))) (ae ao))))) (ae ao)))),λds Q h=>?_⟩
  obtain⟨c,k,rfl,k0,k1,q⟩:=h
  walk_at"l3"
  have c0:=jK c (show(999983:Int)≠0 by decide)
  have c1:=kZ c (show(0:Int)<999983 by decide)
  exact⟨by decide,jO.ok (.inl ⟨by decide,by decide⟩),jO.ok (.inl ⟨by omega,by omega⟩),jO.ok (.inl ⟨by omega,by omega⟩),by decide,q⟩
noncomputable abbrev aF3:bh:=λds Q=>∃i:Int,ds=[.int i]/\Q (.bl true)
theorem aF4(T:Txt K mg t):aO P w K mg base aZ 1 t.Tu t.Tv ["_law_x"] (bq (aF3 )):=by
 refine bO T.Ue.F aD5 ?_ ?_
 ·intro ds Q h
  obtain⟨i,rfl,q⟩:=h<;>rfl
 ·intro aH A outer s H E hr
  refine⟨_,(aG (bc (rP (ae (yv (by rfl) T.qH (by rfl) T.DK BB (bv 0))) (xF (Gg (ae (yv (by rfl) T.qH (by rfl) T.Ui NI (bv 0)))))))),λds Q h=>?_⟩
  obtain⟨i,rfl,q⟩:=h
  walk_at"l3"
  exact q
theorem cm6{m:Bool × Nat}(hm:m∈av){n:Nat}(h2:2<=n)(tM:n<=64):cZ m (dJ m n)/\ag (dJ m n)=n/\(bJ m (dJ m n)).length=1/\fw n (eA m n (bx m (dJ m n)))=1::(aK (n-1) 0++[aa m-1]):=by
 obtain⟨g1,g2,g3⟩:=qD hm h2
 have hc:=(D0 hm (by rw[g3];exact g1) (by omega) (by omega)).1
 have hs:(bJ m (dJ m n)).length=1:=by
  unfold bJ
  rw[ck5 hm h2,g3,b38 hm h2];rfl
 obtain⟨a,b,c⟩:=co0 hc (by omega) (by rw[g3];exact cn5 hm h2) hs
 rw[g3]at a b c
 refine⟨hc,g3,hs,j7 (w:=n+1) (oK ..) (by rw[gJ,cy,dA];simp;omega) λj hj=>?_⟩
 rw[C2 _ (by omega)]
 cases j with
 | zero=>exact a
 | succ j =>
  rw[ck4,mX,dA]
  by_cases z:j<n-1
  ·rw[if_pos z,cz5,c (j+1) (by omega) (by omega)]
  ·rw[if_neg z,show j-(n-1)=0 by omega,show j+1=n by omega]
   show _=aa m-1
   omega
theorem cs6{m:Bool × Nat}(hm:m∈av)(tM:aa m=64):cZ m [[0,0]]/\(bJ m [[0,0]]).length=2/\fw 2 (eA m 2 (bx m [[0,0]]))=[1,126,3969]:=by
 have rG:RT (aa m) (ag [[0,0]]) [[0,0]]:=λr hr=>by
  rw[dR.mp hr]
  exact⟨rfl,λa ha=>by simp at ha;omega⟩
 have hc:=(D0 hm rG (by decide) (by decide)).1
 have ew:bx m [[0,0]]=[[1,0],[0,1]]:=rfl
 have hb:m.1=true:=(show ∀m∈av,aa m=64->m.1=true by decide) m hm tM
 have h0:=bS m hm
 have g0:∀a,aS m 0 a=a:=λa=>by
  obtain⟨k,p⟩:=m
  cases hb
  unfold aS
  show((0 ^^^ a:Nat):Int).toNat=a
  rw[mx];rfl
 refine⟨hc,rfl,?_⟩
 have e:eA m 2 (bx m [[0,0]])=((aM 64).map λb=>(aM 64).map λa=>[a,b]).flatten:=by
  have:=cg3 hc ew
  rw[show ag [[0,0]]=2 from rfl]at this
  rw[this,tM]
  congr 1
  refine i6 λb lW=>i6 λa ha=>?_
  have lW:=bK.mp lW
  have ha:=bK.mp ha
  rw[g0,g0]
  refine j7 (w:=2) (oJ ..) rfl λp hp=>?_
  rw[Ra hc ew (show p<ag [[0,0]] from hp)]
  match p,hp with
  | 0,_=>show gp m (gm m a 1) (gm m b 0)=a;rw[kJ (by omega),iB _ _ h0,om (by omega)]
  | 1,_=>show gp m (gm m a 0) (gm m b 1)=b;rw[kJ (by omega),iB _ _ h0,wo (by omega)]
 rw[e]
 decide +kernel
noncomputable def oS(M:Nat)(c:Int)(r n i:Nat):List Nat:=(aM r).map (λp=>if p=i then 1 else 0)++(aM (n-r)).map λ(q:Nat)=>(w4 c (16*(i:Int)+((r:Int)+(q:Int)))/5%(M:Int)).toNat
noncomputable def mn(M:Nat)(c:Int)(r n k:Nat):List (List Nat):=(aM k).map (oS M c r n)
theorem ce2{m:Bool × Nat}(hm:m∈av){c:Int}{r n i:Nat}(h:r<=n):(oS (aa m) c r n i).length=n/\AllLt (aa m) (oS (aa m) c r n i):=by
 have lo:=lo1 hm
 unfold oS
 refine⟨by rw[cy,aY,aY,cq,cq];omega,λa ha=>?_⟩
 rcases bP.mp ha with z | z
 ·obtain⟨p,_,rfl⟩:=aX.mp z
  show(if p=i then 1 else 0)<_
  split<;>omega
 ·obtain⟨q,_,rfl⟩:=aX.mp z
  have n0:=jK (w4 c (16*(i:Int)+((r:Int)+(q:Int)))/5) (show(aa m:Int)≠0 by omega)
  have n1:=kZ (w4 c (16*(i:Int)+((r:Int)+(q:Int)))/5) (show 0<(aa m:Int) by omega)
  show k9 _<_
  omega
theorem b26{m:Bool × Nat}(hm:m∈av){c:Int}{r n:Nat}(h:r<=n):Sys m r n (mn (aa m) c r n r) where
 len:=by unfold mn;rw[aY,cq]
 rt:=λx hx=>by
  obtain⟨i,_,rfl⟩:=aX.mp hx
  exact ce2 hm h
 le:=h
 unit:=λi j hi hj=>by
  unfold mn
  rw[kK (oS (aa m) c r n) (by rw[cq];exact hi) 0 [],aJ,jJ hi]
  unfold oS
  rw[mX,if_pos (by rw[aY,cq];exact hj),ph,CJ _ hj]
  by_cases e:i=j
  ·rw[if_pos e,if_pos e.symm]
  ·rw[if_neg e,if_neg λz=>e z.symm]
theorem cB3(T:Txt K mg t)(hB:Bm mg base):aO P w K mg base aZ 11 t.Tw t.Tx ["_law_script"] (vY [t.jE,t.jF] (bq (OH ))):=by
 refine G5 T.de4.F jD ?_ ?_
 ·intro ds Q h
  obtain⟨ns,rfl,hl,q⟩:=h<;>rfl
 ·intro aH A outer s H E hT hr
  refine⟨_,(aA (aW (i:=1) jD.nd rfl (ax rfl) (cA T.TC (aG9 T) hr (aj (ae (cA T.mj (m4 T) hr (aj (bv 0) (aj (ae ao) ay)))) ay)))
   (aA (aW (i:=2) jD.nd rfl (ax rfl) (Pz hT ((aE0 T hB).mono (by decide)) hr rfl T.Dt.g T.Dt.F.kp T.Dt.b dX (aj (bv 1) ay)))
   (aA (aW (i:=3) jD.nd rfl (bV rfl) (cA T.Du (Ko T) hr (aj (bv 1) ay)))
   (aA (aW (i:=4) jD.nd rfl (ax rfl) (aD eO (ae (cA T.mj (m4 T) hr (aj (bv 0) (aj (ae ao) ay)))) (ae ao)))
   (aA (dZ (cH (fS (dF hr)) (bv 4) (ae ao) (bL _)) (aA (aW (i:=5) jD.nd rfl (ax rfl) (aD cS (ae ao) (ae (aD eO (ae (cA T.mj (m4 T) hr (aj (bv 0) (aj (ae ao) ay)))) (ae ao)))))
    (aG (bc (pY (fS (dF hr)) (ae (mK (sM ((Ae T).mono (by decide))) hr rfl T.iF.g T.iF.F.kp T.iF.b sJ (aj (ae (CQ hT T.J6 ((ax4 T hB).mono (by decide)) hr rfl T.Kh T.Uc.b dX (aj (bv 2) (aj (bv 5) ay)))) ay))) (ae (aD cS (ae (aD cS (ae (cO (cw ao cm))) (ae (aD fQ (ae (cO (cw ao cm))) (ae (aD gQ (bv 5) (ae ao))))))) (ae (cO (cw (aD gQ (bv 3) (ae ao)) cm))))) (bL _))))) dY)
   (aA (dZ (PW.pt (Ge (cH (fS (dF hr)) (bv 4) (ae ao) (bL _)) (Mz (cH yp (bv 3) (ae ao) (bL _))))) (aG (bc (Pz hT ((aB9 T hB).mono (by decide)) hr rfl T.DA.g T.DA.F.kp T.DA.b dX (aj (bv 2) (aj (bv 3) ay))))) dY)
   (aA (dZ (PW.pt (Ge (cH (fS (dF hr)) (bv 4) (ae ao) (bL _)) (Ge (cH (fS (dF hr)) (bv 3) (ae ao) (bL _)) (Mz (cH (fS (dF hr)) (ae (aD eO (ae (cA T.mj (m4 T) hr (aj (bv 0) (aj (ae ao) ay)))) (ae ao))) (ae ao) (bL _)))))) (aG (bc (pY (fS (dF hr)) (ae (mK (sM ((Ae T).mono (by decide))) hr rfl T.iF.g T.iF.F.kp T.iF.b sJ (aj (ae (CQ hT T.zT ((KA T hB).mono (by decide)) hr rfl T.z7 T.Dz.b dX (aj (bv 2) (aj (HL (cO (cw (cO (cw ao (cw ao cm))) cm))) ay)))) ay))) (ae (cO (cw ao (cw ao (cw ao cm))))) (bL _)))) dY)
   (aA (aW (i:=6) jD.nd rfl (ax rfl) (cA T.TK (aE2 T) hr (aj (bv 0) (aj (bv 1) ay))))
   (aA (aW (i:=7) jD.nd rfl (ax rfl) (cO cm))
   (aA (gg eW rfl (mL rfl T.gY (aj (bB (bv 6) (ae ao) (λ_ _=>rfl)) ay)) (ir (i:=8) jD.nd rfl (bV rfl))
    (aA (Qt (i:=9) jD.nd rfl (ax rfl) [("_law_many_here",3),("_law_script",0),("_law_i",8)] ["_law_at"] rfl (rW rfl T.gY (aj (bB (bv 6) (ae ao) (λ_ _=>rfl)) (aj (bB (bv 6) (ae ao) (λ_ _=>rfl)) ay))) (λ_ _ _ _=>(fg (i:=3) (show(["_law_many_here","_law_script","_law_i","_law_at"]:List Str).Nodup by decide +kernel))) (λ_ _ _ _=>eZ) (λ_ _ _ _=>(aD eO (ae (aD yn (ae (cA T.Ud (aF2 T) hr (aj (ae (cA T.mj (m4 T) hr (aj (bv 1) (aj (ae ao) ay)))) (aj (ae (aD cS (ae (aD fQ (ae ao) (bv 2))) (bv 3))) ay)))) (ae ao))) (bv 0))) rfl)
    (aG (qe (i:=7) rfl (by first | exact ax rfl | exact bV (ax rfl)) (aD cS (ae (eI [("_law_i",8)] ["_law_at"] rfl (mL rfl T.gY (aj (bB (bv 6) (ae ao) (λ_ _=>rfl)) ay)) (λ_ _ _ _=>(fg (i:=1) (show(["_law_i","_law_at"]:List Str).Nodup by decide +kernel))) (λ_ _ _ _=>eZ) (λ_ _ _ _=>(Gv Qa (by rfl) T.DK BB (aj (ae (pY (fS (dF hr)) (bv 1) (bv 0) (bL _))) ay))) rfl)) (bv 9))))))
   (aA (aW (i:=10) jD.nd rfl (bV rfl) (aD eO (ae (cA T.mj (m4 T) hr (aj (bv 0) (aj (ae ao) ay)))) (bB (bv 6) (ae ao) (λ_ _=>rfl))))
   (aA (aW (i:=11) jD.nd rfl (ax rfl) (CQ hT T.zT ((KA T hB).mono (by decide)) hr rfl T.z7 T.Dz.b dX (aj (bv 2) (aj (HL (eI [("_law_by",10)] ["_law_row"] rfl (iu (bv 7)) (λ_ _ _ _=>(fg (i:=1) (show(["_law_by","_law_row"]:List Str).Nodup by decide +kernel))) (λ_ _ _ _=>eZ) (λ_ _ _ _=>(aD cS (ae (sO (bv 1) (sE (bv 0)) sD)) (ae (sO (bv 1) sD (sE (bv 0)))))) rfl)) ay))))
   (aA (aW (i:=12) jD.nd rfl (ax rfl) (mK (sM ((Ae T).mono (by decide))) hr rfl T.iF.g T.iF.F.kp T.iF.b sJ (aj (bv 11) ay)))
   (aA (dZ (PW.pt (BJ (Gf (nL (ae (yv (by rfl) T.qH (by rfl) T.Uj NJ (bv 12))))) (Bb (Gf (nL (ae (fU (yu rfl) (by rfl) T.zZ x6 (aj (ae (eI [] ["_law_x"] rfl (iu (bv 12)) (λ_ _ _ _=>(fg (i:=0) (show(["_law_x"]:List Str).Nodup by decide +kernel))) (λ_ _ _ _=>eZ) (λ_ _ _ _=>(cA T.Ue (aF4 T) hr (aj (bv 0) ay))) rfl)) ay)))))))) (aG (bc nJ)) dY)
   (aA (aW (i:=13) jD.nd rfl (ax rfl) (cA T.T7 (aC8 T) hr (aj (ae (cA T.Ub (aF0 T) hr (aj (bv 1) (aj (bB (bv 6) (ae ao) (λ_ _=>rfl)) (aj (bv 7) ay))))) (aj (bB (bv 6) (ae ao) (λ_ _=>rfl)) ay))))
   (aA (dZ (cH (mQ (dF hr)) (bv 12) (bv 13) (bL _)) (aG (bc nJ)) dY)
   (aA (qe (i:=12) rfl (by first | exact ax rfl | exact bV (ax rfl)) ao)
   (aA (yx (i:=12) rfl (by first | exact ax rfl | exact bV (ax rfl)) ao (ae ao))
   (aG (bc (pY (fS (dF hr)) (ae (mK (sM ((Ae T).mono (by decide))) hr rfl T.iF.g T.iF.F.kp T.iF.b sJ (aj (bv 11) ay))) (bv 13) (bL _)))))))))))))))))))))),λds Q h=>?_⟩
  obtain⟨ns,rfl,hl,q⟩:=h
  refine az λU hU=>?_
  walk_at"l3"
  refine⟨ns,0,rfl,by decide,_,rfl,rfl,hU _ ?_⟩
  clear hU U
  generalize U6:qu (ns.getD (k9 0) 0)=m
  have hm:m∈av:=by rw[<-U6];exact b48 _
  clear U6
  have hF:=dm hm
  have eD:=hF.lo
  have tJ:=hF.hi
  have Us:=Hg m hm
  refine az λU hU=>?_
  walk_at"l3"
  refine⟨m,rfl,hm,hU _ ?_⟩
  clear hU U
  refine az λU hU=>?_
  walk_at"l3"
  refine⟨m,rfl,by omega,by omega,hU _ ?_⟩
  clear hU U
  refine az λU hU=>?_
  walk_at"l3"
  refine⟨ns,3,rfl,by decide,by decide,hU _ ?_⟩
  clear hU U
  generalize ns.getD (k9 3) 0%6=kd
  refine az λU hU=>?_
  walk_at"l3"
  have st1:U [some (D.fz (aF ns)),some (dG m),some (fD t.aL t.aP m),some (D.int (aa m)),some (D.int kd),none,none,none,none,none,none,none,none,none]:=by
   refine hU _ ?_
   clear hU U
   refine az λU hU=>?_
   walk_at"l3"
   have pK:U [some (D.fz (aF ns)),some (dG m),some (fD t.aL t.aP m),some (D.int (aa m)),some (D.int kd),none,none,none,none,none,none,none,none,none]:=by
    refine hU _ ?_
    clear hU U
    refine az λU hU=>?_
    walk_at"l3"
    have uo:U [some (D.fz (aF ns)),some (dG m),some (fD t.aL t.aP m),some (D.int (aa m)),some (D.int kd),none,none,none,none,none,none,none,none,none]:=by
     refine hU _ ?_
     clear hU U
     refine az λU hU=>?_
     walk_at"l3"
     refine⟨m,ns,rfl,hm,λn r n2 n8 r1 rn hp=>hU _ ?_⟩
     clear hU U
     refine az λU hU=>?_
     walk_at"l3"
     refine⟨by decide,hU _ ?_⟩
     clear hU U
     refine az λU hU=>?_
     walk_at"l3"
     refine⟨_,rfl,_,rfl,⟨by omega,by omega⟩,?_⟩
     generalize hc:ns.getD (k9 4) 0=c
     refine vK (λi δ=>∃o8 o9,δ=[some (D.fz (aF ns)),some (dG m),some (fD t.aL t.aP m),some (D.int (aa m)),some (D.int kd),none,some (D.tup [D.int n,D.int r]),some (D.lst true (aw true (mn (aa m) c r n i))),o8,o9,none,none,none,none]) ⟨_,_,rfl⟩ ?_ ?_
     ·rintro i δ hi ⟨o8,o9,rfl⟩
      simp only[gN,fm,fk]
      clear hU
      refine az λU hU=>?_
      walk_at"l3"
      refine⟨_,rfl,_,rfl,_,_,⟨rfl,rfl⟩,⟨by omega,by omega,by omega,by omega⟩,?_⟩
      rw[show((n:Int)-(r:Int)).toNat=n-r by omega]
      refine fB (aM (n-r)) (λ(k:Nat)=>D.int ((r:Int)+(k:Int))) (λ(q:Nat)=>D.int (((w4 c (16*(i:Int)+((r:Int)+(q:Int)))/5%(aa m:Int)).toNat:Nat):Int)) (by rw[bW];rfl) (λa b h=>by injection h;omega) (λk hk=>?_) (.inr λ_ _=>rfl) (by rw[cq,sL];omega) ?_
      ·have hk:=bK.mp hk
       walk_at"l3"
       refine⟨ns,4,rfl,by decide,jO.ok (.inl ⟨by omega,by omega⟩),_,_,rfl,by omega,by omega,?_⟩
       dsimp only
       rw[hc]
       refine⟨rfl,ym (by decide) (by decide),by omega,?_⟩
       rw[ua (jK _ (by omega))]
      simp only[fm,fk]
      refine hU _ ?_
      clear hU U
      walk_at"l3"
      refine⟨⟨_,rfl⟩,_,rfl,_,rfl,⟨by omega,by omega⟩,?_⟩
      refine fB (aM r) (λ(k:Nat)=>D.int (k:Int)) (λ(p:Nat)=>D.int (((if p=i then 1 else 0:Nat):Nat):Int)) (Ct _ rfl) l6 (λk hk=>?_) (.inr λ_ _=>rfl) (by rw[cq,sL];omega) ?_
      ·walk_at"l3"
       by_cases e:k=i
       ·rw[if_pos (by omega),if_pos e];rfl
       ·rw[if_neg (by omega),if_neg e];rfl
      dsimp only[qT,qS]
      refine⟨⟨by rw[aY,aY,cq,cq];omega,de.mpr λd hd=>by obtain⟨_,_,rfl⟩:=aX.mp hd;rfl,de.mpr λd hd=>by obtain⟨_,_,rfl⟩:=aX.mp hd;rfl⟩,_,rfl,by rw[jy];unfold mn;rw[aY,cq];omega,some (D.int i),some (D.lst true ((aM (n-r)).map λ(q:Nat)=>D.int (((w4 c (16*(i:Int)+((r:Int)+(q:Int)))/5%(aa m:Int)).toNat:Nat):Int))),?_⟩
      rw[show mn (aa m) c r n (i+1)=mn (aa m) c r n i++[oS (aa m) c r n i] by unfold mn;rw[ub,dS];rfl,<- s9]
      show _=[_,_,_,_,_,_,_,some (D.lst true (aw true (mn (aa m) c r n i)++[D.lst true (au (oS (aa m) c r n i))])),_,_,_,_,_,_]
      unfold oS
      rw[du,dS,bW,bW]
      rfl
     ·rintro δ ⟨o8,o9,rfl⟩
      refine hU _ ?_
      clear hU U
      have S:=b26 (m:=m) hm (c:=c) (oU rn)
      have wT:ag (mn (aa m) c r n r)=n:=CM S.rt λz=>by have:=S.len;rw[z]at this;exact absurd this (by show ¬ 0=r;omega)
      generalize mn (aa m) c r n r=B at S wT ⊢
      refine az λU hU=>?_
      walk_at"l3"
      obtain⟨b,eb,hb⟩:=wX (ns.getD (k9 5) 0) (show(0:Int)<n by omega)
      refine⟨ns,5,rfl,by decide,_,rfl,?_⟩
      dsimp only
      rw[eb]
      refine⟨by omega,hU _ ?_⟩
      clear hU U
      have lB:=S.len
      refine az λU hU=>?_
      walk_at"l3"
      refine fB B (λr=>D.lst false (au r)) (λr=>D.lst true (au (c9 b r))) (by rw[eP];rfl) (λa b h=>oq a b h) (λr bo=>?_) (.inr λr _=>l8 _) (by rw[sL];omega) ?_
      ·have ll:=(S.rt r bo).1
       walk_at"l3"
       rw[B0,GU]
       exact⟨by rw[fA,fJ];omega,rfl⟩
      have lG:(B.map (c9 b)).length=B.length:=aY ..
      have wG:ag (B.map (c9 b))=n:=CM (N:=aa m) (λx hx=>by
       obtain⟨y,hy,rfl⟩:=aX.mp hx
       exact⟨by rw[zM];exact(S.rt y hy).1,C4.mpr (S.rt y hy).2⟩) λz=>by rw[z]at lG;rw[<-lG]at lB;exact absurd lB (by show ¬ 0=_;omega)
      have rG:RT (aa m) (ag (B.map (c9 b))) (B.map (c9 b)):=λx hx=>by
       rw[wG]
       obtain⟨y,hy,rfl⟩:=aX.mp hx
       exact⟨by rw[zM];exact(S.rt y hy).1,C4.mpr (S.rt y hy).2⟩
      obtain⟨cG,sz⟩:=D0 hm rG (by omega) (by omega)
      obtain⟨Fb,eF⟩:=KC hm rG (by omega)
      obtain⟨nd,mw⟩:=S.db4 hm wT
      have pm:=b76 hm S.rt wT wG (by omega) cG nd mw
      have ec:=b25 (n:=n) pm
      have lw:(fF m n (dv m r n B)).length=aa m ^ (n-r):=by
       unfold fF
       rw[HX,kT,Ml,mi]
      have le:=pm.length_eq
      rw[aY,lw,HZ,iD]at le
      have ll:∀w∈fF m n (dv m r n B),w.length=n:=λw hw=>by rw[((mw w).mp hw).ln,wT]
      rw[show(D.lst true (tY (λr=>D.lst true (au (c9 b r))) B)).sh=D.lst false (aw false (B.map (c9 b))) by
       rw[eN,<- eP true]
       unfold aw
       rw[bW,bW,bW];rfl]
      refine⟨by rw[gO,s8];rfl,_,_,⟨m,B.map (c9 b),Fb,rfl,cG,by omega,by omega,by omega,by omega,eF,rfl,rfl⟩,?_⟩
      rw[dS,CT]
      show U [some (D.fz (aF ns)),some (dG m),some (fD t.aL t.aP m),some (D.int (aa m)),some (D.int kd),none,some (D.tup [D.int n,D.int r]),some (D.lst true (aw true B)),o8,o9,some (D.int b),some (gZ t m (B.map (c9 b)) (.CS Fb.length)),none,none]
      generalize B.map (c9 b)=G at *
      subst wG
      refine hU _ ?_
      clear hU U
      refine az λU hU=>?_
      walk_at"l3"
      rw[zJ]
      refine⟨m,G,_,rfl,cG,λ_=>⟨by rw[HP];rfl,hU _ ?_⟩,λz=>absurd z (by omega)⟩
      clear hU U
      rw[<-ec]
      have cl:=oK (ag G) (fF m (ag G) (dv m r (ag G) B))
      refine az λU hU=>?_
      walk_at"l3"
      refine fB (fw (ag G) (fF m (ag G) (dv m r (ag G) B))) (λ(i:Nat)=>D.int (i:Int)) (λ_=>D.bl true) (qj _) l6 (λi hi=>?_) (.inr λ_ _=>rfl) (by rw[sL];omega) ?_
      ·walk_at"l3"
       exact⟨_,rfl,rfl⟩
      refine⟨(fw (ag G) (fF m (ag G) (dv m r (ag G) B))).map λ_=>true,by unfold nR;rw[bW];rfl,?_⟩
      rw[show((fw (ag G) (fF m (ag G) (dv m r (ag G) B))).map λ_=>true).all id=true by simp,if_neg (by decide)]
      refine hU _ ?_
      clear hU U
      refine az λU hU=>?_
      walk_at"l3"
      refine⟨_,rfl,m,r,ag G,B,rfl,hm,S,by omega,hp,by rw[fM,qw,kX,nq],_,rfl,fF m (ag G) (dv m r (ag G) B),ag G,by rw[eN,eP];rfl,by omega,by omega,ll,by rw[l8,nq],hU _ ?_⟩
      clear hU U
      refine az λU hU=>?_
      walk_at"l3"
      refine hU _ ?_
      clear hU U
      refine az λU hU=>?_
      walk_at"l3"
      refine⟨⟨_,rfl⟩,by omega,hU _ ?_⟩
      clear hU U
      refine az λU hU=>?_
      walk_at"l3"
      refine⟨_,0,rfl,Cr (by omega) (by rw[cy];exact ET _),hU _ ?_⟩
      clear hU U
      walk_at"l3"
      rw[zJ]
      refine⟨m,G,_,rfl,cG,λ_=>⟨by rw[HP];rfl,?_⟩,λz=>absurd z (by omega)⟩
      rw[<-ec,(wq true true _ _).trans (decide_eq_true rfl)]
      exact⟨sX 5 true _,q⟩
    split
    ·split
     ·rename_i tM
      refine⟨ns,4,rfl,by decide,?_⟩
      dsimp only
      refine⟨by decide,?_⟩
      split
      ·obtain⟨hc,hs,ec⟩:=cs6 hm (show aa m=64 by omega)
       obtain⟨Fb,eF⟩:=KC hm hc.rt (by decide)
       refine⟨by decide,by decide,_,_,⟨m,[[0,0]],Fb,rfl,hc,by decide,by decide,by decide,by decide,eF,rfl,rfl⟩,m,[[0,0]],.CS Fb.length,by rw[dS,CT];rfl,hc,λ_=>?_,λz=>absurd z (by rw[hs,show aa m=64 by omega];decide)⟩
       rw[show ag [[0,0]]=2 from rfl,ec]
       exact⟨by decide,⟨sX 5 true _,rfl⟩,q⟩
      ·exact uo
     ·exact uo
    ·exact uo
   split
   ·split
    ·exact⟨m,rfl,hm,by omega,q⟩
    ·exact pK
   ·exact pK
  split
  ·clear hU
   refine az λV hV=>?_
   walk_at"l3"
   refine⟨ns,1,rfl,by decide,by decide,hV _ ?_⟩
   clear hV V
   obtain⟨k,ek,hk⟩:=wX (ns.getD (k9 1) 0) (show(0:Int)<23 by decide)
   rw[ek,show(2:Int)+(k:Int)=((k+2:Nat):Int) by omega]
   obtain⟨n,hn⟩:∃n,k+2=n:=⟨_,rfl⟩
   rw[hn]
   walk_at"l3"
   obtain⟨hc,g3,hs,ec⟩:=cm6 hm (show 2<=n by omega) (by omega)
   refine⟨_,_,⟨m,n,rfl,hm,by omega,by omega,rfl,rfl⟩,m,dJ m n,.rep,by rw[CT];rfl,hc,λ_=>?_,λz=>absurd z (by rw[hs,LD];omega)⟩
   rw[g3,ec,show((n:Int)-1).toNat=n-1 by omega,dA]
   rw[show D.int 1::(aF (aK (n-1) 0)++[D.int ((aa m:Int)-1)])=au (1::(aK (n-1) 0++[aa m-1])) by
    rw[du,da,dS,kj,Wv]
    unfold aF
    rw[kj,show(aa m:Int)-1=((aa m-1:Nat):Int) by omega]
    rfl]
   refine⟨by decide,by decide,⟨by omega,by omega,by omega⟩,by omega,by decide,by omega,⟨sX 5 true _,sX 5 true _⟩,?_⟩
   rw[(wq true true _ _).trans (decide_eq_true rfl)]
   exact q
  ·exact st1
end
set_option maxHeartbeats 0 in
theorem all_mk{l:PySem.W.OpenLaw}{w:World}{K:Frag}{h:Heap}{mg:Str->Option Value}{fa:Addr}{ts:List Addr}(X:K.In h)(G:h.Ns mainGlobals mg)(hfa:mg "law"=some (.ref fa))
  {od7 an7:Option Addr} {sl7:Array (Option Value)} {oc7 kV7 dc7 pm7 ct7:Value} {f7:Addr}
  {Ag jE:Addr} {ax5:Option Addr} {ax6:Array (Option Value)} {U7:Array Value} {ax7:Value}
  {du9 dv0:Option Addr} {dv1:Array (Option Value)} {dv2 dv3 dv4 dv5 dv6:Value} {Ah:Addr}
  {Ai jF:Addr} {aA5:Option Addr} {aA6:Array (Option Value)} {U8:Array Value} {aA7:Value}
  {dw0 U9:Option Addr} {dw1:Array (Option Value)} {dw2 Va Vb Vc KG Vd:Value} {KH:Addr}
  {f0 f1 f2 f3 f4 f5 f6 f8 f9 KI KJ nO KL KN KO KP KQ KR D1 D2 D3 D4 yk w5 KS KU KW KY D6 D7 KZ Aj w9 K0 K1 K2 K3 D8 D9 K4 K5 Ea xb K6 K7 K8 K9 La Lb Lc Ld Le Lf Eb Lg Lh:Addr} {fd0 fd1 fd2 fd3 fd4 fd5 fd6 fd8 fd9 dx2 dx3 dx4 dx5 dx6 dx7 dx8 dx9 dy0 dy1 dy2 dy3 dy4 dy5 dy6 dy7 dy8 dy9 dz0 dz1 dz2 dz3 dz4 dz5 dz6 dz7 dz8 dz9 dA0 dA1 dA2 dA3 dA4 dA5 dA6 dA7 dA8 dA9 dB0 dB1 dB2 dB3 dB4 dB5 dB6 dB7 dB8:FuncData}
  {aL eR cC mZ kO jG jH aP dw dQ:Addr}
  {Di:Tok}
  (Ka:nsIn K mainGlobals "BitField"=some (some (.ref aL)))
  (Kb:nsIn K mainGlobals "ByNought"=some (some (.ref eR)))
  (z7:nsIn K mainGlobals "CheckCode"=some (some (.ref cC)))
  (DM:nsIn K mainGlobals "Code"=some (some (.ref mZ)))
  (DN:nsIn K mainGlobals "Field"=some (some (.ref kO)))
  (Ke:nsIn K mainGlobals "MendError"=some (some (.ref jG)))
  (Kf:nsIn K mainGlobals "NoCode"=some (some (.ref jH)))
  (Kg:nsIn K mainGlobals "PrimeField"=some (some (.ref aP)))
  (Kh:nsIn K mainGlobals "RepeatCode"=some (some (.ref dw)))
  (DO:nsIn K mainGlobals "TooLarge"=some (some (.ref dQ)))
  (a0:nsIn K mainGlobals "_law_told"=some (some (.ref f0)))
  (a1:nsIn K mainGlobals "powers_of"=some (some (.ref f1)))
  (a2:nsIn K mainGlobals "step_powers"=some (some (.ref f2)))
  (a3:nsIn K mainGlobals "logs_of"=some (some (.ref f3)))
  (a4:findIn K (.ref kO) "step_power"=some (some (.ref f4)))
  (Ve:isFn K (.ref f4)=true)
  (a5:findIn K (.ref kO) "__init__"=some (some (.ref f5)))
  (mf5:isFn K (.ref f5)=true)
  (a6:nsIn K mainGlobals "makes_prime_field"=some (some (.ref f6)))
  (a7:findIn K (.ref aP) "__init__"=some (some (.ref f7)))
  (mf7:isFn K (.ref f7)=true)
  (a8:nsIn K mainGlobals "product_rows"=some (some (.ref f8)))
  (a9:nsIn K mainGlobals "bits_divided"=some (some (.ref f9)))
  (a10:nsIn K mainGlobals "stands_alone"=some (some (.ref KI)))
  (a11:nsIn K mainGlobals "makes_bit_field"=some (some (.ref KJ)))
  (a12:nsIn K mainGlobals "bits_times"=some (some (.ref nO)))
  (a13:findIn K (.ref aL) "__init__"=some (some (.ref Ah)))
  (dC4:isFn K (.ref Ah)=true)
  (a14:nsIn K mainGlobals "_law_field"=some (some (.ref KL)))
  (a15:nsIn K mainGlobals "_law_many"=some (some (.ref KN)))
  (a16:nsIn K mainGlobals "_law_cell"=some (some (.ref KO)))
  (a17:nsIn K mainGlobals "_law_small"=some (some (.ref KP)))
  (a18:nsIn K mainGlobals "width_of"=some (some (.ref KQ)))
  (a19:nsIn K mainGlobals "first_with"=some (some (.ref KR)))
  (a20:findIn K (.ref aL) "scaled"=some (some (.ref D1)))
  (dD2:isFn K (.ref D1)=true)
  (a21:findIn K (.ref aP) "scaled"=some (some (.ref D2)))
  (dD4:isFn K (.ref D2)=true)
  (a22:findIn K (.ref aL) "lessened"=some (some (.ref D3)))
  (dD6:isFn K (.ref D3)=true)
  (a23:findIn K (.ref aP) "lessened"=some (some (.ref D4)))
  (dD8:isFn K (.ref D4)=true)
  (a24:nsIn K mainGlobals "cleared"=some (some (.ref yk)))
  (a25:findIn K (.ref kO) "over"=some (some (.ref w5)))
  (Vf:isFn K (.ref w5)=true)
  (a26:nsIn K mainGlobals "reduced"=some (some (.ref KS)))
  (a27:nsIn K mainGlobals "copied"=some (some (.ref KU)))
  (a28:nsIn K mainGlobals "leads"=some (some (.ref KW)))
  (a29:nsIn K mainGlobals "free_places"=some (some (.ref KY)))
  (a30:findIn K (.ref aL) "minus"=some (some (.ref D6)))
  (dE5:isFn K (.ref D6)=true)
  (a31:findIn K (.ref aP) "minus"=some (some (.ref D7)))
  (dE7:isFn K (.ref D7)=true)
  (a32:nsIn K mainGlobals "kernel_of_reduced"=some (some (.ref KZ)))
  (a33:findIn K (.ref mZ) "__init__"=some (some (.ref Aj)))
  (dW5:isFn K (.ref Aj)=true)
  (a34:findIn K (.ref kO) "holds"=some (some (.ref w9)))
  (Vg:isFn K (.ref w9)=true)
  (a35:nsIn K mainGlobals "is_small_table"=some (some (.ref K0)))
  (a36:nsIn K mainGlobals "rank"=some (some (.ref K1)))
  (a37:nsIn K mainGlobals "turned"=some (some (.ref K2)))
  (a38:nsIn K mainGlobals "is_nought"=some (some (.ref K3)))
  (a39:findIn K (.ref aL) "times"=some (some (.ref D8)))
  (dF4:isFn K (.ref D8)=true)
  (a40:findIn K (.ref aP) "times"=some (some (.ref D9)))
  (dF6:isFn K (.ref D9)=true)
  (a41:nsIn K mainGlobals "past"=some (some (.ref K4)))
  (a42:nsIn K mainGlobals "first_bound"=some (some (.ref K5)))
  (a43:findIn K (.ref cC) "__init__"=some (some (.ref Ea)))
  (dG0:isFn K (.ref Ea)=true)
  (a44:findIn K (.ref mZ) "rows"=some (some (.ref xb)))
  (Vh:isFn K (.ref xb)=true)
  (a45:nsIn K mainGlobals "all_words"=some (some (.ref K6)))
  (a46:nsIn K mainGlobals "how_many_words"=some (some (.ref K7)))
  (a47:nsIn K mainGlobals "census"=some (some (.ref K8)))
  (a48:nsIn K mainGlobals "_law_counts"=some (some (.ref K9)))
  (a49:nsIn K mainGlobals "_law_refused"=some (some (.ref La)))
  (a50:nsIn K mainGlobals "_law_minus"=some (some (.ref Lb)))
  (a51:nsIn K mainGlobals "_law_times"=some (some (.ref Lc)))
  (a52:nsIn K mainGlobals "_law_plus"=some (some (.ref Ld)))
  (a53:nsIn K mainGlobals "_law_words"=some (some (.ref Le)))
  (a54:nsIn K mainGlobals "repeat_checks"=some (some (.ref Lf)))
  (a55:findIn K (.ref dw) "__init__"=some (some (.ref Eb)))
  (dH2:isFn K (.ref Eb)=true)
  (a56:nsIn K mainGlobals "_law_mixed"=some (some (.ref Lg)))
  (a57:nsIn K mainGlobals "_law_whole"=some (some (.ref Lh)))
  (Vi:nsIn K mainGlobals "law"=some (some (.ref KH)))
  (aJ3:plainGet K aL An=true)
  (aJ4:hasDictIn K aL=true)
  (aJ5:plainOver K aL=true)
  (aJ6:findIn K (.ref aL) "__setattr__"=some (some (.builtin "object.__setattr__")))
  (JR:makesIn K aL=true)
  (aJ7:keepIn K (.ref aL)=true)
  (JS:findIn K (.ref aL) "bits"=some none)
  (wQ:findIn K (.ref aL) "logs"=some none)
  (wR:findIn K (.ref aL) "many"=some none)
  (zS:findIn K (.ref aL) "powers"=some none)
  (wU:findIn K (.ref aL) "products"=some none)
  (JT:findIn K (.ref aL) "step"=some none)
  (JU:findIn K (.ref aL) "wide"=some none)
  (JV:findIn K (.ref aL) "holds"=some (some (.ref w9)))
  (JW:findIn K (.ref aL) "over"=some (some (.ref w5)))
  (DC:findIn K (.ref aL) "step_power"=some (some (.ref f4)))
  (dI0:plainGet K cC An=true)
  (dI1:hasDictIn K cC=true)
  (dI2:plainOver K cC=true)
  (dI3:findIn K (.ref cC) "__setattr__"=some (some (.builtin "object.__setattr__")))
  (zT:makesIn K cC=true)
  (dI4:keepIn K (.ref cC)=true)
  (JX:findIn K (.ref cC) "bound"=some none)
  (JY:findIn K (.ref cC) "check_rows"=some none)
  (zU:findIn K (.ref cC) "field"=some none)
  (zV:findIn K (.ref cC) "length"=some none)
  (JZ:findIn K (.ref cC) "message_places"=some none)
  (zW:findIn K (.ref cC) "size"=some none)
  (zX:findIn K (.ref cC) "word_rows"=some none)
  (DD:findIn K (.ref cC) "rows"=some (some (.ref xb)))
  (aF5:plainGet K aP An=true)
  (aF6:hasDictIn K aP=true)
  (aF7:plainOver K aP=true)
  (aF8:findIn K (.ref aP) "__setattr__"=some (some (.builtin "object.__setattr__")))
  (J0:makesIn K aP=true)
  (aF9:keepIn K (.ref aP)=true)
  (zY:findIn K (.ref aP) "logs"=some none)
  (wW:findIn K (.ref aP) "many"=some none)
  (DE:findIn K (.ref aP) "powers"=some none)
  (tH:findIn K (.ref aP) "prime"=some none)
  (J1:findIn K (.ref aP) "step"=some none)
  (J2:findIn K (.ref aP) "wide"=some none)
  (J3:findIn K (.ref aP) "holds"=some (some (.ref w9)))
  (J4:findIn K (.ref aP) "over"=some (some (.ref w5)))
  (DF:findIn K (.ref aP) "step_power"=some (some (.ref f4)))
  (dJ0:plainGet K dw An=true)
  (dJ1:hasDictIn K dw=true)
  (dJ2:plainOver K dw=true)
  (dJ3:findIn K (.ref dw) "__setattr__"=some (some (.builtin "object.__setattr__")))
  (J6:makesIn K dw=true)
  (dJ4:keepIn K (.ref dw)=true)
  (J7:findIn K (.ref dw) "check_rows"=some none)
  (DG:findIn K (.ref dw) "field"=some none)
  (DH:findIn K (.ref dw) "length"=some none)
  (J8:findIn K (.ref dw) "message_places"=some none)
  (DI:findIn K (.ref dw) "size"=some none)
  (DJ:findIn K (.ref dw) "word_rows"=some none)
  (J9:findIn K (.ref dw) "rows"=some (some (.ref xb)))
  (dJ5:specialIn K (.ref mZ) "__getattribute__"=some (some (.builtin "type.__getattribute__")))
  (dJ6:PySem.W.readsIn K mZ (.type "type")=true)
  (dJ7:PySem.W.findCls K (.ref mZ) (.type "type") "__init__"=some (.val (.ref Aj)))
  (aG0:specialIn K (.ref kO) "__getattribute__"=some (some (.builtin "type.__getattribute__")))
  (aG1:PySem.W.readsIn K kO (.type "type")=true)
  (aG2:PySem.W.findCls K (.ref kO) (.type "type") "__init__"=some (.val (.ref f5)))
  (dK1:nsIn K mainGlobals "ValueError"=some none)
  (dK2:nsIn K mainGlobals "all"=some none)
  (dK3:nsIn K mainGlobals "any"=some none)
  (dK4:nsIn K mainGlobals "bool"=some none)
  (dK5:nsIn K mainGlobals "enumerate"=some none)
  (dK6:nsIn K mainGlobals "int"=some none)
  (dK7:nsIn K mainGlobals "isinstance"=some none)
  (dK8:nsIn K mainGlobals "len"=some none)
  (dK9:nsIn K mainGlobals "list"=some none)
  (dL0:nsIn K mainGlobals "range"=some none)
  (dL1:nsIn K mainGlobals "zip"=some none)
  (dL2:nsIn K mainGlobals "MOST_WORDS"=some (some (.int 4096 Di)))
  (aM1:typeIn K (.ref eR)=some (.type "type"))
  (Li:typeIn K (.ref jG)=some (.type "type"))
  (Lj:typeIn K (.ref jH)=some (.type "type"))
  (Vj:typeIn K (.ref dQ)=some (.type "type"))
  (Vk:subIn K (.ref dQ) (.type "BaseException")=some true)
  (aI3:findIn K (.ref eR) "__getattribute__"=some (some (.builtin "BaseException.__getattribute__")))
  (aI4:findIn K (.ref eR) "__getattr__"=some none)
  (aI5:findIn K (.ref eR) "__class__"=some (some (.builtin "object.__class__")))
  (aI6:specialIn K (.builtin "object.__class__") "__get__"=some (some (.builtin "getset_descriptor.__get__")))
  (aI7:PySem.W.takesIn K (.builtin "object.__class__")=some true)
  (aI8:mroIn K eR (.type "object")=some true)
  (aI9:mroIn K eR (.type "BaseException")=some true)
  (aq1:subIn K (.ref eR) (.ref jG)=some true)
  (ax8:subIn K (.ref eR) (.ref jH)=some false)
  (ar8:subIn K (.ref eR) (.ref dQ)=some false)
  (aJ8:subIn K (.ref eR) (.type "ValueError")=some true)
  (dM4:findIn K (.ref dQ) "__getattribute__"=some (some (.builtin "BaseException.__getattribute__")))
  (dM5:findIn K (.ref dQ) "__getattr__"=some none)
  (dM6:findIn K (.ref dQ) "__class__"=some (some (.builtin "object.__class__")))
  (dM7:specialIn K (.builtin "object.__class__") "__get__"=some (some (.builtin "getset_descriptor.__get__")))
  (dM8:PySem.W.takesIn K (.builtin "object.__class__")=some true)
  (dM9:mroIn K dQ (.type "object")=some true)
  (dN0:mroIn K dQ (.type "BaseException")=some true)
  (aq2:subIn K (.ref dQ) (.ref jG)=some true)
  (dN2:subIn K (.ref dQ) (.ref jH)=some false)
  (dN3:subIn K (.ref dQ) (.ref dQ)=some true)
  (dN4:subIn K (.ref dQ) (.type "ValueError")=some true)
  (aJ0:subIn K (.type "NoneType") (.ref jG)=some false)
  (dN6:subIn K (.type "NoneType") (.ref jH)=some false)
  (F0:bg K "_law_told" "_law_told" Ia f0 fd0)
  (F1:bg K "powers_of" "powers_of" Ic f1 fd1)
  (F2:bg K "step_powers" "step_powers" Ie f2 fd2)
  (F3:bg K "logs_of" "logs_of" Ig f3 fd3)
  (F4:bg K "step_power" "Field.step_power" Ii f4 fd4)
  (F5:bg K "__init__" "Field.__init__" Ij f5 fd5)
  (F6:bg K "makes_prime_field" "makes_prime_field" Ik f6 fd6)
  (F8:bg K "product_rows" "product_rows" Il f8 fd8)
  (F9:bg K "bits_divided" "bits_divided" Im f9 fd9)
  (Vl:bg K "stands_alone" "stands_alone" Io KI dx2)
  (Vm:bg K "makes_bit_field" "makes_bit_field" Iq KJ dx3)
  (Vn:bg K "bits_times" "bits_times" Ir nO dx4)
  (Vo:bg K "_law_field" "_law_field" Iu KL dx5)
  (Vp:bg K "_law_many" "_law_many" Iw KN dx6)
  (Vq:bg K "_law_cell" "_law_cell" Iy KO dx7)
  (Vr:bg K "_law_small" "_law_small" Iz KP dx8)
  (Vs:bg K "width_of" "width_of" IA KQ dx9)
  (Vt:bg K "first_with" "first_with" IB KR dy0)
  (Lk:bg K "scaled" "BitField.scaled" IC D1 dy1)
  (Ll:bg K "scaled" "PrimeField.scaled" ID D2 dy2)
  (Lm:bg K "lessened" "BitField.lessened" IE D3 dy3)
  (Ln:bg K "lessened" "PrimeField.lessened" IF D4 dy4)
  (Vu:bg K "cleared" "cleared" IG yk dy5)
  (Ec:bg K "over" "Field.over" IH w5 dy6)
  (Vv:bg K "reduced" "reduced" II KS dy7)
  (Vw:bg K "copied" "copied" IJ KU dy8)
  (Vx:bg K "leads" "leads" IK KW dy9)
  (Vy:bg K "free_places" "free_places" IL KY dz0)
  (Lo:bg K "minus" "BitField.minus" IM D6 dz1)
  (Lp:bg K "minus" "PrimeField.minus" IQ D7 dz2)
  (Vz:bg K "kernel_of_reduced" "kernel_of_reduced" IS KZ dz3)
  (Lq:bg K "__init__" "Code.__init__" IT Aj dz4)
  (Ee:bg K "holds" "Field.holds" IU w9 dz5)
  (VA:bg K "is_small_table" "is_small_table" IV K0 dz6)
  (VB:bg K "rank" "rank" IW K1 dz7)
  (VC:bg K "turned" "turned" IY K2 dz8)
  (VD:bg K "is_nought" "is_nought" IZ K3 dz9)
  (Lr:bg K "times" "BitField.times" I0 D8 dA0)
  (Lu:bg K "times" "PrimeField.times" Ja D9 dA1)
  (VE:bg K "past" "past" Jb K4 dA2)
  (VF:bg K "first_bound" "first_bound" Jc K5 dA3)
  (VG:bg K "__init__" "CheckCode.__init__" Jd Ea dA4)
  (Ef:bg K "rows" "Code.rows" Je xb dA5)
  (VH:bg K "all_words" "all_words" Jf K6 dA6)
  (VI:bg K "how_many_words" "how_many_words" Jg K7 dA7)
  (VJ:bg K "census" "census" Jh K8 dA8)
  (VL:bg K "_law_counts" "_law_counts" Jj K9 dA9)
  (VM:bg K "_law_refused" "_law_refused" Jk La dB0)
  (VN:bg K "_law_minus" "_law_minus" Jl Lb dB1)
  (VO:bg K "_law_times" "_law_times" Jm Lc dB2)
  (VP:bg K "_law_plus" "_law_plus" Jn Ld dB3)
  (VQ:bg K "_law_words" "_law_words" Jo Le dB4)
  (VR:bg K "repeat_checks" "repeat_checks" Jp Lf dB5)
  (VS:bg K "__init__" "RepeatCode.__init__" Jq Eb dB6)
  (VT:bg K "_law_mixed" "_law_mixed" Jr Lg dB7)
  (VU:bg K "_law_whole" "_law_whole" Js Lh dB8)
  (l7:K.lookup f7=some ⟨oc7,od7,.func (fnOf "__init__" "PrimeField.__init__" (mH oM) (iO oM) (aT oM) .none kV7 dc7 pm7 an7 (.ref Ag) ct7),sl7⟩)
  (c7:codeIn K (.ref Ag) "PrimeField.__init__"=true)
  (k7:keepIn K (.ref f7)=true)
  (aL5:K.lookup Ag=some ⟨ax7,ax5,.fields U7,ax6⟩)
  (aL6:U7[11]?=some (.ref jE))
  (ax9:codeHdIn K Ag jE=true)
  (l13:K.lookup Ah=some ⟨dv2,du9,.func (fnOf "__init__" "BitField.__init__" (mH oN) (iO oN) (aT oN) .none dv3 dv4 dv5 dv0 (.ref Ai) dv6),dv1⟩)
  (c13:codeIn K (.ref Ai) "BitField.__init__"=true)
  (k13:keepIn K (.ref Ah)=true)
  (aL9:K.lookup Ai=some ⟨aA7,aA5,.fields U8,aA6⟩)
  (aM0:U8[11]?=some (.ref jF))
  (aA8:codeHdIn K Ai jF=true)
  (l58:K.lookup KH=some ⟨dw2,dw0,.func (fnOf "law" "law" (mH oQ) (iO oQ) (aT oQ) .none Va Vb Vc U9 KG Vd),dw1⟩)
  (c58:codeIn K KG "law"=true)
  (k58:keepIn K (.ref KH)=true)
  (aJ9:(clsIn K eR).isSome=true)
  (Lw:(clsIn K jG).isSome=true)
  (Lx:(clsIn K jH).isSome=true)
  (Ly:(clsIn K dQ).isSome=true)
  (aK0:PySem.W.excIn K eR [.type "ValueError",.type "Exception",.type "BaseException",.type "object"] "ValueError.__new__"=true)
  (aq3:(dn eR==dn jG)=false)
  (ay0:(dn eR==dn jH)=false)
  (dO9:PySem.W.excIn K dQ [.type "ValueError",.type "Exception",.type "BaseException",.type "object"] "ValueError.__new__"=true)
  (aq4:(dn dQ==dn jG)=false)
  (dP3:(dn dQ==dn jH)=false)
  (nl:K.all (λp=>GB p.2)=true)
  (sub:∀P∈[jE,jF],P∈ts) :
  ∃fd:FuncData,(∀(s:Shared) (v:Value),BindsTo s fd ⟨[v],[]⟩ [("_law_script",v)])/\∀base:Heap,K.In base->base.Ns mainGlobals mg->Bm mg base->aO l.prog w K mg base aZ 11 fa fd ["_law_script"] (B6 ts K):=by
 have e:=hfa.symm.trans (mg_of X G Vi)
 cases e
 have F7:=BA (st:=oM) l7 c7 k7
 have b7:=F7.binds (ps:=["self","prime"]) λ_ _ _ _ _ _=>fu (λ_ _=>rfl)
 have VV:=BA (st:=oN) l13 c13 k13
 have b13:=VV.binds (ps:=["self","bits"]) λ_ _ _ _ _ _=>fu (λ_ _=>rfl)
 have VW:=BA (st:=oQ) l58 c58 k58
 have b58:=VW.binds (ps:=["_law_script"]) λ_ _ _ _ _ _=>gy (λ_=>rfl)
 have T:Txt K mg ⟨f0,_,f1,_,f2,_,f3,_,f4,_,f5,_,f6,_,f7,_,f8,_,f9,_,KI,_,KJ,_,nO,_,Ah,_,KL,_,KN,_,KO,_,KP,_,KQ,_,KR,_,D1,_,D2,_,D3,_,D4,_,yk,_,w5,_,KS,_,KU,_,KW,_,KY,_,D6,_,D7,_,KZ,_,Aj,_,w9,_,K0,_,K1,_,K2,_,K3,_,D8,_,D9,_,K4,_,K5,_,Ea,_,xb,_,K6,_,K7,_,K8,_,K9,_,La,_,Lb,_,Lc,_,Ld,_,Le,_,Lf,_,Eb,_,Lg,_,Lh,_,fa,_,Ag,jE,Ai,jF,aL,eR,cC,mZ,kO,jG,jH,aP,dw,dQ,Di⟩:=⟨⟨F0,mg_of X G a0,F0.binds λ_ _ _ _ _ _=>gy λ_=>rfl⟩,⟨F1,mg_of X G a1,F1.binds λ_ _ _ _ _ _=>fu λ_ _=>rfl⟩,⟨F2,mg_of X G a2,F2.binds λ_ _ _ _ _ _=>fu λ_ _=>rfl⟩,⟨F3,mg_of X G a3,F3.binds λ_ _ _ _ _ _=>gy λ_=>rfl⟩,⟨F4,F4.binds λ_ _ _ _ _ _=>fu λ_ _=>rfl⟩,⟨F5,F5.binds λ_ _ _ _ _ _=>gX λ_ _ _=>rfl⟩,⟨F6,mg_of X G a6,F6.binds λ_ _ _ _ _ _=>gy λ_=>rfl⟩,⟨F7,b7⟩,⟨F8,mg_of X G a8,F8.binds λ_ _ _ _ _ _=>fu λ_ _=>rfl⟩,⟨F9,mg_of X G a9,F9.binds λ_ _ _ _ _ _=>fu λ_ _=>rfl⟩,⟨Vl,mg_of X G a10,Vl.binds λ_ _ _ _ _ _=>gy λ_=>rfl⟩,⟨Vm,mg_of X G a11,Vm.binds λ_ _ _ _ _ _=>gy λ_=>rfl⟩,⟨Vn,mg_of X G a12,Vn.binds λ_ _ _ _ _ _=>fu λ_ _=>rfl⟩,⟨VV,b13⟩,⟨Vo,mg_of X G a14,Vo.binds λ_ _ _ _ _ _=>gy λ_=>rfl⟩,⟨Vp,mg_of X G a15,Vp.binds λ_ _ _ _ _ _=>gy λ_=>rfl⟩,⟨Vq,mg_of X G a16,Vq.binds λ_ _ _ _ _ _=>fu λ_ _=>rfl⟩,⟨Vr,mg_of X G a17,Vr.binds λ_ _ _ _ _ _=>fu λ_ _=>rfl⟩,⟨Vs,mg_of X G a18,Vs.binds λ_ _ _ _ _ _=>gy λ_=>rfl⟩,⟨Vt,mg_of X G a19,Vt.binds λ_ _ _ _ _ _=>fu λ_ _=>rfl⟩,⟨Lk,Lk.binds λ_ _ _ _ _ _=>gX λ_ _ _=>rfl⟩,⟨Ll,Ll.binds λ_ _ _ _ _ _=>gX λ_ _ _=>rfl⟩,⟨Lm,Lm.binds λ_ _ _ _ _ _=>HF λ_ _ _ _=>rfl⟩,⟨Ln,Ln.binds λ_ _ _ _ _ _=>HF λ_ _ _ _=>rfl⟩,⟨Vu,mg_of X G a24,Vu.binds λ_ _ _ _ _ _=>HF λ_ _ _ _=>rfl⟩,⟨Ec,Ec.binds λ_ _ _ _ _ _=>gX λ_ _ _=>rfl⟩,⟨Vv,mg_of X G a26,Vv.binds λ_ _ _ _ _ _=>fu λ_ _=>rfl⟩,⟨Vw,mg_of X G a27,Vw.binds λ_ _ _ _ _ _=>gy λ_=>rfl⟩,⟨Vx,mg_of X G a28,Vx.binds λ_ _ _ _ _ _=>gy λ_=>rfl⟩,⟨Vy,mg_of X G a29,Vy.binds λ_ _ _ _ _ _=>fu λ_ _=>rfl⟩,⟨Lo,Lo.binds λ_ _ _ _ _ _=>gX λ_ _ _=>rfl⟩,⟨Lp,Lp.binds λ_ _ _ _ _ _=>gX λ_ _ _=>rfl⟩,⟨Vz,mg_of X G a32,Vz.binds λ_ _ _ _ _ _=>gX λ_ _ _=>rfl⟩,⟨Lq,Lq.binds λ_ _ _ _ _ _=>gX λ_ _ _=>rfl⟩,⟨Ee,Ee.binds λ_ _ _ _ _ _=>fu λ_ _=>rfl⟩,⟨VA,mg_of X G a35,VA.binds λ_ _ _ _ _ _=>fu λ_ _=>rfl⟩,⟨VB,mg_of X G a36,VB.binds λ_ _ _ _ _ _=>fu λ_ _=>rfl⟩,⟨VC,mg_of X G a37,VC.binds λ_ _ _ _ _ _=>gy λ_=>rfl⟩,⟨VD,mg_of X G a38,VD.binds λ_ _ _ _ _ _=>gy λ_=>rfl⟩,⟨Lr,Lr.binds λ_ _ _ _ _ _=>gX λ_ _ _=>rfl⟩,⟨Lu,Lu.binds λ_ _ _ _ _ _=>gX λ_ _ _=>rfl⟩,⟨VE,mg_of X G a41,VE.binds λ_ _ _ _ _ _=>gX λ_ _ _=>rfl⟩,⟨VF,mg_of X G a42,VF.binds λ_ _ _ _ _ _=>fu λ_ _=>rfl⟩,⟨VG,VG.binds λ_ _ _ _ _ _=>gX λ_ _ _=>rfl⟩,⟨Ef,Ef.binds λ_ _ _ _ _ _=>gy λ_=>rfl⟩,⟨VH,mg_of X G a45,VH.binds λ_ _ _ _ _ _=>gy λ_=>rfl⟩,⟨VI,mg_of X G a46,VI.binds λ_ _ _ _ _ _=>gy λ_=>rfl⟩,⟨VJ,mg_of X G a47,VJ.binds λ_ _ _ _ _ _=>gy λ_=>rfl⟩,⟨VL,mg_of X G a48,VL.binds λ_ _ _ _ _ _=>fu λ_ _=>rfl⟩,⟨VM,mg_of X G a49,VM.binds λ_ _ _ _ _ _=>fu λ_ _=>rfl⟩,⟨VN,mg_of X G a50,VN.binds λ_ _ _ _ _ _=>fu λ_ _=>rfl⟩,⟨VO,mg_of X G a51,VO.binds λ_ _ _ _ _ _=>gX λ_ _ _=>rfl⟩,⟨VP,mg_of X G a52,VP.binds λ_ _ _ _ _ _=>gX λ_ _ _=>rfl⟩,⟨VQ,mg_of X G a53,VQ.binds λ_ _ _ _ _ _=>gX λ_ _ _=>rfl⟩,⟨VR,mg_of X G a54,VR.binds λ_ _ _ _ _ _=>fu λ_ _=>rfl⟩,⟨VS,VS.binds λ_ _ _ _ _ _=>gX λ_ _ _=>rfl⟩,⟨VT,mg_of X G a56,VT.binds λ_ _ _ _ _ _=>fu λ_ _=>rfl⟩,⟨VU,mg_of X G a57,VU.binds λ_ _ _ _ _ _=>gy λ_=>rfl⟩,⟨VW,mg_of X G Vi,b58⟩,rfl,ax9,rfl,aA8,⟨aJ3,aJ4,aJ5,aJ6⟩,⟨JR,a13,dC4,aJ7⟩,JS,wQ,wR,zS,wU,JT,JU,⟨JV,Vg,Ee.kp⟩,⟨a22,dD6,Lm.kp⟩,⟨a30,dE5,Lo.kp⟩,⟨JW,Vf,Ec.kp⟩,⟨a20,dD2,Lk.kp⟩,⟨DC,Ve,F4.kp⟩,⟨a39,dF4,Lr.kp⟩,⟨dI0,dI1,dI2,dI3⟩,⟨zT,a43,dG0,dI4⟩,JX,JY,zU,zV,JZ,zW,zX,⟨DD,Vh,Ef.kp⟩,⟨aF5,aF6,aF7,aF8⟩,⟨J0,a7,mf7,aF9⟩,zY,wW,DE,tH,J1,J2,⟨J3,Vg,Ee.kp⟩,⟨a23,dD8,Ln.kp⟩,⟨a31,dE7,Lp.kp⟩,⟨J4,Vf,Ec.kp⟩,⟨a21,dD4,Ll.kp⟩,⟨DF,Ve,F4.kp⟩,⟨a40,dF6,Lu.kp⟩,⟨dJ0,dJ1,dJ2,dJ3⟩,⟨J6,a55,dH2,dJ4⟩,J7,DG,DH,J8,DI,DJ,⟨J9,Vh,Ef.kp⟩,⟨dJ5,dJ6,dJ7,Lq.kp⟩,⟨aG0,aG1,aG2,F5.kp⟩,mg_none_of X G dK1,mg_none_of X G dK2,mg_none_of X G dK3,mg_none_of X G dK4,mg_none_of X G dK5,mg_none_of X G dK6,mg_none_of X G dK7,mg_none_of X G dK8,mg_none_of X G dK9,mg_none_of X G dL0,mg_none_of X G dL1,mg_of X G dL2,mg_of X G Ka,mg_of X G Kb,mg_of X G z7,mg_of X G DM,mg_of X G DN,mg_of X G Ke,mg_of X G Kf,mg_of X G Kg,mg_of X G Kh,mg_of X G DO,OY (mg_of X G Kb) aK0,⟨aJ9,aI3,aI4,aI5,aI6,aI7,aI8,aI9⟩,vR aq3 Lw Li aq1,vR ay0 Lx Lj ax8,O1 Ly Vj Vk ar8,O0 rfl (by decide +kernel) aJ8,OY (mg_of X G DO) dO9,⟨Ly,dM4,dM5,dM6,dM7,dM8,dM9,dN0⟩,vR aq4 Lw Li aq2,vR dP3 Lx Lj dN2,O1 Ly Vj Vk dN3,O0 rfl (by decide +kernel) dN4,vR rfl Lw Li aJ0,vR rfl Lx Lj dN6⟩
 exact⟨fnOf "law" "law" (mH oQ) (iO oQ) (aT oQ) .none Va Vb Vc U9 KG Vd,λs v=>.of_eq rfl,λbase _ _ hB=>(cB3 T hB).imp λvs H Q E h=>let z:=b52 nl h;⟨λP hP=>z.1 P (sub P hP),z.2⟩⟩
theorem ay1{K:Frag}{h:Heap}{c f k P:Addr}{od an:Option Addr}{sl:Array (Option Value)}{oc kV dc pm ct kt:Value}{ko:Option Addr}{ks:Array (Option Value)}{kf:Array Value}(X:K.In h)(a:nsIn K mainGlobals "PrimeField"=some (some (.ref c)))(b:findIn K (.ref c) "__init__"=some (some (.ref f)))
  (l:K.lookup f=some ⟨oc,od,.func (fnOf "__init__" "PrimeField.__init__" (mH oM) (iO oM) (aT oM) .none kV dc pm an (.ref k) ct),sl⟩) (lk:K.lookup k=some ⟨kt,ko,.fields kf,ks⟩) (lp:kf[11]?=some (.ref P)) (n:K.lookup P=none) (e:codeHdIn K k P=true):K.lookup P=none/\∃c,CodeHd h c P:=⟨n,k,PySem.W.codeHd_of_K X e⟩
theorem aA9{K:Frag}{h:Heap}{c f k P:Addr}{od an:Option Addr}{sl:Array (Option Value)}{oc kV dc pm ct kt:Value}{ko:Option Addr}{ks:Array (Option Value)}{kf:Array Value}(X:K.In h)(a:nsIn K mainGlobals "BitField"=some (some (.ref c)))(b:findIn K (.ref c) "__init__"=some (some (.ref f)))
  (l:K.lookup f=some ⟨oc,od,.func (fnOf "__init__" "BitField.__init__" (mH oN) (iO oN) (aT oN) .none kV dc pm an (.ref k) ct),sl⟩) (lk:K.lookup k=some ⟨kt,ko,.fields kf,ks⟩) (lp:kf[11]?=some (.ref P)) (n:K.lookup P=none) (e:codeHdIn K k P=true):K.lookup P=none/\∃c,CodeHd h c P:=⟨n,k,PySem.W.codeHd_of_K X e⟩
theorem walk{l:PySem.W.OpenLaw}{q:Program}{loose:List Str}{XP:(Str->Option Value)->Heap->Prop}{YP:World->Heap->Prop}{d:DefRec}{K:Params->Frag}{ts:List Addr}(hn:l.most=some 63)(xU:d.params.defaults=[])
  (hY:∀(w:World) (h:Heap),YP w h->(K w.params).In h/\∀P∈ts,h.get? P=some (PySem.W.tabObj #[]))
  (hC:∀(w:World) (h:Heap),(K w.params).In h->∀P∈ts,(K w.params).lookup P=none/\∃c,CodeHd h c P)
  (F:∀(w:World) (mg:Str->Option Value) (fa:Addr) (h:Heap),(K w.params).In h->h.Ns mainGlobals mg->mg d.name=some (.ref fa) ->
   ∃fd:FuncData,(∀(s:Shared) (u:Value),BindsTo s fd ⟨[u],[]⟩ [("_law_script",u)])/\∀base:Heap,(K w.params).In base->base.Ns mainGlobals mg->Bm mg base->aO l.prog w (K w.params) mg base aZ 11 fa fd ["_law_script"] (B6 ts (K w.params))) :
  PySem.W.WalkO q loose XP YP l.row.toRowW d [] (λf vs=>PySem.call f vs) :=
 L2.cT9 (n:=63) (k:=11) (x:="_law_script") (CX:=λ_=>aZ) (sp:=λw=>B6 ts (K w.params)) hn (by decide) xU ⟨rfl,by decide,by decide⟩ hY hC F (λ_ _ a ns hl hO hS=>⟨a,ns,rfl,hO,hS,hl,λ_=>rfl⟩) λ_ _ _ _ _ z=>z
end HK45
set_option genInjectivity false in
set_option genSizeOf false in
structure PySem.W.Fast:Prop where
 (tw5506835699611204608 tw17872882168660593696 tw9822007420135645248 tw922189616345297984 tw1591148202278467680 tw15871515618028761248 tw15365126352844937408 tw8291439836937026752 tw13374555711333778656 tw10774211159501889760 tw3835265275785065728 tw18359582114326215968 tw10914957833043154240 tw13224197247404010848 tw3569894629485159808 tw13247204474657834400 tw11992599719682291104 tw84772451606769120 tw13786524619476142592 tw17335297154637198880 tw15031472787014975008 tw15003182574316576320 tw16021430362248289920 tw6744709607432882816 tw14949161184671024800 tw7541963584744483552 tw12179584565234792288 tw9350418829459167104 tw716182160898665376 tw5764254197763158976 tw883700645783096288 tw15824776992832408577 tw17444606690686226529 tw961355405791574145 tw15241392484863070337 tw12839397124422372545 tw4952043320118752481 tw3653091580185758945 tw3734371108665666849 tw3861225168227500353:True)
 (tw16395691545189782849 tw13968048662770234753 tw14829972260950365569 tw7119153954617203105 tw2381241073220848097 tw17341221120773946881 tw10588681410055266849 tw4428891089742899777 tw7147413605305866817 tw8000725985610064449 tw3796070864044461761 tw14392565480083540705 tw13537849764168746753 tw6999376948414940961 tw8360086603053028129 tw6132472489694266177 tw10882640253076773697 tw12645165369671383873 tw3475122928716366689 tw3643463391855645569 tw16524215996615529377 tw387223366627266497 tw15784789175986111425 tw14630801202561058785 tw17779250169814351841 tw12791744443921783810 tw848499905939808290 tw213325464636037218 tw6744153513367494786 tw8284241640624098466 tw12366419781300827330 tw3628657810125210818 tw14960979308266259682 tw12344034633688217890 tw13414076161515616578 tw6676432656546443810 tw3558771667735748194 tw18306183814430180994 tw3896057894852229826 tw7089045051526287074:True)
 (tw11910235473698628322 tw1426473895531393826 tw1621022556457896738 tw7215276670234576706 tw1649632077702830946 tw15167729733534859106 tw10312840376224317314 tw11317534522663041027 tw18068406089045643299 tw15528795991190530083 tw2920410842863680611 tw7029428411774694659 tw7110894579517522211 tw8945597843029238051 tw11809825428792863043 tw3136321331238524259 tw10534956148728798627 tw2617614404965316035 tw1751779511187102147 tw11760273989510384099 tw13669218391735213603 tw4844813303433685539 tw16676322925384335939 tw17484612409955560003 tw1689995029654095459 tw8909062434415923811 tw17896183704979604099 tw16829369840799124099 tw7908827293638236803 tw14027410510516011683 tw1988230915509041859 tw3620610222404813507 tw9352580798144931523 tw11512149533464391363 tw16595999952606236387 tw12567967919780769603 tw13246849414696072003 tw7654448586559690595 tw10619933886394278755 tw8319075022977265571:True)
 (tw16816647277904967619 tw5294002266520661955 tw5542432152137839684 tw7644960400496015460 tw10428431173274557540 tw12046680321737442436 tw16895639069148002468 tw6240095844742838436 tw9289803752640795812 tw10219607263881305316 tw4726226847736555748 tw15315445405372887300 tw3363714424117892388 tw14827431683893680548 tw9145579047725161892 tw10026716615204964804 tw17613539593305929220 tw5485484262968018436 tw7413901780247636484 tw6669534231474337284 tw17656886329075474980 tw17725957533897688644 tw6798936080114261572 tw17013902996342175300 tw11828359646426551908 tw2765630855107154564 tw14676477354373436100 tw7552061251346527940 tw8749469832299703108 tw13353616571391304548 tw4854797010962877316 tw14788746288931187588 tw15617755423372174212 tw650008184578598788 tw10983316126359645060 tw1148785175138485188 tw12066052730827283428 tw13791254178014143557 tw12593965603843220581 tw8087873298192633989:True)
 (tw8118643336899186885 tw8572363681673436357 tw875891243236579557 tw11963872313043116293 tw5397953678738654501 tw13463193194764090661 tw6845960230587806053 tw14905487667411669381 tw4468558209063784901 tw4877112499154531781 tw11554553835538423301 tw4926418167295543845 tw8173283764617104933 tw2080885810677286501 tw5801682649115308645 tw16800517028129071749 tw4203672148471973733 tw11996069587444573061 tw302136432942424965 tw126056661302820741 tw11116925919950924709 tw713412172333737925 tw15466061192715432901 tw16441999131449604134 tw7589553180653407302 tw12650657231022700646 tw12811383432753679526 tw1456910341392827622 tw8633155832092551398 tw10429001284969041158 tw7525317293787684102 tw4294927093069857030 tw17327603531251876230 tw9718979377449815430 tw1953149556596432262 tw118582365430017414 tw1826320939378058694 tw13166289774500358598 tw4147744255244028358 tw18024937769318535686:True)
 (tw1736794879262085638 tw8624800827211961894 tw14400748876344221254 tw16369979435281671846 tw12644175649246134982 tw2360638200719460038 tw4304832817284668102 tw6207513917558329062 tw17902378741764952838 tw4515208591040591622 tw18056380224743324422 tw17367575320091581190 tw5033086127626248966 tw13435502343760523078 tw360102706008674150 tw11656755989829293990 tw907914676293794790 tw1877468948747500615 tw16738934676400297095 tw3570320890373301383 tw11110387464084457639 tw5990489530775625895 tw5858957335367875751 tw3724282027865618695 tw7094804113135820039 tw16619247999921136999 tw17505288349068872039 tw17688449358885082471 tw17926820283318917639 tw2890308511840098855 tw2132616182345875047 tw17342065834011521639 tw17688281645026700935 tw7104778656848647847 tw2420848166848831143 tw227589430714114727 tw2788627029050653447 tw6796635865345973095 tw11297582675044641671 tw278803037203793831:True)
 (tw8600004497910446023 tw16364907108713080840 tw5507654246996814856 tw4400507440648249352 tw2436487801461767176 tw9951846453633639464 tw7624826322181802056 tw2691317318072650824 tw437951045613248584 tw16614294818811472968 tw10097929071531710568 tw13265981396409723016 tw4099982224131011720 tw12848859176856663176 tw12863062069544831112 tw14497121244619448488 tw15169234885685893288 tw12929176964190249160 tw6927074654263094504 tw4991348735106689288 tw16546788369362578696 tw11635009743341057288 tw14898048785052180776 tw9193052402802117928 tw11058862320034270504 tw4285441332651604296 tw711804748928812424 tw12565809591574354312 tw13814772023897666024 tw8609943832704256520 tw5144055546815233544 tw12399545201787700776 tw15890442283380805160 tw9455323981701037608 tw16740930368249269864 tw6773350762284969576 tw15768251881792140936 tw2146394707847219944 tw15740395630345039624 tw14337164228978471720:True)
 (tw5793752946819603304 tw13546268005908194152 tw5421773209036534632 tw13127749521605582760 tw6549560400496717736 tw3795186521220287432 tw9284479097205849032 tw8591599925798559720 tw9365120255185249321 tw7431124229262454857 tw16195801208419503241 tw7982027100131220745 tw18377322882875634985 tw11580230809640966473 tw7549341135850621321 tw4970890166760535433 tw13677707461000641961 tw3218817932279352777 tw3423606792760722953 tw5036617938794776105 tw10017176101631227497 tw8398267457713798793 tw10854069191191876265 tw5879273574621299401 tw17415930662408237897 tw13862330228336587625 tw816473785615166345 tw8843430162024842121 tw10120711105393437609 tw18393765749613247401 tw3329470185126758345 tw17460310986335762409 tw15515693235357730793 tw9963240917347297290 tw12288739167207871530 tw7072645850420636842 tw15295322831915431114 tw9400439201814666474 tw5576308469285175562 tw466512834727939370:True)
 (tw4766841092111074634 tw17520114089233024394 tw1152588475999029642 tw1444176530694942122 tw11356002129612228074 tw11051711981357185610 tw12529104017357872778 tw10211965311508033162 tw2203752510407076490 tw8353544607727308458 tw16557859187396639402 tw9640125778377806666 tw7939584603560357738 tw17649230061970242538 tw339994438578032618 tw16571741383641505803 tw13884696820141797387 tw12730936290430041099 tw15244228962817369099 tw5788752220040757291 tw2968877238075749419 tw16160129890072220747 tw2608093039709036715 tw10278062531722064043 tw5685607748851970283 tw753880628532198667 tw14164176998357591339 tw12662753723499023691 tw4093625536829145419 tw8987936774273941835 tw4344191954014566731 tw10803421641419056555 tw15743115063091302859 tw14791711084047786475 tw3378002243080518155 tw3006668124492995115 tw14645335210571753003 tw4450137103423445675 tw5196165279385056971 tw12635493464673184491:True)
 (tw648669526738567947 tw18173590355906185995 tw2363548160988828427 tw10759257784213202699 tw15575788688366254891 tw7138801307437862731 tw10513077378145629067 tw8227751342622211019 tw12649730025664621547 tw5897326511430592491 tw4816796994542127148 tw5919412785363215404 tw12741422397939873868 tw12173470888023626892 tw12737254811650204844 tw15125050910074588332 tw3578489106547924172 tw15845807515804888332 tw59178031831726508 tw2932783542294391276 tw742306056675375628 tw1639508520520894988 tw2628279856067974700 tw15588092804029063852 tw6791677913693701804 tw8114786966141879980 tw1716187851546255084 tw2139274698286289676 tw6903288679262510060 tw17794309535568756716 tw16042303116162649165 tw648775188520765549 tw4674286051035744365 tw12264363064419916909 tw2060450348041582701 tw12253612983988409453 tw1176341097614528653 tw9478557220716511437 tw10546355086662632653 tw16941172395935215821:True)
 (tw3438000298122279117 tw9117761169620565197 tw15421118725143360749 tw9321483149334475053 tw2841985564130269517 tw17444332170407725453 tw6779488571361462701 tw15990545028977722829 tw1429452314895878605 tw2331508364566566349 tw9047954575370992237 tw9404117171263170221 tw6399928001179172557 tw16700715531569023693 tw921862699160523469 tw9483953565330124557 tw15529662776140790541 tw17783333219110062893 tw14064549555537554253 tw14078357796658062189 tw3191492729840029549 tw5521815147702391725 tw5250436242986070957 tw1625711842911520782 tw12129026782467675150 tw1052309133093647470 tw3665864472425785454 tw653252922054475918 tw8935748165698661550 tw15255791983944324270 tw991005991631024334 tw15687883605438421230 tw6133188007584691470 tw3169708524320925998 tw10115375538910681390 tw13781050370783715662 tw9112379295457165774 tw213299733293521358 tw14807531901671051758 tw16995436273479173646:True)
 (tw62803067880863246 tw6789510673487440494 tw790459907003126446 tw6446509136318980782 tw9238002208904932014 tw4554071987810604814 tw12628299227374267150 tw7098799607281552174 tw10890405813111404334 tw9919385279590533966 tw16807827892735978318 tw16798689999353229166 tw3122701028041373550 tw9963490673570502542 tw18084018344128733070 tw3593062222820073454 tw8955784239957634030 tw17924834929635950607 tw11636089880864464911 tw17449262286715634703 tw13086650232961175599 tw8956277982681601071 tw7983619127637369903 tw5300103973435734063 tw557458637762511951 tw17755178714671167663 tw9186104648433251535 tw3424339964016353487 tw2409476120082815215 tw12001979670351824143 tw1805449286415871247 tw1055808057198796079 tw16524454350301939119 tw2849525599838352879 tw14260773896916174351 tw15382128179513637391 tw4533833714692474415 tw11558165487798462063 tw1480569285704019567 tw10715492857073335951:True)
 (tw3808675367640552111 tw50626387677651663 tw8990839347785091791 tw12913329223668981455 tw4788632108228526831 tw817602846212807439 tw6902843393320586127 tw13520899823968535503 tw18162062186125947855 tw6410582920661935087 tw16204700975549242351 tw10500303078170992688 tw7434693726946417712 tw4833315905246026832 tw9695176484449751152 tw9501044274585679984 tw1910038200798347440 tw16513177076236912848 tw13519042674890586320 tw13711693185642482928 tw2791984570174949648 tw3809676072021518640 tw1403319868774040976 tw1586047242942555568 tw3310819312310580656 tw17851056941559362064 tw11846429231176027664 tw15771936881634185808 tw12699094090932140624 tw13997049440776671824 tw393786628827168432 tw9290739046105538320 tw5659581063927529264 tw17704377354612047728 tw16661611595420204912 tw15601186753597649904 tw15949069950555962352 tw18151833580592592913 tw3178020690506825841 tw6104786758154937457:True)
 (tw13400522548416062609 tw15649857270358582417 tw12886583347690521745 tw12220760273467558033 tw13953811265221447825 tw9719252984978668689 tw1578469201566199985 tw11806118498878831825 tw3105974231816149233 tw2131676121433447665 tw10959996741002538289 tw16532462669982082385 tw13276703200639222129 tw15167292849890646385 tw10558903741243713937 tw2727191456522336657 tw9248587450143867345 tw13117747270223148497 tw6268591182785529361 tw15800717485101109777 tw16378530967056839217 tw6720528430752272977 tw1444343286163242609 tw3742167912862355121 tw13006958605367290609 tw1325836350212928241 tw18023797065571796785 tw9690777767314515761 tw4722204441616897905 tw10550981325428029329 tw15407437599369179057 tw8013972791064500242 tw12204325432608610322 tw18063680808168705138 tw13976290922654309554 tw15633831758609172658 tw15888146860317577458 tw17803830210964021490 tw7515100228339164434 tw813571986314807602:True)
 (tw663035072103511410 tw16107131119417572754 tw5588262929165424114 tw3549173969717082642 tw15701437645041963570 tw12265574690414603826 tw15793414535729850002 tw3553899066592604818 tw3456579740366478034 tw14568994295486727890 tw10485408161861809938 tw3494510100687674130 tw17709370991447533330 tw2402734929345071922 tw7580667581602456370 tw16797704718386168658 tw14039557311316083538 tw14236933486715529042 tw9319810272673594258 tw17155276524043497362 tw12216245196676750290 tw3289316803643317234 tw2273023129056284691 tw292453465715743827 tw8031928220994688083 tw5512573044558839923 tw12894348172756600947 tw7379600743112435827 tw14995376753338618035 tw7658385165803093235 tw10621913957200962867 tw8353093601971983667 tw7987711327316073843 tw16911391848293781907 tw5304647425483052499 tw13927004513647206963 tw545144902304239219 tw11356345672488627827 tw10415852586472832755 tw8256404256488631155:True)
 (tw926165231979744276 tw15350031122511336564 tw11121376024594223316 tw481415618157558004 tw2689747480802072852 tw17007355549797085460 tw3786430618246038868 tw7405196092535561620 tw12847940411968556468 tw15109368470785826324 tw11610506345648165428 tw8944077697688907316 tw11576396928467821108 tw16361979621066205812 tw13545436889715868340 tw986887855916892852 tw13864239399485402804 tw12195911855232495348 tw11355619924696087348 tw9316503408604888980 tw12556118917090829204 tw9853426341331621812 tw14122187716066753492 tw12457983535543469141 tw5270107423413134613 tw11084174529753853237 tw7665227729002017077 tw15862754542836614485 tw15865021837603908949 tw18076625251627523509 tw5777508435573183957 tw17454286526532271669 tw15452763596694936117 tw18179209709114650165 tw14543482901701558901 tw15184034649716104853 tw1614796381451133653 tw15075763798938011413 tw6737620719107761973 tw6114445917630339925:True)
 (tw3458214317198261077 tw4211431424291388341 tw4076115340098946005 tw5055710630609180629 tw3148075567446538262 tw3916209955631571094 tw16114218543573188758 tw15581951746979861718 tw6341821930172020950 tw17752672287282601206 tw16586371549048342806 tw4558930950880242966 tw6238028252592664854 tw17715489521388633462 tw6044427395952365942 tw8059429427602431382 tw7476953444314874294 tw14891189504732500406 tw517575663100813750 tw849305106692608470 tw16741608646573939158 tw8242909489115126262 tw14541284677297016342 tw5781956623177968150 tw3218391617162115670 tw13758255610202791542 tw15776849410775072374 tw17181557873127663254 tw15102916243091691158 tw9463875794034126518 tw15216799484250483414 tw7229462546928170710 tw13709547488703387414 tw4648929093847819094 tw10545457764692450230 tw4139996922230482934 tw13497787282796129270 tw16845258716510635095 tw12645314912617043063 tw9177022800365797495:True)
 (tw3476628670857374871 tw17231631728902698167 tw16527934054538968247 tw740633043516924151 tw12212216652063672599 tw11065367705317646615 tw6782602503535582583 tw540565489055951223 tw18406473962290609527 tw1451873683307662743 tw8827500639795283415 tw18023642669158024663 tw18174692907917877751 tw7623242599318360759 tw12765908665429244599 tw2588375309057940183 tw4552232517386733303 tw16641232219973423863 tw343332740169933559 tw13255025574910679799 tw14987588647976437527 tw2448848374338583319 tw693601453291545399 tw7940966978120664887 tw918311929959476055 tw11794535009089503127 tw11180103994734176151 tw7368395452184040375 tw16145205164133308375 tw7401859591531274328 tw14302691068370966616 tw12419520128746986616 tw13831141301753619608 tw15676988415582276792 tw5993806851081931960 tw2407021932349690040 tw14389562815072799000 tw15592325166692152600 tw1096836149632380248 tw4869145904298331544:True)
 (tw7921212090178205176 tw6603998983894875704 tw8414213777759157816 tw236703520323559992 tw10758961518316465752 tw3660147170221791896 tw7106462697506228920 tw2156113089920855736 tw941370589188459224 tw18214710278740752120 tw14389662507866119928 tw4015387957997990744 tw14808717618771541912 tw13033601522117554072 tw13383760435464729528 tw4483936914930137048 tw16638496996192550872 tw16066864445586454553 tw1964794250916640825 tw14682501122327693433 tw12460135452417085561 tw10193424813161314457 tw66190773708880089 tw12123826678578661625 tw2693154813641142617 tw3292466053560620377 tw4258376390483415417 tw11533025105127824793 tw1323369905608226233 tw4765055359866647033 tw8119851177409130009 tw15096525941457968665 tw8468647136375897625 tw15046161136917110329 tw735391399635963513 tw5942142233891137145 tw18083717865137959545 tw6194175663901858489 tw5053981632249259705 tw7759464432298724057:True)
 (tw7846810857437889273 tw1463743160759801593 tw3541683272601569049 tw10902331495963620121 tw5788437728301852633 tw16869458657041034233 tw7962462549888218105 tw15284963361431206905 tw14876200565222348826 tw1216002563634987066 tw5306430122065601722 tw8981478187214424250 tw12112745257205240058 tw697673356159982874 tw15850318923509352794 tw9271214526015839610 tw10564399208560275834 tw8719316411573490074 tw7844660770611329434 tw18239540225803852218 tw18257633483338401210 tw2350231325004368346 tw11206665272272947706 tw8152051371052600826 tw15417216397923877402 tw4202160373910020634 tw5835523936916278842 tw14888004580145113690 tw4743991755260955290 tw4315579755499346586 tw13172883061512382170 tw15510738486322909946 tw10987951005404192506 tw12799758970615089946 tw3342713723092522810 tw981392264657333082 tw14331285775354660730 tw2957851895915986810 tw10019273336870409114 tw12555612368804549530:True)
 (tw14975587967661309850 tw13488404588407527386 tw3930192411081532378 tw15649319245725985786 tw5598951527561828379 tw10465230464955857947 tw478176784878550075 tw18002046022212145243 tw12995024602630314075 tw10433952224228832347 tw17669948264059023515 tw14351664769398140059 tw10756643310454899899 tw4094835670310030555 tw12126798796081831131 tw10779350663887212763 tw11252443322445710651 tw3559178635921487259 tw6031348509261316539 tw2199781200684345787 tw1624011851400571323 tw15773154510432629243 tw8830027675136831003 tw10003426369439870523 tw5358473709298340443 tw3366017279734306427 tw3962752214420567707 tw9647658632908740283 tw9122553863791316699 tw2995006547492203227 tw6195852239266008827 tw10072027466249765691 tw3670590989197801275 tw4645292030337323899 tw2701831664614169499 tw9889602231413283771 tw11205707198254433211 tw4468166042080201659 tw836320753221654556 tw1241499694095590428:True)
 (tw9399510158141587612 tw2792745719083805852 tw9263421894503586972 tw1581231785554410652 tw18218902145011197148 tw15840797552337692924 tw6325482257100819708 tw11489309259281391868 tw16029063399521787164 tw10197312140409142556 tw4745815677334073660 tw8092288969140034876 tw16126292519244369276 tw1577481925219469692 tw3661893484099886460 tw12655524530284927420 tw11239993767922474428 tw16537216096538846652 tw10836846514315861500 tw318719823509020252 tw18149443023318628988 tw12799565171926084316 tw9707959194885751580 tw1913304915171853084 tw2775303716019261212 tw3062563412749611804 tw6892467364411057020 tw12235455842308646780 tw10121034276991235996 tw7304735224299204540 tw13597355571072719804 tw7847182111467542524 tw12199301426011150332 tw9047443749349287997 tw5214359762642829469 tw14040036504963484829 tw4728450021748875421 tw7904587444459677885 tw779068693683423421 tw17275614338935677117:True)
 (tw5474696787818409149 tw5685738865879470301 tw691965798539658493 tw6573567347464218877 tw5860409970992071965 tw7451446076444070173 tw10345594950255278365 tw8165878873014809949 tw4515581027670643037 tw8509303938219759997 tw9809949546364923261 tw465846483092265437 tw1432325706515605981 tw16767916123958603229 tw17389460545290490365 tw6499153427736403485 tw6654739330268293661 tw7721936817005194781 tw6875345764087823901 tw922389084559096381 tw10813956093365043869 tw1990066173978760861 tw17236131309123262109 tw2831351258402227901 tw2456567042819544765 tw3352570453191201501 tw2085268031237371613 tw9735698668284495613 tw15225270520103232253 tw8668434614885592861 tw3683663075831039805 tw12040868372974657341 tw16147483543734242173 tw17113935577603922813 tw7967386938118987645 tw2913030423016471421 tw11431050613429446686 tw9717195169853695070 tw389746422834403454 tw3748752682317981854:True)
 (tw17581553230154057886 tw3416754924407676062 tw14747172958680582334 tw9704189086067005630 tw1668884289519082718 tw17217633869823995134 tw4666803977139153246 tw8343976755169544574 tw9486941878627696030 tw1521750259952244158 tw12008088300169027006 tw8801854618940184030 tw3831875441860363742 tw15005212964258944574 tw12667089241256331934 tw13449943917437292190 tw8991365718500223774 tw8065281188602689374 tw8640893382264748894 tw12984168717843039102 tw11649440073135804286 tw7636415767334119294 tw1644985337964637118 tw4068796318734308286 tw14583568492052115390 tw15424573003630314462 tw13647471742491263966 tw18113601995806039006 tw14534557422941927455 tw4018033150909486143 tw4504169525031934015 tw14030890361479252031 tw9890078483266478175 tw11043418490684657759 tw17699303460464061535 tw6046606611188518079 tw6000109351755268319 tw13944717919993143551 tw3892078438254001439 tw4715932678358323487:True)
 (tw2529248733035658559 tw10560444950235484607 tw17530644629011455423 tw548066418820441535 tw9350846914641422783 tw8019724160200774143 tw5795916434597242367 tw6557882312088814303 tw2996768895540694751 tw14337236774424523487 tw11294765456906500831 tw10338539309623660255 tw18443213625239113503 tw8796670169737664287 tw10133739551318624031 tw10104003150227508031 tw12170482061308759871 tw2940125550633532255 tw10952636324761518975 tw2812805873152714655 tw15773869781175307199 tw2638894312614196159 tw15000878098824842207 tw11329284262959305695 tw3756768007461099519 tw13618412829638953398:True)
open PySem PySem.W PyProof.Rows
set_option maxRecDepth 100000 in
set_option maxHeartbeats 0 in
theorem PySem.Challenge.cw_mendfield_k45_census_counted_holds : PySem.Challenge.rw_mendfield_k45_census_counted.Holds := by
 w_on;o_law;k_head;(case hw=>w_witness2)
 k_fill
 refine HK45.walk (l:=PySem.Challenge.rw_mendfield_k45_census_counted) rfl rfl (λw h Y=>⟨PySem.W.km_in_of Y,PySem.W.km_tabs_of Y⟩) ?C ?F
 case C =>
  intro w h hX
  repeat' (first | exact List.forall_mem_nil _ | refine List.forall_mem_cons.mpr ⟨?_,?_⟩)
  all_goals first | (refine' HK45.ay1 hX ?a ?b ?l ?lk ?lp ?n ?e;(case a=>k_is);(case b=>k_is);(case l=>k_is);(case lk=>k_is);(case lp=>first | rfl | with_unfolding_all rfl);(case n=>kernel_rfl);(case e=>kernel_rfl)) | (refine' HK45.aA9 hX ?a ?b ?l ?lk ?lp ?n ?e;(case a=>k_is);(case b=>k_is);(case l=>k_is);(case lk=>k_is);(case lp=>first | rfl | with_unfolding_all rfl);(case n=>kernel_rfl);(case e=>kernel_rfl))
 case F =>
  intro w mg fa h KX G xV
  apply HK45.all_mk KX G xV
  iterate 192 (k_is)
  iterate 56 (apply L2.BA<;>k_is)
  iterate 4 (k_is)
  (first | rfl | with_unfolding_all rfl)
  (kernel_rfl)
  iterate 4 (k_is)
  (first | rfl | with_unfolding_all rfl)
  (kernel_rfl)
  iterate 3 (k_is)
  iterate 4 (first | k_is | rfl | decide)
  (k_exc)
  iterate 2 (first | k_is | rfl | decide)
  (k_exc)
  iterate 3 (first | k_is | rfl | decide)
  (decide)
