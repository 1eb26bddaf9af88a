import PyProof.Rows.All
import Wide.All
import OpenK.AllK
import Wide.FinOn
import Lean
import PyProof.EqAt
import PyProof.EqKinds
import PyProof.TupleCall
import PyProof.NeKinds
import PyProof.Rows.Range3
import PyProof.FitsBits
import PyProof.StationsW
import PyProof.NsDelKeeps
import PyProof.Rows.CatchOwn
import KE.KTryMore
import PyProof.ExcArgsOwn
import PyProof.ExcAttrAll.ValueError
import OpenK.KOwn
import PyProof.ZipIter
import PyProof.WalksEnum
import PyProof.EnumMake
import KE.KIntText
import PyProof.Conv_int
import PyProof.StrWalks
import PyProof.StrLawsFirst
import KE.KLam
import KE.KNestM
import KE.KRevIter
import PyProof.ListRange
import PyProof.Rows.SortWalk
import PyProof.Rows.SetFrom
import PyProof.FactsAll.set
import PyProof.Rows.SeqMore
import PyProof.FString
import PySem.Challenge.RW_mendfield_k26_whole_root_nearest
open Array renaming length_toList→xV,append_assoc→AZ,getElem?_eq_some_iff→Q8,toList_append→dj3
open Bool renaming and_eq_true→dY,false_ne_true→eF,or_true→jb,and_true→jA,true_and→mG,false_and→tR,or_false→tW,eq_iff_iff→tZ,not_false→yr,not_true→yt,true_or→yu,false_or→yv,false_eq_true→yw
open Classical renaming byContradiction→di3
open Decidable renaming byContradiction→Ft
open False renaming elim→fO
open ForInStep renaming yield→Fd
open Int renaming toNat_natCast→gD,emod_nonneg→gR,natAbs_natCast→iJ,emod_lt_of_pos→jC,natCast_emod→mJ,toNat→om,natCast_add→qG,toNat_of_nonneg→qH,natCast_mul→yk,emod_eq_of_lt→Bi,natCast_nonneg→Q1,zero_add→Rm,zero_emod→Rq,sub_eq_add_neg→Ry,mul_comm→Rz,fdiv_eq_ediv_of_nonneg→dh7
open List renaming getElem?_eq_getElem→aJ,getD_eq_getElem?_getD→aL,range→aS,replicate→aV,length_map→bE,mem_append→bW,mem_cons→bX,getElem?_map→cm,mem_map→cH,all_eq_true→cU,map_map→dh,size_toArray→du,getElem_mem→dv,mem_range→dA,length_cons→dO,map_cons→dP,zipWith→dZ,mem_cons_of_mem→eE,length_append→eG,length_range→eH,all_cons→eN,mem_append_right→fB,append_assoc→fC,lookup_cons→gq,mem_cons_self→gP,mem_append_left→gQ,length_replicate→ib,getElem_of_mem→ie,not_mem_nil→ig,getElem?_eq_some_iff→iF,nodup_cons→iG,mem_singleton→iH,getElem?_eq_none→ja,length_take→jz,zip→jB,set_cons_zero→jD,set_cons_succ→jE,map_append→jW,getElem?_range→jX,length_zipWith→jY,map_nil→kU,all_map→kX,mem_filter→mx,lookup→my,length_set→mB,nil_append→mC,cons.inj→mH,take_add_one→mI,getElem?_zipWith→mK,append_nil→n9,take_length→og,perm_append_comm→oh,all_nil→oi,map_congr_left→oj,map_replicate→oo,of_mem_zip→qq,replicate_succ→qw,foldl_cons→qy,map_zipWith→qE,cons_append→qF,getElem?_replicate→tU,length_drop→tV,flatten_cons→tX,length_zip→t8,contains_iff_mem→t9,nodup_range→ua,getElem?_cons_zero→ub,getElem?_cons_succ→ud,cons.injEq→uf,getElem?_set_ne→xU,getElem?_append_right→xX,getElem?_append_left→xY,mem_of_getElem?→xZ,take_of_length_le→x6,mem_replicate→x8,mem_of_mem_take→ya,zipWith_map→yc,getElem?_mapIdx→yd,mem_or_eq_of_mem_set→yf,sum_cons→yj,filter_cons_of_pos→yn,length_nil→yq,filterMap_cons→AY,length→A7,length_singleton→A9,any_eq_true→Bf,mem_of_mem_drop→Bg,getElem?_take→Bh,length_reverse→Bk,foldl_append→Bp,filter_cons_of_neg→Bt,append_eq_nil_iff→Fh,append_inj→Fj,length_pos_iff→Fm,ext_getElem?→Fo,map→Fp,mem_map_of_mem→Fq,getElem_inj→QY,getElem?_set_self→QZ,nodup_append→Rb,Sublist.refl→Rc,set_set→Rh,map_drop→Ri,map_take→Rj,drop_eq_nil_of_le→Rk,ext_getElem→Ro,zipWith_cons_cons→Rp,drop_eq_getElem_cons→Rt,map_set→Ru,getElem_map→Rv,mem_filterMap→dh6,set_eq_of_length_le→di5,eq_nil_iff_forall_not_mem→di6,filter_eq_self→di7,range_succ_eq_map→di9,mem_of_find?_eq_some→dj0,dropLast_cons_of_ne_nil→dj1,getElem_zipWith→dj2,zip_cons_cons→dj4,getElem?_reverse→dj5,reverse_append→dj6,sublist_cons_self→dj7,getElem?_append→dj9,findIdx_lt_length_of_exists→dk0,findIdx?_eq_some_iff_getElem→dk1,findIdx?_eq_none_iff→dk2,reverse_reverse→dk3,length_filter_le→dk4
open Nat renaming le_refl→bI,lt_of_lt_of_le→cT,le_trans→eM,lt_irrefl→fA,ne_of_lt→fN,shiftLeft_eq→jV,zero_le→kT,xor_zero→kW,mul_comm→mD,testBit_xor→mE,lt_of_le_of_lt→mF,zero_xor→oa,pow_succ→qA,xor_assoc→qB,min_self→qD,lt_or_ge→qI,mul_assoc→tY,mod_lt→t7,two_pow_pos→x4,min_eq_left→yb,not_lt→ye,mul_mod→yg,mod_eq_of_lt→yh,mod_add_mod→yi,not_lt_zero→ym,le_of_lt→AX,le_of_eq→A6,add_comm→Ba,pow_le_pow_right→Bb,eq_of_testBit_eq→Bc,testBit_zero→Bd,xor_self→Be,zero_add→Bj,sub_self→Bo,le_of_succ_le→Bq,succ.inj→Br,lt_succ_self→E5,testBit_lt_two_pow→E8,testBit_succ→E9,strongRecOn→Fb,add_assoc→Fl,one_shiftLeft→Fu,ne_of_gt→Q0,log2_lt→Q3,lt_trans→Q4,xor_comm→Q5,testBit_and→Q6,sub_zero→Ra,lt_succ_of_lt→Rl,mod_mod→Rn,le_max_left→Rw,add_sub_cancel_left→Rx,testBit_eq_decide_div_mod_eq→dh9,shiftLeft_xor_distrib→di0,mul_lt_mul_right→di1,testBit_shiftLeft→di2,shiftRight_eq_div_pow→di4,exists_eq_add_of_le→dj8
open Ne renaming symm→fe
open Option renaming some.inj→cQ,getD_none→qv,getD_some→qC,some.injEq→ue,map_eq_some_iff→x9,map_some→yo,map_none→yp,isSome_iff_exists→dh8,toList_some→di8
open Or renaming inl→ah,inr→bw
open Prod renaming ext→Bl
open PyProof renaming Rows.callWith_type1→xW
open PySem renaming Heap.lt_size→bS,PassesOwn.never→dB,Heap.get?_push_of_some→ff,Value.ref→fw,Heap.get?_push_size→gk,Builtin.bitAnd→nZ,Builtin.bitXor→n8,Value.int→qo,Value.none→qp,Heap.get?_update_other→qu,Heap.size_push→tT,Obj.mapSeq→A8,Value.bool→E4,Heap.get?_update_self→E6,SeqAt.EqAt→E7,Builtin.Int.intBits→Fc,Obj.data_mapFields→Fe,Value.type.inj→Ff,Builtin.Str.strSliceIndices→Fg,NameKind.cell→Fs,Builtin.List.listTooLong→Q2,Obj.isFreed_of_fields→Q7,Heap.MadeExcOf→Q9,Calls.Name_function_global→dh5
open Sum renaming inl→tP,inr→tQ
open True renaming intro→tS
set_option Elab.async false
set_option linter.all false
set_option maxRecDepth 100000
local macro_rules | `(tactic| omega)=>`(tactic| lia)
namespace L2
open PySem PySem.Spec PyProof.Rows
noncomputable abbrev Key:=Sum Int Str
noncomputable def RA:Key->Value->Bool
 | .inl k,v=>Value.isInt k v
 | .inr x,v=>Value.isStrOf x v
noncomputable def c95(w:World):Key->Int
 | .inl k=>hashInt k
 | .inr x=>hashStr w x
theorem mL:∀{k:Key} {v:Value},RA k v=true->(∃i t,k=tP i/\v=qo i t)\/(∃x t,k=tQ x/\v=Value.str x t)
 | .inl i,v,h=>by
  obtain⟨t,e⟩:=Value.isInt_shape (k:=i) (v:=v) h
  exact .inl ⟨i,t,rfl,e⟩
 | .inr x,v,h=>by
  obtain⟨t,e⟩:=Value.isStrOf_shape (x:=x) (v:=v) h
  exact .inr ⟨x,t,rfl,e⟩
theorem cQ9(a b:Int):decide ((tP a:Key)=tP b)=(a==b):=by
 by_cases e:a=b
 ·subst e;simp
 ·have h:¬ (tP a:Key)=tP b:=λq=>e (Sum.inl.inj q)
  rw[decide_eq_false h]
  exact(beq_eq_false_iff_ne.mpr e).symm
theorem cN6(a b:Str):decide ((tQ a:Key)=tQ b)=decide (a=b):=by
 by_cases e:a=b
 ·subst e;simp
 ·have h:¬ (tQ a:Key)=tQ b:=λq=>e (Sum.inr.inj q)
  rw[decide_eq_false h,decide_eq_false e]
theorem cT9(a:Int)(b:Str):decide ((tP a:Key)=tQ b)=false:=decide_eq_false (λq=>nomatch q)
theorem cO8(a:Str)(b:Int):decide ((tQ a:Key)=tP b)=false:=decide_eq_false (λq=>nomatch q)
noncomputable def RB(prog:Program)(w:World):PySem.KeyKind prog w Key where
 is:=RA
 hash:=c95 w
 inj:=λv a b ha hb=>by
  rcases mL ha with⟨i,t,rfl,rfl⟩ | ⟨x,t,rfl,rfl⟩
  ·rcases mL hb with⟨j,u,rfl,e⟩ | ⟨y,u,rfl,e⟩
   ·injection e with e1 _;rw[e1]
   ·exact nomatch e
  ·rcases mL hb with⟨j,u,rfl,e⟩ | ⟨y,u,rfl,e⟩
   ·exact nomatch e
   ·injection e with e1 _;rw[e1]
 byValue:=λk v h=>by
  rcases mL h with⟨i,t,rfl,rfl⟩ | ⟨x,t,rfl,rfl⟩<;>rfl
 pyHash:=λhv h=>by
  rcases mL hv with⟨i,t,rfl,rfl⟩ | ⟨x,t,rfl,rfl⟩
  ·exact wpAny_pyHash_int h
  ·exact wpAny_pyHash_str h
 eqBool:=λhu hv h=>by
  rcases mL hu with⟨i,t,rfl,rfl⟩ | ⟨x,t,rfl,rfl⟩
  ·rcases mL hv with⟨j,u,rfl,rfl⟩ | ⟨y,u,rfl,rfl⟩
   ·rw[cQ9]at h;exact wpAny_eqBool_int h
   ·rw[cT9]at h;exact SeqAt.EqAt.int_str i t y u _ _ _ _ h
  ·rcases mL hv with⟨j,u,rfl,rfl⟩ | ⟨y,u,rfl,rfl⟩
   ·rw[cO8]at h;exact SeqAt.EqAt.str_int x t j u _ _ _ _ h
   ·rw[cN6]at h;exact wpAny_eqBool_str h
 «strs»:=λk x t v h=>by
  rcases mL h with⟨i,u,rfl,e⟩ | ⟨y,u,rfl,e⟩
  ·exact nomatch e
  ·injection e with e1 _
   subst e1
   cases v<;>rfl
end L2
namespace L2
open PySem PySem.Spec PyProof.Rows
inductive V where
 | ax | bl (b:Bool) | int (i:Int) | str (x:Str) | Bu (b:Array UInt8) | qJ (b:UInt64) | ref (a:Addr) | ty (n:String)
 deriving DecidableEq
noncomputable def RelV:V->Value->Prop
 | .ax,u=>u=qp
 | .bl b,u=>u=E4 b
 | .int i,u=>∃t,u=qo i t
 | .str x,u=>∃t,u=Value.str x t
 | .Bu b,u=>∃t,u=Value.bytes b t
 | .qJ b,u=>∃t,u=Value.float b t
 | .ref a,u=>u=fw a
 | .ty n,u=>u=Value.type n
noncomputable abbrev Vals:List V->List Value->Prop:=Paired RelV
theorem Vals.length{xs:List V}{us:List Value}(r:Vals xs us):xs.length=us.length:=Paired.length r
theorem Vals.get:∀{xs:List V} {us:List Value} {i:Nat} {x:V},Vals xs us->xs[i]?=some x->∃u,us[i]?=some u/\RelV x u
 | _,_,_,_,.nil,e=>by simp at e
 | _,_,0,_,.cons r _,e=>by simp at e;subst e;exact⟨_,rfl,r⟩
 | _,_,i+1,x,.cons _ t,e=>by
  obtain⟨u,h1,h2⟩:=Vals.get (i:=i) (x:=x) t (by simpa using e)
  exact⟨u,by simpa using h1,h2⟩
theorem Vals.set{x:V}{u:Value}(r:RelV x u):∀{xs:List V} {us:List Value} (i:Nat),Vals xs us->Vals (xs.set i x) (us.set i u)
 | _,_,_,.nil=>.nil
 | _,_,0,.cons _ t=>.cons r t
 | _,_,i+1,.cons q t=>.cons q (Vals.set r i t)
theorem Vals.append:∀{xs ys:List V} {us ws:List Value},Vals xs us->Vals ys ws->Vals (xs++ys) (us++ws)
 | _,_,_,_,.nil,s=>s
 | _,_,_,_,.cons r t,s=>.cons r (Vals.append t s)
theorem Vals.take:∀{xs:List V} {us:List Value} (n:Nat),Vals xs us->Vals (xs.take n) (us.take n)
 | _,_,0,_=>.nil
 | _,_,_+1,.nil=>.nil
 | _,_,n+1,.cons r t=>.cons r (Vals.take n t)
theorem Vals.drop:∀{xs:List V} {us:List Value} (n:Nat),Vals xs us->Vals (xs.drop n) (us.drop n)
 | _,_,0,r=>r
 | _,_,_+1,.nil=>.nil
 | _,_,n+1,.cons _ t=>Vals.drop n t
noncomputable def kY:Option V->Option Value->Prop
 | some v,some u=>RelV v u
 | none,none=>True
 | _,_=>False
noncomputable def KV{κ:Type}:List (κ × V)->List (κ × Value)->Prop:=Paired λ(p:κ × V) (q:κ × Value)=>p.1=q.1/\RelV p.2 q.2
noncomputable def kV:Key->V
 | .inl i=>.int i
 | .inr x=>.str x
inductive HO where
 | lst (xs:List V)
 | tup (xs:List V)
 | dK (dD:List (Key × V)) | dT (dD:List (List Key × V))
 | set (S:Int->Bool) (n:Nat)
 | ins (C dx:Addr) (fs:List (Str × V))
 | own (x:Addr)
 | xd (fs:List (Str × V))
 | met (f x:Addr)
 | yx (lo hi:Int)
 | cg (o:Obj) (u:HO)
 | dw (ps:Array Value)
 | ext (φ:Heap->Prop)
noncomputable abbrev Hp:=Addr->Option HO
noncomputable def upd(H:Hp)(a:Addr)(o:HO):Hp:=λb=>if b=a then some o else H b
theorem cA{H:Hp}{a:Addr}{o:HO}:upd H a o a=some o:=by unfold upd;rw[if_pos rfl]
theorem bj{H:Hp}{a b:Addr}{o:HO}(h:b≠a):upd H a o b=H b:=by unfold upd;rw[if_neg h]
theorem fg{H:Hp}{a b:Addr}{o:HO}(h:H a=some o)(h':H b=none):a≠b:=by
 intro e;subst e;rw[h]at h';cases h'
section
variable(P:Program)(w:World)
noncomputable def eo(H:Hp)(h:Heap)(a:Addr):HO->Prop
 | .lst xs=>xs.length<=sizeLine/\∃(its:List Value) (n:Nat),Vals xs its/\h.get? a=some { cls:=.type "list",data:=.seq its.toArray n }
 | .tup xs=>xs.length<=sizeLine/\∃its:List Value,Vals xs its/\IsTup h a its.toArray
 | .dK dD=>dD.length<=sizeLine/\(a==sysModules)=false/\∃vs,KV dD vs/\h.DictOf (RB P w) a vs
 | .dT dD=>dD.length<=sizeLine/\(a==sysModules)=false/\∃xs:List (List Key × Addr × Value),
   Paired (λ(p:List Key × V) (q:List Key × Addr × Value)=>p.1=q.1/\H q.2.1=some (.tup (p.1.map kV))/\RelV p.2 q.2.2) dD xs /\
   ∃o es ep,h.get? a=some o/\o.ExactDict/\o.data=.dict es ep/\es.toList=xs.map (entryOfKey (tupleKind (RB P w)))/\(xs.map (·.1)).Nodup
 | .set S n=>h.SetOf (intKind P w) a S n
 | .ins C dx fs=>H dx=some (.own a)/\fs.length<=1000/\dx≠a/\h.get? a=some (PySem.W.instObj C dx) /\
   ∃mA,h.Ns1 dx mA/\(∀f,kY (fs.lookup f) (mA f))/\PySem.Within mA (fs.map (·.1))
 | .own _=>∃o,h.get? a=some o
 | .xd fs=>∃mA,h.Ns1 a mA/\∀f,kY (fs.lookup f) (mA f)
 | .yx lo hi=>∃t u v,h.get? a=some { cls:=.type "range",data:=.fields #[.int lo t,.int hi u,.int 1 v] }
 | .cg o u=>h.get? a=some o/\eo H h a u
 | .dw ps=>h.get? a=some { cls:=.none,data:=.fields ps }/\TriplesOk ps.toList/\∀pos cv,codeAmong pos ps.toList=some cv->∃c φ,cv=.ref c/\H c=some (.ext φ)/\∀h',φ h'->∃q,h'.CodeRec (.ref c) q
 | .met f x=>h.get? a=some (PySem.W.methodObj (.ref f) (.ref x))
 | .ext φ=>φ h/\(∃o,h.get? a=some o)/\∀h1 h2:Heap,φ h1->(∀b o,(b=a\/H b=some (.own a))->h1.get? b=some o->h2.get? b=some o)->φ h2
noncomputable def cJ(H:Hp)(h:Heap):Prop:=∀a o,H a=some o->eo P w H h a o
end
section
variable{P:Program}{w:World}{H H':Hp}{h h':Heap}{a:Addr}{o:HO}
theorem eo.lt(x:eo P w H h a o):a<h.objs.size:=by
 cases o with
 | lst xs=>obtain⟨_,_,_,_,e⟩:=x;exact bS e
 | tup xs=>obtain⟨_,_,_,p⟩:=x;exact p.lt
 | dK dD=>obtain⟨_,_,_,_,o,_,_,e,_⟩:=x;exact bS e
 | dT dD=>obtain⟨_,_,_,_,o,_,_,e,_⟩:=x;exact bS e
 | set S n=>obtain⟨o,_,_,_,e,_⟩:=x;exact bS e
 | ins C dx fs=>obtain⟨_,_,_,e,_⟩:=x;exact bS e
 | own y=>obtain⟨_,e⟩:=x;exact bS e
 | xd fs=>obtain⟨_,⟨_,_,_,e,_⟩,_⟩:=x;exact bS e
 | yx lo hi=>obtain⟨_,_,_,e⟩:=x;exact bS e
 | cg ob u=>obtain⟨e,_⟩:=x;exact bS e
 | dw ps=>exact bS (show h.get? a=some _ from x.1)
 | met f y=>exact bS (show h.get? a=some _ from x)
 | ext φ=>obtain⟨_,⟨_,e⟩,_⟩:=x;exact bS e
theorem Paired.Fv{α β:Type}{F G:α->β->Prop}:∀{l₁:List α} {l₂:List β},Paired F l₁ l₂->(∀a b,F a b->G a b)->Paired G l₁ l₂
 | _,_,.nil,_=>.nil
 | _,_,.cons r t,f=>.cons (f _ _ r) (Paired.Fv t f)
theorem eo.jZ(x:eo P w H h a o)(k:∀b u,(b=a\/H b=some (.own a))->h.get? b=some u->h'.get? b=some u)
  (ho:∀b,H b=some (.own a)->H' b=some (.own a)) (ht:∀b xs,H b=some (.tup xs)->H' b=some (.tup xs)) (hx:∀b φ,H b=some (.ext φ)->H' b=some (.ext φ)):eo P w H' h' a o:=by
 induction o with
 | lst xs=>obtain⟨z,its,n,r,e⟩:=x;exact⟨z,its,n,r,k _ _ (.inl rfl) e⟩
 | tup xs=>obtain⟨z,its,r,ob,e,c⟩:=x;exact⟨z,its,r,ob,k _ _ (.inl rfl) e,c⟩
 | dK dD=>obtain⟨z,y,vs,r,ob,es,ep,e,c⟩:=x;exact⟨z,y,vs,r,ob,es,ep,k _ _ (.inl rfl) e,c⟩
 | dT dD =>
  obtain⟨z,y,xs,r,ob,es,ep,e,c⟩:=x
  exact⟨z,y,xs,Paired.Fv r λp q z=>⟨z.1,ht _ _ z.2.1,z.2.2⟩,ob,es,ep,k _ _ (.inl rfl) e,c⟩
 | set S n=>obtain⟨ob,es,ep,t,e,c⟩:=x;exact⟨ob,es,ep,t,k _ _ (.inl rfl) e,c⟩
 | ins C dx fs =>
  obtain⟨d,z,ne,e,mA,⟨od,es,ep,e2,c⟩,r⟩:=x
  exact⟨ho _ d,z,ne,k _ _ (.inl rfl) e,mA,⟨od,es,ep,k _ _ (.inr d) e2,c⟩,r⟩
 | own y=>obtain⟨ob,e⟩:=x;exact⟨ob,k _ _ (.inl rfl) e⟩
 | xd fs=>obtain⟨mA,⟨od,es,ep,e,c⟩,r⟩:=x;exact⟨mA,⟨od,es,ep,k _ _ (.inl rfl) e,c⟩,r⟩
 | yx lo hi=>obtain⟨t,u,v,e⟩:=x;exact⟨t,u,v,k _ _ (.inl rfl) e⟩
 | cg ob u ih=>obtain⟨e,q⟩:=x;exact⟨k _ _ (.inl rfl) e,ih q⟩
 | dw ps =>
  obtain⟨e,t,c⟩:=x
  refine⟨k a _ (.inl rfl) e,t,λpos cv q=>?_⟩
  obtain⟨d,φ,e1,e2,e3⟩:=c pos cv q
  exact⟨d,φ,e1,hx _ _ e2,e3⟩
 | met f y =>
  have e:h.get? a=some (PySem.W.methodObj (.ref f) (.ref y)):=x
  show h'.get? a=some (PySem.W.methodObj (.ref f) (.ref y))
  exact k a _ (.inl rfl) e
 | ext φ=>obtain⟨p,⟨o,e⟩,st⟩:=x;exact⟨st _ _ p λb o hb q=>k _ _ hb q,⟨o,k _ _ (.inl rfl) e⟩,λh1 h2 p1 kk=>st h1 h2 p1 λb o hb q=>kk b o (hb.imp id (ho b)) q⟩
theorem cJ.lt(x:cJ P w H h)(e:H a=some o):a<h.objs.size:=(x a o e).lt
theorem cJ.fresh(x:cJ P w H h)(e:h.objs.size<=a):H a=none:=by
 cases q:H a with
 | none=>rfl
 | some u=>exact absurd (cT (x.lt q) e) (fA _)
theorem cJ.kept(x:cJ P w H h)(k:∀b u,h.get? b=some u->h'.get? b=some u):cJ P w H h':=λa o e =>
 (x a o e).jZ (λb u _ q=>k b u q) (λ_ q=>q) (λ_ _ q=>q) λ_ _ q=>q
theorem cJ.laid(x:cJ P w H h)(k:∀b u,h.get? b=some u->h'.get? b=some u)(hp:h.objs.size<=a)(new:eo P w (upd H a o) h' a o):cJ P w (upd H a o) h':=λb u e=>by
 have hn:=x.fresh hp
 by_cases hb:b=a
 ·subst hb;rw[cA]at e;cases e;exact new
 ·rw[bj hb]at e
  exact(x b u e).jZ (λc v _ q=>k c v q) (λc q=>by rw[bj (fg q hn)];exact q) (λc xs q=>by rw[bj (fg q hn)];exact q) λc xs q=>by rw[bj (fg q hn)];exact q
end
noncomputable def Rd(H:Hp)(a:Addr)(u:HO):Prop:=H a=some u\/∃o,H a=some (.cg o u)
theorem Rd.ok{P:Program}{w:World}{H:Hp}{h:Heap}{a:Addr}{u:HO}(r:Rd H a u)(x:cJ P w H h):eo P w H h a u:=by
 rcases r with r | ⟨o,r⟩
 ·exact x a u r
 ·obtain⟨_,q⟩:=x a _ r
  exact q
noncomputable def Bv:Option HO->Prop
 | some (.lst _)=>True
 | some (.dK _)=>True
 | some (.dT _)=>True
 | some (.set _ _)=>True
 | some (.ins _ _ _)=>True
 | _=>False
section
variable{P:Program}{w:World}{H:Hp}{h h':Heap}{x e:Addr}{o':HO}
theorem cJ.write(ok:cJ P w H h)(mu:Bv (H x))(he:e=x\/H e=some (.own x))(k:∀b u,b≠e->h.get? b=some u->h'.get? b=some u)(ug:∃u,h'.get? e=some u)
  (new:eo P w (upd H x o') h' x o'):cJ P w (upd H x o') h':=λb u q=>by
 have RC:∀c y,H c=some (.own y)->c≠x:=λc y r z=>by subst z;rw[r]at mu;exact mu
 have dl0:∀c xs,H c=some (.tup xs)->c≠x:=λc xs r z=>by subst z;rw[r]at mu;exact mu
 by_cases hb:b=x
 ·subst hb;rw[cA]at q;cases q;exact new
 ·rw[bj hb]at q
  by_cases qK:b=e
  ·have q':H b=some (.own x):=by
    rcases he with z | z
    ·exact absurd (qK.trans z) hb
    ·rw[qK];exact z
   rw[q]at q';cases q'
   obtain⟨v,hv⟩:=ug
   exact⟨v,by rw[qK];exact hv⟩
  ·refine(ok b u q).jZ (λc v hc r=>k c v ?_ r) (λc r=>by rw[bj (RC c b r)];exact r) (λc xs r=>by rw[bj (dl0 c xs r)];exact r) λc φ r=>by rw[bj (λz=>by rw[z]at r;rw[r]at mu;exact mu)];exact r
   rcases hc with rfl | hc
   ·exact qK
   ·rintro rfl
    rcases he with z | z
    ·exact RC c b hc z
    ·rw[hc]at z;cases z;exact hb rfl
end
structure Un(fs ex:List Addr)(H H':Hp)(h h':Heap):Prop where
 keep:∀b o,h.get? b=some o->H b=none->b ∉ fs->b ∉ ex->h'.get? b=some o
 slot:∀b o,h.get? b=some o->H b=none->b∈fs->b ∉ ex->∃sl,h'.get? b=some { o with slots:=sl }
 free:∀b o,h.get? b=some o->H b=none->b ∉ ex->H' b=none
 there:∀b o,h.get? b=some o->b ∉ ex->∃o',h'.get? b=some o'
 jF:∀b xs,H b=some (.tup xs)->H' b=some (.tup xs)
 jc:∀b o u,H b=some (.cg o u)->H' b=some (.cg o u)
 ij:∀b ps,H b=some (.dw ps)->∃more,H' b=some (.dw (ps++more))
section
variable{fs fs' ex ex':List Addr}{H H1 H2:Hp}{h h1 h2 h':Heap}{a x e:Addr}{o:HO}
theorem Un.any(u:Un fs ex H H1 h h1){b:Addr}{ob:Obj}(q:h.get? b=some ob)(n:H b=none)(hx:b ∉ ex):∃sl,h1.get? b=some { ob with slots:=sl }:=by
 by_cases hb:b∈fs
 ·exact u.slot b ob q n hb hx
 ·exact⟨ob.slots,u.keep b ob q n hb hx⟩
theorem Un.kept(k:∀b u,h.get? b=some u->h'.get? b=some u):Un fs ex H H h h' :=
 ⟨λb ob q _ _ _=>k b ob q,λb ob q _ _ _=>⟨ob.slots,k b ob q⟩,λ_ _ _ n _=>n,λb ob q _=>⟨ob,k b ob q⟩,λ_ _ q=>q,λ_ _ _ q=>q,λ_ ps q=>⟨#[],by rw[q];simp⟩⟩
theorem Un.refl:Un fs ex H H h h:=Un.kept λ_ _ q=>q
theorem Un.laid(k:∀b u,h.get? b=some u->h'.get? b=some u)(hp:h.objs.size<=a)(hn:H a=none):Un fs ex H (upd H a o) h h' where
 keep:=λb u q _ _ _=>k b u q
 slot:=λb u q _ _ _=>⟨u.slots,k b u q⟩
 free:=λb u q n _=>by rw[bj (fN (cT (bS q) hp))];exact n
 there:=λb u q _=>⟨u,k b u q⟩
 jF:=λb xs q=>by rw[bj (fg q hn)];exact q
 jc:=λb u xs q=>by rw[bj (fg q hn)];exact q
 ij:=λb ps q=>⟨#[],by rw[bj (fg q hn),q];simp⟩
theorem Un.write(mu:Bv (H x))(he:e=x\/H e=some (.own x))(k:∀b u,b≠e->h.get? b=some u->h'.get? b=some u)(ug:∃u,h'.get? e=some u):Un fs ex H (upd H x o) h h':=by
 have hx:∀b,H b=none->b≠x:=λb n z=>by subst z;rw[n]at mu;exact mu
 have hb:∀b,H b=none->b≠e:=λb n z=>by
  subst z
  rcases he with r | r
  ·exact hx b n r
  ·rw[n]at r;cases r
 have hm:∀b u,H b=some u->¬ Bv (some u)->b≠x:=λb u q nm z=>by subst z;rw[q]at mu;exact nm mu
 refine⟨λb u q n _ _=>k b u (hb b n) q,λb u q n _ _=>⟨u.slots,k b u (hb b n) q⟩,λb u q n _=>by rw[bj (hx b n)];exact n,λb u q _=>?_,
  λb xs q=>by rw[bj (hm b _ q λz=>z)];exact q,λb u xs q=>by rw[bj (hm b _ q λz=>z)];exact q,λb ps q=>⟨#[],by rw[bj (hm b _ q λz=>z),q];simp⟩⟩
 by_cases qK:b=e
 ·subst qK;exact ug
 ·exact⟨u,k b u qK q⟩
end
noncomputable def Bw(h:Heap)(H:Hp):List Addr:=(aS h.objs.size).filter λa=>(H a).isSome
noncomputable def kZ(h:Heap)(H:Hp):Heap:=PySem.W.hideAll h (Bw h H)
theorem b91(h:Heap)(H:Hp):(kZ h H).objs.size=h.objs.size:=PySem.W.hideAll_size _ _
theorem cn7{h:Heap}{H:Hp}{b:Addr}{o:Obj}(e:h.get? b=some o)(n:H b=none):(kZ h H).get? b=some o :=
 PySem.W.hideAll_get _ e λhm=>by
  have q:(H b).isSome=true:=(mx.mp hm).2
  rw[n]at q;simp at q
theorem cJ1{h:Heap}{H:Hp}{b:Addr}{o:Obj}(e:(kZ h H).get? b=some o):h.get? b=some o/\H b=none:=by
 have e':h.get? b=some o:=PySem.W.of_hideAll (Bw h H) e
 refine⟨e',?_⟩
 cases q:H b with
 | none=>rfl
 | some x =>
  have hm:b∈Bw h H:=mx.mpr ⟨dA.mpr (bS e'),by simp[q]⟩
  have z:(kZ h H).get? b=none:=PySem.W.hideAll_none (Bw h H) hm
  rw[z]at e;cases e
end L2
namespace L2
open PySem PySem.Spec PyProof.Rows
structure Mod(K:PySem.W.Frag)(mg:Str->Option Value)(base:Heap):Prop where
 mM:K.In base
 glob:base.Ns mainGlobals mg
 blt:∃mb,base.Ns builtinsNs mb/\∀x:Str,x≠"__name__"->mb x=bootBuiltins x
 nolimit:base.NoLimit
structure Cx where
 prog:Program
 w:World
 K:PySem.W.Frag
 mg:Str->Option Value
 base:Heap
 A:Around
 N:List Str
 cK:Shared
 j8:Hp
 env:Env
 outer:List Env
 stack:List Env
 ex:List Addr
 fn:Str->Bool
 calm:Bool
 pn:List (Addr × Obj)
 xe:Value->Shared->Prop
noncomputable def eA(l:List Env):List Addr:=l.filterMap (·.frame)
noncomputable abbrev Cx.fs(X:Cx):List Addr:=eA X.outer
noncomputable def lh(sc:Scope)(x:Str):Prop:=sc.names.lookup x=some .local\/sc.names.lookup x=some .cell\/sc.names.lookup x=some .free
noncomputable def Loc(sc:Scope)(x:Str):Prop:=sc.names.lookup x=some .local\/sc.names.lookup x=some .cell
noncomputable def da1(env:Env)(h:Heap)(m:Str->Option Value)(x:Str)(u:Value):Prop :=
 (env.kindOf x=some .local/\m x=some u)\/((env.kindOf x=some .cell\/env.kindOf x=some .free)/\∃c,env.cells.lookup x=some c/\h.IsCell c (some u))
structure Cx.Ok(X:Cx):Prop where
 mod:Mod X.K X.mg X.base
 kind:X.env.scope.kind=.function
 glob:X.env.globals=mainGlobals
 blt:X.env.builtins=builtinsNs
 above:X.cK.heap.objs.size<=X.env.locals
 inj:∀x y c,X.env.cells.lookup x=some c->X.env.cells.lookup y=some c->x=y
 has:∀x,(X.env.kindOf x=some .cell\/X.env.kindOf x=some .free)->∃c,X.env.cells.lookup x=some c
 qL:∀x c,X.fn x=true->X.env.cells.lookup x=some c->X.cK.heap.objs.size<=c
 hd:X.calm=true->X.A.handled=none
 frames:X.A.frames=some X.stack
 yy:X.stack=X.outer\/(X.stack=X.env::X.outer/\X.env.frame=some X.env.locals)
 yz:∀b∈X.ex,b≠X.env.locals/\∀x c,X.env.cells.lookup x=some c->c≠b
 bs:∀b o,X.base.get? b=some o->X.cK.heap.get? b=some o/\X.j8 b=none
 jG:X.base.objs.size<=X.cK.heap.objs.size
 uh:∀b o,X.base.get? b=some o->b ∉ X.ex
 ui:∀b∈X.ex,b ∉ X.fs
 gE:X.cK.heap.FunFrames X.base X.outer
 jH:∀b∈X.fs,X.j8 b=none
structure Inv(X:Cx)(pins:List (Addr × Obj))(σ:List (Option V))(H:Hp)(s:Shared):Prop where
 ok:X.Ok
 os:s.os=X.cK.os
 bare:AllBare s.gens
 base:Un X.fs X.ex X.j8 H X.cK.heap s.heap
 loc:∃m,s.heap.Ns X.env.locals m/\∀(i:Nat) (x:Str) (v:V),X.N[i]?=some x->σ[i]?=some (some v)->lh X.env.scope x->∃u,RelV v u/\da1 X.env s.heap m x u
 cell:∀x c,X.env.cells.lookup x=some c->∃v,s.heap.IsCell c v
 free:H X.env.locals=none
 je:∀x c,X.env.cells.lookup x=some c->H c=none
 pin:∀p∈X.pn++pins,s.heap.get? p.1=some p.2/\H p.1=none/\p.1≠X.env.locals/\p.1 ∉ X.fs/\∀v,p.2.data≠.cell v
 aH:cJ X.prog X.w H s.heap
 len:σ.length=X.N.length
section
variable{X:Cx}{pins:List (Addr × Obj)}{σ:List (Option V)}{H H':Hp}{s:Shared}{h':Heap}
theorem Cx.Ok.dl6(ok:X.Ok){b:Addr}{o:Obj}(e:X.base.get? b=some o):b ∉ X.fs:=λhb=>by
 have:=(ok.gE.mem hb).1
 rw[e]at this;cases this
theorem Inv.bs(I:Inv X pins σ H s):∀b o,X.base.get? b=some o->s.heap.get? b=some o/\H b=none:=λb o e =>
 ⟨I.base.keep b o (I.ok.bs b o e).1 (I.ok.bs b o e).2 (I.ok.dl6 e) (I.ok.uh b o e),I.base.free b o (I.ok.bs b o e).1 (I.ok.bs b o e).2 (I.ok.uh b o e)⟩
theorem Inv.bk(I:Inv X pins σ H s):∀b o,X.base.get? b=some o->s.heap.get? b=some o:=λb o e=>(I.bs b o e).1
theorem Inv.mod(I:Inv X pins σ H s):Mod X.K X.mg X.base:=I.ok.mod
theorem Inv.di(I:Inv X pins σ H s):X.K.In s.heap:=I.ok.mod.mM.keeps I.bk
theorem Inv.lt(I:Inv X pins σ H s):X.env.locals<s.heap.objs.size:=let⟨_,hn,_⟩:=I.loc;hn.lt
theorem Inv.sz(I:Inv X pins σ H s):X.cK.heap.objs.size<=s.heap.objs.size:=eM I.ok.above (AX I.lt)
theorem Inv.RD(I:Inv X pins σ H s){a:Addr}(h:s.heap.objs.size<=a):a ∉ X.fs:=λhb=>by
 obtain⟨_,o,ho,_⟩:=I.ok.gE.mem hb
 exact absurd (cT (bS ho) (eM I.sz h)) (fA _)
theorem Inv.oq(I:Inv X pins σ H s):∀x c,X.env.cells.lookup x=some c->c≠X.env.locals:=λx c e z=>by
 obtain⟨v,o,ho,hd⟩:=I.cell x c e
 obtain⟨m,⟨o',es,ep,j9,ot,_⟩,_⟩:=I.loc
 rw[z,j9]at ho;cases ho;rw[ot]at hd;cases hd
theorem Inv.gE(I:Inv X pins σ H s):s.heap.FunFrames X.base X.outer:=by
 have all:∀(l:List Env),(∀b∈eA l,b∈X.fs)->X.cK.heap.FunFrames X.base l->s.heap.FunFrames X.base l:=by
  intro l
  induction l with
  | nil=>intro _ _;trivial
  | cons env r ih =>
   intro hs hl
   obtain⟨hk,⟨L,o,hf,hn,ho,hd⟩,hr⟩:=hl
   have hL:L∈X.fs:=hs L (by unfold eA;rw[AY,hf];exact gP)
   obtain⟨sl,e⟩:=I.base.slot L o ho (I.ok.jH L hL) hL λz=>I.ok.ui L z hL
   exact⟨hk,⟨L,_,hf,hn,e,hd⟩,ih (λb hb=>hs b (by unfold eA;rw[AY,hf];exact eE _ hb)) hr⟩
 exact all X.outer (λ_ hb=>hb) I.ok.gE
theorem Inv.stack(I:Inv X pins σ H s):s.heap.FunFrames X.base X.stack:=by
 rcases I.ok.yy with e | ⟨e,hf⟩
 ·rw[e];exact I.gE
 ·rw[e]
  obtain⟨m,hn,_⟩:=I.loc
  refine .cons (by rw[I.ok.kind];decide) hf hn ?_ I.gE
  exact Heap.get?_none_of_le (eM I.ok.jG I.ok.above)
theorem Inv.Bz(I:Inv X pins σ H s):∀b∈eA X.stack,b∈X.env.locals::X.fs:=λb hb=>by
 rcases I.ok.yy with e | ⟨e,hf⟩
 ·rw[e]at hb;exact eE _ hb
 ·rw[e]at hb
  unfold eA at hb
  rw[AY,hf]at hb
  exact hb
theorem Inv.Fw(I:Inv X pins σ H s):∀b∈eA X.stack,H b=none:=λb hb=>by
 rcases bX.mp (I.Bz b hb)with e | hb
 ·rw[e];exact I.free
 ·obtain⟨_,o,ho,_⟩:=I.ok.gE.mem hb
  exact I.base.free b o ho (I.ok.jH b hb) λz=>I.ok.ui b z hb
theorem Inv.step{g':Array GenState}{t':Nat}{d':Drawn}{ch:List Addr}(I:Inv X pins σ H s)
  (lj:∀b∈ch,(b∈X.ex\/X.cK.heap.objs.size<=b)/\b≠X.env.locals/\(∀x c,X.env.cells.lookup x=some c->c≠b)/\∀p∈X.pn++pins,p.1≠b)
  (keep:∀b o,b≠X.env.locals->b ∉ X.fs->b ∉ ch->s.heap.get? b=some o->H b=none->h'.get? b=some o)
  (slot:∀b o,b≠X.env.locals->b∈X.fs->b ∉ ch->s.heap.get? b=some o->H b=none->∃sl,h'.get? b=some { o with slots:=sl }) (free:∀b o,b ∉ ch->s.heap.get? b=some o->H b=none->H' b=none)
  (there:∀b o,b ∉ ch->s.heap.get? b=some o->∃o',h'.get? b=some o')
  (jF:∀b xs,H b=some (.tup xs)->H' b=some (.tup xs)) (jc:∀b o u,H b=some (.cg o u)->H' b=some (.cg o u)) (ij:∀b ps,H b=some (.dw ps)->∃more,H' b=some (.dw (ps++more)))
  (ns:∀m,s.heap.Ns X.env.locals m->h'.Ns X.env.locals m) (aH:cJ X.prog X.w H' h') (hg:AllBare g') :
  Inv X pins σ H' { s with heap:=h',gens:=g',drawn:=d',toks:=t' }:=by
 have BA:∀b o,X.cK.heap.get? b=some o->b≠X.env.locals:=λb o e=>fN (cT (bS e) I.ok.above)
 have uj:∀b o,X.cK.heap.get? b=some o->b ∉ X.ex->b ∉ ch:=λb o e hx hb=>by
  rcases(lj b hb).1 with z | z
  ·exact hx z
  ·exact absurd (cT (bS e) z) (fA _)
 have cellK:∀x c,X.env.cells.lookup x=some c->∀v,s.heap.IsCell c v->h'.IsCell c v:=λx c e v ⟨o,ho,hd⟩=>by
  have yA:c ∉ ch:=λz=>(lj c z).2.2.1 x c e rfl
  by_cases hc:c∈X.fs
  ·obtain⟨sl,q⟩:=slot c o (I.oq x c e) hc yA ho (I.je x c e)
   exact⟨_,q,hd⟩
  ·exact⟨o,keep c o (I.oq x c e) hc yA ho (I.je x c e),hd⟩
 refine⟨I.ok,I.os,hg,⟨λb o e n hb hx=>?_,λb o e n hb hx=>?_,λb o e n hx=>?_,λb o e hx=>?_,λb xs e=>jF b xs (I.base.jF b xs e),λb o xs e=>jc b o xs (I.base.jc b o xs e),λb ps e=>?_⟩,?_,λx c e=>?_,?_,λx c e=>?_,λp hp=>?_,aH,I.len⟩
 ·exact keep b o (BA b o e) hb (uj b o e hx) (I.base.keep b o e n hb hx) (I.base.free b o e n hx)
 ·obtain⟨sl,e1⟩:=I.base.slot b o e n hb hx
  obtain⟨sl',e2⟩:=slot b _ (BA b o e) hb (uj b o e hx) e1 (I.base.free b o e n hx)
  exact⟨sl',e2⟩
 ·obtain⟨o',e1⟩:=I.base.there b o e hx
  exact free b o' (uj b o e hx) e1 (I.base.free b o e n hx)
 ·obtain⟨o',e1⟩:=I.base.there b o e hx
  exact there b o' (uj b o e hx) e1
 ·obtain⟨m1,e1⟩:=I.base.ij b ps e
  obtain⟨m2,e2⟩:=ij b _ e1
  exact⟨m1++m2,by rw[e2,AZ]⟩
 ·obtain⟨m,hn,hl⟩:=I.loc
  refine⟨m,ns m hn,λi x v e1 e2 e3=>?_⟩
  obtain⟨u,r,l⟩:=hl i x v e1 e2 e3
  refine⟨u,r,?_⟩
  rcases l with l | ⟨k,c,e,z⟩
  ·exact .inl l
  ·exact .inr ⟨k,c,e,cellK x c e _ z⟩
 ·obtain⟨v,z⟩:=I.cell x c e
  exact⟨v,cellK x c e v z⟩
 ·obtain⟨m,⟨o,_,_,ho,_⟩,_⟩:=I.loc
  exact free _ o (λz=>(lj _ z).2.1 rfl) ho I.free
 ·obtain⟨v,o,ho,hd⟩:=I.cell x c e
  exact free c o (λz=>(lj c z).2.2.1 x c e rfl) ho (I.je x c e)
 ·obtain⟨e,n,ne,nf,d⟩:=I.pin p hp
  have yA:p.1 ∉ ch:=λz=>(lj p.1 z).2.2.2 p hp rfl
  exact⟨keep p.1 p.2 ne nf yA e n,free p.1 p.2 yA e n,ne,nf,d⟩
theorem Inv.un{t':Nat}(I:Inv X pins σ H s)(u:Un X.fs [] H H' s.heap h')(aH:cJ X.prog X.w H' h'):Inv X pins σ H' { s with heap:=h',toks:=t' }:=by
 obtain⟨m,⟨o,es,ep,ho,r⟩,_⟩:=id I.loc
 obtain⟨sl,hL⟩:=u.any ho I.free (by simp)
 exact I.step (g':=s.gens) (d':=s.drawn) (ch:=[]) (λ_ z=>nomatch z) (λb o _ hb _ e n=>u.keep b o e n hb (by simp)) (λb o _ hb _ e n=>u.slot b o e n hb (by simp)) (λb o _ e n=>u.free b o e n (by simp)) (λb o _ e=>u.there b o e (by simp)) u.jF u.jc u.ij (λm' hm=>by
  obtain⟨o',Fx,Fy,j9,r'⟩:=hm
  rw[ho]at j9;cases j9
  exact⟨_,Fx,Fy,hL,r'⟩) aH I.bare
theorem Inv.call{g':Array GenState}{t':Nat}{d':Drawn}{ch:List Addr}(I:Inv X pins σ H s)(u:Un (eA X.stack) ch H H' s.heap h')(aH:cJ X.prog X.w H' h')(hg:AllBare g')
  (lj:∀b∈ch,(b∈X.ex\/X.cK.heap.objs.size<=b)/\b≠X.env.locals/\(∀x c,X.env.cells.lookup x=some c->c≠b)/\∀p∈X.pn++pins,p.1≠b) :
  Inv X pins σ H' { s with heap:=h',gens:=g',drawn:=d',toks:=t' }:=by
 obtain⟨m,⟨o,es,ep,ho,r⟩,_⟩:=id I.loc
 obtain⟨sl,hL⟩:=u.any ho I.free λz=>(lj _ z).2.1 rfl
 exact I.step (ch:=ch) lj (λb o hL hb hc e n=>u.keep b o e n (λz=>(bX.mp (I.Bz b z)).elim hL hb) hc) (λb o _ _ hc e n=>u.any e n hc) (λb o hc e n=>u.free b o e n hc) (λb o hc e=>u.there b o e hc) u.jF u.jc u.ij (λm' hm=>by
  obtain⟨o',Fx,Fy,j9,r'⟩:=hm
  rw[ho]at j9;cases j9
  exact⟨_,Fx,Fy,hL,r'⟩) aH hg
theorem Inv.turned{t':Nat}{it:Addr}(I:Inv X pins σ H s)(k:∀b o,b≠it->s.heap.get? b=some o->h'.get? b=some o)(hn:H it=none)(hL:it≠X.env.locals)
  (h1:it∈X.ex\/X.cK.heap.objs.size<=it) (h2:∀x c,X.env.cells.lookup x=some c->c≠it) (h3:∀p∈X.pn++pins,p.1≠it):Inv X pins σ H { s with heap:=h',toks:=t' }:=by
 have ou:∀b u,H b=some u->b≠it:=λb u e z=>by rw[z,hn]at e;cases e
 refine I.step (g':=s.gens) (d':=s.drawn) (ch:=[it]) (λb hb=>?_) (λb o _ _ hc e _=>k b o (λz=>hc (by simp[z])) e) (λb o _ _ hc e _=>⟨o.slots,k b o (λz=>hc (by simp[z])) e⟩) (λ_ _ _ _ n=>n)
  (λb o hc e=>⟨o,k b o (λz=>hc (by simp[z])) e⟩) (λ_ _ e=>e) (λ_ _ _ e=>e) (λb ps e=>⟨#[],by rw[e];simp⟩) (λm hm=>?_) (λb u e=>?_) I.bare
 ·have e:b=it:=by simpa using hb
  subst e
  exact⟨h1,hL,h2,h3⟩
 ·obtain⟨o,es,ep,ho,r⟩:=hm
  exact⟨o,es,ep,k _ o (fe hL) ho,r⟩
 ·refine(I.aH b u e).jZ (λc v hc q=>k c v ?_ q) (λ_ q=>q) (λ_ _ q=>q) λ_ _ q=>q
  rcases hc with z | z
  ·rw[z];exact ou b u e
  ·exact ou c _ z
theorem Inv.tok(I:Inv X pins σ H s)(t:Nat):Inv X pins σ H { s with toks:=t }:=I.un (h':=s.heap) (t':=t) Un.refl I.aH
theorem Inv.kept{t':Nat}(I:Inv X pins σ H s)(k:∀b u,s.heap.get? b=some u->h'.get? b=some u):Inv X pins σ H { s with heap:=h',toks:=t' }:=I.un (Un.kept k) (I.aH.kept k)
theorem Inv.laid{a:Addr}{o:HO}{t':Nat}(I:Inv X pins σ H s)(k:∀b u,s.heap.get? b=some u->h'.get? b=some u)(hp:s.heap.objs.size<=a)(new:eo X.prog X.w (upd H a o) h' a o) :
  Inv X pins σ (upd H a o) { s with heap:=h',toks:=t' }:=I.un (Un.laid k hp (I.aH.fresh hp)) (I.aH.laid k hp new)
theorem Inv.write{x e:Addr}{o:HO}{t':Nat}(I:Inv X pins σ H s)(mu:Bv (H x))(he:e=x\/H e=some (.own x))(k:∀b u,b≠e->s.heap.get? b=some u->h'.get? b=some u)(ug:∃u,h'.get? e=some u)
  (new:eo X.prog X.w (upd H x o) h' x o):Inv X pins σ (upd H x o) { s with heap:=h',toks:=t' }:=I.un (Un.write mu he k ug) (I.aH.write mu he k ug new)
theorem Inv.weak{aF:List (Option V)}(I:Inv X pins σ H s)(hl:aF.length=σ.length)(w:∀(i:Nat) v,aF[i]?=some (some v)->σ[i]?=some (some v)):Inv X pins aF H s :=
 ⟨I.ok,I.os,I.bare,I.base,let⟨m,hn,yB⟩:=I.loc;⟨m,hn,λi x v e1 e2 e3=>yB i x v e1 (w i v e2) e3⟩,I.cell,I.free,I.je,I.pin,I.aH,hl.trans I.len⟩
theorem Inv.RE{Fz:List (Addr × Obj)}(I:Inv X pins σ H s)(h:∀p∈Fz,s.heap.get? p.1=some p.2/\H p.1=none/\p.1≠X.env.locals/\p.1 ∉ X.fs/\∀v,p.2.data≠.cell v):Inv X Fz σ H s :=
 ⟨I.ok,I.os,I.bare,I.base,I.loc,I.cell,I.free,I.je,λp hp=>(bW.mp hp).elim (λz=>I.pin p (gQ _ z)) (h p),I.aH,I.len⟩
theorem RF{N:List Str}(hN:N.Nodup){i j:Nat}{x:Str}(a:N[i]?=some x)(b:N[j]?=some x):i=j:=by
 obtain⟨h1,e1⟩:=iF.mp a
 obtain⟨h2,e2⟩:=iF.mp b
 exact(QY hN).mp (e1.trans e2.symm)
theorem cg9{M:Model}{A:Around}{E:Value->Shared->Prop}{i:Nat}{x:Str}{v:V}{u:Value}{Q:Unit->Shared->Prop}(I:Inv X pins σ H s)(hN:X.N.Nodup)(hi:X.N[i]?=some x)(hx:Loc X.env.scope x)(r:RelV v u)
  (h:∀s',Inv X pins (σ.set i (some v)) H s'->(∃a,Heap.SameBut a s.heap s'.heap/\(a=X.env.locals\/X.env.cells.lookup x=some a))->Q () s') (hf:X.fn x=true\/X.env.scope.names.lookup x=some .local:=by first | exact .inl rfl | exact .inr rfl | assumption):wpAny M A (storeName X.env x u) Q E s:=by
 obtain⟨m,hn,hl⟩:=id I.loc
 have dl9:(X.env.scope.kind==.class||(X.env.scope.kind==.module&&X.env.locals != X.env.globals))=false:=by rw[I.ok.kind];rfl
 have RG:i<σ.length:=by rw[I.len];exact(iF.mp hi).1
 have oq:=I.oq
 have tracked:∀{a:Addr} {h':Heap},(∃o,s.heap.get? a=some o/\H a=none)->Heap.SameBut a s.heap h'->cJ X.prog X.w H h':=λ{a h'} ha hs b ob e=>by
  obtain⟨_,_,RH⟩:=ha
  refine(I.aH b ob e).jZ (λc w' hc q=>(hs.2 c ?_).trans q) (λ_ q=>q) (λ_ _ q=>q) λ_ _ q=>q
  rintro rfl
  rcases hc with rfl | hc
  ·rw[RH]at e;cases e
  ·rw[RH]at hc;cases hc
 rcases hx with hk | hk
 ·refine wpAny_storeName_local hk hn (λh' hn' hs=>?_) dl9
  obtain⟨oL,_,_,hoL,_⟩:=id hn
  refine h _ ⟨I.ok,I.os,I.bare,⟨λb o e n hb hx=>?_,λb o e n hb hx=>?_,I.base.free,λb o e hx=>?_,I.base.jF,I.base.jc,I.base.ij⟩,⟨_,hn',λj y v' e1 e2 e3=>?_⟩,λy c e=>?_,I.free,I.je,λp hp=>?_,tracked ⟨oL,hoL,I.free⟩ hs,by simpa using I.len⟩ ⟨_,hs,.inl rfl⟩
  ·exact(hs.2 b (fN (cT (bS e) I.ok.above))).trans (I.base.keep b o e n hb hx)
  ·obtain⟨sl,e1⟩:=I.base.slot b o e n hb hx
   exact⟨sl,(hs.2 b (fN (cT (bS e) I.ok.above))).trans e1⟩
  ·obtain⟨o',e1⟩:=I.base.there b o e hx
   exact⟨o',(hs.2 b (fN (cT (bS e) I.ok.above))).trans e1⟩
  ·by_cases hj:j=i
   ·subst hj
    rw[hi]at e1;cases e1
    rw[QZ RG]at e2
    cases e2
    exact⟨u,r,.inl ⟨hk,by simp⟩⟩
   ·rw[xU (fe hj)]at e2
    obtain⟨u',r',q⟩:=hl j y v' e1 e2 e3
    refine⟨u',r',?_⟩
    rcases q with⟨k,e⟩ | ⟨k,c,e,z⟩
    ·refine .inl ⟨k,?_⟩
     have:y≠x:=λe=>hj (RF hN e1 (e ▸ hi))
     simp[this,e]
    ·exact .inr ⟨k,c,e,z.sameBut hs (oq y c e)⟩
  ·obtain⟨w',z⟩:=I.cell y c e
   exact⟨w',z.sameBut hs (oq y c e)⟩
  ·obtain⟨e,n,ne,nf,d⟩:=I.pin p hp
   exact⟨(hs.2 p.1 ne).trans e,n,ne,nf,d⟩
 ·have yC:X.fn x=true:=by
   rcases hf with z | z
   ·exact z
   ·rw[z]at hk;cases hk
  obtain⟨c,hc⟩:=I.ok.has x (.inl hk)
  obtain⟨w',z⟩:=I.cell x c hc
  refine wpAny_storeName_cell I.ok.kind hk hc z (λh' mO hs=>?_)
  obtain⟨oc,iK,dm2⟩:=id z
  refine h { s with heap:=h' } ⟨I.ok,I.os,I.bare,⟨λb o e n hb hx=>?_,λb o e n hb hx=>?_,I.base.free,λb o e hx=>?_,I.base.jF,I.base.jc,I.base.ij⟩,⟨m,hn.sameBut hs (fe (oq x c hc)),λj y v' e1 e2 e3=>?_⟩,λy c' e=>?_,I.free,I.je,λp hp=>?_,tracked ⟨oc,iK,I.je x c hc⟩ hs,by simpa using I.len⟩ ⟨c,hs,.inr hc⟩
  ·exact(hs.2 b (fN (cT (bS e) (I.ok.qL x c yC hc)))).trans (I.base.keep b o e n hb hx)
  ·obtain⟨sl,e1⟩:=I.base.slot b o e n hb hx
   exact⟨sl,(hs.2 b (fN (cT (bS e) (I.ok.qL x c yC hc)))).trans e1⟩
  ·obtain⟨o',e1⟩:=I.base.there b o e hx
   exact⟨o',(hs.2 b (fN (cT (bS e) (I.ok.qL x c yC hc)))).trans e1⟩
  ·by_cases hj:j=i
   ·subst hj
    rw[hi]at e1;cases e1
    rw[QZ RG]at e2
    cases e2
    exact⟨u,r,.inr ⟨.inl hk,c,hc,mO⟩⟩
   ·rw[xU (fe hj)]at e2
    obtain⟨u',r',q⟩:=hl j y v' e1 e2 e3
    refine⟨u',r',?_⟩
    rcases q with q | ⟨k,c',e,z'⟩
    ·exact .inl q
    ·refine .inr ⟨k,c',e,z'.sameBut hs ?_⟩
     rintro rfl
     exact hj (RF hN e1 (I.ok.inj _ _ _ e hc ▸ hi))
  ·by_cases RI:c'=c
   ·subst RI;exact⟨_,mO⟩
   ·obtain⟨w2,z2⟩:=I.cell y c' e
    exact⟨w2,z2.sameBut hs RI⟩
  ·obtain⟨e,n,ne,nf,d⟩:=I.pin p hp
   refine⟨(hs.2 p.1 ?_).trans e,n,ne,nf,d⟩
   intro q
   rw[q,iK]at e
   have q':oc=p.2:=cQ e
   exact d w' (by rw[<-q'];exact dm2)
theorem FA{M:Model}{A:Around}{E:Value->Shared->Prop}{i:Nat}{x:Str}{v:V}{u:Value}{Q:Unit->Shared->Prop}(I:Inv X pins σ H s)(hN:X.N.Nodup)(hi:X.N[i]?=some x)(hx:Loc X.env.scope x)(r:RelV v u)
  (h:∀s',Inv X pins (σ.set i (some v)) H s'->Q () s') (hf:X.fn x=true\/X.env.scope.names.lookup x=some .local:=by first | exact .inl rfl | exact .inr rfl | assumption):wpAny M A (storeName X.env x u) Q E s :=
 cg9 I hN hi hx r (λs' I' _=>h s' I') hf
theorem Inv.dm3{s':Shared}{ch:List Addr}(I:Inv X pins σ H s)(ho:s'.os=s.os)(u:Un (eA X.stack) ch H H' s.heap s'.heap)(aH:cJ X.prog X.w H' s'.heap)(hg:AllBare s'.gens)
  (lj:∀b∈ch,(b∈X.ex\/X.cK.heap.objs.size<=b)/\b≠X.env.locals/\(∀x c,X.env.cells.lookup x=some c->c≠b)/\∀p∈X.pn++pins,p.1≠b):Inv X pins σ H' s':=by
 obtain⟨h',g',d',t',o'⟩:=s'
 have e:o'=s.os:=ho
 subst e
 exact I.call (g':=g') (t':=t') (d':=d') u aH hg lj
end
noncomputable abbrev XK:=Value->Option Addr->Hp->Prop
noncomputable abbrev St:=List (Option V)
noncomputable abbrev VK:=V->Hp->Prop
noncomputable abbrev TE:=St->Hp->VK->Prop
noncomputable abbrev TT:=St->Hp->(Bool->Hp->Prop)->Prop
noncomputable abbrev TA:=St->Hp->(List V->Hp->Prop)->Prop
structure Ends where
 nx:St->Hp->Prop
 rt:VK
 bk:St->Hp->Prop:=λ_ _=>False
 ct:St->Hp->Prop:=λ_ _=>False
noncomputable abbrev TS:=Ends->St->Hp->Prop
noncomputable def EP(X:Cx)(pins:List (Addr × Obj))(σ:St)(Q:VK)(u:Value)(s':Shared):Prop:=∃v H',Inv X pins σ H' s'/\RelV v u/\Q v H'
noncomputable def TP(X:Cx)(pins:List (Addr × Obj))(σ:St)(Q:Bool->Hp->Prop)(b:Bool)(s':Shared):Prop:=∃H',Inv X pins σ H' s'/\Q b H'
noncomputable def AP(X:Cx)(pins:List (Addr × Obj))(σ:St)(Q:List V->Hp->Prop)(us:List Value)(s':Shared):Prop:=∃vs H',Inv X pins σ H' s'/\Vals vs us/\Q vs H'
noncomputable def SP(X:Cx)(pins:List (Addr × Obj))(D:Ends)(f:Flow)(s':Shared):Prop :=
 match f with
 | .next=>∃aF H',Inv X pins aF H' s'/\D.nx aF H'
 | .brk=>∃aF H',Inv X pins aF H' s'/\D.bk aF H'
 | .cont=>∃aF H',Inv X pins aF H' s'/\D.ct aF H'
 | .ret u=>∃v aF H',Inv X pins aF H' s'/\RelV v u/\D.rt v H'
noncomputable def PE(X:Cx)(e:Expr)(t:TE):Prop :=
 ∀(pins:List (Addr × Obj)) (s:Shared) (σ:St) (H:Hp) (Q:VK),Inv X pins σ H s->t σ H Q->wpAny (model X.prog X.w) X.A (eval e X.env) (EP X pins σ Q) X.xe s
noncomputable def PT(X:Cx)(e:Expr)(t:TT):Prop :=
 ∀(pins:List (Addr × Obj)) (s:Shared) (σ:St) (H:Hp) (Q:Bool->Hp->Prop),Inv X pins σ H s->t σ H Q->wpAny (model X.prog X.w) X.A (isTrue e X.env (eval e X.env)) (TP X pins σ Q) X.xe s
noncomputable def PW(X:Cx)(e:Expr)(t:TT):Prop :=
 ∀(whole:Sem Value) (pins:List (Addr × Obj)) (s:Shared) (σ:St) (H:Hp) (Q:Bool->Hp->Prop),Inv X pins σ H s->t σ H Q->wpAny (model X.prog X.w) X.A (isTrue e X.env whole) (TP X pins σ Q) X.xe s
theorem PW.pt{X:Cx}{e:Expr}{t:TT}(h:PW X e t):PT X e t:=h _
noncomputable def PA(X:Cx)(es:List Expr)(t:TA):Prop :=
 ∀(pos:Pos) (pins:List (Addr × Obj)) (s:Shared) (σ:St) (H:Hp) (Q:List V->Hp->Prop),Inv X pins σ H s->t σ H Q->wpAny (model X.prog X.w) X.A (spliced (backTo pos (starEach es X.env))) (AP X pins σ Q) X.xe s
noncomputable def PS(X:Cx)(st:Stmt)(t:TS):Prop :=
 ∀(pins:List (Addr × Obj)) (s:Shared) (σ:St) (H:Hp) (D:Ends),Inv X pins σ H s->t D σ H->wpAny (model X.prog X.w) X.A (exec st X.env) (SP X pins D) X.xe s
noncomputable def PSs(X:Cx)(st:List Stmt)(t:TS):Prop :=
 ∀(pins:List (Addr × Obj)) (s:Shared) (σ:St) (H:Hp) (D:Ends),Inv X pins σ H s->t D σ H->wpAny (model X.prog X.w) X.A (execs st X.env) (SP X pins D) X.xe s
theorem aP{α:Type}{t:Sem α}{Q Q':α->Shared->Prop}{M:Model}{A:Around}{E:Value->Shared->Prop}{s:Shared}(h:wpAny M A t Q E s)(hQ:∀a s,Q a s->Q' a s):wpAny M A t Q' E s:=wpAny_mono h hQ λ_ _ x=>x
end L2
namespace L2
open PySem PySem.Spec PyProof.Rows
section
variable{X:Cx}
noncomputable def RJ(i:Nat):TE:=λσ H Q=>∃v,σ[i]?=some (some v)/\Q v H
noncomputable def tC(v:V):TE:=λ_ H Q=>Q v H
theorem qM{i:Nat}{x:Str}{pos:Pos}(hN:X.N[i]?=some x)(hv:lh X.env.scope x)(hd:(x==("__debug__":Str))=false:=by decide)(cN:(x==("__classdict__":Str))=false:=by decide):PE X (.Name x pos) (RJ i):=by
 intro pins s σ H Q I h
 obtain⟨v,e,h⟩:=h
 obtain⟨m,hn,hl⟩:=I.loc
 obtain⟨u,r,l⟩:=hl i x v hN e hv
 have fin:EP X pins σ Q u s:=⟨v,H,I,r,h⟩
 rcases l with⟨hk,hm⟩ | ⟨hk,c,hc,BB⟩
 ·exact wpAny_Name (wpAny_loadName_local I.ok.kind hk hn hm fin) hd
 ·rcases hk with hk | hk
  ·exact wpAny_Name (wpAny_loadName_cell I.ok.kind hk hc BB fin) hd
  ·exact wpAny_Name (wpAny_loadName_free I.ok.kind hk hc BB fin cN) hd
theorem yD{i j pos}:PE X (.Constant (.int i) j pos) (tC (.int i)):=λ_ _ _ H _ I h=>wpAny_Constant_int ⟨.int i,H,I.tok _,⟨_,rfl⟩,h⟩
theorem cX4{b j pos}:PE X (.Constant (.bool b) j pos) (tC (.bl b)):=λ_ _ _ H _ I h=>Constant_bool ⟨.bl b,H,I,rfl,h⟩
theorem cP4{j pos}:PE X (.Constant .none j pos) (tC .ax):=λ_ _ _ H _ I h=>Constant_none ⟨.ax,H,I,rfl,h⟩
theorem cV1{x j pos}:PE X (.Constant (.str x) j pos) (tC (.str x)):=λ_ _ _ H _ I h=>Calls.Constant_str ⟨.str x,H,I.tok _,⟨_,rfl⟩,h⟩
noncomputable def Gl(X:Cx)(x:Str):Prop:=X.env.kindOf x=some .globalImplicit
theorem BC{E:Value->Shared->Prop}{pins:List (Addr × Obj)}{s:Shared}{σ:St}{H:Hp}{x:Str}{u:Value}{pos:Pos}{Q:Value->Shared->Prop}(I:Inv X pins σ H s)(hg:Gl X x)(hm:X.mg x=some u)(h:Q u s)
  (hd:(x==("__debug__":Str))=false:=by decide):wpAny (model X.prog X.w) X.A (eval (.Name x pos) X.env) Q E s :=
 dh5 I.ok.kind hg (Calls.loadGlobal_global (by rw[I.ok.glob];exact I.mod.glob.keeps I.bk) hm h) hd
theorem ow{E:Value->Shared->Prop}{pins:List (Addr × Obj)}{s:Shared}{σ:St}{H:Hp}{x:Str}{u:Value}{pos:Pos}{Q:Value->Shared->Prop}(I:Inv X pins σ H s)(hg:Gl X x)(hm:X.mg x=none)(hv:bootBuiltins x=some u)(h:Q u s)
  (hn:x≠"__name__":=by decide) (hd:(x==("__debug__":Str))=false:=by decide):wpAny (model X.prog X.w) X.A (eval (.Name x pos) X.env) Q E s:=by
 obtain⟨mb,h1,h2⟩:=I.mod.blt
 exact dh5 I.ok.kind hg (Calls.loadGlobal_builtin (by rw[I.ok.glob];exact I.mod.glob.keeps I.bk) hm (by rw[I.ok.blt];exact h1.keeps I.bk) ((h2 x hn).trans hv) h) hd
theorem cK1{x:Str}{v:V}{u:Value}{pos:Pos}(hg:Gl X x)(hm:X.mg x=none)(hv:bootBuiltins x=some u)(r:RelV v u)(hn:x≠"__name__":=by decide)(hd:(x==("__debug__":Str))=false:=by decide):PE X (.Name x pos) (tC v) :=
 λ_ _ _ H _ I h=>ow I hg hm hv ⟨v,H,I,r,h⟩ hn hd
variable{a b:Expr}{ta tb:TE}{pos:Pos}
noncomputable def tB(t:TE):TT:=λσ H Q=>t σ H λx H1=>∃c,x=.bl c/\Q c H1
theorem FC{e:Expr}{t:TE}(h:PE X e t)(he:∀whole,isTrue e X.env whole=(do let v<-whole;standAt e.pos;holding [v] (truthy v)):=by intro _;rfl):PT X e (tB t):=by
 intro pins s σ H Q I hw
 refine isTrue_plain (aP (h pins s σ H _ I hw) λv s1 ⟨x,H1,I1,r1,q1⟩=>?_) (he _)
 obtain⟨d,rfl,q⟩:=q1
 cases r1
 exact wpAny_truthy_bool ⟨H1,I1,q⟩
variable{tA BD:TT}{rest:List Expr}
noncomputable def c98(t u:TT):TT:=λσ H Q=>t σ H λc H1=>if c=true then u σ H1 Q else Q false H1
noncomputable def tOr(t u:TT):TT:=λσ H Q=>t σ H λc H1=>if c=true then Q true H1 else u σ H1 Q
noncomputable def dd0(t:TT):TT:=λσ H Q=>t σ H λc H1=>Q (!c) H1
theorem yE(ha:PT X a tA):PW X (.BoolOp .And [a] pos) tA:=by
 intro wh pins s σ H Q I h
 refine isTrue_and (aP (ha pins s σ H Q I h) λc s1 e=>?_)
 cases c with
 | true=>exact isTrue_and_nil e
 | false=>exact e
theorem FD(ha:PT X a tA):PW X (.BoolOp .Or [a] pos) tA:=by
 intro wh pins s σ H Q I h
 refine isTrue_or (aP (ha pins s σ H Q I h) λc s1 e=>?_)
 cases c with
 | false=>exact isTrue_or_nil e
 | true=>exact e
theorem cO7(ha:PT X a tA)(hb:PW X (.BoolOp .And (b::rest) pos) BD):PW X (.BoolOp .And (a::b::rest) pos) (c98 tA BD):=by
 intro wh pins s σ H Q I h
 refine isTrue_and (aP (ha pins s σ H _ I h) λc s1 ⟨H1,I1,q1⟩=>?_)
 cases c with
 | true=>exact hb wh pins s1 σ H1 Q I1 q1
 | false=>exact⟨H1,I1,q1⟩
theorem cX5(ha:PT X a tA)(hb:PW X (.BoolOp .Or (b::rest) pos) BD):PW X (.BoolOp .Or (a::b::rest) pos) (tOr tA BD):=by
 intro wh pins s σ H Q I h
 refine isTrue_or (aP (ha pins s σ H _ I h) λc s1 ⟨H1,I1,q1⟩=>?_)
 cases c with
 | true=>exact⟨H1,I1,q1⟩
 | false=>exact hb wh pins s1 σ H1 Q I1 q1
theorem FE(ha:PT X a tA):PT X (.UnaryOp .Not a pos) (dd0 tA):=by
 intro pins s σ H Q I h
 exact isTrue_not (ha pins s σ H (λc H1=>Q (!c) H1) I h)
noncomputable def cX2(ta tb:TE):TE:=λσ H Q=>ta σ H λx H1=>∃c,x=.bl c/\if c=true then tb σ H1 Q else Q (.bl false) H1
noncomputable def c00(ta:TE):TE:=λσ H Q=>ta σ H λx H1=>∃c,x=.bl c/\Q (.bl (!c)) H1
theorem BE{op}{t:TE}(h:PE X a t):PE X (.BoolOp op [a] pos) t:=λpins s σ H Q I hw=>BoolOp_one (h pins s σ H Q I hw)
theorem cU4(ha:PE X a ta)(hb:PE X (.BoolOp .And (b::rest) pos) tb):PE X (.BoolOp .And (a::b::rest) pos) (cX2 ta tb):=by
 intro pins s σ H Q I h
 refine BoolOp_and (aP (ha pins s σ H _ I h) λv s1 ⟨x,H1,I1,r1,q1⟩=>?_)
 obtain⟨c,rfl,q1⟩:=q1
 cases r1
 refine wpAny_truthy_bool ?_
 cases c with
 | true=>exact hb pins s1 σ H1 Q I1 q1
 | false=>exact⟨.bl false,H1,I1,rfl,q1⟩
theorem cS7(ha:PE X a ta):PE X (.UnaryOp .Not a pos) (c00 ta):=by
 intro pins s σ H Q I h
 refine UnaryOp_ (aP (ha pins s σ H _ I h) λv s1 ⟨x,H1,I1,r1,q1⟩=>?_)
 obtain⟨c,rfl,q1⟩:=q1
 cases r1
 exact not_of (wpAny_truthy_bool ⟨.bl (!c),H1,I1,rfl,q1⟩)
noncomputable def tIf(t:TT)(ta tb:TE):TE:=λσ H Q=>t σ H λc H1=>if c=true then ta σ H1 Q else tb σ H1 Q
theorem cq6{c:Expr}(hc:PT X c tA)(ha:PE X a ta)(hb:PE X b tb):PE X (.IfExp c a b pos) (tIf tA ta tb):=by
 intro pins s σ H Q I h
 refine wpAny_IfExp (aP (hc pins s σ H _ I h) λd s1 ⟨H1,I1,q1⟩=>?_)
 cases d with
 | true=>exact ha pins s1 σ H1 Q I1 q1
 | false=>exact hb pins s1 σ H1 Q I1 q1
end
end L2
namespace L2
open PySem PySem.Spec PyProof.Rows
noncomputable def bK(K:PySem.W.Frag)(H:Hp)(a:Addr)(xs:List V):Prop :=
 Rd H a (.lst xs) \/
  ∃(o:Obj) (its:Array Value) (n:Nat),K.lookup a=some o/\o.cls=.type "list"/\o.dict=none/\o.data=.seq its n/\its.size<=sizeLine/\Vals xs its.toList
noncomputable def gS(K:PySem.W.Frag)(H:Hp)(a:Addr)(xs:List V):Prop :=
 Rd H a (.tup xs) \/
  ∃(o:Obj) (its:Array Value) (n:Nat),K.lookup a=some o/\o.cls=.type "tuple"/\o.data=.seq its n/\its.size<=sizeLine/\Vals xs its.toList
noncomputable def da4:Value->Option V
 | .none=>some .ax
 | .bool b=>some (.bl b)
 | .int i _=>some (.int i)
 | .str x _=>some (.str x)
 | .bytes b _=>some (.Bu b)
 | .float b _=>some (.qJ b)
 | .ref a=>some (.ref a)
 | .type n=>some (.ty n)
 | _=>none
theorem RelV.abs{x:V}{u:Value}(r:RelV x u):da4 u=some x:=by
 cases x with
 | ax=>cases r;rfl
 | bl _=>cases r;rfl
 | int _=>obtain⟨t,rfl⟩:=r;rfl
 | str _=>obtain⟨t,rfl⟩:=r;rfl
 | Bu _=>obtain⟨t,rfl⟩:=r;rfl
 | qJ _=>obtain⟨t,rfl⟩:=r;rfl
 | ref _=>cases r;rfl
 | ty _=>cases r;rfl
theorem RelV.inj{x y:V}{u:Value}(r:RelV x u)(q:RelV y u):x=y:=cQ (r.abs.symm.trans q.abs)
theorem Vals.inj:∀{xs ys:List V} {us:List Value},Vals xs us->Vals ys us->xs=ys
 | _,_,_,.nil,.nil=>rfl
 | _,_,_,.cons r t,.cons r' t'=>by rw[r.inj r',Vals.inj t t']
section
variable{X:Cx}{pins:List (Addr × Obj)}{σ:St}{H:Hp}{s:Shared}{a:Addr}{xs ys:List V}
theorem bK.of{K:PySem.W.Frag}(h:H a=some (.lst xs)):bK K H a xs:=.inl (.inl h)
theorem gS.of{K:PySem.W.Frag}(h:H a=some (.tup xs)):gS K H a xs:=.inl (.inl h)
theorem Inv.list(I:Inv X pins σ H s)(h:bK X.K H a xs):∃its:List Value,Vals xs its/\PlainL s.heap a its.toArray/\xs.length<=sizeLine:=by
 rcases h with h | ⟨o,its,n,hk,hc,hd,hs,hz,r⟩
 ·obtain⟨z,its,n,r,e⟩:=h.ok I.aH
  exact⟨its,r,⟨_,n,e,rfl,rfl,rfl⟩,z⟩
 ·refine⟨its.toList,r,⟨o,n,I.di a o hk,hc,hd,by simpa using hs⟩,?_⟩
  have e:=r.length
  simp only[xV]at e
  omega
theorem Inv.tuple(I:Inv X pins σ H s)(h:gS X.K H a xs):∃its:List Value,Vals xs its/\IsTup s.heap a its.toArray/\xs.length<=sizeLine:=by
 rcases h with h | ⟨o,its,n,hk,hc,hs,hz,r⟩
 ·obtain⟨z,its,r,p⟩:=h.ok I.aH
  exact⟨its,r,p,z⟩
 ·refine⟨its.toList,r,⟨o,I.di a o hk,hc,n,by simpa using hs⟩,?_⟩
  have e:=r.length
  simp only[xV]at e
  omega
theorem Inv.yF(I:Inv X pins σ H s)(h:bK X.K H a xs)(h':bK X.K H a ys):xs=ys:=by
 obtain⟨its,r,⟨o,n,e,_,_,d⟩,_⟩:=I.list h
 obtain⟨its',r',⟨o',n',e',_,_,d'⟩,_⟩:=I.list h'
 rw[e]at e';cases e'
 rw[d]at d'
 injection d' with d1 _
 have:its=its':=by simpa using congrArg Array.toList d1
 subst this
 exact r.inj r'
end
noncomputable abbrev Cx.jI(X:Cx)(E:Value->Shared->Prop):Cx:={ X with xe:=E }
noncomputable abbrev Cx.gF(X:Cx):Cx:=X.jI λ_ _=>False
theorem Cx.Ok.jI{X:Cx}(ok:X.Ok)(E:Value->Shared->Prop):(X.jI E).Ok :=
 ⟨ok.mod,ok.kind,ok.glob,ok.blt,ok.above,ok.inj,ok.has,ok.qL,ok.hd,ok.frames,ok.yy,ok.yz,ok.bs,ok.jG,ok.uh,ok.ui,ok.gE,ok.jH⟩
theorem Cx.Ok.lC{X:Cx}{E:Value->Shared->Prop}(ok:(X.jI E).Ok):X.Ok :=
 ⟨ok.mod,ok.kind,ok.glob,ok.blt,ok.above,ok.inj,ok.has,ok.qL,ok.hd,ok.frames,ok.yy,ok.yz,ok.bs,ok.jG,ok.uh,ok.ui,ok.gE,ok.jH⟩
section
variable{X:Cx}{pins:List (Addr × Obj)}{σ:St}{H:Hp}{s:Shared}{E:Value->Shared->Prop}
theorem Inv.jI(I:Inv X pins σ H s)(E:Value->Shared->Prop):Inv (X.jI E) pins σ H s:=⟨I.ok.jI E,I.os,I.bare,I.base,I.loc,I.cell,I.free,I.je,I.pin,I.aH,I.len⟩
theorem Inv.lC(I:Inv (X.jI E) pins σ H s):Inv X pins σ H s:=⟨I.ok.lC,I.os,I.bare,I.base,I.loc,I.cell,I.free,I.je,I.pin,I.aH,I.len⟩
theorem SP.lC{D:Ends}{f:Flow}{s':Shared}(h:SP (X.jI E) pins D f s'):SP X pins D f s':=by
 cases f with
 | next=>obtain⟨aF,H',I,q⟩:=h;exact⟨aF,H',I.lC,q⟩
 | brk=>obtain⟨aF,H',I,q⟩:=h;exact⟨aF,H',I.lC,q⟩
 | cont=>obtain⟨aF,H',I,q⟩:=h;exact⟨aF,H',I.lC,q⟩
 | ret u=>obtain⟨v,aF,H',I,r,q⟩:=h;exact⟨v,aF,H',I.lC,r,q⟩
theorem PE.gF{e:Expr}{t:TE}(h:PE X.gF e t):PE X e t:=λpins s σ H Q I hw =>
 wpAny_mono (h pins s σ H Q (I.jI _) hw) (λ_ _ ⟨v,H',I',r,q⟩=>⟨v,H',I'.lC,r,q⟩) λ_ _ z=>fO z
theorem PSs.gF{st:List Stmt}{t:TS}(h:PSs X.gF st t):PSs X st t:=λpins s σ H D I hw =>
 wpAny_mono (h pins s σ H D (I.jI _) hw) (λ_ _ q=>q.lC) λ_ _ z=>fO z
end
section
variable{X:Cx}{st:Stmt}{rest:List Stmt}{t u:TS}{e:Expr}{te:TE}{pos:Pos}
noncomputable def cZ3:TS:=λD σ H=>D.nx σ H
noncomputable def db3(t u:TS):TS:=λD σ H=>t { D with nx:=u D } σ H
theorem FF:PSs X [] cZ3:=λ_ _ σ H _ I h=>wpAny_execs_nil ⟨σ,H,I,h⟩
theorem ka(h1:PS X st t)(h2:PSs X rest u):PSs X (st::rest) (db3 t u):=by
 intro pins s σ H D I h
 refine wpAny_execs_cons (aP (h1 pins s σ H { D with nx:=u D } I h) λf s1 q=>?_)
 cases f with
 | next =>
  obtain⟨aF,H',I',q⟩:=q
  exact h2 pins s1 aF H' D I' q
 | ret v=>exact q
 | brk=>exact q
 | cont=>exact q
theorem uk(h1:PS X st t):PSs X [st] t:=by
 intro pins s σ H D I h
 refine wpAny_execs_cons (aP (h1 pins s σ H D I h) λf s1 q=>?_)
 cases f with
 | next=>exact wpAny_execs_nil q
 | ret v=>exact q
 | brk=>exact q
 | cont=>exact q
theorem Inv.quiet{pins:List (Addr × Obj)}{σ:St}{H:Hp}{s:Shared}(I:Inv X pins σ H s):interactive X.env=false:=by simp[interactive,I.ok.kind]
noncomputable def cZ9(te:TE):TS:=λD σ H=>te σ H λ_ H1=>D.nx σ H1
theorem BF(he:PE X e te)(hs:swapsWith e none pos.line X.env=pure false:=by rfl):PS X (.Expr e pos) (cZ9 te):=by
 intro pins s σ H D I h
 exact wpAny_Expr_any (aP (he pins s σ H _ I h) λv s1 ⟨x,H1,I1,r1,q1⟩=>⟨σ,H1,I1,q1⟩) I.quiet hs
noncomputable def db6(te:TE):TS:=λD σ H=>te σ H D.rt
theorem cR1(he:PE X e te):PS X (.Return (some e) pos) (db6 te):=by
 intro pins s σ H D I h
 exact wpAny_Return_some (aP (he pins s σ H _ I h) λv s1 ⟨x,H1,I1,r1,q1⟩=>⟨x,σ,H1,I1,r1,q1⟩)
noncomputable def db8(c:TT)(t u:TS):TS:=λD σ H=>c σ H λb H1=>if b=true then t D σ H1 else u D σ H1
theorem FG{c:Expr}{a b:List Stmt}{tc:TT}(hc:PT X c tc)(ha:PSs X a t)(hb:PSs X b u):PS X (.If c a b pos) (db8 tc t u):=by
 intro pins s σ H D I h
 refine wpAny_If (aP (hc pins s σ H _ I h) λd s1 ⟨H1,I1,q1⟩=>?_)
 cases d with
 | true=>exact ha pins s1 σ H1 D I1 q1
 | false=>exact hb pins s1 σ H1 D I1 q1
noncomputable def cN5:TS:=λ_ _ _=>False
theorem RK:PS X st cN5:=λ_ _ _ _ _ _ h=>h.elim
end
noncomputable abbrev TG:=V->St->Hp->(St->Hp->Prop)->Prop
noncomputable abbrev qN:=List V->St->Hp->(St->Hp->Prop)->Prop
noncomputable def PG(X:Cx)(target:Expr)(t:TG):Prop :=
 ∀(pins:List (Addr × Obj)) (s:Shared) (σ:St) (H:Hp) (v:V) (u:Value) (Q:St->Hp->Prop),Inv X pins σ H s->RelV v u->t v σ H Q ->
  wpAny (model X.prog X.w) X.A (assign target X.env u) (λ_ s'=>∃aF H',Inv X pins aF H' s'/\Q aF H') X.xe s
noncomputable def BG(X:Cx)(ts:List Expr)(t:qN):Prop :=
 ∀(pins:List (Addr × Obj)) (s:Shared) (σ:St) (H:Hp) (vs:List V) (us:List Value) (Q:St->Hp->Prop),Inv X pins σ H s->Vals vs us->t vs σ H Q ->
  wpAny (model X.prog X.w) X.A (assignInOrder ((assignEach ts X.env).map (·.2)) us) (λ_ s'=>∃aF H',Inv X pins aF H' s'/\Q aF H') X.xe s
noncomputable abbrev FH:=V->V->V->Hp->(Hp->Prop)->Prop
noncomputable def RL(X:Cx)(t:FH):Prop :=
 ∀(pins:List (Addr × Obj)) (s:Shared) (σ:St) (H:Hp) (o i v:V) (ov iv u:Value) (Q:Hp->Prop),Inv X pins σ H s->RelV o ov->RelV i iv->RelV v u->t o i v H Q ->
  wpAny (model X.prog X.w) X.A (setItem ov iv u) (λ_ s'=>∃H',Inv X pins σ H' s'/\Q H') X.xe s
noncomputable abbrev FI:=V->V->Hp->VK->Prop
noncomputable def PIp(X:Cx)(op:Operator)(t:FI):Prop :=
 ∀(pins:List (Addr × Obj)) (s:Shared) (σ:St) (H:Hp) (x y:V) (v u:Value) (Q:VK),Inv X pins σ H s->RelV x v->RelV y u->t x y H Q ->
  wpAny (model X.prog X.w) X.A (inplaceOp op v u) (EP X pins σ Q) X.xe s
section
variable{X:Cx}{pos:Pos}
noncomputable def BH(i:Nat):TG:=λv σ H Q=>Q (σ.set i (some v)) H
theorem BJ{i:Nat}{x:Str}(hN:X.N.Nodup)(hi:X.N[i]?=some x)(hx:Loc X.env.scope x)(hf:X.fn x=true\/X.env.scope.names.lookup x=some .local:=by first | exact .inl rfl | exact .inr rfl | assumption):PG X (.Name x pos) (BH i):=by
 intro pins s σ H v u Q I r h
 exact wpAny_assign_Name (FA I hN hi hx r (λs' I'=>⟨_,H,I',h⟩) hf)
noncomputable def c92:qN:=λvs σ H Q=>vs=[]/\Q σ H
noncomputable def cX7(t:TG)(u:qN):qN:=λvs σ H Q=>∃v r,vs=v::r/\t v σ H λaF H'=>u r aF H' Q
theorem cE2:BG X [] c92:=by
 intro pins s σ H vs us Q I r h
 obtain⟨e,h⟩:=h
 subst e
 cases r
 exact assignInOrder_nil ⟨σ,H,I,h⟩
theorem RM{e:Expr}{es:List Expr}{t:TG}{u:qN}(h1:PG X e t)(h2:BG X es u)
  (hs:(assignEach (e::es) X.env).map (·.2)=assign e X.env::(assignEach es X.env).map (·.2):=by rfl):BG X (e::es) (cX7 t u):=by
 intro pins s σ H vs us Q I r h
 obtain⟨v,vr,e1,h⟩:=h
 subst e1
 cases r with
 | cons r rr =>
  rw[hs]
  refine assignInOrder_cons (aP (h1 pins s σ H _ _ _ I r h) λ_ s1 ⟨gG,H1,I1,q1⟩=>?_)
  exact h2 pins s1 gG H1 _ _ Q I1 rr q1
noncomputable def da3(K:PySem.W.Frag)(n:Nat)(t:qN):TG:=λv σ H Q=>∃a xs,v=.ref a/\gS K H a xs/\xs.length=n/\t xs σ H Q
theorem cT3{es:List Expr}{k:Nat}{t:qN}{n:Nat}(hc:X.calm=true)(h:BG X es t)
  (hn:(assignEach es X.env).length=n:=by rfl) (dj:(assignEach es X.env).findIdx? (·.1)=none:=by rfl):PG X (.Tuple es k pos) (da3 X.K n t):=by
 intro pins s σ H v u Q I r hw
 obtain⟨a,xs,e1,hq,hl,hw⟩:=hw
 subst e1
 cases r
 obtain⟨its,rv,ht,hz⟩:=I.tuple hq
 refine assign_Tuple_tuple (I.ok.hd hc) ht (by simp[hn,<- hl,rv.length]) dj λh' hx=>?_
 have I1:Inv X pins σ H { s with heap:=h' }:=I.kept (t':=s.toks) λb o e=>hx b o (fN (bS e)) e
 exact h pins _ σ H xs _ Q I1 (by simpa using rv) hw
noncomputable def c97(to ti:TE)(t:FH):TG:=λv σ H Q=>to σ H λo H1=>ti σ H1 λi H2=>t o i v H2 λH3=>Q σ H3
theorem cU0{o i:Expr}{to ti:TE}{t:FH}(ho:PE X o to)(hi:PE X i ti)(hs:RL X t)
  (ha:∀v,assign (.Subscript o i pos) X.env v=(do
   let ov<-holding [v] (eval o X.env)
   let iv<-holding [v,ov] (eval i X.env)
   standAt pos
   holding [v,ov,iv] (setItem ov iv v)
   release [v,ov,iv] []):=by intro _;rfl):PG X (.Subscript o i pos) (c97 to ti t):=by
 intro pins s σ H v u Q I r h
 rw[ha]
 refine wpAny_bind (wpAny_holding (aP (ho pins s σ H _ I h) λov s1 ⟨x,H1,I1,r1,q1⟩=>?_))
 refine wpAny_bind (wpAny_holding (aP (hi pins s1 σ H1 _ I1 q1) λiv s2 ⟨y,H2,I2,r2,q2⟩=>?_))
 refine wpAny_bind (wpAny_standAt (wpAny_bind (wpAny_holding (aP (hs pins s2 σ H2 x y v ov iv u _ I2 r1 r2 r q2) λ_ s3 ⟨H3,I3,q3⟩=>?_))))
 exact wpAny_release ⟨σ,H3,I3,q3⟩
noncomputable def FJ(te:TE)(g:TG):TS:=λD σ H=>te σ H λx H1=>g x σ H1 D.nx
theorem cR0{tg e:Expr}{te:TE}{g:TG}(he:PE X e te)(hg:PG X tg g)(hs:swapsWithSole [tg] e pos.line X.env=pure false:=by rfl)(hw:swappedStores [tg] e X.env=pure none:=by rfl)
  (h1:(assignEach [tg] X.env).map (·.2)=[assign tg X.env]:=by rfl):PS X (.Assign [tg] e pos) (FJ te g):=by
 intro pins s σ H D I h
 refine wpAny_Assign_stores (aP (he pins s σ H _ I h) λv s1 ⟨x,H1,I1,r1,q1⟩=>?_) hs hw
 rw[h1]
 exact aP (hg pins s1 σ H1 x v _ I1 r1 q1) λ_ s2 q=>q
theorem RN{i:Nat}{x:Str}{e:Expr}{te:TE}{pos':Pos}(hN:X.N.Nodup)(hi:X.N[i]?=some x)(hx:Loc X.env.scope x)(he:PE X e te)(hs:swapsWith e (some (.Name x pos')) pos.line X.env=pure false:=by rfl)(hf:X.fn x=true\/X.env.scope.names.lookup x=some .local:=by first | exact .inl rfl | exact .inr rfl | assumption) :
  PS X (.Assign [.Name x pos'] e pos) (FJ te (BH i)):=by
 intro pins s σ H D I h
 refine wpAny_Assign_Name (aP (he pins s σ H _ I h) λv s1 ⟨y,H1,I1,r1,q1⟩=>?_) hs
 exact FA I1 hN hi hx r1 (λs2 I2=>⟨_,H1,I2,q1⟩) hf
noncomputable def da8(i:Nat)(te:TE)(ti:FI):TS:=λD σ H=>∃x,σ[i]?=some (some x)/\te σ H λy H1=>ti x y H1 λz H2=>D.nx (σ.set i (some z)) H2
theorem cU6{i:Nat}{x:Str}{e:Expr}{te:TE}{op:Operator}{ti:FI}{pos':Pos}(hN:X.N.Nodup)(hi:X.N[i]?=some x)(hx:Loc X.env.scope x)(he:PE X e te)(ho:PIp X op ti)(hf:X.fn x=true\/X.env.scope.names.lookup x=some .local:=by first | exact .inl rfl | exact .inr rfl | assumption) :
  PS X (.AugAssign (.Name x pos') op e pos) (da8 i te ti):=by
 intro pins s σ H D I h
 obtain⟨v,e1,h⟩:=h
 obtain⟨m,hn,hl⟩:=I.loc
 have vis:lh X.env.scope x:=by rcases hx with k | k;exact .inl k;exact .inr (.inl k)
 obtain⟨u,r,l⟩:=hl i x v hi e1 vis
 refine wpAny_AugAssign_Name ?_
 have go:wpAny (model X.prog X.w) X.A (eval e X.env) (λw kb=>wpAny (model X.prog X.w) X.A (inplaceOp op u w) (λr dp9=>wpAny (model X.prog X.w) X.A (storeName X.env x r) (λ_=>SP X pins D .next) X.xe dp9) X.xe kb) X.xe s:=by
  refine aP (he pins s σ H _ I h) λw s1 ⟨y,H1,I1,r1,q1⟩=>?_
  refine aP (ho pins s1 σ H1 v y u w _ I1 r r1 q1) λz s2 ⟨zv,H2,I2,r2,q2⟩=>?_
  exact FA I2 hN hi hx r2 (λs3 I3=>⟨_,H2,I3,q2⟩) hf
 rcases l with⟨hk,hm⟩ | ⟨hk,c,hc,BB⟩
 ·exact wpAny_loadName_local I.ok.kind hk hn hm go
 ·rcases hk with hk | hk
  ·exact wpAny_loadName_cell I.ok.kind hk hc BB go
  ·rcases hx with k | k
   ·have:X.env.scope.names.lookup x=some .free:=hk
    rw[k]at this;cases this
   ·have:X.env.scope.names.lookup x=some .free:=hk
    rw[k]at this;cases this
end
section
variable{X:Cx}{pos:Pos}
noncomputable def cR8(c:TT)(tb:TS):TS:=λD σ H=>∃W:Nat->St->Hp->Prop,(∃m,W m σ H)/\∀m σ H,W m σ H ->
 c σ H λb H1=>if b=true then ∃N:St->Hp->Prop,(∀aF H',N aF H'->∃m',m'<m/\W m' aF H')/\tb { D with nx:=N,ct:=N,bk:=D.nx } σ H1 else D.nx σ H1
theorem cp9{c:Expr}{body:List Stmt}{tc:TT}{tb:TS}(hp:PassesOwn (model X.prog X.w) X.A X.env X.xe)(hc:PT X c tc)(hb:PSs X body tb):PS X (.While c body [] pos) (cR8 tc tb):=by
 intro pins s σ H D I h
 obtain⟨W,⟨m0,w0⟩,turn⟩:=h
 refine wpAny_While (codeAny_whileLoop (λn s'=>∃aF H',Inv X pins aF H' s'/\W n aF H') ?_ m0 ⟨σ,H,I,w0⟩)
 rintro n s1 ⟨gG,H1,I1,w1⟩
 refine wpAny_passesOwn hp (aP (hc pins s1 gG H1 _ I1 (turn n gG H1 w1)) λb s2 ⟨H2,I2,q2⟩=>?_)
 cases b with
 | true =>
  obtain⟨N,hN,q2⟩:=q2
  rw[if_pos rfl]
  refine wpAny_passesOwn hp (aP (hb pins s2 gG H2 _ I2 q2) λf s3 q3=>?_)
  cases f with
  | next =>
   obtain⟨ke,H3,I3,n3⟩:=q3
   obtain⟨m',hm,w3⟩:=hN ke H3 n3
   exact⟨m',hm,ke,H3,I3,w3⟩
  | cont =>
   obtain⟨ke,H3,I3,n3⟩:=q3
   obtain⟨m',hm,w3⟩:=hN ke H3 n3
   exact⟨m',hm,ke,H3,I3,w3⟩
  | brk=>exact q3
  | ret v=>exact q3
 | false =>
  rw[if_neg eF]
  exact wpAny_execs_nil ⟨gG,H2,I2,q2⟩
end
structure It where
 go:Nat->Hp->Prop
 jf:Nat->Hp->V->Hp->Prop
 stop:Nat->Hp->Prop
noncomputable def iM(X:Cx)(pins:List (Addr × Obj))(H:Hp)(b:Addr):Prop :=
 H b=none/\b≠X.env.locals/\b ∉ X.fs/\(b∈X.ex\/X.cK.heap.objs.size<=b)/\(∀x c,X.env.cells.lookup x=some c->c≠b)/\∀p∈X.pn++pins,p.1≠b
theorem Inv.yG{X:Cx}{pins:List (Addr × Obj)}{σ:St}{H H':Hp}{s:Shared}{b:Addr}(I:Inv X pins σ H s)(hb:s.heap.objs.size<=b)(hn:H' b=none):iM X pins H' b:=by
 refine⟨hn,Q0 (cT I.lt hb),I.RD hb,.inr (eM I.sz hb),λx c e z=>?_,λp hp z=>?_⟩
 ·obtain⟨v,q⟩:=I.cell x c e
  exact absurd (cT q.lt (by rw[z];exact hb)) (fA _)
 ·exact absurd (cT (bS (I.pin p hp).1) (by rw[z];exact hb)) (fA _)
structure Turn(P:Program)(w:World)(K:PySem.W.Frag)(tg:Expr)(J:It)(fp:List Addr)(it:Addr)(tn:Nat->Heap->Prop):Prop where
 mem:it∈fp
 obj:∀i h,tn i h->∀b∈fp,∃o,h.get? b=some o/\∀v,o.data≠.cell v
 keep:∀i h h',tn i h->(∀b∈fp,∀o,h.get? b=some o->h'.get? b=some o)->tn i h'
 item:∀(X:Cx),X.prog=P->X.w=w->X.K=K->X.calm=true->∀(i:Nat) (pins:List (Addr × Obj)) (s:Shared) (σ:St) (H:Hp) (E:Value->Shared->Prop),Inv X pins σ H s->(∀b∈fp,iM X pins H b)->tn i s.heap->J.go i H ->
  wpAny (model P w) X.A (pyNext (.ref it)) (λr s1=>∃u,r=some u /\
   wpAny (model P w) X.A (letOwnedTupleGo tg (.ref it) u) (λ_ s2=>∃x H',Inv X pins σ H' s2/\RelV x u/\J.jf i H x H'/\tn (i+1) s2.heap/\∀b∈fp,H' b=none) E s1) E s
 done:∀(X:Cx),X.prog=P->X.w=w->X.K=K->X.calm=true->∀(i:Nat) (pins:List (Addr × Obj)) (s:Shared) (σ:St) (H:Hp) (E:Value->Shared->Prop),Inv X pins σ H s->(∀b∈fp,iM X pins H b)->tn i s.heap->J.stop i H ->
  wpAny (model P w) X.A (pyNext (.ref it)) (λr s1=>r=none/\Inv X pins σ H s1) E s
 self:∀(A:Around) (i:Nat) (s:Shared) (Q:Value->Shared->Prop) (E:Value->Shared->Prop),tn i s.heap->Q (.ref it) s->wpAny (model P w) A (pyIter (.ref it)) Q E s
noncomputable abbrev TI:=St->Hp->(It->Hp->Prop)->Prop
noncomputable def RO(X:Cx)(pins:List (Addr × Obj))(σ:St)(tg:Expr)(R:It->Hp->Prop)(FK:Value)(s2:Shared):Prop :=
 ∃(it:Addr) (fp:List Addr) (tn:Nat->Heap->Prop) (J:It) (H':Hp),FK=.ref it/\Inv X pins σ H' s2/\Turn X.prog X.w X.K tg J fp it tn/\tn 0 s2.heap/\(∀b∈fp,iM X pins H' b)/\R J H'
noncomputable def PI(X:Cx)(tg iter:Expr)(wi:TI):Prop :=
 ∀(pins:List (Addr × Obj)) (s:Shared) (σ:St) (H:Hp) (R:It->Hp->Prop),Inv X pins σ H s->wi σ H R ->
  wpAny (model X.prog X.w) X.A (eval iter X.env) (λv s1=>wpAny (model X.prog X.w) X.A (pyIter v) (RO X pins σ tg R) X.xe s1) X.xe s
theorem FL{M:Model}{A:Around}{E:Value->Shared->Prop}{s:Shared}{tg:Expr}{it:Addr}{u:Value}{o:Obj}{n:String}{vs:Array Value}{Q:Unit->Shared->Prop}(ho:s.heap.get? it=some o)(hc:o.cls=.type n)(hd:o.data=.fields vs)
  (hn:["enumerate","zip","dict_itemiterator","dict_reverseitemiterator","odict_iterator","itertools.zip_longest","itertools.pairwise"].contains n=false) (hQ:Q () s):wpAny M A (letOwnedTupleGo tg (.ref it) u) Q E s:=by
 unfold letOwnedTupleGo
 cases tg<;>first
  | exact wpAny_pure hQ
  | (cases u<;>first
    | exact wpAny_pure hQ
    | (refine wpAny_bind (wpAny_load ho ?_)
       rw[hc,hd]
       show wpAny M A (if(["enumerate","zip","dict_itemiterator","dict_reverseitemiterator","odict_iterator","itertools.zip_longest","itertools.pairwise"].contains n&&vs[0]?==some (rawInt _))=true then _ else _) Q E s
       rw[if_neg (by intro h;rw[hn,tR]at h;cases h)]
       exact wpAny_pure hQ))
noncomputable def FN(K:PySem.W.Frag)(a:Addr):It :=
 ⟨λi H=>∃xs x,bK K H a xs/\xs[i]?=some x,λi H x H'=>H'=H/\∀xs,bK K H a xs->xs[i]?=some x,λi H=>∃xs,bK K H a xs/\xs.length<=i⟩
noncomputable def yH(lo:Int)(n:Nat):It:=⟨λi _=>i<n,λi H x H'=>H'=H/\x=.int (lo+i),λi _=>n<=i⟩
theorem ci0{P:Program}{w:World}{K:PySem.W.Frag}{tg:Expr}(a it:Addr):Turn P w K tg (FN K a) [it] it (λi h=>h.IsListIter it a i) where
 mem:=by simp
 obj:=λi h st b hb=>by
  have e:b=it:=by simpa using hb
  subst e
  obtain⟨o,e,c,d⟩:=st
  exact⟨o,e,λv z=>by rw[d]at z;cases z⟩
 keep:=λi h h' st k=>st.at λo e=>k it (by simp) o e
 item:=by
  intro X hP hw hK hc i pins s σ H E I hf st hg
  subst hP hw hK
  obtain⟨xs,x,hq,hx⟩:=hg
  obtain⟨its,rv,p,hz⟩:=I.list hq
  obtain⟨u,hu,ru⟩:=rv.get hx
  obtain⟨f0,f1,f2,f3,f4,f5⟩:=hf it (by simp)
  refine wpAny_pyNext_list_item st p.isList (x:=u) (by simpa using hu) λh' jJ sb=>?_
  have I1:Inv X pins σ H { s with heap:=h' }:=I.turned (t':=s.toks) (λb o hb e=>(sb.2 b hb).trans e) f0 f1 f3 f4 f5
  obtain⟨o,e,c,d⟩:=id jJ
  exact⟨u,rfl,FL (s:={ s with heap:=h' }) e c d (by decide) ⟨x,H,I1,ru,⟨rfl,λys hy=>by rw[I.yF hy hq];exact hx⟩,jJ,λb hb=>(hf b hb).1⟩⟩
 done:=by
  intro X hP hw hK hc i pins s σ H E I hf st hg
  subst hP hw hK
  obtain⟨xs,hq,hx⟩:=hg
  obtain⟨its,rv,p,hz⟩:=I.list hq
  obtain⟨f0,f1,f2,f3,f4,f5⟩:=hf it (by simp)
  have hl:=rv.length
  exact wpAny_pyNext_list_end (I.ok.hd hc) st p.isList (by simp;omega) λh' eb=>⟨rfl,I.turned (t':=s.toks) (λb o hb e=>eb b o hb e) f0 f1 f3 f4 f5⟩
 self:=λ_ _ _ _ _ st h=>wpAny_pyIter_listiter st h
theorem b79{P:Program}{w:World}{K:PySem.W.Frag}{tg:Expr}(it:Addr)(lo:Int)(n:Nat):Turn P w K tg (yH lo n) [it] it (λi h=>IsRangeIter h it (lo+(i:Nat)*1) ((n:Int)-(i:Nat)) 1) where
 mem:=by simp
 obj:=λi h st b hb=>by
  have e:b=it:=by simpa using hb
  subst e
  exact⟨_,st,λv z=>by
   have z':Data.fields _=Data.cell v:=z
   cases z'⟩
 keep:=λi h h' st k=>k it (by simp) _ st
 item:=by
  intro X hP hw hK hc i pins s σ H E I hf st hg
  subst hP hw hK
  obtain⟨f0,f1,f2,f3,f4,f5⟩:=hf it (by simp)
  have W:=Walks.range (prog:=X.prog) (w:=X.w) (I.ok.hd hc) it lo 1 n
  refine W.item i s _ _ hg st λv h' tk hv jJ kk=>?_
  obtain⟨t,rfl⟩:=hv
  have I1:Inv X pins σ H { s with heap:=h',toks:=tk }:=I.turned (λb o hb e=>kk b o (by simpa using hb) e) f0 f1 f3 f4 f5
  refine⟨_,rfl,FL (s:={ s with heap:=h',toks:=tk }) (n:="range_iterator") jJ rfl rfl (by decide) ⟨.int (lo+i),H,I1,⟨t,?_⟩,⟨rfl,rfl⟩,jJ,λb hb=>(hf b hb).1⟩⟩
  rw[Int.mul_one]
 done:=by
  intro X hP hw hK hc i pins s σ H E I hf st hg
  subst hP hw hK
  obtain⟨f0,f1,f2,f3,f4,f5⟩:=hf it (by simp)
  exact wpAny_pyNext_range_end (I.ok.hd hc) st (by have:n<=i:=hg;omega) λh' eb=>⟨rfl,I.turned (t':=s.toks) (λb o hb e=>eb b o hb e) f0 f1 f3 f4 f5⟩
 self:=λ_ _ _ _ _ st h=>wpAny_pyIter_rangeiter st h
end L2
namespace L2
open PySem PySem.Spec PyProof.Rows
section
variable{X:Cx}{tg:Expr}
noncomputable def c04(K:PySem.W.Frag)(tl:TE):TI:=λσ H R=>tl σ H λx H1=>∃a,x=.ref a/\(∃xs,bK K H1 a xs)/\R (FN K a) H1
theorem RP{l:Expr}{tl:TE}(hl:PE X l tl):PI X tg l (c04 X.K tl):=by
 intro pins s σ H R I h
 refine aP (hl pins s σ H _ I h) λv s1 ⟨x,H1,I1,r1,q1⟩=>?_
 obtain⟨a,e,⟨xs,hq⟩,q⟩:=q1
 subst e
 cases r1
 obtain⟨its,rv,p,hz⟩:=I1.list hq
 refine wpAny_pyIter_list p.isList ?_
 refine⟨s1.heap.objs.size,[s1.heap.objs.size],_,_,H1,rfl,I1.kept (t':=s1.toks) λb o e=>ff _ e,ci0 a _,⟨_,gk _ rfl,rfl,rfl⟩,λb hb=>?_,q⟩
 have e:b=s1.heap.objs.size:=by simpa using hb
 subst e
 exact I1.yG (bI _) (I1.aH.fresh (bI _))
theorem RQ{pins:List (Addr × Obj)}{σ:St}{H:Hp}{s:Shared}{R:It->Hp->Prop}{E:Value->Shared->Prop}{lo hi:Int}{t u v:Tok}{tk:Nat}(I:Inv X pins σ H s)(h1:-(2 ^ 62)<=lo)(h2:lo<2 ^ 62)(h3:-(2 ^ 62)<=hi)(h4:hi<2 ^ 62)
  (q:R (yH lo (hi-lo).toNat) H):wpAny (model X.prog X.w) X.A (pyIter (.ref s.heap.objs.size)) (RO X pins σ tg R) E { s with heap:=s.heap.push { cls:=.type "range",data:=.fields #[.int lo t,.int hi u,.int 1 v] },toks:=tk }:=by
 refine wpAny_pyIter_range (IsRange.new ..) (small_one h1 h2 h3 h4) ?_
 have I1:Inv X pins σ H { s with heap:=s.heap.push { cls:=.type "range",data:=.fields #[.int lo t,.int hi u,.int 1 v] },toks:=tk }:=I.kept λb o e=>ff _ e
 refine⟨(s.heap.push { cls:=.type "range",data:=.fields #[.int lo t,.int hi u,.int 1 v] }).objs.size,[(s.heap.push { cls:=.type "range",data:=.fields #[.int lo t,.int hi u,.int 1 v] }).objs.size],_,_,H,rfl,
  I1.kept (t':=tk) λb o e=>ff _ e,b79 _ lo (hi-lo).toNat,?_,λb hb=>?_,q⟩
 ·have e1:lo+((0:Nat):Int)*1=lo:=by simp
  have e2:(((hi-lo).toNat:Nat):Int)-((0:Nat):Int)=Builtin.Range.rangeSize lo hi 1:=by rw[rangeSize_one];split<;>omega
  show IsRangeIter _ _ (lo+((0:Nat):Int)*1) ((((hi-lo).toNat:Nat):Int)-((0:Nat):Int)) 1
  rw[e1,e2]
  exact gk _ rfl
 ·have e:b=(s.heap.push { cls:=.type "range",data:=.fields #[.int lo t,.int hi u,.int 1 v] }).objs.size:=by simpa using hb
  subst e
  exact I1.yG (bI _) (I1.aH.fresh (bI _))
noncomputable def cZ8(ta:TA):TI:=λσ H R=>ta σ H λvs H1=>∃j:Int,vs=[.int j]/\-(2 ^ 62)<=j/\j<2 ^ 62/\R (yH 0 j.toNat) H1
noncomputable def cZ0(ta:TA):TI:=λσ H R=>ta σ H λvs H1=>∃i j:Int,vs=[.int i,.int j]/\(-(2 ^ 62)<=i/\i<2 ^ 62/\-(2 ^ 62)<=j/\j<2 ^ 62)/\R (yH i (j-i).toNat) H1
theorem b98{a:Expr}{ta:TA}{p pos:Pos}(hg:Gl X "range")(hm:X.mg "range"=none)(ha:PA X [a] ta)(hs:starEach [a] X.env=[(false,eval a X.env)]:=by rfl):PI X tg (.Call (.Name "range" p) [a] [] pos) (cZ8 ta):=by
 intro pins s σ H R I h
 refine Call_ (ow I hg hm boot_range (xW (aP (ha pos pins s σ H _ I h) λus s1 ⟨vs,H1,I1,r1,q1⟩=>?_) hs rfl))
 obtain⟨j,e,q1,q2,q⟩:=q1
 subst e
 cases r1 with
 | cons r rr =>
  cases rr
  obtain⟨t,rfl⟩:=r
  exact call_range_1 (RQ I1 (by omega) (by omega) q1 q2 (by simpa using q))
theorem cm0{a b:Expr}{ta:TA}{p pos:Pos}(hg:Gl X "range")(hm:X.mg "range"=none)(ha:PA X [a,b] ta)(hs:starEach [a,b] X.env=[(false,eval a X.env),(false,eval b X.env)]:=by rfl)(gU:starEach [b] X.env=[(false,eval b X.env)]:=by rfl) :
  PI X tg (.Call (.Name "range" p) [a,b] [] pos) (cZ0 ta):=by
 intro pins s σ H R I h
 refine Call_ (ow I hg hm boot_range (xW (aP (ha pos pins s σ H _ I h) λus s1 ⟨vs,H1,I1,r1,q1⟩=>?_) (by rw[hs,gU]) (by rw[gU];rfl)))
 obtain⟨i,j,e,⟨q1,q2,q3,q4⟩,q⟩:=q1
 subst e
 cases r1 with
 | cons r rr =>
  cases rr with
  | cons r' rr =>
   cases rr
   obtain⟨t,rfl⟩:=r
   obtain⟨t',rfl⟩:=r'
   exact call_range_2 (RQ I1 q1 q2 q3 q4 q)
noncomputable def db4(wi:TI)(g:TG)(tb:TS):TS:=λD σ H=>wi σ H λJ H1=>∃W:Nat->Nat->St->Hp->Prop,(∃m,W 0 m σ H1)/\∀i m σ H,W i m σ H ->
 (J.stop i H/\D.nx σ H)\/(J.go i H/\∃N:St->Hp->Prop,(∀aF H',N aF H'->∃m',m'<m/\W (i+1) m' aF H')/\∀x H',J.jf i H x H'->g x σ H' λlD H2=>tb { D with nx:=N,ct:=N,bk:=D.nx } lD H2)
noncomputable def yI(fp:List Addr)(h:Heap):List (Addr × Obj):=fp.filterMap λb=>(h.get? b).map λo=>(b,o)
theorem BK{fp:List Addr}{h:Heap}{b:Addr}{o:Obj}(hb:b∈fp)(e:h.get? b=some o):(b,o)∈yI fp h:=dh6.mpr ⟨b,hb,by rw[e];rfl⟩
theorem ci5{fp:List Addr}{h:Heap}{p:Addr × Obj}(hp:p∈yI fp h):p.1∈fp/\h.get? p.1=some p.2:=by
 obtain⟨b,hb,e⟩:=dh6.mp hp
 cases q:h.get? b with
 | none=>rw[q]at e;cases e
 | some o =>
  rw[q]at e
  have e':(b,o)=p:=cQ e
  subst e'
  exact⟨hb,q⟩
theorem Inv.pinned{pins:List (Addr × Obj)}{σ:St}{H:Hp}{s:Shared}{fp:List Addr}(I:Inv X pins σ H s)(hf:∀b∈fp,iM X pins H b)(ho:∀b∈fp,∃o,s.heap.get? b=some o/\∀v,o.data≠.cell v):Inv X (pins++yI fp s.heap) σ H s :=
 I.RE λp hp=>(bW.mp hp).elim (λz=>I.pin p (fB _ z)) λz=>by
  obtain⟨hb,e⟩:=ci5 z
  obtain⟨f0,f1,f2,_⟩:=hf p.1 hb
  obtain⟨o,e',d⟩:=ho p.1 hb
  rw[e]at e';cases e'
  exact⟨e,f0,f1,f2,d⟩
theorem Inv.yJ{pins pl:List (Addr × Obj)}{σ:St}{H:Hp}{s:Shared}(I:Inv X (pins++pl) σ H s):Inv X pins σ H s:=I.RE λp hp=>I.pin p (fB _ (gQ _ hp))
theorem cV2{iter:Expr}{body:List Stmt}{wi:TI}{g:TG}{tb:TS}{pos:Pos}(hp:PassesOwn (model X.prog X.w) X.A X.env X.xe)(hc:X.calm=true)(hi:PI X tg iter wi)(hg:PG X tg g)(hb:PSs X body tb)
  (hs:∀x,foldedSetIterable iter X.env x=pure x:=by intro _;rfl):PS X (.For tg iter body [] pos) (db4 wi g tb):=by
 intro pins s σ H D I h
 refine wpAny_For (aP (hi pins s σ H _ I h) λv s1 h1=>aP h1 λFK s2 h2=>?_) hs
 obtain⟨it,fp,tn,J,H2,e,I2,T,mP,f2,W,⟨m0,w0⟩,turn⟩:=h2
 subst e
 have FP:∀{H':Hp},(∀b∈fp,H' b=none)->∀b∈fp,iM X pins H' b:=λhn b hb=>⟨hn b hb,(f2 b hb).2⟩
 refine codeAny_forLoop_any (λn s'=>∃i aF H',Inv X pins aF H' s'/\tn i s'.heap/\(∀b∈fp,H' b=none)/\W i n aF H') ?_ m0 ⟨0,σ,H2,I2,mP,λb hb=>(f2 b hb).1,w0⟩
 rintro n s3 ⟨i,ke,H3,I3,yK,RU,w3⟩
 rcases turn i n ke H3 w3 with⟨stop,qn⟩ | ⟨go,N,hN,step⟩
 ·refine wpAny_passesOwn hp (aP (T.done X rfl rfl rfl hc i pins s3 ke H3 X.xe I3 (FP RU) yK stop) λr s4 ⟨hr,I4⟩=>?_)
  subst hr
  exact wpAny_execs_nil ⟨ke,H3,I4,qn⟩
 ·refine wpAny_passesOwn hp (aP (T.item X rfl rfl rfl hc i pins s3 ke H3 X.xe I3 (FP RU) yK go) λr s4 ⟨u,hr,h4⟩=>?_)
  subst hr
  refine wpAny_passesOwn hp (aP h4 λ_ s5 ⟨x,H5,I5,r5,y5,qO,FQ⟩=>?_)
  have FR:=I5.pinned (FP FQ) (T.obj _ _ qO)
  refine wpAny_passesOwn hp (aP (hg _ s5 ke H5 x u _ FR r5 (step x H5 y5)) λ_ s6 ⟨FT,H6,I6,q6⟩=>?_)
  refine wpAny_passesOwn hp (aP (hb _ s6 FT H6 _ I6 q6) λf s7 q7=>?_)
  have again:∀{kg:St} {H7:Hp},Inv X (pins++yI fp s5.heap) kg H7 s7->N kg H7->∃m,m<n/\∃i aF H',Inv X pins aF H' s7/\tn i s7.heap/\(∀b∈fp,H' b=none)/\W i m aF H':=λ{kg H7} I7 n7=>by
   obtain⟨m',hm,w7⟩:=hN kg H7 n7
   refine⟨m',hm,i+1,kg,H7,I7.yJ,T.keep _ _ _ qO λb hb o e=>(I7.pin (b,o) (fB _ (fB _ (BK hb e)))).1,λb hb=>?_,w7⟩
   obtain⟨o,e,d⟩:=T.obj _ _ qO b hb
   exact(I7.pin (b,o) (fB _ (fB _ (BK hb e)))).2.1
  cases f with
  | next=>obtain⟨kg,H7,I7,n7⟩:=q7;exact again I7 n7
  | cont=>obtain⟨kg,H7,I7,n7⟩:=q7;exact again I7 n7
  | brk=>obtain⟨kg,H7,I7,q7⟩:=q7;exact⟨kg,H7,I7.yJ,q7⟩
  | ret v=>obtain⟨x7,kg,H7,I7,r7,q7⟩:=q7;exact⟨x7,kg,H7,I7.yJ,r7,q7⟩
end
end L2
namespace L2
open PySem PySem.Spec PyProof.Rows
noncomputable abbrev R2:=V->V->Hp->VK->Prop
noncomputable def cB(X:Cx)(f:Value->Value->Sem Value)(r:R2):Prop :=
 ∀(pins:List (Addr × Obj)) (s:Shared) (σ:St) (H:Hp) (x y:V) (v u:Value) (Q:VK),Inv X pins σ H s->RelV x v->RelV y u->r x y H Q ->
  wpAny (model X.prog X.w) X.A (f v u) (EP X pins σ Q) X.xe s
noncomputable def FU(X:Cx)(f:Value->Sem Value)(r:V->Hp->VK->Prop):Prop :=
 ∀(pins:List (Addr × Obj)) (s:Shared) (σ:St) (H:Hp) (x:V) (v:Value) (Q:VK),Inv X pins σ H s->RelV x v->r x H Q ->
  wpAny (model X.prog X.w) X.A (f v) (EP X pins σ Q) X.xe s
noncomputable def fZ(X:Cx)(f:Value)(r:List V->Hp->VK->Prop):Prop :=
 ∀(pins:List (Addr × Obj)) (s:Shared) (σ:St) (H:Hp) (xs:List V) (us:List Value) (Q:VK),Inv X pins σ H s->Vals xs us->r xs H Q ->
  wpAny (model X.prog X.w) X.A (call f us) (EP X pins σ Q) X.xe s
noncomputable def yL(r:R2)(ta tb:TE):TE:=λσ H Q=>ta σ H λx H1=>tb σ H1 λy H2=>r x y H2 Q
noncomputable def tUn(r:V->Hp->VK->Prop)(ta:TE):TE:=λσ H Q=>ta σ H λx H1=>r x H1 Q
noncomputable def rI(C:Int->Int->Prop)(g:Int->Int->V):R2:=λx y H Q=>∃i j,x=.int i/\y=.int j/\C i j/\Q (g i j) H
noncomputable def iN(g:Int->Int->V):R2:=λx y H Q=>∃i j,x=.int i/\y=.int j/\Q (g i j) H
noncomputable def rU(g:Int->V):V->Hp->VK->Prop:=λx H Q=>∃i,x=.int i/\Q (g i) H
section
variable{X:Cx}{a b c:Expr}{ta tb tc:TE}{pos:Pos}
theorem FV(ha:PE X a ta)(hb:PE X b tb){pins:List (Addr × Obj)}{s:Shared}{σ:St}{H:Hp}{R:V->V->Hp->Prop}(I:Inv X pins σ H s)
  (h:ta σ H λx H1=>tb σ H1 λy H2=>R x y H2) {Q:Value->Shared->Prop} {f:Value->Value->Sem Value}
  (hf:∀v u s2 x y H2,Inv X pins σ H2 s2->RelV x v->RelV y u->R x y H2->wpAny (model X.prog X.w) X.A (f v u) Q X.xe s2) :
  wpAny (model X.prog X.w) X.A (eval a X.env) (λv bF=>wpAny (model X.prog X.w) X.A (eval b X.env) (λu kb=>wpAny (model X.prog X.w) X.A (f v u) Q X.xe kb) X.xe bF) X.xe s:=by
 refine aP (ha pins s σ H _ I h) λv s1 ⟨x,H1,I1,r1,q1⟩=>?_
 refine aP (hb pins s1 σ H1 _ I1 q1) λu s2 ⟨y,H2,I2,r2,q2⟩=>?_
 exact hf v u s2 x y H2 I2 r1 r2 q2
theorem yM{op:Operator}{r:R2}(ho:cB X (binaryOp op) r)(ha:PE X a ta)(hb:PE X b tb):PE X (.BinOp a op b pos) (yL r ta tb):=by
 intro pins s σ H Q I h
 exact wpAny_BinOp (FV ha hb I h λv u s2 x y H2 I2 rx ry q=>ho pins s2 σ H2 x y v u Q I2 rx ry q)
theorem c80{op:UnaryOp}{r:V->Hp->VK->Prop}(ho:FU X (unaryOp op) r)(ha:PE X a ta):PE X (.UnaryOp op a pos) (tUn r ta):=by
 intro pins s σ H Q I h
 exact UnaryOp_ (aP (ha pins s σ H _ I h) λv s1 ⟨x,H1,I1,r1,q1⟩=>ho pins s1 σ H1 x v Q I1 r1 q1)
theorem yN{f:Value->Value->Sem Value}{C:Int->Int->Prop}{g:Int->Int->Int}
  (rule:∀(i j:Int) (t u:Tok) (s:Shared) (Q:Value->Shared->Prop) (E:Value->Shared->Prop),C i j->Q (.int (g i j) s.toks) { s with toks:=s.toks+1 }->wpAny (model X.prog X.w) X.A (f (.int i t) (.int j u)) Q E s) :
  cB X f (rI C λi j=>.int (g i j)):=by
 intro pins s σ H x y v u Q I rx ry h
 obtain⟨i,j,rfl,rfl,hc,q⟩:=h
 obtain⟨t,rfl⟩:=rx
 obtain⟨t',rfl⟩:=ry
 exact rule i j t t' s _ _ hc ⟨.int (g i j),H,I.tok _,⟨_,rfl⟩,q⟩
theorem qP{f:Value->Value->Sem Value}{g:Int->Int->Int}
  (rule:∀(i j:Int) (t u:Tok) (s:Shared) (Q:Value->Shared->Prop) (E:Value->Shared->Prop),Q (.int (g i j) s.toks) { s with toks:=s.toks+1 }->wpAny (model X.prog X.w) X.A (f (.int i t) (.int j u)) Q E s) :
  cB X f (iN λi j=>.int (g i j)):=by
 intro pins s σ H x y v u Q I rx ry h
 obtain⟨i,j,rfl,rfl,q⟩:=h
 obtain⟨t,rfl⟩:=rx
 obtain⟨t',rfl⟩:=ry
 exact rule i j t t' s _ _ ⟨.int (g i j),H,I.tok _,⟨_,rfl⟩,q⟩
theorem BL{f:Value->Value->Sem Value}{g:Int->Int->Bool}
  (rule:∀(i j:Int) (t u:Tok) (s:Shared) (Q:Value->Shared->Prop) (E:Value->Shared->Prop),Q (.bool (g i j)) s->wpAny (model X.prog X.w) X.A (f (.int i t) (.int j u)) Q E s) :
  cB X f (iN λi j=>.bl (g i j)):=by
 intro pins s σ H x y v u Q I rx ry h
 obtain⟨i,j,rfl,rfl,q⟩:=h
 obtain⟨t,rfl⟩:=rx
 obtain⟨t',rfl⟩:=ry
 exact rule i j t t' s _ _ ⟨.bl (g i j),H,I,rfl,q⟩
noncomputable def ik(i j:Int):Prop:=(-(2 ^ 64)<i/\i<2 ^ 64)\/(-(2 ^ 64)<j/\j<2 ^ 64)
theorem ik.ok{i j:Int}(h:ik i j):IntMulOk i j:=by
 rcases h with⟨h1,h2⟩ | ⟨h1,h2⟩
 ·exact .of_left (intBits_le_64 h1 h2)
 ·exact .of_right (intBits_le_64 h1 h2)
theorem b78(k:Nat):(0:Int)<=2 ^ k:=by
 rw[two_pow_cast]
 exact Q1 _
theorem cV7:cB X (binaryOp .Add) (iN λi j=>.int (i+j)):=qP λ_ _ _ _ _ _ _ q=>add_int q
theorem FW:cB X (binaryOp .Sub) (iN λi j=>.int (i-j)):=qP λ_ _ _ _ _ _ _ q=>sub_int q
theorem cU7:cB X (binaryOp .Mod) (rI (λ_ j=>0<j) λi j=>.int (i%j)):=yN λi j _ _ _ _ _ hc q=>by
 have h1:(0:Int)<j:=hc
 exact mod_int' (by omega) (by rw[Int.fmod_eq_emod_of_nonneg i (by omega)];exact q)
theorem cN9:cB X (binaryOp .RShift) (rI (λ_ j=>0<=j) λi j=>.int (i/2 ^ j.toNat)):=yN λi j _ _ _ _ _ hc q =>
 rshift_int hc (by rw[dh7 i (b78 _)];exact q)
theorem cR6:cB X (binaryOp .BitAnd) (iN λi j=>.int (nZ i j)):=qP λ_ _ _ _ _ _ _ q=>and_int q
theorem cS4:cB X (binaryOp .BitXor) (iN λi j=>.int (n8 i j)):=qP λ_ _ _ _ _ _ _ q=>xor_int q
theorem cJ6:cB X (inplaceOp .Add) (iN λi j=>.int (i+j)):=qP λ_ _ _ _ _ _ _ q=>iadd_int q
theorem cK8:cB X (inplaceOp .Sub) (iN λi j=>.int (i-j)):=qP λ_ _ _ _ _ _ _ q=>isub_int q
theorem cK3:cB X (inplaceOp .BitXor) (iN λi j=>.int (n8 i j)):=qP λ_ _ _ _ _ _ _ q=>ixor_int q
theorem unI{f:Value->Sem Value}{g:Int->Int}
  (rule:∀(i:Int) (t:Tok) (s:Shared) (Q:Value->Shared->Prop) (E:Value->Shared->Prop),Q (.int (g i) s.toks) { s with toks:=s.toks+1 }->wpAny (model X.prog X.w) X.A (f (.int i t)) Q E s) :
  FU X f (rU λi=>.int (g i)):=by
 intro pins s σ H x v Q I rx h
 obtain⟨i,rfl,q⟩:=h
 obtain⟨t,rfl⟩:=rx
 exact rule i t s _ _ ⟨.int (g i),H,I.tok _,⟨_,rfl⟩,q⟩
theorem cP2:FU X (unaryOp .USub) (rU λi=>.int (-i)):=unI λ_ _ _ _ _ q=>neg_int q
end
section
variable{X:Cx}{a b c:Expr}{ta tb tc:TE}{pos:Pos}
theorem RV{pins:List (Addr × Obj)}{σ:St}{H:Hp}{s:Shared}{Q:VK}{k k':Bool}(I:Inv X pins σ H s)(q:Q (.bl k) H)(e:k=k'):EP X pins σ Q (.bool k') s:=by
 subst e
 exact⟨.bl k,H,I,rfl,q⟩
theorem c71:cB X (compareOp .Lt) (iN λi j=>.bl (decide (i<j))):=BL λ_ _ _ _ _ _ _ q=>lt_int q
theorem c70:cB X (compareOp .LtE) (iN λi j=>.bl (decide (i<=j))):=BL λ_ _ _ _ _ _ _ q=>le_int q
theorem cY4:cB X (compareOp .Gt) (iN λi j=>.bl (decide (j<i))):=BL λ_ _ _ _ _ _ _ q=>gt_int q
theorem c78:cB X (compareOp .GtE) (iN λi j=>.bl (decide (j<=i))):=BL λ_ _ _ _ _ _ _ q=>ge_int q
theorem cV6:cB X (compareOp .Is) (λx y H Q=>y=.ax/\Q (.bl (decide (x=.ax))) H):=by
 intro pins s σ H x y v u Q I rx ry h
 obtain⟨rfl,q⟩:=h
 cases ry
 refine is_none_gen (RV I q ?_)
 cases x<;>first
  | (cases rx;rfl)
  | (obtain⟨t,rfl⟩:=rx;rfl)
theorem cG2:cB X (compareOp .IsNot) (λx y H Q=>y=.ax/\Q (.bl (!decide (x=.ax))) H):=by
 intro pins s σ H x y v u Q I rx ry h
 obtain⟨rfl,q⟩:=h
 cases ry
 refine isnot_none_gen (RV I q ?_)
 cases x<;>first
  | (cases rx;rfl)
  | (obtain⟨t,rfl⟩:=rx;rfl)
theorem cB.or{f:Value->Value->Sem Value}{r r':R2}(h:cB X f r)(h':cB X f r'):cB X f (λx y H Q=>r x y H Q\/r' x y H Q):=by
 intro pins s σ H x y v u Q I rx ry q
 rcases q with q | q
 ·exact h pins s σ H x y v u Q I rx ry q
 ·exact h' pins s σ H x y v u Q I rx ry q
theorem bC(b:Expr){op:CmpOp}(h:op≠.In:=by decide)(h2:op≠.NotIn:=by decide):behindInMarks op b=false:=by
 have e1:(op==CmpOp.In)=false:=by cases op<;>first | rfl | exact absurd rfl h
 have e2:(op==CmpOp.NotIn)=false:=by cases op<;>first | rfl | exact absurd rfl h2
 cases b<;>simp[behindInMarks,e1,e2]
theorem cM1{op:CmpOp}{r:R2}(ho:cB X (compareOp op) r)(ha:PE X a ta)(hb:PE X b tb)(hm:behindInMarks op b=false):PE X (.Compare a [op] [b] pos) (yL r ta tb):=by
 intro pins s σ H Q I h
 exact wpAny_Compare1 (FV ha hb I h λv u s2 x y H2 I2 rx ry q=>ho pins s2 σ H2 x y v u Q I2 rx ry q) hm
noncomputable def RW(t:TE):TT:=λσ H Q=>t σ H λx H'=>∃k,x=.bl k/\Q k H'
theorem cH9{op:CmpOp}{r:R2}(ho:cB X (compareOp op) r)(ha:PE X a ta)(hb:PE X b tb)(hm:behindInMarks op b=false):PT X (.Compare a [op] [b] pos) (RW (yL r ta tb)):=by
 intro pins s σ H Q I h
 refine wpAny_isTrue_Compare1 (aP (ha pins s σ H _ I h) λv s1 ⟨x,H1,I1,r1,q1⟩=>aP (hb pins s1 σ H1 _ I1 q1) λu s2 ⟨y,H2,I2,r2,q2⟩ =>
  aP (ho pins s2 σ H2 x y v u _ I2 r1 r2 q2) λc s3 ⟨z,H3,I3,r3,k,e,q3⟩=>?_) hm
 subst e
 cases r3
 exact wpAny_truthy_bool ⟨H3,I3,q3⟩
noncomputable def RX(r r':R2)(ta tb tc:TE):TE:=λσ H Q=>ta σ H λx H1=>tb σ H1 λy H2=>r x y H2 λz H3=>∃k,z=.bl k /\
 (if k=true then tc σ H3 λw' H4=>r' y w' H4 Q else Q (.bl false) H3)
theorem cr7{op qQ:CmpOp}{r r':R2}(ho:cB X (compareOp op) r)(j9:cB X (compareOp qQ) r')(ha:PE X a ta)(hb:PE X b tb)(hc:PE X c tc)
  (hm:lastMarks [op,qQ] [b,c]=false:=by with_unfolding_all rfl):PE X (.Compare a [op,qQ] [b,c] pos) (RX r r' ta tb tc):=by
 intro pins s σ H Q I h
 refine Compare_chain (aP (ha pins s σ H _ I h) λv s1 ⟨x,H1,I1,r1,q1⟩=>chain_link (aP (hb pins s1 σ H1 _ I1 q1) λu s2 ⟨y,H2,I2,r2,q2⟩ =>
  aP (ho pins s2 σ H2 x y v u _ I2 r1 r2 q2) λd s3 ⟨z,H3,I3,r3,k,e,q3⟩=>?_)) hm
 subst e
 cases r3
 refine wpAny_truthy_bool ?_
 cases k with
 | false=>exact ite_ff ⟨.bl false,H3,I3,rfl,q3⟩
 | true=>exact ite_tt (chain_last (aP (hc pins s3 σ H3 _ I3 q3) λw' s4 ⟨z',H4,I4,r4,q4⟩=>j9 pins s4 σ H4 y z' u w' Q I4 r2 r4 q4))
theorem um:(sizeLine:Nat)<2 ^ 63:=by rw[sizeLine_eq];decide
theorem b75:cB X (binaryOp .Add) (λx y H Q=>∃i j,x=.str i/\y=.str j/\i.length+j.length<=sizeLine/\Q (.str (i++j)) H):=by
 intro pins s σ H x y v u Q I rx ry h
 obtain⟨i,j,rfl,rfl,hz,q⟩:=h
 obtain⟨t,rfl⟩:=rx
 obtain⟨t',rfl⟩:=ry
 exact add_str (λt' tk=>⟨.str (i++j),H,I.tok _,⟨_,rfl⟩,q⟩) hz
theorem yO{x:V}{us:List Value}(r:Vals [x] us):∃u,us=[u]/\RelV x u:=by
 cases r with
 | cons r1 r2=>cases r2;exact⟨_,rfl,r1⟩
theorem RY{x y:V}{us:List Value}(r:Vals [x,y] us):∃u w',us=[u,w']/\RelV x u/\RelV y w':=by
 cases r with
 | cons r1 r2 =>
  cases r2 with
  | cons r3 r4=>cases r4;exact⟨_,_,rfl,r1,r3⟩
theorem cc2(hc:X.calm=true):fZ X (.builtin "max") (λxs H Q=>∃i j,xs=[.int i,.int j]/\Q (.int (if j>i then j else i)) H):=by
 intro pins s σ H xs us Q I r h
 obtain⟨i,j,rfl,q⟩:=h
 obtain⟨u,w',rfl,⟨t,rfl⟩,⟨t',rfl⟩⟩:=RY r
 refine max_two_ints (I.ok.hd hc) λh' tk k=>⟨_,H,I.kept k,?_,q⟩
 by_cases hj:j>i
 ·rw[if_pos hj,if_pos hj];exact⟨_,rfl⟩
 ·rw[if_neg hj,if_neg hj];exact⟨_,rfl⟩
theorem ch2(hc:X.calm=true):fZ X (.builtin "min") (λxs H Q=>∃i j,xs=[.int i,.int j]/\Q (.int (if j<i then j else i)) H):=by
 intro pins s σ H xs us Q I r h
 obtain⟨i,j,rfl,q⟩:=h
 obtain⟨u,w',rfl,⟨t,rfl⟩,⟨t',rfl⟩⟩:=RY r
 refine min_two_ints (I.ok.hd hc) λh' tk k=>⟨_,H,I.kept k,?_,q⟩
 by_cases hj:j<i
 ·rw[if_pos hj,if_pos hj];exact⟨_,rfl⟩
 ·rw[if_neg hj,if_neg hj];exact⟨_,rfl⟩
theorem cf7:fZ X (.type "int") (λxs H Q=>(∃i,xs=[.int i]/\Q (.int i) H)\/∃k,xs=[.bl k]/\Q (.int (if k then 1 else 0)) H):=by
 intro pins s σ H xs us Q I r h
 rcases h with⟨i,rfl,q⟩ | ⟨k,rfl,q⟩
 ·obtain⟨u,rfl,t,rfl⟩:=yO r
  exact call_int_int ⟨.int i,H,I,⟨_,rfl⟩,q⟩
 ·obtain⟨u,rfl,r1⟩:=yO r
  cases r1
  exact call_int_bool ⟨.int (if k then 1 else 0),H,I.tok _,⟨_,rfl⟩,q⟩
end
end L2
namespace L2
open PySem PySem.Spec PyProof.Rows
structure qR(h:Heap)(x dx C:Addr)(mA:Str->Option Value):Prop where
 obj:h.get? x=some (PySem.W.instObj C dx)
 ns:h.Ns1 dx mA
 ne:dx≠x
theorem cb7{h:Heap}{dx:Addr}{mA:Str->Option Value}(n:h.Ns1 dx mA):∃od,h.get? dx=some od/\∀name,PySem.W.lookIn name od=some (mA name):=by
 obtain⟨o,es,ep,ho,hd,hk,_,hm⟩:=n
 refine⟨o,ho,λname=>?_⟩
 have e:=hm name
 unfold nsFind findBy at e
 rw[<-Array.find?_toList]at e
 unfold PySem.W.lookIn
 rw[hd]
 dsimp only
 split
 ·rename_i y q
  rw[q]at e
  exact congrArg some e
 ·rename_i q
  rw[q]at e
  have a:es.toList.any (·.refKey)=false:=by
   rw[List.any_eq_false]
   intro y hy
   obtain⟨z,t,dt9⟩:=hk y (Array.mem_toList_iff.mp hy)
   simp[DictEntry.refKey,dt9]
  have a':¬ es.toList.any (·.refKey)=true:=by rw[a];exact eF
  rw[if_neg a']
  exact congrArg some e
theorem qR.look{h:Heap}{x dx C:Addr}{mA:Str->Option Value}(I:qR h x dx C mA):∃od,PySem.W.InstAt h x (PySem.W.instObj C dx) C (some od)/\∀name,PySem.W.lookIn name od=some (mA name) :=
 let⟨od,ho,hl⟩:=cb7 I.ns
 ⟨od,⟨I.obj,rfl,rfl,ho⟩,hl⟩
section
variable{prog:Program}{w:World}{A:Around}{E:Value->Shared->Prop}{s:Shared}{K:PySem.W.Frag}{x dx C f:Addr}{mA:Str->Option Value}{name:Str}{v:Value}
theorem cJ4{expr:Bool}{Q:Value->Shared->Prop}(X:K.In s.heap)(I:qR s.heap x dx C mA)(hg:PySem.W.plainGet K C name=true)(hh:PySem.W.hasDictIn K C=true)
  (ha:PySem.W.findIn K (.ref C) name=some none) (hv:mA name=some v) (hv':PySem.W.handedIn v=true) (h:Q v { s with toks:=s.toks+1 }) :
  wpAny (model prog w) A (getAttr (.ref x) name expr) Q E s:=by
 obtain⟨od,J,hl⟩:=I.look
 exact PySem.W.get_value X J (PySem.W.plainGet_of hg).1 (PySem.W.findObj_own hh ha rfl (by rw[hl,hv])) hv' h
theorem cq4{pl:Sem Bool}{Q:Value × List Value->Shared->Prop}(X:K.In s.heap)(I:qR s.heap x dx C mA)(hg:PySem.W.plainGet K C name=true)
  (hf:PySem.W.findIn K (.ref C) name=some (some (.ref f))) (ht:PySem.W.isFn K (.ref f)=true) (hv:mA name=none) (h:Q (.ref f,[.ref x]) s) :
  wpAny (model prog w) A (getMethod (.ref x) name pl) Q E s:=by
 obtain⟨od,J,hl⟩:=I.look
 exact PySem.W.method_fn X J (PySem.W.plainGet_of hg).1 (PySem.W.plainGet_of hg).2 hf (beq_iff_eq.mp ht) (by show(PySem.W.lookIn name od).map (·.isSome)=some false;rw[hl,hv];rfl) h
theorem cM8{ns:List Str}{Q:Unit->Shared->Prop}(X:K.In s.heap)(I:qR s.heap x dx C mA)
  (hs:PySem.W.findIn K (.ref C) "__setattr__"=some (some (.builtin "object.__setattr__"))) (hp:PySem.W.plainOver K C=true) (ht:PySem.W.takerIn K C name=some none) (hh:PySem.W.hasDictIn K C=true)
  (hw:PySem.Within mA ns) (lF:ns.length<=sizeLine)
  (h:∀h',qR h' x dx C (λy=>if y=name then some v else mA y)->Heap.SameBut dx s.heap h'->Q () { s with heap:=h',toks:=s.toks+2 }) :
  wpAny (model prog w) A (setAttr (.ref x) name v) Q E s:=by
 obtain⟨od,J,hl⟩:=I.look
 refine PySem.W.set_plain X J hs (PySem.W.osa_open (s:={ s with toks:=s.toks+1 }) (r:=none) X J hp ht λb=>?_)
 obtain⟨cd,hc,ot⟩:=PySem.W.any_some hh
 have hx:s.heap.get? x=some ⟨.ref C,some dx,.plain,#[]⟩:=I.obj
 refine wpAny_bind (wpAny_pure (wpAny_bind (wpAny_bind (wpAny_loadPart hx (wpAny_bind (PySem.W.Looks.here (s:={ s with toks:=s.toks+1 }) (PySem.W.looks_clsIn X hc) ?_))))))
 rw[ot]
 refine wpAny_pure (a:=some dx) (wpAny_bind (wpAny_pure (wpAny_bind ?_)))
 refine wpAny_nsSet1 (s:={ s with toks:=s.toks+1 }) I.ns λh' BM gU=>?_
 obtain⟨oD,esD,epD,hoD,hdD,hcD⟩:=BM.count (PySem.Within.cons name v hw)
 refine wpAny_bind (wpAny_lookBehind hoD (by rw[hdD];exact pastItsLine_dict (eM hcD (by rw[dO];omega))) ?_)
 exact wpAny_pure (h _ ⟨(gU.2 _ (fe I.ne)).trans I.obj,BM,I.ne⟩ gU)
theorem cs4{R:Result->Shared->Prop}{vs:List Value}{kw:List (Str × Value)}(X:K.In s.heap)(hm:PySem.W.makesIn K C=true)
  (hi:PySem.W.findIn K (.ref C) "__init__"=some (some (.ref f))) (hf:PySem.W.typeIn K (.ref f)=some (.type "function"))
  (h:codeAny (model prog w) (A.under (.builtin "type.__call__" ⟨.ref C::vs,kw⟩)) (.call (.ref f) ⟨.ref (s.heap.objs.size+1)::vs,kw⟩) (PySem.W.InitBack (s.heap.objs.size+1) R)
   { s with heap:=(s.heap.push PySem.W.emptyDict).push (PySem.W.instObj C s.heap.objs.size) }) :
  codeAny (model prog w) A (.call (.ref C) ⟨vs,kw⟩) R s:=by
 obtain⟨hh,g,d,t,os⟩:=s
 exact PySem.W.make_core (PySem.W.makes_of X hm) (PySem.W.looks_findIn X hi) (λself=>PySem.W.bind_fn X self hf) (.inl rfl) h
end
noncomputable def fP(f:Str)(v:V):List (Str × V)->List (Str × V)
 | []=>[(f,v)]
 | (g,x)::r=>if g=f then(g,v)::r else(g,x)::fP f v r
theorem RZ(f g:Str)(v:V):∀fs:List (Str × V),(fP f v fs).lookup g=if g=f then some v else fs.lookup g
 | []=>by
  show my g [(f,v)]=_
  by_cases h:g=f
  ·have hb:(g==f)=true:=beq_iff_eq.mpr h
   simp only[my,hb,if_pos h]
  ·have hb:(g==f)=false:=beq_eq_false_iff_ne.mpr h
   simp only[my,hb,if_neg h]
 | (k,x)::r=>by
  have ih:=RZ f g v r
  rw[show fP f v ((k,x)::r)=(if k=f then(k,v)::r else(k,x)::fP f v r) from rfl]
  by_cases hk:k=f
  ·rw[if_pos hk]
   by_cases h:g=k
   ·have hb:(g==k)=true:=beq_iff_eq.mpr h
    simp only[my,hb,if_pos (h.trans hk)]
   ·have hb:(g==k)=false:=beq_eq_false_iff_ne.mpr h
    simp only[my,hb,if_neg (λe:g=f=>h (e.trans hk.symm))]
  ·rw[if_neg hk]
   by_cases h:g=k
   ·have hb:(g==k)=true:=beq_iff_eq.mpr h
    simp only[my,hb,if_neg (λe:g=f=>hk (h.symm.trans e))]
   ·have hb:(g==k)=false:=beq_eq_false_iff_ne.mpr h
    simp only[my,hb]
    exact ih
theorem FX(f:Str)(v:V):∀fs:List (Str × V),f∈(fP f v fs).map (·.1)/\∀g,g∈fs.map (·.1)->g∈(fP f v fs).map (·.1)
 | []=>⟨by simp[fP],λg h=>by simp at h⟩
 | (k,x)::r=>by
  obtain⟨i1,i2⟩:=FX f v r
  rw[show fP f v ((k,x)::r)=(if k=f then(k,v)::r else(k,x)::fP f v r) from rfl]
  by_cases hk:k=f
  ·rw[if_pos hk]
   subst hk
   exact⟨by simp,λg h=>by simpa using h⟩
  ·rw[if_neg hk]
   refine⟨?_,λg h=>?_⟩
   ·rw[dP]
    exact eE _ i1
   ·rw[dP]at h ⊢
    rcases bX.mp h with e | e
    ·exact bX.mpr (.inl e)
    ·exact eE _ (i2 g e)
theorem R0(f:Str)(v:V):∀fs:List (Str × V),(fP f v fs).length<=fs.length+1
 | []=>by simp[fP]
 | (k,x)::r=>by
  have ih:=R0 f v r
  rw[show fP f v ((k,x)::r)=(if k=f then(k,v)::r else(k,x)::fP f v r) from rfl]
  by_cases hk:k=f
  ·rw[if_pos hk,dO,dO];omega
  ·rw[if_neg hk,dO,dO];omega
theorem kY.some_of{v:V}{o:Option Value}(r:kY (some v) o):∃u,o=some u/\RelV v u:=by
 cases o with
 | none=>exact(show False from r).elim
 | some u=>exact⟨u,rfl,r⟩
theorem kY.none_of{o:Option Value}(r:kY none o):o=none:=by
 cases o with
 | none=>rfl
 | some u=>exact(show False from r).elim
theorem ck0{v:V}{u:Value}(r:RelV v u):PySem.W.handedIn u=true:=by
 cases v with
 | ax=>cases(show u=qp from r);rfl
 | bl b=>cases(show u=E4 b from r);rfl
 | int i=>obtain⟨t,e⟩:=(show ∃t,u=qo i t from r);cases e;rfl
 | str x=>obtain⟨t,e⟩:=(show ∃t,u=Value.str x t from r);cases e;rfl
 | Bu b=>obtain⟨t,e⟩:=(show ∃t,u=Value.bytes b t from r);cases e;rfl
 | qJ b=>obtain⟨t,e⟩:=(show ∃t,u=Value.float b t from r);cases e;rfl
 | ref a=>cases(show u=fw a from r);rfl
 | ty n=>cases(show u=Value.type n from r);rfl
section
variable{P:Program}{w:World}{H H':Hp}{h h':Heap}{a C dx:Addr}{fs fs':List (Str × V)}
theorem BN(aH:cJ P w H h)(e:H a=some (.ins C dx fs)):∃mA,qR h a dx C mA/\(∀f,kY (fs.lookup f) (mA f))/\PySem.Within mA (fs.map (·.1))/\fs.length<=1000/\H dx=some (.own a):=by
 obtain⟨d,z,ne,ob,mA,n,r,q⟩:=(show eo P w H h a (.ins C dx fs) from aH a _ e)
 exact⟨mA,⟨ob,n,ne⟩,r,q,z,d⟩
end
structure dQ(K:PySem.W.Frag)(C:Addr):Prop where
 pg:PySem.W.plainGet K C Str.empty=true
 hd:PySem.W.hasDictIn K C=true
 po:PySem.W.plainOver K C=true
 sa:PySem.W.findIn K (.ref C) "__setattr__"=some (some (.builtin "object.__setattr__"))
theorem dQ.get{K:PySem.W.Frag}{C:Addr}(c:dQ K C)(f:Str):PySem.W.plainGet K C f=true:=c.pg
noncomputable def cq(K:PySem.W.Frag)(C:Addr)(f:Str):Prop:=PySem.W.findIn K (.ref C) f=some none
theorem cq.du9{K:PySem.W.Frag}{C:Addr}{f:Str}(n:cq K C f):PySem.W.takerIn K C f=some none:=by
 unfold PySem.W.takerIn
 rw[show PySem.W.findIn K (.ref C) f=some none from n]
 rfl
structure Meth(K:PySem.W.Frag)(C:Addr)(m:Str)(f:Addr):Prop where
 at_:PySem.W.findIn K (.ref C) m=some (some (.ref f))
 fn:PySem.W.isFn K (.ref f)=true
 kp:PySem.W.keepIn K (.ref f)=true
section
variable{X:Cx}{pins:List (Addr × Obj)}{σ:St}{H:Hp}{s:Shared}{a C dx:Addr}{fs:List (Str × V)}{f:Str}{v:V}{A:Around}{E:Value->Shared->Prop}
theorem bZ9{b:Bool}{Q:Value->Shared->Prop}(I:Inv X pins σ H s)(e:H a=some (.ins C dx fs))(c:dQ X.K C)(n:cq X.K C f)(l:fs.lookup f=some v)
  (h:∀u s',Inv X pins σ H s'->RelV v u->Q u s'):wpAny (model X.prog X.w) A (getAttr (.ref a) f b) Q E s:=by
 obtain⟨mA,O,r,_,_,_⟩:=BN I.aH e
 obtain⟨u,hu,ru⟩:=kY.some_of (v:=v) (o:=mA f) (by rw[<-l];exact r f)
 exact cJ4 I.di O (c.get f) c.hd n hu (ck0 ru) (h u _ (I.tok _) ru)
theorem FY{m:Str}{g:Addr}{pl:Sem Bool}{Q:Value × List Value->Shared->Prop}(I:Inv X pins σ H s)(e:H a=some (.ins C dx fs))(c:dQ X.K C)(k:Meth X.K C m g)(l:fs.lookup m=none)
  (h:Q (.ref g,[.ref a]) s):wpAny (model X.prog X.w) A (getMethod (.ref a) m pl) Q E s:=by
 obtain⟨mA,O,r,_,_,_⟩:=BN I.aH e
 have hn:mA m=none:=kY.none_of (by rw[<-l];exact r m)
 exact cq4 I.di O (c.get m) k.at_ k.fn hn h
theorem b03{y:V}{u:Value}{Q:Unit->Shared->Prop}(I:Inv X pins σ H s)(e:H a=some (.ins C dx fs))(c:dQ X.K C)(n:cq X.K C f)(hl:fs.length<1000)(ry:RelV y u)
  (h:∀s',Inv X pins σ (upd H a (.ins C dx (fP f y fs))) s'->Q () s'):wpAny (model X.prog X.w) A (setAttr (.ref a) f u) Q E s:=by
 obtain⟨mA,O,r,wi,_,ho⟩:=BN I.aH e
 have hz:(fs.map (·.1)).length<=sizeLine:=by rw[bE,sizeLine_eq];omega
 refine cM8 I.di O c.sa c.po n.du9 c.hd wi hz λh' O' sb=>h _ ?_
 have hd:∃o,h'.get? dx=some o:=let⟨o,_,_,e',_⟩:=O'.ns;⟨o,e'⟩
 refine I.write (x:=a) (e:=dx) (by rw[e];exact tS) (.inr ho) (λb q hb z=>(sb.2 b hb).trans z) hd ?_
 refine⟨by rw[bj O.ne];exact ho,?_,O.ne,O'.obj,_,O'.ns,λg=>?_,λg hg=>?_⟩
 ·have:=R0 f y fs;omega
 ·show kY ((fP f y fs).lookup g) (if g=f then some u else mA g)
  rw[RZ]
  by_cases q:g=f
  ·rw[if_pos q,if_pos q];exact ry
  ·rw[if_neg q,if_neg q];exact r g
 ·by_cases q:g=f
  ·rw[q];exact(FX f y fs).1
  ·refine(FX f y fs).2 g (wi g λz=>hg ?_)
   show(if g=f then some u else mA g)=none
   rw[if_neg q];exact z
theorem Inv.made(I:Inv X pins σ H s):Inv X pins σ (upd (upd H s.heap.objs.size (.own (s.heap.objs.size+1))) (s.heap.objs.size+1) (.ins C s.heap.objs.size []))
  { s with heap:=(s.heap.push PySem.W.emptyDict).push (PySem.W.instObj C s.heap.objs.size) }:=by
 have e1:(s.heap.push PySem.W.emptyDict).get? s.heap.objs.size=some PySem.W.emptyDict:=gk s.heap rfl
 have e2:((s.heap.push PySem.W.emptyDict).push (PySem.W.instObj C s.heap.objs.size)).get? (s.heap.objs.size+1)=some (PySem.W.instObj C s.heap.objs.size):=by
  have:=gk (s.heap.push PySem.W.emptyDict) (o:=PySem.W.instObj C s.heap.objs.size) rfl
  rwa [tT]at this
 have e3:(s.heap.push PySem.W.emptyDict).Ns s.heap.objs.size (λ_=>none):=⟨PySem.W.emptyDict,#[],_,e1,rfl,(λe he=>absurd he (by simp)),λ_=>rfl⟩
 have I1:=I.laid (a:=s.heap.objs.size) (o:=.own (s.heap.objs.size+1)) (h':=s.heap.push PySem.W.emptyDict) (t':=s.toks) (λb u q=>ff _ q) (bI _) ⟨_,e1⟩
 refine I1.laid (a:=s.heap.objs.size+1) (o:=.ins C s.heap.objs.size []) (t':=s.toks) (λb u q=>ff _ q) (A6 (tT _ _)) ?_
 have ne:s.heap.objs.size≠s.heap.objs.size+1:=fN (E5 _)
 refine⟨by rw[bj ne,cA],kT _,ne,e2,λ_=>none,(Heap.Ns1.of_empty e3).at λo q=>ff _ q,λ_=>tS,λy hy=>absurd rfl hy⟩
theorem cM0{prog:Program}{w:World}{env:Env}{e:Expr}{f:Str}{pos:Pos}{s:Shared}{Q:Value->Shared->Prop}(hb:attributeBase e f env (eval e env)=eval e env)
  (h:wpAny (model prog w) A (eval e env) (λo bF=>wpAny (model prog w) A (getAttr o f true) Q E bF) E s):wpAny (model prog w) A (eval (.Attribute e f pos) env) Q E s :=
 Attribute_any_ h (by rw[arm_eval_Attribute,hb])
end
noncomputable def db7(K:PySem.W.Frag)(ta:TE)(f:Str):TE:=λσ H Q=>ta σ H λx H1=>∃a C dx fs v,x=.ref a/\H1 a=some (.ins C dx fs)/\dQ K C/\cq K C f/\fs.lookup f=some v/\Q v H1
noncomputable def db0(K:PySem.W.Frag)(ta tv:TE)(f:Str):TS:=λD σ H=>tv σ H λy H1=>ta σ H1 λx H2=>∃a C dx fs,x=.ref a/\H2 a=some (.ins C dx fs)/\dQ K C/\cq K C f/\fs.length<1000 /\
 D.nx σ (upd H2 a (.ins C dx (fP f y fs)))
section
variable{X:Cx}{o e value:Expr}{f:Str}{pos pos' oy:Pos}{ta tv:TE}
theorem BO(he:PE X e ta)(hb:attributeBase e f X.env (eval e X.env)=eval e X.env):PE X (.Attribute e f pos) (db7 X.K ta f):=by
 intro pins s σ H Q I h
 refine cM0 hb (aP (he pins s σ H _ I h) λu s1 ⟨x,H1,I1,rx,a,C,dx,fs,v,ex,ea,c,n,l,q⟩=>?_)
 subst ex
 obtain rfl:u=fw a:=rx
 exact bZ9 I1 ea c n l λu' s2 I2 ru=>⟨v,H1,I2,ru,q⟩
theorem oA(ha:PE X o ta)(hv:PE X value tv)(hs:swapsWith value (some (.Attribute o f pos')) pos.line X.env=pure false):PS X (.Assign [.Attribute o f pos'] value pos) (db0 X.K ta tv f):=by
 intro pins s σ H D I h
 refine plainObj_wpAny_Assign_Attribute (aP (hv pins s σ H _ I h) λu s1 ⟨y,H1,I1,ry,q⟩=>aP (ha pins s1 σ H1 _ I1 q) λov s2 ⟨x,H2,I2,rx,a,C,dx,fs,ex,ea,c,n,l,q2⟩=>?_) hs
 subst ex
 obtain rfl:ov=fw a:=rx
 exact b03 I2 ea c n l ry λs3 I3=>⟨σ,_,I3,q2⟩
end
section
variable{X:Cx}{pins:List (Addr × Obj)}{σ:St}{H:Hp}{s:Shared}{A:Around}{E:Value->Shared->Prop}{Q:Value->Shared->Prop}{c:Value}{b:Bool}
inductive iq(K:PySem.W.Frag)(H:Hp):V->Value->Prop where
 | ax:iq K H .ax (.type "NoneType")
 | bl (x:Bool):iq K H (.bl x) (.type "bool")
 | int (i:Int):iq K H (.int i) (.type "int")
 | str (x:Str):iq K H (.str x) (.type "str")
 | qJ (x:UInt64):iq K H (.qJ x) (.type "float")
 | lst {a:Addr} {xs:List V} (e:H a=some (.lst xs)):iq K H (.ref a) (.type "list")
 | cg {a:Addr} {o:Obj} {xs:List V} (e:H a=some (.cg o (.lst xs))):iq K H (.ref a) (.type "list")
 | tup {a:Addr} {xs:List V} (e:H a=some (.tup xs)):iq K H (.ref a) (.type "tuple")
 | dK {a:Addr} {dD:List (Key × V)} (e:H a=some (.dK dD)):iq K H (.ref a) (.type "dict")
 | dT {a:Addr} {dD:List (List Key × V)} (e:H a=some (.dT dD)):iq K H (.ref a) (.type "dict")
 | ins {a C dx:Addr} {fs:List (Str × V)} (e:H a=some (.ins C dx fs)) (cl:dQ K C) (ha:PySem.W.findIn K (.ref C) "__class__"=some (some (.builtin "object.__class__")))
   (hn:PySem.W.specialIn K (.builtin "object.__class__") "__get__"=some (some (.builtin "getset_descriptor.__get__"))) (FZ:PySem.W.takesIn K (.builtin "object.__class__")=some true)
   (hm:PySem.W.mroIn K C (.type "object")=some true):iq K H (.ref a) (.ref C)
theorem b90{x:V}{u t:Value}(I:Inv X pins σ H s)(rx:RelV x u)(ty:iq X.K H x t)(e:PySem.W.kitOne X.K t c=some b)(h:∀tk,Q (.bool b) { s with toks:=tk }) :
  wpAny (model X.prog X.w) A (call (.builtin "isinstance") [u,c]) Q E s:=by
 cases ty with
 | ax=>cases(show u=qp from rx);exact PySem.W.kia_one PySem.W.kitx_none I.di tS e (λz=>nomatch z) h
 | bl y=>cases(show u=E4 y from rx);exact PySem.W.kia_one PySem.W.kitx_bool I.di tS e (λz=>nomatch z) h
 | int i=>obtain⟨t,q⟩:=(show ∃t,u=qo i t from rx);cases q;exact PySem.W.kia_one PySem.W.kitx_int I.di tS e (λz=>nomatch z) h
 | str y=>obtain⟨t,q⟩:=(show ∃t,u=Value.str y t from rx);cases q;exact PySem.W.kia_one PySem.W.kitx_str I.di tS e (λz=>nomatch z) h
 | qJ y=>obtain⟨t,q⟩:=(show ∃t,u=Value.float y t from rx);cases q;exact PySem.W.kia_one PySem.W.kitx_float I.di tS e (λz=>nomatch z) h
 | @lst a xs ea =>
  cases(show u=fw a from rx)
  obtain⟨_,_,n,_,h1⟩:=(show eo X.prog X.w H s.heap a (.lst xs) from I.aH a _ ea)
  exact PySem.W.kia_one PySem.W.kitx_list I.di ⟨_,h1,rfl⟩ e (λz=>nomatch z) h
 | @cg a ob xs ea =>
  cases(show u=fw a from rx)
  obtain⟨_,_,_,n,_,h1⟩:=(show eo X.prog X.w H s.heap a (.cg ob (.lst xs)) from I.aH a _ ea)
  exact PySem.W.kia_one PySem.W.kitx_list I.di ⟨_,h1,rfl⟩ e (λz=>nomatch z) h
 | @tup a xs ea =>
  cases(show u=fw a from rx)
  obtain⟨_,_,_,p⟩:=(show eo X.prog X.w H s.heap a (.tup xs) from I.aH a _ ea)
  obtain⟨o,h1,h2,_⟩:=p
  exact PySem.W.kia_one PySem.W.kitx_tuple I.di ⟨o,h1,h2⟩ e (λz=>nomatch z) h
 | @dK a dD ea =>
  cases(show u=fw a from rx)
  obtain⟨_,_,vs,_,p⟩:=(show eo X.prog X.w H s.heap a (.dK dD) from I.aH a _ ea)
  obtain⟨o,es,ep,h1,h2,_⟩:=p
  exact PySem.W.kia_one PySem.W.kitx_dict I.di ⟨o,h1,h2.1⟩ e (λz=>nomatch z) h
 | @dT a dD ea =>
  cases(show u=fw a from rx)
  obtain⟨_,_,xs,_,o,es,ep,h1,h2,_⟩:=(show eo X.prog X.w H s.heap a (.dT dD) from I.aH a _ ea)
  exact PySem.W.kia_one PySem.W.kitx_dict I.di ⟨o,h1,h2.1⟩ e (λz=>nomatch z) h
 | @ins a C dx fs ea cl ha hn FZ hm =>
  cases(show u=fw a from rx)
  obtain⟨mA,O,_⟩:=BN I.aH ea
  obtain⟨od,J,_⟩:=O.look
  exact PySem.W.kia_one (PySem.W.kitx_own (cl.get _) cl.hd ha hn FZ hm) I.di J e (λz=>nomatch z) h
end
end L2
namespace L2
open PySem PySem.Spec PyProof.Rows
structure cC(k:Nat)(A:Around):Prop where
 hd:A.handled=none
 dp:A.depth+3*k+5<recursionLimit
 un:A.units+16*k+200<cLine
theorem cC.mono{j k:Nat}{A:Around}(r:cC k A)(h:j<=k):cC j A:=⟨r.hd,by have:=r.dp;omega,by have:=r.un;omega⟩
theorem cC.deeper{k:Nat}{A:Around}(r:cC (k+1) A)(env:Env):cC k (A.deeper env) :=
 ⟨r.hd,by have:=r.dp;show A.depth+1+3*k+5<_;omega,by have:=r.un;show A.units+3+16*k+200<_;omega⟩
theorem b73{A:Around}{C:Addr}{us:List Value}{kw:List (Str × Value)}:(A.under (.builtin "type.__call__" ⟨.ref C::us,kw⟩)).depth=A.depth+1:=by
 first | rfl | simp[Around.under,Code.weight,Code.isCreation,Code.isGuard,Code.isCaller,Code.frames,Code.isFrame,guardIds]
theorem b00{A:Around}{C:Addr}{us:List Value}{kw:List (Str × Value)}:(A.under (.builtin "type.__call__" ⟨.ref C::us,kw⟩)).units=A.units+1:=by
 first | rfl | simp[Around.under,Code.cUnits,Code.frames,Code.isFrame]
theorem cC.make{k:Nat}{A:Around}(r:cC (k+1) A)(C:Addr)(us:List Value)(kw:List (Str × Value)):cC k (A.under (.builtin "type.__call__" ⟨.ref C::us,kw⟩)) :=
 ⟨r.hd,by have:=r.dp;rw[b73];omega,by have:=r.un;rw[b00];omega⟩
theorem cC.depth{k:Nat}{A:Around}(r:cC k A):A.depth<recursionLimit:=by have:=r.dp;omega
noncomputable def da0:TA:=λ_ H Q=>Q [] H
noncomputable def cZ1(ta:TE)(tr:TA):TA:=λσ H Q=>ta σ H λx H1=>tr σ H1 λxs H2=>Q (x::xs) H2
section
variable{X:Cx}{e:Expr}{es:List Expr}{te:TE}{t:TA}{pos:Pos}
theorem jg:PA X [] da0:=λ_ _ _ _ H Q I h=>Calls.spliced_nil ⟨[],H,I,.nil,h⟩
theorem fE(ha:PE X e te)(hr:PA X es t)(hs:starEach (e::es) X.env=(false,eval e X.env)::starEach es X.env:=by rfl):PA X (e::es) (cZ1 te t):=by
 intro pos pins s σ H Q I h
 rw[hs]
 show wpAny _ _ (spliced ((false,eval e X.env)::backTo pos (starEach es X.env))) _ _ s
 refine Calls.spliced_cons (aP (ha pins s σ H _ I h) λu s1 ⟨x,H1,I1,r1,q1⟩=>?_)
 exact aP (hr pos pins s1 σ H1 _ I1 q1) λus s2 ⟨xs,H2,I2,r2,q2⟩=>⟨x::xs,H2,I2,.cons r1 r2,q2⟩
noncomputable def da2(t:TA):TE:=λσ H Q=>t σ H λxs H1=>xs.length<=sizeLine/\∀p,H1 p=none->Q (.ref p) (upd H1 p (.tup xs))
noncomputable def db1(t:TA):TE:=λσ H Q=>t σ H λxs H1=>xs.length<=sizeLine/\∀p,H1 p=none->Q (.ref p) (upd H1 p (.lst xs))
theorem cP6{x1}(h:PA X es t):PE X (.Tuple es x1 pos) (da2 t):=by
 intro pins s σ H Q I hq
 refine wpAny_Tuple_spliced (aP (h pos pins s σ H _ I hq) λus s1 ⟨xs,H1,I1,r,z,q⟩=>⟨by rw[<-r.length];exact z,?_⟩)
 have hf:H1 s1.heap.objs.size=none:=I1.aH.fresh (bI _)
 refine⟨.ref s1.heap.objs.size,upd H1 s1.heap.objs.size (.tup xs),I1.laid (t':=s1.toks) (λb u e=>ff _ e) (bI _) ?_,rfl,q _ hf⟩
 exact⟨z,us,r,⟨_,gk _ rfl,rfl,_,rfl⟩⟩
theorem R1(h:PA X es t):PE X (.List es pos) (db1 t):=by
 intro pins s σ H Q I hq
 refine wpAny_List_spliced (aP (h pos pins s σ H _ I hq) λus s1 ⟨xs,H1,I1,r,z,q⟩=>⟨by rw[<-r.length];exact z,?_⟩)
 have hf:H1 s1.heap.objs.size=none:=I1.aH.fresh (bI _)
 refine⟨.ref s1.heap.objs.size,upd H1 s1.heap.objs.size (.lst xs),I1.laid (t':=s1.toks) (λb u e=>ff _ e) (bI _) ?_,rfl,q _ hf⟩
 exact⟨z,us,0,r,gk _ rfl⟩
end
noncomputable abbrev Sp:=List V->Hp->VK->XK->Prop
noncomputable abbrev eY:=List Env->Hp->Shared->XK->Value->Shared->Prop
structure iO(P:Program)(w:World)(K:PySem.W.Frag)(mg:Str->Option Value)(base:Heap)(A:Around)(outer:List Env)(s:Shared)(H:Hp):Prop where
 frames:A.frames=some outer
 mod:Mod K mg base
 bs:∀b o,base.get? b=some o->s.heap.get? b=some o/\H b=none
 jG:base.objs.size<=s.heap.objs.size
 gE:s.heap.FunFrames base outer
 jH:∀b∈eA outer,H b=none
 aH:cJ P w H s.heap
 bare:AllBare s.gens
noncomputable def CE(outer:List Env)(P:Program)(w:World)(H:Hp)(s:Shared)(Q:VK)(u:Value)(s':Shared):Prop :=
 ∃v H',s'.os=s.os/\AllBare s'.gens/\Un (eA outer) [] H H' s.heap s'.heap/\cJ P w H' s'.heap/\RelV v u/\Q v H'
noncomputable def CR(CX:eY)(outer:List Env)(P:Program)(w:World)(H:Hp)(s:Shared)(Q:VK)(E:XK)(r:Result)(s':Shared):Prop :=
 match r with
 | .ok (.ret u)=>CE outer P w H s Q u s'
 | .ok _=>False
 | .error e=>CX outer H s E e s'
structure aM(P:Program)(w:World)(K:PySem.W.Frag)(mg:Str->Option Value)(base:Heap)(CX:eY)(k:Nat)(f:Addr)(fd:FuncData)(ps:List Str)(sp:Sp):Prop where
 len:∀vs H Q E,sp vs H Q E->vs.length=ps.length
 run:∀(A:Around) (outer:List Env) (s:Shared) (H:Hp) (args:Args) (us:List Value) (vs:List V) (Q:VK) (E:XK),cC k A->iO P w K mg base A outer s H->BindsTo s fd args (ps.zip us)->Vals vs us->sp vs H Q E ->
  codeAny (model P w) A (.call (.ref f) args) (CR CX outer P w H s Q E) s
theorem aM.mono{P:Program}{w:World}{K:PySem.W.Frag}{mg:Str->Option Value}{base:Heap}{CX:eY}{j k:Nat}{f:Addr}{fd:FuncData}{ps:List Str}{sp:Sp}(F:aM P w K mg base CX j f fd ps sp)(h:j<=k) :
  aM P w K mg base CX k f fd ps sp:=⟨F.len,λA outer s H args us vs Q E hr=>F.run A outer s H args us vs Q E (hr.mono h)⟩
theorem aM.imp{P:Program}{w:World}{K:PySem.W.Frag}{mg:Str->Option Value}{base:Heap}{CX:eY}{k:Nat}{f:Addr}{fd:FuncData}{ps:List Str}{sp R3:Sp}(F:aM P w K mg base CX k f fd ps sp)
  (h:∀vs H Q E,R3 vs H Q E->sp vs H Q E):aM P w K mg base CX k f fd ps R3 :=
 ⟨λvs H Q E q=>F.len vs H Q E (h _ _ _ _ q),λA outer s H args us vs Q E hr he hb hv hs=>F.run A outer s H args us vs Q E hr he hb hv (h _ _ _ _ hs)⟩
theorem iO.make{P:Program}{w:World}{K:PySem.W.Frag}{mg:Str->Option Value}{base:Heap}{A:Around}{outer:List Env}{s:Shared}{H:Hp}(e:iO P w K mg base A outer s H)(C:Addr)(us:List Value)(kw:List (Str × Value)) :
  iO P w K mg base (A.under (.builtin "type.__call__" ⟨.ref C::us,kw⟩)) outer s H:=⟨by first | exact e.frames | (simpa[Around.under,Code.envs,Code.isFrame,pushEnvs]using e.frames),e.mod,e.bs,e.jG,e.gE,e.jH,e.aH,e.bare⟩
section
variable{X:Cx}{pins:List (Addr × Obj)}{σ:St}{H:Hp}{s s':Shared}
theorem Inv.yP(I:Inv X pins σ H s):iO X.prog X.w X.K X.mg X.base X.A X.stack s H :=
 ⟨I.ok.frames,I.ok.mod,I.bs,eM I.ok.jG I.sz,I.stack,I.Fw,I.aH,I.bare⟩
theorem Inv.after{Q:VK}{u:Value}(I:Inv X pins σ H s)(h:CE X.stack X.prog X.w H s Q u s'):EP X pins σ Q u s':=by
 obtain⟨v,H',os,bare,un,aH,r,q⟩:=h
 obtain⟨hh,g,d,t,os'⟩:=s'
 obtain rfl:os'=s.os:=os
 exact⟨v,H',I.call (h':=hh) (g':=g) (d':=d) (t':=t) (ch:=[]) un aH bare (λb z=>absurd z (by simp)),r,q⟩
end
noncomputable def cZ5(sp:Sp)(fF:List V)(E:XK)(t:TA):TE:=λσ H Q=>t σ H λvs H1=>sp (vs++fF) H1 Q E
noncomputable def cZ7(C:Addr)(m:Str)(sp:Sp)(fF:List V)(E:XK)(ta:TE)(t:TA):TE:=λσ H Q=>ta σ H λx H1=>∃a dx fs,x=.ref a/\H1 a=some (.ins C dx fs)/\fs.lookup m=none /\
 t σ H1 λvs H2=>sp (x::(vs++fF)) H2 Q E
noncomputable def cY6(C:Addr)(sp:Sp)(fF:List V)(E:XK)(t:TA):TE:=λσ H Q=>t σ H λvs H1=>∀x dx,H1 x=none->H1 dx=none->dx≠x ->
 sp (.ref x::(vs++fF)) (upd (upd H1 dx (.own x)) x (.ins C dx [])) (λv H2=>v=.ax/\Q (.ref x) H2) E
noncomputable def Binds(K:PySem.W.Frag)(fd:FuncData)(ps:List Str)(ds:List Value):Prop :=
 ∀(s:Shared) (us:List Value),K.In s.heap->(us++ds).length=ps.length->BindsTo s fd ⟨us,[]⟩ (ps.zip (us++ds))
theorem Binds.all{K:PySem.W.Frag}{fd:FuncData}{ps:List Str}(h:∀us:List Value,us.length=ps.length->bindArgs fd ⟨us,[]⟩=pure (ps.zip us)):Binds K fd ps []:=λs us _ hl=>by
 rw[n9]at hl ⊢
 exact .of_eq (h us hl)
noncomputable def lH(CX:eY)(X:Cx)(E:XK):Prop:=∀(pins:List (Addr × Obj)) (σ:St) (H:Hp) (s:Shared) (e:Value) (s':Shared),Inv X pins σ H s->CX X.stack H s E e s'->X.xe e s'
section
variable{X:Cx}{CX:eY}{k:Nat}{f C:Addr}{fd:FuncData}{ps:List Str}{sp:Sp}{fF:List V}{ds:List Value}{E:XK}{x m:Str}{p pos apos:Pos}{e o:Expr}{es:List Expr}{ta:TE}{t:TA}
theorem BP{pins:List (Addr × Obj)}{σ:St}{H:Hp}{s:Shared}{Q:VK}{us:List Value}{vs:List V}(F:aM X.prog X.w X.K X.mg X.base CX k f fd ps sp)(hr:cC k X.A)(hb:Binds X.K fd ps ds)(hd:Vals fF ds)(hx:lH CX X E)
  (I:Inv X pins σ H s) (r:Vals vs us) (h:sp (vs++fF) H Q E):wpAny (model X.prog X.w) X.A (call (.ref f) us) (EP X pins σ Q) X.xe s:=by
 have r2:Vals (vs++fF) (us++ds):=r.append hd
 have hl:(us++ds).length=ps.length:=by rw[<-r2.length];exact F.len _ _ _ _ h
 refine wpAny_call (codeAny_mono (F.run X.A X.stack s H ⟨us,[]⟩ (us++ds) (vs++fF) Q E hr I.yP (hb s us I.di hl) r2 h) λr s' hq=>?_)
 cases r with
 | error e=>exact hx pins σ H s e s' I hq
 | ok fl =>
  cases fl with
  | ret u=>exact I.after hq
  | next=>exact fO hq
  | brk=>exact fO hq
  | cont=>exact fO hq
theorem qS(F:aM X.prog X.w X.K X.mg X.base CX k f fd ps sp)(hr:cC k X.A)(hg:Gl X x)(hm:X.mg x=some (.ref f))(hk:PySem.W.keepIn X.K (.ref f)=true)(hb:Binds X.K fd ps ds)(hd:Vals fF ds)(hx:lH CX X E)
  (ha:PA X (e::es) t) (eZ:(x==("__debug__":Str))=false:=by decide) (he:starEach (e::es) X.env=(false,eval e X.env)::starEach es X.env:=by rfl) (bL:(backTo pos (starEach es X.env)).any (·.1)=false:=by rfl) :
  PE X (.Call (.Name x p) (e::es) [] pos) (cZ5 sp fF E t):=by
 intro pins s σ H Q I h
 refine wpAny_Call_Name_kw (BC I hg hm ?_ eZ)
 refine PySem.W.callWith_K (h₀:=X.base) I.ok.mod.mM hk (aP (ha pos pins s σ H _ I h) λus s1 ⟨vs,H1,I1,r,q⟩=>⟨I1.di,?_⟩) he bL
 exact BP F hr hb hd hx I1 r q
theorem cK0{pl:Sem Bool}(he:PE X o ta)(c:dQ X.K C)(hm:Meth X.K C m f)(F:aM X.prog X.w X.K X.mg X.base CX k f fd ps sp)(hr:cC k X.A)(hb:Binds X.K fd ps ds)(hd:Vals fF ds)(hx:lH CX X E)(ha:PA X (e::es) t)
  (dj:starEach (e::es) X.env=(false,eval e X.env)::starEach es X.env:=by rfl) (bL:(backTo pos (starEach es X.env)).any (·.1)=false:=by rfl)
  (ht:eval (.Call (.Attribute o m apos) (e::es) [] pos) X.env=(do
   let ov<-eval o X.env
   standAt apos.atName
   let (f,first)<-holding [ov] (getMethod ov m pl)
   callWith pos f first (backTo pos (starEach (e::es) X.env)) (backToKw pos (keywordEach [] X.env))):=by rfl) :
  PE X (.Call (.Attribute o m apos) (e::es) [] pos) (cZ7 C m sp fF E ta t):=by
 intro pins s σ H Q I h
 refine PySem.W.methodCall_KW (pl:=pl) (aP (he pins s σ H _ I h) λu s1 ⟨x,H1,I1,rx,a,dx,fs,ex,ea,l,q⟩=>?_) ht
 subst ex
 obtain rfl:u=fw a:=rx
 refine FY I1 ea c hm l ?_
 refine PySem.W.callWith_K (first:=[.ref a]) (h₀:=X.base) I.ok.mod.mM hm.kp (aP (ha pos pins s1 σ H1 _ I1 q) λus s2 ⟨vs,H2,I2,r,q2⟩=>⟨I2.di,?_⟩) dj bL
 exact BP (us:=.ref a::us) (vs:=.ref a::vs) F hr hb hd hx I2 (.cons rfl r) q2
structure Mk(K:PySem.W.Frag)(C f:Addr):Prop where
 makes:PySem.W.makesIn K C=true
 init:PySem.W.findIn K (.ref C) "__init__"=some (some (.ref f))
 fn:PySem.W.isFn K (.ref f)=true
 kp:PySem.W.keepIn K (.ref C)=true
theorem cq1{pins:List (Addr × Obj)}{σ:St}{H:Hp}{s:Shared}{Q:VK}{us:List Value}{vs:List V}(M:Mk X.K C f)(F:aM X.prog X.w X.K X.mg X.base CX k f fd ps sp)(hr:cC (k+1) X.A)(hb:Binds X.K fd ps ds)(hd:Vals fF ds)
  (hx:lH CX X E) (I:Inv X pins σ H s) (r:Vals vs us)
  (h:∀x dx,H x=none->H dx=none->dx≠x->sp (.ref x::(vs++fF)) (upd (upd H dx (.own x)) x (.ins C dx [])) (λv H2=>v=.ax/\Q (.ref x) H2) E) :
  wpAny (model X.prog X.w) X.A (call (.ref C) us) (EP X pins σ Q) X.xe s:=by
 have hq:=h (s.heap.objs.size+1) s.heap.objs.size (I.aH.fresh (Nat.le_succ _)) (I.aH.fresh (bI _)) (fN (E5 _))
 have I2:=Inv.made (C:=C) I
 have r2:Vals (V.ref (s.heap.objs.size+1)::(vs++fF)) (fw (s.heap.objs.size+1)::(us++ds)):=.cons rfl (r.append hd)
 have hl:(fw (s.heap.objs.size+1)::us++ds).length=ps.length:=by
  have e:=r2.length
  rw[F.len _ _ _ _ hq]at e
  exact e.symm
 refine wpAny_call (cs4 (f:=f) I.di M.makes M.init (beq_iff_eq.mp M.fn) (codeAny_mono (F.run _ X.stack _ _ ⟨fw (s.heap.objs.size+1)::us,[]⟩ (fw (s.heap.objs.size+1)::(us++ds)) _ _ E (hr.make C us [])
  (I2.yP.make C us []) (hb _ (fw (s.heap.objs.size+1)::us) I2.di hl) r2 hq) λr s' mQ=>?_))
 cases r with
 | error e=>exact hx pins σ _ _ e s' I2 mQ
 | ok fl =>
  cases fl with
  | ret u =>
   obtain⟨v,H',I3,rv,ev,q3⟩:=I2.after mQ
   subst ev
   exact⟨rv,⟨V.ref (s.heap.objs.size+1),H',I3,rfl,q3⟩⟩
  | next=>exact fO mQ
  | brk=>exact fO mQ
  | cont=>exact fO mQ
theorem cL4(M:Mk X.K C f)(F:aM X.prog X.w X.K X.mg X.base CX k f fd ps sp)(hr:cC (k+1) X.A)(hg:Gl X x)(hm:X.mg x=some (.ref C))(hb:Binds X.K fd ps ds)(hd:Vals fF ds)(hx:lH CX X E)
  (ha:PA X (e::es) t) (eZ:(x==("__debug__":Str))=false:=by decide) (he:starEach (e::es) X.env=(false,eval e X.env)::starEach es X.env:=by rfl) (bL:(backTo pos (starEach es X.env)).any (·.1)=false:=by rfl) :
  PE X (.Call (.Name x p) (e::es) [] pos) (cY6 C sp fF E t):=by
 intro pins s σ H Q I h
 refine wpAny_Call_Name_kw (BC I hg hm ?_ eZ)
 refine PySem.W.callWith_K (h₀:=X.base) I.ok.mod.mM M.kp (aP (ha pos pins s σ H _ I h) λus s1 ⟨vs,H1,I1,r,q⟩=>⟨I1.di,?_⟩) he bL
 exact cq1 M F hr hb hd hx I1 r q
end
section
variable{X:Cx}{CX:eY}{k:Nat}{f C:Addr}{fd:FuncData}{ps ks:List Str}{sp:Sp}{E:XK}{x m:Str}{p pos apos fy4:Pos}{e o:Expr}{es:List Expr}{kws:List Keyword}{te ta:TE}{t tk:TA}{nm:Option Str}
variable{g:List Value->List Value->List Value}{gV:List V->List V->List V}
end
structure bc(N P:List Str)(sc:Scope):Prop where
 kind:sc.kind=.function
 co:sc.isCoroutine=false
 gen:sc.isGenerator=false
 nd:N.Nodup
 pre:N.take P.length=P
 par:∀x∈P,sc.names.lookup x=some .local\/sc.names.lookup x=some .cell
 dx0:∀y∈sc.names,y.2≠.free
theorem R4{kindOf:Str->Option NameKind}{x:Str}:∀{binds:List (Str × Value)} {m:Str->Option Value},(∀v,(x,v) ∉ binds)->bindL kindOf binds m x=m x
 | [],_,_=>rfl
 | (n,v)::r,m,h=>by
  unfold bindL
  rw[R4 λw hw=>h w (eE _ hw)]
  split
  ·have:x≠n:=by rintro rfl;exact h v gP
   simp[this]
  ·rfl
theorem R5{kindOf:Str->Option NameKind}{x:Str}:∀{binds:List (Str × Value)} {m:Str->Option Value},(∀v,(x,v) ∉ binds)->bindC kindOf binds m x=m x
 | [],_,_=>rfl
 | (n,v)::r,m,h=>by
  unfold bindC
  rw[R5 λw hw=>h w (eE _ hw)]
  split
  ·rfl
  ·have:x≠n:=by rintro rfl;exact h v gP
   simp[this]
theorem R6{kindOf:Str->Option NameKind}{x:Str}{v:Value}:∀{P:List Str} {vs:List Value} {i:Nat} {m:Str->Option Value},P.Nodup->P[i]?=some x->vs[i]?=some v->kindOf x=some .local ->
  bindL kindOf (P.zip vs) m x=some v
 | [],_,_,_,_,h,_,_=>by simp at h
 | _::_,[],_,_,_,_,h,_=>by simp at h
 | p::P,w::vs,0,m,nd,h1,h2,hk=>by
  simp at h1 h2;subst h1;subst h2
  show bindL kindOf ((p,w)::P.zip vs) m p=_
  unfold bindL
  rw[R4 λv hv=>(iG.mp nd).1 (qq hv).1,if_pos hk]
  simp
 | p::P,w::vs,i+1,m,nd,h1,h2,hk=>by
  show bindL kindOf ((p,w)::P.zip vs) m x=_
  unfold bindL
  exact R6 (i:=i) (iG.mp nd).2 (by simpa using h1) (by simpa using h2) hk
theorem R7{kindOf:Str->Option NameKind}{x:Str}{v:Value}:∀{P:List Str} {vs:List Value} {i:Nat} {m:Str->Option Value},P.Nodup->P[i]?=some x->vs[i]?=some v->kindOf x≠some .local ->
  bindC kindOf (P.zip vs) m x=some v
 | [],_,_,_,_,h,_,_=>by simp at h
 | _::_,[],_,_,_,_,h,_=>by simp at h
 | p::P,w::vs,0,m,nd,h1,h2,hk=>by
  simp at h1 h2;subst h1;subst h2
  show bindC kindOf ((p,w)::P.zip vs) m p=_
  unfold bindC
  rw[R5 λv hv=>(iG.mp nd).1 (qq hv).1,if_neg hk]
  simp
 | p::P,w::vs,i+1,m,nd,h1,h2,hk=>by
  show bindC kindOf ((p,w)::P.zip vs) m x=_
  unfold bindC
  exact R7 (i:=i) (iG.mp nd).2 (by simpa using h1) (by simpa using h2) hk
noncomputable def start(N:List Str)(vs:List V):St:=vs.map some++aV (N.length-vs.length) none
noncomputable def iP(CX:eY)(P:Program)(w:World)(K:PySem.W.Frag)(mg:Str->Option Value)(base:Heap)(N:List Str)(qual:Str)(scope:Scope)(f:Addr)(cd:Value)(A:Around)(outer:List Env)(s:Shared)(H:Hp)(E:XK):Cx where
 prog:=P
 w:=w
 K:=K
 mg:=mg
 base:=base
 A:=A.deeper (envOfC qual scope s.heap.objs.size f cd)
 N:=N
 cK:=s
 j8:=H
 env:=envOfC qual scope s.heap.objs.size f cd
 outer:=outer
 stack:=envOfC qual scope s.heap.objs.size f cd::outer
 ex:=[]
 calm:=true
 fn:=λ_=>true
 pn:=[]
 xe:=λe s'=>wpAny (model P w) (A.deeper (envOfC qual scope s.heap.objs.size f cd)) (leaving (envOfC qual scope s.heap.objs.size f cd) e) (λ_ qT=>CX outer H s E e qT) (λe' qT=>CX outer H s E e' qT) s'
theorem R8{sc:Scope}{n:Nat}{x:Str}(h:sc.names.lookup x=some .cell):∃c,(cellsFrom n sc.names []).lookup x=some c:=by
 have q:=PySem.W.cellsFrom_some sc.names n [] (.inl h)
 exact dh8.mp q
theorem cg4{CX:eY}{P:Program}{w:World}{K:PySem.W.Frag}{mg:Str->Option Value}{base:Heap}{N ps:List Str}{qual:Str}{scope:Scope}{f:Addr}{cd:Value}{A:Around}{outer:List Env}{s s1:Shared}{H:Hp}{E:XK}{us:List Value}{vs:List V}
  (S:bc N ps scope) (hd:A.handled=none) (e0:iO P w K mg base A outer s H) (hl:vs.length=ps.length) (r:Vals vs us)
  (x:InCallC s s.heap.objs.size (bindL (envOfC qual scope s.heap.objs.size f cd).kindOf (ps.zip us) λ_=>none) (cellsFrom (s.heap.objs.size+1) scope.names []) (bindC (envOfC qual scope s.heap.objs.size f cd).kindOf (ps.zip us) λ_=>none) s1) :
  Inv (iP CX P w K mg base N qual scope f cd A outer s H E) [] (start N vs) H s1:=by
 have bL:ps.length<=N.length:=by have:=congrArg A7 S.pre;rw[jz]at this;omega
 obtain⟨h1,tk,rfl,hk⟩:=x.done
 have yQ:∀b:Addr,b ∉ (iP CX P w K mg base N qual scope f cd A outer s H E).ex:=λb z=>absurd (show b∈([]:List Addr) from z) (by simp)
 refine⟨⟨e0.mod,S.kind,rfl,rfl,bI _,λy z c h1 h2=>?_,λy hy=>?_,λy c _ h=>?_,λ_=>hd,Around.frames_deeper e0.frames,.inr ⟨rfl,rfl⟩,λb z=>absurd z (yQ b),e0.bs,e0.jG,λb _ _=>yQ b,λb z=>absurd z (yQ b),e0.gE,e0.jH⟩,
  rfl,e0.bare,Un.kept hk,⟨_,x.toInCall.ns,λi y v h1 h2 h3=>?_⟩,λy c h=>⟨_,x.cell y c h⟩,e0.aH.fresh (bI _),λy c h=>?_,λp hp=>absurd (show p∈([]:List (Addr × Obj)) from hp) (by simp),e0.aH.kept hk,?_⟩
 ·exact name_of_addr x.apart (PySem.mem_of_lookup h1) (PySem.mem_of_lookup h2)
 ·have hy:scope.names.lookup y=some .cell\/scope.names.lookup y=some .free:=hy
  rcases hy with hy | hy
  ·exact R8 hy
  ·exact absurd rfl (S.dx0 _ (PySem.mem_of_lookup hy))
 ·exact AX (x.above y c (PySem.mem_of_lookup h))
 ·have hi:i<vs.length:=by
   unfold start at h2
   by_cases hi:i<vs.length
   ·exact hi
   ·rw[xX (by simpa using hi)]at h2
    rw[tU]at h2
    split at h2<;>cases h2
  have ha:vs[i]?=some v:=by
   unfold start at h2
   rw[xY (by simpa using hi),cm]at h2
   cases e:vs[i]? with
   | none=>rw[e]at h2;cases h2
   | some a=>rw[e]at h2;cases h2;rfl
  obtain⟨u,hu,rv⟩:=r.get ha
  have hp:ps[i]?=some y:=by
   rw[<-S.pre,List.getElem?_take_of_lt (by omega)];exact h1
  have R9:ps.Nodup:=by rw[<-S.pre];exact S.nd.sublist (List.take_sublist _ _)
  refine⟨u,rv,?_⟩
  rcases S.par y (xZ hp)with k | k
  ·exact .inl ⟨k,R6 R9 hp hu k⟩
  ·obtain⟨c,e⟩:=R8 (n:=s.heap.objs.size+1) k
   refine .inr ⟨.inl k,c,e,?_⟩
   have q:=x.cell y c e
   rw[R7 R9 hp hu (by show scope.names.lookup y≠_;rw[k];decide)]at q
   exact q
 ·exact e0.aH.fresh (AX (x.above y c (PySem.mem_of_lookup h)))
 ·unfold start
  show _=N.length
  rw[eG,bE,ib]
  omega
theorem Ga{CX:eY}{P:Program}{w:World}{K:PySem.W.Frag}{mg:Str->Option Value}{base:Heap}{k:Nat}{f:Addr}{name qual:Str}{params:Arguments}{body:List Stmt}{scope:Scope}{dV kV doc pm aE ct oc:Value}{an od:Option Addr}
  {lJ:Array (Option Value)} {N ps:List Str} {sp:Sp} (lk:K.lookup f=some ⟨oc,od,.func (PySem.W.fnOf name qual params body scope dV kV doc pm an aE ct),lJ⟩) (cN:PySem.W.codeIn K aE qual=true) (S:bc N ps scope)
  (len:∀vs H Q E,sp vs H Q E->vs.length=ps.length)
  (ir:∀(A:Around) (outer:List Env) (s:Shared) (H:Hp) (vs:List V) (Q:VK) (E:XK),cC k (A.deeper (envOfC qual scope s.heap.objs.size f aE))->sp vs H Q E ->
   ∃t,PSs (iP CX P w K mg base N qual scope f aE A outer s H E) body t/\t { nx:=λ_ H'=>Q .ax H',rt:=Q } (start N vs) H) :
  aM P w K mg base CX (k+1) f (PySem.W.fnOf name qual params body scope dV kV doc pm an aE ct) ps sp:=by
 refine⟨len,λA outer s H args us vs Q E hr e0 hb r iQ=>?_⟩
 have hl:=len _ _ _ _ iQ
 have KX:K.In s.heap:=e0.mod.mM.keeps λb o e=>(e0.bs b o e).1
 have lim:s.heap.NoLimit:=e0.mod.nolimit.keeps λb o e=>(e0.bs b o e).1
 have iS:∀y∈ps.zip us,scope.names.lookup y.1=some .local\/(scope.names.lookup y.1=some .cell/\((cellsFrom (s.heap.objs.size+1) scope.names []).lookup y.1).isSome=true):=λ⟨n,v⟩ hy=>by
  rcases S.par n (qq hy).1 with q | q
  ·exact .inl q
  ·exact .inr ⟨q,PySem.W.cellsFrom_some _ _ _ (.inl q)⟩
 refine codeAny_call_function hr.depth (KX _ _ lk) rfl S.co S.gen rfl (PySem.W.codeRec_of KX cN) (hb _ _ _ _ ?_)
 refine wpAny_newFunctionEnv_cells S.kind iS λenv he s1 x=>?_
 subst he
 refine⟨lim.keeps x.toInCall.keep,codeAny_func ?_⟩
 obtain⟨t,ht,hq⟩:=ir A outer s H vs Q E (hr.deeper _) iQ
 have I:Inv (iP CX P w K mg base N qual scope f aE A outer s H E) [] (start N vs) H s1:=cg4 S hr.hd e0 hl r x
 refine wpAny_mono (ht [] s1 (start N vs) H _ I hq) (λfl s' hs=>?_) λe s' hs=>hs
 have fin:∀{aF:St} {H':Hp} {v:V} {u:Value},Inv (iP CX P w K mg base N qual scope f aE A outer s H E) [] aF H' s'->RelV v u->Q v H'->CE outer P w H s Q u s' :=
  λ{aF H' v u} J rv q=>⟨v,H',J.os,J.bare,J.base,J.aH,rv,q⟩
 cases fl with
 | ret u =>
  obtain⟨v,aF,H',J,rv,q⟩:=hs
  exact fin J rv q
 | next =>
  obtain⟨aF,H',J,q⟩:=hs
  exact fin (v:=V.ax) (u:=qp) J rfl q
 | brk =>
  obtain⟨_,_,_,q⟩:=hs
  exact fO q
 | cont =>
  obtain⟨_,_,_,q⟩:=hs
  exact fO q
end L2
namespace L2
open PySem PySem.Spec PyProof.Rows
section
variable{X:Cx}{x:Str}{p pos:Pos}{e:Expr}{es:List Expr}{t:TA}{id T:String}{r:List V->Hp->VK->Prop}
noncomputable def Gb(r:List V->Hp->VK->Prop)(t:TA):TE:=λσ H Q=>t σ H λvs H1=>r vs H1 Q
theorem Sa(hc:fZ X (.builtin id) r)(hg:Gl X x)(hm:X.mg x=none)(hv:bootBuiltins x=some (.builtin id))(ha:PA X (e::es) t)(hn:x≠"__name__":=by decide)(eZ:(x==("__debug__":Str))=false:=by decide)
  (he:starEach (e::es) X.env=(false,eval e X.env)::starEach es X.env:=by rfl) (bL:(backTo pos (starEach es X.env)).any (·.1)=false:=by rfl):PE X (.Call (.Name x p) (e::es) [] pos) (Gb r t):=by
 intro pins s σ H Q I h
 refine wpAny_Call_Name_kw (ow I hg hm hv ?_ hn eZ)
 exact PyProof.Rows.callWith_builtin1 (aP (ha pos pins s σ H _ I h) λus s1 ⟨vs,H1,I1,r1,q1⟩=>hc pins s1 σ H1 vs us Q I1 r1 q1) he bL
theorem ck6(hc:fZ X (.type T) r)(hg:Gl X x)(hm:X.mg x=none)(hv:bootBuiltins x=some (.type T))(ha:PA X (e::es) t)(hn:x≠"__name__":=by decide)(eZ:(x==("__debug__":Str))=false:=by decide)
  (he:starEach (e::es) X.env=(false,eval e X.env)::starEach es X.env:=by rfl) (bL:(backTo pos (starEach es X.env)).any (·.1)=false:=by rfl):PE X (.Call (.Name x p) (e::es) [] pos) (Gb r t):=by
 intro pins s σ H Q I h
 refine wpAny_Call_Name_kw (ow I hg hm hv ?_ hn eZ)
 exact xW (aP (ha pos pins s σ H _ I h) λus s1 ⟨vs,H1,I1,r1,q1⟩=>hc pins s1 σ H1 vs us Q I1 r1 q1) he bL
end
end L2
namespace HT
open PySem PyProof.Rows
section
open PySem.SeqAt
open PySem.AutoSeq1 (wpAny_loadPart')
open PySem.MeetsSeq PySem.MeetsSeq2 PySem.MeetsSeq3
end
section
variable{prog:Program}{w:World}{A:Around}{E:Value->Shared->Prop}{s:Shared}
noncomputable def cV(n d:Nat):Option Int->Nat
 | none=>d
 | some v=>if v<0 then(v+(n:Int)).toNat else min v.toNat n
theorem Gd(n d k:Nat):cV n d (some (k:Int))=min k n:=by
 show(if(k:Int)<0 then((k:Int)+(n:Int)).toNat else min (k:Int).toNat n)=min k n
 rw[if_neg (by omega),gD]
end
end HT
namespace L2
open PySem PySem.Spec PyProof.Rows
noncomputable abbrev TO:=St->Hp->(Option Int->Hp->Prop)->Prop
noncomputable def PO(X:Cx)(e:Option Expr)(t:TO):Prop :=
 ∀(pins:List (Addr × Obj)) (s:Shared) (σ:St) (H:Hp) (Q:Option Int->Hp->Prop),Inv X pins σ H s->t σ H Q ->
  wpAny (model X.prog X.w) X.A (evalPart e X.env) (λu s'=>∃o H',Inv X pins σ H' s'/\IsPart u o/\Q o H') X.xe s
noncomputable def cG8:TO:=λ_ H Q=>Q none H
noncomputable def c03(t:TE):TO:=λσ H Q=>t σ H λx H1=>∃i,x=.int i/\Q (some i) H1
theorem b84{ns:List Int}:∀{us:List Value},Vals (ns.map V.int) us->IntsAre us ns:=by
 induction ns with
 | nil=>intro us r;rw[kU]at r;cases r;exact .nil
 | cons n ns ih =>
  intro us r
  rw[dP]at r
  cases r with
  | cons r1 r2 =>
   obtain⟨t,e⟩:=r1
   subst e
   exact .cons n t (ih r2)
section
variable{X:Cx}{e:Expr}{te:TE}{lo hi:Option Expr}{tl th:TO}{pos p2:Pos}
theorem cD3:PO X none cG8:=by
 intro pins s σ H Q I h
 rw[evalPart_none]
 exact wpAny_pure ⟨none,H,I,.none,h⟩
theorem cG0(h:PE X e te):PO X (some e) (c03 te):=by
 intro pins s σ H Q I hw
 rw[evalPart_some]
 refine aP (h pins s σ H _ I hw) λu s1 ⟨x,H1,I1,r1,q1⟩=>?_
 obtain⟨i,rfl,q⟩:=q1
 obtain⟨t,rfl⟩:=r1
 exact⟨some i,H1,I1,.int i t,q⟩
noncomputable def qU(X:Cx)(r:V->Option Int->Option Int->Hp->VK->Prop):Prop :=
 ∀(pins:List (Addr × Obj)) (s:Shared) (σ:St) (H:Hp) (x:V) (v vl vu:Value) (lo hi:Option Int) (sl:Addr) (Q:VK),Inv X pins σ H s->RelV x v->s.heap.IsSliceOf sl vl vu .none->IsPart vl lo->IsPart vu hi->r x lo hi H Q ->
  ∃T id,typeLookup (.type T) "__getitem__"=pure (some (.builtin id))/\s.TypeIs v T/\wpAny (model X.prog X.w) X.A (getItem v (.ref sl)) (EP X pins σ Q) X.xe s
theorem qU.or{r r':V->Option Int->Option Int->Hp->VK->Prop}(h:qU X r)(h':qU X r'):qU X (λx lo hi H Q=>r x lo hi H Q\/r' x lo hi H Q):=by
 intro pins s σ H x v vl vu lo hi sl Q I rx hs pl pu q
 rcases q with q | q
 ·exact h pins s σ H x v vl vu lo hi sl Q I rx hs pl pu q
 ·exact h' pins s σ H x v vl vu lo hi sl Q I rx hs pl pu q
noncomputable def tSl(r:V->Option Int->Option Int->Hp->VK->Prop)(te:TE)(tl th:TO):TE:=λσ H Q=>te σ H λx H1=>tl σ H1 λl H2=>th σ H2 λu H3=>r x l u H3 Q
theorem cr3{r:V->Option Int->Option Int->Hp->VK->Prop}(hr:qU X r)(he:PE X e te)(hl:PO X lo tl)(hu:PO X hi th):PE X (.Subscript e (.Slice lo hi none p2) pos) (tSl r te tl th):=by
 intro pins s σ H Q I h
 refine Subscript_ (aP (he pins s σ H _ I h) λv s1 ⟨x,H1,I1,r1,q1⟩=>?_)
 refine wpAny_Slice (aP (hl pins s1 σ H1 _ I1 q1) λvl s2 ⟨l,H2,I2,pl,q2⟩=>aP (hu pins s2 σ H2 _ I2 q2) λvu s3 ⟨u,H3,I3,pu,q3⟩=>?_)
 rw[evalPart_none]
 refine wpAny_pure ?_
 have I4:Inv X pins σ H3 { s3 with heap:=s3.heap.push { cls:=.type "slice",data:=.fields #[vl,vu,.none] } }:=I3.kept (t':=s3.toks) λb ob q=>ff _ q
 obtain⟨T,id,hT,ht,hg⟩:=hr pins { s3 with heap:=s3.heap.push { cls:=.type "slice",data:=.fields #[vl,vu,.none] } } σ H3 x v vl vu l u s3.heap.objs.size Q I4 r1 (Heap.IsSliceOf.new ..) pl pu q3
 show wpAny (model X.prog X.w) X.A (subscriptTail e (.Slice lo hi none p2) v (.ref s3.heap.objs.size)) (EP X pins σ Q) X.xe { s3 with heap:=s3.heap.push { cls:=.type "slice",data:=.fields #[vl,vu,.none] } }
 exact tail_any (ops:=[.ref s3.heap.objs.size,v]) ht hT hg (by with_unfolding_all rfl)
noncomputable def uo(xs:List V)(lo hi:Option Int):List V:=(xs.drop (HT.cV xs.length 0 lo)).take (HT.cV xs.length xs.length hi-HT.cV xs.length 0 lo)
theorem bQ8(xs:List V)(lo hi:Option Int):(uo xs lo hi).length<=xs.length:=by
 unfold uo
 rw[jz,tV]
 omega
end
end L2
namespace L2
open PySem PySem.Spec PyProof.Rows
noncomputable def iu(n:Nat)(i:Int):Option Nat:=if 0<=i then(if i<n then some i.toNat else none)else if -(n:Int)<=i then some (i+n).toNat else none
noncomputable def eB{α:Type}(xs:List α)(i:Int):Option α:=(iu xs.length i).bind λj=>xs[j]?
theorem Sb{n:Nat}{i:Int}{j:Nat}(h:iu n i=some j):seqIndex? i n=some j/\j<n/\-(n:Int)<=i/\i<n:=by
 unfold iu at h
 by_cases h0:0<=i
 ·rw[if_pos h0]at h
  by_cases h1:i<n
  ·rw[if_pos h1]at h
   have e:i.toNat=j:=cQ h
   exact⟨by rw[seqIndex_of h0 h1,e],by omega,by omega,h1⟩
  ·rw[if_neg h1]at h;cases h
 ·rw[if_neg h0]at h
  by_cases h1:-(n:Int)<=i
  ·rw[if_pos h1]at h
   have e:(i+n).toNat=j:=cQ h
   exact⟨by rw[seqIndex_neg (by omega) h1,e],by omega,h1,by omega⟩
  ·rw[if_neg h1]at h;cases h
theorem kh{α:Type}{xs:List α}{i:Int}{v:α}(h:eB xs i=some v):∃j,seqIndex? i xs.length=some j/\xs[j]?=some v/\j<xs.length/\-(xs.length:Int)<=i/\i<xs.length:=by
 unfold eB at h
 cases e:iu xs.length i with
 | none=>rw[e]at h;cases h
 | some j =>
  rw[e]at h
  obtain⟨h1,h2,h3,h4⟩:=Sb e
  exact⟨j,h1,h,h2,h3,h4⟩
noncomputable def Sd(b:Expr):Prop:=∀o i,subscripted b false o i=operate [o,i] (getItem o i)
noncomputable def mR(X:Cx)(r:R2):Prop :=
 ∀(value slice:Expr) (pins:List (Addr × Obj)) (s:Shared) (σ:St) (H:Hp) (x y:V) (v u:Value) (Q:VK),Inv X pins σ H s->RelV x v->RelV y u->r x y H Q ->
  subscripted slice false v u=operate [v,u] (getItem v u)->wpAny (model X.prog X.w) X.A (subscriptTail value slice v u) (EP X pins σ Q) X.xe s
noncomputable def BQ(X:Cx)(id:String)(r:V->List V->Hp->VK->Prop):Prop :=
 ∀(pins:List (Addr × Obj)) (s:Shared) (σ:St) (H:Hp) (x:V) (xs:List V) (v:Value) (us:List Value) (Q:VK),Inv X pins σ H s->RelV x v->Vals xs us->r x xs H Q ->
  wpAny (model X.prog X.w) X.A (call (.builtin id) (v::us)) (EP X pins σ Q) X.xe s
section
variable{X:Cx}{a b:Expr}{ta tb:TE}{pos:Pos}
theorem mR.or{r r':R2}(h:mR X r)(h':mR X r'):mR X (λx y H Q=>r x y H Q\/r' x y H Q):=by
 intro value slice pins s σ H x y v u Q I rx ry q hs
 rcases q with q | q
 ·exact h value slice pins s σ H x y v u Q I rx ry q hs
 ·exact h' value slice pins s σ H x y v u Q I rx ry q hs
theorem c76{r:R2}(hr:mR X r)(ha:PE X a ta)(hb:PE X b tb)(hs:Sd b):PE X (.Subscript a b pos) (yL r ta tb):=by
 intro pins s σ H Q I h
 exact Subscript_ (FV ha hb I h λv u s2 x y H2 I2 rx ry q=>hr a b pins s2 σ H2 x y v u Q I2 rx ry q (hs _ _))
noncomputable def Se(K:PySem.W.Frag):R2:=λx y H Q=>∃p xs i v,x=.ref p/\y=.int i/\bK K H p xs/\eB xs i=some v/\Q v H
noncomputable def Sf(K:PySem.W.Frag):R2:=λx y H Q=>∃p xs i v,x=.ref p/\y=.int i/\gS K H p xs/\eB xs i=some v/\Q v H
noncomputable def Sg:R2:=λx y H Q=>∃z i c,x=.str z/\y=.int i/\z.length<=sizeLine/\eB z.cps.toList i=some c/\Q (.str ⟨#[c]⟩) H
theorem dy2:mR X (Se X.K):=by
 intro value slice pins s σ H x y v u Q I rx ry h hs
 obtain⟨p,xs,i,z,rfl,rfl,hq,he,q⟩:=h
 cases rx
 obtain⟨t,rfl⟩:=ry
 obtain⟨its,r,pl,hz⟩:=I.list hq
 obtain⟨j,h1,h2,h3,h4,h5⟩:=kh he
 obtain⟨w,ew,gb⟩:=r.get h2
 have hl:=r.length
 have hn:=um
 have fin:EP X pins σ Q w s:=⟨z,H,I,gb,q⟩
 by_cases h0:0<=i
 ·have hj:i.toNat=j:=by
   rw[seqIndex_of h0 h5]at h1
   exact cQ h1
  exact item_listR pl.isList h0 (by omega) (by rw[hj];simpa using ew) fin hs
 ·have hj:(i+(its.toArray.size:Int)).toNat=j:=by
   rw[seqIndex_neg (by omega) h4]at h1
   rw[du,<- hl]
   exact cQ h1
  exact subscriptTail_builtinR (x:=w) pl.isList.typeIs slot_list_getitem.lookup
   (wpAny_getItem_list_neg (Q:=λr s'=>r=w/\EP X pins σ Q r s') pl.isList (by omega) (by rw[du]<;>omega) (by omega) (by rw[hj];simpa using ew) ⟨rfl,fin⟩) hs
theorem dy3:mR X (Sf X.K):=by
 intro value slice pins s σ H x y v u Q I rx ry h hs
 obtain⟨p,xs,i,z,rfl,rfl,hq,he,q⟩:=h
 cases rx
 obtain⟨t,rfl⟩:=ry
 obtain⟨its,r,pl,hz⟩:=I.tuple hq
 obtain⟨j,h1,h2,h3,h4,h5⟩:=kh he
 obtain⟨w,ew,gb⟩:=r.get h2
 have hl:=r.length
 have hn:=um
 have fin:EP X pins σ Q w s:=⟨z,H,I,gb,q⟩
 exact subscriptTail_builtinR (x:=w) pl.typeIs slot_tuple_getitem.lookup
  (getItem_tuple (j:=j) (Q:=λr s'=>r=w/\EP X pins σ Q r s') pl (by omega) (by omega) (by rw[du,<- hl];exact h1) (by simpa using ew) ⟨rfl,fin⟩) hs
theorem cO5:mR X Sg:=by
 intro value slice pins s σ H x y v u Q I rx ry h hs
 obtain⟨z,i,c,rfl,rfl,hz,he,q⟩:=h
 obtain⟨t,rfl⟩:=rx
 obtain⟨t',rfl⟩:=ry
 obtain⟨j,h1,h2,h3,h4,h5⟩:=kh he
 have hl:z.cps.toList.length=z.length:=by simp[Str.length]
 rw[hl]at h1 h4 h5
 have hn:=um
 exact tail_any (typeIs_str s z t) slot_str_getitem.lookup (getItem_str (c:=c) (by
  have e1:decide (i < -(2 ^ 63:Int))=false:=decide_eq_false (by omega)
  have e2:decide (i ≥ 2 ^ 63)=false:=decide_eq_false (by omega)
  rw[e1,e2,tW]) (by rw[h1];simpa using h2) ⟨.str ⟨#[c]⟩,H,I.tok _,⟨_,rfl⟩,q⟩) hs
noncomputable def rIx(K:PySem.W.Frag):R2:=λx y H Q=>Se K x y H Q\/Sf K x y H Q\/Sg x y H Q
theorem cR7:mR X (rIx X.K):=dy2.or (dy3.or cO5)
theorem b71(its:List Value)(n j:Nat)(u:Value):A8 (·.setIfInBounds j u) { cls:=.type "list",data:=.seq its.toArray n }={ cls:=.type "list",data:=.seq (its.set j u).toArray n }:=by
 simp[A8]
theorem Inv.lst{pins:List (Addr × Obj)}{σ:St}{H:Hp}{s:Shared}{p:Addr}{xs:List V}(I:Inv X pins σ H s)(h:H p=some (.lst xs)) :
  ∃(its:List Value) (n:Nat),Vals xs its/\s.heap.get? p=some { cls:=.type "list",data:=.seq its.toArray n }/\xs.length<=sizeLine:=by
 obtain⟨z,its,n,r,e⟩:=I.aH p _ h
 exact⟨its,n,r,e,z⟩
theorem Inv.dy8{pins:List (Addr × Obj)}{σ:St}{H:Hp}{s:Shared}{p:Addr}{xs ys:List V}{its its':List Value}{n n':Nat}{f:Obj->Obj}(I:Inv X pins σ H s)(h:H p=some (.lst xs))
  (ho:s.heap.get? p=some { cls:=.type "list",data:=.seq its.toArray n }) (hf:f { cls:=.type "list",data:=.seq its.toArray n }={ cls:=.type "list",data:=.seq its'.toArray n' }) (r:Vals ys its') (hz:ys.length<=sizeLine) (t:Nat) :
  Inv X pins σ (upd H p (.lst ys)) { s with heap:=s.heap.update p f,toks:=t }:=by
 have e:(s.heap.update p f).get? p=some { cls:=.type "list",data:=.seq its'.toArray n' }:=by
  rw[E6 f ho (by rw[hf]<;>rfl),hf]
 refine I.write (x:=p) (e:=p) (by rw[h];trivial) (.inl rfl) (λb u hb q=>(qu _ _ (fe hb)).trans q) ⟨_,e⟩ ?_
 exact⟨hz,its',n',r,e⟩
noncomputable def cZ4:V->V->V->Hp->(Hp->Prop)->Prop:=λo i v H Q=>∃p xs k j,o=.ref p/\i=.int k/\H p=some (.lst xs)/\iu xs.length k=some j/\Q (upd H p (.lst (xs.set j v)))
theorem cu8:RL X cZ4:=by
 intro pins s σ H o i v ov iv u Q I ro ri rv h
 obtain⟨p,xs,k,j,rfl,rfl,hp,hj,q⟩:=h
 cases ro
 obtain⟨t,rfl⟩:=ri
 obtain⟨its,n,r,ho,hz⟩:=I.lst hp
 obtain⟨h1,h2,h3,h4⟩:=Sb hj
 have hl:=r.length
 have hn:=um
 have I':Inv X pins σ (upd H p (.lst (xs.set j v))) { s with heap:=s.heap.update p (A8 (·.setIfInBounds j u)) } :=
  I.dy8 hp ho (b71 its n j u) (r.set rv j) (by rw[mB];exact hz) s.toks
 by_cases h0:0<=k
 ·have hk:k.toNat=j:=by
   rw[seqIndex_of h0 h4]at h1
   exact cQ h1
  exact PySem.W.ki_setAt ho h0 (by omega) (by rw[du,<- hl];exact h4) (by rw[hk];exact⟨_,I',q⟩)
 ·have hk:(k+(its.toArray.size:Int)).toNat=j:=by
   rw[seqIndex_neg (by omega) h3]at h1
   rw[du,<- hl]
   exact cQ h1
  exact PySem.W.ki_setBack ho (by omega) (by rw[du,<- hl];exact h3) (by omega) (by rw[hk];exact⟨_,I',q⟩)
theorem Ge(lo hi:Option Int)(n:Nat):(sliceBounds lo hi none n).1=((HT.cV n 0 lo:Nat):Int)/\(sliceBounds lo hi none n).2.1=((HT.cV n n hi:Nat):Int)/\(sliceBounds lo hi none n).2.2=1:=by
 refine⟨?_,?_,rfl⟩
 ·cases lo with
  | none=>simp[sliceBounds,HT.cV]
  | some i =>
   simp only[sliceBounds,HT.cV,qv,show(1:Int)>0 by decide,if_true]
   by_cases h:i<0
   ·simp only[h,if_true]<;>omega
   ·simp only[h,if_false]<;>omega
 ·cases hi with
  | none=>simp[sliceBounds,HT.cV]
  | some i =>
   simp only[sliceBounds,HT.cV,qv,show(1:Int)>0 by decide,if_true]
   by_cases h:i<0
   ·simp only[h,if_true]<;>omega
   ·simp only[h,if_false]<;>omega
theorem bJ5(its:List Value)(lo hi:Option Int):slicePick its.toArray lo hi none=((its.drop (HT.cV its.length 0 lo)).take (HT.cV its.length its.length hi-HT.cV its.length 0 lo)).toArray:=by
 obtain⟨h1,h2,h3⟩:=Ge lo hi its.toArray.size
 unfold slicePick
 rw[h1,h2,h3]
 simp only[sliceRange_one,pick_run,du]<;>rfl
noncomputable def dd2(K:PySem.W.Frag):V->Option Int->Option Int->Hp->VK->Prop:=λx lo hi H Q=>∃a xs,x=.ref a/\bK K H a xs/\∀p,H p=none->Q (.ref p) (upd H p (.lst (uo xs lo hi)))
theorem dz3:qU X (dd2 X.K):=by
 intro pins s σ H x v vl vu lo hi sl Q I rx hs pl pu h
 obtain⟨a,xs,rfl,hx,q⟩:=h
 cases rx
 obtain⟨its,r,ht,hz⟩:=I.list hx
 have hlen:=r.length
 refine⟨"list",_,slot_list_getitem.lookup,ht.isList.typeIs,?_⟩
 refine wpAny_getItem_list_slice ht.isList hs pl pu .none (by simp) ?_ (by rw[du]<;>omega)
 rw[bJ5,<- hlen]
 refine⟨.ref s.heap.objs.size,_,I.laid (t':=s.toks) (o:=.lst (uo xs lo hi)) (λb ob q=>ff _ q) (bI _) ?_,rfl,q _ (I.aH.fresh (bI _))⟩
 exact⟨eM (bQ8 xs lo hi) hz,_,0,(r.drop (HT.cV xs.length 0 lo)).take (HT.cV xs.length xs.length hi-HT.cV xs.length 0 lo),gk _ rfl⟩
noncomputable def mS:V->Bool
 | .ax=>true
 | .bl _=>true
 | .int _=>true
 | .str _=>true
 | _=>false
noncomputable def lK:V->V->Bool
 | .ax,.ax=>true
 | .bl a,.bl b=>a==b
 | .bl a,.int b=>(if a then 1 else 0)==b
 | .int a,.bl b=>a==(if b then 1 else 0)
 | .int a,.int b=>a==b
 | .str a,.str b=>a==b
 | _,_=>false
theorem cV3{A:Around}{s:Shared}{y x:V}{u v:Value}(ry:RelV y u)(rx:RelV x v)(fy:mS y=true)(fx:mS x=true):E7 A s u v (lK y x):=by
 cases y with
 | ax =>
  cases ry
  cases x with
  | ax=>cases rx;exact SeqAt.EqAt.same _
  | bl b=>cases rx;exact SeqAt.EqAt.none_bool b
  | int b=>obtain⟨t,rfl⟩:=rx;exact SeqAt.EqAt.none_int b t
  | str b=>obtain⟨t,rfl⟩:=rx;exact SeqAt.EqAt.none_str b t
  | _=>exact absurd (show false=true from fx) eF
 | bl a =>
  cases ry
  cases x with
  | ax=>cases rx;exact SeqAt.EqAt.bool_none a
  | bl b=>cases rx;exact SeqAt.EqAt.bool_bool a b
  | int b=>obtain⟨t,rfl⟩:=rx;exact SeqAt.EqAt.bool_int a b t
  | str b=>obtain⟨t,rfl⟩:=rx;exact SeqAt.EqAt.bool_str a b t
  | _=>exact absurd (show false=true from fx) eF
 | int a =>
  obtain⟨t',rfl⟩:=ry
  cases x with
  | ax=>cases rx;exact SeqAt.EqAt.int_none a t'
  | bl b=>cases rx;exact SeqAt.EqAt.int_bool a t' b
  | int b=>obtain⟨t,rfl⟩:=rx;exact SeqAt.EqAt.int_int a t' b t
  | str b=>obtain⟨t,rfl⟩:=rx;exact SeqAt.EqAt.int_str a t' b t
  | _=>exact absurd (show false=true from fx) eF
 | str a =>
  obtain⟨t',rfl⟩:=ry
  cases x with
  | ax=>cases rx;exact SeqAt.EqAt.str_none a t'
  | bl b=>cases rx;exact SeqAt.EqAt.str_bool a t' b
  | int b=>obtain⟨t,rfl⟩:=rx;exact SeqAt.EqAt.str_int a t' b t
  | str b=>obtain⟨t,rfl⟩:=rx;exact SeqAt.EqAt.str_str a t' b t
  | _=>exact absurd (show false=true from fx) eF
 | _=>exact absurd (show false=true from fy) eF
noncomputable def mT(x:V)(u:Value):Bool:=match u with
 | .none=>lK .ax x
 | .bool b=>lK (.bl b) x
 | .int i _=>lK (.int i) x
 | .str z _=>lK (.str z) x
 | _=>false
theorem Sh{x y:V}{u:Value}(r:RelV y u)(f:mS y=true):mT x u=lK y x:=by
 cases y with
 | ax=>cases r;rfl
 | bl b=>cases r;rfl
 | int i=>obtain⟨t,rfl⟩:=r;rfl
 | str z=>obtain⟨t,rfl⟩:=r;rfl
 | _=>exact absurd (show false=true from f) eF
theorem Gf{x:V}:∀{xs:List V} {us:List Value},Vals xs us->xs.all mS=true->us.any (mT x)=xs.any λy=>lK y x
 | _,_,.nil,_=>rfl
 | y::xs,u::us,.cons r t,f=>by
  rw[eN,dY]at f
  rw[List.any_cons,List.any_cons,Sh r f.1,Gf t f.2]
theorem Gg{A:Around}{s:Shared}{x:V}{v:Value}(rx:RelV x v)(fx:mS x=true):∀{xs:List V} {us:List Value},Vals xs us->xs.all mS=true->∀u∈us,E7 A s u v (mT x u)
 | _,_,.nil,_=>λu hu=>by cases hu
 | y::xs,u::us,.cons r t,f=>λu' hu=>by
  rw[eN,dY]at f
  rcases bX.mp hu with rfl | hu
  ·rw[Sh r f.1];exact cV3 r rx f.1 fx
  ·exact Gg rx fx t f.2 u' hu
noncomputable def yR(x:V)(xs:List V):Bool:=xs.any λy=>lK y x
noncomputable def rIn(K:PySem.W.Frag)(neg:Bool):R2:=λx y H Q=>∃p xs,y=.ref p/\(bK K H p xs\/gS K H p xs)/\mS x=true/\xs.all mS=true/\Q (.bl (if neg then !yR x xs else yR x xs)) H
theorem cc7:cB X (compareOp .In) (rIn X.K false):=by
 intro pins s σ H x y v u Q I rx ry h
 obtain⟨p,xs,rfl,hq,fx,fs,q⟩:=h
 cases ry
 rcases hq with hq | hq
 ·obtain⟨its,r,pl,hz⟩:=I.list hq
  refine SeqAt.in_listAt (mT x) pl.isList (λw hw=>Gg rx fx r fs w (by simpa using hw)) ⟨.bl _,H,I,rfl,?_⟩
  rw[show its.toArray.any (mT x)=its.any (mT x) by simp,Gf r fs]
  exact q
 ·obtain⟨its,r,pl,hz⟩:=I.tuple hq
  refine SeqAt.in_tupleAt (mT x) pl (λw hw=>Gg rx fx r fs w (by simpa using hw)) ⟨.bl _,H,I,rfl,?_⟩
  rw[show its.toArray.any (mT x)=its.any (mT x) by simp,Gf r fs]
  exact q
theorem dz7:fZ X (.builtin "len") (λxs H Q=>∃p ys,xs=[.ref p]/\(bK X.K H p ys\/gS X.K H p ys)/\Q (.int ys.length) H):=by
 intro pins s σ H xs us Q I r h
 obtain⟨p,ys,rfl,hq,q⟩:=h
 obtain⟨u,rfl,rx⟩:=yO r
 cases rx
 have hn:=um
 rcases hq with hq | hq
 ·obtain⟨its,r',pl,hz⟩:=I.list hq
  have hlen:=r'.length
  exact Calls.call_len_list pl.isList (by simp only[du]<;>omega) ⟨.int ys.length,H,I.tok _,⟨s.toks+1,by rw[du,hlen]⟩,q⟩
 ·obtain⟨its,r',pl,hz⟩:=I.tuple hq
  have hlen:=r'.length
  exact len_tuple pl (by simp only[du]<;>omega) ⟨.int ys.length,H,I.tok _,⟨s.toks+1,by rw[du,hlen]⟩,q⟩
theorem bN6:fZ X (.builtin "len") (λxs H Q=>∃z,xs=[.str z]/\z.length<=sizeLine/\Q (.int z.length) H):=by
 intro pins s σ H xs us Q I r h
 obtain⟨z,rfl,hz,q⟩:=h
 obtain⟨u,rfl,t,rfl⟩:=yO r
 have hn:=um
 exact len_str (by omega) ⟨.int z.length,H,I.tok _,⟨_,rfl⟩,q⟩
theorem fZ.or{f:Value}{r r':List V->Hp->VK->Prop}(h:fZ X f r)(h':fZ X f r'):fZ X f (λxs H Q=>r xs H Q\/r' xs H Q):=by
 intro pins s σ H xs us Q I rs q
 rcases q with q | q
 ·exact h pins s σ H xs us Q I rs q
 ·exact h' pins s σ H xs us Q I rs q
theorem bM0:fZ X (.type "list") (λxs H Q=>∃p ys,xs=[.ref p]/\(bK X.K H p ys\/gS X.K H p ys)/\∀l,H l=none->Q (.ref l) (upd H l (.lst ys))):=by
 intro pins s σ H xs us Q I r h
 obtain⟨p,ys,rfl,hq,q⟩:=h
 obtain⟨u,rfl,rx⟩:=yO r
 cases rx
 have fin:∀(its:List Value),Vals ys its->ys.length<=sizeLine->∀(h':Heap) (c':Nat),(∀b o',s.heap.get? b=some o'->h'.get? b=some o') ->
   h'.get? s.heap.objs.size=some { cls:=.type "list",dict:=none,data:=.seq its.toArray c',slots:=#[] }->EP X pins σ Q (.ref s.heap.objs.size) { s with heap:=h' }:=λits r' hz h' c' kp e =>
  ⟨.ref s.heap.objs.size,_,I.laid (t':=s.toks) kp (bI _) (show eo X.prog X.w _ h' _ (.lst ys) from⟨hz,its,c',r',e⟩),rfl,q _ (I.aH.fresh (bI _))⟩
 rcases hq with hq | hq
 ·obtain⟨its,r',pl,hz⟩:=I.list hq
  have hlen:=r'.length
  obtain⟨o,ho,hc,n,hd⟩:=pl.isList
  exact call_list_seq p (.inl rfl) ho hc hd (λh' c' kp e=>fin its r' hz h' c' kp e) (by simp only[du]<;>omega)
 ·obtain⟨its,r',pl,hz⟩:=I.tuple hq
  have hlen:=r'.length
  obtain⟨o,ho,hc,n,hd⟩:=pl
  exact call_list_seq p (.inr rfl) ho hc hd (λh' c' kp e=>fin its r' hz h' c' kp e) (by simp only[du]<;>omega)
noncomputable def Gh(K:PySem.W.Frag)(T:String)(x:V)(H:Hp):Prop:=match x with
 | .str _=>T="str"
 | .int _=>T="int"
 | .ref p=>(T="list"/\∃xs,bK K H p xs)\/(T="tuple"/\∃o,K.lookup p=some o/\o.cls=.type "tuple"/\o.dict=none) \/
   (T="dict"/\((∃dD,H p=some (.dK dD))\/∃dD,H p=some (.dT dD)))\/(T="set"/\∃S n,H p=some (.set S n))
 | _=>False
theorem Si{pins:List (Addr × Obj)}{σ:St}{H:Hp}{s:Shared}{T:String}{x:V}{v:Value}(I:Inv X pins σ H s)(r:RelV x v)(ty:Gh X.K T x H) :
  s.TypeIs v T/\∀a,v=.ref a->∃ob,s.heap.get? a=some ob/\ob.dict=none:=by
 cases x with
 | str z =>
  obtain⟨t,rfl⟩:=r
  cases(show T="str" from ty)
  exact⟨typeIs_str s z t,λ_ e=>nomatch e⟩
 | int i =>
  obtain⟨t,rfl⟩:=r
  cases(show T="int" from ty)
  exact⟨typeIs_int s i t,λ_ e=>nomatch e⟩
 | ref p =>
  cases r
  rcases ty with⟨rfl,xs,hq⟩ | ⟨rfl,o,hk,hc,hd⟩ | ⟨rfl,hk⟩ | ⟨rfl,S,n,hk⟩
  ·obtain⟨its,_,pl,_⟩:=I.list hq
   refine⟨pl.isList.typeIs,λa e=>?_⟩
   cases e
   obtain⟨o,n,e,c,hd,_⟩:=pl
   exact⟨o,e,hd⟩
  ·refine⟨⟨o,I.di p o hk,hc⟩,λa e=>?_⟩
   cases e
   exact⟨o,I.di _ o hk,hd⟩
  ·have z:∃o,s.heap.get? p=some o/\o.ExactDict:=by
    rcases hk with⟨dD,hk⟩ | ⟨dD,hk⟩
    ·obtain⟨_,_,_,_,o,_,_,e,ex,_⟩:=I.aH p _ hk
     exact⟨o,e,ex⟩
    ·obtain⟨_,_,_,_,o,_,_,e,ex,_⟩:=I.aH p _ hk
     exact⟨o,e,ex⟩
   obtain⟨o,e,ex⟩:=z
   refine⟨⟨o,e,ex.1⟩,λa e2=>?_⟩
   cases e2
   exact⟨o,e,ex.2.1⟩
  ·obtain⟨o,_,_,_,e,ex,_⟩:=I.aH p _ hk
   refine⟨⟨o,e,ex.1⟩,λa e2=>?_⟩
   cases e2
   exact⟨o,e,ex.2.1⟩
 | _=>exact fO ty
noncomputable def Sj(K:PySem.W.Frag)(T:String)(r:V->List V->Hp->VK->Prop)(to:TE):TE:=λσ H Q=>to σ H λx H1=>Gh K T x H1/\r x [] H1 Q
noncomputable def tBM(K:PySem.W.Frag)(T:String)(r:V->List V->Hp->VK->Prop)(to:TE)(t:TA):TE:=λσ H Q=>to σ H λx H1=>Gh K T x H1/\t σ H1 λxs H2=>r x xs H2 Q
variable{o e:Expr}{es:List Expr}{to:TE}{t:TA}{name:Str}{apos bY:Pos}{T id:String}{r:V->List V->Hp->VK->Prop}
theorem Sk(pa:PlainAttrs T)(slot:Slot T name id)(Gi:typeOf (.builtin id)=pure (.type "method_descriptor"))(hm:BQ X id r)(ho:PE X o to)
  (ki:attributeBase o name X.env (eval o X.env)=eval o X.env:=by rfl) (kj:(apos.endLine==bY.line)=true:=by rfl):PE X (.Call (.Attribute o name apos) [] [] bY) (Sj X.K T r to):=by
 intro pins s σ H Q I h
 refine wpAny_Call_method0_late ki kj (aP (ho pins s σ H _ I h) λv s1 ⟨x,H1,I1,r1,ty,q1⟩=>?_)
 obtain⟨h1,h2⟩:=Si I1 r1 ty
 exact⟨T,id,pa,slot,Gi,h1,h2,Calls.callWith_builtin rfl (PySem.evalArgs_none (hm pins s1 σ H1 x [] v [] Q I1 r1 .nil q1))⟩
theorem cY7(pa:PlainAttrs T)(slot:Slot T name id)(Gi:typeOf (.builtin id)=pure (.type "method_descriptor"))(hm:BQ X id r)(ho:PE X o to)(ha:PA X (e::es) t)
  (ki:attributeBase o name X.env (eval o X.env)=eval o X.env:=by rfl)
  (Gj:((backTo bY (starEach (e::es) X.env)).all (λx=>!x.1)&&(backToKw bY (keywordEach [] X.env)).all (λx=>x.1.isSome)
   && decide ((e::es).length+([]:List Keyword).length+(if([]:List Keyword).isEmpty then 0 else 1)<30))=true:=by rfl)
  (kj:(apos.endLine==bY.line)=true:=by rfl) (hs:starEach (e::es) X.env=(false,eval e X.env)::starEach es X.env:=by rfl) (Gk:(backTo bY (starEach es X.env)).any (·.1)=false:=by rfl) :
  PE X (.Call (.Attribute o name apos) (e::es) [] bY) (tBM X.K T r to t):=by
 intro pins s σ H Q I h
 refine wpAny_Call_method_late ki Gj kj rfl (aP (ho pins s σ H _ I h) λv s1 ⟨x,H1,I1,r1,ty,q1⟩=>?_)
 obtain⟨h1,h2⟩:=Si I1 r1 ty
 refine⟨T,id,pa,slot,Gi,h1,h2,?_⟩
 have hA:=ha bY pins s1 σ H1 _ I1 q1
 rw[hs]at hA ⊢
 refine Calls.callWith_builtin (by show(false||(backTo bY (starEach es X.env)).any (·.1))=false;rw[Gk]<;>rfl) (Calls.evalArgs_plain ?_)
 exact aP hA λus s2 ⟨vs,H2,I2,r2,q2⟩=>hm pins s2 σ H2 x vs v us Q I2 r1 r2 q2
/- xs.append(e),list.index on a fy6 tuple .. are BQ facts of 06m -/
end
end L2
namespace L2
open PySem PySem.Spec PyProof.Rows
noncomputable def Sl(X:Cx)(id:String)(r:V->List V->Hp->VK->Prop):Prop :=
 ∀(pins:List (Addr × Obj)) (s:Shared) (σ:St) (H:Hp) (x:V) (xs:List V) (v:Value) (us:List Value) (Q:VK),Inv X pins σ H s->RelV x v->Vals xs us->r x xs H Q ->
  wpAny (model X.prog X.w) X.A (call (.builtin id) (v::us)) (EP X pins σ Q) X.xe s
theorem Vals.one:∀{x:V} {us:List Value},Vals [x] us->∃u,us=[u]/\RelV x u
 | _,_,.cons r .nil=>⟨_,rfl,r⟩
theorem Vals.two:∀{x y:V} {us:List Value},Vals [x,y] us->∃u v,us=[u,v]/\RelV x u/\RelV y v
 | _,_,_,.cons r (.cons q .nil)=>⟨_,_,rfl,r,q⟩
theorem Vals.zero:∀{us:List Value},Vals [] us->us=[]
 | _,.nil=>rfl
theorem Vals.dropLast{xs:List V}{us:List Value}(h:Vals xs us):Vals xs.dropLast us.dropLast:=by
 induction h with
 | nil=>exact .nil
 | cons r t ih =>
  cases t with
  | nil=>exact .nil
  | cons q t'=>exact .cons r ih
theorem Vals.rep{xs:List V}{us:List Value}(h:Vals xs us):∀k:Nat,Vals (aV k xs).flatten (aV k us).flatten
 | 0=>.nil
 | k+1=>by
  rw[qw,qw,tX,tX]
  exact Vals.append h (Vals.rep h k)
theorem b04{α:Type}(l:List α):l.eraseIdx (l.length-1)=l.dropLast:=by
 induction l with
 | nil=>rfl
 | cons a r ih =>
  cases r with
  | nil=>rfl
  | cons b r =>
   have e:(a::b::r).length-1=((b::r).length-1)+1:=by
    have h1:(a::b::r).length=r.length+2:=rfl
    have h2:(b::r).length=r.length+1:=rfl
    omega
   rw[e,List.eraseIdx_cons_succ,ih]
   all_goals rfl
theorem Sm(its:List Value):∀(k:Nat) (acc:List Value),
  List.foldl (λx1 x2=>x1++x2) acc.toArray (aV k its.toArray)=(acc++(aV k its).flatten).toArray
 | 0,acc=>by simp
 | k+1,acc=>by
  have e:acc.toArray++its.toArray=(acc++its).toArray:=by simp
  have e2:(acc++its)++(aV k its).flatten=acc++(aV (k+1) its).flatten:=by
   rw[qw,tX,fC]
  rw[<-e2,<- Sm its k (acc++its),<- e,qw,qy]
section
variable{X:Cx}{pins:List (Addr × Obj)}{σ:St}{H:Hp}{s:Shared}{l b:Addr}{xs ys zs:List V}
theorem Inv.Sn{its its':List Value}{n:Nat}{f:Array Value->Array Value}{t':Nat}(I:Inv X pins σ H s)(hH:H l=some (.lst xs))
  (e:s.heap.get? l=some { cls:=.type "list",data:=.seq its.toArray n }) (hf:f its.toArray=its'.toArray) (hv:Vals ys its') (hz:ys.length<=sizeLine) :
  Inv X pins σ (upd H l (.lst ys)) { s with heap:=s.heap.update l (A8 f),toks:=t' }:=by
 have q:=PySem.IsL.update e f
 rw[hf]at q
 refine I.write (x:=l) (e:=l) (by rw[hH];exact trivial) (.inl rfl) (λb' u hb hu=>(qu s.heap (A8 f) (fe hb)).trans hu) ⟨_,q⟩ ?_
 exact⟨hz,its',_,hv,q⟩
theorem Inv.So{its:List Value}{t':Nat}(I:Inv X pins σ H s)(hv:Vals ys its)(hz:ys.length<=sizeLine) :
  Inv X pins σ (upd H s.heap.objs.size (.lst ys)) { s with heap:=s.heap.push { cls:=.type "list",data:=.seq its.toArray },toks:=t' } :=
 I.laid (λ_ _ q=>ff _ q) (bI _) ⟨hz,its,0,hv,gk _ rfl⟩
theorem Inv.fresh(I:Inv X pins σ H s):H s.heap.objs.size=none:=I.aH.fresh (bI _)
theorem Inv.yS(I:Inv X pins σ H s)(hH:H l=some (.lst xs)):xs.length<=sizeLine/\∃(its:List Value) (n:Nat),Vals xs its/\xs.length=its.length/\s.heap.get? l=some { cls:=.type "list",data:=.seq its.toArray n }:=by
 obtain⟨z,its,n,r,e⟩:=I.aH l _ hH
 exact⟨z,its,n,r,r.length,e⟩
theorem cm9{n:Nat}(h:n<=sizeLine):Q2 n=false:=by
 unfold Q2
 exact decide_eq_false (by omega)
end
section
variable{X:Cx}
noncomputable def cF1:V->List V->Hp->VK->Prop:=λx vs H Q=>∃l xs y,x=.ref l/\vs=[y]/\H l=some (.lst xs)/\xs.length<sizeLine/\Q .ax (upd H l (.lst (xs++[y])))
theorem Sq:Sl X "list.append" cF1:=by
 intro pins s σ H x vs v us Q I rx rv h
 obtain⟨l,xs,y,rfl,rfl,hH,hz,q⟩:=h
 cases rx
 obtain⟨u,rfl,ru⟩:=rv.one
 obtain⟨z,its,n,r,hl,e⟩:=I.yS hH
 refine call_meets F.slot_list_append ⟨_,e,rfl⟩ F.entry_list_append (F.args_list_append_2 _ _) (PySem.list_append l its.toArray n u (by rw[du];omega)) ⟨e,?_⟩
 refine⟨.ax,_,I.Sn (its':=its++[u]) hH e (by simp) (r.append (.cons ru .nil)) ?_,rfl,q⟩
 rw[eG,A9]
 omega
noncomputable def c93:V->List V->Hp->VK->Prop:=λx vs H Q=>∃l xs y,x=.ref l/\vs=[]/\H l=some (.lst xs)/\xs[xs.length-1]?=some y/\Q y (upd H l (.lst xs.dropLast))
theorem cN7:Sl X "list.pop" c93:=by
 intro pins s σ H x vs v us Q I rx rv h
 obtain⟨l,xs,y,rfl,rfl,hH,hy,q⟩:=h
 cases rx
 have BR:=rv.zero
 subst BR
 obtain⟨z,its,n,r,hl,e⟩:=I.yS hH
 obtain⟨u,hu,ru⟩:=r.get hy
 have Gm:its.toArray[its.toArray.size-1]?=some u:=by
  show its.toArray[its.length-1]?=some u
  rw[<-Array.getElem?_toList,<- hl]
  exact hu
 refine call_meets F.slot_list_pop ⟨_,e,rfl⟩ F.entry_list_pop (F.args_list_pop_1 _) (MeetsSeq.list_pop_last l its.toArray n u Gm (by rw[du];omega)) ⟨e,?_⟩
 refine⟨y,_,I.Sn (its':=its.dropLast) hH e ?_ r.dropLast ?_,ru,q⟩
 ·show its.toArray.eraseIdxIfInBounds (its.toArray.size-1)=its.dropLast.toArray
  rw[du,List.eraseIdxIfInBounds_toArray,b04]
 ·rw[List.length_dropLast]
  omega
noncomputable def db9:R2:=λx y H Q=>∃l b xs zs,x=.ref l/\y=.ref b/\H l=some (.lst xs)/\H b=some (.lst zs)/\xs.length+zs.length<=sizeLine/\∀p,H p=none->Q (.ref p) (upd H p (.lst (xs++zs)))
theorem Sr:cB X (binaryOp .Add) db9:=by
 intro pins s σ H x y v u Q I rx ry h
 obtain⟨l,b,xs,zs,rfl,rfl,hH,hB,hz,q⟩:=h
 cases rx
 cases ry
 obtain⟨z,its,n,r,hl,e⟩:=I.yS hH
 obtain⟨z2,Ss,n2,r2,ur,e2⟩:=I.yS hB
 refine PySem.P.add_list e e2 ?_ (by rw[du,du];omega)
 have ea:its.toArray++Ss.toArray=(its++Ss).toArray:=by simp
 rw[ea]
 exact⟨.ref _,_,I.So (t':=s.toks) (r.append r2) (by rw[eG];omega),rfl,q _ I.fresh⟩
noncomputable def c94:R2:=λx y H Q=>∃l k xs,x=.ref l/\y=.int k/\H l=some (.lst xs)/\-(2 ^ 63)<=k/\k<2 ^ 63/\xs.length*k.toNat<=sizeLine /\
 ∀p,H p=none->Q (.ref p) (upd H p (.lst (aV k.toNat xs).flatten))
theorem cF2{α:Type}(xs:List α)(k:Nat):(aV k xs).flatten.length=k*xs.length:=by
 induction k with
 | zero=>simp
 | succ k ih=>rw[qw,tX,eG,ih,Nat.succ_mul,Ba]
theorem cP7:cB X (binaryOp .Mult) c94:=by
 intro pins s σ H x y v u Q I rx ry h
 obtain⟨l,k,xs,rfl,rfl,hH,h1,h2,hz,q⟩:=h
 cases rx
 obtain⟨t,rfl⟩:=ry
 obtain⟨z,its,n,r,hl,e⟩:=I.yS hH
 have hlen:its.toArray.size*k.toNat<=sizeLine:=by rw[du,<- hl];exact hz
 have dB1:¬ its.toArray.size*k.toNat>(2 ^ 63-1)/8:=by
  have:(sizeLine:Nat)<=(2 ^ 63-1)/8:=by decide
  omega
 have dB2:¬ (!Builtin.List.listFitsIndex k)=true:=by
  rw[fitsIndex_both h1 h2]
  exact eF
 have dB3:¬ Q2 (its.toArray.size*k.toNat)=true:=by
  rw[cm9 hlen]
  exact eF
 have dB4:List.foldl (λx1 x2=>x1++x2) #[] (aV (if its.toArray.isEmpty=true then 0 else k.toNat) its.toArray)=(aV k.toNat its).flatten.toArray:=by
  have f0:∀m:Nat,List.foldl (λx1 x2=>x1++x2) #[] (aV m its.toArray)=(aV m its).flatten.toArray:=λm=>by
   have:=Sm its m []
   rw[mC]at this
   exact this
  rw[f0]
  cases its with
  | nil=>simp
  | cons a r'=>rw[if_neg (by simp)]
 refine wpAny_binaryOp_repeat_ref (T:="list") (U:="int") (by decide) ⟨_,e,rfl⟩ (λs'=>typeIs_int s' k t) noFill_list_mul F.fills_int_mul F.slot_int_rmul repeat_list F.slot_int_index.lookup
  (call_meets F.slot_int_rmul (typeIs_int s k t) F.entry_int_rmul (F.args_int_rmul_2 _ _) (int___rmul___int_list k t l its.toArray n)
   ⟨e,rfl,⟨_,e,rfl⟩,call_meets F.slot_list_mul ⟨_,e,rfl⟩ F.entry_list_mul (F.args_list_mul_2 _ _) (AutoListH.list___mul___list_int_3 l its.toArray n k t dB2 dB1 dB3) ⟨e,?_⟩⟩)
 rw[dB4]
 exact⟨.ref _,_,I.So (t':=s.toks) (r.rep k.toNat) (by rw[cF2,mD];exact hz),rfl,q _ I.fresh⟩
end
section
variable{prog:Program}{w:World}{A:Around}{E:Value->Shared->Prop}{s:Shared}
end
section
variable{X:Cx}
end
end L2
namespace Att
open PySem PySem.W PySem.Calls PyProof.Rows
theorem bC0{P:Params}{h:Heap}:∀(ns:List Int) (vs:List Value),WellAll P h vs (ns.map WData.int)->IntsAre vs ns:=by
 intro ns
 induction ns with
 | nil =>
  intro vs w
  rw[kU]at w
  cases w
  exact .nil
 | cons n ns ih =>
  intro vs w
  rw[dP]at w
  cases w with
  | cons a b =>
   cases a
   exact .cons _ _ (ih _ b)
theorem ce5{l:OpenLaw}{n:Nat}(hn:l.most=some n){P:Params}{h:Heap}{args:List WData}{vals:List Value}
  (BS:l.row.toRowW.claim.pre args=true) (Gp:WellAll P h vals args) :
  ∃a vs ns,vals=[fw a]/\args=[WData.list (ns.map WData.int)]/\h.get? a=some { cls:=.type "list",data:=.seq vs.toArray }/\IntsAre vs ns/\ns.length<=n:=by
 have yT:WShape.hasAll [] args [.list .int]=true:=(pre_splitW BS).1
 have hc:l.pre.holds [] { args:=args }=true:=(pre_splitW BS).2
 obtain⟨d,r,rfl,h1,h2⟩:=hasAllW_cons yT
 obtain rfl:=hasAllW_nil h2
 obtain⟨xs,rfl,h3⟩:=hasW_list h1
 obtain⟨ns,rfl⟩:=items_int h3
 have hlen:ns.length<=n:=by
  unfold OpenLaw.pre at hc
  have h4:(WTm.not (.lt (.lit (.int (n:Int))) (.len (.arg 0)))).holds [] { args:=[.list (ns.map .int)] }=true:=by
   have h4:=(holds_andW hc).1
   rw[hn]at h4
   exact h4
  have h5:=condW_of h4 (w_not (w_lt w_lit (w_len_list (w_arg rfl))))
  rw[bE]at h5
  refine Nat.le_of_not_lt λq=>?_
  have q':(n:Int)<((ns.length:Nat):Int):=by omega
  first
   | (rw[decide_eq_true q']at h5;exact absurd h5 (by decide))
   | (simp at h5;omega)
 cases Gp with
 | cons w1 w2 =>
  cases w2
  cases w1 with
  | list ho dB7=>exact⟨_,_,ns,rfl,rfl,ho,bC0 ns _ dB7,hlen⟩
theorem ce2(l:OpenLaw)(args:List WData):l.row.toRowW.claim.post args (.bool true) args=true :=
 postW_of (r:=l.row.toRowW) (X:=(true==true))
  (show WShape.has [] (.bool true) .bool=true by first | rfl | decide | simp[WShape.has,WShape.arms,WShape.armsAll])
  (show(WTm.eq .res (.lit (.bool true))).value [] { args:=args,res:=some (.bool true),after:=args }=some (.bool (true==true)) from w_eq_bool (w_res rfl) w_lit) rfl
theorem dB9{l:OpenLaw}{n:Nat}{q:Program}{loose:List Str}{XP:(Str->Option Value)->Heap->Prop}{YP:World->Heap->Prop}{d:DefRec}
  (hn:l.most=some n) (yU:d.params.defaults=[])
  (call:∀(w:World) (cK bF:Shared) (mg mb:Str->Option Value) (fa:Addr) (o:Obj) (pm cd doc:Value) (a:Addr) (vs:List Value) (ns:List Int),
   Ground q loose [] XP w cK mg mb bF.heap->YP w bF.heap ->
   bF.heap.get? fa=some o->o.data=.func (docDef d.name d.params d.body d.scope pm cd doc)->bF.heap.CodeRec cd d.name->mg d.name=some (.ref fa) ->
   bF.heap.get? a=some { cls:=.type "list",data:=.seq vs.toArray }->IntsAre vs ns->ns.length<=n->bF.gens=#[] ->
   codeAny (model l.prog w) callerA (.call (.ref fa) ⟨[.ref a],[]⟩) (λr s'=>r=.ok (.ret (.bool true))/\OldK bF.heap s'.heap/\s'.os=bF.os/\AllBare s'.gens) bF) :
  WalkO q loose XP YP l.row.toRowW d [] (λf vs=>PySem.call f vs):=by
 intro w cK bF mg mb G Y fa o pm cd doc dV kV ho hd cN hD yV hg args vals as BS fy7 hrd Gp cZ
 obtain rfl:dV=.none:=Dflts.none hD yU
 obtain rfl:kV=.none:=Dflts.noKw hD
 obtain⟨a,vs,ns,rfl,rfl,Gq,hints,hlen⟩:=ce5 hn BS Gp
 refine enter_call (codeAny_mono (call w cK bF mg mb fa o pm cd doc a vs ns G Y ho (fd_plain hd) cN yV Gq hints hlen hg) λr s' hq=>?_)
 obtain⟨rfl,h2,h3,h4⟩:=hq
 exact⟨.inl ⟨.bool true,.bool true,[],rfl,λ_=>rfl,.bool true,ce2 l _,λ_=>⟨List.Pairwise.nil,λ_ hm=>(nomatch hm)⟩⟩,h2,h3,h4⟩
section
variable{prog:Program}{w:World}{A:Around}{E:Value->Shared->Prop}{s:Shared}{K:Frag}
end
end Att
namespace L2
open PySem PySem.Spec PyProof.Rows
theorem Su:∀{vs:List Value} {ns:List Int},IntsAre vs ns->Vals (ns.map V.int) vs
 | _,_,.nil=>.nil
 | _,_,.cons n t h=>.cons ⟨t,rfl⟩ (Su h)
end L2
namespace L2
open PySem PySem.Spec PyProof.Rows
end L2
/- THE fz0 fz1 (shape;LID,My.* are fz3):
   My.km: a structure of Sv addresses fz4 fz5 fz6 names (classes,fz7);My.Txt K t: a structure (Prop) of Sv equations over K;
   My.fz8:{K} {implicit addresses ..} (e1:nsIn K mainGlobals "law"=some (some (.ref f))) (e2:K.lookup f=some ⟨oc,od,.func (fnOf "law" "law" params body scope dV kV doc pm an aE ct),sl⟩) (e3:codeIn K aE "law"=true) ..:∃t,My.Txt K t
(Sv tactic k_is has no namespace: write k_is) -/
namespace L2
open PySem PySem.Spec PyProof.Rows
noncomputable def gH(s:Stmt)(j:Nat):Stmt:=match s with
 | .ClassDef _ _ _ body _ _ _ _ _ _ _=>body.getD j (.Pass ⟨0,0,0,0⟩)
 | _=>.Pass ⟨0,0,0,0⟩
noncomputable def bf(s:Stmt):Arguments:=match s with
 | .FunctionDef _ a _ _ _ _ _ _ _ _=>a
 | _=>{ posonlyargs:=[],args:=[],vararg:=none,kwonlyargs:=[],kw_defaults:=[],kwarg:=none,defaults:=[] }
noncomputable def aW(s:Stmt):List Stmt:=match s with
 | .FunctionDef _ _ b _ _ _ _ _ _ _=>b
 | _=>[]
noncomputable def av(s:Stmt):Scope:=match s with
 | .FunctionDef _ _ _ _ _ _ sc _ _ _=>sc
 | _=>{ kind:=.function,names:=[],isGenerator:=false,isCoroutine:=false }
noncomputable abbrev aT:eY:=λ_ _ _ _ _ _=>False
noncomputable abbrev E0:XK:=λ_ _ _=>False
theorem aR{X:Cx}:lH aT X E0:=λ_ _ _ _ _ _ _ h=>h.elim
structure aY(K:PySem.W.Frag)(x qual:Str)(st:Stmt)(f:Addr)(fd:FuncData):Prop where
 ex:∃(oc:Value) (od:Option Addr) (kV doc pm:Value) (an:Option Addr) (aE ct:Value) (lJ:Array (Option Value)),
  fd=PySem.W.fnOf x qual (bf st) (aW st) (av st) .none kV doc pm an aE ct/\K.lookup f=some ⟨oc,od,.func fd,lJ⟩/\PySem.W.codeIn K aE qual=true
 kp:PySem.W.keepIn K (.ref f)=true
section
variable{P:Program}{w:World}{K:PySem.W.Frag}{mg:Str->Option Value}{base:Heap}
theorem aY.ok{x qual:Str}{st:Stmt}{f:Addr}{fd:FuncData}{N ps:List Str}{k:Nat}{sp:Sp}(F:aY K x qual st f fd)(S:bc N ps (av st))(len:∀vs H Q E,sp vs H Q E->vs.length=ps.length)
  (ir:∀(aE:Value) (A:Around) (outer:List Env) (s:Shared) (H:Hp) (vs:List V) (Q:VK) (E:XK),cC k (A.deeper (envOfC qual (av st) s.heap.objs.size f aE))->sp vs H Q E ->
   ∃t,PSs (iP aT P w K mg base N qual (av st) f aE A outer s H E).gF (aW st) t/\t { nx:=λ_ H'=>Q .ax H',rt:=Q } (start N vs) H):aM P w K mg base aT (k+1) f fd ps sp:=by
 obtain⟨oc,od,kV,doc,pm,an,aE,ct,lJ,rfl,lk,cN⟩:=F.ex
 refine Ga lk cN S len λA outer s H vs Q E hr iQ=>?_
 obtain⟨t,h,q⟩:=ir aE A outer s H vs Q E hr iQ
 exact⟨t,h.gF,q⟩
theorem aY.binds{x qual:Str}{st:Stmt}{f:Addr}{fd:FuncData}{ps:List Str}(F:aY K x qual st f fd)
  (h:∀(kV doc pm:Value) (an:Option Addr) (aE ct:Value) (us:List Value),us.length=ps.length->bindArgs (PySem.W.fnOf x qual (bf st) (aW st) (av st) .none kV doc pm an aE ct) ⟨us,[]⟩=pure (ps.zip us)):Binds K fd ps []:=by
 obtain⟨oc,od,kV,doc,pm,an,aE,ct,lJ,rfl,lk,cN⟩:=F.ex
 exact .all (h kV doc pm an aE ct)
theorem bu{x qual:Str}{st:Stmt}{f:Addr}{oc:Value}{od an:Option Addr}{lJ:Array (Option Value)}{kV doc pm aE ct:Value}(l:K.lookup f=some ⟨oc,od,.func (PySem.W.fnOf x qual (bf st) (aW st) (av st) .none kV doc pm an aE ct),lJ⟩)
  (c:PySem.W.codeIn K aE qual=true) (k:PySem.W.keepIn K (.ref f)=true):aY K x qual st f (PySem.W.fnOf x qual (bf st) (aW st) (av st) .none kV doc pm an aE ct):=⟨⟨oc,od,kV,doc,pm,an,aE,ct,lJ,rfl,l,c⟩,k⟩
end
section
variable{X:Cx}
theorem pv(i:Nat){x:Str}{pos:Pos}(hN:X.N[i]?=some x:=by rfl)(hv:lh X.env.scope x:=by first | exact ah rfl | exact bw (ah rfl) | exact bw (bw rfl))(hd:(x==("__debug__":Str))=false:=by decide)
  (cN:(x==("__classdict__":Str))=false:=by decide):PE X (.Name x pos) (RJ i):=qM hN hv hd cN
end
theorem lL{A B:Prop}(h:B):if false=true then A else B:=by
 rw[if_neg eF]
 exact h
theorem oB{A B:Prop}(h:A):if true=true then A else B:=by
 rw[if_pos rfl]
 exact h
end L2
namespace Mf
noncomputable def bl(n:Nat):Nat:=if n=0 then 0 else n.log2+1
theorem eO{n m:Nat}:bl n<=m↔n<2 ^ m:=by
 unfold bl
 by_cases h:n=0
 ·simp[h,x4]
 ·rw[if_neg h]
  rw[<-Q3 h]
  omega
theorem Gr{n m:Nat}:m<bl n↔2 ^ m<=n:=by
 have:=@eO n m
 omega
theorem iT(n:Nat):n<2 ^ bl n:=eO.mp (bI _)
theorem Sw{n:Nat}(h:n≠0):2 ^ (bl n-1)<=n:=by
 have:0<bl n:=by unfold bl;rw[if_neg h];omega
 exact Gr.mp (by omega)
theorem gW{n:Nat}(h:n≠0):0<bl n:=by
 unfold bl;rw[if_neg h];omega
theorem mU:bl 0=0:=rfl
theorem uu{n:Nat}(h:n≠0):n.testBit (bl n-1)=true:=by
 have h1:=Sw h
 have h2:=iT n
 have hp:=gW h
 have e:bl n=(bl n-1)+1:=by omega
 rw[e,qA]at h2
 rw[dh9]
 have:n/2 ^ (bl n-1)=1:=by
  apply Nat.div_eq_of_lt_le
  ·omega
  ·omega
 rw[this];rfl
theorem b70{x n:Nat}(h:∀i,n<=i->x.testBit i=false):x<2 ^ n:=by
 apply Nat.lt_pow_two_of_testBit
 intro i hi
 exact h i hi
theorem Sx{x y n:Nat}(hx:x<2 ^ (n+1))(hy:y<2 ^ (n+1))(tx:x.testBit n=true)(ty:y.testBit n=true):x ^^^ y<2 ^ n:=by
 apply b70
 intro i hi
 rw[mE]
 by_cases e:i=n
 ·rw[e,tx,ty];rfl
 ·have fQ:n+1<=i:=by omega
  have p:2 ^ (n+1)<=2 ^ i:=Bb (by decide) fQ
  rw[E8 (cT hx p),E8 (cT hy p)]
  rfl
theorem Sy(x y z:Nat):(x ^^^ y) ^^^ (z ^^^ y)=x ^^^ z:=by
 apply Bc;intro i;simp only[mE]
 cases x.testBit i<;>cases y.testBit i<;>cases z.testBit i<;>rfl
theorem Sz(x y z t:Nat):(x ^^^ y) ^^^ (z ^^^ t)=(x ^^^ z) ^^^ (y ^^^ t):=by
 apply Bc;intro i;simp only[mE]
 cases x.testBit i<;>cases y.testBit i<;>cases z.testBit i<;>cases t.testBit i<;>rfl
noncomputable def P(a b:Nat):Nat->Nat
 | 0=>0
 | k+1=>P a b k ^^^ (if b.testBit k then a <<< k else 0)
noncomputable def cl(a b:Nat):Nat:=P a b (bl b)
theorem SA{a b k:Nat}(h:b<2 ^ k):∀j,P a b (k+j)=P a b k
 | 0=>rfl
 | j+1=>by
  show P a b (k+j) ^^^ (if b.testBit (k+j)then a <<< (k+j)else 0)=_
  rw[SA h j]
  have p:2 ^ k<=2 ^ (k+j):=Bb (by decide) (by omega)
  rw[E8 (cT h p)]
  simp
theorem uv{a b k:Nat}(h:b<2 ^ k):P a b k=cl a b:=by
 have h1:=eO.mpr h
 have e:k=bl b+(k-bl b):=by omega
 rw[e,SA (iT b)]
 rfl
theorem SD(a a' b:Nat):∀k,P (a ^^^ a') b k=P a b k ^^^ P a' b k
 | 0=>(kW 0).symm
 | k+1=>by
  show P (a ^^^ a') b k ^^^ _=(P a b k ^^^ _) ^^^ (P a' b k ^^^ _)
  rw[SD a a' b k]
  by_cases t:b.testBit k=true
  ·rw[if_pos t,if_pos t,if_pos t,di0]
   ac_rfl
  ·rw[if_neg t,if_neg t,if_neg t]
   simp
theorem SE(a b b':Nat):∀k,P a (b ^^^ b') k=P a b k ^^^ P a b' k
 | 0=>(kW 0).symm
 | k+1=>by
  show P a (b ^^^ b') k ^^^ _=(P a b k ^^^ _) ^^^ (P a b' k ^^^ _)
  rw[SE a b b' k,mE]
  cases b.testBit k<;>cases b'.testBit k<;>simp
  ·ac_rfl
  ·ac_rfl
  ·exact(Sy _ _ _).symm
theorem oE(a a' b:Nat):cl (a ^^^ a') b=cl a b ^^^ cl a' b:=SD a a' b _
theorem uw{x y n:Nat}(hx:x<2 ^ n)(hy:y<2 ^ n):x ^^^ y<2 ^ n:=Nat.xor_lt_two_pow hx hy
theorem bL9(a b b':Nat):cl a (b ^^^ b')=cl a b ^^^ cl a b':=by
 let k:=bl b+bl b'
 have h1:b<2 ^ k:=eO.mp (by omega)
 have h2:b'<2 ^ k:=eO.mp (by omega)
 rw[<-uv (uw h1 h2),<- uv h1,<- uv h2,SE]
theorem cD0(a:Nat):cl a 0=0:=rfl
theorem SF(b:Nat):∀k,P 0 b k=0
 | 0=>rfl
 | k+1=>by
  show P 0 b k ^^^ _=0
  rw[SF b k];simp
theorem oF(b:Nat):cl 0 b=0:=SF b _
theorem bN9(b k:Nat):(b/2).testBit k=b.testBit (k+1):=by
 rw[E9]
theorem SG(a b:Nat):∀k,P a b (k+1)=(if b%2=1 then a else 0) ^^^ P (2*a) (b/2) k
 | 0=>by
  show 0 ^^^ _=_ ^^^ 0
  rw[oa,kW,Bd]
  simp
 | k+1=>by
  show P a b (k+1) ^^^ _=_ ^^^ (P (2*a) (b/2) k ^^^ _)
  rw[SG a b k,bN9,qB]
  have e:a <<< (k+1)=(2*a) <<< k:=by
   rw[jV,jV,qA]
   rw[mD 2 a,tY,mD 2]
  rw[e]
theorem SH{b k:Nat}(h:b<2 ^ (k+1)):b/2<2 ^ k:=by
 rw[qA]at h;omega
theorem SI(a b:Nat):cl a b=(if b%2=1 then a else 0) ^^^ cl (2*a) (b/2):=by
 have h:b<2 ^ (bl b+1):=Q4 (iT b) (by rw[qA];have:=x4 (bl b);omega)
 rw[<-uv h,SG,uv (SH h)]
theorem SJ(a b:Nat):∀k,P (2*a) b k=2*P a b k
 | 0=>rfl
 | k+1=>by
  show P (2*a) b k ^^^ _=2*(P a b k ^^^ _)
  rw[SJ a b k]
  have d:∀x y:Nat,2*(x ^^^ y)=2*x ^^^ 2*y:=by
   intro x y
   have h:=@di0 1 x y
   rw[jV,jV,jV,Nat.pow_one]at h
   rw[mD 2 (x ^^^ y),mD 2 x,mD 2 y]
   exact h
  rw[d]
  by_cases t:b.testBit k=true
  ·rw[if_pos t,if_pos t,jV,jV,tY]
  ·rw[if_neg t,if_neg t]
theorem Gs(a b:Nat):cl (2*a) b=2*cl a b:=SJ a b _
theorem yW(a c t:Nat)(ht:t<2):cl a (2*c+t)=2*cl a c ^^^ (if t=1 then a else 0):=by
 rw[SI,Gs,Q5]
 have e1:(2*c+t)/2=c:=by omega
 have e2:(2*c+t)%2=t:=by omega
 rw[e1,e2]
theorem cU9(a c:Nat):cl a (2*c)=2*cl a c:=by
 have h:=yW a c 0 (by decide)
 simpa using h
theorem SK(c t:Nat)(ht:t<2):2*c ^^^ t=2*c+t:=by
 apply Bc
 intro i
 cases i with
 | zero =>
  rw[mE,Bd,Bd,Bd]
  have:t=0\/t=1:=by omega
  rcases this with h | h<;>subst h<;>simp<;>omega
 | succ i =>
  rw[mE,E9,E9,E9]
  have e1:2*c/2=c:=by omega
  have e2:t/2=0:=by omega
  have e3:(2*c+t)/2=c:=by omega
  rw[e1,e2,e3];simp
theorem Gu:∀b:Nat,cl 1 b=b:=by
 intro b
 induction b using Fb with
 | ind b ih =>
  by_cases h:b=0
  ·subst h;rfl
  ·have e:b=2*(b/2)+b%2:=by omega
   rw[e,yW 1 (b/2) (b%2) (by omega),ih (b/2) (by omega)]
   have:b%2=0\/b%2=1:=by omega
   rcases this with h | h
   ·rw[h];simp
   ·rw[h];rw[if_pos rfl];exact SK _ _ (by decide)
theorem yX:∀b a:Nat,cl a b=cl b a:=by
 intro b
 induction b using Fb with
 | ind b ih =>
  intro a
  by_cases h:b=0
  ·subst h;rw[oF];rfl
  ·have e:b=2*(b/2)+b%2:=by omega
   have lt:b%2<2:=by omega
   have e':cl b a=cl (2*(b/2) ^^^ b%2) a:=by rw[SK _ _ lt,<- e]
   rw[e',oE,Gs,<- ih (b/2) (by omega) a]
   have e'':cl a b=cl a (2*(b/2)+b%2):=by rw[<-e]
   rw[e'',yW _ _ _ lt]
   have:b%2=0\/b%2=1:=by omega
   rcases this with h | h
   ·rw[h,oF];rfl
   ·rw[h,Gu];rfl
theorem Gv{a m:Nat}(h:a<2 ^ m)(b:Nat):∀k,P a b (k+1)<2 ^ (m+k)
 | 0=>by
  show 0 ^^^ _<_
  rw[oa,Nat.add_zero]
  by_cases t:b.testBit 0=true
  ·rw[if_pos t];simpa using h
  ·rw[if_neg t];exact x4 m
 | k+1=>by
  show P a b (k+1) ^^^ _<_
  have i:=Gv h b k
  have p:2 ^ (m+k)<=2 ^ (m+(k+1)):=Bb (by decide) (by omega)
  apply uw (cT i p)
  by_cases t:b.testBit (k+1)=true
  ·rw[if_pos t,jV,Nat.pow_add 2 m]
   exact(di1 (x4 _)).mpr h
  ·rw[if_neg t];exact x4 _
theorem cY1{a b m n:Nat}(h:a<2 ^ m)(h':b<2 ^ (n+1)):cl a b<2 ^ (m+n):=by
 rw[<-uv h'];exact Gv h b n
theorem cY9{a b:Nat}(ha:a≠0)(hb:b≠0):2 ^ (bl a-1+(bl b-1))<=cl a b:=by
 have e:bl b=(bl b-1)+1:=by have:=gW hb;omega
 have ta:=uu ha
 have tb:=uu hb
 apply Nat.ge_two_pow_of_testBit
 unfold cl
 rw[e]
 show(P a b (bl b-1) ^^^ _).testBit _=true
 have e2:bl b-1+1-1=bl b-1:=by omega
 rw[e2,mE,if_pos tb]
 have f:(P a b (bl b-1)).testBit (bl a-1+(bl b-1))=false:=by
  cases q:bl b-1 with
  | zero=>show Nat.testBit 0 _=false;exact Nat.zero_testBit _
  | succ k =>
   apply E8
   have l:=Gv (iT a) b k
   have p:=gW ha
   have e3:bl a-1+(k+1)=bl a+k:=by omega
   rw[e3];exact l
 rw[f,di2]
 have e4:bl a-1+(bl b-1)-(bl b-1)=bl a-1:=by omega
 rw[e4,ta]
 simp
theorem SM{a b:Nat}(ha:a≠0)(hb:b≠0):bl (cl a b)=bl a+bl b-1:=by
 have p1:=gW ha
 have p2:=gW hb
 have h1:bl (cl a b)<=bl a+(bl b-1):=eO.mpr (cY1 (iT a) (by
  have e:bl b-1+1=bl b:=by omega
  rw[e];exact iT b))
 have h2:=Gr.mpr (cY9 ha hb)
 omega
theorem SN(s b:Nat):cl (2 ^ s) b=b <<< s:=by
 induction s with
 | zero=>rw[Nat.pow_zero,Gu];rfl
 | succ s ih =>
  rw[qA,mD,Gs,ih,jV,jV,qA]
  rw[<-tY,mD 2,tY,mD 2,<- tY,tY]
theorem cr8{a q b r s:Nat}(h:a=cl q b ^^^ r):a=cl (q ^^^ 2 ^ s) b ^^^ (r ^^^ b <<< s):=by
 rw[oE,SN,h,Sy]
theorem SO{b r:Nat}(hb:b≠0)(h:bl b<=bl r):bl (r ^^^ b <<< (bl r-bl b))<bl r:=by
 have p:=gW hb
 have hr:r≠0:=by
  intro z;rw[z,mU]at h;omega
 have:r ^^^ b <<< (bl r-bl b)<2 ^ (bl r-1):=by
  apply Sx
  ·have e:bl r-1+1=bl r:=by omega
   rw[e];exact iT r
  ·have e:bl r-1+1=bl b+(bl r-bl b):=by omega
   rw[e,jV,Nat.pow_add]
   exact(di1 (x4 _)).mpr (iT b)
  ·exact uu hr
  ·rw[di2]
   have e:bl r-1-(bl r-bl b)=bl b-1:=by omega
   rw[e,uu hb]
   simp;omega
 have:=eO.mpr this
 omega
theorem bZ7{x y z:Nat}(h:x ^^^ y=z):x=z ^^^ y:=by
 rw[<-h,qB,Be,kW]
theorem Gw{x y:Nat}(h:x ^^^ y=0):x=y:=by
 have:=bZ7 h
 rwa [oa]at this
theorem bZ6{b q r q' r':Nat}(h:cl q b ^^^ r=cl q' b ^^^ r')(hr:bl r<bl b)(cW:bl r'<bl b):q=q'/\r=r':=by
 have hb:b≠0:=by intro z;rw[z,mU]at hr;omega
 have e:cl (q ^^^ q') b=r ^^^ r':=by
  rw[oE]
  have z:(cl q b ^^^ r) ^^^ (cl q' b ^^^ r')=0:=by rw[h,Be]
  rw[Sz]at z
  exact Gw z
 have lt:bl (r ^^^ r')<bl b:=by
  have h1:r<2 ^ (bl b-1):=eO.mp (by omega)
  have h2:r'<2 ^ (bl b-1):=eO.mp (by omega)
  have:=eO.mpr (uw h1 h2)
  have:=gW hb
  omega
 have z:q ^^^ q'=0:=by
  apply di3
  intro hq
  have h1:=SM hq hb
  have h2:=gW hq
  rw[e]at h1
  omega
 have zq:=Gw z
 subst zq
 rw[z,oF]at e
 exact⟨rfl,Gw e.symm⟩
end Mf
namespace Mf
open PySem PySem.Builtin.Int
theorem cD8(x y:Nat):(x ^^^ y)+2*(x &&& y)=x+y:=by
 induction x using Fb generalizing y with
 | ind x ih =>
  by_cases h:x=0
  ·subst h;simp
  ·have h1:=ih (x/2) (by omega) (y/2)
   have e1:(x ^^^ y)/2=x/2 ^^^ y/2:=Nat.xor_div_two
   have e2:(x &&& y)/2=x/2 &&& y/2:=Nat.and_div_two
   have t:∀n:Nat,n%2=if n.testBit 0=true then 1 else 0:=by
    intro n
    rw[Bd]
    by_cases h:n%2=1
    ·simp[h]
    ·simp[h];omega
   have m1:(x ^^^ y)%2=(x%2+y%2)%2:=by
    rw[t (x ^^^ y),t x,t y,mE]
    cases x.testBit 0<;>cases y.testBit 0<;>rfl
   have m2:(x &&& y)%2=x%2*(y%2):=by
    rw[t (x &&& y),t x,t y,Q6]
    cases x.testBit 0<;>cases y.testBit 0<;>rfl
   have d1:=Nat.div_add_mod (x ^^^ y) 2
   have d2:=Nat.div_add_mod (x &&& y) 2
   rw[e1]at d1
   rw[e2]at d2
   have hx:x%2=0\/x%2=1:=by omega
   have hy:y%2=0\/y%2=1:=by omega
   rcases hx with hx | hx<;>rcases hy with hy | hy<;>rw[hx,hy]at m1 m2<;>omega
theorem SQ{x y:Int}(hx:0<=x)(hy:0<=y):nZ x y=((x.toNat &&& y.toNat:Nat):Int):=by
 unfold nZ
 rw[decide_eq_true hx,decide_eq_true hy]
theorem cq8{x y:Int}(hx:0<=x)(hy:0<=y):Builtin.bitOr x y=((x.toNat ||| y.toNat:Nat):Int):=by
 unfold Builtin.bitOr nZ Builtin.bitNot
 rw[decide_eq_false (by omega),decide_eq_false (by omega)]
 show-(-((((- (-x-1)-1).toNat ||| (-(-y-1)-1).toNat:Nat):Int))-1)-1=_
 have e1:(- (-x-1)-1).toNat=x.toNat:=by omega
 have e2:(- (-y-1)-1).toNat=y.toNat:=by omega
 rw[e1,e2]
 omega
theorem cQ7(x y:Nat):(x ||| y)=(x ^^^ y)+(x &&& y):=by
 have d:(x ^^^ y) &&& (x &&& y)=0:=by
  apply Bc;intro i
  simp only[mE,Q6,Nat.zero_testBit]
  cases x.testBit i<;>cases y.testBit i<;>rfl
 have e:(x ||| y)=(x ^^^ y) ^^^ (x &&& y):=by
  apply Bc;intro i
  simp only[mE,Q6,Nat.testBit_or]
  cases x.testBit i<;>cases y.testBit i<;>rfl
 have h:=cD8 (x ^^^ y) (x &&& y)
 rw[d]at h
 rw[e];omega
theorem cj1{x y:Int}(hx:0<=x)(hy:0<=y):n8 x y=((x.toNat ^^^ y.toNat:Nat):Int):=by
 unfold n8
 rw[cq8 hx hy,SQ hx hy,cQ7]
 omega
theorem kq(x y:Nat):n8 (x:Int) (y:Int)=((x ^^^ y:Nat):Int):=by
 rw[cj1 (by omega) (by omega)];rfl
theorem SR(x y:Nat):nZ (x:Int) (y:Int)=((x &&& y:Nat):Int):=by
 rw[SQ (by omega) (by omega)];rfl
theorem uz(x k:Nat):(x:Int)*2 ^ ((k:Int)).toNat=((x <<< k:Nat):Int):=by
 rw[jV]
 simp
theorem cD9(x k:Nat):(x:Int)/2 ^ ((k:Int)).toNat=((x >>> k:Nat):Int):=by
 rw[di4]
 simp
theorem cJ3(x k:Nat):((x >>> k) &&& 1=1)↔x.testBit k=true:=by
 rw[dh9,di4]
 have:(x/2 ^ k) &&& 1=(x/2 ^ k)%2:=Nat.and_two_pow_sub_one_eq_mod _ 1
 rw[this]
 simp
end Mf
namespace Mf
end Mf
namespace Mf
theorem SS(a b:Nat):∀c,cl (cl a b) c=cl a (cl b c):=by
 intro c
 induction c using Fb with
 | ind c ih =>
  by_cases h:c=0
  ·subst h;rfl
  ·have e:c=2*(c/2)+c%2:=by omega
   have lt:c%2<2:=by omega
   have i:=ih (c/2) (by omega)
   rw[e,yW _ _ _ lt,yW _ _ _ lt,i,bL9,cU9]
   have:c%2=0\/c%2=1:=by omega
   rcases this with h | h
   ·rw[h];rfl
   ·rw[h];rfl
noncomputable def uA:Nat->Nat->Nat->Nat
 | 0,a,_=>a
 | n+1,a,b=>if bl a<bl b then a else uA n (a ^^^ b <<< (bl a-bl b)) b
noncomputable def md(a b:Nat):Nat:=uA (bl a+1) a b
theorem SU{b:Nat}(hb:b≠0):∀n a,bl a<n->(∃q,a=cl q b ^^^ uA n a b)/\bl (uA n a b)<bl b
 | 0,_,h=>absurd h (by omega)
 | n+1,a,h=>by
  unfold uA
  by_cases l:bl a<bl b
  ·rw[if_pos l]
   exact⟨⟨0,by rw[oF,oa]⟩,l⟩
  ·rw[if_neg l]
   have less:=SO hb (show bl b<=bl a by omega)
   obtain⟨⟨q,e⟩,l2⟩:=SU hb n (a ^^^ b <<< (bl a-bl b)) (by omega)
   refine⟨⟨q ^^^ 2 ^ (bl a-bl b),?_⟩,l2⟩
   rw[oE,SN]
   have e2:a=(a ^^^ b <<< (bl a-bl b)) ^^^ b <<< (bl a-bl b):=by rw[qB,Be,kW]
   rw[e]at e2
   refine e2.trans ?_
   generalize uA n _ b=r
   rw[qB,Q5 r,<- qB]
theorem yY{b:Nat}(hb:b≠0)(a:Nat):(∃q,a=cl q b ^^^ md a b)/\bl (md a b)<bl b:=SU hb _ a (by omega)
theorem yZ{a b q r:Nat}(h:a=cl q b ^^^ r)(hr:bl r<bl b):md a b=r:=by
 have hb:b≠0:=by intro z;rw[z,mU]at hr;omega
 obtain⟨⟨q',e⟩,l⟩:=yY hb a
 exact(bZ6 (e.symm.trans h) l hr).2
theorem c79(q:Nat){b:Nat}(hb:b≠0):md (cl q b) b=0 :=
 yZ (q:=q) (by rw[kW]) (by rw[mU];exact gW hb)
end Mf
namespace Mf
theorem cF7(y:Nat):bl (y/2)=bl y-1:=by
 by_cases h:y=0
 ·subst h;rfl
 ·have p:=gW h
  have h1:bl (y/2)<=bl y-1:=eO.mpr (SH (by
   have e:bl y-1+1=bl y:=by omega
   rw[e];exact iT y))
  have h2:bl y<=bl (y/2)+1:=eO.mpr (by
   have:=iT (y/2)
   rw[qA];omega)
  omega
theorem cO0(x:Nat):bl (2*x)<=bl x+1:=eO.mpr (by
 have:=iT x
 rw[qA];omega)
theorem Gx{x y:Nat}(h:x<=y):bl x<=bl y:=eO.mpr (mF h (iT y))
end Mf
namespace Mf
noncomputable def al(a:Nat):Bool:=decide (2<=a)&&(aS (2 ^ ((bl a-1)/2+1)-2)).all λi=>md a (2+i) != 0
theorem cs1{a:Nat}(h:a<2):al a=false:=by
 unfold al;rw[decide_eq_false (by omega)];rfl
theorem cH8{a:Nat}(h:2<=a)(k:∀i,i<2 ^ ((bl a-1)/2+1)-2->md a (2+i)≠0):al a=true:=by
 unfold al
 rw[decide_eq_true h,mG,cU]
 intro i hi
 have:=k i (dA.mp hi)
 simpa using this
theorem cu6{a i:Nat}(k:i<2 ^ ((bl a-1)/2+1)-2)(z:md a (2+i)=0):al a=false:=by
 unfold al
 rw[Bool.and_eq_false_iff]
 right
 rw[List.all_eq_false]
 exact⟨i,dA.mpr k,by simp[z]⟩
theorem cu4{a:Nat}(h:2<=a){b:Nat}(hb:b<2 ^ ((bl a-1)/2+1)):b<a/\2*bl b<=bl a+1:=by
 have h2:2<=bl a:=by
  have:=Gr.mpr (show 2 ^ 1<=a by omega)
  omega
 have l:=eO.mpr hb
 refine⟨cT hb (eM (Bb (by decide) ?_) (Sw (by omega))),by omega⟩
 omega
end Mf
namespace L2
open PySem PySem.Spec PyProof.Rows Mf
theorem da:bootBuiltins "len"=some (.builtin "len"):=by decide +kernel
theorem bI9:bootBuiltins "isinstance"=some (.builtin "isinstance"):=by decide +kernel
theorem cR5:bootBuiltins "max"=some (.builtin "max"):=by decide +kernel
theorem Gy:bootBuiltins "min"=some (.builtin "min"):=by decide +kernel
theorem Gz:bootBuiltins "all"=some (.builtin "all"):=by decide +kernel
theorem cT2:bootBuiltins "any"=some (.builtin "any"):=by decide +kernel
theorem SV:bootBuiltins "sum"=some (.builtin "sum"):=by decide +kernel
theorem SW:bootBuiltins "int"=some (.type "int"):=by decide +kernel
theorem cM7:bootBuiltins "bool"=some (.type "bool"):=by decide +kernel
theorem y0:bootBuiltins "list"=some (.type "list"):=by decide +kernel
section
variable{X:Cx}{a b o:Expr}{ta tb to:TE}{pos apos bY:Pos}
theorem SX(i:Int):Fc i=bl i.natAbs:=by
 unfold Fc bl
 by_cases h:i=0
 ·subst h;rfl
 ·have h':¬ i.natAbs=0:=by omega
  rw[if_neg h',if_neg (by simpa using h)]
noncomputable def SY:V->List V->Hp->VK->Prop:=λx vs H Q=>∃i,x=.int i/\vs=[]/\Q (.int (bl i.natAbs:Nat)) H
theorem ci3:BQ X "int.bit_length" SY:=by
 intro pins s σ H x xs v us Q I rx rs h
 obtain⟨i,rfl,rfl,q⟩:=h
 obtain⟨t,rfl⟩:=rx
 cases rs
 refine call_int_bit_length ?_
 rw[SX]
 exact⟨.int _,H,I.tok _,⟨_,rfl⟩,q⟩
theorem GA(ho:PE X o to)(ki:attributeBase o "bit_length" X.env (eval o X.env)=eval o X.env:=by rfl)(kj:(apos.endLine==bY.line)=true:=by rfl) :
  PE X (.Call (.Attribute o "bit_length" apos) [] [] bY) (Sj X.K "int" SY to) :=
 Sk PySem.F.plainAttrs_int PySem.F.slot_int_bit_length PySem.F.type_int_bit_length ci3 ho ki kj
noncomputable def S0(i j:Int):Prop:=0<=j/\((bl i.natAbs:Nat):Int)+j<=134217728
theorem S1:cB X (binaryOp .LShift) (rI S0 λi j=>.int (i*2 ^ j.toNat)):=yN λi j _ _ _ _ _ hc q =>
 lshift_int hc.1 (by rw[SX];exact Int.le_trans hc.2 (by decide)) q
theorem cY5{x:Str}{n:String}(hg:Gl X x)(hm:X.mg x=none)(hv:bootBuiltins x=some (.type n))(hn:x≠"__name__":=by decide)(hd:(x==("__debug__":Str))=false:=by decide):PE X (.Name x pos) (tC (.ty n)) :=
 cK1 hg hm hv rfl hn hd
noncomputable def db5(K:PySem.W.Frag):List V->Hp->VK->Prop:=λxs H Q=>∃x n t b,xs=[x,.ty n]/\iq K H x t/\PySem.W.kitOne K t (.type n)=some b/\Q (.bl b) H
theorem bB0:fZ X (.builtin "isinstance") (db5 X.K):=by
 intro pins s σ H xs us Q I r h
 obtain⟨x,n,t,b,rfl,ty,e,q⟩:=h
 obtain⟨u,v,rfl,ru,rv⟩:=r.two
 cases(show v=Value.type n from rv)
 exact b90 I ru ty e λtk=>⟨.bl b,H,I.tok _,rfl,q⟩
end
theorem cI0(b i:Nat):decide (V.int (nZ ((b:Int)/2 ^ ((0:Int)+(i:Int)).toNat) 1)=V.int 1)=b.testBit i:=by
 have e:((0:Int)+(i:Int)).toNat=((i:Int)).toNat:=by omega
 rw[e,cD9,show(1:Int)=((1:Nat):Int) from rfl,SR,tZ,decide_eq_true_iff,<- cJ3]
 constructor
 ·intro h;injection h with h;omega
 ·intro h;rw[h]
theorem cm7{a b i:Nat}(h:b.testBit i=true):n8 ((P a b i:Nat):Int) ((a:Int)*2 ^ ((0:Int)+(i:Int)).toNat)=((P a b (i+1):Nat):Int):=by
 have e:((0:Int)+(i:Int)).toNat=((i:Int)).toNat:=by omega
 rw[e,uz,kq]
 show _=((P a b i ^^^ (if b.testBit i then a <<< i else 0):Nat):Int)
 rw[if_pos h]
theorem b76{a b i:Nat}(h:¬ b.testBit i=true):P a b (i+1)=P a b i:=by
 show P a b i ^^^ (if b.testBit i then a <<< i else 0)=_
 rw[if_neg h,kW]
theorem dI{i j:Int}:decide (V.int i=V.int j)=true↔i=j:=by
 rw[decide_eq_true_iff]
 exact⟨λh=>by injection h,λh=>by rw[h]⟩
end L2
namespace L2
open PySem PySem.Spec PyProof.Rows
section
variable{X:Cx}
end
end L2
namespace L2
open PySem PySem.Spec PyProof.Rows
noncomputable def BU(X:Cx)(scope:Scope)(N:List Str)(cl:List (Str × Addr))(C:Addr)(s:Shared)(H:Hp)(fp:List Addr):Cx where
 prog:=X.prog
 w:=X.w
 K:=X.K
 mg:=X.mg
 base:=X.base
 A:=X.A
 N:=N
 cK:=s
 j8:=H
 env:=compEnvC scope cl C X.env
 outer:=X.stack
 stack:=X.stack
 ex:=fp
 fn:=λ_=>false
 calm:=X.calm
 pn:=[]
 xe:=λ_ _=>False
noncomputable def mV(X:Cx)(scope:Scope)(cl:List (Str × Addr)):List (Str × Nat)->Prop
 | []=>True
 | (y,i)::r=>(X.N[i]?=some y/\(X.env.scope.names.lookup y=some .cell\/X.env.scope.names.lookup y=some .free)/\((relabel scope X.env).names.lookup y=some .cell\/(relabel scope X.env).names.lookup y=some .free)/\∃c,cl.lookup y=some c/\X.env.cells.lookup y=some c)/\mV X scope cl r
theorem mV.at{X:Cx}{scope:Scope}{cl:List (Str × Addr)}:∀{aD:List (Str × Nat)},mV X scope cl aD->∀p∈aD,X.N[p.2]?=some p.1/\(X.env.scope.names.lookup p.1=some .cell\/X.env.scope.names.lookup p.1=some .free)/\((relabel scope X.env).names.lookup p.1=some .cell\/(relabel scope X.env).names.lookup p.1=some .free)/\∃c,cl.lookup p.1=some c/\X.env.cells.lookup p.1=some c
 | [],_,p,hp=>absurd hp (by simp)
 | (y,i)::r,h,p,hp=>by
  rcases bX.mp hp with e | e
  ·subst e;exact h.1
  ·exact mV.at h.2 p e
noncomputable def mW(Y:Cx)(ifs:List Expr)(t:TT):Prop :=
 ∀(pins:List (Addr × Obj)) (s:Shared) (σ:St) (H:Hp) (Q:Bool->Hp->Prop),Inv Y pins σ H s->t σ H Q ->
  wpAny (model Y.prog Y.w) Y.A (forIn ifs true λc r=>if r=true then do let ok<-isTrue c Y.env (eval c Y.env);pure (Fd ok)else pure (Fd r)) (TP Y pins σ Q) Y.xe s
noncomputable def c96:TT:=λ_ H Q=>Q true H
theorem cH4{Y:Cx}:mW Y [] c96:=λ_ _ _ H _ I h=>wpAny_tests_nil ⟨H,I,h⟩
theorem cE9{Y:Cx}{c:Expr}{t:TT}(h:PT Y c t):mW Y [c] t:=λpins s σ H Q I q=>wpAny_tests_one (h pins s σ H Q I q)
section
variable{X:Cx}{elt iter:Expr}{x:Str}{px pos:Pos}{ifs:List Expr}{scope:Scope}{cl:List (Str × Addr)}{aD:List (Str × Nat)}{wi:TI}{tt:TT}{te:TE}
end
section
variable{prog:Program}{w:World}{A:Around}{R:Result->Shared->Prop}{s:Shared}
theorem bL2{elt target iter:Expr}{ifs:List Expr}{scope:Scope}{pos:Pos}{it acc:Value}{env:Env}(Iv:Nat->Shared->Prop)
  (turn:∀n s,Iv n s->wpAny (model prog w) A (pyNext it) (λr s1=>match r with
   | none=>R (.ok .next) s1
   | some v=>wpAny (model prog w) A (letOwnedTupleGo target it v) (λ_ t1=>wpAny (model prog w) A (assign target env v) (λ_ s2 =>
     wpAny (model prog w) A (forIn ifs true λc r=>if r=true then do let ok<-isTrue c env (eval c env);pure (Fd ok)else pure (Fd r)) (λok s3 =>
      if ok=true then wpAny (model prog w) A (eval elt env) (λy s4=>wpAny (model prog w) A (call (.builtin "list.append") [acc,y]) (λ_ s5=>∃m,m<n/\Iv m s5) (λ_ _=>False) s4) (λ_ _=>False) s3
      else ∃m,m<n/\Iv m s3) (λ_ _=>False) s2) (λ_ _=>False) t1) (λ_ _=>False) s1) (λ_ _=>False) s)
  (n:Nat) (h:Iv n s):codeAny (model prog w) A (.compLoop (.ListComp elt [⟨target,iter,ifs,0⟩] scope pos) 0 it acc env) R s:=by
 refine codeAny_loop rfl Iv (λn s hI=>?_) n h
 change wpAny _ A (Sem.onRaise (compTurn (.ListComp elt [⟨target,iter,ifs,0⟩] scope pos) 0 it acc env) λx=>do noteFrame x env;theTreesLotGoes x) _ _ s
 refine wpAny_noted (wpAny_mono (E:=λ_ _=>False) ?_ (λ_ _ q=>q) λ_ _ z=>z.elim)
 rw[compTurn_list]
 refine wpAny_bind (wpAny_standAt (wpAny_bind (aP (turn n s hI) λr s1 h1=>?_)))
 cases r with
 | none=>exact wpAny_pure h1
 | some v =>
  refine wpAny_bind (aP h1 λ_ t1 k1=>wpAny_bind (aP k1 λ_ s2 h2=>wpAny_bind (aP h2 λok s3 h3=>?_)))
  cases ok with
  | false=>exact wpAny_pure ⟨rfl,h3⟩
  | true=>exact wpAny_bind (wpAny_bind (aP h3 λy s4 h4=>wpAny_bind (aP h4 λ_ s5 h5=>wpAny_pure (wpAny_pure ⟨rfl,h5⟩))))
end
section
variable{X:Cx}{elt iter:Expr}{x:Str}{px pos:Pos}{ifs:List Expr}{scope:Scope}{cl:List (Str × Addr)}{aD:List (Str × Nat)}{wi:TI}{tt:TT}{te:TE}
end
end L2
namespace L2
open PySem PySem.Spec PyProof.Rows
section
variable{X:Cx}
theorem S2{bs:List Bool}{us:List Value}(r:Vals (bs.map V.bl) us):bs.length=us.length/\∀(i:Nat) (v:Value),us[i]?=some v->∃b,bs[i]?=some b/\v=.bool b:=by
 have l:=r.length
 rw[bE]at l
 refine⟨l,λi v e=>?_⟩
 have hi:i<us.length:=(iF.mp e).1
 have hb:i<bs.length:=by omega
 obtain⟨u,e2,q⟩:=r.get (i:=i) (x:=V.bl bs[i]) (by rw[cm,aJ hb];rfl)
 rw[e]at e2
 cases e2
 exact⟨bs[i],aJ hb,q⟩
theorem GB{s:Shared}{h':Heap}{o:Obj}(hk:∀b x,b ∉ [s.heap.objs.size]->(s.heap.push o).get? b=some x->h'.get? b=some x)(b:Addr)(x:Obj)(e:s.heap.get? b=some x):h'.get? b=some x :=
 hk b x (λhm=>fA _ (by have:=bS e;rw[iH.mp hm]at this;exact this)) (ff _ e)
theorem cn0(bs:List Bool):((aS bs.length).all λi=>(bs[i]?).getD true)=bs.all id:=by
 rw[tZ,cU,cU]
 constructor
 ·intro h b hb
  obtain⟨i,hi,rfl⟩:=ie hb
  have:=h i (dA.mpr hi)
  rwa [aJ hi]at this
 ·intro h i hi
  have fQ:=dA.mp hi
  rw[aJ fQ]
  exact h _ (dv fQ)
theorem cu5(bs:List Bool):((aS bs.length).any λi=>(bs[i]?).getD false)=bs.any id:=by
 rw[tZ,Bf,Bf]
 constructor
 ·rintro⟨i,hi,h⟩
  have fQ:=dA.mp hi
  rw[aJ fQ]at h
  exact⟨_,dv fQ,h⟩
 ·rintro⟨b,hb,h⟩
  obtain⟨i,hi,rfl⟩:=ie hb
  exact⟨i,dA.mpr hi,by rw[aJ hi];exact h⟩
theorem cq3(hc:X.calm=true):fZ X (.builtin "all") (λxs H Q=>∃(p:Addr) (bs:List Bool),xs=[.ref p]/\bK X.K H p (bs.map V.bl)/\Q (.bl (bs.all id)) H):=by
 intro pins s σ H xs us Q I r h
 obtain⟨p,bs,rfl,hS,q⟩:=h
 obtain⟨u,rfl,ru⟩:=r.one
 cases ru
 obtain⟨its,rv,pl,hz⟩:=I.list hS
 obtain⟨hlen,GC⟩:=S2 rv
 have hl:=pl.isList
 have gg:p<s.heap.objs.size:=by obtain⟨_,e,_⟩:=hl;exact bS e
 refine call_all_walk (wpAny_pyIter_list hl ?_)
 refine⟨s.heap.objs.size,[s.heap.objs.size,p],[s.heap.objs.size],its.toArray.size,_,_,λi=>(bs[i]?).getD true,rfl,Walks.list (A:=X.A.in1) (I.ok.hd hc) _ p (fN gg) its.toArray,
  ⟨⟨_,gk _ rfl,rfl,rfl⟩,hl.push _⟩,λi v s' Q' E' hP hQ=>?_,λh' tk hk=>?_⟩
 ·obtain⟨b,e,rfl⟩:=GC i v (by simpa using hP)
  simp only[e,qC]at hQ
  exact wpAny_truthy_bool hQ
 ·have e:((aS its.toArray.size).all λi=>(bs[i]?).getD true)=bs.all id:=by
   rw[du,<- hlen];exact cn0 bs
  rw[e]
  exact⟨.bl _,H,I.kept (h':=h') (t':=tk) (GB hk),rfl,q⟩
theorem cr0(hc:X.calm=true):fZ X (.builtin "any") (λxs H Q=>∃(p:Addr) (bs:List Bool),xs=[.ref p]/\bK X.K H p (bs.map V.bl)/\Q (.bl (bs.any id)) H):=by
 intro pins s σ H xs us Q I r h
 obtain⟨p,bs,rfl,hS,q⟩:=h
 obtain⟨u,rfl,ru⟩:=r.one
 cases ru
 obtain⟨its,rv,pl,hz⟩:=I.list hS
 obtain⟨hlen,GC⟩:=S2 rv
 have hl:=pl.isList
 have gg:p<s.heap.objs.size:=by obtain⟨_,e,_⟩:=hl;exact bS e
 refine call_any_walk (wpAny_pyIter_list hl ?_)
 refine⟨s.heap.objs.size,[s.heap.objs.size,p],[s.heap.objs.size],its.toArray.size,_,_,λi=>(bs[i]?).getD false,rfl,Walks.list (A:=X.A.in1) (I.ok.hd hc) _ p (fN gg) its.toArray,
  ⟨⟨_,gk _ rfl,rfl,rfl⟩,hl.push _⟩,λi v s' Q' E' hP hQ=>?_,λh' tk hk=>?_⟩
 ·obtain⟨b,e,rfl⟩:=GC i v (by simpa using hP)
  simp only[e,qC]at hQ
  exact wpAny_truthy_bool hQ
 ·have e:((aS its.toArray.size).any λi=>(bs[i]?).getD false)=bs.any id:=by
   rw[du,<- hlen];exact cu5 bs
  rw[e]
  exact⟨.bl _,H,I.kept (h':=h') (t':=tk) (GB hk),rfl,q⟩
end
noncomputable def mX(X:Cx):List (Str × Addr)->Prop
 | []=>True
 | (y,c)::r=>X.env.cells.lookup y=some c/\mX X r
theorem mX.all{X:Cx}:∀{cl:List (Str × Addr)},mX X cl->∀y c,cl.lookup y=some c->X.env.cells.lookup y=some c
 | [],_,y,c,h=>by simp at h
 | (z,d)::r,h,y,c,e=>by
  rw[gq]at e
  cases q:y==z with
  | true =>
   rw[q]at e
   cases e
   rw[eq_of_beq q]
   exact h.1
  | false =>
   rw[q]at e
   exact mX.all h.2 y c e
noncomputable def mY(cl:List (Str × Addr)):List (Str × NameKind)->Prop
 | []=>True
 | (y,k)::r=>(k=.local\/k=.globalImplicit\/∃c,cl.lookup y=some c)/\mY cl r
theorem mY.all{cl:List (Str × Addr)}:∀{ns:List (Str × NameKind)},mY cl ns->∀y,(ns.lookup y=some .cell\/ns.lookup y=some .free)->∃c,cl.lookup y=some c
 | [],_,y,h=>by simp at h
 | (z,k)::r,h,y,e=>by
  rw[gq]at e
  cases q:y==z with
  | true =>
   rw[q]at e
   rw[eq_of_beq q]
   rcases h.1 with g | g | g
   ·rw[g]at e;rcases e with e | e<;>cases e
   ·rw[g]at e;rcases e with e | e<;>cases e
   ·exact g
  | false =>
   rw[q]at e
   exact mY.all h.2 y e
section
variable{X:Cx}{elt iter:Expr}{x:Str}{px pos:Pos}{ifs:List Expr}{scope:Scope}{cl:List (Str × Addr)}{wi:TI}{tt:TT}{te:TE}
end
end L2
namespace L2
open PySem PySem.Spec PyProof.Rows Mf
end L2
namespace L2
end L2
namespace L2
open PySem PySem.Spec PyProof.Rows
noncomputable def gX(aD:List (Str × Nat))(n:Nat)(σ:L2.St):St:=(aD.map λp=>(σ[p.2]?).getD none)++aV n none
noncomputable def S3(J:It)(aD:List (Str × Nat))(n:Nat)(g:TG)(tt:TT)(te:TE)(σ:L2.St)(H1:Hp)(Q:VK):Prop:=∀D,H1 D=none->∃W:Nat->Nat->List V->Hp->Prop,(∃m,W 0 m [] (upd H1 D (.lst []))) /\
 ∀i m acc H2,W i m acc H2->H2 D=some (.lst acc)/\((J.stop i H2/\Q (.ref D) H2)\/(J.go i H2/\∀x H3,J.jf i H2 x H3->H3 D=some (.lst acc)/\g x (gX aD n σ) H3 λgG H4 =>
  (gG.length=(gX aD n σ).length/\∀j,j<aD.length->gG[j]?=(gX aD n σ)[j]?)/\tt gG H4 λb H5=>H5 D=some (.lst acc) /\
  if b=true then te gG H5 λy H6=>H6 D=some (.lst acc)/\acc.length<sizeLine/\∃m',m'<m/\W (i+1) m' (acc++[y]) (upd H6 D (.lst (acc++[y])))else ∃m',m'<m/\W (i+1) m' acc H5))
noncomputable def BV(wi:TI)(aD:List (Str × Nat))(n:Nat)(g:TG)(tt:TT)(te:TE):TE:=λσ H Q=>wi σ H λJ H1=>S3 J aD n g tt te σ H1 Q
section
variable{X:Cx}{elt iter tg:Expr}{pos:Pos}{ifs:List Expr}{scope:Scope}{cl:List (Str × Addr)}{wi:TI}{tt:TT}{te:TE}{g:TG}
end
end L2
namespace L2
open PySem PySem.Spec PyProof.Rows
section
variable{X:Cx}{tg:Expr}
end
end L2
namespace L2
open PySem PySem.Spec PyProof.Rows
noncomputable def GD(h:Heap)(a T:Addr)(cls fl:Value):Prop :=
 ∃oe vs oT ts,h.get? a=some oe/\oe.cls=cls/\oe.dict=none/\oe.data=.fields vs/\vs[1]?=some (.ref T)/\T≠a/\h.get? T=some oT/\oT.data=.fields ts/\ts[3]?=some fl
noncomputable abbrev qV(h:Heap)(a T:Addr)(cls:Value):Prop:=GD h a T cls .none
theorem bC4(o:Obj)(f:Array Value->Array Value):(o.mapFields f).dict=o.dict:=by
 obtain⟨c,d,dt,sl⟩:=o
 cases dt<;>rfl
section
variable{M:Model}{A:Around}{E:Value->Shared->Prop}{s:Shared}{base:Heap}{env:Env}{outer:List Env}{L a T:Addr}{cls:Value}{oe:Obj}{vs:Array Value}{Q:Unit->Shared->Prop}
structure Ent(fs:List Addr)(h h':Heap)(a T:Addr)(oe:Obj)(L:Addr):Prop where
 new:h.get? T=none
 ne:T≠a
 keep:∀b o,b≠a->b ∉ fs->h.get? b=some o->h'.get? b=some o
 slot:∀b o,b≠a->h.get? b=some o->∃sl,h'.get? b=some { o with slots:=sl }
 exc:h'.get? a=some (oe.mapFields λz=>z.setIfInBounds 1 (.ref T))
 ent:∃oT ts,h'.get? T=some oT/\oT.data=.fields ts/\ts[3]?=some (rawInt L)
theorem S4{head:Value}{dG4:Bool}(eQ:A.frames=some (env::outer))(hl:s.heap.FunFrames base (env::outer))(hf:env.frame=some L)(he:s.heap.get? a=some oe)(hd:oe.data=.fields vs)(lF:1<vs.size)
  (na:a ∉ (env::outer).filterMap (·.frame)) (k:∀h' T',Ent ((env::outer).filterMap (·.frame)) s.heap h' a T' oe L->Q () { s with heap:=h' }) :
  wpAny M A (do let x<-frameOf env;let pl<-entryPlaceOf L dG4;let b<-EntryCells.newEntry head x .none (rawInt L) .none pl;setField (.ref a) 1 b) Q E s:=by
 refine wpAny_bind (wpAny_frameOf_fun eQ hl hf λg1 so=>wpAny_bind (wpAny_entryPlaceOf λpl ip=>?_))
 unfold EntryCells.newEntry newFields
 have e1:g1.get? a=some oe:=(so.2.1 a na).trans he
 refine wpAny_bind (wpAny_newObj_type ?_ (ip.sizeOk5 _ _ _ _ _))
 generalize S5:({ cls:=.type "traceback",dict:=none,data:=.fields ([head,fw L,.none,rawInt L,.none]++(if pl.isEmpty then aV 6 qp else pl)).toArray }:Obj)=te
 have e2:(g1.push te).get? a=some oe:=ff te e1
 have hda:te.data=.fields ([head,fw L,.none,rawInt L,.none]++(if pl.isEmpty then aV 6 qp else pl)).toArray:=by rw[<-S5]
 have nf:te.isFreed=false:=by rw[<-S5];rfl
 refine wpAny_setField e2 hd lF ?_
 have d3:=Fe hd λz=>z.setIfInBounds 1 (fw g1.objs.size)
 have nT:g1.objs.size≠a:=Q0 (bS e1)
 refine k _ g1.objs.size ⟨?_,nT,λb o hb hz q=>?_,λb o hb q=>?_,E6 _ e2 (Q7 d3),⟨te,_,?_,hda,?_⟩⟩
 ·cases q:s.heap.get? g1.objs.size with
  | none=>rfl
  | some o=>obtain⟨sl,z⟩:=so.2.2 _ _ q;exact absurd (bS z) (fA _)
 ·rw[qu _ _ (fe hb)]
  exact ff te ((so.2.1 b hz).trans q)
 ·obtain⟨sl,z⟩:=so.2.2 b o q
  refine⟨sl,?_⟩
  rw[qu _ _ (fe hb)]
  exact ff te z
 ·rw[qu _ _ (fe nT)]
  exact gk g1 nf
 ·first | (simp;done) | (rcases ip with rfl | ⟨_,_,_,_,_,_,_,rfl⟩<;>simp)
structure S6(fs Z:List Addr)(h h':Heap)(a T:Addr)(cls:Value):Prop where
 new:h.get? T=none
 keep:∀b o,b ∉ Z->b ∉ fs->h.get? b=some o->h'.get? b=some o
 slot:∀b o,b ∉ Z->h.get? b=some o->∃sl,h'.get? b=some { o with slots:=sl }
 y6:qV h' a T cls
theorem S7{fl:Value}(tr:GD s.heap a T cls fl)(k:∀h',(∀b o,b≠T->s.heap.get? b=some o->h'.get? b=some o)->qV h' a T cls->Q () { s with heap:=h' }):wpAny M A (setFlight (.ref a) none) Q E s:=by
 obtain⟨oe,vs,oT,ts,h1,h2,h3,h4,h5,h6,h7,h8,h9⟩:=tr
 have sz:3<ts.size:=(Q8.mp h9).1
 unfold setFlight
 refine wpAny_bind (wpAny_field h1 h4 h5 ?_)
 rw[if_pos (by simp)]
 refine wpAny_setField h7 h8 sz (k _ (λb o hb q=>(qu _ _ (fe hb)).trans q) ?_)
 have d:=Fe h8 λz=>z.setIfInBounds 3 ((none:Option Addr).elim qp λf=>rawInt f)
 exact⟨oe,vs,_,_,(qu _ _ h6).trans h1,h2,h3,h4,h5,h6,E6 _ h7 (Q7 d),d,by simp[sz]⟩
theorem Ent.fin{fs:List Addr}{h h':Heap}{a T L:Addr}{oe:Obj}{vs:Array Value}(e:Ent fs h h' a T oe L)(hd:oe.data=.fields vs)(lF:1<vs.size)(hdi:oe.dict=none):GD h' a T oe.cls (rawInt L):=by
 obtain⟨oT,ts,e1,e2,e3⟩:=e.ent
 exact⟨_,_,oT,ts,e.exc,Obj.cls_mapFields _ _,by rw[bC4];exact hdi,Fe hd _,by simp[lF],e.ne,e1,e2,e3⟩
theorem bQ9(eQ:A.frames=some (env::outer))(hl:s.heap.FunFrames base (env::outer))(hf:env.frame=some L)(na:a ∉ (env::outer).filterMap (·.frame))(tr:qV s.heap a T cls)
  (k:∀h' T',S6 ((env::outer).filterMap (·.frame)) [a,T] s.heap h' a T' cls->Q () { s with heap:=h' }):wpAny M A (noteFrame (.ref a) env) (λ_ kb=>wpAny M A (setFlight (.ref a) none) Q E kb) E s:=by
 obtain⟨oe,vs,oT,ts,h1,h2,h3,h4,h5,h6,h7,h8,h9⟩:=tr
 have s1:1<vs.size:=(Q8.mp h5).1
 have s3:3<ts.size:=(Q8.mp h9).1
 unfold noteFrame
 simp only[hf]
 refine wpAny_bind (wpAny_field h1 h4 h5 ?_)
 rw[if_pos (by simp)]
 refine wpAny_bind (wpAny_field h7 h8 h9 ?_)
 rw[if_neg (by simp[rawInt])]
 refine wpAny_bind (wpAny_setField h7 h8 s3 ?_)
 generalize hg:s.heap.update T (Obj.mapFields λz=>z.setIfInBounds 3 qp)=g
 have qW:∀b,b≠T->g.get? b=s.heap.get? b:=λb hb=>by rw[<-hg];exact qu _ _ (fe hb)
 have bT:∀b o,s.heap.get? b=some o->(∀ws,o.data≠.fields ws)->b≠T:=λb o q hn z=>by subst z;rw[h7]at q;cases q;exact hn ts h8
 have gT:∃oT',g.get? T=some oT':=⟨_,by rw[<-hg];exact E6 _ h7 (Q7 (Fe h8 _))⟩
 refine S4 (s:={ s with heap:=g }) eQ (hl.of_keeps λb o q hn=>⟨o,(qW b (bT b o q hn)).trans q,rfl⟩) hf ((qW a (fe h6)).trans h1) h4 s1 na λh' T' en=>?_
 have nT':T'≠T:=λz=>by subst z;obtain⟨o,q⟩:=gT;rw[en.new]at q;cases q
 refine S7 (s:={ s with heap:=h' }) (h2 ▸ en.fin h4 s1 h3) λGF kp GG=>?_
 refine k GF T' ⟨(qW T' nT').symm.trans en.new,λb o hz hb q=>?_,λb o hz q=>?_,GG⟩
 ·have z1:b≠a:=λz=>hz (by simp[z])
  have z2:b≠T:=λz=>hz (by simp[z])
  have z3:b≠T':=λz=>by have:=en.new;rw[<-z,qW b z2,q]at this;cases this
  exact kp b o z3 (en.keep b o z1 hb ((qW b z2).trans q))
 ·have z1:b≠a:=λz=>hz (by simp[z])
  have z2:b≠T:=λz=>hz (by simp[z])
  have z3:b≠T':=λz=>by have:=en.new;rw[<-z,qW b z2,q]at this;cases this
  obtain⟨sl,r⟩:=en.slot b o z1 ((qW b z2).trans q)
  exact⟨sl,kp b _ z3 r⟩
theorem bR0{h1:Heap}{args:List Value}(eQ:A.frames=some (env::outer))(hl:s.heap.FunFrames base (env::outer))(hf:env.frame=some L)(hx:Q9 s.heap h1 a cls args)
  (k:∀h' T',S6 ((env::outer).filterMap (·.frame)) [] s.heap h' a T' cls->Q () { s with heap:=h' }):wpAny M A (noteFrame (.ref a) env) (λ_ kb=>wpAny M A (setFlight (.ref a) none) Q E kb) E { s with heap:=h1 }:=by
 obtain⟨t,e1,_,_⟩:=hx.there
 have na:a ∉ (env::outer).filterMap (·.frame):=λhb=>by obtain⟨_,o,ho,_⟩:=hl.mem hb;rw[hx.new]at ho;cases ho
 unfold noteFrame
 simp only[hf]
 refine wpAny_bind (wpAny_field (s:={ s with heap:=h1 }) e1 rfl (x:=.none) (by rfl) ?_)
 rw[if_neg (by decide)]
 refine S4 (s:={ s with heap:=h1 }) eQ (hl.of_keeps λb o q _=>⟨o,hx.keeps b o q,rfl⟩) hf e1 rfl (by simp) na λh' T' en=>?_
 refine S7 (s:={ s with heap:=h' }) (en.fin rfl (by simp) rfl) λGF kp GG=>?_
 have ba:∀b o,s.heap.get? b=some o->b≠a:=λb o q z=>by rw[z,hx.new]at q;cases q
 have bT:∀b o,s.heap.get? b=some o->b≠T':=λb o q z=>by have:=hx.keeps b o q;rw[z,en.new]at this;cases this
 refine k GF T' ⟨?_,λb o _ hb q=>kp b o (bT b o q) (en.keep b o (ba b o q) hb (hx.keeps b o q)),λb o _ q=>?_,GG⟩
 ·cases q:s.heap.get? T' with
  | none=>rfl
  | some o=>exact absurd rfl (bT T' o q)
 ·obtain⟨sl,r⟩:=en.slot b o (ba b o q) (hx.keeps b o q)
  exact⟨sl,kp b _ (bT b o q) r⟩
end
end L2
namespace L2
open PySem PySem.Spec PyProof.Rows
theorem eo.there{P:Program}{w:World}{H:Hp}{h:Heap}{a:Addr}{o:HO}(x:eo P w H h a o):∃u,h.get? a=some u:=by
 cases o with
 | lst xs=>obtain⟨_,_,_,_,e⟩:=x;exact⟨_,e⟩
 | tup xs=>obtain⟨_,_,_,o,e,_⟩:=x;exact⟨o,e⟩
 | dK dD=>obtain⟨_,_,_,_,o,_,_,e,_⟩:=x;exact⟨_,e⟩
 | dT dD=>obtain⟨_,_,_,_,o,_,_,e,_⟩:=x;exact⟨_,e⟩
 | set S n=>obtain⟨o,_,_,_,e,_⟩:=x;exact⟨_,e⟩
 | ins C dx fs=>obtain⟨_,_,_,e,_⟩:=x;exact⟨_,e⟩
 | own y=>exact x
 | xd fs=>obtain⟨_,⟨_,_,_,e,_⟩,_⟩:=x;exact⟨_,e⟩
 | yx lo hi=>obtain⟨_,_,_,e⟩:=x;exact⟨_,e⟩
 | cg ob u=>obtain⟨e,_⟩:=x;exact⟨_,e⟩
 | dw ps=>exact⟨_,show h.get? a=some _ from x.1⟩
 | met f y=>exact⟨_,show h.get? a=some _ from x⟩
 | ext φ=>obtain⟨_,e,_⟩:=x;exact e
theorem cJ.none{P:Program}{w:World}{H:Hp}{h:Heap}{a:Addr}(x:cJ P w H h)(e:h.get? a=.none):H a=.none:=by
 cases q:H a with
 | none=>rfl
 | some u=>obtain⟨o,z⟩:=(x a u q).there;rw[e]at z;cases z
structure Apart(X:Cx)(pins:List (Addr × Obj))(H:Hp)(b:Addr):Prop where
 old:X.cK.heap.get? b=none
 free:H b=none
 loc:b≠X.env.locals
 cell:∀x c,X.env.cells.lookup x=some c->c≠b
 pin:∀p∈X.pn++pins,p.1≠b
 fr:b ∉ eA X.stack
section
variable{X:Cx}{pins:List (Addr × Obj)}{σ:St}{H H':Hp}{s:Shared}{a T b:Addr}{cls:Value}{M:Model}{Q:Unit->Shared->Prop}{E:Value->Shared->Prop}{h':Heap}
theorem Inv.old(I:Inv X pins σ H s)(hex:X.ex=[])(e:s.heap.get? b=none):X.cK.heap.get? b=none:=by
 cases q:X.cK.heap.get? b with
 | none=>rfl
 | some o=>obtain⟨o',z⟩:=I.base.there b o q (by rw[hex];simp);rw[e]at z;cases z
theorem S8(I:Inv X pins σ H s)(dj:X.stack=X.env::X.outer)(hex:X.ex=[])(hf:X.env.frame=some X.env.locals)(Z:List Addr)(hZ:∀b∈Z,X.cK.heap.get? b=none/\H b=none)
  (keep:∀b o,b ∉ Z->b ∉ eA X.stack->s.heap.get? b=some o->h'.get? b=some o) (slots:∀b o,b ∉ Z->s.heap.get? b=some o->∃sl,h'.get? b=some { o with slots:=sl }) :
  Un (eA X.outer) [] X.j8 H X.cK.heap h'/\cJ X.prog X.w H h':=by
 have GH:∀b o,X.cK.heap.get? b=some o->b ∉ Z:=λb o e z=>by rw[(hZ b z).1]at e;cases e
 have sub:∀b,b∈eA X.stack->b=X.env.locals\/b∈eA X.outer:=λb hb=>by
  rw[dj]at hb
  unfold eA at hb
  rw[AY,hf]at hb
  exact bX.mp hb
 have sup:∀b,b∈eA X.outer->b∈eA X.stack:=λb hb=>by
  rw[dj]
  unfold eA
  rw[AY,hf]
  exact eE _ hb
 have BA:∀b o,X.cK.heap.get? b=some o->b≠X.env.locals:=λb o e=>fN (cT (bS e) I.ok.above)
 have nx:∀b:Addr,b ∉ X.ex:=λb=>by rw[hex];simp
 refine⟨⟨λb o e n hb _=>?_,λb o e n hb _=>?_,λb o e n _=>I.base.free b o e n (nx b),λb o e _=>?_,I.base.jF,I.base.jc,I.base.ij⟩,λb ob e=>?_⟩
 ·exact keep b o (GH b o e) (λz=>(sub b z).elim (BA b o e) hb) (I.base.keep b o e n hb (nx b))
 ·obtain⟨sl,e1⟩:=I.base.slot b o e n hb (nx b)
  exact(slots b _ (GH b o e) e1).imp λsl h=>h
 ·obtain⟨o',e1⟩:=I.base.there b o e (nx b)
  exact(slots b o' (GH b o e) e1).elim λsl q=>⟨_,q⟩
 ·refine(I.aH b ob e).jZ (λc u hc q=>keep c u (λz=>?_) (λz=>?_) q) (λ_ q=>q) (λ_ _ q=>q) λ_ _ q=>q
  ·have n:=(hZ c z).2
   rcases hc with rfl | hc
   ·rw[n]at e;cases e
   ·rw[n]at hc;cases hc
  ·have n:=I.Fw c z
   rcases hc with rfl | hc
   ·rw[n]at e;cases e
   ·rw[n]at hc;cases hc
structure S9(X:Cx)(H:Hp)(h':Heap)(a T:Addr)(cls:Value):Prop where
 un:Un (eA X.outer) [] X.j8 H X.cK.heap h'
 aH:cJ X.prog X.w H h'
 y6:qV h' a T cls
 a0:X.cK.heap.get? a=none
 a1:H a=none
 t0:X.cK.heap.get? T=none
 t1:H T=none
theorem ca9(I:Inv X pins σ H s)(dj:X.stack=X.env::X.outer)(hex:X.ex=[])(hf:X.env.frame=some X.env.locals)(tr:qV s.heap a T cls)(pa:Apart X pins H a)(pT:Apart X pins H T)
  (hQ:∀h' T',S9 X H h' a T' cls->Q () { s with heap:=h' }):wpAny M X.A (leaving X.env (.ref a)) Q E s:=by
 have hZ:∀b∈[a,T],X.cK.heap.get? b=none/\H b=none:=λb hb=>by
  rcases bX.mp hb with rfl | hb
  ·exact⟨pa.old,pa.free⟩
  ·rw[iH.mp hb];exact⟨pT.old,pT.free⟩
 have na:a ∉ (X.env::X.outer).filterMap (·.frame):=by have:=pa.fr;rw[dj]at this;exact this
 refine wpAny_bind (bQ9 (base:=X.base) (by rw[I.ok.frames,dj]) (dj ▸ I.stack) hf na tr λh' T' st=>?_)
 have kp:∀b o,b ∉ [a,T]->b ∉ eA X.stack->s.heap.get? b=some o->h'.get? b=some o:=λb o hz hb q=>st.keep b o hz (by rw[dj]at hb;exact hb) q
 obtain⟨un,aH⟩:=S8 (h':=h') I dj hex hf [a,T] hZ kp st.slot
 exact hQ h' T' ⟨un,aH,st.y6,pa.old,pa.free,I.old hex st.new,I.aH.none st.new⟩
theorem ck4{h1:Heap}{args:List Value}(I:Inv X pins σ H s)(dj:X.stack=X.env::X.outer)(hex:X.ex=[])(hf:X.env.frame=some X.env.locals)(hx:Q9 s.heap h1 a cls args)
  (hQ:∀h' T',S9 X H h' a T' cls->Q () { s with heap:=h' }):wpAny M X.A (leaving X.env (.ref a)) Q E { s with heap:=h1 }:=by
 refine wpAny_bind (bR0 (base:=X.base) (by rw[I.ok.frames,dj]) (dj ▸ I.stack) hf hx λh' T' st=>?_)
 have kp:∀b o,b ∉ ([]:List Addr)->b ∉ eA X.stack->s.heap.get? b=some o->h'.get? b=some o:=λb o hz hb q=>st.keep b o hz (by rw[dj]at hb;exact hb) q
 obtain⟨un,aH⟩:=S8 (h':=h') I dj hex hf [] (λb hb=>absurd hb (by simp)) kp st.slot
 exact hQ h' T' ⟨un,aH,st.y6,I.old hex hx.new,I.aH.none hx.new,I.old hex st.new,I.aH.none st.new⟩
end
noncomputable def mZ(P:Program)(w:World):eY:=λouter H s E e s'=>∃a T cls H',e=.ref a/\s'.os=s.os/\AllBare s'.gens/\Un (eA outer) [] H H' s.heap s'.heap/\cJ P w H' s'.heap/\qV s'.heap a T cls /\
 s.heap.get? a=none/\H' a=none/\s.heap.get? T=none/\H' T=none/\E cls none H'
section
variable{X:Cx}{pins:List (Addr × Obj)}{σ:St}{H H':Hp}{s:Shared}{a T b:Addr}{cls:Value}{M:Model}{Q:Unit->Shared->Prop}{E:Value->Shared->Prop}{h':Heap}
end
end L2
namespace L2
open PySem PySem.W PySem.Spec PySem.Calls PyProof.Rows
section
variable{prog:Program}{w:World}{A:Around}{E:Value->Shared->Prop}{s:Shared}{K:Frag}{x D:Addr}{ox:Obj}{odo:Option Obj}
end
end L2
namespace L2
open PySem PySem.W PySem.Spec PySem.Calls PyProof.Rows
section
variable{prog:Program}{w:World}{A:Around}{E:Value->Shared->Prop}{s:Shared}{K:Frag}{x D:Addr}{ox:Obj}{odo:Option Obj}
structure dH4(K:Frag)(C:Addr):Prop where
 cls:(clsIn K C).isSome=true
 ga:findIn K (.ref C) "__getattribute__"=some (some (.builtin "BaseException.__getattribute__"))
 gt:findIn K (.ref C) "__getattr__"=some none
 ca:findIn K (.ref C) "__class__"=some (some (.builtin "object.__class__"))
 hn:specialIn K (.builtin "object.__class__") "__get__"=some (some (.builtin "getset_descriptor.__get__"))
 tk:takesIn K (.builtin "object.__class__")=some true
 mo:mroIn K C (.type "object")=some true
 mb:mroIn K C (.type "BaseException")=some true
end
end L2
namespace L2
open PySem PySem.Spec PyProof.Rows
section
variable{X:Cx}{pins:List (Addr × Obj)}{σ:St}{H:Hp}{s:Shared}{h':Heap}{its:List Addr}{T:Addr}{o:HO}{t':Nat}
theorem Inv.BW(I:Inv X pins σ H s)(k:∀b o,b ∉ its->s.heap.get? b=some o->h'.get? b=some o)(hf:∀b∈its,iM X pins H b):Inv X pins σ H { s with heap:=h',toks:=t' }:=by
 have ou:∀b u,H b=some u->b ∉ its:=λb u e z=>by have:=(hf b z).1;rw[this]at e;cases e
 refine I.step (g':=s.gens) (d':=s.drawn) (ch:=its) (λb hb=>?_) (λb o _ _ hc e _=>k b o hc e) (λb o _ _ hc e _=>⟨o.slots,k b o hc e⟩) (λ_ _ _ _ n=>n)
  (λb o hc e=>⟨o,k b o hc e⟩) (λ_ _ e=>e) (λ_ _ _ e=>e) (λb ps e=>⟨#[],by rw[e];simp⟩) (λm hm=>?_) (λb u e=>?_) I.bare
 ·obtain⟨_,h1,_,h2,h3,h4⟩:=hf b hb
  exact⟨h2,h1,h3,h4⟩
 ·obtain⟨o,es,ep,ho,r⟩:=hm
  exact⟨o,es,ep,k _ o (λz=>(hf _ z).2.1 rfl) ho,r⟩
 ·refine(I.aH b u e).jZ (λc v hc q=>k c v ?_ q) (λ_ q=>q) (λ_ _ q=>q) λ_ _ q=>q
  rcases hc with z | z
  ·rw[z];exact ou b u e
  ·exact ou c _ z
theorem Inv.Ta(I:Inv X pins σ H s)(k:∀b o,b ∉ its->s.heap.get? b=some o->h'.get? b=some o)(hf:∀b∈its,iM X pins H b)(hT:s.heap.objs.size<=T)(new:eo X.prog X.w (upd H T o) h' T o) :
  Inv X pins σ (upd H T o) { s with heap:=h',toks:=t' }:=by
 have ou:∀b u,H b=some u->b ∉ its:=λb u e z=>by have:=(hf b z).1;rw[this]at e;cases e
 have fT:H T=none:=I.aH.fresh hT
 have neT:∀b u,H b=some u->b≠T:=λb u e z=>by rw[z,fT]at e;cases e
 have neS:∀b u,s.heap.get? b=some u->b≠T:=λb u e z=>absurd (cT (bS e) hT) (by rw[z];exact fA _)
 refine I.step (g':=s.gens) (d':=s.drawn) (ch:=its) (λb hb=>?_) (λb o _ _ hc e _=>k b o hc e) (λb o _ _ hc e _=>⟨o.slots,k b o hc e⟩) (λb u _ e n=>by rw[bj (neS b u e)];exact n)
  (λb o hc e=>⟨o,k b o hc e⟩) (λb _ e=>by rw[bj (neT b _ e)];exact e) (λb _ _ e=>by rw[bj (neT b _ e)];exact e) (λb ps e=>⟨#[],by rw[bj (neT b _ e),e];simp⟩) (λm hm=>?_) (λb u e=>?_) I.bare
 ·obtain⟨_,h1,_,h2,h3,h4⟩:=hf b hb
  exact⟨h2,h1,h3,h4⟩
 ·obtain⟨o,es,ep,ho,r⟩:=hm
  exact⟨o,es,ep,k _ o (λz=>(hf _ z).2.1 rfl) ho,r⟩
 ·by_cases hb:b=T
  ·subst hb;rw[cA]at e;cases e;exact new
  ·rw[bj hb]at e
   refine(I.aH b u e).jZ (λc v hc q=>k c v ?_ q) (λc q=>by rw[bj (neT c _ q)];exact q) (λc _ q=>by rw[bj (neT c _ q)];exact q) λc _ q=>by rw[bj (neT c _ q)];exact q
   rcases hc with z | z
   ·rw[z];exact ou b u e
   ·exact ou c _ z
noncomputable def GI(K:PySem.W.Frag)(a b:Addr):It :=
 ⟨λi H=>∃xs ys x y,bK K H a xs/\bK K H b ys/\xs[i]?=some x/\ys[i]?=some y,
  λi H v H'=>∃T x y,v=.ref T/\H T=none/\H'=upd H T (.tup [x,y])/\(∀xs,bK K H a xs->xs[i]?=some x)/\∀ys,bK K H b ys->ys[i]?=some y,
  λi H=>∃xs ys,bK K H a xs/\bK K H b ys/\(xs.length<=i\/ys.length<=i)⟩
theorem oG{K:PySem.W.Frag}{a c:Addr}{xs:List V}(hk:X.K=K)(I:Inv X pins σ H s)(h:bK K H a xs)(hf:iM X pins H c)(ho:∃o,s.heap.get? c=some o/\o.cls≠.type "list"):a≠c:=by
 subst hk
 obtain⟨its,rv,p,hz⟩:=I.list h
 obtain⟨o,e,d⟩:=ho
 obtain⟨o',e',c',_⟩:=p.isList
 intro z
 subst z
 rw[e]at e';cases e'
 exact d c'
theorem cu1{P:Program}{w:World}{K:PySem.W.Frag}{elts:List Expr}{k:Nat}{pos:Pos}(a b z TI TO i1 i2:Addr)(D5:[z,TI,TO,i1,i2].Nodup) :
  Turn P w K (.Tuple elts k pos) (GI K a b) [z,TI,TO,i1,i2] z (λi h=>IsZip h z TI TO .none/\IsPair h TI (.ref i1) (.ref i2)/\(∃u v,IsPair h TO u v)/\h.IsListIter i1 a i/\h.IsListIter i2 b i):=by
 have ap:∀(X:Cx) (pins:List (Addr × Obj)) (s:Shared) (σ:St) (H:Hp) (i:Nat) (xs ys:List V),X.K=K->Inv X pins σ H s->(∀b∈[z,TI,TO,i1,i2],iM X pins H b)->IsZip s.heap z TI TO .none->(∃u v,IsPair s.heap TO u v)->s.heap.IsListIter i1 a i->s.heap.IsListIter i2 b i ->
   bK K H a xs->bK K H b ys->ZipApart z TI TO i1 i2 a b:=by
  intro X pins s σ H i xs ys hK I hf hz iU h1 h2 hx hy
  simp only[iG,bX,not_or,ig,not_false_eq_true,and_true]at D5
  obtain⟨⟨d1,d2,d3,d4⟩,⟨d5,d6,d7⟩,⟨d8,d9⟩,d10,_⟩:=D5
  have oz:∃o,s.heap.get? z=some o/\o.cls≠.type "list":=⟨_,hz,by intro q;exact absurd (Ff q) (by decide)⟩
  have Tc:∃o,s.heap.get? TO=some o/\o.cls≠.type "list":=by obtain⟨u,v,e⟩:=iU;exact⟨_,e,by intro q;exact absurd (Ff q) (by decide)⟩
  have o1:∃o,s.heap.get? i1=some o/\o.cls≠.type "list":=by obtain⟨o,e,c,d⟩:=h1;exact⟨_,e,by rw[c];intro q;exact absurd (Ff q) (by decide)⟩
  have o2:∃o,s.heap.get? i2=some o/\o.cls≠.type "list":=by obtain⟨o,e,c,d⟩:=h2;exact⟨_,e,by rw[c];intro q;exact absurd (Ff q) (by decide)⟩
  exact⟨fe d1,fe d2,fe d3,fe d4,d5,d6,d7,d8,d9,d10,
   oG hK I hx (hf z (by simp)) oz,oG hK I hx (hf TO (by simp)) Tc,oG hK I hx (hf i1 (by simp)) o1,oG hK I hx (hf i2 (by simp)) o2,
   oG hK I hy (hf z (by simp)) oz,oG hK I hy (hf TO (by simp)) Tc,oG hK I hy (hf i1 (by simp)) o1,oG hK I hy (hf i2 (by simp)) o2⟩
 refine⟨by simp,λi h st c hc=>?_,λi h h' st kk=>?_,?_,?_,λ_ _ _ _ _ st h=>wpAny_pyIter_zip st.1 h⟩
 ·obtain⟨hz,kr,⟨u,v,iU⟩,⟨o1,e1,c1,d1⟩,⟨o2,e2,c2,d2⟩⟩:=st
  simp only[bX,ig,or_false]at hc
  rcases hc with rfl | rfl | rfl | rfl | rfl
  ·exact⟨_,hz,λv q=>by cases q⟩
  ·exact⟨_,kr,λv q=>by cases q⟩
  ·exact⟨_,iU,λv q=>by cases q⟩
  ·exact⟨_,e1,λv q=>by rw[d1]at q;cases q⟩
  ·exact⟨_,e2,λv q=>by rw[d2]at q;cases q⟩
 ·obtain⟨hz,kr,⟨u,v,iU⟩,h1,h2⟩:=st
  exact⟨kk _ (by simp) _ hz,kk _ (by simp) _ kr,⟨u,v,kk _ (by simp) _ iU⟩,h1.at λo e=>kk _ (by simp) o e,h2.at λo e=>kk _ (by simp) o e⟩
 ·intro X hP hw hK hc i pins s σ H E I hf st hg
  obtain⟨xs,ys,x,y,hx,hy,ex,ey⟩:=hg
  obtain⟨hz,kr,⟨u,v,iU⟩,h1,h2⟩:=st
  have D:=ap X pins s σ H i xs ys hK I hf hz ⟨u,v,iU⟩ h1 h2 hx hy
  subst hP hw hK
  obtain⟨as,ra,pa,_⟩:=I.list hx
  obtain⟨bs,rb,pb,_⟩:=I.list hy
  obtain⟨ux,GJ,rx⟩:=ra.get ex
  obtain⟨uy,euy,ry⟩:=rb.get ey
  refine wpAny_pyNext_zip_item D hz kr iU h1 h2 pa.isList pb.isList (x:=ux) (y:=uy) (by simpa using GJ) (by simpa using euy) λh' z' TO' jK jh T' sz kk=>?_
  have fT:H s.heap.objs.size=none:=I.aH.fresh (bI _)
  have I1:Inv X pins σ (upd H s.heap.objs.size (.tup [x,y])) { s with heap:=h',toks:=s.toks }:=I.Ta (its:=[z,TO,i1,i2]) (λc o hc e=>kk c o (λq=>hc (by simp[q])) (λq=>hc (by simp[q])) (λq=>hc (by simp[q])) (λq=>hc (by simp[q])) e)
   (λc hc=>hf c (by simp only[bX,ig,or_false]at hc ⊢;rcases hc with rfl | rfl | rfl | rfl<;>simp)) (bI _) ⟨by show 2<=sizeLine;decide,[ux,uy],.cons rx (.cons ry .nil),⟨_,T',rfl,_,rfl⟩⟩
  have nT:∀c∈[z,TI,TO,i1,i2],c≠s.heap.objs.size:=λc hc q=>by
   have:∃o,s.heap.get? c=some o:=by
    simp only[bX,ig,or_false]at hc
    rcases hc with rfl | rfl | rfl | rfl | rfl
    ·exact⟨_,hz⟩
    ·exact⟨_,kr⟩
    ·exact⟨_,iU⟩
    ·obtain⟨o,e,_⟩:=h1;exact⟨o,e⟩
    ·obtain⟨o,e,_⟩:=h2;exact⟨o,e⟩
   obtain⟨o,e⟩:=this
   exact absurd (bS e) (by rw[q];exact fA _)
  refine⟨_,rfl,wpAny_letOwnedTupleGo_zip z' λGK GL sb=>?_⟩
  have GN:∀c∈[z],iM X pins (upd H s.heap.objs.size (.tup [x,y])) c:=λc hc=>by
   have e:c=z:=by simpa using hc
   subst e
   obtain⟨f0,fr⟩:=hf c (by simp)
   exact⟨by rw[bj (nT c (by simp))];exact f0,fr⟩
  have I2:=Inv.BW (h':=GK) (its:=[z]) (t':=s.toks) I1 (λc o hc e=>sb.extBut _ _ (λq=>hc (by simp[q])) e) GN
  refine⟨.ref s.heap.objs.size,_,I2,rfl,⟨_,x,y,rfl,fT,rfl,λxs' dk=>by rw[I.yF dk hx];exact ex,λTd Gm=>by rw[I.yF Gm hy];exact ey⟩,⟨GL,sb.extBut _ _ D.TIz (kk _ _ D.TIz D.TITO D.TIi1 D.TIi2 kr),⟨ux,uy,sb.extBut _ _ D.TOz TO'⟩,jK.extBut sb.extBut D.i1z,jh.extBut sb.extBut D.i2z⟩,λc hc=>?_⟩
  rw[bj (nT c hc)]
  exact(hf c hc).1
 ·intro X hP hw hK hc i pins s σ H E I hf st hg
  obtain⟨xs,ys,hx,hy,hl⟩:=hg
  obtain⟨hz,kr,⟨u,v,iU⟩,h1,h2⟩:=st
  have D:=ap X pins s σ H i xs ys hK I hf hz ⟨u,v,iU⟩ h1 h2 hx hy
  subst hP hw hK
  obtain⟨as,ra,pa,_⟩:=I.list hx
  obtain⟨bs,rb,pb,_⟩:=I.list hy
  have la:=ra.length
  have lb:=rb.length
  refine wpAny_pyNext_zip_end (I.ok.hd hc) D hz kr iU h1 h2 pa.isList pb.isList (hl.imp (λq=>by simp;omega) λq=>by simp;omega) λh' kk=>⟨rfl,?_⟩
  exact I.BW (its:=[z,TO,i1,i2]) (t':=s.toks) (λc o hc e=>kk c o (λq=>hc (by simp[q])) (λq=>hc (by simp[q])) (λq=>hc (by simp[q])) (λq=>hc (by simp[q])) e)
   (λc hc=>hf c (by simp only[bX,ig,or_false]at hc ⊢;rcases hc with rfl | rfl | rfl | rfl<;>simp))
noncomputable def GO(K:PySem.W.Frag)(a:Addr):It :=
 ⟨λi H=>∃xs x,bK K H a xs/\xs[i]?=some x,
  λi H v H'=>∃T x,v=.ref T/\H T=none/\H'=upd H T (.tup [.int i,x])/\∀xs,bK K H a xs->xs[i]?=some x,
  λi H=>∃xs,bK K H a xs/\xs.length<=i⟩
theorem ck2{P:Program}{w:World}{K:PySem.W.Frag}{elts:List Expr}{k:Nat}{pos:Pos}(a z it:Addr)(m3:z≠it) :
  Turn P w K (.Tuple elts k pos) (GO K a) [z,it] z (λi h=>(∃old,IsEnum h z it i old)/\h.IsListIter it a i):=by
 refine⟨by simp,λi h st c hc=>?_,λi h h' st kk=>?_,?_,?_,λ_ _ _ _ _ st h=>by obtain⟨⟨old,e⟩,_⟩:=st;exact wpAny_pyIter_enum e h⟩
 ·obtain⟨⟨old,hz⟩,⟨o1,e1,c1,d1⟩⟩:=st
  simp only[bX,ig,or_false]at hc
  rcases hc with rfl | rfl
  ·exact⟨_,hz,λv q=>by cases q⟩
  ·exact⟨_,e1,λv q=>by rw[d1]at q;cases q⟩
 ·obtain⟨⟨old,hz⟩,h1⟩:=st
  exact⟨⟨old,kk _ (by simp) _ hz⟩,h1.at λo e=>kk _ (by simp) o e⟩
 ·intro X hP hw hK hc i pins s σ H E I hf st hg
  subst hP hw hK
  obtain⟨xs,x,hx,ex⟩:=hg
  obtain⟨⟨old,hz⟩,h1⟩:=st
  obtain⟨as,ra,pa,_⟩:=I.list hx
  obtain⟨ux,GJ,rx⟩:=ra.get ex
  refine wpAny_pyNext_enum_item hz h1 pa.isList (x:=ux) (by simpa using GJ) m3 λh' z' jK T' sz kk=>?_
  have fT:H s.heap.objs.size=none:=I.aH.fresh (bI _)
  have I1:Inv X pins σ (upd H s.heap.objs.size (.tup [.int i,x])) { s with heap:=h',toks:=s.toks+1 }:=I.Ta (its:=[z,it]) (λc o hc e=>kk c o (λq=>hc (by simp[q])) (λq=>hc (by simp[q])) e)
   (λc hc=>hf c hc) (bI _) ⟨by show 2<=sizeLine;decide,[.int i s.toks,ux],.cons ⟨_,rfl⟩ (.cons rx .nil),⟨_,T',rfl,_,rfl⟩⟩
  have nT:∀c∈[z,it],c≠s.heap.objs.size:=λc hc q=>by
   have:∃o,s.heap.get? c=some o:=by
    simp only[bX,ig,or_false]at hc
    rcases hc with rfl | rfl
    ·exact⟨_,hz⟩
    ·obtain⟨o,e,_⟩:=h1;exact⟨o,e⟩
   obtain⟨o,e⟩:=this
   exact absurd (bS e) (by rw[q];exact fA _)
  refine⟨_,rfl,wpAny_letOwnedTupleGo_enum z' λGK GL sb=>?_⟩
  have GN:∀c∈[z],iM X pins (upd H s.heap.objs.size (.tup [.int i,x])) c:=λc hc=>by
   have e:c=z:=by simpa using hc
   subst e
   obtain⟨f0,fr⟩:=hf c (by simp)
   exact⟨by rw[bj (nT c (by simp))];exact f0,fr⟩
  have I2:=Inv.BW (h':=GK) (its:=[z]) (t':=s.toks+1) I1 (λc o hc e=>sb.extBut _ _ (λq=>hc (by simp[q])) e) GN
  refine⟨.ref s.heap.objs.size,_,I2,rfl,⟨_,x,rfl,fT,rfl,λxs' dk=>by rw[I.yF dk hx];exact ex⟩,⟨⟨ux,by simpa using GL⟩,jK.extBut sb.extBut (fe m3)⟩,λc hc=>?_⟩
  rw[bj (nT c hc)]
  exact(hf c hc).1
 ·intro X hP hw hK hc i pins s σ H E I hf st hg
  subst hP hw hK
  obtain⟨xs,hx,hl⟩:=hg
  obtain⟨⟨old,hz⟩,h1⟩:=st
  obtain⟨as,ra,pa,_⟩:=I.list hx
  have la:=ra.length
  refine wpAny_pyNext_enum_end (I.ok.hd hc) hz h1 pa.isList (by simp;omega) λh' kk=>⟨rfl,?_⟩
  exact I.BW (its:=[it]) (t':=s.toks) (λc o hc e=>kk c o (λq=>hc (by simp[q])) e) (λc hc=>hf c (by simp at hc ⊢;simp[hc]))
end
section
variable{X:Cx}{a b:Expr}{ta:TA}{p pos oy:Pos}{elts:List Expr}{x1:Nat}
noncomputable def c99(K:PySem.W.Frag)(ta:TA):TI:=λσ H R=>ta σ H λvs H1=>∃a b,vs=[.ref a,.ref b]/\(∃xs,bK K H1 a xs)/\(∃ys,bK K H1 b ys)/\R (GI K a b) H1
theorem cr9:bootBuiltins "zip"=some (.type "zip"):=by decide +kernel
theorem Te(hg:Gl X "zip")(hm:X.mg "zip"=none)(ha:PA X [a,b] ta)(hs:starEach [a,b] X.env=[(false,eval a X.env),(false,eval b X.env)]:=by rfl)(gU:starEach [b] X.env=[(false,eval b X.env)]:=by rfl) :
  PI X (.Tuple elts x1 oy) (.Call (.Name "zip" p) [a,b] [] pos) (c99 X.K ta):=by
 intro pins s σ H R I h
 refine Call_ (ow I hg hm cr9 (xW (aP (ha pos pins s σ H _ I h) λus s1 ⟨vs,H1,I1,r1,q1⟩=>?_) (by rw[hs,gU]) (by rw[gU];rfl)))
 obtain⟨a,b,e,⟨xs,hx⟩,⟨ys,hy⟩,q⟩:=q1
 subst e
 cases r1 with
 | cons r rr =>
  cases rr with
  | cons r2 rr =>
   cases rr
   cases r
   cases r2
   obtain⟨as,ra,pa,_⟩:=I1.list hx
   obtain⟨bs,rb,pb,_⟩:=I1.list hy
   refine call_zip_2 pa.isList pb.isList λh' hz kr iU h1 h2 sz kk=>wpAny_pyIter_zip hz ?_
   refine⟨_,[s1.heap.objs.size+4,s1.heap.objs.size+2,s1.heap.objs.size+3,s1.heap.objs.size,s1.heap.objs.size+1],_,_,H1,rfl,I1.kept (t':=s1.toks) kk,cu1 a b _ _ _ _ _ (by simp),⟨hz,kr,⟨_,_,iU⟩,h1,h2⟩,λc hc=>?_,q⟩
   have hle:s1.heap.objs.size<=c:=by
    simp only[bX,ig,or_false]at hc
    rcases hc with rfl | rfl | rfl | rfl | rfl<;>omega
   exact I1.yG hle (I1.aH.fresh hle)
noncomputable def cY2(K:PySem.W.Frag)(ta:TA):TI:=λσ H R=>ta σ H λvs H1=>∃a,vs=[.ref a]/\(∃xs,bK K H1 a xs)/\R (GO K a) H1
theorem bC3:bootBuiltins "enumerate"=some (.type "enumerate"):=by decide +kernel
theorem cF0(hg:Gl X "enumerate")(hm:X.mg "enumerate"=none)(ha:PA X [a] ta)(hs:starEach [a] X.env=[(false,eval a X.env)]:=by rfl) :
  PI X (.Tuple elts x1 oy) (.Call (.Name "enumerate" p) [a] [] pos) (cY2 X.K ta):=by
 intro pins s σ H R I h
 refine Call_ (ow I hg hm bC3 (xW (aP (ha pos pins s σ H _ I h) λus s1 ⟨vs,H1,I1,r1,q1⟩=>?_) hs rfl))
 obtain⟨a,e,⟨xs,hx⟩,q⟩:=q1
 subst e
 cases r1 with
 | cons r rr =>
  cases rr
  cases r
  obtain⟨as,ra,pa,_⟩:=I1.list hx
  refine call_enumerate_list pa.isList λh' hz h1 sz kk=>wpAny_pyIter_enum hz ?_
  refine⟨_,[s1.heap.objs.size+1,s1.heap.objs.size],_,_,H1,rfl,I1.kept (t':=s1.toks) kk,ck2 a (s1.heap.objs.size+1) s1.heap.objs.size (Nat.succ_ne_self _),⟨⟨_,hz⟩,h1⟩,λc hc=>?_,q⟩
  have hle:s1.heap.objs.size<=c:=by
   simp only[bX,ig,or_false]at hc
   rcases hc with rfl | rfl<;>omega
  exact I1.yG hle (I1.aH.fresh hle)
end
end L2
namespace L2
open PySem PySem.Spec PyProof.Rows PySem.W PySem.Calls
section
variable{X:Cx}
noncomputable def uB{α:Type}(xs:List α)(lo hi:Option Int):List α:=(xs.drop (HT.cV xs.length 0 lo)).take (HT.cV xs.length xs.length hi-HT.cV xs.length 0 lo)
theorem cb3(x:Str)(lo hi:Option Int):Txt.slice x lo hi=⟨(uB x.cps.toList lo hi).toArray⟩:=by
 have hx:x.length=x.cps.size:=rfl
 have e:(Fg lo hi 1 x.length).filterMap (x.cps[·]?)=uB x.cps.toList lo hi:=by
  obtain⟨h1,h2,h3⟩:=Ge lo hi x.length
  have e0:Fg lo hi 1 x.length=sliceRange (sliceBounds lo hi none x.length).1 (sliceBounds lo hi none x.length).2.1 1:=by
   cases lo<;>cases hi<;>rfl
  rw[e0,h1,h2]
  simp only[sliceRange_one,pick_run]
  unfold uB
  rw[hx,xV]
 unfold Txt.slice
 split
 ·rename_i h
  have hl:(Fg lo hi 1 x.length).length=x.length:=by
   rw[dY]at h;exact eq_of_beq h.2
  have hs:(uB x.cps.toList lo hi)=x.cps.toList:=by
   have e2:HT.cV x.cps.toList.length x.cps.toList.length hi-HT.cV x.cps.toList.length 0 lo=x.length:=by
    obtain⟨h1,h2,h3⟩:=Ge lo hi x.length
    have e0:Fg lo hi 1 x.length=sliceRange (sliceBounds lo hi none x.length).1 (sliceBounds lo hi none x.length).2.1 1:=by
     cases lo<;>cases hi<;>rfl
    rw[e0,h1,h2]at hl
    simp only[sliceRange_one,bE,eH]at hl
    rw[xV,<- hx]
    omega
   unfold uB
   have le:HT.cV x.cps.toList.length x.cps.toList.length hi<=x.cps.toList.length:=by
    cases hi with
    | none=>simp[HT.cV]
    | some i=>simp only[HT.cV];split<;>omega
   have le2:HT.cV x.cps.toList.length 0 lo<=x.cps.toList.length:=by
    cases lo with
    | none=>simp[HT.cV]
    | some i=>simp only[HT.cV];split<;>omega
   rw[xV,<- hx]at e2 le le2 ⊢
   have z:HT.cV x.length 0 lo=0:=by omega
   have z2:HT.cV x.length x.length hi=x.length:=by omega
   rw[z,z2,List.drop_zero,Ra,hx,<- xV,og]
  rw[hs]
 ·rw[e]
theorem cS9:qU X (λx lo hi H Q=>∃z,x=.str z/\z.length<=sizeLine/\Q (.str ⟨(uB z.cps.toList lo hi).toArray⟩) H):=by
 intro pins s σ H x v vl vu lo hi sl Q I rx hs pl pu h
 obtain⟨z,rfl,hz,q⟩:=h
 obtain⟨t,rfl⟩:=rx
 refine⟨"str",_,F.slot_str_getitem.lookup,typeIs_str _ _ _,?_⟩
 have fin:∀(l u:Option (Int × Tok)),l.map (·.1)=lo->u.map (·.1)=hi->partValue l=vl->partValue u=vu->wpAny (model X.prog X.w) X.A (getItem (.str z t) (.ref sl)) (EP X pins σ Q) X.xe s:=by
  intro l u h1 h2 h3 h4
  obtain⟨o,e1,e2,e3⟩:=hs
  refine wpAny_getItem_str_slice (l:=l) (u:=u) (st:=none) ⟨o,e1,e2,by rw[e3,h3,h4];rfl⟩ rfl ?_
  have e:Txt.slice z lo hi=(if(((none:Option (Int × Tok)).map (·.1)).getD 1==1&&(slicePicked z l u none).length==z.length)=true then z else⟨((slicePicked z l u none).filterMap (z.cps[·]?)).toArray⟩):=by
   unfold Txt.slice slicePicked;rw[h1,h2];rfl
  refine post_val_or_str ⟨?_,λt' k=>?_⟩
  ·rw[<-e];exact eM (Txt.slice_le z _ _) hz
  ·rw[<-e,cb3];exact⟨.str _,H,I.tok _,⟨_,rfl⟩,q⟩
 cases pl with
 | none =>
  cases pu with
  | none=>exact fin none none rfl rfl rfl rfl
  | int j tj=>exact fin none (some (j,tj)) rfl rfl rfl rfl
 | int i ti =>
  cases pu with
  | none=>exact fin (some (i,ti)) none rfl rfl rfl rfl
  | int j tj=>exact fin (some (i,ti)) (some (j,tj)) rfl rfl rfl rfl
end
end L2
namespace L3
open PySem L2
noncomputable def iV:HO->Bool
 | .dw _=>false
 | _=>true
structure ag(H H':Hp):Prop where
 get:∀b o,H b=some o->(h:iV o=true:=by rfl)->H' b=some o
 tb:∀b ps,H b=some (.dw ps)->∃more,H' b=some (.dw (ps++more))
noncomputable instance {H H':Hp}:CoeFun (ag H H') λ_=>∀b o,H b=some o->(h:iV o=true:=by rfl)->H' b=some o:=⟨λs=>@ag.get _ _ s⟩
theorem GP{o:HO}(h:iV o=false):∃ps,o=.dw ps:=by
 cases o with
 | dw ps=>exact⟨ps,rfl⟩
 | _=>cases h
theorem ag.of{H H':Hp}(h:∀b o,H b=some o->H' b=some o):ag H H':=⟨λb o e _=>h b o e,λb ps e=>⟨#[],by rw[h b _ e];simp⟩⟩
theorem ag.refl(H:Hp):ag H H:=.of λ_ _ h=>h
theorem ag.trans{H H1 H2:Hp}(a:ag H H1)(b:ag H1 H2):ag H H2 :=
 ⟨λc o h n=>b.get c o (a.get c o h n) n,λc ps h=>by
  obtain⟨m1,e1⟩:=a.tb c ps h
  obtain⟨m2,e2⟩:=b.tb c _ e1
  exact⟨m1++m2,by rw[e2,AZ]⟩⟩
theorem ag.any{H H':Hp}(e:ag H H'){l:Addr}{o:HO}(h:H l=some o):∃o',H' l=some o':=by
 cases n:iV o with
 | true=>exact⟨o,e.get l o h n⟩
 | false =>
  obtain⟨ps,rfl⟩:=GP n
  obtain⟨m,q⟩:=e.tb l ps h
  exact⟨_,q⟩
theorem ag.free{H H':Hp}(e:ag H H'){l:Addr}(h:H' l=Option.none):H l=Option.none:=by
 cases q:H l with
 | none=>rfl
 | some o =>
  obtain⟨o',z⟩:=e.any q
  rw[z]at h
  cases h
inductive uC where
 | ext (φ:Addr->Heap->Prop)
 | lam (of oc:Obj) (c k:Addr)
noncomputable instance:Coe (Addr->Heap->Prop) uC:=⟨.ext⟩
noncomputable def GQ(H:Hp)(k:Addr):Prop:=∃ψ,H k=some (.ext ψ)/\∀h,ψ h->∃q,h.CodeRec (.ref k) q
noncomputable def ji(of oc:Obj)(c p:Addr):Heap->Prop:=λh=>h.get? p=some of/\h.get? c=some oc
structure jL(H:Hp)(p:Addr)(of oc:Obj)(c k:Addr):Prop where
 fn:H p=some (.ext (ji of oc c p))
 cell:H c=some (.own p)
 GR:GQ H k
noncomputable def qX(H:Hp)(p:Addr):uC->Prop
 | .ext φ=>H p=some (.ext (φ p))
 | .lam of oc c k=>jL H p of oc c k
theorem qX.mono{H H':Hp}{p:Addr}:∀{z:uC},qX H p z->(∀a o,H a=some o->(∀ws,o≠.lst ws)->iV o=true->H' a=some o)->qX H' p z
 | .ext φ,x,k=>k _ _ x (λws q=>by cases q) rfl
 | .lam of oc c k',x,k=>⟨k _ _ x.fn (λws q=>by cases q) rfl,k _ _ x.cell (λws q=>by cases q) rfl,let⟨ψ,e,h⟩:=x.GR;⟨ψ,k _ _ e (λws q=>by cases q) rfl,h⟩⟩
inductive D where
 | ax | bl (b:Bool) | int (i:Int) | str (x:Str)
 | lst (o:Bool) (xs:List D)
 | tup (xs:List D)
 | obj (C:Addr) (ns:List Str) (xs:List D)
 | fz (xs:List D)
 | bJ (z:uC)
 deriving Inhabited
noncomputable def D.pl:D->Bool
 | .lst o xs=>!o&&y7 xs
 | .tup xs=>y7 xs
 | _=>true
where y7:List D->Bool
 | []=>true
 | d::ds=>d.pl&&y7 ds
noncomputable def D.fr:D->Bool
 | .lst o xs=>o&&y8 xs
 | .tup xs=>y8 xs
 | .obj _ _ _=>false
 | .fz _=>false
 | _=>true
where y8:List D->Bool
 | []=>true
 | d::ds=>d.fr&&y8 ds
noncomputable def D.sh:D->D
 | .lst _ xs=>.lst false (y9 xs)
 | .tup xs=>.tup (y9 xs)
 | d=>d
where y9:List D->List D
 | []=>[]
 | d::ds=>d.sh::y9 ds
theorem Tf(ds:List D):D.pl.y7 ds=ds.all D.pl:=by induction ds with | nil=>rfl | cons d ds ih=>simp[D.pl.y7,ih]
theorem Tg(ds:List D):D.fr.y8 ds=ds.all D.fr:=by induction ds with | nil=>rfl | cons d ds ih=>simp[D.fr.y8,ih]
theorem GS(ds:List D):D.sh.y9 ds=ds.map D.sh:=by induction ds with | nil=>rfl | cons d ds ih=>simp[D.sh.y9,ih]
theorem gr(o:Bool)(xs:List D):(D.lst o xs).pl=(!o&&xs.all D.pl):=by simp[D.pl,Tf]
theorem ku(xs:List D):(D.tup xs).pl=xs.all D.pl:=by simp[D.pl,Tf]
theorem gh(o:Bool)(xs:List D):(D.lst o xs).fr=(o&&xs.all D.fr):=by simp[D.fr,Tg]
theorem m4(xs:List D):(D.tup xs).fr=xs.all D.fr:=by simp[D.fr,Tg]
theorem fh(o:Bool)(xs:List D):(D.lst o xs).sh=.lst false (xs.map D.sh):=by simp[D.sh,GS]
theorem ky(xs:List D):(D.tup xs).sh=.tup (xs.map D.sh):=by simp[D.sh,GS]
inductive R(F H:Hp):List D->List V->List Addr->Prop
 | nil:R F H [] [] []
 | ax {ds vs B}:R F H ds vs B->R F H (.ax::ds) (.ax::vs) B
 | bl {b ds vs B}:R F H ds vs B->R F H (.bl b::ds) (.bl b::vs) B
 | int {i ds vs B}:R F H ds vs B->R F H (.int i::ds) (.int i::vs) B
 | str {x ds vs B}:R F H ds vs B->R F H (.str x::ds) (.str x::vs) B
 | shr {p ws xs ds vs B}:F p=some (.lst ws)->R F H xs ws []->R F H ds vs B->R F H (.lst false xs::ds) (.ref p::vs) B
 | own {p ws xs A ds vs B}:H p=some (.lst ws)->F p=none->R F H xs ws A->R F H ds vs B->R F H (.lst true xs::ds) (.ref p::vs) (p::(A++B))
 | tup {p ws xs A ds vs B}:H p=some (.tup ws)->R F H xs ws A->R F H ds vs B->R F H (.tup xs::ds) (.ref p::vs) (A++B)
 | obj {p C dx ns ws xs ds vs B}:H p=some (.ins C dx (ns.zip ws))->ns.length=ws.length->R F H xs ws []->R F H ds vs B->R F H (.obj C ns xs::ds) (.ref p::vs) B
 | fz {p o ws xs ds vs B}:F p=some (.cg o (.lst ws))->R F H xs ws []->R F H ds vs B->R F H (.fz xs::ds) (.ref p::vs) B
 | bJ {p z ds vs B}:qX H p z->R F H ds vs B->R F H (.bJ z::ds) (.ref p::vs) B
inductive S(F H:Hp):List D->List V->Prop
 | nil:S F H [] []
 | ax {ds vs}:S F H ds vs->S F H (.ax::ds) (.ax::vs)
 | bl {b ds vs}:S F H ds vs->S F H (.bl b::ds) (.bl b::vs)
 | int {i ds vs}:S F H ds vs->S F H (.int i::ds) (.int i::vs)
 | str {x ds vs}:S F H ds vs->S F H (.str x::ds) (.str x::vs)
 | shr {p ws xs ds vs}:F p=some (.lst ws)->R F H xs ws []->S F H ds vs->S F H (.lst false xs::ds) (.ref p::vs)
 | own {p ws xs ds vs}:H p=some (.lst ws)->S F H xs ws->S F H ds vs->S F H (.lst true xs::ds) (.ref p::vs)
 | tup {p ws xs ds vs}:H p=some (.tup ws)->S F H xs ws->S F H ds vs->S F H (.tup xs::ds) (.ref p::vs)
 | obj {p C dx ns ws xs ds vs}:H p=some (.ins C dx (ns.zip ws))->ns.length=ws.length->R F H xs ws []->S F H ds vs->S F H (.obj C ns xs::ds) (.ref p::vs)
 | fz {p o ws xs ds vs}:F p=some (.cg o (.lst ws))->R F H xs ws []->S F H ds vs->S F H (.fz xs::ds) (.ref p::vs)
 | bJ {p z ds vs}:qX H p z->S F H ds vs->S F H (.bJ z::ds) (.ref p::vs)
section
variable{F F' H H':Hp}{d:D}{ds es:List D}{v:V}{vs ws:List V}{A B:List Addr}
theorem R.length(r:R F H ds vs A):ds.length=vs.length:=by
 induction r<;>simp_all
theorem S.length(r:S F H ds vs):ds.length=vs.length:=by
 induction r<;>simp_all
theorem R.cons(r:R F H [d] [v] A)(q:R F H ds vs B):R F H (d::ds) (v::vs) (A++B):=by
 cases r with
 | ax r=>cases r;exact .ax q
 | bl r=>cases r;exact .bl q
 | int r=>cases r;exact .int q
 | str r=>cases r;exact .str q
 | shr h x r=>cases r;exact .shr h x q
 | own h f x r=>cases r;simpa using R.own h f x q
 | tup h x r=>cases r;simpa using R.tup h x q
 | obj h l x r=>cases r;exact .obj h l x q
 | fz h x r=>cases r;exact .fz h x q
 | bJ h r=>cases r;exact .bJ h q
theorem R.cR(r:R F H (d::ds) vs A):∃v cE A1 A2,vs=v::cE/\A=A1++A2/\R F H [d] [v] A1/\R F H ds cE A2:=by
 cases r with
 | ax r=>exact⟨_,_,[],_,rfl,rfl,.ax .nil,r⟩
 | bl r=>exact⟨_,_,[],_,rfl,rfl,.bl .nil,r⟩
 | int r=>exact⟨_,_,[],_,rfl,rfl,.int .nil,r⟩
 | str r=>exact⟨_,_,[],_,rfl,rfl,.str .nil,r⟩
 | shr h x r=>exact⟨_,_,[],_,rfl,rfl,.shr h x .nil,r⟩
 | @own p _ _ A1 _ _ B1 h f x r=>exact⟨_,_,p::A1,B1,rfl,rfl,by simpa using R.own h f x .nil,r⟩
 | @tup p _ _ A1 _ _ B1 h x r=>exact⟨_,_,A1,B1,rfl,rfl,by simpa using R.tup h x .nil,r⟩
 | obj h l x r=>exact⟨_,_,[],_,rfl,rfl,.obj h l x .nil,r⟩
 | fz h x r=>exact⟨_,_,[],_,rfl,rfl,.fz h x .nil,r⟩
 | bJ h r=>exact⟨_,_,[],_,rfl,rfl,.bJ h .nil,r⟩
theorem S.cons(r:S F H [d] [v])(q:S F H ds vs):S F H (d::ds) (v::vs):=by
 cases r with
 | ax r=>exact .ax q
 | bl r=>exact .bl q
 | int r=>exact .int q
 | str r=>exact .str q
 | shr h x r=>exact .shr h x q
 | own h x r=>exact .own h x q
 | tup h x r=>exact .tup h x q
 | obj h l x r=>exact .obj h l x q
 | fz h x r=>exact .fz h x q
 | bJ h r=>exact .bJ h q
theorem S.cR(r:S F H (d::ds) vs):∃v cE,vs=v::cE/\S F H [d] [v]/\S F H ds cE:=by
 cases r with
 | ax r=>exact⟨_,_,rfl,.ax .nil,r⟩
 | bl r=>exact⟨_,_,rfl,.bl .nil,r⟩
 | int r=>exact⟨_,_,rfl,.int .nil,r⟩
 | str r=>exact⟨_,_,rfl,.str .nil,r⟩
 | shr h x r=>exact⟨_,_,rfl,.shr h x .nil,r⟩
 | own h x r=>exact⟨_,_,rfl,.own h x .nil,r⟩
 | tup h x r=>exact⟨_,_,rfl,.tup h x .nil,r⟩
 | obj h l x r=>exact⟨_,_,rfl,.obj h l x .nil,r⟩
 | fz h x r=>exact⟨_,_,rfl,.fz h x .nil,r⟩
 | bJ h r=>exact⟨_,_,rfl,.bJ h .nil,r⟩
theorem R.append:∀{ds:List D} {vs:List V} {A:List Addr},R F H ds vs A->R F H es ws B->R F H (ds++es) (vs++ws) (A++B)
 | [],_,_,r,q=>by cases r;exact q
 | d::ds,_,_,r,q=>by
  obtain⟨v,cE,A1,A2,rfl,rfl,h1,h2⟩:=r.cR
  simpa using h1.cons (R.append h2 q)
theorem S.append:∀{ds:List D} {vs:List V},S F H ds vs->S F H es ws->S F H (ds++es) (vs++ws)
 | [],_,r,q=>by cases r;exact q
 | d::ds,_,r,q=>by
  obtain⟨v,cE,rfl,h1,h2⟩:=r.cR
  exact h1.cons (S.append h2 q)
theorem R.split:∀{ds:List D} {vs:List V} {A:List Addr},R F H (ds++es) vs A->∃v1 v2 A1 A2,vs=v1++v2/\A=A1++A2/\R F H ds v1 A1/\R F H es v2 A2
 | [],vs,A,r=>⟨[],vs,[],A,rfl,rfl,.nil,r⟩
 | d::ds,_,_,r=>by
  obtain⟨v,cE,A1,A2,rfl,rfl,h1,h2⟩:=R.cR (ds:=ds++es) r
  obtain⟨v1,v2,B1,B2,rfl,rfl,h3,h4⟩:=R.split (ds:=ds) h2
  exact⟨v::v1,v2,A1++B1,B2,rfl,by simp,h1.cons h3,h4⟩
theorem R.get:∀{ds:List D} {vs:List V} {A:List Addr} {i:Nat},R F H ds vs A->ds[i]?=some d->∃v A1,vs[i]?=some v/\R F H [d] [v] A1/\A1 ⊆ A
 | [],_,_,_,_,e=>by simp at e
 | d'::ds,_,_,i,r,e=>by
  obtain⟨v,cE,A1,A2,rfl,rfl,h1,h2⟩:=r.cR
  cases i with
  | zero=>simp at e;subst e;exact⟨v,A1,rfl,h1,by simp⟩
  | succ i =>
   obtain⟨w,B1,e2,q,sb⟩:=R.get (ds:=ds) (i:=i) h2 (by simpa using e)
   exact⟨w,B1,by simpa using e2,q,λx hx=>fB _ (sb hx)⟩
theorem S.get:∀{ds:List D} {vs:List V} {i:Nat},S F H ds vs->ds[i]?=some d->∃v,vs[i]?=some v/\S F H [d] [v]
 | [],_,_,_,e=>by simp at e
 | d'::ds,_,i,r,e=>by
  obtain⟨v,cE,rfl,h1,h2⟩:=r.cR
  cases i with
  | zero=>simp at e;subst e;exact⟨v,rfl,h1⟩
  | succ i =>
   obtain⟨w,e2,q⟩:=S.get (ds:=ds) (i:=i) h2 (by simpa using e)
   exact⟨w,by simpa using e2,q⟩
theorem S.get':∀{ds:List D} {vs:List V} {i:Nat},S F H ds vs->vs[i]?=some v->∃d,ds[i]?=some d/\S F H [d] [v]
 | [],_,_,r,e=>by cases r;simp at e
 | d'::ds,_,i,r,e=>by
  obtain⟨v,cE,rfl,h1,h2⟩:=r.cR
  cases i with
  | zero=>simp at e;subst e;exact⟨d',rfl,h1⟩
  | succ i =>
   obtain⟨w,e2,q⟩:=S.get' (ds:=ds) (i:=i) h2 (by simpa using e)
   exact⟨w,by simpa using e2,q⟩
theorem S.take:∀{ds:List D} {vs:List V} (n:Nat),S F H ds vs->S F H (ds.take n) (vs.take n)
 | _,_,0,r=>by simpa using S.nil
 | [],_,n+1,r=>by cases r;exact .nil
 | d::ds,_,n+1,r=>by
  obtain⟨v,cE,rfl,h1,h2⟩:=r.cR
  exact h1.cons (S.take n h2)
theorem S.drop:∀{ds:List D} {vs:List V} (n:Nat),S F H ds vs->S F H (ds.drop n) (vs.drop n)
 | _,_,0,r=>by simpa using r
 | [],_,n+1,r=>by cases r;exact .nil
 | d::ds,_,n+1,r=>by
  obtain⟨v,cE,rfl,h1,h2⟩:=r.cR
  exact S.drop n h2
theorem fR{p:Addr}{o:HO}(h:Rd F p o)(s:ag F F')(n:iV o=true:=by rfl):Rd F' p o:=by
 rcases h with h | ⟨u,h⟩
 ·exact .inl (s.get _ _ h n)
 ·exact .inr ⟨u,s _ _ h⟩
theorem R.s(r:R F H ds vs A):S F H ds vs:=by
 induction r with
 | nil=>exact .nil
 | ax _ ih=>exact .ax ih
 | bl _ ih=>exact .bl ih
 | int _ ih=>exact .int ih
 | str _ ih=>exact .str ih
 | shr h x _ _ ih=>exact .shr h x ih
 | own h f _ _ i1 i2=>exact .own h i1 i2
 | tup h _ _ i1 i2=>exact .tup h i1 i2
 | obj h l x _ _ ih=>exact .obj h l x ih
 | fz h x _ _ ih=>exact .fz h x ih
 | bJ h _ ih=>exact .bJ h ih
structure gY(W:List Addr)(H H':Hp):Prop where
 get:∀a o,H a=some o->a ∉ W->(h:iV o=true:=by rfl)->H' a=some o
noncomputable instance {W:List Addr} {H H':Hp}:CoeFun (gY W H H') λ_=>∀a o,H a=some o->a ∉ W->(h:iV o=true:=by rfl)->H' a=some o:=⟨λs=>@gY.get _ _ _ s⟩
noncomputable def iW(W:List Addr)(H:Hp):Prop:=∀a∈W,∃ws,H a=some (.lst ws)
theorem R.keep{W:List Addr}(hf:ag F F')(hb:gY W H H')(hl:iW W H)(r:R F H ds vs A)(hn:∀a∈A,F' a=none)(hd:∀a∈A,a ∉ W):R F' H' ds vs A:=by
 induction r with
 | nil=>exact .nil
 | ax _ ih=>exact .ax (ih hn hd)
 | bl _ ih=>exact .bl (ih hn hd)
 | int _ ih=>exact .int (ih hn hd)
 | str _ ih=>exact .str (ih hn hd)
 | shr h x _ i1 ih=>exact .shr (hf _ _ h) (i1 (by simp) (by simp)) (ih hn hd)
 | own h f _ _ i1 i2 =>
  refine .own (hb _ _ h (hd _ (by simp))) (hn _ (by simp)) (i1 (λa ha=>hn a ?_) λa ha=>hd a ?_) (i2 (λa ha=>hn a ?_) λa ha=>hd a ?_)<;>simp[ha]
 | @tup p ws _ _ _ _ _ h _ _ i1 i2 =>
  refine .tup (hb _ _ h λz=>?_) (i1 (λa ha=>hn a ?_) λa ha=>hd a ?_) (i2 (λa ha=>hn a ?_) λa ha=>hd a ?_)<;>try simp[ha]
  obtain⟨q,e⟩:=hl _ z
  rw[h]at e;cases e
 | obj h l x _ i1 ih =>
  refine .obj (hb _ _ h λz=>?_) l (i1 (by simp) (by simp)) (ih hn hd)
  obtain⟨q,e⟩:=hl _ z
  rw[h]at e;cases e
 | fz h x _ i1 ih=>exact .fz (hf _ _ h) (i1 (by simp) (by simp)) (ih hn hd)
 | bJ h _ ih =>
  exact .bJ (h.mono λa o e n t=>hb.get a o e (λz=>by
   obtain⟨q,e'⟩:=hl _ z
   rw[e]at e';cases e';exact n _ rfl) t) (ih hn hd)
theorem gY.same(h:ag H H'):gY [] H H':=⟨λa o e _ n=>h.get a o e n⟩
theorem iW.nil:iW [] H:=λa h=>absurd h (by simp)
theorem R.grow(hf:ag F F')(hb:ag H H')(r:R F H ds vs A)(hn:∀a∈A,F' a=none):R F' H' ds vs A :=
 r.keep hf (gY.same hb) iW.nil hn (by simp)
theorem R.shared(hf:ag F F')(hb:ag H H')(r:R F H ds vs []):R F' H' ds vs []:=r.grow hf hb (by simp)
theorem S.mono(hf:ag F F')(hb:ag H H')(r:S F H ds vs):S F' H' ds vs:=by
 induction r with
 | nil=>exact .nil
 | ax _ ih=>exact .ax ih
 | bl _ ih=>exact .bl ih
 | int _ ih=>exact .int ih
 | str _ ih=>exact .str ih
 | shr h x _ ih=>exact .shr (hf _ _ h) (x.shared hf hb) ih
 | own h _ _ i1 i2=>exact .own (hb _ _ h) i1 i2
 | tup h _ _ i1 i2=>exact .tup (hb _ _ h) i1 i2
 | obj h l x _ ih=>exact .obj (hb _ _ h) l (x.shared hf hb) ih
 | fz h x _ ih=>exact .fz (hf _ _ h) (x.shared hf hb) ih
 | bJ h _ ih=>exact .bJ (h.mono λa o e _ t=>hb.get a o e t) ih
theorem S.r(s:S F H ds vs)(p:ds.all D.pl=true):R F H ds vs []:=by
 induction s with
 | nil=>exact .nil
 | ax _ ih=>exact .ax (ih (by simpa[D.pl]using p))
 | bl _ ih=>exact .bl (ih (by simpa[D.pl]using p))
 | int _ ih=>exact .int (ih (by simpa[D.pl]using p))
 | str _ ih=>exact .str (ih (by simpa[D.pl]using p))
 | shr h x _ ih=>exact .shr h x (ih (by simp[gr]at p;simpa using p.2))
 | own h _ _ i1 i2=>simp[gr]at p
 | tup h _ _ i1 i2 =>
  rw[eN,ku,dY]at p
  simpa using R.tup h (i1 p.1) (i2 p.2)
 | obj h l x _ ih=>exact .obj h l x (ih (by simpa[D.pl]using p))
 | fz h x _ ih=>exact .fz h x (ih (by simpa[D.pl]using p))
 | bJ h _ ih=>exact .bJ h (ih (by simpa[D.pl]using p))
theorem R.pl(r:R F H ds vs []):ds.all D.pl=true:=by
 generalize e:([]:List Addr)=A at r
 induction r with
 | nil=>rfl
 | ax _ ih=>simp[D.pl];simpa using ih e
 | bl _ ih=>simp[D.pl];simpa using ih e
 | int _ ih=>simp[D.pl];simpa using ih e
 | str _ ih=>simp[D.pl];simpa using ih e
 | shr h x _ i1 ih=>simp only[eN,gr,i1 rfl,ih e];rfl
 | own h f _ _ i1 i2=>cases e
 | tup h _ _ i1 i2 =>
  obtain⟨e1,e2⟩:=Fh.mp e.symm
  simp only[eN,ku,i1 e1.symm,i2 e2.symm];rfl
 | obj h l x _ i1 ih=>simp[D.pl];simpa using ih e
 | fz h x _ i1 ih=>simp[D.pl];simpa using ih e
 | bJ h _ ih=>simp[D.pl];simpa using ih e
theorem D.BX:∀{d:D},d.pl=true->d.sh=d
 | .ax,_=>rfl
 | .bl _,_=>rfl
 | .int _,_=>rfl
 | .str _,_=>rfl
 | .obj _ _ _,_=>rfl
 | .fz _,_=>rfl
 | .bJ _,_=>rfl
 | .lst o xs,h=>by
  rw[gr,dY]at h
  have:∀(l:List D),(∀x∈l,x∈xs)->l.all D.pl=true->l.map D.sh=l:=by
   intro l hl hp
   induction l with
   | nil=>rfl
   | cons x l ih =>
    simp only[eN,dY]at hp
    have hx:x∈xs:=hl x (by simp)
    rw[dP,D.BX hp.1,ih (λy hy=>hl y (by simp[hy])) hp.2]
  rw[fh,this xs (λ_ h=>h) h.2]
  cases o<;>simp_all
 | .tup xs,h=>by
  rw[ku]at h
  have:∀(l:List D),(∀x∈l,x∈xs)->l.all D.pl=true->l.map D.sh=l:=by
   intro l hl hp
   induction l with
   | nil=>rfl
   | cons x l ih =>
    simp only[eN,dY]at hp
    have hx:x∈xs:=hl x (by simp)
    rw[dP,D.BX hp.1,ih (λy hy=>hl y (by simp[hy])) hp.2]
  rw[ky,this xs (λ_ h=>h) h]
termination_by d=>sizeOf d
theorem lM{l:List D}(h:l.all D.pl=true):l.map D.sh=l:=by
 induction l with
 | nil=>rfl
 | cons x l ih =>
  simp only[eN,dY]at h
  rw[dP,D.BX h.1,ih h.2]
theorem S.frozen(e:ag F H)(s:S F H ds vs):R H H (ds.map D.sh) vs []:=by
 induction s with
 | nil=>exact .nil
 | ax _ ih=>exact .ax ih
 | bl _ ih=>exact .bl ih
 | int _ ih=>exact .int ih
 | str _ ih=>exact .str ih
 | shr h x _ ih =>
  rw[dP,fh,lM x.pl]
  exact .shr (e _ _ h) (x.shared e (ag.refl _)) ih
 | own h _ _ i1 i2=>rw[dP,fh];exact .shr h i1 i2
 | tup h _ _ i1 i2=>rw[dP,ky];simpa using R.tup h i1 i2
 | obj h l x _ ih=>exact .obj h l (x.shared e (ag.refl _)) ih
 | fz h x _ ih=>exact .fz (e _ _ h) (x.shared e (ag.refl _)) ih
 | bJ h _ ih=>exact .bJ h ih
noncomputable def cg(F H:Hp)(A:List Addr):Hp:=λa=>if a∈A then H a else F a
theorem lN(e:ag F H):ag F (cg F H A):=⟨λa o h n=>by unfold cg;split;exact e.get _ _ h n;exact h,λa ps h=>by unfold cg;split;exact e.tb _ _ h;exact⟨#[],by rw[h];simp⟩⟩
theorem Th(e:ag F H):ag (cg F H A) H:=⟨λa o h n=>by unfold cg at h;split at h;exact h;exact e.get _ _ h n,λa ps h=>by unfold cg at h;split at h;exact⟨#[],by rw[h];simp⟩;exact e.tb _ _ h⟩
theorem BY{a:Addr}(h:a ∉ A):cg F H A a=F a:=by unfold cg;rw[if_neg h]
theorem cO1{a:Addr}(h:a∈A):cg F H A a=H a:=by unfold cg;rw[if_pos h]
theorem R.cg(e:ag F H)(r:R F H ds vs A):∀A',A ⊆ A'->R (L3.cg F H A') H (ds.map D.sh) vs []:=by
 induction r with
 | nil=>exact λ_ _=>.nil
 | ax _ ih=>exact λA' h=>.ax (ih A' h)
 | bl _ ih=>exact λA' h=>.bl (ih A' h)
 | int _ ih=>exact λA' h=>.int (ih A' h)
 | str _ ih=>exact λA' h=>.str (ih A' h)
 | shr h x _ i1 ih =>
  intro A' hA
  rw[dP,fh,lM x.pl]
  exact .shr (lN e _ _ h) (x.shared (lN e) (ag.refl _)) (ih A' hA)
 | own h f _ _ i1 i2 =>
  intro A' hA
  rw[dP,fh]
  exact .shr ((cO1 (hA (by simp))).trans h) (i1 A' λa ha=>hA (by simp[ha])) (i2 A' λa ha=>hA (by simp[ha]))
 | tup h _ _ i1 i2 =>
  intro A' hA
  rw[dP,ky]
  simpa using R.tup h (i1 A' λa ha=>hA (by simp[ha])) (i2 A' λa ha=>hA (by simp[ha]))
 | obj h l x _ i1 ih=>exact λA' hA=>.obj h l (x.shared (lN e) (ag.refl _)) (ih A' hA)
 | fz h x _ i1 ih=>exact λA' hA=>.fz (lN e _ _ h) (x.shared (lN e) (ag.refl _)) (ih A' hA)
 | bJ h _ ih=>exact λA' hA=>.bJ h (ih A' hA)
theorem R.lists(r:R F H ds vs A):∀a∈A,(∃ws,H a=some (.lst ws))/\F a=none:=by
 induction r with
 | nil=>simp
 | ax _ ih=>exact ih
 | bl _ ih=>exact ih
 | int _ ih=>exact ih
 | str _ ih=>exact ih
 | shr h x _ i1 ih=>exact ih
 | own h f _ _ i1 i2 =>
  intro a ha
  rcases bX.mp ha with rfl | ha
  ·exact⟨⟨_,h⟩,f⟩
  ·exact(bW.mp ha).elim (i1 a) (i2 a)
 | tup h _ _ i1 i2=>exact λa ha=>(bW.mp ha).elim (i1 a) (i2 a)
 | obj h l x _ i1 ih=>exact ih
 | fz h x _ i1 ih=>exact ih
 | bJ h _ ih=>exact ih
theorem R.GU(r:R F H ds vs A)(hd:ds.all D.fr=true)(e:ag F' F):R F' H ds vs A:=by
 induction r with
 | nil=>exact .nil
 | ax _ ih=>exact .ax (ih (by simpa[D.fr]using hd))
 | bl _ ih=>exact .bl (ih (by simpa[D.fr]using hd))
 | int _ ih=>exact .int (ih (by simpa[D.fr]using hd))
 | str _ ih=>exact .str (ih (by simpa[D.fr]using hd))
 | shr h x _ i1 ih=>simp[gh]at hd
 | own h f _ _ i1 i2 =>
  rw[eN,gh,dY,mG]at hd
  exact .own h (e.free f) (i1 hd.1) (i2 hd.2)
 | tup h _ _ i1 i2 =>
  rw[eN,m4,dY]at hd
  exact .tup h (i1 hd.1) (i2 hd.2)
 | obj h l x _ i1 ih=>simp[D.fr]at hd
 | fz h x _ i1 ih=>simp[D.fr]at hd
 | bJ h _ ih=>exact .bJ h (ih (by simpa[D.fr]using hd))
theorem R.inj(r:R F H ds vs A):∀{B:List Addr},R F H ds vs B->A=B:=by
 induction r with
 | nil=>intro B q;cases q;rfl
 | ax _ ih=>intro B q;cases q with | ax q=>exact ih q
 | bl _ ih=>intro B q;cases q with | bl q=>exact ih q
 | int _ ih=>intro B q;cases q with | int q=>exact ih q
 | str _ ih=>intro B q;cases q with | str q=>exact ih q
 | shr h x _ i1 ih=>intro B q;cases q with | shr _ _ q=>exact ih q
 | own h f _ _ i1 i2 =>
  intro B q
  cases q with
  | own h' f' x' q =>
   rw[h]at h';cases h'
   rw[i1 x',i2 q]
 | tup h _ _ i1 i2 =>
  intro B q
  cases q with
  | tup h' x' q =>
   rw[h]at h';cases h'
   rw[i1 x',i2 q]
 | obj h l x _ i1 ih=>intro B q;cases q with | obj _ _ _ q=>exact ih q
 | fz h x _ i1 ih=>intro B q;cases q with | fz _ _ q=>exact ih q
 | bJ h _ ih=>intro B q;cases q with | bJ _ q=>exact ih q
theorem R.perm{ps qs:List (D × V)}(hp:ps.Perm qs):∀{A:List Addr},R F H (ps.map (·.1)) (ps.map (·.2)) A->∃A',R F H (qs.map (·.1)) (qs.map (·.2)) A'/\A.Perm A':=by
 induction hp with
 | nil=>exact λr=>⟨_,r,.refl _⟩
 | cons x _ ih =>
  intro A r
  obtain⟨v,cE,A1,A2,e,rfl,h1,h2⟩:=R.cR r
  obtain⟨rfl,rfl⟩:=mH e
  obtain⟨A',r',p⟩:=ih h2
  exact⟨A1++A',h1.cons r',p.append_left _⟩
 | swap x y l =>
  intro A r
  obtain⟨v,cE,A1,A2,e,rfl,h1,h2⟩:=R.cR r
  obtain⟨rfl,rfl⟩:=mH e
  obtain⟨v2,Ti,B1,B2,e,rfl,h3,h4⟩:=R.cR h2
  obtain⟨rfl,rfl⟩:=mH e
  exact⟨B1++(A1++B2),h3.cons (h1.cons h4),by rw[<-fC,<- fC];exact oh.append_right _⟩
 | trans _ _ i1 i2 =>
  intro A r
  obtain⟨A',r',p⟩:=i1 r
  obtain⟨A2,r2,p2⟩:=i2 r'
  exact⟨A2,r2,p.trans p2⟩
noncomputable def Full(F H:Hp):Prop:=∀a o,H a=some o->(∀ws,o≠.lst ws)->F a=some o
theorem Full.refl(H:Hp):Full H H:=λ_ _ h _=>h
theorem R.full(hF:Full F H)(hs:ag F H')(r:R F H ds vs A)(e:A=[]):R F H' ds vs []:=by
 induction r with
 | nil=>exact .nil
 | ax _ ih=>exact .ax (ih e)
 | bl _ ih=>exact .bl (ih e)
 | int _ ih=>exact .int (ih e)
 | str _ ih=>exact .str (ih e)
 | shr h x _ i1 ih=>exact .shr h (i1 rfl) (ih e)
 | own h f _ _ i1 i2=>cases e
 | tup h _ _ i1 i2 =>
  obtain⟨e1,e2⟩:=Fh.mp e
  exact R.tup (A:=[]) (B:=[]) (hs _ _ (hF _ _ h (by intro ws z;cases z))) (i1 e1) (i2 e2)
 | obj h l x _ i1 ih=>exact .obj (hs _ _ (hF _ _ h (by intro ws z;cases z))) l (i1 rfl) (ih e)
 | fz h x _ i1 ih=>exact .fz h (i1 rfl) (ih e)
 | bJ h _ ih=>exact .bJ (h.mono λa o e n t=>hs.get a o (hF a o e n) t) (ih e)
open Classical in
noncomputable def snap(F H:Hp):Hp:=λa=>if(∃o,H a=some o/\∀ws,o≠.lst ws)then H a else F a
theorem oH:Full (snap F H) H:=λa o h n=>by unfold snap;rw[if_pos ⟨o,h,n⟩];exact h
theorem m5(e:ag F H):ag F (snap F H):=⟨λa o h n=>by
 unfold snap;split
 ·exact e.get a o h n
 ·exact h,λa ps h=>by
 unfold snap;split
 ·exact e.tb a ps h
 ·exact⟨#[],by rw[h];simp⟩⟩
theorem cu3(e:ag F H):ag (snap F H) H:=⟨λa o h n=>by
 unfold snap at h;split at h
 ·exact h
 ·exact e.get a o h n,λa ps h=>by
 unfold snap at h;split at h
 ·exact⟨#[],by rw[h];simp⟩
 ·exact e.tb a ps h⟩
theorem cm3(e:ag F H){a:Addr}{ws:List V}(h:snap F H a=some (.lst ws)):F a=some (.lst ws):=by
 unfold snap at h;split at h
 ·rename_i z
  obtain⟨o,h1,h2⟩:=z
  rw[h]at h1;exact absurd (cQ h1).symm (h2 ws)
 ·exact h
theorem ce9{a:Addr}{ws:List V}(h:H a=some (.lst ws))(n:F a=none):snap F H a=none:=by
 unfold snap;split
 ·rename_i z
  obtain⟨o,h1,h2⟩:=z
  rw[h]at h1;exact absurd (cQ h1).symm (h2 ws)
 ·exact n
end
end L3
namespace L3
open PySem L2
noncomputable abbrev Dl:=List (Option D)
inductive RS(F H:Hp):Dl->St->List Addr->Prop
 | nil:RS F H [] [] []
 | ax {δ σ o C}:RS F H δ σ C->RS F H (none::δ) (o::σ) C
 | gI {d v A δ σ C}:R F H [d] [v] A->RS F H δ σ C->RS F H (some d::δ) (some v::σ) (A++C)
theorem gZ{A B:List Addr}:(A++B).Nodup↔A.Nodup/\B.Nodup/\∀a∈A,a ∉ B:=by
 rw[Rb]
 constructor
 ·rintro⟨h1,h2,h3⟩;exact⟨h1,h2,λa ha hb=>h3 a ha a hb rfl⟩
 ·rintro⟨h1,h2,h3⟩;exact⟨h1,h2,λa ha b hb e=>h3 a ha (e ▸ hb)⟩
section
variable{F F' H H':Hp}{d:D}{v:V}{δ:Dl}{σ:St}{A C:List Addr}{i:Nat}
theorem RS.length(r:RS F H δ σ C):δ.length=σ.length:=by induction r<;>simp_all
theorem RS.pick:∀{δ:Dl} {σ:St} {C:List Addr} {i:Nat},RS F H δ σ C->δ[i]?=some (some d)->∃v A C',σ[i]?=some (some v)/\R F H [d] [v] A/\RS F H (δ.set i none) σ C'/\C.Perm (A++C')
 | _,_,_,_,.nil,e=>by simp at e
 | _,_,_,i,.ax r,e=>by
  cases i with
  | zero=>simp at e
  | succ i =>
   obtain⟨v,A,C',e1,h1,h2,p⟩:=RS.pick r (by simpa using e)
   exact⟨v,A,C',by simpa using e1,h1,.ax h2,p⟩
 | _,_,_,i,.gI (A:=A0) (C:=C0) h r,e=>by
  cases i with
  | zero =>
   simp at e;subst e
   exact⟨_,A0,C0,rfl,h,.ax r,.refl _⟩
  | succ i =>
   obtain⟨v,A,C',e1,h1,h2,p⟩:=RS.pick r (by simpa using e)
   refine⟨v,A,A0++C',by simpa using e1,h1,.gI h h2,(p.append_left A0).trans ?_⟩
   rw[<-fC,<- fC]
   exact oh.append_right _
theorem RS.fill:∀{δ:Dl} {σ:St} {C:List Addr} {i:Nat},RS F H δ σ C->δ[i]?=some none->σ[i]?=some (some v)->R F H [d] [v] A->∃C',RS F H (δ.set i (some d)) σ C'/\C'.Perm (A++C)
 | _,_,_,_,.nil,e,_,_=>by simp at e
 | _,_,_,i,.ax r,e,e2,h=>by
  cases i with
  | zero=>simp at e2;subst e2;exact⟨_,.gI h r,.refl _⟩
  | succ i =>
   obtain⟨C',h1,p⟩:=RS.fill r (by simpa using e) (by simpa using e2) h
   exact⟨C',.ax h1,p⟩
 | _,_,_,i,.gI (A:=A0) (C:=C0) h0 r,e,e2,h=>by
  cases i with
  | zero=>simp at e
  | succ i =>
   obtain⟨C',h1,p⟩:=RS.fill r (by simpa using e) (by simpa using e2) h
   refine⟨A0++C',.gI h0 h1,(p.append_left A0).trans ?_⟩
   rw[<-fC,<- fC]
   exact oh.append_right _
theorem RS.drop:∀{δ:Dl} {σ:St} {C:List Addr} (i:Nat),RS F H δ σ C->∃C',RS F H (δ.set i none) σ C'/\C'.Sublist C
 | _,_,_,_,.nil=>⟨_,.nil,.refl _⟩
 | _,_,_,i,.ax r=>by
  cases i with
  | zero=>exact⟨_,.ax r,.refl _⟩
  | succ i=>obtain⟨C',h,s⟩:=RS.drop i r;exact⟨C',.ax h,s⟩
 | _,_,_,i,.gI (A:=A0) h0 r=>by
  cases i with
  | zero=>exact⟨_,.ax r,List.sublist_append_right _ _⟩
  | succ i=>obtain⟨C',h,s⟩:=RS.drop i r;exact⟨_,.gI h0 h,(Rc A0).append s⟩
theorem RS.za:∀{δ:Dl} {σ:St} {C:List Addr} {i:Nat} (o:Option V),RS F H δ σ C->(δ[i]?=some none\/δ[i]?=none)->RS F H δ (σ.set i o) C
 | _,_,_,_,_,.nil,_=>.nil
 | _,_,_,i,_,.ax r,e=>by
  cases i with
  | zero=>exact .ax r
  | succ i=>exact .ax (RS.za _ r (by simpa using e))
 | _,_,_,i,_,.gI h0 r,e=>by
  cases i with
  | zero=>simp at e
  | succ i=>exact .gI h0 (RS.za _ r (by simpa using e))
theorem RS.keep{W:List Addr}(hf:ag F F')(hb:gY W H H')(hl:iW W H)(r:RS F H δ σ C)(hn:∀a∈C,F' a=none)(hd:∀a∈C,a ∉ W):RS F' H' δ σ C:=by
 induction r with
 | nil=>exact .nil
 | ax _ ih=>exact .ax (ih hn hd)
 | gI h _ ih=>exact .gI (h.keep hf hb hl (λa ha=>hn a (by simp[ha])) λa ha=>hd a (by simp[ha])) (ih (λa ha=>hn a (by simp[ha])) λa ha=>hd a (by simp[ha]))
theorem RS.lists(r:RS F H δ σ C):∀a∈C,(∃ws,H a=some (.lst ws))/\F a=none:=by
 induction r with
 | nil=>simp
 | ax _ ih=>exact ih
 | gI h _ ih=>exact λa ha=>(bW.mp ha).elim (h.lists a) (ih a)
end
structure Bs where
 H0:Hp
 F0:Hp
structure au(B:Bs)(F H:Hp)(σ:St)(δ:Dl)(ts:List (D × V)):Prop where
 ext:ag F H
 b1:ag B.H0 H
 b2:ag B.F0 F
 b3:∀a ws,F a=some (.lst ws)->B.F0 a=some (.lst ws)\/B.H0 a=none
 own:∃A C,R F H (ts.map (·.1)) (ts.map (·.2)) A/\RS F H δ σ C/\(A++C).Nodup/\∀a∈A++C,B.H0 a=none
section
variable{B:Bs}{F F' H H':Hp}{d:D}{v:V}{δ:Dl}{σ:St}{ts ps:List (D × V)}{A C W:List Addr}{i:Nat}{p:Addr}{xs ys:List D}{vs ws:List V}
theorem au.look(c:au B F H σ δ ts)(e:δ[i]?=some (some d)):∃v,σ[i]?=some (some v)/\S F H [d] [v]:=by
 obtain⟨A,C,r,s,nd,fr⟩:=c.own
 obtain⟨v,A',C',e1,h1,h2,p⟩:=s.pick e
 exact⟨v,e1,h1.s⟩
theorem au.len(c:au B F H σ δ ts):δ.length=σ.length:=let⟨_,_,_,s,_⟩:=c.own;s.length
theorem au.grow(c:au B F H σ δ ts)(h:ag H H'):au B F H' σ δ ts:=by
 obtain⟨A,C,r,s,nd,fr⟩:=c.own
 exact⟨c.ext.trans h,c.b1.trans h,c.b2,c.b3,A,C,r.grow (ag.refl _) h λa ha=>(r.lists a ha).2,s.keep (ag.refl _) (gY.same h) iW.nil (λa ha=>(s.lists a ha).2) (by simp),nd,fr⟩
theorem au.pop(c:au B F H σ δ ((d,v)::ts)):au B F H σ δ ts:=by
 obtain⟨A,C,r,s,nd,fr⟩:=c.own
 obtain⟨w,cE,A1,A2,e,rfl,h1,h2⟩:=R.cR r
 obtain⟨rfl,rfl⟩:=mH e
 refine⟨c.ext,c.b1,c.b2,c.b3,A2,C,h2,s,?_,λa ha=>fr a (by simp at ha ⊢;exact .inr ha)⟩
 rw[fC]at nd
 exact(gZ.mp nd).2.1
theorem au.top(c:au B F H σ δ ((d,v)::ts)):S F H [d] [v]:=by
 obtain⟨A,C,r,s,nd,fr⟩:=c.own
 obtain⟨w,cE,A1,A2,e,rfl,h1,h2⟩:=R.cR r
 obtain⟨rfl,rfl⟩:=mH e
 exact h1.s
theorem au.pushS(c:au B F H σ δ ts)(s:S F H [d] [v])(pl:d.pl=true):au B F H σ δ ((d,v)::ts):=by
 obtain⟨A,C,r,q,nd,fr⟩:=c.own
 exact⟨c.ext,c.b1,c.b2,c.b3,A,C,(s.r (by simp[pl])).cons r,q,nd,fr⟩
theorem ag.upd{o:HO}(h:H p=none):ag H (upd H p o):=.of λb u e=>by rw[bj (fg e h)];exact e
theorem au.pack(c:au B F H σ δ (ps++ts))(hs:ag H H')(k:∀A1,R F H' (ps.map (·.1)) (ps.map (·.2)) A1->A1.Nodup->∃A',R F H' [d] [v] A'/\A'.Nodup/\∀a∈A',a∈A1\/H a=none):au B F H' σ δ ((d,v)::ts):=by
 obtain⟨A,C,r,s,nd,fr⟩:=c.own
 rw[jW,jW]at r
 obtain⟨v1,v2,A1,A2,e,rfl,h1,h2⟩:=R.split r
 have l1:(ps.map (·.2)).length=v1.length:=by rw[<-h1.length];simp
 obtain⟨rfl,rfl⟩:=Fj e l1
 rw[fC]at nd fr
 obtain⟨n1,n2,n3⟩:=gZ.mp nd
 have g1:=h1.grow (ag.refl F) hs λa ha=>(h1.lists a ha).2
 have g2:=h2.grow (ag.refl F) hs λa ha=>(h2.lists a ha).2
 have gs:=s.keep (ag.refl F) (gY.same hs) iW.nil (λa ha=>(s.lists a ha).2) (by simp)
 obtain⟨A',r',qY,sub⟩:=k A1 g1 n1
 refine⟨c.ext.trans hs,c.b1.trans hs,c.b2,c.b3,A'++A2,C,r'.cons g2,gs,?_,?_⟩
 ·rw[fC]
  refine gZ.mpr ⟨qY,n2,λa ha hb=>?_⟩
  rcases sub a ha with z | z
  ·exact n3 a z hb
  ·rcases bW.mp hb with y | y
   ·obtain⟨⟨_,q⟩,_⟩:=h2.lists a y;rw[z]at q;cases q
   ·obtain⟨⟨_,q⟩,_⟩:=s.lists a y;rw[z]at q;cases q
 ·intro a ha
  rw[fC]at ha
  rcases bW.mp ha with y | y
  ·rcases sub a y with z | z
   ·exact fr a (by simp[z])
   ·exact c.b1.free z
  ·exact fr a (fB _ y)
theorem au.GV(c:au B F H σ δ ts)(hs:ag H H')(r:R F H' [d] [v] A)(nd:A.Nodup)(fr:∀a∈A,H a=none):au B F H' σ δ ((d,v)::ts) :=
 au.pack (ps:=[]) c hs λ_ _ _=>⟨A,r,nd,λa ha=>.inr (fr a ha)⟩
theorem au.oI(c:au B F H σ δ ts)(hp:H p=none)(s:S F H xs vs)(pl:xs.all D.pl=true):au B F (upd H p (.lst vs)) σ δ ((.lst true xs,.ref p)::ts) :=
 c.GV (ag.upd hp) (A:=[p]) (by simpa using R.own cA (c.ext.free hp) ((s.r pl).shared (ag.refl _) (ag.upd hp)) .nil) (by simp) (by simp[hp])
theorem au.dJ4(c:au B F H σ δ (ps++ts))(hp:H p=none):au B F (upd H p (.lst (ps.map (·.2)))) σ δ ((.lst true (ps.map (·.1)),.ref p)::ts):=by
 refine c.pack (ag.upd hp) λA1 r nd=>⟨p::A1,by simpa using R.own cA (c.ext.free hp) r .nil,iG.mpr ⟨λh=>?_,nd⟩,λa ha=>?_⟩
 ·obtain⟨A,C,r0,_,_,_⟩:=c.own
  rw[jW,jW]at r0
  obtain⟨v1,v2,B1,B2,e,rfl,h1,h2⟩:=R.split r0
  have l1:(ps.map (·.2)).length=v1.length:=by rw[<-h1.length];simp
  obtain⟨rfl,rfl⟩:=Fj e l1
  have g1:=h1.grow (ag.refl F) (ag.upd (o:=.lst (ps.map (·.2))) hp) λa ha=>(h1.lists a ha).2
  have:A1=B1:=R.inj r g1
  subst this
  obtain⟨⟨_,q⟩,_⟩:=h1.lists p h
  rw[hp]at q;cases q
 ·rcases bX.mp ha with rfl | h
  ·exact .inr hp
  ·exact .inl h
theorem au.dJ5(c:au B F H σ δ (ps++ts))(hp:H p=none):au B F (upd H p (.tup (ps.map (·.2)))) σ δ ((.tup (ps.map (·.1)),.ref p)::ts) :=
 c.pack (ag.upd hp) λA1 r nd=>⟨A1,by simpa using R.tup (F:=F) cA r .nil,nd,λa ha=>.inl ha⟩
theorem au.perm(c:au B F H σ δ ps)(h:ps.Perm ts):au B F H σ δ ts:=by
 obtain⟨A,C,r,s,nd,fr⟩:=c.own
 obtain⟨A',r',p⟩:=r.perm h
 have pp:=p.append_right C
 exact⟨c.ext,c.b1,c.b2,c.b3,A',C,r',s,pp.nodup_iff.mp nd,λa ha=>fr a (pp.mem_iff.mpr ha)⟩
theorem au.move(c:au B F H σ δ ts)(e:δ[i]?=some (some d)):∃v,σ[i]?=some (some v)/\au B F H σ (δ.set i none) ((d,v)::ts):=by
 obtain⟨A,C,r,s,nd,fr⟩:=c.own
 obtain⟨v,A',C',e1,h1,h2,p⟩:=s.pick e
 have pp:(A++C).Perm ((A'++A)++C'):=by
  refine(p.append_left A).trans ?_
  rw[<-fC]
  exact oh.append_right _
 exact⟨v,e1,c.ext,c.b1,c.b2,c.b3,A'++A,C',h1.cons r,h2,pp.nodup_iff.mp nd,λa ha=>fr a (pp.mem_iff.mpr ha)⟩
theorem au.forget(c:au B F H σ δ ts)(i:Nat):au B F H σ (δ.set i none) ts:=by
 obtain⟨A,C,r,s,nd,fr⟩:=c.own
 obtain⟨C',h,sb⟩:=s.drop i
 exact⟨c.ext,c.b1,c.b2,c.b3,A,C',r,h,nd.sublist ((Rc A).append sb),λa ha=>fr a (((Rc A).append sb).subset ha)⟩
theorem au.fill(c:au B F H σ δ ((d,v)::ts))(e:δ[i]?=some none)(e2:σ[i]?=some (some v)):au B F H σ (δ.set i (some d)) ts:=by
 obtain⟨A,C,r,s,nd,fr⟩:=c.own
 obtain⟨w,cE,A1,A2,e',rfl,h1,h2⟩:=R.cR r
 obtain⟨rfl,rfl⟩:=mH e'
 obtain⟨C',s',p⟩:=s.fill e e2 h1
 have pp:((A1++A2)++C).Perm (A2++C'):=by
  refine((oh (l₁:=A1) (l₂:=A2)).append_right C).trans ?_
  rw[fC]
  exact(p.symm).append_left A2
 exact⟨c.ext,c.b1,c.b2,c.b3,A2,C',h2,s',pp.nodup_iff.mp nd,λa ha=>fr a (pp.mem_iff.mpr ha)⟩
theorem au.za(c:au B F H σ δ ts)(o:Option V)(e:δ[i]?=some none\/δ[i]?=none):au B F H (σ.set i o) δ ts:=by
 obtain⟨A,C,r,s,nd,fr⟩:=c.own
 exact⟨c.ext,c.b1,c.b2,c.b3,A,C,r,s.za o e,nd,fr⟩
theorem au.store(c:au B F H σ δ ((d,v)::ts))(i:Nat):au B F H (σ.set i (some v)) (δ.set i (some d)) ts:=by
 by_cases hi:i<δ.length
 ·have c1:=c.forget i
  have hs:i<σ.length:=by rw[<-c.len];exact hi
  have e:(δ.set i none)[i]?=some none:=by simp[hi]
  have c2:=(c1.za (some v) (.inl e)).fill (i:=i) e (by simp[hs])
  rwa [Rh]at c2
 ·have hs:¬ i<σ.length:=by rw[<-c.len];exact hi
  rw[di5 (by omega),di5 (by omega)]
  exact c.pop
theorem au.mut(c:au B F H σ δ (ps++ts))(e:δ[i]?=some (some (.lst true xs)))(e2:σ[i]?=some (some (.ref p)))
  (k:∀ws A1 A2,H p=some (.lst ws)->R F H xs ws A1->R F H (ps.map (·.1)) (ps.map (·.2)) A2->(A1++A2).Nodup->∃A',R F H ys vs A'/\A'.Nodup/\∀a∈A',a∈A1++A2) :
  au B F (upd H p (.lst vs)) σ (δ.set i (some (.lst true ys))) ts:=by
 have hi:i<δ.length:=(iF.mp e).1
 obtain⟨v,e3,c1⟩:=c.move e
 rw[e2]at e3;cases e3
 obtain⟨A,C,r,s,nd,fr⟩:=c1.own
 have r':R F H (([.lst true xs]++ps.map (·.1))++ts.map (·.1)) ((.ref p::ps.map (·.2))++ts.map (·.2)) A:=by simpa using r
 obtain⟨v1,v2,A1,A2,e4,rfl,h1,h2⟩:=R.split r'
 have l1:(V.ref p::ps.map (·.2)).length=v1.length:=by rw[<-h1.length];simp
 obtain⟨rfl,rfl⟩:=Fj e4 l1
 cases h1 with
 | @own _ uD _ B1 _ _ B2 hH hF hx hr =>
  rw[fC]at nd fr
  obtain⟨n1,n2,n3⟩:=gZ.mp nd
  obtain⟨m1,m2⟩:=iG.mp n1
  obtain⟨A',ra,nda,sub⟩:=k uD B1 B2 hH hx hr m2
  have pA:p ∉ A':=λz=>m1 (sub _ z)
  have pR:p ∉ A2++C:=λz=>n3 p (by simp) z
  have but:gY [p] H (upd H p (.lst vs)):=⟨λa o q z _=>by rw[bj (by simpa using z)];exact q⟩
  have hl:iW [p] H:=λa ha=>by rw[iH.mp ha];exact⟨_,hH⟩
  have g1:=ra.keep (ag.refl F) but hl (λa ha=>(ra.lists a ha).2) λa ha z=>pA (by rw[<-iH.mp z];exact ha)
  have g2:=h2.keep (ag.refl F) but hl (λa ha=>(h2.lists a ha).2) λa ha z=>pR (by rw[<-iH.mp z];exact gQ _ ha)
  have gs:=s.keep (ag.refl F) but hl (λa ha=>(s.lists a ha).2) λa ha z=>pR (by rw[<-iH.mp z];exact fB _ ha)
  have fp:B.H0 p=none:=fr p (by simp)
  have b1:ag B.H0 (upd H p (.lst vs)):=⟨λa o q n=>by
   rw[bj (λz=>by rw[z,fp]at q;cases q)]
   exact c1.b1.get a o q n,λa ps q=>by
   rw[bj (λz=>by rw[z,fp]at q;cases q)]
   exact c1.b1.tb a ps q⟩
  have ext:ag F (upd H p (.lst vs)):=⟨λa o q n=>by
   rw[bj (λz=>by rw[z,hF]at q;cases q)]
   exact c1.ext.get a o q n,λa ps q=>by
   rw[bj (λz=>by rw[z,hF]at q;cases q)]
   exact c1.ext.tb a ps q⟩
  have c2:au B F (upd H p (.lst vs)) σ (δ.set i none) ((.lst true ys,.ref p)::ts):=by
   refine⟨ext,b1,c1.b2,c1.b3,(p::A')++A2,C,R.cons (by simpa using R.own cA hF g1 .nil) g2,gs,?_,?_⟩
   ·rw[fC]
    refine gZ.mpr ⟨iG.mpr ⟨pA,nda⟩,n2,λa ha hb=>?_⟩
    rcases bX.mp ha with rfl | ha
    ·exact pR hb
    ·exact n3 a (eE _ (sub a ha)) hb
   ·intro a ha
    rw[fC]at ha
    rcases bW.mp ha with z | z
    ·rcases bX.mp z with rfl | z
     ·exact fp
     ·exact fr a (gQ _ (eE _ (sub a z)))
    ·exact fr a (fB _ z)
  have c3:=c2.fill (i:=i) (by simp[hi]) e2
  rwa [Rh]at c3
theorem au.GW(c:au B F H σ δ ((d,v)::ts)):∃F',ag F F'/\au B F' H σ δ ((d.sh,v)::ts):=by
 obtain⟨A,C,r,s,nd,fr⟩:=c.own
 obtain⟨w,cE,A1,A2,e',rfl,h1,h2⟩:=R.cR r
 obtain⟨rfl,rfl⟩:=mH e'
 rw[fC]at nd fr
 obtain⟨n1,n2,n3⟩:=gZ.mp nd
 have out:∀a∈A2++C,cg F H A1 a=F a:=λa ha=>BY λz=>n3 a z ha
 have b3:∀a o,cg F H A1 a=some (.lst o)->B.F0 a=some (.lst o)\/B.H0 a=none:=λa o q=>by
  by_cases z:a∈A1
  ·exact .inr (fr a (gQ _ z))
  ·rw[BY z]at q;exact c.b3 a o q
 refine⟨cg F H A1,lN c.ext,Th c.ext,c.b1,c.b2.trans (lN c.ext),b3,A2,C,?_,?_,n2,λa ha=>fr a (fB _ ha)⟩
 ·have g1:=h1.cg c.ext A1 (λ_ h=>h)
  exact R.cons (A:=[]) g1 (h2.keep (lN c.ext) (gY.same (ag.refl H)) iW.nil (λa ha=>by rw[out a (gQ _ ha)];exact(h2.lists a ha).2) (by simp))
 ·exact s.keep (lN c.ext) (gY.same (ag.refl H)) iW.nil (λa ha=>by rw[out a (fB _ ha)];exact(s.lists a ha).2) (by simp)
theorem au.freeze(c:au B F H σ δ ts)(e:δ[i]?=some (some d)):∃F',ag F F'/\au B F' H σ (δ.set i (some d.sh)) ts:=by
 have hi:i<δ.length:=(iF.mp e).1
 obtain⟨v,e2,c1⟩:=c.move e
 obtain⟨F',s,c2⟩:=c1.GW
 refine⟨F',s,?_⟩
 have c3:=c2.fill (i:=i) (by simp[hi]) e2
 rwa [Rh]at c3
theorem au.rebase(c:au B F H σ δ ts):au ⟨B.H0,F⟩ F H σ δ ts:=⟨c.ext,c.b1,ag.refl _,λ_ _ q=>.inl q,c.own⟩
theorem au.dJ7{F1:Hp}(c:au ⟨B.H0,F1⟩ F H σ δ ts)(h:ag B.F0 F1)(h3:∀a ws,F1 a=some (.lst ws)->B.F0 a=some (.lst ws)\/B.H0 a=none):au B F H σ δ ts :=
 ⟨c.ext,c.b1,h.trans c.b2,λa o q=>(c.b3 a o q).elim (h3 a o) .inr,c.own⟩
theorem au.call(c:au B F H σ δ ts)(hs:ag H H')(hf:ag F F')(he:ag F' H')(h3:∀a ws,F' a=some (.lst ws)->F a=some (.lst ws)\/H a=none)(r:R F' H' [d] [v] A)(nd:A.Nodup)(fr:∀a∈A,H a=none) :
  au B F' H' σ δ ((d,v)::ts):=by
 obtain⟨A0,C,r0,s,nd0,fr0⟩:=c.own
 have no:∀a,(∃ws,H a=some (.lst ws))/\F a=none->F' a=none:=λa zz=>by
  obtain⟨⟨ws,e⟩,n⟩:=zz
  cases q:F' a with
  | none=>rfl
  | some o =>
   have q2:H' a=some o:=by
    cases n:iV o with
    | true=>exact he.get a o q n
    | false =>
     obtain⟨ps,rfl⟩:=GP n
     obtain⟨m,z⟩:=he.tb a ps q
     rw[hs a _ e]at z
     cases z
   rw[hs a _ e]at q2
   cases q2
   rcases h3 a ws q with z | z
   ·rw[n]at z;cases z
   ·rw[e]at z;cases z
 refine⟨he,c.b1.trans hs,c.b2.trans hf,λa o q=>(h3 a o q).elim (c.b3 a o) λz=>.inr (c.b1.free z),A++A0,C,R.cons r (r0.grow hf hs λa ha=>no a (r0.lists a ha)),
  s.keep hf (gY.same hs) iW.nil (λa ha=>no a (s.lists a ha)) (by simp),?_,?_⟩
 ·rw[fC]
  refine gZ.mpr ⟨nd,nd0,λa ha hb=>?_⟩
  have z:=fr a ha
  rcases bW.mp hb with y | y
  ·obtain⟨⟨_,q⟩,_⟩:=r0.lists a y;rw[z]at q;cases q
  ·obtain⟨⟨_,q⟩,_⟩:=s.lists a y;rw[z]at q;cases q
 ·intro a ha
  rw[fC]at ha
  rcases bW.mp ha with y | y
  ·exact c.b1.free (fr a y)
  ·exact fr0 a y
theorem au.inS(c:au B F H σ δ ((d,v)::ts)):au B F H (some v::σ) (some d::δ) ts:=by
 obtain⟨A,C,r,s,nd,fr⟩:=c.own
 obtain⟨w,cE,A1,A2,e',rfl,h1,h2⟩:=R.cR r
 obtain⟨rfl,rfl⟩:=mH e'
 have pp:((A1++A2)++C).Perm (A2++(A1++C)):=by
  rw[<-fC];exact oh.append_right C
 exact⟨c.ext,c.b1,c.b2,c.b3,A2,A1++C,h2,.gI h1 s,pp.nodup_iff.mp nd,λa ha=>fr a (pp.mem_iff.mpr ha)⟩
theorem au.dK1{w:V}(c:au B F H (some w::σ) (some d::δ) ts):au B F H σ δ ((d,w)::ts):=by
 obtain⟨A,C,r,s,nd,fr⟩:=c.own
 cases s with
 | @gI _ _ A1 _ _ C1 h1 s =>
  have pp:(A++(A1++C1)).Perm ((A1++A)++C1):=by
   rw[<-fC];exact oh.append_right C1
  exact⟨c.ext,c.b1,c.b2,c.b3,A1++A,C1,R.cons h1 r,s,pp.nodup_iff.mp nd,λa ha=>fr a (pp.mem_iff.mpr ha)⟩
theorem au.dK2(c:au B F H σ δ ((d,v)::(.lst true xs,.ref p)::ts))(hp:H p=some (.lst ws)):au B F (upd H p (.lst (ws++[v]))) σ δ ((.lst true (xs++[d]),.ref p)::ts):=by
 have c1:=(c.perm (List.Perm.swap _ _ _)).inS
 refine(au.mut (ps:=[(d,v)]) (i:=0) (ys:=xs++[d]) (vs:=ws++[v]) c1 rfl rfl λfi A1 A2 h r1 r2 nd=>?_).dK1
 rw[hp]at h;cases h
 exact⟨A1++A2,r1.append r2,nd,λa ha=>ha⟩
theorem au.app(c:au B F H σ δ ((d,v)::ts))(e:δ[i]?=some (some (.lst true xs)))(e2:σ[i]?=some (some (.ref p)))(hp:H p=some (.lst ws)) :
  au B F (upd H p (.lst (ws++[v]))) σ (δ.set i (some (.lst true (xs++[d])))) ts :=
 au.mut (ps:=[(d,v)]) c e e2 λfi A1 A2 h r1 r2 nd=>by
  rw[hp]at h;cases h
  exact⟨A1++A2,r1.append r2,nd,λa ha=>ha⟩
theorem R.Tj:∀{xs:List D} {ws:List V} {A1 A2:List Addr} (j:Nat),R F H xs ws A1->R F H [d] [v] A2->(A1++A2).Nodup->∃A',R F H (xs.set j d) (ws.set j v) A'/\A'.Nodup/\∀a∈A',a∈A1++A2
 | [],_,A1,A2,j,r,q,nd=>by cases r;exact⟨[],.nil,by simp,by simp⟩
 | x::xs,_,A1,A2,j,r,q,nd=>by
  obtain⟨w,fi,B1,B2,rfl,rfl,h1,h2⟩:=r.cR
  rw[fC]at nd
  obtain⟨n1,n2,n3⟩:=gZ.mp nd
  cases j with
  | zero =>
   refine⟨A2++B2,q.cons h2,(oh (l₁:=B2) (l₂:=A2)).nodup_iff.mp n2,λa ha=>?_⟩
   simp only[bW]at ha ⊢
   rcases ha with z | z
   ·exact .inr z
   ·exact .inl (.inr z)
  | succ j =>
   obtain⟨A',r',qY,sub⟩:=R.Tj j h2 q n2
   refine⟨B1++A',h1.cons r',gZ.mpr ⟨n1,qY,λa ha hb=>n3 a ha (sub a hb)⟩,λa ha=>?_⟩
   rcases bW.mp ha with z | z
   ·simp[z]
   ·have:=sub a z
    simp only[bW]at this ⊢
    rcases this with z | z
    ·exact .inl (.inr z)
    ·exact .inr z
theorem au.dK3(c:au B F H σ δ ((d,v)::ts))(e:δ[i]?=some (some (.lst true xs)))(e2:σ[i]?=some (some (.ref p)))(hp:H p=some (.lst ws))(j:Nat) :
  au B F (upd H p (.lst (ws.set j v))) σ (δ.set i (some (.lst true (xs.set j d)))) ts :=
 au.mut (ps:=[(d,v)]) c e e2 λfi A1 A2 h r1 r2 nd=>by
  rw[hp]at h;cases h
  exact r1.Tj j r2 nd
theorem au.ownAt(c:au B F H σ δ ts)(e:δ[i]?=some (some (.lst true xs))):∃p ws,σ[i]?=some (some (.ref p))/\H p=some (.lst ws)/\xs.length=ws.length:=by
 obtain⟨v,e1,s⟩:=c.look e
 cases s with
 | own h x _=>exact⟨_,_,e1,h,x.length⟩
theorem RS.start{ds:List D}{vs:List V}(r:R F H ds vs [])(n:Nat):RS F H (ds.map some++aV n none) (vs.map some++aV n none) []:=by
 have z:∀n,RS F H (aV n none) (aV n none) []:=λn=>by
  induction n with
  | zero=>exact .nil
  | succ n ih=>exact .ax ih
 have:∀(ds:List D) (vs:List V),R F H ds vs []->RS F H (ds.map some++aV n none) (vs.map some++aV n none) []:=by
  intro ds
  induction ds with
  | nil=>intro vs r;cases r;exact z n
  | cons d ds ih =>
   intro vs r
   obtain⟨v,cE,A1,A2,rfl,e,h1,h2⟩:=r.cR
   obtain⟨rfl,rfl⟩:=Fh.mp e.symm
   exact .gI (A:=[]) h1 (ih _ h2)
 exact this ds vs r
theorem au.start{ds:List D}{vs:List V}(e:ag F H)(r:R F H ds vs [])(n:Nat):au ⟨H,F⟩ F H (vs.map some++aV n none) (ds.map some++aV n none) [] :=
 ⟨e,ag.refl _,ag.refl _,λ_ _ q=>.inl q,[],[],.nil,RS.start r n,by simp,by simp⟩
theorem au.snap(c:au B F H σ δ ts):au B (L3.snap F H) H σ δ ts:=by
 obtain⟨A,C,r,s,nd,fr⟩:=c.own
 have no:∀a,(∃ws,H a=some (.lst ws))/\F a=none->L3.snap F H a=none:=λa ⟨⟨ws,e⟩,n⟩=>ce9 e n
 exact⟨cu3 c.ext,c.b1,c.b2.trans (m5 c.ext),λa ws q=>c.b3 a ws (cm3 c.ext q),A,C,r.grow (m5 c.ext) (ag.refl _) λa ha=>no a (r.lists a ha),
  s.keep (m5 c.ext) (gY.same (ag.refl _)) iW.nil (λa ha=>no a (s.lists a ha)) (by simp),nd,fr⟩
end
end L3
namespace L3
open PySem L2 PySem.Spec PyProof.Rows
noncomputable abbrev aQ:=Dl->(D->Dl->Prop)->Prop
noncomputable abbrev fS:=Dl->(Bool->Dl->Prop)->Prop
noncomputable abbrev cL:=Dl->(List D->Dl->Prop)->Prop
structure uE where
 nx:Dl->Prop
 rt:D->Prop
 bk:Dl->Prop:=λ_=>False
 ct:Dl->Prop:=λ_=>False
 xc:Addr->Dl->Prop:=λ_ _=>False
 xr:Addr->Dl->Prop:=λ_ _=>False
noncomputable abbrev cO:=uE->Dl->Prop
noncomputable def lE(t:aQ):TE:=λσ H Q=>∃B F δ ts Qd,au B F H σ δ ts/\t δ Qd/\∀d ai v F' H',Qd d ai->ag F F'->ag H H'->au B F' H' σ ai ((d,v)::ts)->Q v H'
noncomputable def lB(t:aQ):TE:=λσ H Q=>∃B F δ ts Qd,au B F H σ δ ts/\t δ Qd/\∀d ai v F' H',Qd d ai->ag F F'->ag H H'->au B F' H' σ ai ts->S F' H' [d] [v]->Q v H'
noncomputable def lT(t:fS):TT:=λσ H Q=>∃B F δ ts Qd,au B F H σ δ ts/\t δ Qd/\∀b ai F' H',Qd b ai->ag F F'->ag H H'->au B F' H' σ ai ts->Q b H'
noncomputable def lA(t:cL):TA:=λσ H Q=>∃B F δ ts Qd,au B F H σ δ ts/\t δ Qd/\∀ds ai vs F' H',Qd ds ai->ag F F'->ag H H'->au B F' H' σ ai ts->S F' H' ds vs->Q vs H'
noncomputable def lO(t:cL):TA:=λσ H Q=>∃B F δ ts Qd,au B F H σ δ ts/\t δ Qd/\∀(ps:List (D × V)) ai F' H',Qd (ps.map (·.1)) ai->ag F F'->ag H H'->au B F' H' σ ai (ps++ts)->Q (ps.map (·.2)) H'
noncomputable def XL(X:Cx)(B:Bs)(Dd:uE):Prop :=
 (∀C ai pins aF F' H' s' a T,Dd.xc C ai->au B F' H' aF ai []->Inv X pins aF H' s'->qV s'.heap a T (.ref C)->Apart X pins H' a->Apart X pins H' T->X.xe (.ref a) s') /\
 (∀C ai pins aF F' H' s' h' e vs,Dd.xr C ai->au B F' H' aF ai []->Inv X pins aF H' s'->Q9 s'.heap h' e (.ref C) vs->X.xe (.ref e) { s' with heap:=h' })
theorem XL.none{X:Cx}{B:Bs}{Dd:uE}(h1:∀C δ,¬ Dd.xc C δ)(h2:∀C δ,¬ Dd.xr C δ):XL X B Dd:=⟨λC δ _ _ _ _ _ _ _ h=>absurd h (h1 C δ),λC δ _ _ _ _ _ _ _ _ h=>absurd h (h2 C δ)⟩
noncomputable def lS(X:Cx)(t:cO):TS:=λD σ H=>∃B F δ Dd,au B F H σ δ []/\t Dd δ/\(∀ai aF F' H',Dd.nx ai->au B F' H' aF ai []->D.nx aF H')/\(∀d v ai aF F' H',Dd.rt d->au B F' H' aF ai [(d,v)]->D.rt v H') /\
 (∀ai aF F' H',Dd.bk ai->au B F' H' aF ai []->D.bk aF H')/\(∀ai aF F' H',Dd.ct ai->au B F' H' aF ai []->D.ct aF H')/\XL X B Dd
section
variable{X:Cx}{e a b c:Expr}{es:List Expr}{pos:Pos}{st:Stmt}{zb:List Stmt}
theorem dE{t t':TE}(h:PE X e t)(m:∀σ H Q,t' σ H Q->t σ H Q):PE X e t':=λpins s σ H Q I q=>h pins s σ H Q I (m σ H Q q)
theorem GX{t t':TT}(h:PT X e t)(m:∀σ H Q,t' σ H Q->t σ H Q):PT X e t':=λpins s σ H Q I q=>h pins s σ H Q I (m σ H Q q)
theorem Tn{t t':TT}(h:PW X e t)(m:∀σ H Q,t' σ H Q->t σ H Q):PW X e t':=λwh pins s σ H Q I q=>h wh pins s σ H Q I (m σ H Q q)
theorem zc{t t':TA}(h:PA X es t)(m:∀σ H Q,t' σ H Q->t σ H Q):PA X es t':=λp pins s σ H Q I q=>h p pins s σ H Q I (m σ H Q q)
theorem lQ{t t':TS}(h:PS X st t)(m:∀D σ H,t' D σ H->t D σ H):PS X st t':=λpins s σ H D I q=>h pins s σ H D I (m D σ H q)
theorem GY{t t':TS}(h:PSs X zb t)(m:∀D σ H,t' D σ H->t D σ H):PSs X zb t':=λpins s σ H D I q=>h pins s σ H D I (m D σ H q)
variable{t u ta tb tc:aQ}
theorem ae(h:PE X e (lE t)):PE X e (lB t):=dE h λσ H Q ⟨B,F,δ,ts,Qd,c,q,k⟩=>⟨B,F,δ,ts,Qd,c,q,λd ai v F' H' hd sf sh c'=>k d ai v F' H' hd sf sh c'.pop c'.top⟩
noncomputable def oJ(t:aQ):aQ:=λδ Q=>t δ λd ai=>d.pl=true/\Q d ai
theorem dF(h:PE X e (lB t)):PE X e (lE (oJ t)):=dE h λσ H Q ⟨B,F,δ,ts,Qd,c,q,k⟩=>⟨B,F,δ,ts,_,c,q,λd ai v F' H' hd sf sh c' s=>k d ai v F' H' hd.2 sf sh (c'.pushS s hd.1)⟩
noncomputable def m6(i:Nat):aQ:=λδ Q=>match δ[i]? with
 | some (some d)=>Q d δ
 | _=>False
noncomputable def m8(i:Nat):aQ:=λδ Q=>match δ[i]? with
 | some (some d)=>Q d (δ.set i none)
 | _=>False
theorem cD7{i:Nat}{δ:Dl}{Q:D->Dl->Prop}(h:m6 i δ Q):∃d,δ[i]?=some (some d)/\Q d δ:=by
 unfold m6 at h
 split at h
 ·rename_i d e;exact⟨d,e,h⟩
 ·exact h.elim
theorem cm6{i:Nat}{δ:Dl}{Q:D->Dl->Prop}(h:m8 i δ Q):∃d,δ[i]?=some (some d)/\Q d (δ.set i none):=by
 unfold m8 at h
 split at h
 ·rename_i d e;exact⟨d,e,h⟩
 ·exact h.elim
noncomputable def dC(d:D):aQ:=λδ Q=>Q d δ
theorem bv(i:Nat){x:Str}(hN:X.N[i]?=some x:=by rfl)(hv:lh X.env.scope x:=by first | exact ah rfl | exact bw (ah rfl) | exact bw (bw rfl))(hd:(x==("__debug__":Str))=false:=by decide)
  (cN:(x==("__classdict__":Str))=false:=by decide):PE X (.Name x pos) (lB (m6 i)):=dE (qM hN hv hd cN) λσ H Q ⟨B,F,δ,ts,Qd,c,q,k⟩=>by
 obtain⟨d,e,q⟩:=cD7 q
 obtain⟨v,e1,s⟩:=c.look e
 exact⟨v,e1,k d δ v F H q (ag.refl _) (ag.refl _) c s⟩
theorem em(i:Nat){x:Str}(hN:X.N[i]?=some x:=by rfl)(hv:lh X.env.scope x:=by first | exact ah rfl | exact bw (ah rfl) | exact bw (bw rfl))(hd:(x==("__debug__":Str))=false:=by decide)
  (cN:(x==("__classdict__":Str))=false:=by decide):PE X (.Name x pos) (lE (m8 i)):=dE (qM hN hv hd cN) λσ H Q ⟨B,F,δ,ts,Qd,c,q,k⟩=>by
 obtain⟨d,e,q⟩:=cm6 q
 obtain⟨v,e1,c'⟩:=c.move e
 exact⟨v,e1,k d _ v F H q (ag.refl _) (ag.refl _) c'⟩
theorem BZ{B:Bs}{F H:Hp}{σ:L2.St}{δ:Dl}{ts:List (D × V)}{Qd:D->Dl->Prop}{Q:VK}{d:D}{v:V}(c:au B F H σ δ ts)(q:Qd d δ)(s:S F H [d] [v])(p:d.pl=true)
  (k:∀d ai v F' H',Qd d ai->ag F F'->ag H H'->au B F' H' σ ai ((d,v)::ts)->Q v H'):Q v H:=k d δ v F H q (ag.refl _) (ag.refl _) (c.pushS s p)
theorem ak{i j}:PE X (.Constant (.int i) j pos) (lE (dC (.int i))):=dE yD λσ H Q ⟨B,F,δ,ts,Qd,c,q,k⟩=>BZ c q (.int .nil) rfl k
theorem jM{i j}:PE X (.Constant (.bool i) j pos) (lE (dC (.bl i))):=dE cX4 λσ H Q ⟨B,F,δ,ts,Qd,c,q,k⟩=>BZ c q (.bl .nil) rfl k
theorem gu{j}:PE X (.Constant .none j pos) (lE (dC .ax)):=dE cP4 λσ H Q ⟨B,F,δ,ts,Qd,c,q,k⟩=>BZ c q (.ax .nil) rfl k
theorem To{x j}:PE X (.Constant (.str x) j pos) (lE (dC (.str x))):=dE cV1 λσ H Q ⟨B,F,δ,ts,Qd,c,q,k⟩=>BZ c q (.str .nil) rfl k
noncomputable abbrev cM:=D->D->(D->Prop)->Prop
noncomputable def B0(r:R2)(rd:cM):Prop:=∀{B:Bs} {F H:Hp} {σ:L2.St} {δ:Dl} {ts:List (D × V)} {x y:D} {v w:V} {Q:VK} {Qd:D->Prop},au B F H σ δ ts->S F H [x] [v]->S F H [y] [w]->rd x y Qd ->
 (∀d z H',Qd d->ag H H'->au B F H' σ δ ((d,z)::ts)->Q z H')->r v w H Q
noncomputable def bR(X:Cx)(f:Value->Value->Sem Value)(rd:cM):Prop:=∃r,cB X f r/\B0 r rd
theorem bR.or{f:Value->Value->Sem Value}{r1 r2:cM}(h1:bR X f r1)(h2:bR X f r2):bR X f λx y Q=>r1 x y Q\/r2 x y Q:=by
 obtain⟨q1,a1,b1⟩:=h1
 obtain⟨q2,a2,b2⟩:=h2
 refine⟨_,a1.or a2,λ{B F H σ δ ts x y v w Q Qd} c sx sy h k=>?_⟩
 rcases h with h | h
 ·exact .inl (b1 c sx sy h k)
 ·exact .inr (b2 c sx sy h k)
theorem bR.imp{f:Value->Value->Sem Value}{r1 r2:cM}(h1:bR X f r1)(h:∀x y Q,r2 x y Q->r1 x y Q):bR X f r2:=by
 obtain⟨q1,a1,b1⟩:=h1
 exact⟨q1,a1,λ{B F H σ δ ts x y v w Q Qd} c sx sy h2 k=>b1 c sx sy (h _ _ _ h2) k⟩
noncomputable def lR(rd:cM)(ta tb:aQ):aQ:=λδ Q=>ta δ λx aq=>tb aq λy aU=>rd x y λd=>Q d aU
theorem GZ{r:R2}{rd:cM}(hl:B0 r rd):∀σ H Q,lE (lR rd ta tb) σ H Q->yL r (lB ta) (lB tb) σ H Q:=λσ H Q ⟨B,F,δ,ts,Qd,c,q,k⟩ =>
 ⟨B,F,δ,ts,_,c,q,λx aq v F1 H1 q1 f1 h1 c1 s1=>⟨B,F1,aq,ts,_,c1,q1,λy aU w F2 H2 q2 f2 h2 c2 s2 =>
  hl c2 (s1.mono f2 h2) s2 q2 λd z H' hd hs c3=>k d aU z F2 H' hd (f1.trans f2) ((h1.trans h2).trans hs) c3⟩⟩
theorem aA{op:Operator}{rd:cM}(ho:bR X (binaryOp op) rd)(ha:PE X a (lB ta))(hb:PE X b (lB tb)):PE X (.BinOp a op b pos) (lE (lR rd ta tb)):=by
 obtain⟨r,h1,h2⟩:=ho
 exact dE (yM h1 ha hb) (GZ h2)
theorem qZ{op:CmpOp}{rd:cM}(ho:bR X (compareOp op) rd)(ha:PE X a (lB ta))(hb:PE X b (lB tb))(hm:behindInMarks op b=false):PE X (.Compare a [op] [b] pos) (lE (lR rd ta tb)):=by
 obtain⟨r,h1,h2⟩:=ho
 exact dE (cM1 h1 ha hb hm) (GZ h2)
noncomputable def dT(t:aQ):fS:=λδ Q=>t δ λd ai=>∃k,d=.bl k/\Q k ai
theorem cq2{te:TE}(h:∀σ H Q,lE t σ H Q->te σ H Q):∀σ H Q,lT (dT t) σ H Q->RW te σ H Q:=λσ H Q zz=>by
 obtain⟨B,F,δ,ts,Qd,c,q,k⟩:=zz
 refine h σ H _ ⟨B,F,δ,ts,_,c,q,λd ai v F' H' hd sf sh c'=>?_⟩
 obtain⟨b,rfl,qb⟩:=hd
 have s:=c'.top
 cases s with
 | bl _=>exact⟨b,rfl,k b ai F' H' qb sf sh c'.pop⟩
theorem bG{op:CmpOp}{rd:cM}(ho:bR X (compareOp op) rd)(ha:PE X a (lB ta))(hb:PE X b (lB tb))(hm:behindInMarks op b=false):PT X (.Compare a [op] [b] pos) (lT (dT (lR rd ta tb))):=by
 obtain⟨r,h1,h2⟩:=ho
 exact GX (cH9 h1 ha hb hm) (cq2 (GZ h2))
noncomputable def oK(r r':cM)(ta tb tc:aQ):aQ:=λδ Q=>ta δ λx aq=>tb aq λy aU=>r x y λd=>∃k,d=.bl k/\if k=true then tc aU λz iw=>r' y z λd'=>Q d' iw else Q (.bl false) aU
theorem jN(h:PE X e (lB t))(he:∀whole,isTrue e X.env whole=(do let v<-whole;standAt e.pos;holding [v] (truthy v)):=by intro _;rfl):PT X e (lT (dT t)) :=
 GX (FC h he) λσ H Q ⟨B,F,δ,ts,Qd,c,q,k⟩=>⟨B,F,δ,ts,_,c,q,λd ai v F' H' hd sf sh c' s=>by
  obtain⟨b,rfl,qb⟩:=hd
  cases s with
  | bl _=>exact⟨b,rfl,k b ai F' H' qb sf sh c'⟩⟩
variable{tA tB:fS}{rest:List Expr}
noncomputable def q0(t u:fS):fS:=λδ Q=>t δ λc aq=>if c=true then u aq Q else Q false aq
noncomputable def q5(t u:fS):fS:=λδ Q=>t δ λc aq=>if c=true then Q true aq else u aq Q
noncomputable def q8(t:fS):fS:=λδ Q=>t δ λc aq=>Q (!c) aq
theorem zd(ha:PT X a (lT tA))(hb:PW X (.BoolOp .And (b::rest) pos) (lT tB)):PW X (.BoolOp .And (a::b::rest) pos) (lT (q0 tA tB)) :=
 Tn (cO7 ha hb) λσ H Q ⟨B,F,δ,ts,Qd,c,q,k⟩=>⟨B,F,δ,ts,_,c,q,λb aq F1 H1 q1 f1 h1 c1=>by
  cases b with
  | true=>exact oB ⟨B,F1,aq,ts,Qd,c1,by simpa using q1,λb ai F' H' hd sf sh c'=>k b ai F' H' hd (f1.trans sf) (h1.trans sh) c'⟩
  | false=>exact lL (k false aq F1 H1 (by simpa using q1) f1 h1 c1)⟩
theorem B3(ha:PT X a (lT tA))(hb:PW X (.BoolOp .Or (b::rest) pos) (lT tB)):PW X (.BoolOp .Or (a::b::rest) pos) (lT (q5 tA tB)) :=
 Tn (cX5 ha hb) λσ H Q ⟨B,F,δ,ts,Qd,c,q,k⟩=>⟨B,F,δ,ts,_,c,q,λb aq F1 H1 q1 f1 h1 c1=>by
  cases b with
  | true=>exact oB (k true aq F1 H1 (by simpa using q1) f1 h1 c1)
  | false=>exact lL ⟨B,F1,aq,ts,Qd,c1,by simpa using q1,λb ai F' H' hd sf sh c'=>k b ai F' H' hd (f1.trans sf) (h1.trans sh) c'⟩⟩
theorem ze(ha:PT X a (lT tA)):PT X (.UnaryOp .Not a pos) (lT (q8 tA)) :=
 GX (FE ha) λσ H Q ⟨B,F,δ,ts,Qd,c,q,k⟩=>⟨B,F,δ,ts,_,c,q,λb aq F1 H1 q1 f1 h1 c1=>k _ aq F1 H1 q1 f1 h1 c1⟩
noncomputable def q9(ta tb:aQ):aQ:=λδ Q=>ta δ λx aq=>∃c,x=.bl c/\if c=true then tb aq Q else Q (.bl false) aq
noncomputable def rf(ta:aQ):aQ:=λδ Q=>ta δ λx aq=>∃c,x=.bl c/\Q (.bl (!c)) aq
theorem B4(ha:PE X a (lB ta))(hb:PE X (.BoolOp .And (b::rest) pos) (lE tb)):PE X (.BoolOp .And (a::b::rest) pos) (lE (q9 ta tb)) :=
 dE (cU4 ha hb) λσ H Q ⟨B,F,δ,ts,Qd,c,q,k⟩=>⟨B,F,δ,ts,_,c,q,λd aq v F1 H1 q1 f1 h1 c1 s1=>by
  obtain⟨b,rfl,qb⟩:=q1
  cases s1 with
  | bl _ =>
   refine⟨b,rfl,?_⟩
   cases b with
   | true=>exact oB ⟨B,F1,aq,ts,Qd,c1,by simpa using qb,λd ai v F' H' hd sf sh c'=>k d ai v F' H' hd (f1.trans sf) (h1.trans sh) c'⟩
   | false=>exact lL (k _ aq _ F1 H1 (by simpa using qb) f1 h1 (c1.pushS (.bl .nil) rfl))⟩
theorem c73(ha:PE X a (lB ta)):PE X (.UnaryOp .Not a pos) (lE (rf ta)) :=
 dE (cS7 ha) λσ H Q ⟨B,F,δ,ts,Qd,c,q,k⟩=>⟨B,F,δ,ts,_,c,q,λd aq v F1 H1 q1 f1 h1 c1 s1=>by
  obtain⟨b,rfl,qb⟩:=q1
  cases s1 with
  | bl _=>exact⟨b,rfl,k _ aq _ F1 H1 qb f1 h1 (c1.pushS (.bl .nil) rfl)⟩⟩
noncomputable def rh(t:fS)(ta tb:aQ):aQ:=λδ Q=>t δ λc aq=>if c=true then ta aq Q else tb aq Q
theorem zf(hc:PT X c (lT tA))(ha:PE X a (lE ta))(hb:PE X b (lE tb)):PE X (.IfExp c a b pos) (lE (rh tA ta tb)) :=
 dE (cq6 hc ha hb) λσ H Q ⟨B,F,δ,ts,Qd,c,q,k⟩=>⟨B,F,δ,ts,_,c,q,λb aq F1 H1 q1 f1 h1 c1=>by
  cases b with
  | true=>exact oB ⟨B,F1,aq,ts,Qd,c1,by simpa using q1,λd ai v F' H' hd sf sh c'=>k d ai v F' H' hd (f1.trans sf) (h1.trans sh) c'⟩
  | false=>exact lL ⟨B,F1,aq,ts,Qd,c1,by simpa using q1,λd ai v F' H' hd sf sh c'=>k d ai v F' H' hd (f1.trans sf) (h1.trans sh) c'⟩⟩
noncomputable def oM:cL:=λδ Q=>Q [] δ
noncomputable def oN(t:aQ)(r:cL):cL:=λδ Q=>t δ λd aq=>r aq λds aU=>Q (d::ds) aU
theorem ao:PA X [] (lA oM):=zc jg λσ H Q ⟨B,F,δ,ts,Qd,c,q,k⟩=>k [] δ [] F H q (ag.refl _) (ag.refl _) c .nil
variable{tr:cL}
theorem af(ha:PE X e (lB t))(hr:PA X es (lA tr))(hs:starEach (e::es) X.env=(false,eval e X.env)::starEach es X.env:=by rfl):PA X (e::es) (lA (oN t tr)) :=
 zc (fE ha hr hs) λσ H Q ⟨B,F,δ,ts,Qd,c,q,k⟩=>⟨B,F,δ,ts,_,c,q,λd aq v F1 H1 q1 f1 h1 c1 s1=>⟨B,F1,aq,ts,_,c1,q1,λds aU vs F2 H2 q2 f2 h2 c2 s2 =>
  k (d::ds) aU (v::vs) F2 H2 q2 (f1.trans f2) (h1.trans h2) c2 ((s1.mono f2 h2).cons s2)⟩⟩
theorem dy:PA X [] (lO oM):=zc jg λσ H Q ⟨B,F,δ,ts,Qd,c,q,k⟩=>k [] δ F H q (ag.refl _) (ag.refl _) c
theorem cX(ha:PE X e (lE t))(hr:PA X es (lO tr))(hs:starEach (e::es) X.env=(false,eval e X.env)::starEach es X.env:=by rfl):PA X (e::es) (lO (oN t tr)) :=
 zc (fE ha hr hs) λσ H Q ⟨B,F,δ,ts,Qd,c,q,k⟩=>⟨B,F,δ,ts,_,c,q,λd aq v F1 H1 q1 f1 h1 c1=>⟨B,F1,aq,(d,v)::ts,_,c1,q1,λps aU F2 H2 q2 f2 h2 c2 =>
  k ((d,v)::ps) aU F2 H2 q2 (f1.trans f2) (h1.trans h2) (c2.perm (List.perm_middle))⟩⟩
noncomputable def oO(t:cL):aQ:=λδ Q=>t δ λds ai=>ds.length<=sizeLine/\Q (.lst true ds) ai
noncomputable def rj(t:cL):aQ:=λδ Q=>t δ λds ai=>ds.length<=sizeLine/\Q (.tup ds) ai
theorem eI(h:PA X es (lO tr)):PE X (.List es pos) (lE (oO tr)) :=
 dE (R1 h) λσ H Q ⟨B,F,δ,ts,Qd,c,q,k⟩=>⟨B,F,δ,ts,_,c,q,λps aq F1 H1 q1 f1 h1 c1=>⟨by simpa using q1.1,λp hp=>k _ aq _ F1 _ q1.2 f1 (h1.trans (ag.upd hp)) (c1.dJ4 hp)⟩⟩
theorem zh{x1}(h:PA X es (lO tr)):PE X (.Tuple es x1 pos) (lE (rj tr)) :=
 dE (cP6 h) λσ H Q ⟨B,F,δ,ts,Qd,c,q,k⟩=>⟨B,F,δ,ts,_,c,q,λps aq F1 H1 q1 f1 h1 c1=>⟨by simpa using q1.1,λp hp=>k _ aq _ F1 _ q1.2 f1 (h1.trans (ag.upd hp)) (c1.dJ5 hp)⟩⟩
end
end L3
namespace L3
open PySem L2 PySem.Spec PyProof.Rows
noncomputable abbrev bh:=List D->(D->Prop)->Prop
noncomputable def bq(sp:bh):Sp:=λvs H Q _=>∃F ds Qd,ag F H/\R F H ds vs []/\sp ds Qd/\∀d v F' H' A,Qd d->ag H H'->ag F F'->ag F' H'->(∀a ws,F' a=some (.lst ws)->F a=some (.lst ws)\/H a=none)->R F' H' [d] [v] A->A.Nodup->(∀a∈A,H a=none)->Q v H'
noncomputable def oQ(sp:bh)(t:cL):aQ:=λδ Q=>t δ λds ai=>sp (ds.map D.sh) λd=>(ds.all D.pl||d.fr)=true/\Q d ai
theorem B5{B:Bs}{F H:Hp}{σ:L2.St}{δ:Dl}{ts:List (D × V)}{Qd:D->Prop}{Q:VK}{E:XK}{ds:List D}{vs:List V}{sp:bh}(c:au B F H σ δ ts)(s:S F H ds vs)(q:sp (ds.map D.sh) λd=>(ds.all D.pl||d.fr)=true/\Qd d)
  (k:∀d v F' H',Qd d->ag F F'->ag H H'->au B F' H' σ δ ((d,v)::ts)->Q v H'):bq sp vs H Q E:=by
 by_cases hp:ds.all D.pl=true
 ·rw[lM hp]at q
  exact⟨F,ds,_,c.ext,s.r hp,q,λd v F' H' A hd hs hf he h3 r nd fr=>k d v F' H' hd.2 hf hs (c.call hs hf he h3 r nd fr)⟩
 ·refine⟨H,ds.map D.sh,_,ag.refl _,s.frozen c.ext,q,λd v F' H' A hd hs hf he h3 r nd fr=>?_⟩
  have eQ:d.fr=true:=by
   have:=hd.1
   rw[Bool.or_eq_true]at this
   exact this.resolve_left hp
  exact k d v F H' hd.2 (ag.refl _) hs (c.GV hs (r.GU (by simp[eQ]) (c.ext.trans hf)) nd fr)
section
variable{X:Cx}{CX:eY}{n:Nat}{f:Addr}{fd:FuncData}{ps:List Str}{sp:bh}{E:XK}{x:Str}{p pos:Pos}{e:Expr}{es:List Expr}{t:cL}
theorem aZ(F:aM X.prog X.w X.K X.mg X.base CX n f fd ps (bq sp))(hr:cC n X.A)(hg:Gl X x)(hm:X.mg x=some (.ref f))(hk:PySem.W.keepIn X.K (.ref f)=true)(hb:Binds X.K fd ps [])(hx:lH CX X E)
  (ha:PA X (e::es) (lA t)) (eZ:(x==("__debug__":Str))=false:=by decide) (he:starEach (e::es) X.env=(false,eval e X.env)::starEach es X.env:=by rfl) (bL:(backTo pos (starEach es X.env)).any (·.1)=false:=by rfl) :
  PE X (.Call (.Name x p) (e::es) [] pos) (lE (oQ sp t)) :=
 dE (qS F hr hg hm hk hb .nil hx ha eZ he bL) λσ H Q ⟨B,F,δ,ts,Qd,c,q,k⟩=>⟨B,F,δ,ts,_,c,q,λds aq vs F1 H1 q1 f1 h1 c1 s1=>by
  show bq sp (vs++[]) H1 Q E
  rw[n9]
  exact B5 c1 s1 q1 λd v F' H' hd hf hs c'=>k d aq v F' H' hd (f1.trans hf) (h1.trans hs) c'⟩
end
noncomputable def jO(N:List Str)(ds:List D):Dl:=ds.map some++aV (N.length-ds.length) none
section
variable{P:Program}{w:World}{K:PySem.W.Frag}{mg:Str->Option Value}{base:Heap}
theorem bA{x qual:Str}{st:Stmt}{f:Addr}{fd:FuncData}{N ps:List Str}{k:Nat}{sp:bh}(F:aY K x qual st f fd)(S:bc N ps (av st))(len:∀ds Q,sp ds Q->ds.length=ps.length)
  (ir:∀(aE:Value) (A:Around) (outer:List Env) (s:Shared) (H:Hp) (E:XK),cC k (A.deeper (envOfC qual (av st) s.heap.objs.size f aE)) ->
   ∃t:cO,PSs (iP aT P w K mg base N qual (av st) f aE A outer s H E).gF (aW st) (lS (iP aT P w K mg base N qual (av st) f aE A outer s H E).gF t)/\∀ds Q,sp ds Q->t { nx:=λ_=>Q .ax,rt:=Q } (jO N ds)):aM P w K mg base aT (k+1) f fd ps (bq sp):=by
 refine F.ok S (λvs H Q E ⟨F,ds,Qd,e,r,h,_⟩=>by rw[<-r.length];exact len ds Qd h) λaE A outer s H vs Q E hr zz=>?_
 obtain⟨F,ds,Qd,e,r,h,k⟩:=zz
 obtain⟨t,ht,hq⟩:=ir aE A outer s H E hr
 have fin:∀d v ai aF F' H',Qd d->au ⟨H,F⟩ F' H' aF ai [(d,v)]->Q v H':=λd v ai aF F' H' hd c=>by
  obtain⟨A,C,r',s',nd,fr⟩:=c.own
  exact k d v F' H' A hd c.b1 c.b2 c.ext c.b3 r' (gZ.mp nd).1 λa ha=>fr a (gQ _ ha)
 have e1:L2.start N vs=vs.map some++aV (N.length-ds.length) none:=by unfold L2.start;rw[r.length]
 refine⟨_,ht,⟨H,F⟩,F,jO N ds,_,?_,hq ds Qd h,λai aF F' H' hd c=>fin .ax .ax ai aF F' H' hd (c.pushS (.ax .nil) rfl),fin,λ_ _ _ _ z=>z.elim,λ_ _ _ _ z=>z.elim,XL.none (λ_ _ z=>z) λ_ _ z=>z⟩
 rw[e1]
 exact au.start e r _
end
section
variable{X:Cx}{e a b c:Expr}{es:List Expr}{pos:Pos}{st:Stmt}{zb rest:List Stmt}{t u:cO}{te:aQ}{tt:fS}
noncomputable def rk:cO:=λD δ=>D.nx δ
noncomputable def Tp(t u:cO):cO:=λD δ=>t { D with nx:=u D } δ
theorem ay{t u:cO}{En:uE}{δ:Dl}(h:∀U:Dl->Prop,(∀ai,u En ai->U ai)->t { En with nx:=U } δ):Tp t u En δ:=h (u En) λ_ z=>z
theorem cF:PSs X [] (lS X rk):=GY FF λD σ H ⟨B,F,δ,Dd,c,q,k1,_⟩=>k1 δ σ F H q c
theorem az(h1:PS X st (lS X t))(h2:PSs X rest (lS X u)):PSs X (st::rest) (lS X (Tp t u)) :=
 GY (ka h1 h2) λD σ H ⟨B,F,δ,Dd,c,q,k1,k2,k3,k4⟩=>⟨B,F,δ,{ Dd with nx:=u Dd },c,q,λai aF F' H' hq c'=>⟨B,F',ai,Dd,c',hq,k1,k2,k3,k4⟩,k2,k3,k4⟩
theorem aB(h1:PS X st (lS X t)):PSs X [st] (lS X t):=uk h1
noncomputable def oR(i:Nat)(t:cO):cO:=λD δ=>∃d,δ[i]?=some (some d)/\t D (δ.set i (some d.sh))
theorem G0(i:Nat)(h:PSs X zb (lS X t)):PSs X zb (lS X (oR i t)):=GY h λD σ H zz=>by
 obtain⟨B,F,δ,Dd,c,⟨d,e,q⟩,k⟩:=zz
 obtain⟨F',s,c'⟩:=c.freeze e
 exact⟨B,F',_,Dd,c',q,k⟩
noncomputable def oS(i:Nat)(t:aQ):cO:=λD δ=>t δ λd ai=>D.nx (ai.set i (some d))
theorem aI{i:Nat}{x:Str}{pos':Pos}(hN:X.N.Nodup)(hi:X.N[i]?=some x)(hx:Loc X.env.scope x)(he:PE X e (lE te))(hs:swapsWith e (some (.Name x pos')) pos.line X.env=pure false:=by rfl)
  (hf:X.fn x=true\/X.env.scope.names.lookup x=some .local:=by first | exact .inl rfl | exact .inr rfl | assumption):PS X (.Assign [.Name x pos'] e pos) (lS X (oS i te)) :=
 lQ (RN hN hi hx he hs hf) λD σ H ⟨B,F,δ,Dd,c,q,k1,k2,k3,k4⟩=>⟨B,F,δ,[],_,c,q,λd ai v F' H' hd sf sh c'=>k1 _ _ F' H' hd (c'.store i)⟩
noncomputable def rm(t:aQ):cO:=λD δ=>t δ λd _=>D.rt d
theorem aO(he:PE X e (lE te)):PS X (.Return (some e) pos) (lS X (rm te)) :=
 lQ (cR1 he) λD σ H ⟨B,F,δ,Dd,c,q,k1,k2,k3,k4⟩=>⟨B,F,δ,[],_,c,q,λd ai v F' H' hd sf sh c'=>k2 d v ai σ F' H' hd c'⟩
noncomputable def rn(tc:fS)(t u:cO):cO:=λD δ=>tc δ λb ai=>if b=true then t D ai else u D ai
theorem cj{l r:List Stmt}(hc:PT X c (lT tt))(ha:PSs X l (lS X t))(hb:PSs X r (lS X u)):PS X (.If c l r pos) (lS X (rn tt t u)) :=
 lQ (FG hc ha hb) λD σ H ⟨B,F,δ,Dd,c,q,k⟩=>⟨B,F,δ,[],_,c,q,λb ai F' H' hq sf sh c'=>by
  cases b with
  | true=>exact oB ⟨B,F',ai,Dd,c',by simpa using hq,k⟩
  | false=>exact lL ⟨B,F',ai,Dd,c',by simpa using hq,k⟩⟩
noncomputable def rp(i:Nat)(rd:cM)(t:aQ):cO:=λD δ=>∃x,δ[i]?=some (some x)/\t δ λy aq=>rd x y λz=>D.nx (aq.set i (some z))
theorem oU{i:Nat}{x:Str}{op:Operator}{rd:cM}{pos':Pos}(hN:X.N.Nodup)(hi:X.N[i]?=some x)(hx:Loc X.env.scope x)(he:PE X e (lB te))(ho:bR X (inplaceOp op) rd)
  (hf:X.fn x=true\/X.env.scope.names.lookup x=some .local:=by first | exact .inl rfl | exact .inr rfl | assumption):PS X (.AugAssign (.Name x pos') op e pos) (lS X (rp i rd te)):=by
 obtain⟨r,h1,h2⟩:=ho
 refine lQ (cU6 hN hi hx he (ti:=r) h1 hf) λD σ H zz=>?_
 obtain⟨B,F,δ,Dd,c,⟨d0,e0,q⟩,k1,k2,k3,k4⟩:=zz
 obtain⟨v0,e1,s0⟩:=c.look e0
 exact⟨v0,e1,B,F,δ,[],_,c,q,λd ai v F' H' hd sf sh c' s=>h2 c' (s0.mono sf sh) s hd λz w H2 hz h3 c3=>k1 _ _ F' H2 hz (c3.store i)⟩
noncomputable def rq(tc:fS)(tb:cO):cO:=λD δ=>∃W:Nat->Dl->Prop,(∃m,W m δ)/\∀m δ,W m δ->tc δ λb ai=>if b=true then tb { D with nx:=λai=>∃m',m'<m/\W m' ai,ct:=λai=>∃m',m'<m/\W m' ai,bk:=D.nx } ai else D.nx ai
theorem rz{body:List Stmt}(hp:PassesOwn (model X.prog X.w) X.A X.env X.xe)(hc:PT X c (lT tt))(hb:PSs X body (lS X t)):PS X (.While c body [] pos) (lS X (rq tt t)) :=
 lQ (cp9 hp hc hb) λD σ H zz=>by
  obtain⟨B,F,δ,Dd,c,⟨W,⟨m0,w0⟩,hw⟩,k1,k2,k3,k4⟩:=zz
  refine⟨λm σ H=>∃F δ,au B F H σ δ []/\W m δ,⟨m0,F,δ,c,w0⟩,λm σ H ⟨F,δ,c,w⟩=>⟨B,F,δ,[],_,c,hw m δ w,λb ai F' H' hq sf sh c'=>?_⟩⟩
  cases b with
  | true =>
   refine oB ⟨λaF H'=>∃m',m'<m/\∃F δ,au B F H' aF δ []/\W m' δ,λaF H' z=>z,B,F',ai,{ Dd with nx:=λai=>∃m',m'<m/\W m' ai,ct:=λai=>∃m',m'<m/\W m' ai,bk:=Dd.nx },c',by simpa using hq,λaU lD F2 H2 ⟨m',hm,w2⟩ c2=>⟨m',hm,F2,aU,c2,w2⟩,k2,λaU lD F2 H2 z c2=>k1 aU lD F2 H2 z c2,λaU lD F2 H2 ⟨m',hm,w2⟩ c2=>⟨m',hm,F2,aU,c2,w2⟩,k4.2⟩
  | false=>exact lL (k1 ai σ F' H' (by simpa using hq) c')
end
structure JD(J:It)(F:Hp)(xs:List D):Prop where
 go:∀i H,ag F H->i<xs.length->J.go i H
 jf:∀i H x H',ag F H->i<xs.length->J.jf i H x H'->∃d,xs[i]?=some d/\ag H H'/\R F H' [d] [x] []
 stop:∀i H,ag F H->xs.length<=i->J.stop i H
noncomputable abbrev iy:=Dl->(Bool->List D->Dl->Prop)->Prop
noncomputable def lI(t:iy):TI:=λσ H Rr=>∃B F δ ts Qd,au B F H σ δ ts/\t δ Qd/\∀g xs ai J F' H',Qd g xs ai->ag F F'->ag H H'->au B F' H' σ ai ts->JD J H' (xs.map D.sh)->(g=true->xs.all D.pl=true/\JD J F' xs)->Rr J H'
noncomputable abbrev iz:=D->Dl->(Dl->Prop)->Prop
noncomputable def lG(m:Nat)(t:iz):TG:=λv σ H Q=>∃B F δ ts d Qd,au B F H σ δ ((d,v)::ts)/\t d δ Qd/\∀ai aF,Qd ai->aF.length=σ.length->(∀j,j<m->aF[j]?=σ[j]?)->au B F H aF ai ts->Q aF H
noncomputable def iA:D->Option (List D)
 | .lst _ xs=>some xs
 | .fz xs=>some xs
 | _=>none
section
variable{B:Bs}{F H F1:Hp}{σ:L2.St}{δ:Dl}{ts:List (D × V)}
end
section
variable{X:Cx}{e a b c tg l iter:Expr}{es:List Expr}{pos:Pos}{t u:cO}{te:aQ}{tt:fS}{ta:cL}{m:Nat}
theorem oV{w w':TI}(h:PI X tg iter w)(m:∀σ H Q,w' σ H Q->w σ H Q):PI X tg iter w':=λpins s σ H Q I q=>h pins s σ H Q I (m σ H Q q)
theorem Tq{w w':TG}(h:PG X tg w)(m:∀v σ H Q,w' v σ H Q->w v σ H Q):PG X tg w':=λpins s σ H v u Q I r q=>h pins s σ H v u Q I r (m v σ H Q q)
noncomputable def gN(i:Nat):iz:=λd δ Q=>Q (δ.set i (some d))
theorem dm{i:Nat}{x:Str}(hN:X.N.Nodup)(hi:X.N[i]?=some x)(hx:Loc X.env.scope x)(hm:m<=i:=by decide)(hf:X.fn x=true\/X.env.scope.names.lookup x=some .local:=by first | exact .inl rfl | exact .inr rfl | assumption):PG X (.Name x pos) (lG m (gN i)) :=
 Tq (BJ hN hi hx hf) λv σ H Q ⟨B,F,δ,ts,d,Qd,c,q,k⟩=>k _ _ q (by simp) (λj hj=>by rw[xU (by omega)]) (c.store i)
theorem m9{K:PySem.W.Frag}{F H:Hp}{p:Addr}{xs:List D}{ws:List V}(hp:Rd F p (.lst ws))(r:R F H xs ws [])(hF:Full F H):JD (FN K p) F xs where
 go:=λi H' hs hi=>by
  have l:=r.length
  have fQ:i<ws.length:=by omega
  exact⟨ws,ws[i],.inl (fR hp hs),aJ fQ⟩
 jf:=λi H' x H2 hs hi zz=>by
  obtain⟨e,y⟩:=zz
  subst e
  have hx:=y ws (.inl (fR hp hs))
  obtain⟨v,A1,e2,r1,sub⟩:=(r.full hF hs rfl).get (aJ hi)
  rw[hx]at e2;cases e2
  have:A1=[]:=di6.mpr λa ha=>by simpa using sub ha
  subst this
  exact⟨_,aJ hi,ag.refl _,r1⟩
 stop:=λi H' hs hi=>⟨ws,.inl (fR hp hs),by have:=r.length;omega⟩
theorem B6{F:Hp}(lo:Int)(n:Nat):JD (yH lo n) F ((aS n).map λ(k:Nat)=>D.int (lo+(k:Int))) where
 go:=λi H' hs hi=>by
  have fQ:i<n:=by simpa using hi
  exact fQ
 jf:=λi H' x H2 hs hi zz=>by
  obtain⟨e,y⟩:=zz
  subst e y
  have fQ:i<n:=by simpa using hi
  exact⟨.int (lo+i),by simp[jX fQ],ag.refl _,.int .nil⟩
 stop:=λi H' hs hi=>by
  have fQ:n<=i:=by simpa using hi
  exact fQ
noncomputable def rA(t:aQ):iy:=λδ Q=>t δ λd ai=>∃xs,iA d=some xs/\Q true (xs.map D.sh) ai
theorem da9(xs:List D){F H:Hp}{ws:List V}(r:R F H (xs.map D.sh) ws []):(xs.map D.sh).map D.sh=xs.map D.sh:=lM r.pl
theorem c08(h:PE X l (lE te)):PI X tg l (lI (rA te)) :=
 oV (RP h) λσ H Q ⟨B,F,δ,ts,Qd,c,q,k⟩=>⟨B,F,δ,ts,_,c,q,λd aq v F1 H1 hd f1 h1 c1=>by
  obtain⟨xs,e,hq⟩:=hd
  obtain⟨F2,f2,c2⟩:=c1.GW
  have tp:=c2.top
  have c3:=c2.pop.snap
  have e2:=c2.ext
  have sn:=m5 e2
  cases d with
  | lst o ys =>
   obtain rfl:=cQ e
   rw[fh]at tp
   cases tp with
   | @shr p ws _ _ _ hp r _ =>
    have r3:=r.shared sn (ag.refl _)
    refine⟨p,rfl,⟨ws,bK.of (e2 _ _ hp)⟩,k true _ aq _ _ H1 hq ((f1.trans f2).trans sn) h1 c3 ?_ λ_=>⟨r.pl,m9 (.inl (sn _ _ hp)) r3 oH⟩⟩
    rw[da9 _ r]
    exact m9 (.inl (e2 _ _ hp)) (r.shared e2 (ag.refl _)) (Full.refl _)
  | fz ys =>
   obtain rfl:=cQ e
   cases tp with
   | @fz p o ws _ _ _ hp r _ =>
    have r3:=r.shared sn (ag.refl _)
    have es:=lM r.pl
    rw[es]at hq
    refine⟨p,rfl,⟨ws,.inl (.inr ⟨o,e2 _ _ hp⟩)⟩,k true _ aq _ _ H1 hq ((f1.trans f2).trans sn) h1 c3 ?_ λ_=>⟨r.pl,m9 (.inr ⟨o,sn _ _ hp⟩) r3 oH⟩⟩
    rw[es]
    exact m9 (.inr ⟨o,e2 _ _ hp⟩) (r.shared e2 (ag.refl _)) (Full.refl _)
  | ax=>cases e
  | bl _=>cases e
  | int _=>cases e
  | str _=>cases e
  | tup _=>cases e
  | obj _ _ _=>cases e
  | bJ _=>cases e⟩
noncomputable def rB(t:aQ):iy:=λδ Q=>t δ λd ai=>∃xs,iA d=some xs/\Q d.pl xs ai
theorem nh(h:PE X l (lB te)):PI X tg l (lI (rB te)) :=
 oV (RP h) λσ H Q ⟨B,F,δ,ts,Qd,c,q,k⟩=>⟨B,F,δ,ts,_,c,q,λd aq v F1 H1 hd f1 h1 c1 s=>by
  obtain⟨xs,e,hq⟩:=hd
  have c3:=c1.snap
  have e2:=c1.ext
  have sn:=m5 e2
  cases s with
  | @shr p ws ys _ _ hp r _ =>
   obtain rfl:=cQ e
   refine⟨p,rfl,⟨ws,bK.of (e2 _ _ hp)⟩,k _ _ aq _ _ H1 hq (f1.trans sn) h1 c3 ?_ λ_=>⟨r.pl,m9 (.inl (sn _ _ hp)) (r.shared sn (ag.refl _)) oH⟩⟩
   rw[lM r.pl]
   exact m9 (.inl (e2 _ _ hp)) (r.shared e2 (ag.refl _)) (Full.refl _)
  | @own p ws ys _ _ hp r _ =>
   obtain rfl:=cQ e
   refine⟨p,rfl,⟨ws,bK.of hp⟩,k _ _ aq _ _ H1 hq (f1.trans sn) h1 c3 (m9 (.inl hp) (r.frozen e2) (Full.refl _)) λz=>by simp[gr]at z⟩
  | @fz p o ws ys _ _ hp r _ =>
   obtain rfl:=cQ e
   refine⟨p,rfl,⟨ws,.inl (.inr ⟨o,e2 _ _ hp⟩)⟩,k _ _ aq _ _ H1 hq (f1.trans sn) h1 c3 ?_ λ_=>⟨r.pl,m9 (.inr ⟨o,sn _ _ hp⟩) (r.shared sn (ag.refl _)) oH⟩⟩
   rw[lM r.pl]
   exact m9 (.inr ⟨o,e2 _ _ hp⟩) (r.shared e2 (ag.refl _)) (Full.refl _)
  | ax _=>cases e
  | bl _=>cases e
  | int _=>cases e
  | str _=>cases e
  | tup _ _ _=>cases e
  | obj _ _ _ _=>cases e
  | bJ _ _=>cases e⟩
theorem oW(f:Nat->Int)(l:List Nat):(l.map λk=>D.int (f k)).map D.sh=l.map λk=>D.int (f k):=by simp[D.sh]
theorem Tr(f:Nat->Int)(l:List Nat):(l.map λk=>D.int (f k)).all D.pl=true:=by simp[D.pl]
noncomputable def rC(t:cL):iy:=λδ Q=>t δ λds ai=>∃j:Int,ds=[.int j]/\(-(2 ^ 62)<=j/\j<2 ^ 62)/\Q true ((aS j.toNat).map λ(k:Nat)=>D.int (0+(k:Int))) ai
theorem iX{p:Pos}(hg:Gl X "range")(hm:X.mg "range"=none)(ha:PA X [a] (lA ta))(hs:starEach [a] X.env=[(false,eval a X.env)]:=by rfl):PI X tg (.Call (.Name "range" p) [a] [] pos) (lI (rC ta)) :=
 oV (b98 hg hm ha hs) λσ H Q ⟨B,F,δ,ts,Qd,c,q,k⟩=>⟨B,F,δ,ts,_,c,q,λds aq vs F1 H1 hd f1 h1 c1 s=>by
  obtain⟨j,rfl,⟨b1,b2⟩,hq⟩:=hd
  cases s with
  | int s =>
   cases s
   refine⟨j,rfl,b1,b2,k true _ aq _ _ H1 hq f1 h1 c1 ?_ λ_=>⟨Tr _ _,B6 0 _⟩⟩
   rw[oW]
   exact B6 0 _⟩
noncomputable def rD(t:cL):iy:=λδ Q=>t δ λds ai=>∃i j:Int,ds=[.int i,.int j]/\(-(2 ^ 62)<=i/\i<2 ^ 62/\-(2 ^ 62)<=j/\j<2 ^ 62)/\Q true ((aS (j-i).toNat).map λ(k:Nat)=>D.int (i+(k:Int))) ai
theorem uF{p:Pos}(hg:Gl X "range")(hm:X.mg "range"=none)(ha:PA X [a,b] (lA ta))(hs:starEach [a,b] X.env=[(false,eval a X.env),(false,eval b X.env)]:=by rfl)(gU:starEach [b] X.env=[(false,eval b X.env)]:=by rfl) :
  PI X tg (.Call (.Name "range" p) [a,b] [] pos) (lI (rD ta)) :=
 oV (cm0 hg hm ha hs gU) λσ H Q ⟨B,F,δ,ts,Qd,c,q,k⟩=>⟨B,F,δ,ts,_,c,q,λds aq vs F1 H1 hd f1 h1 c1 s=>by
  obtain⟨i,j,rfl,bd,hq⟩:=hd
  cases s with
  | int s =>
   cases s with
   | int s =>
    cases s
    refine⟨i,j,rfl,bd,k true _ aq _ _ H1 hq f1 h1 c1 ?_ λ_=>⟨Tr _ _,B6 i _⟩⟩
    rw[oW]
    exact B6 i _⟩
noncomputable def fj(xs:List D)(g:iz)(tb:cO):cO:=λEn aq=>∃Iv:Nat->Dl->Prop,Iv 0 aq /\
 (∀i d ai,xs[i]?=some d->Iv i ai->g d ai λaU=>tb { En with nx:=Iv (i+1),ct:=Iv (i+1),bk:=En.nx } aU)/\∀ai,Iv xs.length ai->En.nx ai
theorem fj.mk{xs:List D}{g:iz}{tb:cO}{En:uE}{δ:Dl}(Iv:Nat->Dl->Prop)(h0:Iv 0 δ)(ht:∀i d ai,xs[i]?=some d->Iv i ai->g d ai λaU=>tb { En with nx:=Iv (i+1),ct:=Iv (i+1),bk:=En.nx } aU)
  (hf:∀ai,Iv xs.length ai->En.nx ai):fj xs g tb En δ:=⟨Iv,h0,ht,hf⟩
noncomputable def rE(ti:iy)(g:iz)(tb:cO):cO:=λEn δ=>ti δ λsh xs aq=>sh=true/\fj xs g tb En aq
theorem e7{ti:iy}{g:iz}{body:List Stmt}(hp:PassesOwn (model X.prog X.w) X.A X.env X.xe)(hc:X.calm=true)(hi:PI X tg iter (lI ti))(hg:PG X tg (lG 0 g))(hb:PSs X body (lS X t))
  (hs:∀x,foldedSetIterable iter X.env x=pure x:=by intro _;rfl):PS X (.For tg iter body [] pos) (lS X (rE ti g t)) :=
 lQ (cV2 hp hc hi hg hb hs) λEn σ H ⟨B,F,δ,Dd,c,q,k1,k2,k3,k4⟩=>⟨B,F,δ,[],_,c,q,λsh xs aq J F1 H1 hq f1 h1 c1 _ jd=>by
  obtain⟨yT,Iv,i0,turn,fin⟩:=hq
  obtain⟨bL,jd⟩:=jd yT
  have un:∀{F' H':Hp} {aF:L2.St} {ai:Dl} {ts:List (D × V)},au ⟨B.H0,F1⟩ F' H' aF ai ts->au B F' H' aF ai ts:=λc'=>c'.dJ7 c1.b2 c1.b3
  refine⟨λi m σ H=>m=xs.length-i/\i<=xs.length/\∃F δ,au ⟨B.H0,F1⟩ F H σ δ []/\Iv i δ,⟨_,rfl,kT _,F1,aq,c1.rebase,i0⟩,?_⟩
  rintro i m lD H2 ⟨rfl,hi,F2,aU,c2,iv⟩
  have s2:ag F1 H2:=c2.b2.trans c2.ext
  by_cases gg:i<xs.length
  ·refine .inr ⟨jd.go i H2 s2 gg,λaF H'=>∃F δ,au ⟨B.H0,F1⟩ F H' aF δ []/\Iv (i+1) δ,λaF H' z=>⟨xs.length-(i+1),by omega,rfl,gg,z⟩,λx H3 y=>?_⟩
   obtain⟨d,e,s3,r⟩:=jd.jf i H2 x H3 s2 gg y
   have c3:=(c2.grow s3).pushS (d:=d) (v:=x) ((r.s).mono c2.b2 (ag.refl _)) (by have:=r.pl;simpa using this)
   refine⟨⟨B.H0,F1⟩,F2,aU,[],d,_,c3,turn i d aU e iv,λai aF hq _ _ c4=>?_⟩
   exact⟨⟨B.H0,F1⟩,F2,ai,_,c4,hq,λjj ni F5 H5 h5 c5=>⟨F5,jj,c5,h5⟩,λd5 v5 jj ni F5 H5 h5 c5=>k2 d5 v5 jj ni F5 H5 h5 (un c5),λjj ni F5 H5 h5 c5=>k1 jj ni F5 H5 h5 (un c5),λjj ni F5 H5 h5 c5=>⟨F5,jj,c5,h5⟩,⟨λC jj pins ni F5 H5 s5 a T h5 c5=>k4.2.1 C jj pins ni F5 H5 s5 a T h5 (un c5),λC jj pins ni F5 H5 s5 h' e vs h5 c5=>k4.2.2 C jj pins ni F5 H5 s5 h' e vs h5 (un c5)⟩⟩
  ·have e:i=xs.length:=by omega
   subst e
   exact .inl ⟨jd.stop _ H2 s2 (bI _),k1 aU lD F2 H2 (fin aU iv) (un c2)⟩⟩
end
end L3
namespace L3
open PySem L2 PySem.Spec PyProof.Rows
noncomputable def iY(δ:Dl)(q:Str × Nat):Option D:=(δ[q.2]?).getD none
noncomputable def iB(δ:Dl)(q:Str × Nat):Bool:=match iY δ q with
 | some d=>d.pl
 | none=>true
noncomputable def fU(aD:List (Str × Nat))(n:Nat)(δ:Dl):Dl:=(aD.map λq=>(iY δ q).map D.sh)++aV n none
noncomputable def rF(sh:Bool)(xs:List D)(aD:List (Str × Nat))(n:Nat)(g:iz)(tt:fS)(te:aQ)(aq:Dl)(Q:D->Dl->Prop):Prop:=∃(p:D->Bool) (f:D->D),
 (∀x∈xs.map D.sh,g x (fU aD n aq) λaU=>tt aU λb iw=>b=p x/\(p x=true->te iw λd _=>d=f x)) /\
 ((sh&&aD.all (iB aq))=true\/∀x∈xs.map D.sh,p x=true->(f x).fr=true)/\xs.length<=sizeLine/\Q (.lst true (((xs.map D.sh).filter p).map f)) aq
noncomputable def oX(ti:iy)(aD:List (Str × Nat))(n:Nat)(g:iz)(tt:fS)(te:aQ):aQ:=λδ Q=>ti δ λsh xs aq=>rF sh xs aD n g tt te aq Q
noncomputable def jP:fS:=λδ Q=>Q true δ
theorem cq5{sh:Bool}{xs:List D}{aD:List (Str × Nat)}{n m:Nat}{te:aQ}{aq:Dl}{Q:D->Dl->Prop}(f:D->D)(hx:∀x∈xs.map D.sh,te ((fU aD n aq).set m (some x)) λd _=>d=f x)
  (eQ:(sh&&aD.all (iB aq))=true\/∀x∈xs.map D.sh,(f x).fr=true) (hl:xs.length<=sizeLine) (hq:Q (.lst true ((xs.map D.sh).map f)) aq):rF sh xs aD n (gN m) jP te aq Q :=
 ⟨λ_=>true,f,λx h=>⟨rfl,λ_=>hx x h⟩,eQ.imp id λh x hx _=>h x hx,hl,by rw[di7.mpr (λ_ _=>rfl)];exact hq⟩
section
variable{B:Bs}{F H:Hp}{σ:L2.St}{δ:Dl}{ts:List (D × V)}
theorem Ts(c:au B F H σ δ ts)(n:Nat):∀(aD:List (Str × Nat)),aD.all (iB δ)=true->RS F H (fU aD n δ) (gX aD n σ) []
 | [],_=>by
  have z:∀n,RS F H (aV n none) (aV n none) []:=λn=>by
   induction n with
   | zero=>exact .nil
   | succ n ih=>exact .ax ih
  exact z n
 | q::r,h=>by
  rw[eN,dY]at h
  have ih:=Ts c n r h.2
  show RS F H ((iY δ q).map D.sh::fU r n δ) ((σ[q.2]?).getD none::gX r n σ) []
  cases e:iY δ q with
  | none=>exact .ax ih
  | some d =>
   have e2:δ[q.2]?=some (some d):=by
    unfold iY at e
    cases z:δ[q.2]? with
    | none=>rw[z]at e;cases e
    | some o=>rw[z]at e;exact congrArg some e
   have hp:d.pl=true:=by have:=h.1;unfold iB at this;rw[e]at this;exact this
   obtain⟨v,e3,s⟩:=c.look e2
   rw[e3]
   show RS F H (some d.sh::_) (some v::_) []
   rw[D.BX hp]
   exact .gI (A:=[]) (s.r (by simp[hp])) ih
theorem Tt(c:au B F H σ δ ts)(n:Nat):∀(aD:List (Str × Nat)),RS H H (fU aD n δ) (gX aD n σ) []
 | []=>by
  have z:∀n,RS H H (aV n none) (aV n none) []:=λn=>by
   induction n with
   | zero=>exact .nil
   | succ n ih=>exact .ax ih
  exact z n
 | q::r=>by
  have ih:=Tt c n r
  show RS H H ((iY δ q).map D.sh::fU r n δ) ((σ[q.2]?).getD none::gX r n σ) []
  cases e:iY δ q with
  | none=>exact .ax ih
  | some d =>
   have e2:δ[q.2]?=some (some d):=by
    unfold iY at e
    cases z:δ[q.2]? with
    | none=>rw[z]at e;cases e
    | some o=>rw[z]at e;exact congrArg some e
   obtain⟨v,e3,s⟩:=c.look e2
   rw[e3]
   exact .gI (A:=[]) (s.frozen c.ext) ih
theorem Tu{α:Type}(xs:List α)(p:α->Bool)(i:Nat)(x:α)(h:xs[i]?=some x):(xs.take (i+1)).filter p=(xs.take i).filter p++(if p x=true then [x]else []):=by
 rw[mI,h,List.filter_append]
 simp only[di8]
 by_cases hp:p x=true<;>simp[hp]
end
section
variable{X:Cx}{elt iter tg:Expr}{pos:Pos}{ifs:List Expr}{scope:Scope}{cl:List (Str × Addr)}{ti:iy}{tt:fS}{te:aQ}{g:iz}
theorem Tv{B:Bs}{F1 H1:Hp}{σ:L2.St}{aq:Dl}{ts:List (D × V)}{J:It}{Qd:D->Dl->Prop}{Q:VK}{xs:List D}{sh:Bool}{aD:List (Str × Nat)}{n:Nat}(c1:au B F1 H1 σ aq ts)
  (rG:JD J H1 (xs.map D.sh)) (zi:sh=true->xs.all D.pl=true/\JD J F1 xs) (p:D->Bool) (f:D->D)
  (hx:∀x∈xs.map D.sh,g x (fU aD n aq) λaU=>tt aU λb iw=>b=p x/\(p x=true->te iw λd _=>d=f x))
  (eQ:(sh&&aD.all (iB aq))=true\/∀x∈xs.map D.sh,p x=true->(f x).fr=true) (hlen:xs.length<=sizeLine) (hq:Qd (.lst true (((xs.map D.sh).filter p).map f)) aq)
  (k:∀d ai v F' H',Qd d ai->ag F1 F'->ag H1 H'->au B F' H' σ ai ((d,v)::ts)->Q v H'):S3 J aD n (lG aD.length g) (lT tt) (lE te) σ H1 Q:=by
 intro Dp hD
 have cD:au B F1 (upd H1 Dp (.lst [])) σ aq ((.lst true [],.ref Dp)::ts):=c1.oI hD .nil rfl
 refine⟨λi m acc H2=>m=xs.length-i/\i<=xs.length/\H2 Dp=some (.lst acc)/\ag H1 H2/\acc.length<=i/\∃F2,ag F1 F2 /\
  au B F2 H2 σ aq ((.lst true ((((xs.map D.sh).take i).filter p).map f),.ref Dp)::ts),⟨xs.length,rfl,kT _,cA,ag.upd hD,bI _,F1,ag.refl _,by simpa using cD⟩,?_⟩
 rintro i m acc H2 ⟨rfl,hi,G1,zj,hal,F2,lU,c2⟩
 refine⟨G1,?_⟩
 by_cases gg:i<xs.length
 case neg =>
  have e:i=xs.length:=by omega
  subst e
  refine .inl ⟨rG.stop _ H2 zj (by simp),k _ aq _ F2 H2 ?_ lU zj c2⟩
  have:(xs.map D.sh).take xs.length=xs.map D.sh:=by rw[x6 (by simp)]
  rw[this]
  exact hq
 case pos =>
  refine .inr ⟨rG.go i H2 zj (by simpa using gg),λx H3 y=>?_⟩
  obtain⟨d0,e0,G2,r0⟩:=rG.jf i H2 x H3 zj (by simpa using gg) y
  have Tw:d0∈xs.map D.sh:=xZ e0
  have Tx:H3 Dp=some (.lst acc):=G2 _ _ G1
  have c3:=c2.grow G2
  have G3:=zj.trans G2
  refine⟨Tx,?_⟩
  have G4:=hx d0 Tw
  have turn:∀Fi,ag Fi H3->RS Fi H3 (fU aD n aq) (gX aD n σ) []->S Fi H3 [d0] [x]->d0.pl=true ->
    (∀d v F' H' A,d=f d0->p d0=true->ag H3 H'->ag Fi F'->ag F' H'->(∀a ws,F' a=some (.lst ws)->Fi a=some (.lst ws)\/H3 a=none)->R F' H' [d] [v] A->A.Nodup->(∀a∈A,H3 a=none) ->
     ∃F4,ag F2 F4/\au B F4 H' σ aq ((d,v)::(.lst true ((((xs.map D.sh).take i).filter p).map f),.ref Dp)::ts)) ->
    lG aD.length g x (gX aD n σ) H3 λgG H4 =>
     (gG.length=(gX aD n σ).length/\∀j,j<aD.length->gG[j]?=(gX aD n σ)[j]?)/\lT tt gG H4 λb H5=>H5 Dp=some (.lst acc) /\
     if b=true then lE te gG H5 λy H6=>H6 Dp=some (.lst acc)/\acc.length<sizeLine/\∃m',m'<xs.length-i /\
      (m'=xs.length-(i+1)/\i+1<=xs.length/\upd H6 Dp (.lst (acc++[y])) Dp=some (.lst (acc++[y]))/\ag H1 (upd H6 Dp (.lst (acc++[y])))/\(acc++[y]).length<=i+1/\∃F2,ag F1 F2 /\
       au B F2 (upd H6 Dp (.lst (acc++[y]))) σ aq ((.lst true ((((xs.map D.sh).take (i+1)).filter p).map f),.ref Dp)::ts))
     else ∃m',m'<xs.length-i/\(m'=xs.length-(i+1)/\i+1<=xs.length/\H5 Dp=some (.lst acc)/\ag H1 H5/\acc.length<=i+1/\∃F2,ag F1 F2 /\
       au B F2 H5 σ aq ((.lst true ((((xs.map D.sh).take (i+1)).filter p).map f),.ref Dp)::ts)):=by
   intro Fi hFi hRS hS bL back
   have ci:au ⟨H3,Fi⟩ Fi H3 (gX aD n σ) (fU aD n aq) []:=⟨hFi,ag.refl _,ag.refl _,λ_ _ q=>.inl q,[],[],.nil,hRS,by simp,by simp⟩
   refine⟨⟨H3,Fi⟩,Fi,fU aD n aq,[],d0,_,ci.pushS hS bL,G4,λai gG hq1 l1 k1 c4=>⟨⟨l1,k1⟩,⟨H3,Fi⟩,Fi,ai,[],_,c4,hq1,λb jj F5 H5 hb f5 h5 c5=>?_⟩⟩
   obtain⟨hb,ht⟩:=hb
   have B7:H5 Dp=some (.lst acc):=h5 _ _ Tx
   refine⟨B7,?_⟩
   by_cases hp:p d0=true
   ·rw[hb,hp]
    refine oB ⟨⟨H3,Fi⟩,F5,jj,[],_,c5,ht hp,λd δ6 v F6 H6 hd f6 h6 c6=>?_⟩
    have Tz:H6 Dp=some (.lst acc):=h6 _ _ B7
    obtain⟨A,C,r,s,nd,fr⟩:=c6.own
    obtain⟨F4,uG,c7⟩:=back d v F6 H6 A hd hp c6.b1 c6.b2 c6.ext c6.b3 r (gZ.mp nd).1 λa ha=>fr a (gQ _ ha)
    have c8:=c7.dK2 Tz
    refine⟨Tz,by omega,xs.length-(i+1),by omega,rfl,gg,cA,?_,by simpa using hal,F4,lU.trans uG,?_⟩
    ·have TB:=G3.trans c6.b1
     exact⟨λa o q n=>by rw[bj (fg q hD)];exact TB.get a o q n,λa ps q=>by rw[bj (fg q hD)];exact TB.tb a ps q⟩
    ·have e9:(((xs.map D.sh).take (i+1)).filter p).map f=(((xs.map D.sh).take i).filter p).map f++[d]:=by
      rw[Tu _ p i d0 e0,hp,hd];simp
     rw[e9]
     exact c8
   ·have nj:p d0=false:=by simpa using hp
    rw[hb,nj]
    refine lL ⟨xs.length-(i+1),by omega,rfl,gg,B7,G3.trans h5,by omega,F2,lU,?_⟩
    have e9:(((xs.map D.sh).take (i+1)).filter p).map f=(((xs.map D.sh).take i).filter p).map f:=by
     rw[Tu _ p i d0 e0,nj];simp
    rw[e9]
    exact c3.grow h5
  by_cases hA:(sh&&aD.all (iB aq))=true
  ·rw[dY]at hA
   obtain⟨bL,jd⟩:=zi hA.1
   have yT:=lM bL
   rw[yT]at e0
   obtain⟨d1,e1,_,r1⟩:=jd.jf i H2 x H3 (lU.trans c2.ext) gg y
   rw[e0]at e1;cases e1
   have dL5:d0.pl=true:=by have:=r1.pl;simpa using this
   refine turn F2 c3.ext (Ts c3 n aD hA.2) ((r1.s).mono lU (ag.refl _)) dL5 λd v F' H' A hd hp hs hf he h3 r nd fr=>⟨F',hf,c3.call hs hf he h3 r nd fr⟩
  ·have dL6:=eQ.resolve_left hA
   refine turn H3 (ag.refl _) (Tt c3 n aD) ((r0.shared G3 (ag.refl _)).s) (by have:=r0.pl;simpa using this) λd v F' H' A hd hp hs hf he h3 r nd fr=>⟨F2,ag.refl _,?_⟩
   exact c3.GV hs (r.GU (by rw[hd];simp[dL6 d0 Tw hp]) (c3.ext.trans hf)) nd fr
theorem eR{Y:Cx}:mW Y [] (lT jP):=λ_ _ _ H _ I ⟨B,F,δ,ts,Qd,c,q,k⟩=>cH4 _ _ _ H _ I (k true δ F H q (ag.refl _) (ag.refl _) c)
theorem G5{Y:Cx}{c:Expr}(h:PT Y c (lT tt)):mW Y [c] (lT tt):=cE9 h
end
end L3
namespace L3
open PySem L2 PySem.Spec PyProof.Rows
section
variable{X:Cx}{F H:Hp}{v w:V}
noncomputable def l2(rd:cM):R2:=λv w H Q=>∃B F σ δ ts x y Qd,au B F H σ δ ts/\S F H [x] [v]/\S F H [y] [w]/\rd x y Qd/\∀d z H',Qd d->ag H H'->au B F H' σ δ ((d,z)::ts)->Q z H'
theorem bR.of{f:Value->Value->Sem Value}{rd:cM}(h:cB X f (l2 rd)):bR X f rd:=⟨_,h,λ{B F H σ δ ts x y v w Q Qd} c sx sy q k=>⟨B,F,σ,δ,ts,x,y,Qd,c,sx,sy,q,k⟩⟩
theorem zk{f:Value->Value->Sem Value}{C:Int->Int->Prop}{g:Int->Int->V}{gd:Int->Int->D}(ho:cB X f (rI C g))(hg:∀i j F H,S F H [gd i j] [g i j])(hp:∀i j,(gd i j).pl=true):bR X f λx y Q=>∃i j,x=.int i/\y=.int j/\C i j/\Q (gd i j) :=
 ⟨_,ho,λ{B F H σ δ ts x y v w Q Qd} c sx sy h k=>by
  obtain⟨i,j,rfl,rfl,hc,q⟩:=h
  cases sx;cases sy
  exact⟨i,j,rfl,rfl,hc,k _ _ _ q (ag.refl _) (c.pushS (hg i j F H) (hp i j))⟩⟩
theorem kz{f:Value->Value->Sem Value}{g:Int->Int->V}{gd:Int->Int->D}(ho:cB X f (iN g))(hg:∀i j F H,S F H [gd i j] [g i j])(hp:∀i j,(gd i j).pl=true):bR X f λx y Q=>∃i j,x=.int i/\y=.int j/\Q (gd i j) :=
 ⟨_,ho,λ{B F H σ δ ts x y v w Q Qd} c sx sy h k=>by
  obtain⟨i,j,rfl,rfl,q⟩:=h
  cases sx;cases sy
  exact⟨i,j,rfl,rfl,k _ _ _ q (ag.refl _) (c.pushS (hg i j F H) (hp i j))⟩⟩
theorem iZ{o:Bool}{xs:List D}(s:S F H [.lst o xs] [v])(e:ag F H):∃p ws,v=.ref p/\H p=some (.lst ws)/\S F H xs ws:=by
 cases s with
 | shr h r _=>exact⟨_,_,rfl,e _ _ h,r.s⟩
 | own h r _=>exact⟨_,_,rfl,h,r⟩
theorem kA{xs:List D}(s:S F H [.tup xs] [v]):∃p ws,v=.ref p/\H p=some (.tup ws)/\S F H xs ws:=by
 cases s with
 | tup h r _=>exact⟨_,_,rfl,h,r⟩
theorem lV{d:D}{xs:List D}(s:S F H [d] [v])(e:ag F H)(h:iA d=some xs):∃p ws,v=.ref p/\Rd H p (.lst ws)/\S F H xs ws:=by
 cases s with
 | shr h' r _=>cases h;exact⟨_,_,rfl,.inl (e _ _ h'),r.s⟩
 | own h' r _=>cases h;exact⟨_,_,rfl,.inl h',r⟩
 | fz h' r _=>cases h;exact⟨_,_,rfl,.inr ⟨_,e _ _ h'⟩,r.s⟩
 | ax _=>cases h
 | bl _=>cases h
 | int _=>cases h
 | str _=>cases h
 | tup _ _ _=>cases h
 | obj _ _ _ _=>cases h
 | bJ _ _=>cases h
theorem S.rep{xs:List D}{ws:List V}(s:S F H xs ws):∀k:Nat,S F H (aV k xs).flatten (aV k ws).flatten
 | 0=>by simpa using S.nil
 | k+1=>by
  rw[qw,qw,tX,tX]
  exact s.append (S.rep s k)
noncomputable def oY:cM:=λx y Q=>match x,y with
 | .int i,.int j=>Q (.int (i+j))
 | .str a,.str b=>a.length+b.length<=sizeLine/\Q (.str (a++b))
 | .lst _ xs,.lst _ ys=>(xs.length+ys.length<=sizeLine/\xs.all D.pl=true/\ys.all D.pl=true)/\Q (.lst true (xs++ys))
 | _,_=>False
theorem c06:bR X (binaryOp .Add) λx y Q=>∃o xs o' ys,x=.lst o xs/\y=.lst o' ys/\(xs.length+ys.length<=sizeLine/\xs.all D.pl=true/\ys.all D.pl=true)/\Q (.lst true (xs++ys)) :=
 ⟨_,Sr,λ{B F H σ δ ts x y v w Q Qd} c sx sy h k=>by
  obtain⟨o,xs,o',ys,rfl,rfl,⟨hz,h1,h2⟩,q⟩:=h
  obtain⟨p,ws,rfl,e1,s1⟩:=iZ sx c.ext
  obtain⟨p',fi,rfl,e2,s2⟩:=iZ sy c.ext
  refine⟨p,p',ws,fi,rfl,rfl,e1,e2,by rw[<-s1.length,<- s2.length];exact hz,λr hr=>?_⟩
  exact k _ _ _ q (ag.upd hr) (c.oI hr (s1.append s2) (by simp[h1,h2]))⟩
theorem dL8:bR X (binaryOp .Add) λx y Q=>∃i j,x=.str i/\y=.str j/\i.length+j.length<=sizeLine/\Q (.str (i++j)) :=
 ⟨_,b75,λ{B F H σ δ ts x y v w Q Qd} c sx sy h k=>by
  obtain⟨i,j,rfl,rfl,hz,q⟩:=h
  cases sx;cases sy
  exact⟨i,j,rfl,rfl,hz,k _ _ _ q (ag.refl _) (c.pushS (.str .nil) rfl)⟩⟩
theorem cu:bR X (binaryOp .Add) oY:=((kz (gd:=λi j=>.int (i+j)) cV7 (λ_ _ _ _=>.int .nil) λ_ _=>rfl).or (dL8.or c06)).imp λx y Q h=>by
 unfold oY at h
 split at h
 ·exact .inl ⟨_,_,rfl,rfl,h⟩
 ·exact .inr (.inl ⟨_,_,rfl,rfl,h.1,h.2⟩)
 ·exact .inr (.inr ⟨_,_,_,_,rfl,rfl,h.1,h.2⟩)
 ·exact h.elim
noncomputable def iI(C:Int->Int->Prop)(g:Int->Int->D):cM:=λx y Q=>match x,y with
 | .int i,.int j=>C i j/\Q (g i j)
 | _,_=>False
noncomputable def gv(g:Int->Int->D):cM:=λx y Q=>match x,y with
 | .int i,.int j=>Q (g i j)
 | _,_=>False
theorem B8{f:Value->Value->Sem Value}{C:Int->Int->Prop}{g:Int->Int->D}(h:bR X f λx y Q=>∃i j,x=.int i/\y=.int j/\C i j/\Q (g i j)):bR X f (iI C g):=h.imp λx y Q h=>by
 unfold iI at h
 split at h
 ·exact⟨_,_,rfl,rfl,h.1,h.2⟩
 ·exact h.elim
theorem lW{f:Value->Value->Sem Value}{g:Int->Int->D}(h:bR X f λx y Q=>∃i j,x=.int i/\y=.int j/\Q (g i j)):bR X f (gv g):=h.imp λx y Q h=>by
 unfold gv at h
 split at h
 ·exact⟨_,_,rfl,rfl,h⟩
 ·exact h.elim
noncomputable def rH:cM:=gv λi j=>.int (i-j)
theorem dR:bR X (binaryOp .Sub) rH:=lW (kz FW (λ_ _ _ _=>.int .nil) λ_ _=>rfl)
noncomputable def G6(_ j:Int):Prop:=0<j/\j.natAbs.log2<9000
theorem jk{i j:Int}(h1:0<j)(h2:j<1073741824):G6 i j:=⟨h1,by
 have h:j.natAbs<2 ^ 30:=by omega
 have:=(Q3 (show j.natAbs≠0 by omega)).mpr h
 omega⟩
theorem co5:cB X (binaryOp .FloorDiv) (rI G6 λi j=>.int (i/j)):=yN λi j _ _ _ _ _ hc q =>
 floordiv_int (show j≠0 by have:=hc.1;omega) (by rw[dh7 i (by have:=hc.1;omega)];exact q) (.inl (PyProof.noPylong_of_log2 hc.2))
noncomputable def rJ:cM:=iI G6 λi j=>.int (i/j)
theorem jl:bR X (binaryOp .FloorDiv) rJ:=B8 (zk co5 (λ_ _ _ _=>.int .nil) λ_ _=>rfl)
noncomputable def rK:cM:=iI (λ_ j=>0<j) λi j=>.int (i%j)
theorem cP:bR X (binaryOp .Mod) rK:=B8 (zk cU7 (λ_ _ _ _=>.int .nil) λ_ _=>rfl)
noncomputable def rL:cM:=iI S0 λi j=>.int (i*2 ^ j.toNat)
theorem uH:bR X (binaryOp .LShift) rL:=B8 (zk S1 (λ_ _ _ _=>.int .nil) λ_ _=>rfl)
noncomputable def rM:cM:=iI (λ_ j=>0<=j) λi j=>.int (i/2 ^ j.toNat)
theorem TC:bR X (binaryOp .RShift) rM:=B8 (zk cN9 (λ_ _ _ _=>.int .nil) λ_ _=>rfl)
noncomputable def rN:cM:=gv λi j=>.int (nZ i j)
theorem TF:bR X (binaryOp .BitAnd) rN:=lW (kz cR6 (λ_ _ _ _=>.int .nil) λ_ _=>rfl)
noncomputable def rO:cM:=gv λi j=>.int (n8 i j)
theorem rP:bR X (binaryOp .BitXor) rO:=lW (kz cS4 (λ_ _ _ _=>.int .nil) λ_ _=>rfl)
theorem cs5:cB X (binaryOp .Mult) (rI IntMulOk λi j=>.int (i*j)):=yN λ_ _ _ _ _ _ _ hc q=>mul_int q hc
noncomputable def oZ:cM:=λx y Q=>match x,y with
 | .int i,.int j=>IntMulOk i j/\Q (.int (i*j))
 | .lst _ xs,.int k=>(-(2 ^ 63)<=k/\k<2 ^ 63/\xs.length*k.toNat<=sizeLine/\xs.all D.pl=true)/\Q (.lst true (aV k.toNat xs).flatten)
 | _,_=>False
theorem cW9:bR X (binaryOp .Mult) λx y Q=>∃o xs k,x=.lst o xs/\y=.int k/\(-(2 ^ 63)<=k/\k<2 ^ 63/\xs.length*k.toNat<=sizeLine/\xs.all D.pl=true)/\Q (.lst true (aV k.toNat xs).flatten) :=
 ⟨_,cP7,λ{B F H σ δ ts x y v w Q Qd} c sx sy h k=>by
  obtain⟨o,xs,n,rfl,rfl,⟨b1,b2,hz,h1⟩,q⟩:=h
  obtain⟨p,ws,rfl,e1,s1⟩:=iZ sx c.ext
  cases sy
  refine⟨p,n,ws,rfl,rfl,e1,b1,b2,by rw[<-s1.length];exact hz,λr hr=>?_⟩
  refine k _ _ _ q (ag.upd hr) (c.oI hr (s1.rep _) ?_)
  rw[cU]
  intro x hx
  obtain⟨l,hl,B9⟩:=List.mem_flatten.mp hx
  rw[(x8.mp hl).2]at B9
  exact cU.mp h1 x B9⟩
theorem fV:bR X (binaryOp .Mult) oZ:=((zk (gd:=λi j=>.int (i*j)) cs5 (λ_ _ _ _=>.int .nil) λ_ _=>rfl).or cW9).imp λx y Q h=>by
 unfold oZ at h
 split at h
 ·exact .inl ⟨_,_,rfl,rfl,h.1,h.2⟩
 ·exact .inr ⟨_,_,_,rfl,rfl,h.1,h.2⟩
 ·exact h.elim
theorem G7:bR X (inplaceOp .Add) (gv λi j=>.int (i+j)):=lW (kz cJ6 (λ_ _ _ _=>.int .nil) λ_ _=>rfl)
theorem cQ8:bR X (inplaceOp .Sub) (gv λi j=>.int (i-j)):=lW (kz cK8 (λ_ _ _ _=>.int .nil) λ_ _=>rfl)
theorem Ca:bR X (inplaceOp .BitXor) (gv λi j=>.int (n8 i j)):=lW (kz cK3 (λ_ _ _ _=>.int .nil) λ_ _=>rfl)
noncomputable def rQ:cM:=gv λi j=>.bl (decide (i<j))
noncomputable def rR:cM:=gv λi j=>.bl (decide (i<=j))
noncomputable def rS:cM:=gv λi j=>.bl (decide (j<i))
noncomputable def rT:cM:=gv λi j=>.bl (decide (j<=i))
theorem zo:bR X (compareOp .Lt) rQ:=lW (kz c71 (λ_ _ _ _=>.bl .nil) λ_ _=>rfl)
theorem rV:bR X (compareOp .LtE) rR:=lW (kz c70 (λ_ _ _ _=>.bl .nil) λ_ _=>rfl)
theorem rW:bR X (compareOp .Gt) rS:=lW (kz cY4 (λ_ _ _ _=>.bl .nil) λ_ _=>rfl)
theorem db2:bR X (compareOp .GtE) rT:=lW (kz c78 (λ_ _ _ _=>.bl .nil) λ_ _=>rfl)
noncomputable def lX:D->Bool
 | .ax=>true
 | _=>false
noncomputable def o8:cM:=λx y Q=>match y with
 | .ax=>Q (.bl (lX x))
 | _=>False
noncomputable def o9:cM:=λx y Q=>match y with
 | .ax=>Q (.bl (!lX x))
 | _=>False
theorem TH{d:D}(s:S F H [d] [v]):decide (v=.ax)=lX d:=by cases s<;>simp[lX]
theorem uI:bR X (compareOp .Is) o8:=⟨_,cV6,λ{B F H σ δ ts x y v w Q Qd} c sx sy h k=>by
 unfold o8 at h
 split at h
 ·cases sy
  refine⟨rfl,?_⟩
  rw[TH sx]
  exact k _ _ _ h (ag.refl _) (c.pushS (.bl .nil) rfl)
 ·exact h.elim⟩
theorem TJ:bR X (compareOp .IsNot) o9:=⟨_,cG2,λ{B F H σ δ ts x y v w Q Qd} c sx sy h k=>by
 unfold o9 at h
 split at h
 ·cases sy
  refine⟨rfl,?_⟩
  rw[TH sx]
  exact k _ _ _ h (ag.refl _) (c.pushS (.bl .nil) rfl)
 ·exact h.elim⟩
noncomputable def bH:D->D->Bool
 | .ax,.ax=>true
 | .bl a,.bl b=>a==b
 | .bl a,.int b=>(if a then 1 else 0)==b
 | .int a,.bl b=>a==(if b then 1 else 0)
 | .int a,.int b=>a==b
 | .str a,.str b=>a==b
 | .lst _ xs,.lst _ ys=>fk xs ys
 | .tup xs,.tup ys=>fk xs ys
 | _,_=>false
where fk:List D->List D->Bool
 | [],[]=>true
 | x::xs,y::ys=>bH x y&&fk xs ys
 | _,_=>false
noncomputable def dG:Nat->D->Bool
 | _,.ax=>true
 | _,.bl _=>true
 | _,.int _=>true
 | _,.str _=>true
 | n+1,.lst _ xs=>xs.all (dG n)
 | n+1,.tup xs=>xs.all (dG n)
 | _,_=>false
theorem G8:∀(xs ys:List D),xs.length=ys.length->bH.fk xs ys=(aS xs.length).all λj=>bH (xs.getD j .ax) (ys.getD j .ax)
 | [],[],_=>rfl
 | x::xs,y::ys,h=>by
  rw[dO,di9,eN,kX]
  show(bH x y&&bH.fk xs ys)=_
  rw[G8 xs ys (by simpa using h)]
  rfl
theorem G9:∀(xs ys:List D),xs.length≠ys.length->bH.fk xs ys=false
 | [],[],h=>absurd rfl h
 | [],_::_,_=>rfl
 | _::_,[],_=>rfl
 | x::xs,y::ys,h=>by
  show(bH x y&&bH.fk xs ys)=false
  rw[G9 xs ys (by simpa using h),Bool.and_false]
noncomputable def ofV:V->D
 | .bl b=>.bl b
 | .int i=>.int i
 | .str z=>.str z
 | _=>.ax
theorem zr{x:D}{v:V}(h:dG 0 x=true)(s:S F H [x] [v]):x=ofV v:=by
 cases s with
 | ax _=>rfl
 | bl _=>rfl
 | int _=>rfl
 | str _=>rfl
 | _=>cases h
theorem TK{x:D}(h:dG 0 x=true):bH x x=true:=by
 cases x with
 | ax=>rfl
 | bl b=>exact beq_self_eq_true b
 | int i=>exact beq_self_eq_true i
 | str z=>exact beq_self_eq_true z
 | _=>cases h
theorem pd{n:Nat}{x:D}(h:dG (n+1) x=true):dG 0 x=true\/(∃o xs,x=.lst o xs/\xs.all (dG n)=true)\/∃xs,x=.tup xs/\xs.all (dG n)=true:=by
 cases x with
 | lst o xs=>exact .inr (.inl ⟨o,xs,rfl,h⟩)
 | tup xs=>exact .inr (.inr ⟨xs,rfl,h⟩)
 | obj _ _ _=>exact absurd h eF
 | fz _=>exact absurd h eF
 | bJ _=>exact absurd h eF
 | _=>exact .inl rfl
theorem Cb{x:D}{p:Addr}(h:dG 0 x=true)(s:S F H [x] [.ref p]):False:=by
 rw[zr h s]at s
 cases s
theorem TL:∀(n:Nat) {xs ys:List D} {vs:List V},xs.all (dG n)=true->ys.all (dG n)=true->S F H xs vs->S F H ys vs->ag F H->bH.fk xs ys=true:=by
 intro n xs
 induction n generalizing xs with
 | zero =>
  induction xs with
  | nil=>intro ys vs _ _ s1 s2 _;cases s1;cases s2;rfl
  | cons x xs ih =>
   intro ys vs h1 h2 s1 s2 e
   obtain⟨v,cE,rfl,q1,r1⟩:=s1.cR
   cases ys with
   | nil=>cases s2
   | cons y ys =>
    obtain⟨v',Ti,ee,q2,r2⟩:=s2.cR
    obtain⟨rfl,rfl⟩:=mH ee
    rw[eN,dY]at h1 h2
    show(bH x y&&bH.fk xs ys)=true
    rw[ih h1.2 h2.2 r1 r2 e,jA,zr h2.1 q2,<- zr h1.1 q1]
    exact TK h1.1
 | succ n TM =>
  induction xs with
  | nil=>intro ys vs _ _ s1 s2 _;cases s1;cases s2;rfl
  | cons x xs ih =>
   intro ys vs h1 h2 s1 s2 e
   obtain⟨v,cE,rfl,q1,r1⟩:=s1.cR
   cases ys with
   | nil=>cases s2
   | cons y ys =>
    obtain⟨v',Ti,ee,q2,r2⟩:=s2.cR
    obtain⟨rfl,rfl⟩:=mH ee
    rw[eN,dY]at h1 h2
    show(bH x y&&bH.fk xs ys)=true
    rw[ih h1.2 h2.2 r1 r2 e,jA]
    have h1:=h1.1
    have h2:=h2.1
    clear ih r1 r2 s1 s2
    rcases pd h1 with k1 | ⟨o1,a1,rfl,k1⟩ | ⟨a1,rfl,k1⟩
    ·rcases pd h2 with k2 | ⟨o2,a2,rfl,k2⟩ | ⟨a2,rfl,k2⟩
     ·rw[zr k2 q2,<- zr k1 q1]
      exact TK k1
     ·obtain⟨p,ws,rfl,_⟩:=iZ q2 e
      exact(Cb k1 q1).elim
     ·obtain⟨p,ws,rfl,_⟩:=kA q2
      exact(Cb k1 q1).elim
    ·obtain⟨p,ws,rfl,e1,t1⟩:=iZ q1 e
     rcases pd h2 with k2 | ⟨o2,a2,rfl,k2⟩ | ⟨a2,rfl,k2⟩
     ·exact(Cb k2 q2).elim
     ·obtain⟨p2,Ha,ev,e2,t2⟩:=iZ q2 e
      cases ev
      cases e1.symm.trans e2
      exact TM k1 k2 t1 t2 e
     ·obtain⟨p2,Ha,ev,e2,t2⟩:=kA q2
      cases ev
      cases e1.symm.trans e2
    ·obtain⟨p,ws,rfl,e1,t1⟩:=kA q1
     rcases pd h2 with k2 | ⟨o2,a2,rfl,k2⟩ | ⟨a2,rfl,k2⟩
     ·exact(Cb k2 q2).elim
     ·obtain⟨p2,Ha,ev,e2,t2⟩:=iZ q2 e
      cases ev
      cases e1.symm.trans e2
     ·obtain⟨p2,Ha,ev,e2,t2⟩:=kA q2
      cases ev
      cases e1.symm.trans e2
      exact TM k1 k2 t1 t2 e
end
end L3
namespace L3
open PySem L2 PySem.Spec PyProof.Rows
structure TN(A:Around)(s:Shared)(u w:Value)(b:Bool):Prop where
 rc:SeqAt.RcAt A s u w b
 ne:SeqAt.RcNeAt A s u w (!b)
 eq:E7 A s u w b
section
variable{X:Cx}{F H:Hp}{v w:V}
theorem TQ{xs:List V}{us:List Value}(r:Vals xs us){j:Nat}(h:j<us.toArray.size):∃x,xs[j]?=some x/\RelV x us.toArray[j]:=by
 have l:=r.length
 have hj:j<xs.length:=by rw[l];simpa using h
 obtain⟨u,e,q⟩:=r.get (aJ hj)
 obtain⟨_,z⟩:=iF.mp e
 refine⟨_,aJ hj,?_⟩
 have:us.toArray[j]=u:=by simpa using z
 rw[this];exact q
theorem TR{xs:List D}{j:Nat}{d:D}(h:xs[j]?=some d):xs.getD j .ax=d:=by rw[aL,h];rfl
theorem uJ{x:D}{v:V}{u:Value}(h:dG 0 x=true)(s:S F H [x] [v])(r:RelV v u):(x=.ax/\u=.none)\/(∃b,x=.bl b/\u=.bool b)\/(∃i t,x=.int i/\u=.int i t)\/∃z t,x=.str z/\u=.str z t:=by
 cases s with
 | ax _=>cases r;exact .inl ⟨rfl,rfl⟩
 | bl _=>cases r;exact .inr (.inl ⟨_,rfl,rfl⟩)
 | int _=>obtain⟨t,rfl⟩:=r;exact .inr (.inr (.inl ⟨_,t,rfl,rfl⟩))
 | str _=>obtain⟨t,rfl⟩:=r;exact .inr (.inr (.inr ⟨_,t,rfl,rfl⟩))
 | _=>exact absurd h eF
theorem TU{x y:D}{u u':Value}{A:Around}{s:Shared}(h1:(x=.ax/\u=.none)\/(∃b,x=.bl b/\u=.bool b)\/(∃i t,x=.int i/\u=.int i t)\/∃z t,x=.str z/\u=.str z t)(h2:(y=.ax/\u'=.none)\/(∃b,y=.bl b/\u'=.bool b)\/(∃i t,y=.int i/\u'=.int i t)\/∃z t,y=.str z/\u'=.str z t):TN A s u u' (bH x y):=by
 rcases h1 with⟨rfl,rfl⟩ | ⟨a,rfl,rfl⟩ | ⟨a,t,rfl,rfl⟩ | ⟨a,t,rfl,rfl⟩<;>rcases h2 with⟨rfl,rfl⟩ | ⟨b,rfl,rfl⟩ | ⟨b,t',rfl,rfl⟩ | ⟨b,t',rfl,rfl⟩
 ·exact⟨.none_none,.none_none,.same _⟩
 ·exact⟨.none_bool _,.none_bool _,.none_bool _⟩
 ·exact⟨.none_int _ _,.none_int _ _,.none_int _ _⟩
 ·exact⟨.none_str _ _,.none_str _ _,.none_str _ _⟩
 ·exact⟨.bool_none _,.bool_none _,.bool_none _⟩
 ·exact⟨.bool_bool _ _,.bool_bool _ _,.bool_bool _ _⟩
 ·exact⟨.bool_int _ _ _,.bool_int _ _ _,.bool_int _ _ _⟩
 ·exact⟨.bool_str _ _ _,.bool_str _ _ _,.bool_str _ _ _⟩
 ·exact⟨.int_none _ _,.int_none _ _,.int_none _ _⟩
 ·exact⟨.int_bool _ _ _,.int_bool _ _ _,.int_bool _ _ _⟩
 ·exact⟨.int_int _ _ _ _,.int_int _ _ _ _,.int_int _ _ _ _⟩
 ·exact⟨.int_str _ _ _ _,.int_str _ _ _ _,.int_str _ _ _ _⟩
 ·exact⟨.str_none _ _,.str_none _ _,.str_none _ _⟩
 ·exact⟨.str_bool _ _ _,.str_bool _ _ _,.str_bool _ _ _⟩
 ·exact⟨.str_int _ _ _ _,.str_int _ _ _ _,.str_int _ _ _ _⟩
 ·exact⟨.str_str _ _ _ _,.str_str _ _ _ _,.str_str _ _ _ _⟩
theorem TV{pins:List (Addr × Obj)}{σ:L2.St}{s:Shared}(I:Inv X pins σ H s)(e:ag F H):∀(n:Nat) (x y:D) (v w:V) (u u':Value) (A:Around),dG n x=true->dG n y=true->S F H [x] [v]->S F H [y] [w]->RelV v u->RelV w u' ->
  A.units+n<cLine->TN A s u u' (bH x y):=by
 intro n
 induction n with
 | zero =>
  intro x y v w u u' A hx hy sx sy rv gb hu
  exact TU (uJ hx sx rv) (uJ hy sy gb)
 | succ n ih =>
  intro x y v w u u' A hx hy sx sy rv gb hu
  have bx:A.units<cLine:=mF (Nat.le_add_right ..) hu
  have TX:A.in1.units+n<cLine:=by show A.units+1+n<cLine;rw[Fl,Ba 1];exact hu
  have items:∀{xs ys:List D} {vs ws:List V} {us uK:List Value},xs.all (dG n)=true->ys.all (dG n)=true->S F H xs vs->S F H ys ws->Vals vs us->Vals ws uK ->
    ∀j (h1:j<us.toArray.size) (h2:j<uK.toArray.size),E7 A.in1 s us.toArray[j] uK.toArray[j] (bH (xs.getD j .ax) (ys.getD j .ax)):=by
   intro xs ys vs ws us uK hx hy sx sy r1 r2 j h1 h2
   obtain⟨a,e1,q1⟩:=TQ r1 h1
   obtain⟨b,e2,q2⟩:=TQ r2 h2
   obtain⟨d1,g1,t1⟩:=sx.get' e1
   obtain⟨d2,g2,t2⟩:=sy.get' e2
   rw[TR g1,TR g2]
   exact(ih d1 d2 a b _ _ A.in1 (cU.mp hx d1 (xZ g1)) (cU.mp hy d2 (xZ g2)) t1 t2 q1 q2 TX).eq
  clear ih hu TX
  rcases pd hx with k1 | ⟨o,xs,rfl,k1⟩ | ⟨xs,rfl,k1⟩
  ·have f:=uJ k1 sx rv
   rcases pd hy with k2 | ⟨o',ys,rfl,k2⟩ | ⟨ys,rfl,k2⟩
   ·exact TU f (uJ k2 sy gb)
   ·obtain⟨p',fi,rfl,e2,t2⟩:=iZ sy e
    cases gb
    obtain⟨kB,r2,p2,z2⟩:=I.list (bK.of (K:=X.K) e2)
    have p2:=p2.isList
    rcases f with⟨rfl,rfl⟩ | ⟨a,rfl,rfl⟩ | ⟨a,t,rfl,rfl⟩ | ⟨a,t,rfl,rfl⟩
    ·exact⟨.none_list p2 bx,.none_list p2 bx,.none_list p2 bx⟩
    ·exact⟨.bool_list _ p2 bx,.bool_list _ p2 bx,.bool_list _ p2 bx⟩
    ·exact⟨.int_list _ _ p2 bx,.int_list _ _ p2 bx,.int_list _ _ p2 bx⟩
    ·exact⟨.str_list _ _ p2 bx,.str_list _ _ p2 bx,.str_list _ _ p2 bx⟩
   ·obtain⟨p',fi,rfl,e2,t2⟩:=kA sy
    cases gb
    obtain⟨kB,r2,p2,z2⟩:=I.tuple (gS.of (K:=X.K) e2)
    rcases f with⟨rfl,rfl⟩ | ⟨a,rfl,rfl⟩ | ⟨a,t,rfl,rfl⟩ | ⟨a,t,rfl,rfl⟩
    ·exact⟨.none_tuple p2 bx,.none_tuple p2 bx,.none_tuple p2 bx⟩
    ·exact⟨.bool_tuple _ p2 bx,.bool_tuple _ p2 bx,.bool_tuple _ p2 bx⟩
    ·exact⟨.int_tuple _ _ p2 bx,.int_tuple _ _ p2 bx,.int_tuple _ _ p2 bx⟩
    ·exact⟨.str_tuple _ _ p2 bx,.str_tuple _ _ p2 bx,.str_tuple _ _ p2 bx⟩
  ·obtain⟨p,ws,rfl,e1,t1⟩:=iZ sx e
   cases rv
   obtain⟨its,r1,p1,z1⟩:=I.list (bK.of (K:=X.K) e1)
   have p1:=p1.isList
   rcases pd hy with k2 | ⟨o',ys,rfl,k2⟩ | ⟨ys,rfl,k2⟩
   ·rcases uJ k2 sy gb with⟨rfl,rfl⟩ | ⟨a,rfl,rfl⟩ | ⟨a,t,rfl,rfl⟩ | ⟨a,t,rfl,rfl⟩
    ·exact⟨.list_none p1 bx,.list_none p1 bx,.list_none p1 bx⟩
    ·exact⟨.list_bool _ p1 bx,.list_bool _ p1 bx,.list_bool _ p1 bx⟩
    ·exact⟨.list_int _ _ p1 bx,.list_int _ _ p1 bx,.list_int _ _ p1 bx⟩
    ·exact⟨.list_str _ _ p1 bx,.list_str _ _ p1 bx,.list_str _ _ p1 bx⟩
   ·obtain⟨p',fi,rfl,e2,t2⟩:=iZ sy e
    cases gb
    obtain⟨kB,r2,p2,z2⟩:=I.list (bK.of (K:=X.K) e2)
    have p2:=p2.isList
    have rX:xs.length=its.length:=t1.length.trans r1.length
    have uL:ys.length=kB.length:=t2.length.trans r2.length
    by_cases hl:xs.length=ys.length
    ·have lF:its.toArray.size=kB.toArray.size:=by rw[du,du,<- rX,<- uL];exact hl
     have ev:(aS its.toArray.size).all (λj=>bH (xs.getD j .ax) (ys.getD j .ax))=bH (.lst o xs) (.lst o' ys):=by
      show _=bH.fk xs ys
      rw[G8 xs ys hl,du,<- rX]
     have a:=SeqAt.RcAt.lists (e:=λj=>bH (xs.getD j .ax) (ys.getD j .ax)) p1 p2 lF bx (items k1 k2 t1 t2 r1 r2)
     have b:=SeqAt.RcNeAt.lists (e:=λj=>bH (xs.getD j .ax) (ys.getD j .ax)) p1 p2 lF bx (items k1 k2 t1 t2 r1 r2)
     rw[ev]at a b
     refine⟨a,b,?_⟩
     by_cases rY:p=p'
     ·subst rY
      cases e1.symm.trans e2
      rw[show bH (.lst o xs) (.lst o' ys)=true from TL n k1 k2 t1 t2 e]
      exact .same _
     ·exact .of_refs rY a
    ·have lF:(its.toArray.size != kB.toArray.size)=true:=bne_iff_ne.mpr (by rw[du,du,<- rX,<- uL];exact hl)
     rw[show bH (.lst o xs) (.lst o' ys)=false from G9 xs ys hl]
     have a:=SeqAt.RcAt.lists_lengths p1 p2 lF bx
     refine⟨a,SeqAt.RcNeAt.lists_lengths p1 p2 lF bx,.of_refs (λrY=>?_) a⟩
     subst rY
     cases e1.symm.trans e2
     exact hl (t1.length.trans t2.length.symm)
   ·obtain⟨p',fi,rfl,e2,t2⟩:=kA sy
    cases gb
    obtain⟨kB,r2,p2,z2⟩:=I.tuple (gS.of (K:=X.K) e2)
    exact⟨.list_tuple p1 p2 bx,.list_tuple p1 p2 bx,.list_tuple p1 p2 bx⟩
  ·obtain⟨p,ws,rfl,e1,t1⟩:=kA sx
   cases rv
   obtain⟨its,r1,p1,z1⟩:=I.tuple (gS.of (K:=X.K) e1)
   rcases pd hy with k2 | ⟨o',ys,rfl,k2⟩ | ⟨ys,rfl,k2⟩
   ·rcases uJ k2 sy gb with⟨rfl,rfl⟩ | ⟨a,rfl,rfl⟩ | ⟨a,t,rfl,rfl⟩ | ⟨a,t,rfl,rfl⟩
    ·exact⟨.tuple_none p1 bx,.tuple_none p1 bx,.tuple_none p1 bx⟩
    ·exact⟨.tuple_bool _ p1 bx,.tuple_bool _ p1 bx,.tuple_bool _ p1 bx⟩
    ·exact⟨.tuple_int _ _ p1 bx,.tuple_int _ _ p1 bx,.tuple_int _ _ p1 bx⟩
    ·exact⟨.tuple_str _ _ p1 bx,.tuple_str _ _ p1 bx,.tuple_str _ _ p1 bx⟩
   ·obtain⟨p',fi,rfl,e2,t2⟩:=iZ sy e
    cases gb
    obtain⟨kB,r2,p2,z2⟩:=I.list (bK.of (K:=X.K) e2)
    have p2:=p2.isList
    exact⟨.tuple_list p1 p2 bx,.tuple_list p1 p2 bx,.tuple_list p1 p2 bx⟩
   ·obtain⟨p',fi,rfl,e2,t2⟩:=kA sy
    cases gb
    obtain⟨kB,r2,p2,z2⟩:=I.tuple (gS.of (K:=X.K) e2)
    have rX:xs.length=its.length:=t1.length.trans r1.length
    have uL:ys.length=kB.length:=t2.length.trans r2.length
    have ev:((aS (min its.toArray.size kB.toArray.size)).all (λj=>bH (xs.getD j .ax) (ys.getD j .ax))&&its.toArray.size==kB.toArray.size)=bH (.tup xs) (.tup ys):=by
     show _=bH.fk xs ys
     rw[du,du,<- rX,<- uL]
     by_cases hl:xs.length=ys.length
     ·rw[G8 xs ys hl,<- hl,qD,beq_self_eq_true,jA]
     ·rw[G9 xs ys hl,beq_false_of_ne hl,Bool.and_false]
    have a:=SeqAt.RcAt.tuples (e:=λj=>bH (xs.getD j .ax) (ys.getD j .ax)) p1 p2 bx (items k1 k2 t1 t2 r1 r2)
    have b:=SeqAt.RcNeAt.tuples (e:=λj=>bH (xs.getD j .ax) (ys.getD j .ax)) p1 p2 bx (items k1 k2 t1 t2 r1 r2)
    rw[ev]at a b
    refine⟨a,b,?_⟩
    by_cases rY:p=p'
    ·subst rY
     cases e1.symm.trans e2
     rw[show bH (.tup xs) (.tup ys)=true from TL n k1 k2 t1 t2 e]
     exact .same _
    ·exact .of_refs rY a
noncomputable def rZ:cM:=λx y Q=>(dG 6 x=true/\dG 6 y=true)/\Q (.bl (bH x y))
noncomputable def r6:cM:=λx y Q=>(dG 6 x=true/\dG 6 y=true)/\Q (.bl (!bH x y))
theorem eJ(hu:X.A.units+6<cLine):bR X (compareOp .Eq) rZ:=bR.of λpins s σ H v w u u' Q I rv gb zz=>by
 obtain⟨B,F,aF,δ,ts,x,y,Qd,c,sx,sy,⟨⟨hx,hy⟩,q⟩,k⟩:=zz
 exact(TV I c.ext 6 x y v w u u' X.A hx hy sx sy rv gb hu).rc _ _ _ _ ⟨.bl _,H,I,rfl,k _ _ _ q (ag.refl _) (c.pushS (.bl .nil) rfl)⟩
theorem jQ(hu:X.A.units+6<cLine):bR X (compareOp .NotEq) r6:=bR.of λpins s σ H v w u u' Q I rv gb zz=>by
 obtain⟨B,F,aF,δ,ts,x,y,Qd,c,sx,sy,⟨⟨hx,hy⟩,q⟩,k⟩:=zz
 exact(TV I c.ext 6 x y v w u u' X.A hx hy sx sy rv gb hu).ne _ _ _ _ ⟨.bl _,H,I,rfl,k _ _ _ q (ag.refl _) (c.pushS (.bl .nil) rfl)⟩
end
end L3
namespace L3
open PySem L2 PySem.Spec PyProof.Rows
section
variable{X:Cx}{F H:Hp}{v w:V}{e a b c o:Expr}{es:List Expr}{pos p p2 apos bY:Pos}{t ta tb tc te:aQ}{tr:cL}{x:Str}
theorem ci7{r r':R2}{rd zt:cM}(hl:B0 r rd)(yB:B0 r' zt):∀σ H Q,lE (oK rd zt ta tb tc) σ H Q->RX r r' (lB ta) (lB tb) (lB tc) σ H Q:=λσ H Q ⟨B,F,δ,ts,Qd,c,q,k⟩ =>
 ⟨B,F,δ,ts,_,c,q,λx aq v F1 H1 q1 f1 h1 c1 s1=>⟨B,F1,aq,ts,_,c1,q1,λy aU w F2 H2 q2 f2 h2 c2 s2=>by
  refine hl c2 (s1.mono f2 h2) s2 q2 λd z H' hd hs c3=>?_
  obtain⟨b,rfl,qb⟩:=hd
  have st:=c3.top
  cases st with
  | bl _ =>
   refine⟨b,rfl,?_⟩
   cases b with
   | true =>
    refine oB ⟨B,F2,aU,ts,_,c3.pop,by simpa using qb,λz iw w3 F3 H3 q3 f3 h3 c4 s3=>?_⟩
    exact yB c4 (s2.mono f3 (hs.trans h3)) s3 q3 λd z H' hd hs' c5=>k d iw z F3 H' hd ((f1.trans f2).trans f3) ((((h1.trans h2).trans hs).trans h3).trans hs') c5
   | false=>exact lL (k _ aU _ F2 H' (by simpa using qb) (f1.trans f2) ((h1.trans h2).trans hs) (c3.pop.pushS (.bl .nil) rfl))⟩⟩
theorem Hb{op qQ:CmpOp}{rd zt:cM}(ho:bR X (compareOp op) rd)(j9:bR X (compareOp qQ) zt)(ha:PE X a (lB ta))(hb:PE X b (lB tb))(hc:PE X c (lB tc))
  (hm:lastMarks [op,qQ] [b,c]=false:=by with_unfolding_all rfl):PE X (.Compare a [op,qQ] [b,c] pos) (lE (oK rd zt ta tb tc)):=by
 obtain⟨r,h1,h2⟩:=ho
 obtain⟨r',jK,jh⟩:=j9
 exact dE (cr7 h1 jK ha hb hc hm) (ci7 h2 jh)
noncomputable def r9(t:aQ):aQ:=λδ Q=>t δ λd ai=>match d with
 | .int i=>Q (.int (-i)) ai
 | _=>False
theorem TY(ha:PE X a (lB ta)):PE X (.UnaryOp .USub a pos) (lE (r9 ta)):=dE (c80 cP2 ha) λσ H Q ⟨B,F,δ,ts,Qd,c,q,k⟩=>⟨B,F,δ,ts,_,c,q,λd aq v F1 H1 q1 f1 h1 c1 s1=>by
 cases s1 with
 | int _=>exact⟨_,rfl,k _ aq _ F1 H1 q1 f1 h1 (c1.pushS (.int .nil) rfl)⟩
 | _=>exact q1.elim⟩
noncomputable abbrev iC:=List D->(D->Prop)->Prop
noncomputable def lc(rd:iC):List V->Hp->VK->Prop:=λvs H Q=>∃B F σ δ ts ds Qd,au B F H σ δ ts/\S F H ds vs/\rd ds Qd/\∀d z H',Qd d->ag H H'->au B F H' σ δ ((d,z)::ts)->Q z H'
noncomputable def fW(X:Cx)(f:Value)(rd:iC):Prop:=fZ X f (lc rd)
theorem fW.of{f:Value}{r:List V->Hp->VK->Prop}{rd:iC}(h:fZ X f r)(m:∀vs H Q,lc rd vs H Q->r vs H Q):fW X f rd:=λpins s σ H xs us Q I r q=>h pins s σ H xs us Q I r (m xs H Q q)
noncomputable def nk(rd:iC)(t:cL):aQ:=λδ Q=>t δ λds ai=>rd ds λd=>Q d ai
theorem TZ{rd:iC}:∀σ H Q,lE (nk rd tr) σ H Q->Gb (lc rd) (lA tr) σ H Q:=λσ H Q ⟨B,F,δ,ts,Qd,c,q,k⟩=>⟨B,F,δ,ts,_,c,q,λds aq vs F1 H1 q1 f1 h1 c1 s1 =>
 ⟨B,F1,σ,aq,ts,ds,_,c1,s1,q1,λd z H' hd hs c'=>k d aq z F1 H' hd f1 (h1.trans hs) c'⟩⟩
theorem ck{id:String}{rd:iC}(hc:fW X (.builtin id) rd)(hg:Gl X x)(hm:X.mg x=none)(hv:bootBuiltins x=some (.builtin id))(ha:PA X (e::es) (lA tr))(hn:x≠"__name__":=by decide)(eZ:(x==("__debug__":Str))=false:=by decide)
  (he:starEach (e::es) X.env=(false,eval e X.env)::starEach es X.env:=by rfl) (bL:(backTo pos (starEach es X.env)).any (·.1)=false:=by rfl):PE X (.Call (.Name x p) (e::es) [] pos) (lE (nk rd tr)) :=
 dE (Sa hc hg hm hv ha hn eZ he bL) TZ
theorem zw{T:String}{rd:iC}(hc:fW X (.type T) rd)(hg:Gl X x)(hm:X.mg x=none)(hv:bootBuiltins x=some (.type T))(ha:PA X (e::es) (lA tr))(hn:x≠"__name__":=by decide)(eZ:(x==("__debug__":Str))=false:=by decide)
  (he:starEach (e::es) X.env=(false,eval e X.env)::starEach es X.env:=by rfl) (bL:(backTo pos (starEach es X.env)).any (·.1)=false:=by rfl):PE X (.Call (.Name x p) (e::es) [] pos) (lE (nk rd tr)) :=
 dE (ck6 hc hg hm hv ha hn eZ he bL) TZ
theorem jm{d:D}{vs:List V}(s:S F H [d] vs):∃v,vs=[v]/\S F H [d] [v]:=by
 obtain⟨v,cE,rfl,h1,h2⟩:=s.cR
 cases h2
 exact⟨v,rfl,h1⟩
theorem c72{d d':D}{vs:List V}(s:S F H [d,d'] vs):∃v v',vs=[v,v']/\S F H [d] [v]/\S F H [d'] [v']:=by
 obtain⟨v,cE,rfl,h1,h2⟩:=s.cR
 obtain⟨v',rfl,h3⟩:=jm h2
 exact⟨v,v',rfl,h1,h3⟩
theorem kC{K:PySem.W.Frag}{p:Addr}{ws:List V}(h:Rd H p (.lst ws)):bK K H p ws:=.inl h
noncomputable def pe:iC:=λds Q=>match ds with
 | [.lst _ xs]=>Q (.int xs.length)
 | [.fz xs]=>Q (.int xs.length)
 | [.tup xs]=>Q (.int xs.length)
 | [.str z]=>z.length<=sizeLine/\Q (.int z.length)
 | _=>False
theorem de:fW X (.builtin "len") pe:=fW.of (dz7.or bN6) λvs H Q zz=>by
 obtain⟨B,F,σ,δ,ts,ds,Qd,c,s,q,k⟩:=zz
 unfold pe at q
 split at q
 ·obtain⟨v,rfl,s1⟩:=jm s
  obtain⟨p,ws,rfl,h,t⟩:=lV s1 c.ext rfl
  refine .inl ⟨p,ws,rfl,.inl (kC h),?_⟩
  rw[<-t.length]
  exact k _ _ _ q (ag.refl _) (c.pushS (.int .nil) rfl)
 ·obtain⟨v,rfl,s1⟩:=jm s
  obtain⟨p,ws,rfl,h,t⟩:=lV s1 c.ext rfl
  refine .inl ⟨p,ws,rfl,.inl (kC h),?_⟩
  rw[<-t.length]
  exact k _ _ _ q (ag.refl _) (c.pushS (.int .nil) rfl)
 ·obtain⟨v,rfl,s1⟩:=jm s
  obtain⟨p,ws,rfl,h,t⟩:=kA s1
  refine .inl ⟨p,ws,rfl,.inr (gS.of h),?_⟩
  rw[<-t.length]
  exact k _ _ _ q (ag.refl _) (c.pushS (.int .nil) rfl)
 ·obtain⟨v,rfl,s1⟩:=jm s
  cases s1
  exact .inr ⟨_,rfl,q.1,k _ _ _ q.2 (ag.refl _) (c.pushS (.int .nil) rfl)⟩
 ·exact q.elim
noncomputable def pf:iC:=λds Q=>match ds with
 | [.lst _ xs]=>xs.all D.pl=true/\Q (.lst true xs)
 | [.fz xs]=>Q (.lst true xs)
 | [.tup xs]=>xs.all D.pl=true/\Q (.lst true xs)
 | _=>False
theorem Cc:fW X (.type "list") pf:=fW.of bM0 λvs H Q zz=>by
 obtain⟨B,F,σ,δ,ts,ds,Qd,c,s,q,k⟩:=zz
 unfold pf at q
 split at q
 ·obtain⟨v,rfl,s1⟩:=jm s
  obtain⟨p,ws,rfl,h,t⟩:=lV s1 c.ext rfl
  exact⟨p,ws,rfl,.inl (kC h),λl hl=>k _ _ _ q.2 (ag.upd hl) (c.oI hl t q.1)⟩
 ·obtain⟨v,rfl,s1⟩:=jm s
  cases s1 with
  | fz h r _=>exact⟨_,_,rfl,.inl (kC (.inr ⟨_,c.ext _ _ h⟩)),λl hl=>k _ _ _ q (ag.upd hl) (c.oI hl r.s r.pl)⟩
 ·obtain⟨v,rfl,s1⟩:=jm s
  obtain⟨p,ws,rfl,h,t⟩:=kA s1
  exact⟨p,ws,rfl,.inr (gS.of h),λl hl=>k _ _ _ q.2 (ag.upd hl) (c.oI hl t q.1)⟩
 ·exact q.elim
noncomputable def ii(g:Int->Int->Int):iC:=λds Q=>match ds with
 | [.int i,.int j]=>Q (.int (g i j))
 | _=>False
theorem T1{f:Value}{g:Int->Int->Int}(h:fZ X f (λxs H Q=>∃i j,xs=[.int i,.int j]/\Q (.int (g i j)) H)):fW X f (ii g):=fW.of h λvs H Q zz=>by
 obtain⟨B,F,σ,δ,ts,ds,Qd,c,s,q,k⟩:=zz
 unfold ii at q
 split at q
 ·obtain⟨v,v',rfl,s1,s2⟩:=c72 s
  cases s1;cases s2
  exact⟨_,_,rfl,k _ _ _ q (ag.refl _) (c.pushS (.int .nil) rfl)⟩
 ·exact q.elim
theorem c02(hc:X.calm=true):fW X (.builtin "max") (ii λi j=>if j>i then j else i):=T1 (cc2 hc)
theorem Hc(hc:X.calm=true):fW X (.builtin "min") (ii λi j=>if j<i then j else i):=T1 (ch2 hc)
noncomputable def se(bs:List Bool):List D:=bs.map D.bl
theorem He:∀{bs:List Bool} {ws:List V},S F H (se bs) ws->ws=bs.map V.bl
 | [],_,s=>by cases s;rfl
 | b::bs,_,s=>by
  cases s with
  | bl s=>rw[He s];rfl
noncomputable def pk:iC:=λds Q=>match ds with
 | [.lst _ xs]=>∃bs,xs=se bs/\Q (.bl (bs.all id))
 | _=>False
noncomputable def pq:iC:=λds Q=>match ds with
 | [.lst _ xs]=>∃bs,xs=se bs/\Q (.bl (bs.any id))
 | _=>False
theorem Hf(hc:X.calm=true):fW X (.builtin "all") pk:=fW.of (cq3 hc) λvs H Q zz=>by
 obtain⟨B,F,σ,δ,ts,ds,Qd,c,s,q,k⟩:=zz
 unfold pk at q
 split at q
 ·obtain⟨v,rfl,s1⟩:=jm s
  obtain⟨bs,rfl,q⟩:=q
  obtain⟨p,ws,rfl,h,t⟩:=lV s1 c.ext rfl
  rw[He t]at h
  exact⟨p,bs,rfl,kC h,k _ _ _ q (ag.refl _) (c.pushS (.bl .nil) rfl)⟩
 ·exact q.elim
theorem cX8(hc:X.calm=true):fW X (.builtin "any") pq:=fW.of (cr0 hc) λvs H Q zz=>by
 obtain⟨B,F,σ,δ,ts,ds,Qd,c,s,q,k⟩:=zz
 unfold pq at q
 split at q
 ·obtain⟨v,rfl,s1⟩:=jm s
  obtain⟨bs,rfl,q⟩:=q
  obtain⟨p,ws,rfl,h,t⟩:=lV s1 c.ext rfl
  rw[He t]at h
  exact⟨p,bs,rfl,kC h,k _ _ _ q (ag.refl _) (c.pushS (.bl .nil) rfl)⟩
 ·exact q.elim
noncomputable def Hg:D->Option String
 | .int _=>some "int"
 | .bl _=>some "bool"
 | .ax=>some "NoneType"
 | .str _=>some "str"
 | .lst _ _=>some "list"
 | .fz _=>some "list"
 | .tup _=>some "tuple"
 | _=>none
noncomputable def Hh(k n:String):Option Bool:=([("int","int",true),("int","bool",false),("int","list",false),("int","tuple",false),("int","str",false),("bool","int",true),("bool","bool",true),("bool","list",false),("bool","tuple",false),("bool","str",false),
 ("NoneType","int",false),("NoneType","bool",false),("NoneType","list",false),("NoneType","tuple",false),("NoneType","str",false),("str","int",false),("str","bool",false),("str","list",false),("str","tuple",false),("str","str",true),
 ("list","int",false),("list","bool",false),("list","list",true),("list","tuple",false),("list","str",false),("tuple","int",false),("tuple","bool",false),("tuple","list",false),("tuple","tuple",true),("tuple","str",false)].find? λz=>z.1==k&&z.2.1==n).map (·.2.2)
noncomputable def lY(n:String)(d:D):Option Bool:=(Hg d).bind λk=>Hh k n
theorem cO6{K:PySem.W.Frag}{k n:String}{r:Bool}(h:Hh k n=some r):PySem.W.kitOne K (.type k) (.type n)=some r:=by
 unfold Hh at h
 obtain⟨z,hz,rfl⟩:=x9.mp h
 have hm:=dj0 hz
 have hp:=List.find?_some hz
 rw[dY,beq_iff_eq,beq_iff_eq]at hp
 obtain⟨rfl,rfl⟩:=hp
 simp only[bX,ig,or_false]at hm
 repeat' (rcases hm with hm | hm)
 all_goals rfl
theorem cL2{K:PySem.W.Frag}{d:D}(s:S F H [d] [v])(e:ag F H){k:String}(h:Hg d=some k):iq K H v (.type k):=by
 cases s with
 | int _=>cases h;exact .int _
 | bl _=>cases h;exact .bl _
 | ax _=>cases h;exact .ax
 | str _=>cases h;exact .str _
 | shr h' _ _=>cases h;exact .lst (e _ _ h')
 | own h' _ _=>cases h;exact .lst h'
 | fz h' _ _=>cases h;exact .cg (e _ _ h')
 | tup h' _ _=>cases h;exact .tup h'
 | obj _ _ _ _=>cases h
 | bJ _ _=>cases h
theorem c09{K:PySem.W.Frag}{d:D}(s:S F H [d] [v])(e:ag F H){n:String}{r:Bool}(h:lY n d=some r):∃t,iq K H v t/\PySem.W.kitOne K t (.type n)=some r:=by
 unfold lY at h
 cases hk:Hg d with
 | none=>rw[hk]at h;cases h
 | some k=>rw[hk]at h;exact⟨_,cL2 s e hk,cO6 h⟩
noncomputable def si(n:String)(t:aQ):aQ:=λδ Q=>t δ λd ai=>∃r,lY n d=some r/\Q (.bl r) ai
theorem Hi{n:String}{y:Str}{q:Pos}(hg:Gl X "isinstance")(hm:X.mg "isinstance"=none)(hg2:Gl X y)(T2:X.mg y=none)(hv2:bootBuiltins y=some (.type n))(ha:PE X a (lB ta))
  (hn:y≠"__name__":=by decide) (hd:(y==("__debug__":Str))=false:=by decide)
  (hs:starEach [a,.Name y q] X.env=(false,eval a X.env)::starEach [.Name y q] X.env:=by rfl) (gU:starEach [.Name y q] X.env=(false,eval (.Name y q) X.env)::starEach [] X.env:=by rfl) (bL:(backTo pos (starEach [.Name y q] X.env)).any (·.1)=false:=by rfl) :
  PE X (.Call (.Name "isinstance" p) [a,.Name y q] [] pos) (lE (si n ta)) :=
 dE (Sa bB0 hg hm bI9 (fE ha (fE (cY5 hg2 T2 hv2 hn hd) jg gU) hs) (by decide) (by decide) hs bL) λσ H Q ⟨B,F,δ,ts,Qd,c,q,k⟩=>⟨B,F,δ,ts,_,c,q,λd aq v F1 H1 q1 f1 h1 c1 s1=>by
  obtain⟨r,e,qr⟩:=q1
  obtain⟨t,h2,h3⟩:=c09 (K:=X.K) s1 c1.ext e
  exact⟨v,n,t,r,rfl,h2,h3,k _ aq _ F1 H1 qr f1 h1 (c1.pushS (.bl .nil) rfl)⟩⟩
theorem Hj{xs:List D}{ws:List V}{i:Int}{d:D}(s:S F H xs ws)(h:eB xs i=some d):∃v,eB ws i=some v/\S F H [d] [v]:=by
 unfold eB at h ⊢
 rw[<-s.length]
 cases e:iu xs.length i with
 | none=>rw[e]at h;cases h
 | some j =>
  rw[e]at h
  exact s.get h
noncomputable def pz(x y:D)(Q:D->Prop):Prop:=match x,y with
 | .lst _ xs,.int i=>∃d,eB xs i=some d/\Q d
 | .fz xs,.int i=>∃d,eB xs i=some d/\Q d
 | .tup xs,.int i=>∃d,eB xs i=some d/\Q d
 | .str z,.int i=>z.length<=sizeLine/\∃ch,eB z.cps.toList i=some ch/\Q (.str ⟨#[ch]⟩)
 | _,_=>False
noncomputable def sj(ta tb:aQ):aQ:=λδ Q=>ta δ λx aq=>tb aq λy aU=>pz x y λd=>Q d aU
theorem br(ha:PE X a (lB ta))(hb:PE X b (lB tb))(hs:Sd b):PE X (.Subscript a b pos) (lB (sj ta tb)) :=
 dE (c76 cR7 ha hb hs) λσ H Q ⟨B,F,δ,ts,Qd,c,q,k⟩=>⟨B,F,δ,ts,_,c,q,λx aq v F1 H1 q1 f1 h1 c1 s1=>⟨B,F1,aq,ts,_,c1,q1,λy aU w F2 H2 q2 f2 h2 c2 s2=>by
  have kD:=s1.mono f2 h2
  have fin:∀d z,Qd d aU->S F2 H2 [d] [z]->Q z H2:=λd z hd s=>k d aU z F2 H2 hd (f1.trans f2) (h1.trans h2) c2 s
  unfold pz at q2
  split at q2
  ·obtain⟨d,ed,qd⟩:=q2
   cases s2
   obtain⟨p,ws,rfl,h,t⟩:=lV kD c2.ext rfl
   obtain⟨z,ez,sz⟩:=Hj t ed
   exact .inl ⟨p,ws,_,z,rfl,rfl,kC h,ez,fin d z qd sz⟩
  ·obtain⟨d,ed,qd⟩:=q2
   cases s2
   obtain⟨p,ws,rfl,h,t⟩:=lV kD c2.ext rfl
   obtain⟨z,ez,sz⟩:=Hj t ed
   exact .inl ⟨p,ws,_,z,rfl,rfl,kC h,ez,fin d z qd sz⟩
  ·obtain⟨d,ed,qd⟩:=q2
   cases s2
   obtain⟨p,ws,rfl,h,t⟩:=kA kD
   obtain⟨z,ez,sz⟩:=Hj t ed
   exact .inr (.inl ⟨p,ws,_,z,rfl,rfl,gS.of h,ez,fin d z qd sz⟩)
  ·obtain⟨hz,ch,ec,qc⟩:=q2
   cases kD
   cases s2
   exact .inr (.inr ⟨_,_,ch,rfl,rfl,hz,ec,fin _ _ qc (.str .nil)⟩)
  ·exact q2.elim⟩⟩
noncomputable abbrev uM:=Dl->(Option Int->Dl->Prop)->Prop
noncomputable def lP(t:uM):TO:=λσ H Q=>∃B F δ ts Qd,au B F H σ δ ts/\t δ Qd/\∀o ai F' H',Qd o ai->ag F F'->ag H H'->au B F' H' σ ai ts->Q o H'
theorem T3{oe:Option Expr}{u u':TO}(h:PO X oe u)(m:∀σ H Q,u' σ H Q->u σ H Q):PO X oe u':=λpins s σ H Q I q=>h pins s σ H Q I (m σ H Q q)
noncomputable def sk:uM:=λδ Q=>Q none δ
noncomputable def sq(t:aQ):uM:=λδ Q=>t δ λd ai=>match d with
 | .int i=>Q (some i) ai
 | _=>False
theorem Hk:PO X none (lP sk):=T3 cD3 λσ H Q ⟨B,F,δ,ts,Qd,c,q,k⟩=>k none δ F H q (ag.refl _) (ag.refl _) c
theorem Hl(h:PE X e (lB t)):PO X (some e) (lP (sq t)):=T3 (cG0 h) λσ H Q ⟨B,F,δ,ts,Qd,c,q,k⟩=>⟨B,F,δ,ts,_,c,q,λd aq v F1 H1 q1 f1 h1 c1 s1=>by
 cases s1 with
 | int _=>exact⟨_,rfl,k _ aq F1 H1 q1 f1 h1 c1⟩
 | _=>exact q1.elim⟩
noncomputable def fm{α:Type}(xs:List α)(lo hi:Option Int):List α:=(xs.drop (HT.cV xs.length 0 lo)).take (HT.cV xs.length xs.length hi-HT.cV xs.length 0 lo)
theorem S.cut{xs:List D}{ws:List V}(s:S F H xs ws)(lo hi:Option Int):S F H (fm xs lo hi) (uo ws lo hi):=by
 unfold fm uo
 rw[<-s.length]
 exact(s.drop _).take _
theorem T4{xs:List D}{p:D->Bool}(h:xs.all p=true)(lo hi:Option Int):(fm xs lo hi).all p=true:=by
 rw[cU]at h ⊢
 intro x hx
 exact h x (Bg (ya hx))
noncomputable def sr(t:aQ):aQ:=λδ Q=>t δ λd ai=>match d with
 | .int i=>Q (.int (Mf.bl i.natAbs:Nat)) ai
 | _=>False
theorem nq(ho:PE X o (lB t))(ki:attributeBase o "bit_length" X.env (eval o X.env)=eval o X.env:=by rfl)(kj:(apos.endLine==bY.line)=true:=by rfl):PE X (.Call (.Attribute o "bit_length" apos) [] [] bY) (lE (sr t)) :=
 dE (GA ho ki kj) λσ H Q ⟨B,F,δ,ts,Qd,c,q,k⟩=>⟨B,F,δ,ts,_,c,q,λd aq v F1 H1 q1 f1 h1 c1 s1=>by
  cases s1 with
  | int _=>exact⟨rfl,_,rfl,rfl,k _ aq _ F1 H1 q1 f1 h1 (c1.pushS (.int .nil) rfl)⟩
  | _=>exact q1.elim⟩
end
end L3
namespace L3
open PySem L2 PySem.Spec PyProof.Rows
section
variable{X:Cx}{F H:Hp}{v w:V}{e a b c o tg:Expr}{es:List Expr}{pos p p2 apos bY pos':Pos}{t ta tb tc te ti:aQ}{tr:cL}{x:Str}{i:Nat}
noncomputable def su(i:Nat)(t:aQ):cO:=λD δ=>(∃xs,δ[i]?=some (some (.lst true xs)))/\t δ λd ai=>∃xs,ai[i]?=some (some (.lst true xs))/\xs.length<sizeLine/\D.nx (ai.set i (some (.lst true (xs++[d]))))
theorem sA(hN:X.N[i]?=some x)(hv:lh X.env.scope x)(he:PE X e (lE t))(hd:(x==("__debug__":Str))=false:=by decide)(cN:(x==("__classdict__":Str))=false:=by decide)
  (ki:attributeBase (.Name x p) "append" X.env (eval (.Name x p) X.env)=eval (.Name x p) X.env:=by rfl)
  (Gj:((backTo bY (starEach [e] X.env)).all (λx=>!x.1)&&(backToKw bY (keywordEach [] X.env)).all (λx=>x.1.isSome)
   && decide ([e].length+([]:List Keyword).length+(if([]:List Keyword).isEmpty then 0 else 1)<30))=true:=by rfl)
  (kj:(apos.endLine==bY.line)=true:=by rfl) (hs:starEach [e] X.env=(false,eval e X.env)::starEach [] X.env:=by rfl) (Gk:(backTo bY (starEach [] X.env)).any (·.1)=false:=by rfl)
  (sC:swapsWith (.Call (.Attribute (.Name x p) "append" apos) [e] [] bY) none pos.line X.env=pure false:=by rfl) :
  PS X (.Expr (.Call (.Attribute (.Name x p) "append" apos) [e] [] bY) pos) (lS X (su i t)) :=
 lQ (BF (cY7 PySem.F.plainAttrs_list PySem.F.slot_list_append PySem.F.type_list_append Sq (qM hN hv hd cN) (fE he jg hs) ki Gj kj hs Gk) sC) λEn σ H zz=>by
  obtain⟨B,F,δ,Dd,c,⟨⟨ys,ey⟩,q⟩,k1,k2,k3,k4⟩:=zz
  obtain⟨p0,uD,g1,g2,g3⟩:=c.ownAt ey
  refine⟨.ref p0,g1,.inl ⟨rfl,_,bK.of g2⟩,B,F,δ,[],_,c,q,λd ai v F' H' hd sf sh c'=>?_⟩
  obtain⟨xs,ex,hl,hn⟩:=hd
  obtain⟨p1,ws,r1,r2,r3⟩:=c'.ownAt ex
  rw[g1]at r1;cases r1
  exact⟨p0,ws,v,rfl,rfl,r2,by omega,k1 _ _ F' _ hn (c'.app ex g1 r2)⟩
noncomputable def sD(i:Nat)(te ti:aQ):cO:=λD δ=>te δ λd aq=>∃ys,aq[i]?=some (some (.lst true ys))/\oJ ti aq λk aU=>match k with
 | .int n=>∃xs j,aU[i]?=some (some (.lst true xs))/\iu xs.length n=some j/\D.nx (aU.set i (some (.lst true (xs.set j d))))
 | _=>False
theorem sE(hN:X.N[i]?=some x)(hv:lh X.env.scope x)(he:PE X e (lE te))(hi:PE X b (lB ti))(hd:(x==("__debug__":Str))=false:=by decide)(cN:(x==("__classdict__":Str))=false:=by decide)
  (ha:∀v,assign (.Subscript (.Name x p) b pos') X.env v=(do
   let ov<-holding [v] (eval (.Name x p) X.env)
   let iv<-holding [v,ov] (eval b X.env)
   standAt pos'
   holding [v,ov,iv] (setItem ov iv v)
   release [v,ov,iv] []):=by intro _;rfl)
  (hs:swapsWithSole [.Subscript (.Name x p) b pos'] e pos.line X.env=pure false:=by rfl) (hw:swappedStores [.Subscript (.Name x p) b pos'] e X.env=pure none:=by rfl)
  (h1:(assignEach [.Subscript (.Name x p) b pos'] X.env).map (·.2)=[assign (.Subscript (.Name x p) b pos') X.env]:=by rfl) :
  PS X (.Assign [.Subscript (.Name x p) b pos'] e pos) (lS X (sD i te ti)) :=
 lQ (cR0 he (cU0 (qM hN hv hd cN) (dF hi) cu8 ha) hs hw h1) λEn σ H ⟨B,F,δ,Dd,c,q,k1,k2,k3,k4⟩=>⟨B,F,δ,[],_,c,q,λd aq v F1 H1 hq f1 h1 c1=>by
  obtain⟨ys,ey,hq⟩:=hq
  obtain⟨p0,uD,g1,g2,g3⟩:=c1.ownAt ey
  refine⟨.ref p0,g1,B,F1,aq,[(d,v)],_,c1,hq,λkd aU kv F2 H2 hk f2 h2 c2=>?_⟩
  have st:=c2.top
  split at hk
  ·obtain⟨xs,j,ex,ej,hn⟩:=hk
   cases st
   have c3:=c2.pop
   obtain⟨p1,ws,r1,r2,r3⟩:=c3.ownAt ex
   rw[g1]at r1;cases r1
   exact⟨p0,ws,_,j,rfl,rfl,r2,by rw[<-r3];exact ej,k1 _ _ F2 _ hn (c3.dK3 ex g1 r2 j)⟩
  ·exact hk.elim⟩
theorem R.T5:∀{xs:List D} {ws:List V} {A:List Addr},R F H xs ws A->A.Nodup->∃A',R F H xs.dropLast ws.dropLast A'/\A'.Nodup/\∀a∈A',a∈A
 | [],_,A,r,nd=>by cases r;exact⟨[],.nil,by simp,by simp⟩
 | [d],_,A,r,nd=>by
  obtain⟨w,fi,B1,B2,rfl,rfl,h1,h2⟩:=r.cR
  cases h2
  exact⟨[],.nil,by simp,by simp⟩
 | d::d'::ds,_,A,r,nd=>by
  obtain⟨w,fi,B1,B2,rfl,rfl,h1,h2⟩:=r.cR
  obtain⟨n1,n2,n3⟩:=gZ.mp nd
  obtain⟨A',r',qY,sub⟩:=R.T5 h2 n2
  have hl:fi≠[]:=by have:=h2.length;intro z;rw[z]at this;simp at this
  refine⟨B1++A',?_,gZ.mpr ⟨n1,qY,λa ha hb=>n3 a ha (sub a hb)⟩,λa ha=>?_⟩
  ·rw[dj1 (by simp),dj1 hl]
   exact h1.cons r'
  ·rcases bW.mp ha with z | z
   ·simp[z]
   ·simp[sub a z]
noncomputable def sF(i:Nat):cO:=λD δ=>∃xs,δ[i]?=some (some (.lst true xs))/\xs≠[]/\D.nx (δ.set i (some (.lst true xs.dropLast)))
theorem cX3(hN:X.N[i]?=some x)(hv:lh X.env.scope x)(hd:(x==("__debug__":Str))=false:=by decide)(cN:(x==("__classdict__":Str))=false:=by decide)
  (ki:attributeBase (.Name x p) "pop" X.env (eval (.Name x p) X.env)=eval (.Name x p) X.env:=by rfl) (kj:(apos.endLine==bY.line)=true:=by rfl)
  (sC:swapsWith (.Call (.Attribute (.Name x p) "pop" apos) [] [] bY) none pos.line X.env=pure false:=by rfl) :
  PS X (.Expr (.Call (.Attribute (.Name x p) "pop" apos) [] [] bY) pos) (lS X (sF i)) :=
 lQ (BF (Sk PySem.F.plainAttrs_list PySem.F.slot_list_pop PySem.F.type_list_pop cN7 (qM hN hv hd cN) ki kj) sC) λEn σ H zz=>by
  obtain⟨B,F,δ,Dd,c,⟨ys,ey,m3,hn⟩,k1,k2,k3,k4⟩:=zz
  obtain⟨p0,uD,g1,g2,g3⟩:=c.ownAt ey
  have hl:0<uD.length:=by rw[<-g3];exact Fm.mpr m3
  refine⟨.ref p0,g1,.inl ⟨rfl,_,bK.of g2⟩,p0,uD,_,rfl,rfl,g2,aJ (by omega),k1 _ _ F _ hn ?_⟩
  exact au.mut (ps:=[]) c ey g1 λfi A1 A2 h r1 r2 nd=>by
   rw[g2]at h;cases h
   obtain⟨A',r',qY,sub⟩:=r1.T5 (gZ.mp nd).1
   exact⟨A',r',qY,λa ha=>gQ _ (sub a ha)⟩
end
end L3
namespace L3
open PySem L2 PySem.Spec PyProof.Rows
theorem cI{A:Around}{k:Nat}(hr:cC k A):A.units+6<cLine:=by have:=hr.un;omega
noncomputable def aC(ns:List Int):List D:=ns.map D.int
noncomputable def Hm(o:Obj):Bool:=match o.cls with
 | .type n=>n != "list"
 | _=>true
noncomputable def T6:bh:=λds Q=>∃ns:List Int,ds=[.fz (aC ns)]/\ns.length<=63/\Q (.bl true)
theorem kE{F H:Hp}:∀ns:List Int,R F H (aC ns) (ns.map V.int) []
 | []=>.nil
 | n::ns=>.int (kE ns)
theorem bP0{K:PySem.W.Frag}{a:Addr}{o:Obj}(h:K.lookup a=some o):(a,o)∈K:=by
 induction K with
 | nil=>cases h
 | cons p K ih =>
  obtain⟨b,u⟩:=p
  rw[gq]at h
  split at h
  ·rename_i z
   have:a=b:=by simpa using z
   cases h;subst this;simp
  ·exact eE _ (ih h)
end L3
namespace L3
open PySem L2 PySem.Spec PyProof.Rows
section
variable{B:Bs}{F H:Hp}{σ:L2.St}{δ:Dl}{ts ps:List (D × V)}{i k:Nat}{p q:Addr}{l1 l2 ys Td:List D}{ws uK:List V}
end
section
variable{X:Cx}{F H:Hp}{e b:Expr}{pos p pr apos bY Ho:Pos}{t ti te:aQ}{x y:Str}{i j:Nat}
end
end L3
namespace L3
open PySem L2 PySem.Spec PyProof.Rows
theorem uN(i:Int):(D.int i).pl=true:=rfl
theorem uO(i:Bool):(D.bl i).pl=true:=rfl
theorem uP(i:Str):(D.str i).pl=true:=rfl
theorem uQ:D.ax.pl=true:=rfl
theorem uR(xs:List D):(D.fz xs).pl=true:=rfl
theorem uS(C:Addr)(ns:List Str)(xs:List D):(D.obj C ns xs).pl=true:=rfl
theorem pB(i:Int):(D.int i).fr=true:=rfl
theorem uT(i:Bool):(D.bl i).fr=true:=rfl
theorem uU(i:Str):(D.str i).fr=true:=rfl
theorem uV:D.ax.fr=true:=rfl
theorem kF(i:Int):(D.int i).sh=.int i:=rfl
theorem uW(i:Bool):(D.bl i).sh=.bl i:=rfl
theorem uX(i:Str):(D.str i).sh=.str i:=rfl
theorem uY:D.ax.sh=.ax:=rfl
theorem uZ(xs:List D):(D.fz xs).sh=.fz xs:=rfl
theorem u3(C:Addr)(ns:List Str)(xs:List D):(D.obj C ns xs).sh=.obj C ns xs:=rfl
theorem u4{α:Type}(n:Nat)(x:α):(aV n [x]).flatten=aV n x:=by
 induction n with
 | zero=>rfl
 | succ n ih=>rw[qw,tX,ih];rfl
theorem kG(ns:List Int):(aC ns).length=ns.length:=by simp[aC]
theorem lZ(ns:List Int):(aC ns).all D.pl=true:=by simp[aC,D.pl]
theorem pE(ns:List Int):(aC ns).all D.fr=true:=by simp[aC,D.fr]
theorem jn(ns:List Int):(aC ns).map D.sh=aC ns:=by simp[aC,D.sh]
theorem pF(a b:List Int):aC a++aC b=aC (a++b):=by simp[aC]
theorem u5(n:Nat)(i:Int):aV n (D.int i)=aC (aV n i):=by simp[aC]
theorem pG(n:Nat)(i:Int):dG n (.int i)=true:=by cases n<;>rfl
theorem u6(n:Nat)(i:Str):dG n (.str i)=true:=by cases n<;>rfl
theorem sG(n:Nat):dG n .ax=true:=by cases n<;>rfl
theorem i3(i j:Int):bH (.int i) (.int j)=decide (i=j):=by
 show(i==j)=_
 rw[Bool.beq_eq_decide_eq]
theorem T7:∀(a b:List Int),bH.fk (aC a) (aC b)=decide (a=b)
 | [],[]=>rfl
 | [],_::_=>by simp[aC,bH.fk]
 | _::_,[]=>by simp[aC,bH.fk]
 | x::xs,y::ys=>by
  show(bH (.int x) (.int y)&&bH.fk (aC xs) (aC ys))=_
  rw[T7 xs ys,i3,tZ];simp
theorem sH(o o':Bool)(a b:List Int):bH (.lst o (aC a)) (.lst o' (aC b))=decide (a=b):=T7 a b
theorem T8{ns:List Int}{k:Nat}(h:k<ns.length):(aC ns)[k]?=some (.int ns[k]):=by simp[aC,h]
theorem me{ns:List Int}{k:Int}(h0:0<=k)(h:k<ns.length):eB (aC ns) k=some (.int (ns.getD k.toNat 0)):=by
 unfold eB iu
 rw[if_pos h0,kG,if_pos h]
 show(aC ns)[k.toNat]?=_
 have hk:k.toNat<ns.length:=by omega
 rw[T8 hk,aL,aJ hk];rfl
theorem sI(ns:List Int)(lo hi:Option Int):fm (aC ns) lo hi=aC (fm ns lo hi):=by simp[fm,aC,Ri,Rj]
theorem u7(i:Int):lY "int" (.int i)=some true:=by rfl
theorem u9(i:Int):lY "bool" (.int i)=some false:=by rfl
theorem va(i:Int):lY "list" (.int i)=some false:=by rfl
theorem vb(o:Bool)(xs:List D):lY "list" (.lst o xs)=some true:=by rfl
theorem vd:lY "int" .ax=some false:=by rfl
theorem ve(x:Str):lY "str" (.str x)=some true:=by rfl
theorem vf(xs:List D):lY "tuple" (.tup xs)=some true:=by rfl
theorem sL:sizeLine=16777216:=rfl
theorem vg{p:Prop}[Decidable p]:(decide p=true)=p:=by simp
theorem cL5{α:Type}(xs:List α)(a b:Nat):fm xs (some (a:Int)) (some (b:Int))=(xs.drop a).take (b-a):=by
 unfold fm
 rw[HT.Gd,HT.Gd]
 by_cases h:a<=xs.length
 ·rw[yb h]
  apply Fo
  intro i
  rw[Bh,Bh,List.getElem?_drop]
  by_cases hi:i<b-a
  ·rw[if_pos hi]
   by_cases hb:a+i<xs.length
   ·rw[if_pos (by omega)]
   ·rw[ja (by omega)];simp
  ·rw[if_neg hi,if_neg (by omega)]
 ·rw[Nat.min_eq_right (show xs.length<=a by omega),Rk (bI _),Rk (show xs.length<=a by omega)];simp
end L3
namespace L2
open PySem PySem.Spec PyProof.Rows
section
variable{X:Cx}{e:Expr}{te:TE}{lo hi:Option Expr}{st:Expr}{tl th ts:TO}{pos p2:Pos}
theorem T9(ns:List Int):∀k,k<=ns.length->preSum (λi=>ns.getD i 0) k=(ns.take k).sum
 | 0,_=>rfl
 | k+1,h=>by
  show preSum (λi=>ns.getD i 0) k+ns.getD k 0=_
  rw[T9 ns k (by omega),mI,aJ (by omega),List.sum_append,aL,aJ (by omega)]
  simp
theorem cf4(hc:X.calm=true):fZ X (.builtin "sum") (λxs H Q=>∃(p:Addr) (ns:List Int),xs=[.ref p]/\bK X.K H p (ns.map V.int)/\Q (.int ns.sum) H):=by
 intro pins s σ H xs us Q I r h
 obtain⟨p,ns,rfl,hS,q⟩:=h
 obtain⟨u,rfl,ru⟩:=r.one
 cases ru
 obtain⟨its,rv,pl,hz⟩:=I.list hS
 have hi:=b84 rv
 have hlen:ns.length=its.length:=by have:=rv.length;simpa using this
 have hl:=pl.isList
 have gg:p<s.heap.objs.size:=by obtain⟨_,e,_⟩:=hl;exact bS e
 refine call_sum_walkG (wpAny_pyIter_list hl ?_)
 refine⟨s.heap.objs.size,[s.heap.objs.size,p],[s.heap.objs.size],its.toArray.size,_,_,λi=>ns.getD i 0,rfl,Walks.list (A:=X.A.in1) (I.ok.hd hc) _ p (fN gg) its.toArray,
  ⟨⟨_,gk _ rfl,rfl,rfl⟩,hl.push _⟩,λb hb=>?_,λi v hP=>?_,λh' tk t' hk=>?_⟩
 ·simp only[tT]
  rcases bX.mp hb with rfl | hb
  ·exact E5 _
  ·rw[iH.mp hb];exact Rl gg
 ·have e:its[i]?=some v:=by simpa using hP
  obtain⟨x,ex,q2⟩:∃x,(ns.map V.int)[i]?=some x/\RelV x v:=by
   have fQ:i<its.length:=(iF.mp e).1
   obtain⟨u,e2,q2⟩:=rv.get (i:=i) (x:=V.int ns[i]) (by rw[cm,aJ (by omega)];rfl)
   rw[e]at e2;cases e2
   exact⟨_,by rw[cm,aJ (by omega)];rfl,q2⟩
  rw[cm]at ex
  obtain⟨n,en,rfl⟩:=x9.mp ex
  obtain⟨t,rfl⟩:=q2
  exact⟨t,by show qo n t=qo (ns.getD i 0) t;rw[aL,en];rfl⟩
 ·rw[du,<- hlen,T9 ns _ (bI _),og]
  exact⟨.int _,H,I.kept (h':=h') (t':=tk) (GB hk),⟨_,rfl⟩,q⟩
end
end L2
namespace L3
open PySem L2 PySem.Spec PyProof.Rows
section
variable{X:Cx}{F H:Hp}{e:Expr}{t:aQ}{lo hi:Option Expr}{st:Expr}{tl th td:uM}{pos p2:Pos}
theorem Hq:∀{a:List Int} {ws:List V},S F H (aC a) ws->ws=a.map V.int
 | [],_,s=>by cases s;rfl
 | b::bs,_,s=>by
  cases s with
  | int s=>rw[Hq s];rfl
noncomputable def pH:iC:=λds Q=>match ds with
 | [.lst _ xs]=>∃a,xs=aC a/\Q (.int a.sum)
 | _=>False
theorem Ua(hc:X.calm=true):fW X (.builtin "sum") pH:=fW.of (cf4 hc) λvs H Q zz=>by
 obtain⟨B,F,σ,δ,ts,ds,Qd,c,s,q,k⟩:=zz
 unfold pH at q
 split at q
 ·obtain⟨v,rfl,s1⟩:=jm s
  obtain⟨a,rfl,q⟩:=q
  obtain⟨p,ws,rfl,h,t⟩:=lV s1 c.ext rfl
  rw[Hq t]at h
  exact⟨p,a,rfl,kC h,k _ _ _ q (ag.refl _) (c.pushS (.int .nil) rfl)⟩
 ·exact q.elim
noncomputable def Hr:Expr->Option Int
 | .Constant (.int i) _ _=>some i
 | _=>none
noncomputable def Cd:List Expr->Option (List Int)
 | []=>some []
 | e::es=>(Hr e).bind λi=>(Cd es).map (i :: ·)
theorem cr6{e:Expr}{i:Int}(h:Hr e=some i):∃a b,e=.Constant (.int i) a b:=by
 cases e with
 | Constant c a b =>
  cases c with
  | int j=>cases h;exact⟨_,_,rfl⟩
  | _=>cases h
 | _=>cases h
noncomputable def cY8(ns:List Int):cL:=λδ Q=>Q (aC ns) δ
theorem Ub:∀(es:List Expr) (ns:List Int),Cd es=some ns->PA X es (lO (cY8 ns))
 | [],ns,h=>by cases h;exact dy
 | e::es,ns,h=>by
  obtain⟨i,hi,h2⟩:=Option.bind_eq_some_iff.mp (show(Hr e).bind (λi=>(Cd es).map (i :: ·))=some ns from h)
  obtain⟨ms,hm,rfl⟩:=x9.mp h2
  obtain⟨a,b,rfl⟩:=cr6 hi
  exact zc (cX (ak (i:=i)) (Ub es ms hm)) λ_ _ _ q=>q
noncomputable def sJ(ns:List Int):aQ:=λδ Q=>ns.length<=sizeLine/\Q (.lst true (aC ns)) δ
theorem Ce{es:List Expr}{ns:List Int}(h:Cd es=some ns):PE X (.List es pos) (lE (sJ ns)) :=
 dE (eI (Ub es ns h)) λ_ _ _ ⟨B,F,δ,ts,Qd,c,q,k⟩=>⟨B,F,δ,ts,Qd,c,by
  show(aC ns).length<=sizeLine/\_
  rw[kG];exact q,k⟩
theorem ca6{ns:List Int}(h:0<ns.length):eB (aC ns) (-1)=some (.int (ns.getD (ns.length-1) 0)):=by
 unfold eB iu
 rw[if_neg (by decide),kG,if_pos (by omega)]
 have hk:((-1:Int)+ns.length).toNat=ns.length-1:=by omega
 show(aC ns)[((-1:Int)+ns.length).toNat]?=_
 rw[hk,T8 (by omega),aL,aJ (by omega)];rfl
theorem da5{a b:Int}(k:Nat)(ha:a.natAbs<2 ^ k)(hb:b.natAbs<2 ^ k)(hk:k<=1000000):IntMulOk a b:=by
 have f:∀{a:Int},a.natAbs<2 ^ k->Fc a<=2 ^ 20:=λ{a} ha=>by
  unfold Fc
  have:(2:Nat) ^ 20=1048576:=by decide
  split
  ·omega
  ·rename_i h
   have h0:a≠0:=by simpa using h
   have:=(Q3 (show a.natAbs≠0 by omega)).mpr ha
   omega
 exact IntMulOk.of_bits (f ha) (f hb)
theorem vh{n:Nat}{g:iz}{tb:cO}{En:uE}{δ:Dl}(Iv:Nat->Dl->Prop)(h0:Iv 0 δ)(ht:∀k ai,k<n->Iv k ai->g (.int k) ai λaU=>tb { En with nx:=Iv (k+1),ct:=Iv (k+1),bk:=En.nx } aU)
  (hf:∀ai,Iv n ai->En.nx ai):fj (Fp (λ(k:Nat)=>D.int (0+(k:Int))) (aS (n:Int).toNat)) g tb En δ:=by
 rw[gD]
 refine fj.mk Iv h0 (λi d ai hd iv=>?_) λai iv=>hf ai (by simpa using iv)
 rw[cm]at hd
 obtain⟨k,hk,rfl⟩:=x9.mp hd
 have hi:i<n:=by have:=(iF.mp hk).1;simpa using this
 rw[jX hi]at hk
 cases hk
 rw[Rm]
 exact ht i ai hi iv
theorem kh{xs:List D}{k:Int}{d:D}(h0:0<=k)(h:xs[k.toNat]?=some d):eB xs k=some d:=by
 unfold eB iu
 have hk:k.toNat<xs.length:=(iF.mp h).1
 rw[if_pos h0,if_pos (by omega)]
 exact h
end
end L3
namespace L3
open PySem L2 PySem.Spec PyProof.Rows
noncomputable abbrev pI:=List D->(D->Prop)->(Addr->Prop)->Prop
noncomputable def zx(sp:pI):Sp:=λvs H Q E=>∃F ds Qd Ed,ag F H/\R F H ds vs []/\sp ds Qd Ed/\(∀d v F' H' A,Qd d->ag H H'->ag F F'->ag F' H'->(∀a ws,F' a=some (.lst ws)->F a=some (.lst ws)\/H a=none)->R F' H' [d] [v] A->A.Nodup->(∀a∈A,H a=none)->Q v H') /\
 ∀C H',Ed C->ag H H'->E (.ref C) none H'
section
variable{P:Program}{w:World}{K:PySem.W.Frag}{mg:Str->Option Value}{base:Heap}
theorem Uc{x qual:Str}{st:Stmt}{f:Addr}{fd:FuncData}{N ps:List Str}{k:Nat}{sp:pI}(F:aY K x qual st f fd)(S:bc N ps (av st))(len:∀ds Q E,sp ds Q E->ds.length=ps.length)
  (ir:∀(aE:Value) (A:Around) (outer:List Env) (s:Shared) (H:Hp) (E:XK),cC k (A.deeper (envOfC qual (av st) s.heap.objs.size f aE)) ->
   ∃t:cO,PSs (iP (mZ P w) P w K mg base N qual (av st) f aE A outer s H E) (aW st) (lS (iP (mZ P w) P w K mg base N qual (av st) f aE A outer s H E) t) /\
    ∀ds Q Ex,sp ds Q Ex->t { nx:=λ_=>Q .ax,rt:=Q,xc:=λC _=>Ex C,xr:=λC _=>Ex C } (jO N ds)):aM P w K mg base (mZ P w) (k+1) f fd ps (zx sp):=by
 obtain⟨oc,od,kV,doc,pm,an,aE,ct,lJ,rfl,lk,cN⟩:=F.ex
 refine Ga lk cN S (λvs H Q E ⟨F,ds,Qd,Ed,e,r,h,_⟩=>by rw[<-r.length];exact len ds Qd Ed h) λA outer s H vs Q E hr zz=>?_
 obtain⟨F,ds,Qd,Ed,e,r,h,k,kx⟩:=zz
 obtain⟨t,ht,hq⟩:=ir aE A outer s H E hr
 have fin:∀d v ai aF F' H',Qd d->au ⟨H,F⟩ F' H' aF ai [(d,v)]->Q v H':=λd v ai aF F' H' hd c=>by
  obtain⟨A,C,r',s',nd,fr⟩:=c.own
  exact k d v F' H' A hd c.b1 c.b2 c.ext c.b3 r' (gZ.mp nd).1 λa ha=>fr a (gQ _ ha)
 have e1:L2.start N vs=vs.map some++aV (N.length-ds.length) none:=by unfold L2.start;rw[r.length]
 refine⟨_,ht,⟨H,F⟩,F,jO N ds,_,?_,hq ds Qd Ed h,λai aF F' H' hd c=>fin .ax .ax ai aF F' H' hd (c.pushS (.ax .nil) rfl),fin,λ_ _ _ _ z=>z.elim,λ_ _ _ _ z=>z.elim,λC ai pins aF F' H' s' a T hx c I tr pa pT=>?_,λC ai pins aF F' H' s' h' e vs hx c I hm=>?_⟩
 ·rw[e1]
  exact au.start e r _
 ·exact ca9 I rfl rfl rfl tr pa pT λh' T' g=>⟨a,T',.ref C,H',rfl,I.os,I.bare,g.un,g.aH,g.y6,g.a0,g.a1,g.t0,g.t1,kx C H' hx c.b1⟩
 ·exact ck4 I rfl rfl rfl hm λh' T' g=>⟨e,T',.ref C,H',rfl,I.os,I.bare,g.un,g.aH,g.y6,g.a0,g.a1,g.t0,g.t1,kx C H' hx c.b1⟩
end
section
variable{X:Cx}{n:Nat}{f:Addr}{fd:FuncData}{ps:List Str}{sp:pI}{x:Str}{p pos:Pos}{e:Expr}{es:List Expr}{t:cL}{tx:fA0}
noncomputable def sM(t:cO):cO:=λD δ=>t { D with xc:=λ_ _=>False,xr:=λ_ _=>False } δ
theorem cX9{st:Stmt}{u:cO}(h:PS X.gF st (lS X.gF u)):PS X st (lS X (sM u)):=by
 intro pins s σ H D I zz
 obtain⟨B,F,δ,Dd,c,q,k1,k2,k3,k4,xl⟩:=zz
 exact wpAny_mono (h pins s σ H D (I.jI _) ⟨B,F,δ,_,c,q,k1,k2,k3,k4,XL.none (λ_ _ z=>z) λ_ _ z=>z⟩) (λ_ _ q=>q.lC) λ_ _ z=>fO z
noncomputable def sN(C:Addr)(t:cL):cO:=λD δ=>t δ λds ai=>ds.length<=9/\D.xr C ai
structure Hs(K:PySem.W.Frag)(mg:Str->Option Value)(x:Str)(C:Addr):Prop where
 own:∀h:Heap,K.In h->h.Ns mainGlobals mg->∃newId Bn kH Ud B Ue Ug Cf,OwnCls x C Cf newId mg h/\ExcBaseFacts Bn newId kH Ud/\Cf.contains (.type Bn)=true/\ExcBaseFacts B Ue Ug Cf
theorem Uh{C:Addr}{np bY:Pos}(hm:Hs X.K X.mg x C)(hc:X.calm=true)(hg:Gl X x)(ha:PA X (e::es) (lA t))(eZ:(x==("__debug__":Str))=false:=by decide)
  (he:starEach (e::es) X.env=(false,eval e X.env)::starEach es X.env:=by rfl) (bL:(backTo bY (starEach es X.env)).any (·.1)=false:=by rfl) :
  PS X (.Raise (some (.Call (.Name x np) (e::es) [] bY)) none pos) (lS X (sN C t)):=by
 intro pins s σ H D I zz
 obtain⟨B,F,δ,Dd,c,q,k1,k2,k3,k4,xl⟩:=zz
 obtain⟨newId,Bn,kH,Ud,B',Ue,Ug,Cf,O,Fn,hBn,FB⟩:=hm.own X.base I.ok.mod.mM I.ok.mod.glob
 obtain⟨tl,N,nm,qn,bs,hdct,sn,sub,ab,col,dd,k0,rX,uL,k3',k5,mN,hC,hN,pJ,T⟩:=O.obj
 refine wpAny_Raise_call_subU (k5:=k5) (k3:=k3') (k2:=uL) (k1:=rX) (k0:=k0) (dd:=dd) (col:=col) (ab:=ab) (sub:=sub) (sn:=sn) (hdct:=hdct) (bs:=bs) (N:=N) (q:=qn) (nm:=nm) (C:=C) Fn hBn FB (mN:=mN) (T.hasType FB.hasBase) (I.ok.hd hc) (by rw[he];show(false||(backTo bY (starEach es X.env)).any (·.1))=false;rw[bL];rfl) pJ (BC I hg O.bound ⟨rfl,?_⟩ eZ)
 have Cg:=ha bY pins s σ H (λvs H1=>vs.length<=9/\∃ai F',Dd.xr C ai/\au B F' H1 σ ai []) I ⟨B,F,δ,[],_,c,q,λds aq vs F1 H1 q1 f1 h1 c1 s1=>⟨by rw[<-s1.length];exact q1.1,aq,F1,q1.2,c1⟩⟩
 rw[he]at Cg ⊢
 refine Calls.evalArgs_plain (wpAny_mono Cg (λus s2 h2=>?_) λ_ _ y=>y)
 obtain⟨vs,H1,I1,r,hl,ai,F',hx,c'⟩:=h2
 exact⟨rfl,by rw[<-r.length];exact eM hl (by decide),I1.bk _ _ hC,hN.keeps I1.bk,T.keeps I1.bk,λh' e' hm'=>xl.2 C ai pins σ F' H1 s2 h' e' _ hx c' I1 hm'⟩
end
end L3
namespace L3
open PySem L2 PySem.Spec PyProof.Rows
section
variable{X:Cx}{pins Fz:List (Addr × Obj)}{σ:L2.St}{H:Hp}{s:Shared}{a:Addr}
end
section
variable{X:Cx}{tb th:cO}{body dO7:List Stmt}{dO8:Stmt}{K n:Str}{Kc:Addr}{i:Nat}{kp dO9 pos:Pos}
end
end L3
namespace L3
open PySem L2 PySem.Spec PyProof.Rows
section
variable{X:Cx}{F H:Hp}{v:V}{a:Expr}{ta:aQ}{p pos:Pos}
end
section
variable{K:PySem.W.Frag}{mg:Str->Option Value}{x:Str}{C:Addr}
theorem cQ6(hm:mg x=some (.ref C))(q:PySem.W.excIn K C [.type "ValueError",.type "Exception",.type "BaseException",.type "object"] "ValueError.__new__"=true):Hs K mg x C:=by
 refine⟨λh X G=>⟨"ValueError.__new__","ValueError",_,_,"ValueError",_,_,[.type "ValueError",.type "Exception",.type "BaseException",.type "object"],?_,PySem.F.excBase_ValueError,rfl,PySem.F.excBase_ValueError⟩⟩
 refine⟨hm,?_⟩
 unfold PySem.W.excIn at q
 split at q
 ·rename_i dd cd sl ho
  split at q
  ·rename_i C' bm k0 k1 k2 k3 n k5 hm hs
   simp only[dY,beq_iff_eq,Bool.not_eq_true']at q
   obtain⟨⟨⟨⟨⟨rfl,rfl⟩,Ui⟩,ht⟩,aH⟩,pJ⟩:=q
   obtain⟨nm,bs,mro,ns,qn,hd,sn,sub,ab,col,del⟩:=cd
   dsimp only at hm Ui aH pJ
   subst hm Ui
   have hsl:sl=#[k0,k1,k2,k3,some (.builtin "ValueError.__new__"),k5]:=by
    obtain⟨l⟩:=sl
    simp only at hs
    rw[hs]
   subst hsl
   exact⟨bm,ns,nm,qn,bs,hd,sn,sub,ab,col,dd,k0,k1,k2,k3,k5,_,X _ _ ho,.of_isNs (PySem.W.isNs_of_in X aH),PySem.W.nsMap_none_of_in X aH pJ,PySem.W.tail_of_in X ht⟩
  ·cases q
 ·cases q
end
theorem Ht{P:Program}{w:World}{X:Cx}:lH (mZ P w) X E0:=by
 rintro _ _ _ _ _ _ _ ⟨_,_,_,_,_,_,_,_,_,_,_,_,_,_,z⟩
 exact z.elim
theorem Hu{P:Program}{w:World}{K:PySem.W.Frag}{mg:Str->Option Value}{base:Heap}{k:Nat}{f:Addr}{fd:FuncData}{ps:List Str}{sp:pI}(h:aM P w K mg base (mZ P w) k f fd ps (zx sp)) :
  aM P w K mg base (mZ P w) k f fd ps (bq λds Q=>sp ds Q λ_=>False) :=
 h.imp λvs H Q E ⟨F,ds,Qd,e,r,q,k⟩=>⟨F,ds,Qd,_,e,r,q,k,λ_ _ z=>z.elim⟩
end L3
namespace L3
open PySem L2 PySem.Spec PyProof.Rows
theorem vi{CX:eY}{P:Program}{w:World}{K:PySem.W.Frag}{mg:Str->Option Value}{base:Heap}{N:List Str}{q:Str}{sc:Scope}{f:Addr}{aE:Value}{A:Around}{outer:List Env}{s:Shared}{H:Hp}{E:XK}:(iP CX P w K mg base N q sc f aE A outer s H E).K=K:=rfl
theorem vj(φ:uC):(D.bJ φ).pl=true:=rfl
theorem vk(φ:uC):(D.bJ φ).sh=.bJ φ:=rfl
end L3
namespace L3
open PySem L2 PySem.Spec PyProof.Rows
theorem vm{X:Cx}:X.gF.K=X.K:=rfl
end L3
namespace L3
open PySem L2 PySem.Spec PyProof.Rows
noncomputable def dq(xs ys:List D):List D:=dZ (λx y=>D.tup [x,y]) xs ys
noncomputable def fq(xs:List D):List D:=xs.mapIdx λi x=>D.tup [.int i,x]
theorem zy(xs ys:List D):(dq xs ys).map D.sh=dq (xs.map D.sh) (ys.map D.sh):=by
 unfold dq
 rw[qE,yc]
 congr 1
theorem Uj{xs ys:List D}(h1:xs.all D.pl=true)(h2:ys.all D.pl=true):(dq xs ys).all D.pl=true:=by
 unfold dq
 rw[cU]at h1 h2 ⊢
 intro d hd
 obtain⟨i,hi,e⟩:=ie hd
 rw[dj2]at e
 subst e
 rw[ku]
 simp only[eN,oi,jA,dY]
 exact⟨h1 _ (dv _),h2 _ (dv _)⟩
theorem co8(xs:List D):(fq xs).map D.sh=fq (xs.map D.sh):=by
 unfold fq
 apply Fo
 intro i
 simp only[cm,yd,Option.map_map]
 cases xs[i]? with
 | none=>rfl
 | some x =>
  show some (D.sh (.tup [.int i,x]))=some (D.tup [.int i,x.sh])
  rw[ky];rfl
theorem cn5{xs:List D}(h1:xs.all D.pl=true):(fq xs).all D.pl=true:=by
 unfold fq
 rw[cU]at h1 ⊢
 intro d hd
 obtain⟨i,hi,e⟩:=ie hd
 rw[List.getElem_mapIdx]at e
 subst e
 rw[ku]
 simp only[eN,oi,jA,dY]
 exact⟨rfl,h1 _ (dv _)⟩
theorem kI(xs:List D):(fq xs).length=xs.length:=by simp[fq]
theorem Hv(xs ys:List D):(dq xs ys).length=min xs.length ys.length:=by simp[dq]
section
variable{F H:Hp}{d:D}{v:V}{xs ys:List D}{ws us:List V}{p q:Addr}{K:PySem.W.Frag}
theorem vn(s:S F H [d] [v])(e2:ag F H)(e:iA d=some xs):∃p ws,v=.ref p/\Rd H p (.lst ws)/\R H H (xs.map D.sh) ws []/\(d.pl=true->xs.all D.pl=true/\Rd F p (.lst ws)/\R F H xs ws []):=by
 cases s with
 | @shr p ws ys _ _ hp r _ =>
  obtain rfl:=cQ e
  refine⟨p,ws,rfl,.inl (e2 _ _ hp),?_,λ_=>⟨r.pl,.inl hp,r⟩⟩
  rw[lM r.pl]
  exact r.shared e2 (ag.refl _)
 | @own p ws ys _ _ hp r _ =>
  obtain rfl:=cQ e
  exact⟨p,ws,rfl,.inl hp,r.frozen e2,λz=>by simp[gr]at z⟩
 | @fz p o ws ys _ _ hp r _ =>
  obtain rfl:=cQ e
  refine⟨p,ws,rfl,.inr ⟨o,e2 _ _ hp⟩,?_,λ_=>⟨r.pl,.inr ⟨o,hp⟩,r⟩⟩
  rw[lM r.pl]
  exact r.shared e2 (ag.refl _)
 | ax _=>cases e
 | bl _=>cases e
 | int _=>cases e
 | str _=>cases e
 | tup _ _ _=>cases e
 | obj _ _ _ _=>cases e
 | bJ _ _=>cases e
theorem Ci(r:R F H xs ws []){i:Nat}(hi:i<xs.length){x:V}(hx:ws[i]?=some x):R F H [xs[i]] [x] []:=by
 obtain⟨v,A1,e2,r1,sub⟩:=r.get (aJ hi)
 rw[hx]at e2;cases e2
 have:A1=[]:=di6.mpr λa ha=>by simpa using sub ha
 subst this
 exact r1
theorem Cj(hp:Rd F p (.lst ws))(r:R F H xs ws [])(hq:Rd F q (.lst us))(t:R F H ys us [])(hF:Full F H):JD (GI K p q) F (dq xs ys) where
 go:=λi H' hs hi=>by
  rw[Hv]at hi
  have l1:=r.length
  have l2:=t.length
  exact⟨ws,us,_,_,.inl (fR hp hs),.inl (fR hq hs),aJ (show i<ws.length by omega),aJ (show i<us.length by omega)⟩
 jf:=λi H' v H2 hs hi zz=>by
  obtain⟨T,x,y,e1,e2,e3,hx,hy⟩:=zz
  subst e1 e3
  have mf:=hi
  rw[Hv]at mf
  have h1:=Ci (r.full hF hs rfl) (show i<xs.length by omega) (hx ws (.inl (fR hp hs)))
  have h2:=Ci (t.full hF hs rfl) (show i<ys.length by omega) (hy us (.inl (fR hq hs)))
  have sm:=ag.upd (o:=.tup [x,y]) e2
  refine⟨_,aJ hi,sm,?_⟩
  have eg:(dq xs ys)[i]=.tup [xs[i]'(by omega),ys[i]'(by omega)]:=by simp[dq]
  rw[eg]
  exact R.tup (A:=[]) (B:=[]) cA ((h1.shared (ag.refl _) sm).cons (h2.shared (ag.refl _) sm)) .nil
 stop:=λi H' hs hi=>by
  rw[Hv]at hi
  have l1:=r.length
  have l2:=t.length
  exact⟨ws,us,.inl (fR hp hs),.inl (fR hq hs),by omega⟩
theorem Uk(hp:Rd F p (.lst ws))(r:R F H xs ws [])(hF:Full F H):JD (GO K p) F (fq xs) where
 go:=λi H' hs hi=>by
  rw[kI]at hi
  have l1:=r.length
  exact⟨ws,_,.inl (fR hp hs),aJ (show i<ws.length by omega)⟩
 jf:=λi H' v H2 hs hi zz=>by
  obtain⟨T,x,e1,e2,e3,hx⟩:=zz
  subst e1 e3
  have mf:=hi
  rw[kI]at mf
  have h1:=Ci (r.full hF hs rfl) mf (hx ws (.inl (fR hp hs)))
  have sm:=ag.upd (o:=.tup [.int i,x]) e2
  refine⟨_,aJ hi,sm,?_⟩
  have eg:(fq xs)[i]=.tup [.int i,xs[i]]:=by simp[fq]
  rw[eg]
  exact R.tup (A:=[]) (B:=[]) cA (.int (h1.shared (ag.refl _) sm)) .nil
 stop:=λi H' hs hi=>by
  rw[kI]at hi
  have l1:=r.length
  exact⟨ws,.inl (fR hp hs),by omega⟩
end
section
variable{X:Cx}{a b:Expr}{ta:cL}{p pos oy:Pos}{elts:List Expr}{x1:Nat}
noncomputable def sO(t:cL):iy:=λδ Q=>t δ λds ai=>match ds with
 | [d1,d2]=>∃xs ys,iA d1=some xs/\iA d2=some ys/\Q (d1.pl&&d2.pl) (dq xs ys) ai
 | _=>False
theorem nr(hg:Gl X "zip")(hm:X.mg "zip"=none)(ha:PA X [a,b] (lA ta))(hs:starEach [a,b] X.env=[(false,eval a X.env),(false,eval b X.env)]:=by rfl)(gU:starEach [b] X.env=[(false,eval b X.env)]:=by rfl) :
  PI X (.Tuple elts x1 oy) (.Call (.Name "zip" p) [a,b] [] pos) (lI (sO ta)) :=
 oV (Te hg hm ha hs gU) λσ H Q ⟨B,F,δ,ts,Qd,c,q,k⟩=>⟨B,F,δ,ts,_,c,q,λds aq vs F1 H1 hd f1 h1 c1 s=>by
  match ds,hd,s with
  | [d1,d2],⟨xs,ys,i1,i2,hq⟩,s =>
   obtain⟨v1,cE,rfl,s1,s2⟩:=s.cR
   obtain⟨v2,fA1,rfl,s2,s3⟩:=s2.cR
   cases s3
   have e2:=c1.ext
   have sn:=m5 e2
   obtain⟨p1,w1,rfl,r1,t1,u1⟩:=vn s1 e2 i1
   obtain⟨p2,w2,rfl,r2,t2,u2⟩:=vn s2 e2 i2
   refine⟨p1,p2,rfl,⟨w1,.inl r1⟩,⟨w2,.inl r2⟩,k _ _ aq _ _ H1 hq (f1.trans sn) h1 c1.snap ?_ λz=>?_⟩
   ·rw[zy]
    exact Cj r1 t1 r2 t2 (Full.refl _)
   ·rw[dY]at z
    obtain⟨a1,a2,a3⟩:=u1 z.1
    obtain⟨b1,b2,b3⟩:=u2 z.2
    exact⟨Uj a1 b1,Cj (fR a2 sn) (a3.shared sn (ag.refl _)) (fR b2 sn) (b3.shared sn (ag.refl _)) oH⟩⟩
noncomputable def sP(t:cL):iy:=λδ Q=>t δ λds ai=>match ds with
 | [d1]=>∃xs,iA d1=some xs/\Q d1.pl (fq xs) ai
 | _=>False
theorem nt(hg:Gl X "enumerate")(hm:X.mg "enumerate"=none)(ha:PA X [a] (lA ta))(hs:starEach [a] X.env=[(false,eval a X.env)]:=by rfl) :
  PI X (.Tuple elts x1 oy) (.Call (.Name "enumerate" p) [a] [] pos) (lI (sP ta)) :=
 oV (cF0 hg hm ha hs) λσ H Q ⟨B,F,δ,ts,Qd,c,q,k⟩=>⟨B,F,δ,ts,_,c,q,λds aq vs F1 H1 hd f1 h1 c1 s=>by
  match ds,hd,s with
  | [d1],⟨xs,i1,hq⟩,s =>
   obtain⟨v1,cE,rfl,s1,s2⟩:=s.cR
   cases s2
   have e2:=c1.ext
   have sn:=m5 e2
   obtain⟨p1,w1,rfl,r1,t1,u1⟩:=vn s1 e2 i1
   refine⟨p1,rfl,⟨w1,.inl r1⟩,k _ _ aq _ _ H1 hq (f1.trans sn) h1 c1.snap ?_ λz=>?_⟩
   ·rw[co8]
    exact Uk r1 t1 (Full.refl _)
   ·obtain⟨a1,a2,a3⟩:=u1 z
    exact⟨cn5 a1,Uk (fR a2 sn) (a3.shared sn (ag.refl _)) oH⟩⟩
end
end L3
namespace L3
open PySem L2 PySem.Spec PyProof.Rows
section
variable{X:Cx}{F H:Hp}{e b:Expr}{pos p p2 p3 pr apos bY Ho:Pos}{t ti te:aQ}{x y:Str}{i j:Nat}
theorem Ul{α:Type}{xs:List α}{k:Nat}{v:α}(h:xs[k]?=some v):eB xs (k:Int)=some v:=by
 unfold eB iu
 have hk:k<xs.length:=(iF.mp h).1
 rw[if_pos (by omega),if_pos (by omega)]
 exact h
end
section
variable{X:Cx}{CX:eY}{k:Nat}{f:Addr}{fd:FuncData}{ps:List Str}{sp:bh}{E:XK}{fn x1 x2 y1 y2:Str}{i1 i2 j1 j2:Nat}{tk:Nat}
 {tp t1 t2 zp fA2 q1 q2 fp fA3 a1 a2 dP6 fA4 fA5 cp Ho pr apos bY fA6 pos:Pos}
end
end L3
namespace L3
open PySem L2 PySem.Spec PyProof.Rows
theorem au.dP7{B:Bs}{F H:Hp}{σ:L2.St}{δ:Dl}{ts:List (D × V)}{a b:D}{v:V}(c:au B F H σ δ ((.tup [a,b],v)::ts)):∃p u w,v=.ref p/\H p=some (.tup [u,w])/\au B F H σ δ ((a,u)::(b,w)::ts):=by
 obtain⟨A,C,r,s,nd,fr⟩:=c.own
 cases r with
 | @tup p ws xs A1 _ _ B1 hp r1 r2 =>
  obtain⟨u,fi,A2,A3,rfl,rfl,h1,h2⟩:=r1.cR
  obtain⟨w,fA7,A4,A5,rfl,rfl,h3,h4⟩:=h2.cR
  cases h4
  refine⟨p,u,w,rfl,hp,c.ext,c.b1,c.b2,c.b3,A2++(A4++B1),C,h1.cons (h3.cons r2),s,?_,?_⟩
  ·simpa using nd
  ·intro a ha;exact fr a (by simpa using ha)
section
variable{X:Cx}{y1 y2:Str}{i1 i2 tk m:Nat}{t1 t2 tp:Pos}
noncomputable def jo(i1 i2:Nat):iz:=λd δ Q=>match d with
 | .tup [a,b]=>Q ((δ.set i1 (some a)).set i2 (some b))
 | _=>False
theorem gi(hc:X.calm=true)(Um:X.N.Nodup)(m1:X.N[i1]?=some y1)(l1:Loc X.env.scope y1)(m2:X.N[i2]?=some y2)(l2:Loc X.env.scope y2)(hm1:m<=i1:=by decide)(T2:m<=i2:=by decide)
  (f1:X.fn y1=true\/X.env.scope.names.lookup y1=some .local:=by first | exact .inl rfl | exact .inr rfl | assumption) (f2:X.fn y2=true\/X.env.scope.names.lookup y2=some .local:=by first | exact .inl rfl | exact .inr rfl | assumption)
  (hag:(assignEach [.Name y1 t1,.Name y2 t2] X.env).map (·.2)=assign (.Name y1 t1) X.env::(assignEach [.Name y2 t2] X.env).map (·.2):=by rfl) (dP9:(assignEach [.Name y2 t2] X.env).map (·.2)=assign (.Name y2 t2) X.env::(assignEach [] X.env).map (·.2):=by rfl)
  (hn:(assignEach [.Name y1 t1,.Name y2 t2] X.env).length=2:=by rfl) (dj:(assignEach [.Name y1 t1,.Name y2 t2] X.env).findIdx? (·.1)=none:=by rfl) :
  PG X (.Tuple [.Name y1 t1,.Name y2 t2] tk tp) (lG m (jo i1 i2)) :=
 Tq (cT3 hc (RM (BJ Um m1 l1 f1) (RM (BJ Um m2 l2 f2) cE2 dP9) hag) hn dj) λv σ H Q zz=>by
  obtain⟨B,F,δ,ts,d,Qd,c,q,k⟩:=zz
  obtain⟨a,b,rfl,q⟩:∃a b,d=D.tup [a,b]/\Qd ((δ.set i1 (some a)).set i2 (some b)):=by
   unfold jo at q
   split at q
   ·exact⟨_,_,rfl,q⟩
   ·exact q.elim
  obtain⟨p,u,w,rfl,hp,c2⟩:=c.dP7
  refine⟨p,[u,w],rfl,gS.of hp,rfl,u,[w],rfl,w,[],rfl,rfl,k _ _ q (by simp) (λj hj=>?_) ((c2.store i1).store i2)⟩
  rw[xU (by omega),xU (by omega)]
end
open Classical in
theorem gw{α:Type}{sh:Bool}{xs:List D}{aD:List (Str × Nat)}{n m:Nat}{te:aQ}{aq:Dl}{Q:D->Dl->Prop}(l:List α)(e g:α->D)(i4:xs.map D.sh=l.map e)(inj:∀a b,e a=e b->a=b)
  (hx:∀a∈l,te ((fU aD n aq).set m (some (e a))) λd _=>d=g a) (eQ:(sh&&aD.all (iB aq))=true\/∀a∈l,(g a).fr=true) (hl:l.length<=sizeLine) (hq:Q (.lst true (l.map g)) aq):rF sh xs aD n (gN m) jP te aq Q:=by
 let f:D->D:=λx=>if h:∃a∈l,e a=x then g h.choose else .ax
 have hf:∀a∈l,f (e a)=g a:=λa ha=>by
  have h:∃b∈l,e b=e a:=⟨a,ha,rfl⟩
  show(if h:∃b∈l,e b=e a then g h.choose else .ax)=g a
  rw[dif_pos h]
  exact congrArg g (inj _ _ h.choose_spec.2)
 refine cq5 f (λx h=>?_) (eQ.imp id λh x hx=>?_) ?_ ?_
 ·rw[i4]at h
  obtain⟨a,ha,rfl⟩:=cH.mp h
  rw[hf a ha];exact hx a ha
 ·rw[i4]at hx
  obtain⟨a,ha,rfl⟩:=cH.mp hx
  rw[hf a ha];exact h a ha
 ·have:=congrArg A7 i4
  simp at this
  omega
 ·rw[i4,dh,show l.map (f ∘ e)=l.map g from oj λa ha=>hf a ha]
  exact hq
end L3
namespace L3
open PySem L2 PySem.Spec PyProof.Rows
end L3
namespace L2
open PySem PySem.Spec PyProof.Rows
section
variable{X:Cx}
end
end L2
namespace L3
open PySem L2 PySem.Spec PyProof.Rows
noncomputable abbrev tx(l:List Nat):D:=.str ⟨l.toArray⟩
section
variable{X:Cx}{F H:Hp}{e:Expr}{es:List Expr}{t:aQ}{pos p p2 apos bY:Pos}
noncomputable def pK(x:D)(lo hi:Option Int)(Q:D->Prop):Prop:=match x with
 | .lst _ xs=>xs.all D.pl=true/\Q (.lst true (fm xs lo hi))
 | .fz xs=>Q (.lst true (fm xs lo hi))
 | .str z=>z.length<=sizeLine/\Q (tx (fm z.cps.toList lo hi))
 | _=>False
noncomputable def sQ(t:aQ)(tl th:uM):aQ:=λδ Q=>t δ λx aq=>tl aq λl aU=>th aU λu iw=>pK x l u λd=>Q d iw
theorem Hw{lo hi:Option Expr}{tl th:uM}(he:PE X e (lB t))(hl:PO X lo (lP tl))(hu:PO X hi (lP th)):PE X (.Subscript e (.Slice lo hi none p2) pos) (lE (sQ t tl th)) :=
 dE (cr3 (dz3.or cS9) he hl hu) λσ H Q ⟨B,F,δ,ts,Qd,c,q,k⟩=>⟨B,F,δ,ts,_,c,q,λx aq v F1 H1 q1 f1 h1 c1 s1=>⟨B,F1,aq,ts,_,c1,q1,λl aU F2 H2 q2 f2 h2 c2=>⟨B,F2,aU,ts,_,c2,q2,λu iw F3 H3 q3 f3 h3 c3=>by
  have kD:=s1.mono (f2.trans f3) (h2.trans h3)
  unfold pK at q3
  split at q3
  ·obtain⟨p,ws,rfl,h,t⟩:=lV kD c3.ext rfl
   exact .inl ⟨p,ws,rfl,kC h,λr hr=>k _ iw _ F3 _ q3.2 ((f1.trans f2).trans f3) (((h1.trans h2).trans h3).trans (ag.upd hr)) (c3.oI hr (t.cut _ _) (T4 q3.1 _ _))⟩
  ·obtain⟨p,ws,rfl,h,t⟩:=lV kD c3.ext rfl
   cases kD with
   | fz h' r _=>exact .inl ⟨_,_,rfl,kC (.inr ⟨_,c3.ext _ _ h'⟩),λr' hr=>k _ iw _ F3 _ q3 ((f1.trans f2).trans f3) (((h1.trans h2).trans h3).trans (ag.upd hr)) (c3.oI hr (r.s.cut _ _) (T4 r.pl _ _))⟩
  ·cases kD with
   | str _=>exact .inr ⟨_,rfl,q3.1,k _ iw _ F3 H3 q3.2 ((f1.trans f2).trans f3) ((h1.trans h2).trans h3) (c3.pushS (.str .nil) rfl)⟩
  ·exact q3.elim⟩⟩⟩
end
theorem vo(a:List Nat):(⟨a.toArray⟩:Str).length=a.length:=by show a.toArray.size=_;simp
end L3
namespace L3
open PySem L2 PySem.Spec PyProof.Rows
noncomputable def aj(l:List Nat):List D:=aC (l.map λ(n:Nat)=>(n:Int))
theorem dz(l:List Nat):(aj l).length=l.length:=by unfold aj;rw[kG,bE]
theorem cG(l:List Nat):aj l=l.map λ(n:Nat)=>D.int (n:Int):=by unfold aj aC;rw[dh];rfl
theorem sR(l:List Nat):(aj l).map D.sh=l.map λ(n:Nat)=>D.int (n:Int):=by unfold aj;rw[jn];exact cG l
theorem jq(a b:Nat)(h:D.int (a:Int)=D.int (b:Int)):a=b:=by injection h with h;omega
theorem kJ(l:List Nat):(aj l).all D.pl=true:=lZ _
theorem nu(l:List Nat):(aj l).map D.sh=aj l:=jn _
theorem mh(a b:List Nat):aj a++aj b=aj (a++b):=by unfold aj;rw[pF,jW]
theorem vp(l:List Nat)(lo hi:Option Int):fm (aj l) lo hi=aj (fm l lo hi):=by
 unfold aj
 rw[sI]
 congr 1
 unfold fm
 rw[bE,Rj,Ri]
theorem Uo{α:Type}(xs:List α)(b:Nat):fm xs none (some (b:Int))=xs.take b:=by
 have:=cL5 xs 0 b
 unfold fm at this ⊢
 simpa[HT.cV]using this
theorem co1{α:Type}(xs:List α)(a:Nat):fm xs (some (a:Int)) none=xs.drop a:=by
 unfold fm
 rw[HT.Gd]
 show(xs.drop (min a xs.length)).take (xs.length-min a xs.length)=_
 by_cases h:a<=xs.length
 ·rw[yb h,x6 (by rw[tV];exact bI _)]
 ·rw[Nat.min_eq_right (by omega),List.drop_length,Rk (by omega)];simp
end L3
namespace L2
open PySem PySem.Spec PyProof.Rows
section
variable{X:Cx}{tg l o e:Expr}{tl to te:TE}{apos bY:Pos}
end
end L2
namespace L3
open PySem L2 PySem.Spec PyProof.Rows
section
variable{X:Cx}{F H:Hp}{tg l e:Expr}{te t tb:aQ}{apos bY pos:Pos}
variable{o:Expr}
noncomputable def kH:cM:=λx y Q=>match x,y with
 | .int i,.lst _ xs=>∃ns:List Int,xs=aC ns/\Q (.bl (decide (i∈ns)))
 | _,_=>False
theorem Up:∀{ns:List Int} {ws:List V},S F H (aC ns) ws->ws=ns.map V.int
 | [],_,s=>by cases s;rfl
 | n::ns,_,s=>by
  cases s with
  | int s=>rw[Up s];rfl
theorem Uq:bR X (compareOp .In) kH :=
 ⟨_,cc7,λ{B F H σ δ ts x y v w Q Qd} c sx sy h k=>by
  unfold kH at h
  split at h
  ·rename_i i o xs
   obtain⟨ns,rfl,q⟩:=h
   obtain⟨p,ws,rfl,e1,s1⟩:=iZ sy c.ext
   have e:=Up s1
   subst e
   cases sx
   refine⟨p,_,rfl,.inl (bK.of e1),rfl,by simp[mS],?_⟩
   have ei:yR (.int i) (ns.map V.int)=decide (i∈ns):=by
    unfold yR
    rw[List.any_map,tZ,Bf,decide_eq_true_iff]
    constructor
    ·rintro⟨x,hx,he⟩
     have:x=i:=by simpa[lK]using he
     rw[<-this];exact hx
    ·intro hx
     exact⟨i,hx,by simp[lK]⟩
   show Q (.bl (if false then _ else yR (.int i) (ns.map V.int))) H
   rw[if_neg (by decide),ei]
   exact k _ _ _ q (ag.refl _) (c.pushS (.bl .nil) rfl)
  ·exact h.elim⟩
end
end L3
namespace L3
open PySem L2 PySem.Spec PyProof.Rows
end L3
namespace L2
open PySem PySem.Spec PyProof.Rows
noncomputable def Tb(ts:List Addr)(H:Hp):Prop:=∀P∈ts,∃ps,H P=some (.dw ps)
structure vq(ts:List Addr)(H:Hp):Prop where
 any:∀b,H b=none\/(∃o xs,H b=some (.cg o (.lst xs)))\/(b∈ts/\H b=some (.dw #[]))
 tab:∀P∈ts,H P=some (.dw #[])
theorem vq.tb{ts:List Addr}{H:Hp}(h:vq ts H):Tb ts H:=λP hP=>⟨#[],h.tab P hP⟩
noncomputable def Bm(mg:Str->Option Value)(base:Heap):Prop:=∃bm o,mg "__builtins__"=some (.ref bm)/\bm≠builtinsNs/\bm≠mainGlobals/\base.get? bm=some o/\o.cls=.type "module"/\o.dict=some builtinsNs/\o.data=.plain
theorem cl7{P:Program}{w:World}{K:PySem.W.Frag}{mg mb:Str->Option Value}{CX:eY}{k:Nat}{fa a:Addr}{fd:FuncData}{x:Str}{sp:Sp}{bF:Shared}{vs:List Value}{ns:List Int}{ts:List Addr}
  (KX:K.In bF.heap) (Ck:bF.heap.Ns mainGlobals mg) (hb:bF.heap.Ns builtinsNs mb) (hbb:∀x:Str,x≠"__name__"->mb x=bootBuiltins x) (dQ3:bF.heap.NoLimit) (hg:bF.gens=#[])
  (ht:∀P∈ts,bF.heap.get? P=some (PySem.W.tabObj #[])) (Hx:∀P∈ts,isCodeTable bF.heap P) (hkt:∀P∈ts,K.lookup P=none)
  (ha:bF.heap.get? a=some { cls:=.type "list",data:=.seq vs.toArray }) (hi:IntsAre vs ns) (hl:ns.length<=sizeLine) (hr:cC k callerA)
  (zA:Bm mg bF.heap) (F:∀base:Heap,K.In base->base.Ns mainGlobals mg->Bm mg base->aM P w K mg base CX k fa fd [x] sp) (dQ5:∀(s:Shared) (u:Value),BindsTo s fd ⟨[u],[]⟩ [(x,u)])
  (iQ:∀H:Hp,vq ts H->bK K H a (ns.map V.int)->sp [.ref a] H (λv _=>v=.bl true) λ_ _ _=>False)
  (Hy:∀H e s',CX [] H bF (λ_ _ _=>False) e s'->False) :
  codeAny (model P w) callerA (.call (.ref fa) ⟨[.ref a],[]⟩) (λr s'=>r=.ok (.ret (.bool true))/\OldK bF.heap s'.heap/\s'.os=bF.os/\AllBare s'.gens) bF:=by
 have rv:=Su hi
 have dQ6:=hi.length
 have nat:a ∉ ts:=λz=>by
  have:=ht a z
  rw[ha]at this
  cases this
 have core:∀H:Hp,vq ts H->bK K H a (ns.map V.int)->cJ P w H bF.heap->(∀b,H b≠none->b=a\/b∈ts)->(H a≠none->K.lookup a=none) ->
   codeAny (model P w) callerA (.call (.ref fa) ⟨[.ref a],[]⟩) (λr s'=>r=.ok (.ret (.bool true))/\OldK bF.heap s'.heap/\s'.os=bF.os/\AllBare s'.gens) bF:=by
  intro H hO hS aH hA hK
  have Hz:∀{b:Addr} {o:Obj},bF.heap.get? b=some o->H b=none->(kZ bF.heap H).get? b=some o:=λe n=>cn7 e n
  have yQ:∀{b:Addr} {o:Obj} {es:Array DictEntry} {ep:Nat},bF.heap.get? b=some o->o.data=.dict es ep->H b=none:=λ{b o es ep} e d=>by
   cases q:H b with
   | none=>rfl
   | some u =>
    rcases hA b (by rw[q];simp)with e' | e'
    ·subst e'
     rw[ha]at e;cases e
     have d':Data.seq vs.toArray _=Data.dict es ep:=d
     cases d'
    ·rw[ht b e']at e;cases e
     have d':Data.fields #[]=Data.dict es ep:=d
     cases d'
  have Cm:∀{b:Addr} {m:Str->Option Value},bF.heap.Ns b m->(kZ bF.heap H).Ns b m:=λ{b m} ⟨o,es,ep,e,d,r⟩=>⟨o,es,ep,Hz e (yQ e d),d,r⟩
  have Ur:K.In (kZ bF.heap H):=λb o e=>Hz (KX b o e) (by
   cases q:H b with
   | none=>rfl
   | some u =>
    rcases hA b (by rw[q];simp)with e' | e'
    ·subst e'
     rw[hK (by rw[q];simp)]at e;cases e
    ·rw[hkt b e']at e;cases e)
  have hBm:Bm mg (kZ bF.heap H):=by
   obtain⟨bm,o,b1,b2,b3,b4,b5,b6,b7⟩:=zA
   refine⟨bm,o,b1,b2,b3,Hz b4 ?_,b5,b6,b7⟩
   cases q:H bm with
   | none=>rfl
   | some u =>
    rcases hA bm (by rw[q];simp)with e' | e'
    ·rw[e',ha]at b4;cases b4
     have d':Data.seq vs.toArray _=Data.plain:=b7
     cases d'
    ·rw[ht bm e']at b4;cases b4
     have d':Data.fields #[]=Data.plain:=b7
     cases d'
  have hM:Mod K mg (kZ bF.heap H):=⟨Ur,Cm Ck,⟨mb,Cm hb,hbb⟩,let⟨mc,h1,h2⟩:=dQ3;⟨mc,Cm h1,h2⟩⟩
  have e0:iO P w K mg (kZ bF.heap H) callerA [] bF H:=⟨rfl,hM,λb o e=>cJ1 e,A6 (b91 _ _),trivial,λb hb=>absurd (show b∈([]:List Addr) from hb) (by simp),aH,.of_eq hg⟩
  refine codeAny_mono ((F _ Ur (Cm Ck) hBm).run callerA [] bF H ⟨[.ref a],[]⟩ [.ref a] [.ref a] _ _ hr e0 (dQ5 bF (.ref a)) (.cons rfl .nil) (iQ H hO hS)) λr s' h=>?_
  cases r with
  | error e=>exact(Hy H e s' h).elim
  | ok fl =>
   cases fl with
   | next=>exact fO h
   | brk=>exact fO h
   | cont=>exact fO h
   | ret u =>
    obtain⟨v,H',os,bare,un,Us,r',q⟩:=h
    have q':v=.bl true:=q
    subst q'
    obtain rfl:u=E4 true:=r'
    have each:∀b o,bF.heap.get? b=some o->asItWas bF.heap s'.heap b o/\∃o',s'.heap.get? b=some o':=λb o e=>by
     cases q:H b with
     | none =>
      have z:=un.keep b o e q (by intro z;exact absurd (show b∈([]:List Addr) from z) (by simp)) (by simp)
      exact⟨.inl z,o,z⟩
     | some u =>
      rcases hO.any b with z | ⟨ob,xs,z⟩ | ⟨jr,z⟩
      ·rw[q]at z;cases z
      ·have z2:=un.jc b ob _ z
       obtain⟨e1,_⟩:=aH b _ z
       obtain⟨e2,_⟩:=Us b _ z2
       rw[e]at e1;cases e1
       exact⟨.inl e2,_,e2⟩
      ·obtain⟨more,z2⟩:=un.ij b _ z
       have e2:=(Us b _ z2).1
       rw[ht b jr]at e;cases e
       exact⟨.inr (.inl ⟨Hx b jr,rfl,#[],more,rfl,e2⟩),_,e2⟩
    exact⟨rfl,⟨λb o e=>(each b o e).1,λb o e=>(each b o e).2⟩,os,bare⟩
 have tok:∀(H:Hp) (b:Addr),b∈ts->eo P w H bF.heap b (.dw #[]):=λH b hb=>⟨ht b hb,trivial,λpos cv q=>by cases q⟩
 cases hk:K.lookup a with
 | some o =>
  have e:=KX a o hk
  rw[ha]at e
  cases e
  refine core (λb=>if b∈ts then some (.dw #[])else none) ⟨λb=>?_,λb hb=>if_pos hb⟩ (.inr ⟨_,vs.toArray,_,hk,rfl,rfl,rfl,by rw[du,dQ6];exact hl,by simpa using rv⟩) (λb u z=>?_) (λb z=>?_) λz=>absurd (if_neg nat) z
  ·by_cases hb:b∈ts
   ·exact .inr (.inr ⟨hb,if_pos hb⟩)
   ·exact .inl (if_neg hb)
  ·by_cases hb:b∈ts
   ·have z':=(if_pos hb).symm.trans z
    cases z'
    exact tok _ b hb
   ·have z':=(if_neg hb).symm.trans z
    cases z'
  ·by_cases hb:b∈ts
   ·exact .inr hb
   ·exact absurd (if_neg hb) z
 | none =>
  refine core (λb=>if b=a then some (.cg { cls:=.type "list",data:=.seq vs.toArray } (.lst (ns.map V.int)))else if b∈ts then some (.dw #[])else none) ⟨λb=>?_,λb hb=>?_⟩ (.inl (.inr ⟨{ cls:=.type "list",data:=.seq vs.toArray },if_pos rfl⟩)) (λb u z=>?_) (λb z=>?_) λ_=>hk
  ·by_cases hb:b=a
   ·exact .inr (.inl ⟨_,_,if_pos hb⟩)
   ·by_cases jr:b∈ts
    ·exact .inr (.inr ⟨jr,(if_neg hb).trans (if_pos jr)⟩)
    ·exact .inl ((if_neg hb).trans (if_neg jr))
  ·have m3:b≠a:=λz=>nat (z ▸ hb)
   exact(if_neg m3).trans (if_pos hb)
  ·by_cases hb:b=a
   ·have z':=(if_pos hb).symm.trans z
    cases z'
    subst hb
    exact⟨ha,by rw[bE];exact hl,vs,_,rv,ha⟩
   ·by_cases jr:b∈ts
    ·have z':=((if_neg hb).trans (if_pos jr)).symm.trans z
     cases z'
     exact tok _ b jr
    ·have z':=((if_neg hb).trans (if_neg jr)).symm.trans z
     cases z'
  ·by_cases hb:b=a
   ·exact .inl hb
   ·by_cases jr:b∈ts
    ·exact .inr jr
    ·exact absurd ((if_neg hb).trans (if_neg jr)) z
theorem dQ8{l:PySem.W.OpenLaw}{n k:Nat}{q:Program}{loose:List Str}{XP:(Str->Option Value)->Heap->Prop}{YP:World->Heap->Prop}{d:DefRec}{K:Params->PySem.W.Frag}{CX:World->eY}{sp:World->Sp}{x:Str}{ts:List Addr}
  (hn:l.most=some n) (BM:n<=sizeLine) (yU:d.params.defaults=[]) (hr:cC k callerA)
  (hY:∀(w:World) (h:Heap),YP w h->(K w.params).In h/\∀P∈ts,h.get? P=some (PySem.W.tabObj #[]))
  (hC:∀(w:World) (h:Heap),(K w.params).In h->∀P∈ts,(K w.params).lookup P=none/\∃c,PySem.W.CodeHd h c P)
  (F:∀(w:World) (mg:Str->Option Value) (fa:Addr) (h:Heap),(K w.params).In h->h.Ns mainGlobals mg->mg d.name=some (.ref fa) ->
   ∃fd:FuncData,(∀(s:Shared) (u:Value),BindsTo s fd ⟨[u],[]⟩ [(x,u)]) /\
    ∀base:Heap,(K w.params).In base->base.Ns mainGlobals mg->Bm mg base->aM l.prog w (K w.params) mg base (CX w) k fa fd [x] (sp w))
  (iQ:∀(w:World) (H:Hp) (a:Addr) (ns:List Int),ns.length<=n->vq ts H->bK (K w.params) H a (ns.map V.int)->sp w [.ref a] H (λv _=>v=.bl true) λ_ _ _=>False)
  (Hy:∀(w:World) (H:Hp) (s:Shared) (e:Value) (s':Shared),CX w [] H s (λ_ _ _=>False) e s'->False) :
  PySem.W.WalkO q loose XP YP l.row.toRowW d [] (λf vs=>PySem.call f vs):=by
 refine Att.dB9 hn yU λw cK bF mg mb fa o pm cd doc a vs ns G Y ho hd cN yV Gq hints hlen hg=>?_
 obtain⟨KX,hT⟩:=hY w _ Y
 obtain⟨fd,hb,hF⟩:=F w mg fa _ KX G.T.g yV
 have Hx:∀P∈ts,isCodeTable bF.heap P:=λP hP=>by
  obtain⟨_,c,C⟩:=hC w _ KX P hP
  exact(C.tab (hT P hP)).isCodeTable
 have zA:Bm mg bF.heap:=by
  obtain⟨bm,ob,b1,b2,b3,b4,b5,b6⟩:=G.T.bmain
  refine⟨bm,ob,b1,b2,λq=>?_,b3,b4,b5,b6⟩
  obtain⟨o,es,ep,e,hd,_⟩:=G.T.g
  rw[q,e]at b3;cases b3;rw[hd]at b6;cases b6
 exact cl7 KX G.T.g G.T.b G.T.builtins G.T.nolimit hg hT Hx (λP hP=>(hC w _ KX P hP).1) Gq hints (eM hlen BM) hr zA hF hb (λH hO hS=>iQ w H a ns hlen hO hS) λH e s'=>Hy w H bF e s'
end L2
namespace L3
open PySem L2 PySem.Spec PyProof.Rows
noncomputable def zB(ts:List Addr)(sp:Sp):Sp:=λvs H Q E=>Tb ts H/\sp vs H Q E
theorem Ut{X:Cx}{pins:List (Addr × Obj)}{σ:L2.St}{H:Hp}{s:Shared}{ts:List Addr}(I:Inv X pins σ H s)(h:Tb ts X.j8):Tb ts H:=λP hP=>by
 obtain⟨ps,e⟩:=h P hP
 obtain⟨m,e2⟩:=I.base.ij P ps e
 exact⟨_,e2⟩
noncomputable def Cn(ts:List Addr)(K:PySem.W.Frag):Sp:=λvs H Q _=>∃(a:Addr) (ns:List Int),vs=[.ref a]/\vq ts H/\bK K H a (ns.map V.int)/\ns.length<=63/\∀H',Q (.bl true) H'
theorem co2{ts:List Addr}{K:PySem.W.Frag}(nl:K.all (λp=>Hm p.2)=true){vs:List V}{H:Hp}{Q:VK}{E:XK}(h:Cn ts K vs H Q E):zB ts (bq T6) vs H Q E:=by
 obtain⟨a,ns,rfl,hO,hS,hl,q⟩:=h
 have hz:∃o,H a=some (.cg o (.lst (ns.map V.int))):=by
  rcases hS with (hS | hS) | ⟨o,its,n,hk,hc,_⟩
  ·rcases hO.any a with z | ⟨o,xs,z⟩ | ⟨_,z⟩
   ·rw[hS]at z;cases z
   ·rw[hS]at z;cases z
   ·rw[hS]at z;cases z
  ·exact hS
  ·have hm:=bP0 hk
   have:=cU.mp nl _ hm
   simp[Hm,hc]at this
 obtain⟨o,ho⟩:=hz
 refine⟨hO.tb,H,[.fz (aC ns)],λd=>d=.bl true,ag.refl _,.fz ho (kE ns) .nil,⟨ns,rfl,hl,rfl⟩,λd v F' H' A hd hs hf he h3 r nd fr=>?_⟩
 subst hd
 cases r
 exact q H'
end L3
namespace L2
open PySem PySem.Spec PyProof.Rows
noncomputable def rem(H:Hp)(f c:Addr):Hp:=λb=>if b=f\/b=c then none else H b
noncomputable def nv(H H':Hp)(f c:Addr):Hp:=λb=>if b=f\/b=c then H b else H' b
section
variable{P:Program}{w:World}{H H':Hp}{h:Heap}{a b f c:Addr}{o:HO}{of oc:Obj}
theorem Uu:rem H f c f=none:=if_pos (.inl rfl)
theorem Co:rem H f c c=none:=if_pos (.inr rfl)
theorem g5(h1:b≠f)(h2:b≠c):rem H f c b=H b:=if_neg (by simp[h1,h2])
theorem vt(e:H b=none):rem H f c b=none:=by unfold rem;split;rfl;exact e
theorem Uv(e:rem H f c b=some o):b≠f/\b≠c/\H b=some o:=by
 unfold rem at e
 split at e
 ·cases e
 ·rename_i n
  exact⟨λz=>n (.inl z),λz=>n (.inr z),e⟩
theorem pL(h1:b≠f)(h2:b≠c):nv H H' f c b=H' b:=if_neg (by simp[h1,h2])
theorem Uw:nv H H' f c f=H f:=if_pos (.inl rfl)
theorem HA:nv H H' f c c=H c:=if_pos (.inr rfl)
theorem eo.rem{φ:Heap->Prop}(x:eo P w H h a o)(ha:a≠f)(hf:H f=some (.ext φ))(hc:H c=some (.own f)\/H c=none)(HB:¬ ∀h',φ h'->∃q,h'.CodeRec (.ref f) q):eo P w (rem H f c) h a o:=by
 have own:∀b,H b=some (.own a)->L2.rem H f c b=some (.own a):=λb e=>by
  rw[g5 (λz=>by subst z;rw[hf]at e;cases e) (λz=>by subst z;rcases hc with hc | hc<;>(rw[hc]at e;cases e);exact ha rfl)];exact e
 have tup:∀b xs,H b=some (.tup xs)->L2.rem H f c b=some (.tup xs):=λb xs e=>by
  rw[g5 (λz=>by subst z;rw[hf]at e;cases e) (λz=>by subst z;rcases hc with hc | hc<;>(rw[hc]at e;cases e))];exact e
 induction o with
 | lst xs=>exact x
 | tup xs=>exact x
 | dK dD=>exact x
 | dT dD =>
  obtain⟨z,y,xs,r,ob⟩:=x
  exact⟨z,y,xs,Paired.Fv r λp q z=>⟨z.1,tup _ _ z.2.1,z.2.2⟩,ob⟩
 | set S n=>exact x
 | ins C dx fs =>
  obtain⟨d,r⟩:=x
  exact⟨own _ d,r⟩
 | own y=>exact x
 | xd fs=>exact x
 | yx lo hi=>exact x
 | cg ob u ih=>obtain⟨e,q⟩:=x;exact⟨e,ih q⟩
 | dw ps =>
  obtain⟨e,t,cc⟩:=x
  refine⟨e,t,λpos cv q=>?_⟩
  obtain⟨d,φ,e1,e2,e3⟩:=cc pos cv q
  refine⟨d,φ,e1,?_,e3⟩
  rw[g5 (λz=>?_) (λz=>by subst z;rcases hc with hc | hc<;>(rw[hc]at e2;cases e2))]
  ·exact e2
  ·subst z
   rw[hf]at e2;cases e2
   exact HB e3
 | met f y=>exact x
 | ext φ=>obtain⟨p,r,st⟩:=x;exact⟨p,r,λh1 h2 p1 kk=>st h1 h2 p1 λb o hb q=>kk b o (hb.imp id (own b)) q⟩
theorem Ux{φ:Heap->Prop}{fd:FuncData}(p:φ h)(g:∀h',φ h'->h'.get? f=some of)(hd:of.data=.func fd):¬ ∀h',φ h'->∃q,h'.CodeRec (.ref f) q:=λz=>by
 obtain⟨q,k,ok,vs,t,q1,q2,q3,_⟩:=z h p
 cases q1
 rw[g h p]at q2;cases q2
 rw[hd]at q3;cases q3
theorem cJ.lam(ok:cJ P w H h)(hf:H f=some (.ext (L3.ji of oc c f))):L3.ji of oc c f h:=(ok f _ hf).1
theorem cJ.rem{fd:FuncData}(ok:cJ P w H h)(hf:H f=some (.ext (L3.ji of oc c f)))(hc:H c=some (.own f))(hd:of.data=.func fd):cJ P w (rem H f c) h:=λb o e =>
 let⟨h1,_,h3⟩:=Uv e;(ok b o h3).rem h1 hf (.inl hc) (Ux (ok.lam hf) (λ_ p=>p.1) hd)
end
theorem iO.rem{P:Program}{w:World}{K:PySem.W.Frag}{mg:Str->Option Value}{base:Heap}{A:Around}{outer:List Env}{s:Shared}{H:Hp}{f c:Addr}{of oc:Obj}{fd:FuncData}(e:iO P w K mg base A outer s H)
  (hf:H f=some (.ext (L3.ji of oc c f))) (hc:H c=some (.own f)) (hd:of.data=.func fd):iO P w K mg base A outer s (rem H f c) :=
 ⟨e.frames,e.mod,λb o q=>⟨(e.bs b o q).1,vt (e.bs b o q).2⟩,e.jG,e.gE,λb hb=>vt (e.jH b hb),e.aH.rem hf hc hd,e.bare⟩
theorem CE.add{P:Program}{w:World}{K:PySem.W.Frag}{mg:Str->Option Value}{base:Heap}{A:Around}{outer:List Env}{s s':Shared}{H:Hp}{f c:Addr}{of oc:Obj}{Q Q':VK}{u:Value}(e0:iO P w K mg base A outer s H)
  (hf:H f=some (.ext (L3.ji of oc c f))) (hc:H c=some (.own f)) (h:CE outer P w (rem H f c) s Q u s') (hQ:∀v H',Q v H'->H' f=none->H' c=none->Q' v (nv H H' f c)):CE outer P w H s Q' u s':=by
 obtain⟨v,H',os,bare,un,aH,r,q⟩:=h
 obtain⟨gf,gc⟩:=e0.aH.lam hf
 have Uy:∀{b o},H b=some o->b ∉ eA outer:=λ{b o} e z=>by rw[e0.jH b z]at e;cases e
 have nf:H' f=none:=un.free f _ gf Uu (by simp)
 have nc:H' c=none:=un.free c _ gc Co (by simp)
 have kf:=un.keep f _ gf Uu (Uy hf) (by simp)
 have kc:=un.keep c _ gc Co (Uy hc) (by simp)
 refine⟨v,nv H H' f c,os,bare,⟨λb o e n=>un.keep b o e (vt n),λb o e n=>un.slot b o e (vt n),λb o e n x=>?_,un.there,λb xs e=>?_,λb ob xs e=>?_,λb ps e=>?_⟩,λb o e=>?_,r,hQ v H' q nf nc⟩
 ·rw[pL (λz=>by subst z;rw[hf]at n;cases n) (λz=>by subst z;rw[hc]at n;cases n)]
  exact un.free b o e (vt n) x
 ·have n1:b≠f:=λz=>by subst z;rw[hf]at e;cases e
  have n2:b≠c:=λz=>by subst z;rw[hc]at e;cases e
  rw[pL n1 n2]
  exact un.jF b xs (by rw[g5 n1 n2];exact e)
 ·have n1:b≠f:=λz=>by subst z;rw[hf]at e;cases e
  have n2:b≠c:=λz=>by subst z;rw[hc]at e;cases e
  rw[pL n1 n2]
  exact un.jc b ob xs (by rw[g5 n1 n2];exact e)
 ·have n1:b≠f:=λz=>by subst z;rw[hf]at e;cases e
  have n2:b≠c:=λz=>by subst z;rw[hc]at e;cases e
  rw[pL n1 n2]
  exact un.ij b ps (by rw[g5 n1 n2];exact e)
 ·by_cases z:b=f
  ·subst z
   rw[Uw,hf]at e;cases e
   refine⟨⟨kf,kc⟩,⟨_,kf⟩,λh1 h2 p kk=>⟨kk b _ (.inl rfl) p.1,kk c _ (.inr ?_) p.2⟩⟩
   rw[HA];exact hc
  ·by_cases z2:b=c
   ·subst z2
    rw[HA,hc]at e;cases e
    exact⟨_,kc⟩
   ·rw[pL z z2]at e
    have up:∀{b' o'},H' b'=some o'->nv H H' f c b'=some o':=λ{b' o'} q=>by
     rw[pL (λz=>by subst z;rw[nf]at q;cases q) (λz=>by subst z;rw[nc]at q;cases q)];exact q
    exact(aH b o e).jZ (λ_ _ _ q=>q) (λ_ q=>up q) (λ_ _ q=>up q) λ_ _ q=>up q
theorem co0{prog:Program}{w:World}{A:Around}{R:Result->Shared->Prop}{s:Shared}{a:Addr}{args:Args}{o:Obj}{fd:FuncData}{body:Expr}{q:Str}(dR3:A.depth<recursionLimit)
  (ho:s.heap.get? a=some o)
  (ot:o.data=.func fd) (hco:fd.scope.isCoroutine=false) (dR5:fd.scope.isGenerator=false) (ir:fd.body=.expr body) (cN:s.heap.CodeRec fd.code q)
  (h:wpAny (model prog w) A.in1 (bindArgs fd args) (λbinds bF =>
   wpAny (model prog w) A.in1 (newFunctionEnv fd.scope fd.globals fd.closure binds (q++".<locals>.") (some a) fd.code none fd.builtins)
    (λenv kb=>kb.heap.NoLimit/\codeAny (model prog w) A (.expr body env) R kb) (λe s'=>R (.error e) s') bF) (λe s'=>R (.error e) s') s) :
  codeAny (model prog w) A (.call (.ref a) args) R s:=by
 refine codeAny_of_tree ?_
 show wpAny _ A.in1 (callAny (.ref a) args) _ _ s
 simp only[callAny]
 refine wpAny_bind (wpAny_load ho ?_)
 obtain⟨c,oc,vs,tq,hc,iK,HC,hq⟩:=cN
 simp only[ot,callFunction,hco,dR5,ir,hc]
 rw[hc]at h
 refine wpAny_bind (m:=field (.ref c) 1) (wpAny_field iK HC hq (wpAny_bind (wpAny_pure ?_)))
 exact wpAny_bind (wpAny_mono h (λbinds bF Cp=>wpAny_bind (wpAny_mono Cp (λenv kb Uz=>wpAny_bind (wpAny_enterFrame Uz.1 dR3
  (wpAny_pure (And.intro rfl Uz.2)))) λ_ _ h'=>h')) λ_ _ h'=>h')
structure UA(p1 p2 x:Str)(sc:Scope):Prop where
 kind:sc.kind=.function
 co:sc.isCoroutine=false
 gen:sc.isGenerator=false
 nd:[p1,p2,x].Nodup
 l1:sc.names.lookup p1=some .local
 l2:sc.names.lookup p2=some .local
 UB:∀y∈sc.names,y.2≠.cell
 only:∀y∈sc.names,y.2=.free->y.1=x
 lx:sc.names.lookup x=some .free
noncomputable def sS(CX:eY)(P:Program)(w:World)(K:PySem.W.Frag)(mg:Str->Option Value)(base:Heap)(N:List Str)(qual:Str)(scope:Scope)(f:Addr)(cd:Value)(cl:List (Str × Addr))(A:Around)(outer:List Env)(s:Shared)(H:Hp)(E:XK):Cx where
 prog:=P
 w:=w
 K:=K
 mg:=mg
 base:=base
 A:=A.deeper (PySem.W.envX qual scope s.heap.objs.size f cd cl)
 N:=N
 cK:=s
 j8:=H
 env:=PySem.W.envX qual scope s.heap.objs.size f cd cl
 outer:=outer
 stack:=PySem.W.envX qual scope s.heap.objs.size f cd cl::outer
 ex:=[]
 calm:=true
 fn:=λ_=>false
 pn:=[]
 xe:=λe s'=>wpAny (model P w) (A.deeper (PySem.W.envX qual scope s.heap.objs.size f cd cl)) (leaving (PySem.W.envX qual scope s.heap.objs.size f cd cl) e) (λ_ qT=>CX outer H s E e qT) (λe' qT=>CX outer H s E e' qT) s'
theorem cE4{CX:eY}{P:Program}{w:World}{K:PySem.W.Frag}{mg:Str->Option Value}{base:Heap}{p1 p2 x qn q:Str}{params:Arguments}{body:Expr}{scope:Scope}{pm i5:Value}{f c c':Addr}{k:Nat}{A:Around}{outer:List Env}{s:Shared}{H:Hp}{E:XK}
  {u1 u2 uc:Value} {v1 v2 vc:V} {Q:VK} {t:TE} {args:Args} (S:UA p1 p2 x scope) (e0:iO P w K mg base A outer s H) (hr:cC (k+1) A)
  (hf:s.heap.get? f=some (PySem.W.kla_obj "<lambda>" qn params body scope [(x,c)] pm c' i5)) (hc:s.heap.IsCell c (some uc)) (rc:RelV vc uc) (hH:H c=none) (cN:s.heap.CodeRec (.ref c') q)
  (hb:bindArgs (PySem.W.kla_fn "<lambda>" qn params body scope [(x,c)] pm (.ref c') i5) args=pure [(p1,u1),(p2,u2)]) (r1:RelV v1 u1) (r2:RelV v2 u2)
  (ht:PE (sS CX P w K mg base [p1,p2,x] q scope f (.ref c') [(x,c)] A outer s H E) body t) (h:t [some v1,some v2,some vc] H Q) :
  codeAny (model P w) A (.call (.ref f) args) (CR CX outer P w H s Q E) s:=by
 have lim:s.heap.NoLimit:=e0.mod.nolimit.keeps λb o e=>(e0.bs b o e).1
 refine co0 hr.depth hf rfl S.co S.gen rfl cN ?_
 rw[hb]
 have dR7:∀y∈[(p1,u1),(p2,u2)],scope.names.lookup y.1=some .local:=λy hy=>by
  simp at hy
  rcases hy with rfl | rfl
  ·exact S.l1
  ·exact S.l2
 refine wpAny_pure (wpAny_newFunctionEnv S.UB dR7 (λCp Ck UC=>⟨lim.fresh _ UC,?_⟩) S.kind)
 show codeAny _ _ (.expr body (PySem.W.envX q scope s.heap.objs.size f (.ref c') [(x,c)])) _ _
 have hk:∀b o,s.heap.get? b=some o->Cp.get? b=some o:=λb o e=>UC.extBut b o (fN (bS e)) (ff _ e)
 have ft:p1≠p2/\p1≠x/\p2≠x:=by have:=S.nd;simp at this;exact⟨this.1.1,this.1.2,this.2⟩
 have look:∀y d,([(x,c)]:List (Str × Addr)).lookup y=some d->y=x/\d=c:=λy d e=>by
  rw[gq]at e
  split at e
  ·rename_i z;exact⟨beq_iff_eq.mp z,(cQ e).symm⟩
  ·cases e
 have I:Inv (sS CX P w K mg base [p1,p2,x] q scope f (.ref c') [(x,c)] A outer s H E) [] [some v1,some v2,some vc] H { s with heap:=Cp,toks:=s.toks+[(p1,u1),(p2,u2)].length }:=by
  refine⟨⟨e0.mod,S.kind,rfl,rfl,bI _,λy z d h1 h2=>?_,λy hy=>?_,λy d z _=>absurd z (by simp[sS]),λ_=>hr.hd,Around.frames_deeper e0.frames,.inr ⟨rfl,rfl⟩,λb z=>absurd z (by simp[sS]),e0.bs,e0.jG,λb _ _=>by simp[sS],λb z=>absurd z (by simp[sS]),e0.gE,e0.jH⟩,
   rfl,e0.bare,Un.kept hk,⟨_,Ck,λi y v h1 h2 h3=>?_⟩,λy d h=>?_,e0.aH.fresh (bI _),λy d h=>?_,λp hp=>absurd (show p∈([]:List (Addr × Obj)) from hp) (by simp),e0.aH.kept hk,rfl⟩
  ·exact(look y d h1).1.trans (look z d h2).1.symm
  ·have hy:scope.names.lookup y=some .cell\/scope.names.lookup y=some .free:=hy
   rcases hy with hy | hy
   ·exact absurd rfl (S.UB _ (PySem.mem_of_lookup hy))
   ·obtain rfl:y=x:=S.only _ (PySem.mem_of_lookup hy) rfl
    exact⟨c,by show([(y,c)]:List (Str × Addr)).lookup y=_;rw[gq,beq_self_eq_true]⟩
  ·match i,h1,h2 with
   | 0,h1,h2 =>
    cases h1;cases h2
    exact⟨u1,r1,.inl ⟨S.l1,by
     show([(p1,u1),(p2,u2)]:List (Str × Value)).reverse.lookup p1=_
     simp[gq,beq_eq_false_iff_ne.mpr ft.1]⟩⟩
   | 1,h1,h2 =>
    cases h1;cases h2
    exact⟨u2,r2,.inl ⟨S.l2,by
     show([(p1,u1),(p2,u2)]:List (Str × Value)).reverse.lookup p2=_
     simp[gq]⟩⟩
   | 2,h1,h2 =>
    cases h1;cases h2
    exact⟨uc,rc,.inr ⟨.inr S.lx,c,by show([(x,c)]:List (Str × Addr)).lookup x=_;rw[gq,beq_self_eq_true],hc.keeps hk⟩⟩
   | n+3,h1,h2=>cases h2
  ·obtain⟨rfl,rfl⟩:=look y d h
   exact⟨_,hc.keeps hk⟩
  ·obtain⟨rfl,rfl⟩:=look y d h
   exact hH
 refine PySem.W.kla_codeExpr (wpAny_mono (ht [] _ _ H _ I h) (λu s' hs=>?_) λe s' hs=>hs)
 obtain⟨v,H',J,rv,q⟩:=hs
 exact⟨v,H',J.os,J.bare,J.base,J.aH,rv,q⟩
end L2
namespace L3
open PySem L2 PySem.Spec PyProof.Rows
theorem ag.nv{H H':Hp}{f c:Addr}{o1 o2:HO}(h:ag (rem H f c) H')(h1:H f=some o1)(n1:iV o1=true)(h2:H c=some o2)(n2:iV o2=true):ag H (nv H H' f c) where
 get b o e n:=by
  by_cases z:b=f
  ·rw[z,Uw,<- z];exact e
  ·by_cases z2:b=c
   ·rw[z2,HA,<- z2];exact e
   ·rw[pL z z2];exact h.get b o (by rw[g5 z z2];exact e) n
 tb b ps e:=by
  have z:b≠f:=λz=>by subst z;rw[h1]at e;cases e;cases n1
  have z2:b≠c:=λz=>by subst z;rw[h2]at e;cases e;cases n2
  rw[pL z z2]
  exact h.tb b ps (by rw[g5 z z2];exact e)
noncomputable abbrev vv:=Int->Int->(Int->Prop)->Prop
structure zC(P:Program)(w:World)(K:PySem.W.Frag)(mg:Str->Option Value)(base:Heap)(n:Nat)(of oc:Obj)(c k:Addr)(sp:vv):Prop where
 fn:∃o1 od fd sl,of=⟨o1,od,.func fd,sl⟩
 run:∀(A:Around) (outer:List Env) (s:Shared) (H:Hp) (f:Addr) (t u:Tok) (i j:Int) (Qd:Int->Prop),cC n A->iO P w K mg base A outer s H->s.heap.get? f=some of->s.heap.get? c=some oc->H c=none->(∃q,s.heap.CodeRec (.ref k) q)->sp i j Qd ->
  codeAny (model P w) A (.call (.ref f) ⟨[.int i t,.int j u],[]⟩) (CR aT outer P w H s (λv H'=>∃r,v=.int r/\Qd r/\ag H H') (λ_ _ _=>False)) s
noncomputable def sT(L:Obj->Obj->Addr->Addr->vv->Prop)(i:Nat)(ta:cL):aQ:=λδ Q=>∃of oc c k sp,δ[i]?=some (some (.bJ (.lam of oc c k)))/\L of oc c k sp/\ta δ λds ai=>∃a b,ds=[.int a,.int b]/\sp a b λr=>Q (.int r) ai
theorem UD{X:Cx}{n i:Nat}{x:Str}{p pos:Pos}{e1 e2:Expr}{ta:cL}(hN:X.N[i]?=some x)(hv:lh X.env.scope x)(hr:cC n X.A)(ha:PA X [e1,e2] (lA ta))
  (hd:(x==("__debug__":Str))=false:=by decide) (cN:(x==("__classdict__":Str))=false:=by decide) (he:starEach [e1,e2] X.env=(false,eval e1 X.env)::starEach [e2] X.env:=by rfl) (bL:(backTo pos (starEach [e2] X.env)).any (·.1)=false:=by rfl) :
  PE X (.Call (.Name x p) [e1,e2] [] pos) (lE (sT (zC X.prog X.w X.K X.mg X.base n) i ta)):=by
 intro pins s σ H Q I zz
 obtain⟨B,F,δ,ts,Qd,c,⟨of,oc,cc,k,sp,ed,L,q⟩,kk⟩:=zz
 obtain⟨v,ev,sv⟩:=c.look ed
 obtain⟨f,rfl,lam⟩:∃f,v=.ref f/\jL H f of oc cc k:=by
  cases sv with
  | bJ h _=>exact⟨_,rfl,h⟩
 refine wpAny_Call_Name_kw (aP (qM hN hv hd cN pins s σ H (λv' H'=>v'=.ref f/\H'=H) I ⟨_,ev,rfl,rfl⟩) λu s1 zz=>?_)
 obtain⟨v',H',I1,r1,e1,e2⟩:=zz
 subst e1 e2
 obtain rfl:u=.ref f:=r1
 have fnAt:∀{H1:Hp} {s2:Shared},Inv X pins σ H1 s2->jL H1 f of oc cc k->PySem.W.FnAt f s2.heap:=λ{H1 s2} J l=>by
  obtain⟨o1,od,fd,sl,e⟩:=L.fn
  exact⟨o1,od,fd,sl,by rw[<-e];exact(J.aH.lam l.fn).1⟩
 refine PySem.W.callWith_F (fnAt I1 lam) (aP (ha pos pins s1 σ H' (λvs H2=>∃a b ai F',vs=[.int a,.int b]/\(sp a b λr=>Qd (.int r) ai)/\ag F F'/\ag H' H2/\au B F' H2 σ ai ts) I1
  ⟨B,F,δ,ts,_,c,q,λds ai vs F' H2 ⟨a,b,eds,q2⟩ f1 h1 c1 s1=>?_⟩) λus s2 ⟨vs,H2,I2,r2,a,b,ai,F',evs,q2,f1,h1,c1⟩=>⟨fnAt I2 ((show qX H' f (.lam of oc cc k) from lam).mono λa o e _ t=>h1.get a o e t),?_⟩) he bL
 ·subst eds
  refine⟨a,b,ai,F',?_,q2,f1,h1,c1⟩
  cases s1 with
  | int s1=>cases s1 with
   | int s1=>cases s1;rfl
 ·subst evs
  have pM:jL H2 f of oc cc k:=(show qX H' f (.lam of oc cc k) from lam).mono λa o e _ t=>h1.get a o e t
  obtain⟨o1,od,fd,sl,eof⟩:=L.fn
  have dS0:of.data=.func fd:=by rw[eof]
  obtain⟨gf,gc⟩:=I2.aH.lam pM.fn
  obtain⟨ψ,eψ,zD⟩:=pM.GR
  obtain⟨u1,u2,t1,t2,rfl⟩:∃(u1 u2:Unit) (t1 t2:Tok),us=[.int a t1,.int b t2]:=by
   cases r2 with
   | cons ra r2=>cases r2 with
    | cons rb r2 =>
     cases r2
     obtain⟨t1,rfl⟩:=ra
     obtain⟨t2,rfl⟩:=rb
     exact⟨(),(),t1,t2,rfl⟩
  refine wpAny_call (codeAny_mono (L.run X.A X.stack s2 (rem H2 f cc) f t1 t2 a b _ hr (I2.yP.rem pM.fn pM.cell dS0) gf gc Co (zD _ (I2.aH k _ eψ).1) q2) λr s' hq=>?_)
  cases r with
  | error e=>exact hq.elim
  | ok fl =>
   cases fl with
   | ret u =>
    refine I2.after (CE.add I2.yP pM.fn pM.cell hq (Q':=Q) ?_)
    rintro v H3 ⟨r,rfl,hqd,hs⟩ nf nc
    have sm:=hs.nv pM.fn rfl pM.cell rfl
    exact kk _ ai _ F' _ hqd f1 (h1.trans sm) ((c1.grow sm).pushS (.int .nil) rfl)
   | next=>exact fO hq
   | brk=>exact fO hq
   | cont=>exact fO hq
end L3
namespace L2
open PySem PySem.Spec PyProof.Rows
theorem bM6{p:Pos}{c:Value}(l:List Value)(h:TriplesOk l):TriplesOk (l++[rawInt p.line,rawInt p.col,c]):=by
 fun_induction TriplesOk l with
 | case1=>simp[TriplesOk,rawInt]
 | case2 a b d e f rest ih=>exact ih h
 | case3=>exact h.elim
theorem b07{p q:Pos}{c cv:Value}(l:List Value)(h:TriplesOk l)(e:codeAmong q (l++[rawInt p.line,rawInt p.col,c])=some cv):codeAmong q l=some cv\/cv=c:=by
 fun_induction TriplesOk l with
 | case1 =>
  simp only[mC,rawInt,codeAmong]at e
  split at e
  ·exact .inr (cQ e).symm
  ·cases e
 | case2 a b d e' f rest ih =>
  simp only[qF,codeAmong]at e ⊢
  split at e
  ·rename_i z;rw[if_pos z];exact .inl e
  ·rename_i z;rw[if_neg z];exact ih h e
 | case3=>exact h.elim
noncomputable def ny(f:Addr)(o:Obj):Heap->Prop:=λh=>h.get? f=some o
noncomputable def da7(P c:Addr)(x:Str)(params:Arguments)(body:Expr)(scope:Scope):TE:=λ_ H Q=>(∃ps,H P=some (.dw ps)) /\
 ∀f k qn pm i5 H',H f=none->H' f=some (.ext (ny f (PySem.W.kla_obj "<lambda>" qn params body scope [(x,c)] pm k i5)))->L3.GQ H' k->k≠f->L3.ag H H'->(∀a ws,H' a=some (.lst ws)->H a=some (.lst ws))->Q (.ref f) H'
theorem UE{X:Cx}{P c cc:Addr}{x:Str}{params:Arguments}{body:Expr}{scope:Scope}{pos:Pos}(dJ:closureFor scope X.env=pure [(x,c)])(Cq:X.env.code=.ref cc)(hK:PySem.W.codeHdIn X.K cc P=true)(zA:Bm X.mg X.base)
  (dS6:defaultsOf params X.env=([],[]):=by rfl):PE X (.Lambda params body scope pos) (da7 P c x params body scope):=by
 intro pins s σ H Q I zz
 obtain⟨⟨ps,hP⟩,q⟩:=zz
 obtain⟨bm,ob,b1,b2,b3,b4,b5,b6,b7⟩:=zA
 have C:=PySem.W.codeHd_of_K I.di hK
 obtain⟨oP,Cr,codes⟩:=I.aH P _ hP
 have hg:=I.mod.glob.keeps I.bk
 have UG:∀{b o},X.base.get? b=some o->b≠P:=λ{b o} e z=>by
  have:=(I.bs b o e).2
  rw[z,hP]at this;cases this
 have hgP:mainGlobals≠P:=by
  obtain⟨o,es,ep,e,_⟩:=I.mod.glob
  exact UG e
 have UH:s.heap.BuiltinsAt X.mg P:=⟨bm,ob,b1,b2,b3,UG b4,I.bk _ _ b4,b5,b6,b7⟩
 refine PySem.W.kla_eval dS6 ?_
 have fresh:∀{b:Addr},s.heap.objs.size<=b->H b=none:=λ{b} h=>I.aH.fresh h
 cases js:codeAmong pos ps.toList with
 | none =>
  refine PySem.W.kla_makeFunction (mg:=X.mg) dJ I.ok.glob hg Cq C oP Cr js hgP UH λk i5 h' tk hx zE gg dS8 UI=>?_
  have HD:P<s.heap.objs.size:=bS oP
  have hPk:k≠P:=λz=>by rw[z]at zE;exact absurd HD (ye.mpr zE)
  have sU:s.heap.objs.size<=h'.objs.size:=eM zE (AX gg)
  have hPf:h'.objs.size≠P:=λz=>by rw[<-z]at HD;exact absurd HD (ye.mpr sU)
  have UJ:k≠h'.objs.size:=fN gg
  generalize UK:PySem.W.kla_obj "<lambda>" (X.env.qual++"<lambda>") params body scope [(x,c)] ((X.mg "__name__").getD .none) k i5=obj
  have eQ:obj.isFreed=false:=by rw[<-UK];rfl
  have zF:∀b,b≠P->b≠k->b≠h'.objs.size->upd (upd (upd H P (.dw (ps++#[rawInt pos.line,rawInt pos.col,.ref k]))) k (.ext λh=>∃q,h.CodeRec (.ref k) q)) h'.objs.size (.ext (ny h'.objs.size obj)) b=H b:=λb n1 n2 n3=>by
   rw[bj n3,bj n2,bj n1]
  have Cs:upd (upd (upd H P (.dw (ps++#[rawInt pos.line,rawInt pos.col,.ref k]))) k (.ext λh=>∃q,h.CodeRec (.ref k) q)) h'.objs.size (.ext (ny h'.objs.size obj)) h'.objs.size=some (.ext (ny h'.objs.size obj)):=cA
  have atK:upd (upd (upd H P (.dw (ps++#[rawInt pos.line,rawInt pos.col,.ref k]))) k (.ext λh=>∃q,h.CodeRec (.ref k) q)) h'.objs.size (.ext (ny h'.objs.size obj)) k=some (.ext λh=>∃q,h.CodeRec (.ref k) q):=by rw[bj UJ,cA]
  have Ct:upd (upd (upd H P (.dw (ps++#[rawInt pos.line,rawInt pos.col,.ref k]))) k (.ext λh=>∃q,h.CodeRec (.ref k) q)) h'.objs.size (.ext (ny h'.objs.size obj)) P=some (.dw (ps++#[rawInt pos.line,rawInt pos.col,.ref k])):=by rw[bj hPf.symm,bj hPk.symm,cA]
  generalize hHn:upd (upd (upd H P (.dw (ps++#[rawInt pos.line,rawInt pos.col,.ref k]))) k (.ext λh=>∃q,h.CodeRec (.ref k) q)) h'.objs.size (.ext (ny h'.objs.size obj))=Hn at zF Cs atK Ct
  have old:∀{b o},H b=some o->b≠P->Hn b=some o:=λ{b o} e n=>by
   have hb:b<s.heap.objs.size:=I.aH.lt e
   rw[zF b n (λz=>absurd hb (ye.mpr (z ▸ zE))) (λz=>absurd hb (ye.mpr (z ▸ sU)))];exact e
  have kept:∀b o,b≠P->s.heap.get? b=some o->(h'.push obj).get? b=some o:=λb o n e=>ff _ (hx b o n e)
  have un:Un X.fs [] H Hn s.heap (h'.push obj):=by
   refine⟨λb o e n _ _=>kept b o (λz=>by rw[z,hP]at n;cases n) e,λb o e n _ _=>⟨o.slots,kept b o (λz=>by rw[z,hP]at n;cases n) e⟩,λb o e n _=>?_,λb o e _=>?_,λb xs e=>old e (λz=>by rw[z,hP]at e;cases e),λb ob xs e=>old e (λz=>by rw[z,hP]at e;cases e),λb UL e=>?_⟩
   ·have hb:=bS e
    rw[zF b (λz=>by rw[z,hP]at n;cases n) (λz=>absurd hb (ye.mpr (z ▸ zE))) (λz=>absurd hb (ye.mpr (z ▸ sU)))];exact n
   ·by_cases z:b=P
    ·rw[z];exact⟨_,ff _ UI⟩
    ·exact⟨o,kept b o z e⟩
   ·by_cases z:b=P
    ·subst z
     rw[hP]at e;cases e
     exact⟨_,Ct⟩
    ·exact⟨#[],by rw[old e z];simp⟩
  have aH:cJ X.prog X.w Hn (h'.push obj):=λb o e=>by
   by_cases z1:b=h'.objs.size
   ·subst z1
    rw[Cs]at e;cases e
    exact⟨gk _ eQ,⟨_,gk _ eQ⟩,λh1 h2 p kk=>kk _ _ (.inl rfl) p⟩
   ·by_cases z2:b=k
    ·subst z2
     rw[atK]at e;cases e
     have hr:=dS8.push obj
     refine⟨⟨_,hr⟩,?_,λh1 h2 ⟨q,c1,o1,vs,t,e1,e2,r⟩ kk=>?_⟩
     ·obtain⟨c1,o1,vs,t,e1,e2,_⟩:=hr
      cases e1
      exact⟨o1,e2⟩
     ·cases e1
      exact⟨q,_,o1,vs,t,rfl,kk _ _ (.inl rfl) e2,r⟩
    ·by_cases z3:b=P
     ·subst z3
      rw[Ct]at e;cases e
      refine⟨ff _ UI,by rw[dj3];exact bM6 _ Cr,λp' cv e'=>?_⟩
      rw[dj3]at e'
      rcases b07 _ Cr e' with e' | e'
      ·obtain⟨d,φ,e1,e2,e3⟩:=codes p' cv e'
       exact⟨d,φ,e1,old e2 (λz=>by rw[z,hP]at e2;cases e2),e3⟩
      ·exact⟨k,_,e',atK,λh' p=>p⟩
     ·rw[zF b z3 z2 z1]at e
      have nP:∀{b' o'},H b'=some o'->(∀ps,o'≠.dw ps)->b'≠P:=λ{b' o'} e n z=>by rw[z,hP]at e;cases e;exact n _ rfl
      refine(I.aH b o e).jZ (λb' u zG e'=>kept b' u ?_ e') (λb' e'=>old e' (nP e' (λps z=>by cases z))) (λb' xs e'=>old e' (nP e' (λps z=>by cases z))) λb' φ e'=>old e' (nP e' (λps z=>by cases z))
      rcases zG with rfl | zG
      ·exact z3
      ·exact nP zG (λps z=>by cases z)
  refine⟨.ref h'.objs.size,Hn,I.un un aH,rfl,q _ k _ _ _ _ (fresh sU) (by rw[UK];exact Cs) ⟨_,atK,λh p=>p⟩ UJ ⟨λb o e n=>old e (λz=>by rw[z,hP]at e;cases e;cases n),λb UL e=>?_⟩ λa ws e=>?_⟩
  ·exact un.ij b UL e
  ·by_cases z1:a=h'.objs.size
   ·subst z1;rw[Cs]at e;cases e
   ·by_cases z2:a=k
    ·subst z2;rw[atK]at e;cases e
    ·by_cases z3:a=P
     ·subst z3;rw[Ct]at e;cases e
     ·rw[zF a z3 z2 z1]at e;exact e
 | some cv =>
  obtain⟨k,φ,rfl,hk,HB⟩:=codes pos cv js
  refine PySem.W.kla_makeFunctionHit (mg:=X.mg) dJ I.ok.glob hg Cq C oP Cr js UH λi5 h' tk hx sU=>?_
  have hf:=fresh sU
  refine⟨.ref h'.objs.size,upd H h'.objs.size (.ext (ny h'.objs.size (PySem.W.kla_obj "<lambda>" (X.env.qual++"<lambda>") params body scope [(x,c)] ((X.mg "__name__").getD .none) k i5))),I.laid (λb u e=>ff _ (hx b u e)) sU ?_,rfl,q _ k (X.env.qual++"<lambda>") ((X.mg "__name__").getD .none) i5 _ hf cA ⟨φ,?_,HB⟩ (fg hk hf) (L3.ag.of λb o e=>?_) λa ws e=>?_⟩
  ·exact⟨gk _ rfl,⟨_,gk _ rfl⟩,λh1 h2 p kk=>kk _ _ (.inl rfl) p⟩
  ·rw[bj (fg hk hf)];exact hk
  ·rw[bj (fg e hf)];exact e
  ·by_cases z:a=h'.objs.size
   ·subst z;rw[cA]at e;cases e
   ·rw[bj z]at e;exact e
end L2
namespace L2
open PySem PySem.Spec PyProof.Rows
structure Cu(K:PySem.W.Frag)(C:Addr)(m:Str)(f:Addr):Prop where
 ga:PySem.W.specialIn K (.ref C) "__getattribute__"=some (some (.builtin "type.__getattribute__"))
 rd:PySem.W.readsIn K C (.type "type")=true
 at_:PySem.W.findCls K (.ref C) (.type "type") m=some (.val (.ref f))
 kp:PySem.W.keepIn K (.ref f)=true
section
variable{X:Cx}{CX:eY}{k:Nat}{f C:Addr}{fd:FuncData}{ps:List Str}{sp:Sp}{E:XK}{x m:Str}{p pos apos:Pos}{e o:Expr}{es:List Expr}{ta:TE}{t:TA}
theorem cn1{pins:List (Addr × Obj)}{σ:St}{H:Hp}{s:Shared}{pl:Sem Bool}{A:Around}{E':Value->Shared->Prop}{Q:Value × List Value->Shared->Prop}(I:Inv X pins σ H s)(M:Cu X.K C m f)(h:∀s',Inv X pins σ H s'->Q (.ref f,[]) s') :
  wpAny (model X.prog X.w) A (getMethod (.ref C) m pl) Q E' s :=
 PySem.W.method_cls I.di M.ga (PySem.W.cls_value (mc:=.type "type") I.di M.rd M.at_ rfl (h _ (I.tok _)))
theorem cM5{pins:List (Addr × Obj)}{σ:St}{H:Hp}{s:Shared}{pl:Sem Bool}{Q:Value->Shared->Prop}{QA:List V->Hp->Prop}(I:Inv X pins σ H s)(M:Cu X.K C m f)(hg:Gl X x)(hm:X.mg x=some (.ref C))(ha:PA X (e::es) t)(h:t σ H QA)
  (hq:∀us s1 vs H1,Inv X pins σ H1 s1->Vals vs us->QA vs H1->wpAny (model X.prog X.w) X.A (call (.ref f) us) Q X.xe s1)
  (eZ:(x==("__debug__":Str))=false:=by decide) (dj:starEach (e::es) X.env=(false,eval e X.env)::starEach es X.env:=by rfl) (bL:(backTo pos (starEach es X.env)).any (·.1)=false:=by rfl)
  (ht:eval (.Call (.Attribute (.Name x p) m apos) (e::es) [] pos) X.env=(do
   let ov<-eval (.Name x p) X.env
   standAt apos.atName
   let (f,first)<-holding [ov] (getMethod ov m pl)
   callWith pos f first (backTo pos (starEach (e::es) X.env)) (backToKw pos (keywordEach [] X.env))):=by rfl) :
  wpAny (model X.prog X.w) X.A (eval (.Call (.Attribute (.Name x p) m apos) (e::es) [] pos) X.env) Q X.xe s:=by
 refine PySem.W.methodCall_KW (pl:=pl) (BC I hg hm ?_ eZ) ht
 refine cn1 I M λs1 I1=>?_
 refine PySem.W.callWith_K (first:=[]) (h₀:=X.base) I.ok.mod.mM M.kp (aP (ha pos pins s1 σ H _ I1 h) λus s2 ⟨vs,H2,I2,r,q2⟩=>⟨I2.di,?_⟩) dj bL
 exact hq us s2 vs H2 I2 r q2
noncomputable def cY3(sp:Sp)(E:XK)(c:Addr)(i:Nat)(t:TA):TE:=λσ H Q=>t σ H λvs H1=>∃f of fd v,H1 f=some (.ext (ny f of))/\of.data=.func fd/\σ[i]?=some (some v) /\
 ∀oc u,oc.data=.cell (some u)->RelV v u->H1 c=none->c≠f->sp vs (upd (upd H1 f (.ext (L3.ji of oc c f))) c (.own f)) (λr H2=>H2 f=some (.ext (L3.ji of oc c f))/\H2 c=some (.own f)/\Q r (rem H2 f c)) E
theorem UM{pl:Sem Bool}{y:Str}{c:Addr}{i:Nat}(M:Cu X.K C m f)(F:aM X.prog X.w X.K X.mg X.base aT k f fd ps sp)(hr:cC k X.A)(hb:Binds X.K fd ps [])(hg:Gl X x)(hm:X.mg x=some (.ref C))
  (hN:X.N[i]?=some y) (hy:X.env.scope.names.lookup y=some .cell) (dJ:X.env.cells.lookup y=some c) (yC:X.fn y=true) (ha:PA X (e::es) t)
  (eZ:(x==("__debug__":Str))=false:=by decide) (dj:starEach (e::es) X.env=(false,eval e X.env)::starEach es X.env:=by rfl) (bL:(backTo pos (starEach es X.env)).any (·.1)=false:=by rfl)
  (ht:eval (.Call (.Attribute (.Name x p) m apos) (e::es) [] pos) X.env=(do
   let ov<-eval (.Name x p) X.env
   standAt apos.atName
   let (f,first)<-holding [ov] (getMethod ov m pl)
   callWith pos f first (backTo pos (starEach (e::es) X.env)) (backToKw pos (keywordEach [] X.env))):=by rfl) :
  PE X (.Call (.Attribute (.Name x p) m apos) (e::es) [] pos) (cY3 sp E c i t):=by
 intro pins s σ H Q I h
 refine cM5 (pl:=pl) I M hg hm ha h (λus s1 vs H1 I1 r ⟨fa,of,fdd,v,hf,hd,hv,hq⟩=>?_) eZ dj bL ht
 obtain⟨ml,_,hl⟩:=I1.loc
 obtain⟨u,rv,lk⟩:=hl i y v hN hv (.inr (.inl hy))
 obtain⟨oc,gc,iK⟩:∃oc,s1.heap.get? c=some oc/\oc.data=.cell (some u):=by
  rcases lk with⟨hk,_⟩ | ⟨_,c',mO,ic⟩
  ·rw[show X.env.kindOf y=some .cell from hy]at hk;cases hk
  ·rw[dJ]at mO;cases mO;exact ic
 have nc:H1 c=none:=I1.je y c dJ
 have pO:c≠fa:=λz=>by rw[z,hf]at nc;cases nc
 have gf:s1.heap.get? fa=some of:=(I1.aH fa _ hf).1
 have mQ:=hq oc u iK rv nc pO
 have UN:=I1.ok.qL y c yC dJ
 generalize hH:upd (upd H1 fa (.ext (L3.ji of oc c fa))) c (.own fa)=Hp at mQ
 have UO:Hp c=some (.own fa):=by rw[<-hH,cA]
 have atf:Hp fa=some (.ext (L3.ji of oc c fa)):=by rw[<-hH,bj pO.symm,cA]
 have mi:∀b,b≠fa->b≠c->Hp b=H1 b:=λb n1 n2=>by rw[<-hH,bj n2,bj n1]
 have nfs:c ∉ X.fs:=λhb=>by
  obtain⟨_,o,ho,_⟩:=I1.ok.gE.mem hb
  exact absurd (cT (bS ho) UN) (fA _)
 have nst:∀b∈eA X.stack,b≠c:=λb hb z=>by
  rcases bX.mp (I1.Bz b hb)with e | hb
  ·exact I1.oq y c dJ (z ▸ e)
  ·exact nfs (z ▸ hb)
 have dT7:cJ X.prog X.w Hp s1.heap:=λb ob q=>by
  by_cases z1:b=c
  ·subst z1;rw[UO]at q;cases q;exact⟨_,gc⟩
  ·by_cases z2:b=fa
   ·subst z2;rw[atf]at q;cases q
    exact⟨⟨gf,gc⟩,⟨_,gf⟩,λh1 h2 p kk=>⟨kk _ _ (.inl rfl) p.1,kk _ _ (.inr UO) p.2⟩⟩
   ·rw[mi b z2 z1]at q
    have x1:=(I1.aH b ob q).rem (f:=fa) (c:=c) z2 hf (.inr nc) (Ux gf (λ_ p=>p) hd)
    have up:∀{b' o'},rem H1 fa c b'=some o'->Hp b'=some o':=λ{b' o'} q=>by
     obtain⟨n1,n2,q'⟩:=Uv q
     rw[mi b' n1 n2];exact q'
    exact x1.jZ (λ_ _ _ q=>q) (λ_ q=>up q) (λ_ _ q=>up q) λ_ _ q=>up q
 have e0:iO X.prog X.w X.K X.mg X.base X.A X.stack s1 Hp:=by
  have e1:=I1.yP
  refine⟨e1.frames,e1.mod,λb ob q=>⟨(e1.bs b ob q).1,?_⟩,e1.jG,e1.gE,λb hb=>?_,dT7,e1.bare⟩
  ·have HE:=(I1.ok.bs b ob q).1
   rw[mi b (λz=>by have:=(e1.bs b ob q).2;rw[z,hf]at this;cases this) (λz=>absurd (cT (bS HE) (z ▸ UN)) (fA _))]
   exact(e1.bs b ob q).2
  ·have nb:=e1.jH b hb
   rw[mi b (λz=>by rw[z,hf]at nb;cases nb) (nst b hb)];exact nb
 have hlen:us.length=ps.length:=by rw[<-r.length];exact F.len _ _ _ _ mQ
 refine wpAny_call (codeAny_mono (F.run X.A X.stack s1 Hp ⟨us,[]⟩ us vs _ E hr e0 (by have:=hb s1 us I1.di (by rw[n9];exact hlen);rwa [n9]at this) r mQ) λrr s' hz=>?_)
 cases rr with
 | error e=>exact hz.elim
 | ok fl =>
  cases fl with
  | next=>exact fO hz
  | brk=>exact fO hz
  | cont=>exact fO hz
  | ret u' =>
   obtain⟨v',H2,os,bare,un,UP,rv',q1,q2,q3⟩:=hz
   obtain⟨_,UQ⟩:=UP.lam q1
   refine I1.after ⟨v',rem H2 fa c,os,bare,⟨λb ob g n hb hx=>?_,λb ob g n hb hx=>?_,λb ob g n hx=>?_,un.there,λb xs g=>?_,λb ob xs g=>?_,λb ps g=>?_⟩,UP.rem q1 q2 hd,rv',q3⟩
   ·by_cases z:b=c
    ·rw[z,gc]at g;cases g;rw[z];exact UQ
    ·exact un.keep b ob g (by rw[mi b (λz=>by rw[z,hf]at n;cases n) z];exact n) hb hx
   ·by_cases z:b=c
    ·rw[z,gc]at g;cases g;rw[z];exact⟨_,UQ⟩
    ·exact un.slot b ob g (by rw[mi b (λz=>by rw[z,hf]at n;cases n) z];exact n) hb hx
   ·by_cases z:b=c
    ·rw[z];exact Co
    ·exact vt (un.free b ob g (by rw[mi b (λz=>by rw[z,hf]at n;cases n) z];exact n) hx)
   ·have n1:b≠fa:=λz=>by rw[z,hf]at g;cases g
    have n2:b≠c:=λz=>by rw[z,nc]at g;cases g
    rw[g5 n1 n2]
    exact un.jF b xs (by rw[mi b n1 n2];exact g)
   ·have n1:b≠fa:=λz=>by rw[z,hf]at g;cases g
    have n2:b≠c:=λz=>by rw[z,nc]at g;cases g
    rw[g5 n1 n2]
    exact un.jc b ob xs (by rw[mi b n1 n2];exact g)
   ·have n1:b≠fa:=λz=>by rw[z,hf]at g;cases g
    have n2:b≠c:=λz=>by rw[z,nc]at g;cases g
    rw[g5 n1 n2]
    exact un.ij b ps (by rw[mi b n1 n2];exact g)
end
end L2
namespace L3
open PySem L2 PySem.Spec PyProof.Rows
theorem HF{ts:List Addr}{H H':Hp}(h:Tb ts H)(s:ag H H'):Tb ts H':=λP hP=>by
 obtain⟨ps,e⟩:=h P hP
 obtain⟨m,e2⟩:=s.tb P ps e
 exact⟨_,e2⟩
theorem UR{P:Program}{w:World}{K:PySem.W.Frag}{mg:Str->Option Value}{base:Heap}{n:Nat}{p1 p2 x qn:Str}{params:Arguments}{body:Expr}{scope:Scope}{pm i5:Value}{oc:Obj}{c k:Addr}{m:Int}{tm:Tok}{sp:vv}(S:UA p1 p2 x scope)
  (iK:oc.data=.cell (some (.int m tm))) (hb:∀u1 u2:Value,bindArgs (PySem.W.kla_fn "<lambda>" qn params body scope [(x,c)] pm (.ref k) i5) ⟨[u1,u2],[]⟩=pure [(p1,u1),(p2,u2)])
  (ir:∀(q:Str) (f:Addr) (A:Around) (outer:List Env) (s:Shared) (H:Hp) (E:XK),cC n (A.deeper (PySem.W.envX q scope s.heap.objs.size f (.ref k) [(x,c)])) ->
   ∃t:aQ,PE (sS aT P w K mg base [p1,p2,x] q scope f (.ref k) [(x,c)] A outer s H E).gF body (lE t)/\∀i j Qd,sp i j Qd->t [some (.int i),some (.int j),some (.int m)] λd _=>∃r,d=.int r/\Qd r) :
  zC P w K mg base (n+1) (PySem.W.kla_obj "<lambda>" qn params body scope [(x,c)] pm k i5) oc c k sp where
 fn:=⟨_,_,_,_,rfl⟩
 run A outer s H f t u i j Qd hr e0 gf gc hH cN h:=by
  obtain⟨q,cN⟩:=cN
  obtain⟨tt,ht,hq⟩:=ir q f A outer s H (λ_ _ _=>False) (hr.deeper _)
  refine cE4 (v1:=.int i) (v2:=.int j) (vc:=.int m) (E:=λ_ _ _=>False) S e0 hr gf ⟨oc,gc,iK⟩ ⟨tm,rfl⟩ hH cN (hb _ _) ⟨t,rfl⟩ ⟨u,rfl⟩ ht.gF ?_
  refine⟨⟨H,H⟩,H,_,[],_,?_,hq i j Qd h,λd ai v F' H' hd f1 h1 c1=>?_⟩
  ·exact au.start (ds:=[.int i,.int j,.int m]) (vs:=[.int i,.int j,.int m]) (ag.refl H) (.int (.int (.int .nil))) 0
  ·obtain⟨r,rfl,hd⟩:=hd
   have s1:=c1.top
   cases s1
   exact⟨r,rfl,hd,h1⟩
section
variable{X:Cx}{CX:eY}{n:Nat}{f:Addr}{fd:FuncData}{ps:List Str}{sp:bh}{E:XK}{x:Str}{p pos:Pos}{e:Expr}{es:List Expr}{t:cL}{tl:List Addr}
theorem cE8(hT:Tb tl X.j8)(F:aM X.prog X.w X.K X.mg X.base CX n f fd ps (zB tl (bq sp)))(hr:cC n X.A)(hg:Gl X x)(hm:X.mg x=some (.ref f))(hk:PySem.W.keepIn X.K (.ref f)=true)(hb:Binds X.K fd ps [])(hx:lH CX X E)
  (ha:PA X (e::es) (lA t)) (eZ:(x==("__debug__":Str))=false:=by decide) (he:starEach (e::es) X.env=(false,eval e X.env)::starEach es X.env:=by rfl) (bL:(backTo pos (starEach es X.env)).any (·.1)=false:=by rfl) :
  PE X (.Call (.Name x p) (e::es) [] pos) (lE (oQ sp t)):=by
 intro pins s σ H Q I zz
 obtain⟨B,F',δ,ts,Qd,c,q,k⟩:=zz
 have tb:=Ut I hT
 refine qS F hr hg hm hk hb .nil hx ha eZ he bL pins s σ H Q I ⟨B,F',δ,ts,_,c,q,λds aq vs F1 H1 q1 f1 h1 c1 s1=>?_⟩
 refine⟨HF tb h1,?_⟩
 rw[n9]
 exact B5 c1 s1 q1 λd v F' H' hd hf hs c'=>k d aq v F' H' hd (f1.trans hf) (h1.trans hs) c'
end
section
variable{P:Program}{w:World}{K:PySem.W.Frag}{mg:Str->Option Value}{base:Heap}
theorem US{x qual:Str}{st:Stmt}{f:Addr}{fd:FuncData}{N ps:List Str}{k:Nat}{sp:bh}{tl:List Addr}(F:aY K x qual st f fd)(S:bc N ps (av st))(len:∀ds Q,sp ds Q->ds.length=ps.length)
  (ir:∀(aE:Value) (A:Around) (outer:List Env) (s:Shared) (H:Hp) (E:XK),Tb tl H->cC k (A.deeper (envOfC qual (av st) s.heap.objs.size f aE)) ->
   ∃t:cO,PSs (iP aT P w K mg base N qual (av st) f aE A outer s H E).gF (aW st) (lS (iP aT P w K mg base N qual (av st) f aE A outer s H E).gF t)/\∀ds Q,sp ds Q->t { nx:=λ_=>Q .ax,rt:=Q } (jO N ds)):aM P w K mg base aT (k+1) f fd ps (zB tl (bq sp)):=by
 refine F.ok S (λvs H Q E ⟨_,F,ds,Qd,e,r,h,_⟩=>by rw[<-r.length];exact len ds Qd h) λaE A outer s H vs Q E hr zz=>?_
 obtain⟨tb,F,ds,Qd,e,r,h,k⟩:=zz
 obtain⟨t,ht,hq⟩:=ir aE A outer s H E tb hr
 have fin:∀d v ai aF F' H',Qd d->au ⟨H,F⟩ F' H' aF ai [(d,v)]->Q v H':=λd v ai aF F' H' hd c=>by
  obtain⟨A,C,r',s',nd,fr⟩:=c.own
  exact k d v F' H' A hd c.b1 c.b2 c.ext c.b3 r' (gZ.mp nd).1 λa ha=>fr a (gQ _ ha)
 have e1:L2.start N vs=vs.map some++aV (N.length-ds.length) none:=by unfold L2.start;rw[r.length]
 refine⟨_,ht,⟨H,F⟩,F,jO N ds,_,?_,hq ds Qd h,λai aF F' H' hd c=>fin .ax .ax ai aF F' H' hd (c.pushS (.ax .nil) rfl),fin,λ_ _ _ _ z=>z.elim,λ_ _ _ _ z=>z.elim,XL.none (λ_ _ z=>z) λ_ _ z=>z⟩
 rw[e1]
 exact au.start e r _
theorem UT{x qual:Str}{st:Stmt}{f cc:Addr}{fd:FuncData}{N ps:List Str}{k:Nat}{sp:Sp}(F:aY K x qual st f fd)(Cq:fd.code=.ref cc)(S:bc N ps (av st))(len:∀vs H Q E,sp vs H Q E->vs.length=ps.length)
  (ir:∀(A:Around) (outer:List Env) (s:Shared) (H:Hp) (vs:List V) (Q:VK) (E:XK),cC k (A.deeper (envOfC qual (av st) s.heap.objs.size f (.ref cc)))->sp vs H Q E ->
   ∃t,PSs (iP aT P w K mg base N qual (av st) f (.ref cc) A outer s H E).gF (aW st) t/\t { nx:=λ_ H'=>Q .ax H',rt:=Q } (L2.start N vs) H):aM P w K mg base aT (k+1) f fd ps sp:=by
 obtain⟨oc,od,kV,doc,pm,an,aE,ct,lJ,rfl,lk,cN⟩:=F.ex
 obtain rfl:aE=.ref cc:=Cq
 refine Ga lk cN S len λA outer s H vs Q E hr iQ=>?_
 obtain⟨t,h,q⟩:=ir A outer s H vs Q E hr iQ
 exact⟨t,h.gF,q⟩
end
end L3
namespace L3
open PySem L2 PySem.Spec PyProof.Rows
theorem b08{ns:List Str}{xs:List D}{ws:List V}{F H:Hp}{f:Str}{d:D}(r:R F H xs ws [])(h:(ns.zip xs).lookup f=some d):∃w,(ns.zip ws).lookup f=some w/\R F H [d] [w] []:=by
 generalize e:([]:List Addr)=A at r
 induction ns generalizing xs ws A with
 | nil=>simp at h
 | cons n ns ih =>
  cases xs with
  | nil=>simp at h
  | cons x xs =>
   obtain⟨v,cE,A1,A2,rfl,rfl,h1,h2⟩:=R.cR r
   obtain⟨rfl,rfl⟩:=Fh.mp e.symm
   rw[dj4]at h ⊢
   by_cases z:f=n
   ·subst z
    rw[gq,beq_self_eq_true]at h
    cases h
    refine⟨v,?_,h1⟩
    rw[gq,beq_self_eq_true]
   ·have z':(f==n)=false:=beq_eq_false_iff_ne.mpr z
    rw[gq,z']at h
    obtain⟨w,e1,e2⟩:=ih h [] rfl h2
    refine⟨w,?_,e2⟩
    rw[gq,z']
    exact e1
theorem UU{ns:List Str}{ws:List V}{f:Str}(h:f ∉ ns):(ns.zip ws).lookup f=none:=by
 induction ns generalizing ws with
 | nil=>simp
 | cons n ns ih =>
  cases ws with
  | nil=>simp
  | cons w ws =>
   rw[dj4,gq]
   have hn:(f==n)=false:=beq_eq_false_iff_ne.mpr λz=>h (by rw[z];simp)
   simp only[hn]
   exact ih λz=>h (by simp[z])
theorem HG{F H:Hp}{C:Addr}{ns:List Str}{xs:List D}{v:V}(s:S F H [.obj C ns xs] [v]):∃p dx ws,v=.ref p/\H p=some (.ins C dx (ns.zip ws))/\ns.length=ws.length/\R F H xs ws []:=by
 cases s with
 | obj h l r _=>exact⟨_,_,_,rfl,h,l,r⟩
section
variable{X:Cx}{e o:Expr}{es:List Expr}{f m x:Str}{pos p apos:Pos}{t to:aQ}{ta:cL}{n:Nat}
noncomputable def pP(K:PySem.W.Frag)(t:aQ)(f:Str):aQ:=λδ Q=>t δ λd ai=>∃C ns xs v,d=.obj C ns xs/\dQ K C/\cq K C f/\(ns.zip xs).lookup f=some v/\Q v ai
theorem c77(he:PE X e (lB t))(hb:attributeBase e f X.env (eval e X.env)=eval e X.env:=by rfl):PE X (.Attribute e f pos) (lB (pP X.K t f)) :=
 dE (BO he hb) λσ H Q ⟨B,F,δ,ts,Qd,c,q,k⟩=>⟨B,F,δ,ts,_,c,q,λd ai v F' H' ⟨C,ns,xs,w,ed,hc,hn,hl,hq⟩ f1 h1 c1 s1=>by
  subst ed
  obtain⟨p,dx,ws,rfl,hp,_,r⟩:=HG s1
  obtain⟨u,hu,ru⟩:=b08 r hl
  exact⟨p,C,dx,_,u,rfl,hp,hc,hn,hu,k w ai u F' H' hq f1 h1 c1 ru.s⟩⟩
structure nz(P:Program)(w:World)(K:PySem.W.Frag)(mg:Str->Option Value)(base:Heap)(n:Nat)(m:Str)(C:Addr)(sp:bh):Prop where
 cls:dQ K C
 ex:∃f fd ps,Meth K C m f/\aM P w K mg base aT n f fd ps (bq sp)/\Binds K fd ps []
noncomputable def pQ(MO:Addr->bh->Prop)(m:Str)(to:aQ)(ta:cL):aQ:=λδ Q=>to δ λd aq=>∃C ns xs sp,d=.obj C ns xs/\MO C sp/\m ∉ ns/\ta aq λds aU=>sp ((D.obj C ns xs::ds).map D.sh) λr=>((D.obj C ns xs::ds).all D.pl||r.fr)=true/\Q r aU
theorem cU3{pl:Sem Bool}(ho:PE X o (lB to))(hr:cC n X.A)(ha:PA X (e::es) (lA ta))
  (dj:starEach (e::es) X.env=(false,eval e X.env)::starEach es X.env:=by rfl) (bL:(backTo pos (starEach es X.env)).any (·.1)=false:=by rfl)
  (ht:eval (.Call (.Attribute o m apos) (e::es) [] pos) X.env=(do
   let ov<-eval o X.env
   standAt apos.atName
   let (f,first)<-holding [ov] (getMethod ov m pl)
   callWith pos f first (backTo pos (starEach (e::es) X.env)) (backToKw pos (keywordEach [] X.env))):=by rfl) :
  PE X (.Call (.Attribute o m apos) (e::es) [] pos) (lE (pQ (nz X.prog X.w X.K X.mg X.base n m) m to ta)):=by
 intro pins s σ H Q I zz
 obtain⟨B,F,δ,ts,Qd,c,q,k⟩:=zz
 refine PySem.W.methodCall_KW (pl:=pl) (aP (ho pins s σ H (λx H1=>∃d aq F1,S F1 H1 [d] [x]/\au B F1 H1 σ aq ts/\ag F F1/\ag H H1/\∃C ns xs sp,d=.obj C ns xs/\nz X.prog X.w X.K X.mg X.base n m C sp/\m ∉ ns/\ta aq λds aU=>sp ((D.obj C ns xs::ds).map D.sh) λr=>((D.obj C ns xs::ds).all D.pl||r.fr)=true/\Qd r aU) I
  ⟨B,F,δ,ts,_,c,q,λd aq v F1 H1 hq f1 h1 c1 s1=>⟨d,aq,F1,s1,c1,f1,h1,hq⟩⟩) λu s1 ⟨x,H1,I1,rx,d,aq,F1,sd,c1,f1,h1,C,ns,xs,sp,ed,M,hm,hq⟩=>?_) ht
 subst ed
 obtain⟨a,dx,ws,rfl,ea,hl,r0⟩:=HG sd
 obtain rfl:u=fw a:=rx
 obtain⟨f,fd,ps,zH,FO,hb⟩:=M.ex
 refine FY I1 ea M.cls zH (UU hm) ?_
 refine PySem.W.callWith_K (first:=[.ref a]) (h₀:=X.base) I.ok.mod.mM zH.kp (aP (ha pos pins s1 σ H1 (λvs H2=>∃ds aU F2,S F2 H2 ds vs/\au B F2 H2 σ aU ts/\ag F1 F2/\ag H1 H2/\sp ((D.obj C ns xs::ds).map D.sh) λr=>((D.obj C ns xs::ds).all D.pl||r.fr)=true/\Qd r aU) I1
  ⟨B,F1,aq,ts,_,c1,hq,λds aU vs F2 H2 hq f2 h2 c2 s2=>⟨ds,aU,F2,s2,c2,f2,h2,hq⟩⟩) λus s2 ⟨vs,H2,I2,r,ds,aU,F2,HH,c2,f2,h2,iQ⟩=>⟨I2.di,?_⟩) dj bL
 refine BP (us:=.ref a::us) (vs:=.ref a::vs) (fF:=[]) FO hr hb .nil aR I2 (.cons rfl r) ?_
 rw[n9]
 exact B5 c2 (.obj (h2 _ _ ea) hl (r0.shared f2 h2) HH) iQ λd v F' H' hd hf hs c'=>k d aU v F' H' hd (f1.trans (f2.trans hf)) (h1.trans (h2.trans hs)) c'
end
structure dS(x:Addr)(H H':Hp):Prop where
 get:∀b o,b≠x->H b=some o->iV o=true->H' b=some o
 tb:∀b ps,H b=some (.dw ps)->∃more,H' b=some (.dw (ps++more))
theorem dS.trans{x:Addr}{H H1 H2:Hp}(a:dS x H H1)(b:dS x H1 H2):dS x H H2 :=
 ⟨λc o n h t=>b.get c o n (a.get c o n h t) t,λc ps h=>by
  obtain⟨m1,e1⟩:=a.tb c ps h
  obtain⟨m2,e2⟩:=b.tb c _ e1
  exact⟨m1++m2,by rw[e2,AZ]⟩⟩
theorem ag.x{x:Addr}{H H':Hp}(h:ag H H'):dS x H H':=⟨λb o _ e n=>h.get b o e n,h.tb⟩
theorem dS.upd{x C dx:Addr}{H:Hp}{o o':HO}(h:H x=some o)(n:iV o=true):dS x H (upd H x o') :=
 ⟨λb o z e _=>by rw[bj z];exact e,λb ps e=>⟨#[],by rw[bj (λz=>by rw[z,h]at e;cases e;cases n),e];simp⟩⟩
noncomputable def HI(tl:List Addr)(C:Addr)(vw:List D->List Str->List D->Prop):Sp:=λvs H Q _=>∃x dx cE ds ns xs,vs=.ref x::cE/\Tb tl H/\H x=some (.ins C dx [])/\R H H ds cE []/\vw ds ns xs /\
 ∀H' ws A,dS x H H'->H' x=some (.ins C dx (ns.zip ws))->ns.length=ws.length->R (λ_=>none) H' xs ws A->A.Nodup->(∀a∈A,H a=none)->Q .ax H'
noncomputable def sV(C:Addr)(vw:List D->List Str->List D->Prop)(ta:cL):aQ:=λδ Q=>ta δ λds ai=>∃ns xs,vw (ds.map D.sh) ns xs/\Q (.obj C ns (xs.map D.sh)) ai
theorem au.made{B:Bs}{F H H':Hp}{σ:L2.St}{δ:Dl}{ts:List (D × V)}{C dx x:Addr}{ns:List Str}{xs:List D}{ws:List V}{A:List Addr}(c:au B F H σ δ ts)(hs:ag H H')(hx:H' x=some (.ins C dx (ns.zip ws)))(hl:ns.length=ws.length)
  (r:R (λ_=>none) H' xs ws A) (fr:∀a∈A,H a=none):ag F (L3.cg F H' A)/\au B (L3.cg F H' A) H' σ δ ((.obj C ns (xs.map D.sh),.ref x)::ts):=by
 have c1:=c.grow hs
 have hF:∀a∈A,F a=none:=λa ha=>c.ext.free (fr a ha)
 have r1:R F H' xs ws A:=r.keep (ag.of λb o e=>by cases e) (gY.same (ag.refl _)) iW.nil hF (by simp)
 have r2:=r1.cg c1.ext A (λ_ h=>h)
 have fs:ag F (L3.cg F H' A):=lN c1.ext
 obtain⟨A',C',r',s',nd,Cv⟩:=c.own
 have out:∀a,(∃ws,H a=some (.lst ws))/\F a=none->L3.cg F H' A a=none:=λa zz=>by
  obtain⟨⟨ws,h⟩,hf⟩:=zz
  rw[BY (λz=>by rw[fr a z]at h;cases h)];exact hf
 have g1:=r'.grow fs hs λa ha=>out a (r'.lists a ha)
 have g2:=s'.keep fs (gY.same hs) iW.nil (λa ha=>out a (s'.lists a ha)) (by simp)
 refine⟨fs,Th c1.ext,c1.b1,c1.b2.trans fs,λa ws h=>?_,A',C',?_,g2,nd,Cv⟩
 ·by_cases z:a∈A
  ·exact .inr (c.b1.free (fr a z))
  ·rw[BY z]at h;exact c.b3 a ws h
 ·exact R.obj hx hl r2 g1
section
variable{X:Cx}{CX:eY}{n:Nat}{f C:Addr}{fd:FuncData}{ps:List Str}{vw:List D->List Str->List D->Prop}{E:XK}{x:Str}{p pos:Pos}{e:Expr}{es:List Expr}{t:cL}{tl:List Addr}
theorem UW(hT:Tb tl X.j8)(M:Mk X.K C f)(F:aM X.prog X.w X.K X.mg X.base CX n f fd ps (HI tl C vw))(hr:cC (n+1) X.A)(hg:Gl X x)(hm:X.mg x=some (.ref C))(hb:Binds X.K fd ps [])(hx:lH CX X E)
  (ha:PA X (e::es) (lA t)) (eZ:(x==("__debug__":Str))=false:=by decide) (he:starEach (e::es) X.env=(false,eval e X.env)::starEach es X.env:=by rfl) (bL:(backTo pos (starEach es X.env)).any (·.1)=false:=by rfl) :
  PE X (.Call (.Name x p) (e::es) [] pos) (lE (sV C vw t)):=by
 intro pins s σ H Q I zz
 obtain⟨B,F',δ,ts,Qd,c,q,k⟩:=zz
 have tb:=Ut I hT
 refine cL4 M F hr hg hm hb .nil hx ha eZ he bL pins s σ H Q I ⟨B,F',δ,ts,_,c,q,λds aq vs F1 H1 q1 f1 h1 c1 s1=>?_⟩
 intro x dx ft iD m3
 obtain⟨ns,xs,hI,hq⟩:=q1
 have sm:ag H1 (upd (upd H1 dx (.own x)) x (.ins C dx [])):=.of λb o e=>by rw[bj (fg e ft),bj (fg e iD)];exact e
 refine⟨x,dx,vs,ds.map D.sh,ns,xs,by rw[n9],HF (HF tb h1) sm,cA,(s1.frozen c1.ext).shared sm sm,hI,λH' ws A UX dk hl r nd fr=>⟨rfl,?_⟩⟩
 have s2:ag H1 H':=⟨λb o e n=>UX.get b o (fg e ft) (sm.get b o e n) n,λb ps e=>by
  obtain⟨m1,e1⟩:=sm.tb b ps e
  obtain⟨m2,e2⟩:=UX.tb b _ e1
  exact⟨m1++m2,by rw[e2,AZ]⟩⟩
 obtain⟨fs,c2⟩:=c1.made s2 dk hl r λa ha=>sm.free (fr a ha)
 exact k _ aq _ _ H' hq (f1.trans fs) (h1.trans s2) c2
end
end L3
namespace Mf
open PySem L2 L3
noncomputable def gm(m:Bool × Nat)(a b:Nat):Nat:=if m.1 then md (cl a b) m.2 else a*b%m.2
noncomputable def aa(m:Bool × Nat):Nat:=if m.1 then 2 ^ (bl m.2-1)else m.2
noncomputable def Cw(g:Nat->Nat->Nat)(a:Nat):Nat->Nat->List Int->Option (List Int)
 | 0,_,_=>none
 | f+1,p,acc=>if p=1 then some acc else if p<64 then Cw g a f (g p a) (acc++[(p:Int)])else none
noncomputable def HJ(g:Nat->Nat->Nat)(a:Nat):Option (List Int):=Cw g a 64 (g 1 a) [1]
noncomputable def Cy(g:Nat->Nat->Nat)(many:Nat):Nat->Nat->List Int->Option (List Int)
 | 0,_,_=>none
 | f+1,st,l=>if l.length+1<many then(match HJ g (st+1)with | some l'=>Cy g many f (st+1) l' | none=>none)else some l
noncomputable def zI(g:Nat->Nat->Nat)(many:Nat):Option (List Int):=match HJ g 1 with | some l=>Cy g many 62 1 l | none=>none
noncomputable def aX(g:Nat->Nat->Nat):vv:=λi j Q=>∃a b:Nat,i=a/\j=b/\a<64/\b<64/\Q (g a b:Nat)
noncomputable def jt:List Nat:=[7,11,13,19,25,31,37,41,47,55,59,61,67,73,87,91,97,103,109,115,117]
noncomputable def Cz:List Nat:=[2,3,5,7,11,13,17,19,23,29,31,37,41,43,47,53,59,61]
noncomputable def aw:List (Bool × Nat):=jt.map (λn=>(true,n))++Cz.map λn=>(false,n)
noncomputable def nB(l:List Int):Nat->List Int
 | 0=>aV (l.length+1) 0
 | i+1=>(nB l i).set (l.getD i 0).toNat (i:Int)
noncomputable def eC(l:List Int):List Int:=nB l l.length
theorem zJ(l:List Int):∀i,(nB l i).length=l.length+1
 | 0=>by simp[nB]
 | i+1=>by simp[nB,zJ l i]
noncomputable def pS(l g:List Int)(a:Nat):List Int:=if a=0 then aV (l.length+1) 0 else 0::(aS l.length).map λ(b:Nat)=>l.getD ((g.getD a 0+g.getD (b+1) 0)%(l.length:Int)).toNat 0
noncomputable def vx(l g:List Int)(n:Nat):List D:=(aS n).map λa=>D.lst true (aC (pS l g a))
noncomputable def pU(l g:List Int):List D:=vx l g (l.length+1)
end Mf
namespace L3
open PySem L2 Mf
noncomputable def LI(H:Hp)(p:Addr)(ns:List Int):Prop:=H p=some (.lst (ns.map V.int))
theorem LI.same{H H':Hp}{p:Addr}{ns:List Int}(h:LI H p ns)(s:ag H H'):LI H' p ns:=s.get _ _ h
theorem LI.upd{H:Hp}{p x:Addr}{ns:List Int}{o o':HO}(h:LI H p ns)(hx:H x=some o)(n:∀ws,o≠.lst ws):LI (upd H x o') p ns:=by
 unfold LI
 rw[bj (λz=>by rw[z]at h;unfold LI at h;rw[hx]at h;cases h;exact n _ rfl)];exact h
theorem UY{F' H' H:Hp}{v:V}{A:List Addr}{ns:List Int}(r:R F' H' [.lst true (aC ns)] [v] A)(fr:∀a∈A,H a=none):∃p,v=.ref p/\LI H' p ns/\H p=none:=by
 cases r with
 | @own p ws xs A1 _ _ B1 hp hf r1 r2 =>
  have:=Hq r1.s
  subst this
  exact⟨p,rfl,hp,fr p (by simp)⟩
structure dU3(K:PySem.W.Frag)(C f:Addr):Prop where
 cls:dQ K C
 many:cq K C "many"
 wide:cq K C "wide"
 HK:cq K C "powers"
 dU4:cq K C "logs"
 step:cq K C "step"
 sp:Meth K C "step_power" f
structure UZ(g:Nat->Nat->Nat)(many:Nat)(l:List Int)(st:Int):Prop where
 lo:2<=many
 hi:many<=64
 step:zI g many=some l
 len:l.length+1=many
 ins:∀x∈l,0<=x/\x.toNat<=l.length
 st:l[((1:Int)%((many:Int)-1)).toNat]?=some st
noncomputable def g6(b:Str):List Str:=[b,"many","wide","powers","logs","step"]
noncomputable def CA(n0:Int)(many:Nat)(p1 p2:Addr)(st:Int):List V:=[.int n0,.int many,.int ((bl many:Nat)-1),.ref p1,.ref p2,.int st]
theorem vy{f:Str}{v:V}:∀{fs:List (Str × V)},(∀p∈fs,p.1≠f)->fP f v fs=fs++[(f,v)]
 | [],_=>rfl
 | (g,x)::r,h=>by
  unfold fP
  rw[if_neg (h (g,x) (by simp)),vy λp hp=>h p (by simp[hp])];rfl
theorem jL.zK{H:Hp}{x C dx f c k:Addr}{fs:List (Str × V)}{o':HO}{of oc:Obj}(h:jL H f of oc c k)(hx:H x=some (.ins C dx fs)):jL (L2.upd H x o') f of oc c k:=by
 obtain⟨ψ,e,zD⟩:=h.GR
 exact⟨by rw[bj (λz=>by rw[<-z,h.fn]at hx;cases hx)];exact h.fn,by rw[bj (λz=>by rw[<-z,h.cell]at hx;cases hx)];exact h.cell,ψ,by rw[bj (λz=>by rw[<-z,e]at hx;cases hx)];exact e,zD⟩
theorem zL{H:Hp}{x p:Addr}{o o':HO}(hx:H x=some o)(h:L2.upd H x o' p=none):H p=none:=by
 by_cases z:p=x
 ·subst z;rw[cA]at h;cases h
 ·rw[bj z]at h;exact h
theorem CB{α:Type}{b f:Str}{v:α}{r:List (Str × α)}(h:b≠f):((b,v)::r).lookup f=r.lookup f:=by
 rw[gq,beq_eq_false_iff_ne.mpr (fe h)]
section
variable{H2 H3 H':Hp}{x f c p:Addr}{o1 o2:HO}
theorem zM{b:Addr}{o:HO}(e:H3 b=some o)(nb:b≠f)(nc:H3 c=none):L2.upd (L2.upd H3 f o1) c o2 b=some o:=by
 rw[bj (fg e nc),bj nb];exact e
theorem U0(hs:ag H2 H3)(nf:H2 f=none)(nc:H3 c=none)(s:dS x (L2.upd (L2.upd H3 f o1) c o2) H'):dS x H2 (rem H' f c) where
 get b o n e t:=by
  have z1:=fg e nf
  have e3:=hs.get b o e t
  rw[g5 z1 (fg e3 nc)]
  exact s.get b o n (zM e3 z1 nc) t
 tb b ps e:=by
  have z1:=fg e nf
  obtain⟨m,e3⟩:=hs.tb b ps e
  obtain⟨m2,e4⟩:=s.tb b _ (zM e3 z1 nc)
  exact⟨m++m2,by rw[g5 z1 (fg e3 nc),e4,AZ]⟩
theorem CC(hs:ag H2 H3)(h:L2.upd (L2.upd H3 f o1) c o2 p=none):H2 p=none:=by
 refine hs.free ?_
 by_cases z:p=c
 ·subst z;rw[cA]at h;cases h
 ·rw[bj z]at h
  by_cases z2:p=f
  ·subst z2;rw[cA]at h;cases h
  ·rw[bj z2]at h;exact h
theorem LI.rem{l:List Int}{φ:Heap->Prop}{y:Addr}(h:LI H' p l)(hf:H' f=some (.ext φ))(hc:H' c=some (.own y)):LI (rem H' f c) p l:=by
 unfold LI at h ⊢
 rw[g5 (λz=>by rw[z,hf]at h;cases h) (λz=>by rw[z,hc]at h;cases h)];exact h
theorem U1{of oc:Obj}{k:Addr}(m3:c≠f)(nc:H3 c=none)(hk:GQ H3 k)(kf:k≠f):jL (L2.upd (L2.upd H3 f (.ext (ji of oc c f))) c (.own f)) f of oc c k:=by
 obtain⟨ψ,e,zD⟩:=hk
 exact⟨by rw[bj m3.symm,cA],cA,ψ,zM e kf nc,zD⟩
end
noncomputable def fl(m:Bool × Nat):List Int:=(zI (gm m) (aa m)).getD []
noncomputable def fst(m:Bool × Nat):Int:=(fl m).getD ((1:Int)%((aa m:Int)-1)).toNat 0
noncomputable def U2(m:Bool × Nat):Bool:=decide (2<=aa m)&&decide (aa m<=64)&&(zI (gm m) (aa m)).isSome&&decide ((fl m).length+1=aa m)&&(fl m).all (λx=>decide (0<=x)&&decide (x.toNat<=(fl m).length))&&decide (((1:Int)%((aa m:Int)-1)).toNat<(fl m).length)
theorem cC3:aw.all U2=true:=by decide +kernel
theorem bO{m:Bool × Nat}(h:m∈aw):UZ (gm m) (aa m) (fl m) (fst m):=by
 have h:=cU.mp cC3 m h
 simp only[U2,dY,decide_eq_true_eq,cU]at h
 obtain⟨⟨⟨⟨⟨h1,h2⟩,h3⟩,h4⟩,h5⟩,h6⟩:=h
 obtain⟨l,e⟩:=dh8.mp h3
 have el:fl m=l:=by unfold fl;rw[e];rfl
 refine⟨h1,h2,by rw[e,el],h4,λx hx=>h5 x hx,?_⟩
 unfold fst
 rw[aL,aJ h6];rfl
theorem cs3:∀p∈Cz,(decide (2<=(p:Int))&&decide ((p:Int)<=61)&&(aS ((p:Int).toNat-2)).all λi=>(p:Int)%(2+(i:Int)) != 0)=true:=by decide +kernel
theorem cJ9:∀p∈jt,(decide (4<=(p:Int))&&decide ((p:Int)<=127)&&al (p:Int).toNat)=true:=by decide +kernel
theorem R.zK{F H:Hp}{x C dx:Addr}{fs:List (Str × V)}{o':HO}{ds:List D}{vs:List V}{A:List Addr}(r:R F H ds vs A)(hx:H x=some (.ins C dx fs))(hd:ds.all D.fr=true):R F (L2.upd H x o') ds vs A:=by
 have up:∀{a o},H a=some o->(∀C dx fs,o≠.ins C dx fs)->L2.upd H x o' a=some o:=λ{a o} e n=>by
  rw[bj (λz=>by rw[z,hx]at e;cases e;exact n _ _ _ rfl)];exact e
 induction r with
 | nil=>exact .nil
 | ax _ ih=>exact .ax (ih (by simpa[D.fr]using hd))
 | bl _ ih=>exact .bl (ih (by simpa[D.fr]using hd))
 | int _ ih=>exact .int (ih (by simpa[D.fr]using hd))
 | str _ ih=>exact .str (ih (by simpa[D.fr]using hd))
 | shr h x _ i1 ih=>simp[gh]at hd
 | own h f _ _ i1 i2 =>
  rw[eN,gh,dY,mG]at hd
  exact .own (up h λ_ _ _ z=>by cases z) f (i1 hd.1) (i2 hd.2)
 | tup h _ _ i1 i2 =>
  rw[eN,m4,dY]at hd
  exact .tup (up h λ_ _ _ z=>by cases z) (i1 hd.1) (i2 hd.2)
 | obj h l x _ i1 ih=>simp[D.fr]at hd
 | fz h x _ i1 ih=>simp[D.fr]at hd
 | @bJ p z _ _ _ h r ih =>
  refine .bJ ?_ (ih (by simpa[D.fr]using hd))
  cases z with
  | ext φ=>exact up h λ_ _ _ z=>by cases z
  | lam of oc c k=>exact jL.zK h hx
theorem U3(l g:List Int):(pU l g).all D.fr=true:=by
 unfold pU vx
 rw[kX,cU]
 intro a _
 show(D.lst true (aC _)).fr=true
 rw[gh,pE];rfl
theorem dS.free{x a:Addr}{H H':Hp}(s:dS x H H')(hx:H' x≠none)(h:H' a=none):H a=none:=by
 cases q:H a with
 | none=>rfl
 | some o =>
  by_cases z:a=x
  ·subst z;exact absurd h hx
  ·cases n:iV o with
   | true=>rw[s.get a o z q n]at h;cases h
   | false =>
    obtain⟨ps,rfl⟩:=GP n
    obtain⟨m,e⟩:=s.tb a ps q
    rw[e]at h;cases h
theorem U4(l:List Int):∀i,∀x∈nB l i,0<=x
 | 0=>λx hx=>by rw[(x8.mp hx).2];exact Int.le_refl _
 | i+1=>λx hx=>by
  unfold nB at hx
  rcases yf hx with h | h
  ·exact U4 l i x h
  ·rw[h];exact Q1 _
theorem U5:∀p∈jt,bl p<=7:=by decide +kernel
theorem U6:∀p∈jt,1<=bl p:=by decide +kernel
theorem cs0(a b:Nat):bl (cl a b)<=bl a+bl b:=by
 by_cases ha:a=0
 ·subst ha;rw[oF];exact kT _
 ·by_cases hb:b=0
  ·subst hb
   have:cl a 0=0:=rfl
   rw[this];exact kT _
  ·rw[SM ha hb];omega
noncomputable def nC(l g:List Int):List D:=(aS (l.length+1)).map λa=>D.lst false (aC (pS l g a))
theorem cn8(l g:List Int):(D.lst true (pU l g)).sh=.lst false (nC l g):=by
 rw[fh]
 unfold pU vx nC
 rw[dh]
 congr 1
 apply oj
 intro a _
 show D.sh (.lst true (aC _))=_
 rw[fh,jn]
theorem cb1(l g:List Int):(nC l g).all D.pl=true:=by
 unfold nC
 rw[kX,cU]
 intro a _
 show(D.lst false (aC _)).pl=true
 rw[gr,lZ];rfl
noncomputable abbrev pD(m:Bool × Nat):List D:=[.int m.2,.int (aa m),.int ((bl (aa m):Nat)-1),.lst false (aC (fl m)),.lst false (aC (eC (fl m))),.int (fst m)]
noncomputable def pV(C:Addr)(p:Nat):D:=.obj C (g6 "prime") (pD (false,p))
noncomputable def sW(C:Addr)(p:Nat):D:=.obj C (g6 "bits"++[("products":Str)]) (pD (true,p)++[.lst false (nC (fl (true,p)) (eC (fl (true,p))))])
noncomputable def fD(cb cp:Addr)(m:Bool × Nat):D:=if m.1 then sW cb m.2 else pV cp m.2
end L3
namespace L3
open PySem L2 Mf
theorem zN{u p:Nat}(h:bl u<bl p):md u p=u:=yZ (q:=0) (by rw[oF,oa]) h
theorem ck3{u v n:Nat}(hu:bl u<n)(hv:bl v<n):bl (u ^^^ v)<n:=by
 have h1:u<2 ^ (n-1):=eO.mp (by omega)
 have h2:v<2 ^ (n-1):=eO.mp (by omega)
 have:=eO.mpr (uw h1 h2)
 omega
theorem CD{p:Nat}(hp:p≠0)(u v:Nat):md (u ^^^ v) p=md u p ^^^ md v p:=by
 obtain⟨⟨q1,e1⟩,l1⟩:=yY hp u
 obtain⟨⟨q2,e2⟩,l2⟩:=yY hp v
 refine yZ (q:=q1 ^^^ q2) ?_ (ck3 l1 l2)
 rw[oE,<- Sz,<- e1,<- e2]
theorem U7{p:Nat}(hp:p≠0)(w:Nat):md (cl p w) p=0:=by rw[yX];exact c79 w hp
theorem bB:∀m∈aw,0<m.2:=by decide +kernel
theorem fu(m:Bool × Nat)(a b:Nat):gm m a b=gm m b a:=by
 unfold gm
 split
 ·rw[yX]
 ·rw[mD]
theorem U8{n:Nat}(hn:n≠0)(u c:Nat):md (cl (md u n) c) n=md (cl u c) n:=by
 obtain⟨⟨q,e⟩,_⟩:=yY hn u
 have h:cl u c=cl n (cl q c) ^^^ cl (md u n) c:=by
  conv=>lhs;rw[e]
  rw[oE,yX n q,SS]
 rw[h,CD hn,U7 hn,oa]
theorem fG{m:Bool × Nat}(h:0<m.2)(a b c:Nat):gm m (gm m a b) c=gm m a (gm m b c):=by
 unfold gm
 split
 ·rw[U8 (by omega),yX (md (cl b c) m.2) a,U8 (by omega),SS a b c,yX (cl b c) a]
 ·rw[yg,Rn,<- yg,yg a (b*c%m.2),Rn,<- yg,tY]
theorem U9{m:Bool × Nat}(h:m.1=true){a:Nat}:a<aa m↔bl a<=bl m.2-1:=by
 unfold aa
 rw[if_pos h];exact eO.symm
theorem pW{m:Bool × Nat}{a:Nat}(ha:a<aa m):gm m 1 a=a:=by
 obtain⟨k,n⟩:=m
 cases k with
 | true =>
  show md (cl 1 a) n=a
  rw[Gu]
  have h1:=(U9 (m:=(true,n)) rfl).mp ha
  have h1:bl a<=bl n-1:=h1
  by_cases z:bl n=0
  ·have a0:a=0:=by
    have:=eO (n:=a) (m:=0)
    have:=this.mp (by omega)
    omega
   subst a0
   have n0:n=0:=by
    have:=(eO (n:=n) (m:=0)).mp (by omega)
    omega
   subst n0
   decide
  ·exact zN (by omega)
 | false=>show 1*a%n=a;rw[Nat.one_mul];exact yh ha
theorem nD{m:Bool × Nat}{a:Nat}(ha:a<aa m):gm m a 1=a:=by rw[fu];exact pW ha
noncomputable def lg(m:Bool × Nat)(a:Nat):Int:=(eC (fl m)).getD a 0
noncomputable def pw(m:Bool × Nat)(k:Nat):Int:=(fl m).getD k 0
noncomputable def HL(m:Bool × Nat):Bool:=((aS (aa m-1)).all λk=>decide (1<=pw m k)&&decide (pw m k<aa m)&&decide (lg m (pw m k).toNat=k))&&((aS (aa m-1)).all λa=>decide (0<=lg m (a+1))&&decide (lg m (a+1)<(aa m:Int)-1)&&decide (pw m (lg m (a+1)).toNat=((a+1:Nat):Int)))
theorem Va:aw.all HL=true:=by decide +kernel
theorem CF{m:Bool × Nat}(hm:m∈aw){k:Nat}(hk:k<aa m-1):1<=pw m k/\pw m k<aa m/\lg m (pw m k).toNat=k:=by
 have h:=cU.mp Va m hm
 simp only[HL,dY,cU,decide_eq_true_eq,dA]at h
 have:=h.1 k hk
 exact⟨this.1.1,this.1.2,this.2⟩
theorem CG{m:Bool × Nat}(hm:m∈aw){a:Nat}(h1:1<=a)(h2:a<aa m):0<=lg m a/\lg m a<(aa m:Int)-1/\pw m (lg m a).toNat=a:=by
 have h:=cU.mp Va m hm
 simp only[HL,dY,cU,decide_eq_true_eq,dA]at h
 have:=h.2 (a-1) (by omega)
 rw[show a-1+1=a by omega]at this
 exact⟨this.1.1,this.1.2,this.2⟩
theorem dM(m:Bool × Nat)(b:Nat)(h:0<m.2):gm m 0 b=0:=by
 unfold gm
 split
 ·rw[oF];exact zN (by rw[mU];exact gW (by omega))
 ·rw[Nat.zero_mul,Nat.zero_mod]
theorem gx(m:Bool × Nat)(b:Nat)(h:0<m.2):gm m b 0=0:=by rw[fu];exact dM m b h
noncomputable def stC(m:Bool × Nat):Bool:=decide (pw m 0=1)&&(aS (aa m-1)).all λk=>decide (gm m (pw m k).toNat (pw m (1%(aa m-1))).toNat=(pw m ((k+1)%(aa m-1))).toNat)
theorem Vb:aw.all stC=true:=by decide +kernel
theorem Vc(m:Bool × Nat)(hm:m∈aw):pw m 0=1:=by
 have h:=cU.mp Vb m hm
 simp only[stC,dY,decide_eq_true_eq]at h
 exact h.1
noncomputable def pN(m:Bool × Nat)(k:Nat):Nat:=(pw m (k%(aa m-1))).toNat
theorem cX6{m:Bool × Nat}(hm:m∈aw)(k:Nat):pN m k<aa m:=by
 have cZ:=(bO hm).lo
 have:=CF hm (t7 k (show 0<aa m-1 by omega))
 unfold pN
 omega
theorem Vd{m:Bool × Nat}(hm:m∈aw)(k:Nat):gm m (pN m k) (pN m 1)=pN m (k+1):=by
 have cZ:=(bO hm).lo
 have h:=cU.mp Vb m hm
 simp only[stC,dY,decide_eq_true_eq,cU,dA]at h
 have h2:=h.2 (k%(aa m-1)) (t7 k (by omega))
 rw[yi]at h2
 exact h2
theorem Ve{m:Bool × Nat}(hm:m∈aw)(i:Nat):∀j,gm m (pN m i) (pN m j)=pN m (i+j)
 | 0=>by
  have e:pN m 0=1:=by unfold pN;rw[Nat.zero_mod,Vc m hm];rfl
  rw[e,nD (cX6 hm i)];rfl
 | j+1=>by rw[<-Vd hm j,<- fG (bB m hm),Ve hm i j,Vd hm];rfl
theorem HM{m:Bool × Nat}(hm:m∈aw){a b:Nat}(a1:1<=a)(a2:a<aa m)(b1:1<=b)(b2:b<aa m):((gm m a b:Nat):Int)=pw m ((lg m a+lg m b)%((aa m:Int)-1)).toNat:=by
 have cZ:=(bO hm).lo
 obtain⟨g0,g1,g2⟩:=CG hm a1 a2
 obtain⟨f0,f1,f2⟩:=CG hm b1 b2
 have ea:pN m (lg m a).toNat=a:=by unfold pN;rw[yh (by omega),g2];rfl
 have eb:pN m (lg m b).toNat=b:=by unfold pN;rw[yh (by omega),f2];rfl
 have e:=Ve hm (lg m a).toNat (lg m b).toNat
 rw[ea,eb]at e
 rw[e]
 have ei:((lg m a+lg m b)%((aa m:Int)-1)).toNat=((lg m a).toNat+(lg m b).toNat)%(aa m-1):=by
  have:(((lg m a).toNat+(lg m b).toNat)%(aa m-1):Nat)=((lg m a+lg m b)%((aa m:Int)-1)):=by
   rw[mJ,qG,qH g0,qH f0,Int.natCast_sub (by omega)];rfl
  omega
 rw[ei]
 have:=CF hm (t7 ((lg m a).toNat+(lg m b).toNat) (show 0<aa m-1 by omega))
 unfold pN
 omega
theorem cF3{p a:Nat}(hp:p∈jt)(ha:a<aa (true,p)):pS (fl (true,p)) (eC (fl (true,p))) a=(aS (aa (true,p))).map λb=>((gm (true,p) a b:Nat):Int):=by
 have hm:(true,p)∈aw:=gQ _ (Fq hp)
 have h0:=bB _ hm
 have hF:=bO hm
 have hlen:=hF.len
 unfold pS
 split
 ·rename_i h
  subst h
  rw[hlen]
  refine Ro (by simp) λi h1 h2=>?_
  simp[dM _ _ h0]
 ·rename_i h
  rw[<-hlen,di9,dP,dh,gx _ _ h0]
  congr 1
  apply oj
  intro b hb
  have hb:=dA.mp hb
  show(fl (true,p)).getD (((eC (fl (true,p))).getD a 0+(eC (fl (true,p))).getD (b+1) 0)%((fl (true,p)).length:Int)).toNat 0=((gm (true,p) a (b+1):Nat):Int)
  rw[HM hm (by omega) ha (by omega) (by omega),show(((fl (true,p)).length:Nat):Int)=(aa (true,p):Int)-1 by omega]
  rfl
theorem CH{p a b:Nat}(hp:p∈jt)(ha:a<aa (true,p))(hb:b<aa (true,p)):eB (aC (pS (fl (true,p)) (eC (fl (true,p))) a)) (b:Int)=some (.int (gm (true,p) a b:Nat)):=by
 refine kh (by omega) ?_
 rw[cF3 hp ha]
 unfold aC
 rw[gD,cm,cm,jX hb];rfl
theorem CI{p a:Nat}(hp:p∈jt)(ha:a<aa (true,p)):eB (nC (fl (true,p)) (eC (fl (true,p)))) (a:Int)=some (.lst false (aC (pS (fl (true,p)) (eC (fl (true,p))) a))):=by
 have hF:=bO (m:=(true,p)) (gQ _ (Fq hp))
 refine kh (by omega) ?_
 unfold nC
 rw[gD,cm,jX (by rw[hF.len];exact ha)];rfl
end L3
namespace L3
open PySem L2 Mf
theorem cT4(C:Addr)(p:Nat):D.obj C (g6 "bits"++[("products":Str)]) (Fp D.sh [.int p,.int (aa (true,p)),.int ((bl (aa (true,p)):Nat)-1),.lst true (aC (fl (true,p))),.lst true (aC (eC (fl (true,p)))),.int (fst (true,p)),.lst true (pU (fl (true,p)) (eC (fl (true,p))))])=sW C p:=by
 simp only[dP,kU]
 rw[cn8]
 simp only[fh,kF,jn];rfl
theorem cp4(C:Addr)(p:Nat):D.obj C (g6 "prime") (Fp D.sh [.int p,.int p,.int ((bl p:Nat)-1),.lst true (aC (fl (false,p))),.lst true (aC (eC (fl (false,p)))),.int (fst (false,p))])=pV C p:=by
 simp only[dP,kU,fh,kF,jn];rfl
theorem vz{n:Nat}(h:(true,n)∈aw):n∈jt:=by
 rcases bW.mp h with h | h
 ·obtain⟨x,hx,e⟩:=cH.mp h
  cases e;exact hx
 ·obtain⟨x,hx,e⟩:=cH.mp h
  cases e
theorem bR4{n:Nat}(h:(false,n)∈aw):n∈Cz:=by
 rcases bW.mp h with h | h
 ·obtain⟨x,hx,e⟩:=cH.mp h
  cases e
 ·obtain⟨x,hx,e⟩:=cH.mp h
  cases e;exact hx
open Classical in
theorem CJ{α:Type}{sh:Bool}{xs:List D}{aD:List (Str × Nat)}{n:Nat}{g0:iz}{te:aQ}{aq:Dl}{Q:D->Dl->Prop}(l:List α)(e g:α->D)(i4:xs.map D.sh=l.map e)(inj:∀a b,e a=e b->a=b)
  (hx:∀a∈l,g0 (e a) (fU aD n aq) λaU=>te aU λd _=>d=g a) (hg:∀d δ (P P':Dl->Prop),(∀ai,P ai->P' ai)->g0 d δ P->g0 d δ P') (eQ:(sh&&aD.all (iB aq))=true\/∀a∈l,(g a).fr=true) (hl:l.length<=sizeLine) (hq:Q (.lst true (l.map g)) aq):rF sh xs aD n g0 jP te aq Q:=by
 let f:D->D:=λx=>if h:∃a∈l,e a=x then g h.choose else .ax
 have hf:∀a∈l,f (e a)=g a:=λa ha=>by
  have h:∃b∈l,e b=e a:=⟨a,ha,rfl⟩
  show(if h:∃b∈l,e b=e a then g h.choose else .ax)=g a
  rw[dif_pos h]
  exact congrArg g (inj _ _ h.choose_spec.2)
 refine⟨λ_=>true,f,λx h=>?_,eQ.imp id λh x hx _=>?_,?_,?_⟩
 ·rw[i4]at h
  obtain⟨a,ha,rfl⟩:=cH.mp h
  rw[hf a ha]
  exact hg _ _ _ _ (λai h=>⟨rfl,λ_=>h⟩) (hx a ha)
 ·rw[i4]at hx
  obtain⟨a,ha,rfl⟩:=cH.mp hx
  rw[hf a ha];exact h a ha
 ·have:=congrArg A7 i4
  simp at this
  omega
 ·rw[i4,di7.mpr (λ_ _=>rfl),dh,show l.map (f ∘ e)=l.map g from oj λa ha=>hf a ha]
  exact hq
theorem CK{i1 i2:Nat}(d:D)(δ:Dl)(P P':Dl->Prop)(h:∀ai,P ai->P' ai)(q:jo i1 i2 d δ P):jo i1 i2 d δ P':=by
 unfold jo at q ⊢
 split at q
 ·exact h _ q
 ·exact q
theorem Vf(xs ys:List Int):(dq (aC xs) (aC ys)).map D.sh=(xs.zip ys).map λz=>D.tup [.int z.1,.int z.2]:=by
 rw[zy,jn,jn]
 unfold dq aC
 rw[yc,jB,qE]
theorem cI1{p x y:Nat}(hp:p≠0)(hx:bl x<bl p):md (cl x y) p=(if y%2=1 then x else 0) ^^^ md (cl (if bl (2*x)=bl p then 2*x ^^^ p else 2*x) (y/2)) p:=by
 have e0:md (if y%2=1 then x else 0) p=(if y%2=1 then x else 0):=by
  split
  ·exact zN hx
  ·exact zN (by rw[mU];exact gW hp)
 rw[SI,CD hp,e0]
 congr 1
 split
 ·rw[oE,CD hp,U7 hp,kW]
 ·rfl
theorem cG4{p x:Nat}(hp:p≠0)(hx:bl x<bl p):bl (if bl (2*x)=bl p then 2*x ^^^ p else 2*x)<bl p:=by
 have h2:=cO0 x
 have h0:=gW hp
 split
 ·rename_i h
  have n0:2*x≠0:=λz=>by rw[z,mU]at h;omega
  have a1:=iT (2*x)
  have a2:=iT p
  have b1:=uu n0
  have b2:=uu hp
  rw[h]at a1 b1
  obtain⟨k,hk⟩:∃k,bl p=k+1:=⟨bl p-1,by omega⟩
  rw[hk]at a1 a2 b1 b2 ⊢
  have:=eO.mpr (Sx a1 a2 b1 b2)
  omega
 ·omega
end L3
namespace L3
open PySem L2 PySem.Spec PyProof.Rows
structure CL(P:Program)(w:World)(K:PySem.W.Frag)(mg:Str->Option Value)(base:Heap)(n:Nat)(m:Str)(C:Addr)(sp:pI):Prop where
 cls:dQ K C
 ex:∃f fd ps,Meth K C m f/\aM P w K mg base (mZ P w) n f fd ps (zx sp)/\Binds K fd ps []
section
variable{X:Cx}{e o:Expr}{es:List Expr}{f m x:Str}{pos p apos:Pos}{to:aQ}{ta:cL}{n:Nat}
noncomputable def pX(MO:Addr->pI->Prop)(m:Str)(to:aQ)(ta:cL):aQ:=λδ Q=>to δ λd aq=>∃C ns xs sp,d=.obj C ns xs/\MO C sp/\m ∉ ns/\ta aq λds aU=>sp ((D.obj C ns xs::ds).map D.sh) (λr=>((D.obj C ns xs::ds).all D.pl||r.fr)=true/\Q r aU) λ_=>False
theorem cJ7{pl:Sem Bool}(ho:PE X o (lB to))(hr:cC n X.A)(ha:PA X (e::es) (lA ta))
  (dj:starEach (e::es) X.env=(false,eval e X.env)::starEach es X.env:=by rfl) (bL:(backTo pos (starEach es X.env)).any (·.1)=false:=by rfl)
  (ht:eval (.Call (.Attribute o m apos) (e::es) [] pos) X.env=(do
   let ov<-eval o X.env
   standAt apos.atName
   let (f,first)<-holding [ov] (getMethod ov m pl)
   callWith pos f first (backTo pos (starEach (e::es) X.env)) (backToKw pos (keywordEach [] X.env))):=by rfl) :
  PE X (.Call (.Attribute o m apos) (e::es) [] pos) (lE (pX (CL X.prog X.w X.K X.mg X.base n m) m to ta)):=by
 intro pins s σ H Q I zz
 obtain⟨B,F,δ,ts,Qd,c,q,k⟩:=zz
 refine PySem.W.methodCall_KW (pl:=pl) (aP (ho pins s σ H (λx H1=>∃d aq F1,S F1 H1 [d] [x]/\au B F1 H1 σ aq ts/\ag F F1/\ag H H1/\∃C ns xs sp,d=.obj C ns xs/\CL X.prog X.w X.K X.mg X.base n m C sp/\m ∉ ns/\ta aq λds aU=>sp ((D.obj C ns xs::ds).map D.sh) (λr=>((D.obj C ns xs::ds).all D.pl||r.fr)=true/\Qd r aU) λ_=>False) I
  ⟨B,F,δ,ts,_,c,q,λd aq v F1 H1 hq f1 h1 c1 s1=>⟨d,aq,F1,s1,c1,f1,h1,hq⟩⟩) λu s1 ⟨x,H1,I1,rx,d,aq,F1,sd,c1,f1,h1,C,ns,xs,sp,ed,M,hm,hq⟩=>?_) ht
 subst ed
 obtain⟨a,dx,ws,rfl,ea,hl,r0⟩:=HG sd
 obtain rfl:u=fw a:=rx
 obtain⟨f,fd,ps,zH,FO,hb⟩:=M.ex
 refine FY I1 ea M.cls zH (UU hm) ?_
 refine PySem.W.callWith_K (first:=[.ref a]) (h₀:=X.base) I.ok.mod.mM zH.kp (aP (ha pos pins s1 σ H1 (λvs H2=>∃ds aU F2,S F2 H2 ds vs/\au B F2 H2 σ aU ts/\ag F1 F2/\ag H1 H2/\sp ((D.obj C ns xs::ds).map D.sh) (λr=>((D.obj C ns xs::ds).all D.pl||r.fr)=true/\Qd r aU) λ_=>False) I1
  ⟨B,F1,aq,ts,_,c1,hq,λds aU vs F2 H2 hq f2 h2 c2 s2=>⟨ds,aU,F2,s2,c2,f2,h2,hq⟩⟩) λus s2 ⟨vs,H2,I2,r,ds,aU,F2,HH,c2,f2,h2,iQ⟩=>⟨I2.di,?_⟩) dj bL
 refine BP (us:=.ref a::us) (vs:=.ref a::vs) (fF:=[]) (Hu FO) hr hb .nil Ht I2 (.cons rfl r) ?_
 rw[n9]
 exact B5 (sp:=λds Q=>sp ds Q λ_=>False) c2 (.obj (h2 _ _ ea) hl (r0.shared f2 h2) HH) iQ λd v F' H' hd hf hs c'=>k d aU v F' H' hd (f1.trans (f2.trans hf)) (h1.trans (h2.trans hs)) c'
end
section
variable{X:Cx}{tb th:cO}{body dO7:List Stmt}{dO8:Stmt}{K:Str}{Kc:Addr}{kp dO9 pos:Pos}
end
structure Vg(K:PySem.W.Frag)(C:Addr):Prop where
 cls:dQ K C
 ha:PySem.W.findIn K (.ref C) "__class__"=some (some (.builtin "object.__class__"))
 hn:PySem.W.specialIn K (.builtin "object.__class__") "__get__"=some (some (.builtin "getset_descriptor.__get__"))
 FZ:PySem.W.takesIn K (.builtin "object.__class__")=some true
 hm:PySem.W.mroIn K C (.type "object")=some true
end L3
namespace L3
open PySem L2 Mf
theorem Vh{m:Bool × Nat}(hm:m∈aw){a b:Nat}(a1:1<=a)(a2:a<aa m)(b1:1<=b)(b2:b<aa m):∃r:Nat,pw m ((lg m a-lg m b)%((aa m:Int)-1)).toNat=r/\r<aa m/\gm m r b=a:=by
 have hF:=bO hm
 have cZ:=hF.lo
 have n0:=gR (lg m a-lg m b) (show(aa m:Int)-1≠0 by omega)
 have n1:=jC (lg m a-lg m b) (show(0:Int)<(aa m:Int)-1 by omega)
 obtain⟨p1,p2,p3⟩:=CF hm (k:=((lg m a-lg m b)%((aa m:Int)-1)).toNat) (by omega)
 obtain⟨g0,g1,g2⟩:=CG hm a1 a2
 refine⟨(pw m ((lg m a-lg m b)%((aa m:Int)-1)).toNat).toNat,by omega,by omega,?_⟩
 have e:=HM hm (a:=(pw m ((lg m a-lg m b)%((aa m:Int)-1)).toNat).toNat) (by omega) (by omega) b1 b2
 rw[p3,qH n0,Int.emod_add_emod,Int.sub_add_cancel,Bi g0 g1,g2]at e
 omega
end L3
namespace L3
open PySem L2 PySem.Spec PyProof.Rows
section
variable{X:Cx}{e o a:Expr}{es:List Expr}{f m y:Str}{pos p apos q:Pos}{t to ta':aQ}{ta:cL}{n:Nat}{P:Program}{w:World}{K:PySem.W.Frag}{mg:Str->Option Value}{base:Heap}
theorem i6(he:PE X e (lB t))(hK:K=X.K:=by rfl)(hb:attributeBase e f X.env (eval e X.env)=eval e X.env:=by rfl):PE X (.Attribute e f pos) (lB (pP K t f)):=by
 subst hK;exact c77 he hb
theorem g7{pl:Sem Bool}(ho:PE X o (lB to))(hr:cC n X.A)(ha:PA X (e::es) (lA ta))(hP:P=X.prog:=by rfl)(hw:w=X.w:=by rfl)(hK:K=X.K:=by rfl)(hm:mg=X.mg:=by rfl)(hb:base=X.base:=by rfl)
  (dj:starEach (e::es) X.env=(false,eval e X.env)::starEach es X.env:=by rfl) (bL:(backTo pos (starEach es X.env)).any (·.1)=false:=by rfl)
  (ht:eval (.Call (.Attribute o m apos) (e::es) [] pos) X.env=(do
   let ov<-eval o X.env
   standAt apos.atName
   let (f,first)<-holding [ov] (getMethod ov m pl)
   callWith pos f first (backTo pos (starEach (e::es) X.env)) (backToKw pos (keywordEach [] X.env))):=by rfl) :
  PE X (.Call (.Attribute o m apos) (e::es) [] pos) (lE (pQ (nz P w K mg base n m) m to ta)):=by
 subst hP hw hK hm hb;exact cU3 ho hr ha dj bL ht
theorem Vi{pl:Sem Bool}(ho:PE X o (lB to))(hr:cC n X.A)(ha:PA X (e::es) (lA ta))(hP:P=X.prog:=by rfl)(hw:w=X.w:=by rfl)(hK:K=X.K:=by rfl)(hm:mg=X.mg:=by rfl)(hb:base=X.base:=by rfl)
  (dj:starEach (e::es) X.env=(false,eval e X.env)::starEach es X.env:=by rfl) (bL:(backTo pos (starEach es X.env)).any (·.1)=false:=by rfl)
  (ht:eval (.Call (.Attribute o m apos) (e::es) [] pos) X.env=(do
   let ov<-eval o X.env
   standAt apos.atName
   let (f,first)<-holding [ov] (getMethod ov m pl)
   callWith pos f first (backTo pos (starEach (e::es) X.env)) (backToKw pos (keywordEach [] X.env))):=by rfl) :
  PE X (.Call (.Attribute o m apos) (e::es) [] pos) (lE (pX (CL P w K mg base n m) m to ta)):=by
 subst hP hw hK hm hb;exact cJ7 ho hr ha dj bL ht
end
theorem cC4:∀m∈Mf.aw,1<=Mf.bl m.2/\Mf.bl m.2<=7:=by decide +kernel
end L3
namespace L3
open PySem L2 Mf
noncomputable def gp(m:Bool × Nat)(a b:Nat):Nat:=if m.1 then a ^^^ b else(a+b)%m.2
noncomputable def gl(m:Bool × Nat)(a b:Nat):Int:=if m.1 then(a ^^^ b:Nat)else((a:Int)-b)%m.2
noncomputable def gd(m:Bool × Nat)(xs ys:List Nat):Nat:=(dZ (gm m) xs ys).foldl (gp m) 0
noncomputable def cS(m:Bool × Nat):D:=.tup [.bl m.1,.int m.2]
theorem vA(cb cp:Addr)(m:Bool × Nat):fD cb cp m=.obj (if m.1 then cb else cp) (if m.1 then g6 "bits"++[("products":Str)]else g6 "prime") (if m.1 then pD (true,m.2)++[.lst false (nC (fl (true,m.2)) (eC (fl (true,m.2))))]else pD (false,m.2)):=by
 obtain⟨k,n⟩:=m
 cases k<;>rfl
theorem Vj(m:Bool × Nat)(x:Str)(h:x ∉ (["bits","prime","many","wide","powers","logs","step","products"]:List Str)):x ∉ (if m.1 then g6 "bits"++[("products":Str)]else g6 "prime"):=by
 obtain⟨k,n⟩:=m
 intro z
 apply h
 cases k
 ·have z:x∈g6 "prime":=z
  simp[g6]at z
  simp only[bX]
  rcases z with z | z | z | z | z | z<;>simp[z]
 ·have z:x∈g6 "bits"++[("products":Str)]:=z
  simp[g6]at z
  simp only[bX]
  rcases z with z | z | z | z | z | z | z<;>simp[z]
theorem cZ2(cb cp:Addr)(m:Bool × Nat):(fD cb cp m).sh=fD cb cp m:=by rw[vA];rfl
theorem c69(cb cp:Addr)(m:Bool × Nat):(fD cb cp m).pl=true:=by rw[vA];rfl
theorem cC6(m:Bool × Nat):(cS m).sh=cS m:=rfl
theorem cL8(m:Bool × Nat):(cS m).pl=true:=rfl
noncomputable def HN(P:Program)(w:World)(K:PySem.W.Frag)(mg:Str->Option Value)(base:Heap)(n:Nat)(cb cp:Addr)(m:Bool × Nat)(x:Str)(ds:List D)(Q:D->Prop):Prop:=∃C ns xs sp,fD cb cp m=.obj C ns xs/\nz P w K mg base n x C sp/\x ∉ ns/\sp (.obj C ns xs::ds) Q
theorem Vk{p:Nat}(hp:0<p):∀(l:List Nat) (acc:Nat),acc<p->l.foldl (gp (false,p)) acc=(acc+l.sum)%p
 | [],acc,h=>by simp[yh h]
 | x::l,acc,h=>by
  rw[qy,show gp (false,p) acc x=(acc+x)%p from rfl,Vk hp l _ (t7 _ hp),yj]
  show((acc+x)%p+l.sum)%p=_
  rw[yi,Fl]
theorem Vl(p:Nat):∀xs ys:List Nat,(dZ (gm (false,p)) xs ys).sum%p=(dZ (· * ·) xs ys).sum%p
 | [],_=>by simp
 | _::_,[]=>by simp
 | x::xs,y::ys=>by
  simp only[Rp,yj]
  show(x*y%p+_)%p=_
  rw[yi,Nat.add_mod,Vl p xs ys,<- Nat.add_mod]
theorem CM:∀xs ys:List Nat,(dZ (· * ·) (xs.map λ(n:Nat)=>(n:Int)) (ys.map λ(n:Nat)=>(n:Int))).sum=(((dZ (· * ·) xs ys).sum:Nat):Int)
 | [],_=>by simp
 | _::_,[]=>by simp
 | x::xs,y::ys=>by
  simp only[dP,Rp,yj]
  rw[CM xs ys,qG,yk]
theorem ju(m:Bool × Nat)(a b:Nat):gp m a b=gp m b a:=by
 unfold gp
 split
 ·rw[Q5]
 ·rw[Ba]
theorem pY(m:Bool × Nat)(a b c:Nat):gp m (gp m a b) c=gp m a (gp m b c):=by
 unfold gp
 split
 ·rw[qB]
 ·rw[yi,Nat.add_mod_mod,Fl]
theorem sX{m:Bool × Nat}(h:0<m.2)(a b c:Nat):gm m (gp m a b) c=gp m (gm m a c) (gm m b c):=by
 unfold gm gp
 split
 ·rw[oE,CD (by omega)]
 ·rw[yg,Rn,<- yg,Nat.add_mul,yi,Nat.add_mod_mod]
theorem sY{m:Bool × Nat}(h:0<m.2)(a b c:Nat):gm m c (gp m a b)=gp m (gm m c a) (gm m c b):=by rw[fu,sX h,fu m a,fu m b]
theorem cv3:∀m∈aw,m.1=true->2<=bl m.2:=by decide +kernel
theorem nE{m:Bool × Nat}(hm:m∈aw){a b:Nat}(ha:a<aa m)(hb:b<aa m):gp m a b<aa m:=by
 have h0:=bB m hm
 obtain⟨k,n⟩:=m
 cases k with
 | true=>exact uw ha hb
 | false=>exact t7 _ h0
theorem cw{m:Bool × Nat}(hm:m∈aw)(a b:Nat):gm m a b<aa m:=by
 have h0:=bB m hm
 obtain⟨k,n⟩:=m
 cases k with
 | true =>
  have h2:=cv3 (true,n) hm rfl
  have:=(yY (show n≠0 by have:0<n:=h0;omega) (cl a b)).2
  refine(U9 rfl).mpr ?_
  show bl (md (cl a b) n)<=bl n-1
  omega
 | false=>exact t7 _ h0
theorem gy{m:Bool × Nat}{a:Nat}(ha:a<aa m):gp m 0 a=a:=by
 obtain⟨k,n⟩:=m
 cases k with
 | true=>exact oa a
 | false=>show(0+a)%n=a;rw[Bj];exact yh ha
theorem mj{m:Bool × Nat}{a:Nat}(ha:a<aa m):gp m a 0=a:=by rw[ju];exact gy ha
theorem cY0{m:Bool × Nat}(hm:m∈aw){a b:Nat}(ha:a<aa m)(hb:b<aa m):∃r:Nat,gl m a b=r/\r<aa m/\gp m r b=a:=by
 have h0:=bB m hm
 obtain⟨k,n⟩:=m
 cases k with
 | true=>exact⟨a ^^^ b,rfl,uw ha hb,by show a ^^^ b ^^^ b=a;rw[qB,Be,kW]⟩
 | false =>
  have h0:0<n:=h0
  have ha:a<n:=ha
  have hb:b<n:=hb
  refine⟨(a+(n-b))%n,?_,t7 _ h0,?_⟩
  ·show((a:Int)-b)%n=_
   rw[mJ,qG,Int.natCast_sub (by omega),show((a:Int)+((n:Int)-b))=((a:Int)-b)+n by omega,Int.add_emod_right]
  ·show((a+(n-b))%n+b)%n=a
   rw[yi,show a+(n-b)+b=a+n by omega,Nat.add_mod_right,yh ha]
noncomputable def eS(m:Bool × Nat)(n:Int):Nat:=(pw m (n%((aa m:Int)-1)).toNat).toNat
theorem jR{m:Bool × Nat}(hm:m∈aw)(n:Int):1<=eS m n/\eS m n<aa m/\lg m (eS m n)=n%((aa m:Int)-1)/\pw m (n%((aa m:Int)-1)).toNat=eS m n:=by
 have cZ:=(bO hm).lo
 have n0:=gR n (show(aa m:Int)-1≠0 by omega)
 have n1:=jC n (show(0:Int)<(aa m:Int)-1 by omega)
 obtain⟨p1,p2,p3⟩:=CF hm (k:=(n%((aa m:Int)-1)).toNat) (by omega)
 unfold eS
 rw[p3]
 omega
theorem i7{m:Bool × Nat}(hm:m∈aw)(n:Int):eS m n<aa m:=(jR hm n).2.1
theorem pZ{m:Bool × Nat}(hm:m∈aw)(a b:Int):gm m (eS m a) (eS m b)=eS m (a+b):=by
 obtain⟨a1,a2,a3,_⟩:=jR hm a
 obtain⟨b1,b2,b3,_⟩:=jR hm b
 have e:=HM hm a1 a2 b1 b2
 rw[a3,b3,<- Int.add_emod]at e
 have c:=(jR hm (a+b)).2.2.2
 rw[c]at e
 omega
theorem CN{m:Bool × Nat}(hm:m∈aw):eS m 0=1:=by
 unfold eS
 rw[Rq,show(0:Int).toNat=0 from rfl,Vc m hm];rfl
theorem Vm{m:Bool × Nat}(hm:m∈aw){a:Nat}(h1:1<=a)(h2:a<aa m):eS m (lg m a)=a:=by
 obtain⟨g0,g1,g2⟩:=CG hm h1 h2
 unfold eS
 rw[Bi g0 g1,g2];rfl
theorem HP{m:Bool × Nat}(hm:m∈aw)(n:Int):(fl m)[(n%((aa m:Int)-1)).toNat]?=some ((eS m n:Nat):Int):=by
 have hF:=bO hm
 have cZ:=hF.lo
 have n0:=gR n (show(aa m:Int)-1≠0 by omega)
 have n1:=jC n (show(0:Int)<(aa m:Int)-1 by omega)
 have hk:(n%((aa m:Int)-1)).toNat<(fl m).length:=by have:=hF.len;omega
 rw[<-(jR hm n).2.2.2]
 unfold pw
 rw[aL,aJ hk];rfl
theorem c01{m:Bool × Nat}(hm:m∈aw){a b:Nat}(a1:1<=a)(a2:a<aa m)(b1:1<=b)(b2:b<aa m):gm m a b≠0:=by
 rw[<-Vm hm a1 a2,<- Vm hm b1 b2,pZ hm]
 have:=(jR hm (lg m a+lg m b)).1
 omega
noncomputable def aG(m:Bool × Nat)(x:Nat):List Nat->Nat
 | []=>0
 | a::l=>gp m (gm m (aG m x l) x) a
theorem jv{m:Bool × Nat}(hm:m∈aw)(x:Nat):∀{l:List Nat},(∀a∈l,a<aa m)->aG m x l<aa m
 | [],_=>by have:=(bO hm).lo;show 0<_;omega
 | a::l,h=>nE hm (cw hm _ _) (h a (by simp))
end L3
namespace L2
open PySem PySem.Spec PyProof.Rows
noncomputable def HQ(K:PySem.W.Frag)(a:Addr)(n:Nat):It :=
 ⟨λi H=>i<n/\∃xs x,bK K H a xs/\xs[n-1-i]?=some x,λi H x H'=>H'=H/\∀xs,bK K H a xs->xs[n-1-i]?=some x,λi _=>n<=i⟩
theorem cn2{P:Program}{w:World}{K:PySem.W.Frag}{tg:Expr}(a it:Addr)(n:Nat):Turn P w K tg (HQ K a n) [it] it (λi h=>i<=n/\h.IsRevIter it a ((n:Int)-1-(i:Int))) where
 mem:=by simp
 obj:=λi h st b hb=>by
  have e:b=it:=by simpa using hb
  subst e
  obtain⟨_,o,e,c,d⟩:=st
  exact⟨o,e,λv z=>by rw[d]at z;cases z⟩
 keep:=λi h h' st k=>⟨st.1,st.2.at λo e=>k it (by simp) o e⟩
 item:=by
  intro X hP hw hK hc i pins s σ H E I hf st hg
  subst hP hw hK
  obtain⟨hi,xs,x,hq,hx⟩:=hg
  obtain⟨its,rv,p,hz⟩:=I.list hq
  obtain⟨u,hu,ru⟩:=rv.get hx
  obtain⟨f0,f1,f2,f3,f4,f5⟩:=hf it (by simp)
  obtain⟨hle,st⟩:=st
  have e0:(n:Int)-1-(i:Int)=((n-1-i:Nat):Int):=by omega
  rw[e0]at st
  refine wpAny_pyNext_rev_item st p.isList (x:=u) (by simpa using hu) λh' jJ sb=>?_
  have e1:((n-1-i:Nat):Int)-1=(n:Int)-1-((i+1:Nat):Int):=by omega
  rw[e1]at jJ
  have I1:Inv X pins σ H { s with heap:=h' }:=I.turned (t':=s.toks) (λb o hb e=>(sb.2 b hb).trans e) f0 f1 f3 f4 f5
  obtain⟨o,e,c,d⟩:=id jJ
  exact⟨u,rfl,FL (s:={ s with heap:=h' }) e c d (by decide) ⟨x,H,I1,ru,⟨rfl,λys hy=>by rw[I.yF hy hq];exact hx⟩,⟨hi,jJ⟩,λb hb=>(hf b hb).1⟩⟩
 done:=by
  intro X hP hw hK hc i pins s σ H E I hf st hg
  subst hP hw hK
  obtain⟨f0,f1,f2,f3,f4,f5⟩:=hf it (by simp)
  obtain⟨hle,st⟩:=st
  have hg:n<=i:=hg
  have e0:(n:Int)-1-(i:Int)=-1:=by omega
  rw[e0]at st
  exact wpAny_pyNext_rev_end (I.ok.hd hc) st λh' eb=>⟨rfl,I.turned (t':=s.toks) (λb o hb e=>eb b o hb e) f0 f1 f3 f4 f5⟩
 self:=λ_ _ _ _ _ st h=>wpAny_pyIter_revIter st.2 h
section
variable{X:Cx}{a:Expr}{ta:TA}{p pos:Pos}{tg:Expr}
noncomputable def da6(K:PySem.W.Frag)(ta:TA):TI:=λσ H R=>ta σ H λvs H1=>∃a xs,vs=[.ref a]/\bK K H1 a xs/\R (HQ K a xs.length) H1
theorem bH9:bootBuiltins "reversed"=some (.type "reversed"):=by decide +kernel
theorem cR9(hg:Gl X "reversed")(hm:X.mg "reversed"=none)(ha:PA X [a] ta)(hs:starEach [a] X.env=[(false,eval a X.env)]:=by rfl) :
  PI X tg (.Call (.Name "reversed" p) [a] [] pos) (da6 X.K ta):=by
 intro pins s σ H R I h
 refine Call_ (ow I hg hm bH9 (xW (aP (ha pos pins s σ H _ I h) λus s1 ⟨vs,H1,I1,r1,q1⟩=>?_) hs rfl))
 obtain⟨a,xs,e,hx,q⟩:=q1
 subst e
 cases r1 with
 | cons r rr =>
  cases rr
  cases r
  obtain⟨as,ra,pa,_⟩:=I1.list hx
  have hl:=ra.length
  have hit:(s1.heap.push (revObj a ((as.toArray.size:Int)-1))).IsRevIter s1.heap.objs.size a ((xs.length:Int)-1-((0:Nat):Int)):=by
   refine⟨_,gk _ rfl,rfl,?_⟩
   rw[show(xs.length:Int)-1-((0:Nat):Int)=(as.toArray.size:Int)-1 by simp;omega];rfl
  refine call_reversed_list pa.isList ?_
  refine wpAny_pyIter_revIter hit ?_
  refine⟨s1.heap.objs.size,[s1.heap.objs.size],_,_,H1,rfl,I1.kept (t':=s1.toks) λb o e=>ff _ e,cn2 a _ xs.length,⟨kT _,hit⟩,λb hb=>?_,q⟩
  have e:b=s1.heap.objs.size:=by simpa using hb
  subst e
  exact I1.yG (bI _) (I1.aH.fresh (bI _))
end
end L2
namespace L3
open PySem L2 PySem.Spec PyProof.Rows
section
variable{F H:Hp}{K:PySem.W.Frag}{p:Addr}{ws:List V}{xs:List D}
theorem Vn(hp:Rd F p (.lst ws))(r:R F H xs ws [])(hF:Full F H):JD (HQ K p ws.length) F xs.reverse where
 go:=λi H' hs hi=>by
  rw[Bk]at hi
  have l1:=r.length
  exact⟨by omega,ws,_,.inl (fR hp hs),aJ (show ws.length-1-i<ws.length by omega)⟩
 jf:=λi H' v H2 hs hi zz=>by
  obtain⟨e,hx⟩:=zz
  subst e
  have mf:=hi
  rw[Bk]at mf
  have l1:=r.length
  have h1:=Ci (r.full hF hs rfl) (show xs.length-1-i<xs.length by omega) (x:=v) (by rw[l1];exact hx ws (.inl (fR hp hs)))
  refine⟨_,?_,ag.refl _,h1⟩
  rw[dj5 mf,aJ]
 stop:=λi H' hs hi=>by
  rw[Bk]at hi
  have l1:=r.length
  show ws.length<=i
  omega
end
section
variable{X:Cx}{a:Expr}{ta:cL}{p pos:Pos}{tg:Expr}
noncomputable def sZ(t:cL):iy:=λδ Q=>t δ λds ai=>match ds with
 | [d1]=>∃xs,iA d1=some xs/\Q d1.pl xs.reverse ai
 | _=>False
theorem b74(hg:Gl X "reversed")(hm:X.mg "reversed"=none)(ha:PA X [a] (lA ta))(hs:starEach [a] X.env=[(false,eval a X.env)]:=by rfl) :
  PI X tg (.Call (.Name "reversed" p) [a] [] pos) (lI (sZ ta)) :=
 oV (cR9 hg hm ha hs) λσ H Q ⟨B,F,δ,ts,Qd,c,q,k⟩=>⟨B,F,δ,ts,_,c,q,λds aq vs F1 H1 hd f1 h1 c1 s=>by
  match ds,hd,s with
  | [d1],⟨xs,i1,hq⟩,s =>
   obtain⟨v1,cE,rfl,s1,s2⟩:=s.cR
   cases s2
   have e2:=c1.ext
   have sn:=m5 e2
   obtain⟨p1,w1,rfl,r1,t1,u1⟩:=vn s1 e2 i1
   refine⟨p1,w1,rfl,.inl r1,k _ _ aq _ _ H1 hq (f1.trans sn) h1 c1.snap ?_ λz=>?_⟩
   ·rw[List.map_reverse]
    exact Vn r1 t1 (Full.refl _)
   ·obtain⟨a1,a2,a3⟩:=u1 z
    exact⟨by rw[List.all_reverse];exact a1,Vn (fR a2 sn) (a3.shared sn (ag.refl _)) oH⟩⟩
end
end L3
namespace L3
open PySem L2 Mf
noncomputable def fH(l:List Nat):List Nat:=(l.reverse.dropWhile (·==0)).reverse
theorem HR{l:List Nat}{k:Nat}(hk:k<=l.length)(hz:∀x∈l.drop k,x=0)(hn:k=0\/l.getD (k-1) 0≠0):fH l=l.take k:=by
 unfold fH
 conv=>lhs;rw[<-List.take_append_drop k l]
 rw[dj6,List.dropWhile_append_of_pos (λa ha=>by simp[hz a (List.mem_reverse.mp ha)])]
 rcases hn with rfl | hn
 ·simp
 ·by_cases h0:k=0
  ·subst h0;simp
  ·have e:l.take k=l.take (k-1)++[l.getD (k-1) 0]:=by
    conv=>lhs;rw[show k=k-1+1 by omega]
    rw[mI,aL,aJ (by omega)];rfl
   rw[e,dj6]
   generalize l.getD (k-1) 0=v at hn
   simp[List.dropWhile_cons,hn]
theorem zO(l:List Nat):∃k,k<=l.length/\(∀x∈l.drop k,x=0)/\(k=0\/l.getD (k-1) 0≠0)/\fH l=l.take k:=by
 have:∀n,n<=l.length->(∀x∈l.drop n,x=0)->∃k,k<=l.length/\(∀x∈l.drop k,x=0)/\(k=0\/l.getD (k-1) 0≠0):=by
  intro n
  induction n with
  | zero=>exact λh1 h2=>⟨0,h1,h2,.inl rfl⟩
  | succ n ih =>
   intro h1 h2
   by_cases h:l.getD n 0=0
   ·refine ih (by omega) λx hx=>?_
    rw[Rt (by omega)]at hx
    rcases bX.mp hx with hx | hx
    ·rw[hx]
     rw[aL,aJ (by omega)]at h
     exact h
    ·exact h2 x hx
   ·exact⟨n+1,h1,h2,.inr h⟩
 obtain⟨k,h1,h2,h3⟩:=this l.length (bI _) (by simp)
 exact⟨k,h1,h2,h3,HR h1 h2 h3⟩
theorem Vo{l:List Nat}{x:Nat}(h:x∈fH l):x∈l:=by
 obtain⟨k,_,_,_,e⟩:=zO l
 rw[e]at h
 exact ya h
theorem cu7(l:List Nat):(fH l).length<=l.length:=by
 obtain⟨k,_,_,_,e⟩:=zO l
 rw[e,jz];omega
theorem HS(l:List Nat):(fH l).length=0\/(fH l).getD ((fH l).length-1) 0≠0:=by
 obtain⟨k,h1,_,h3,e⟩:=zO l
 rw[e,jz,yb h1]
 rcases h3 with h3 | h3
 ·exact .inl h3
 ·by_cases h0:k=0
  ·exact .inl h0
  ·right
   rw[aL]at h3 ⊢
   rw[Bh,if_pos (by omega)]
   exact h3
theorem CO{m:Bool × Nat}(hm:m∈aw)(x:Nat):∀{l:List Nat},(∀a∈l,a=0)->aG m x l=0
 | [],_=>rfl
 | a::l,h=>by
  have cZ:=(bO hm).lo
  show gp m (gm m (aG m x l) x) a=0
  rw[CO hm x λa ha=>h a (by simp[ha]),h a (by simp),dM _ _ (bB m hm),gy (by omega)]
theorem Vp{m:Bool × Nat}(hm:m∈aw)(x:Nat):∀(l:List Nat) (k:Nat),(∀a∈l.drop k,a=0)->aG m x (l.take k)=aG m x l
 | [],k,_=>by rw[List.take_nil]
 | a::l,0,h=>by rw[List.take_zero];exact(CO hm x h).symm
 | a::l,k+1,h=>by
  rw[List.take_succ_cons]
  show gp m (gm m (aG m x (l.take k)) x) a=gp m (gm m (aG m x l) x) a
  rw[Vp hm x l k h]
theorem cs7{m:Bool × Nat}(hm:m∈aw)(x:Nat)(l:List Nat):aG m x (fH l)=aG m x l:=by
 obtain⟨k,_,h2,_,e⟩:=zO l
 rw[e];exact Vp hm x l k h2
noncomputable def px(m:Bool × Nat)(x:Nat):Nat->Nat
 | 0=>1
 | k+1=>gm m (px m x k) x
noncomputable def jw(m:Bool × Nat)(t:List Nat)(k v:Nat):List Nat:=t.set k (gp m (t.getD k 0) v)
noncomputable def eT(m:Bool × Nat)(x:Nat):List Nat->Nat->List Nat->List Nat
 | t,_,[]=>t
 | t,i,y::b=>eT m x (jw m t i (gm m x y)) (i+1) b
noncomputable def gz(m:Bool × Nat)(b:List Nat):List Nat->Nat->List Nat->List Nat
 | t,_,[]=>t
 | t,i,x::a=>gz m b (eT m x t i b) (i+1) a
noncomputable def by4(m:Bool × Nat)(a b:List Nat):List Nat:=gz m b (aV (a.length+b.length) 0) 0 a
noncomputable def fI(m:Bool × Nat)(a b:List Nat):List Nat:=fH (by4 m a b)
theorem Vq(m:Bool × Nat)(x:Nat):∀(b c t:List Nat) (i:Nat),eT m x t i (b++c)=eT m x (eT m x t i b) (i+b.length) c
 | [],c,t,i=>rfl
 | y::b,c,t,i=>by
  show eT m x (jw m t i (gm m x y)) (i+1) (b++c)=_
  rw[Vq m x b c,dO,show i+1+b.length=i+(b.length+1) by omega];rfl
theorem Vr(m:Bool × Nat)(x:Nat)(b t:List Nat)(i:Nat){j:Nat}(hj:j<b.length):eT m x t i (b.take (j+1))=jw m (eT m x t i (b.take j)) (i+j) (gm m x b[j]):=by
 rw[mI,aJ hj,Vq,jz,yb (by omega)];rfl
theorem Vs(m:Bool × Nat)(b:List Nat):∀(a c t:List Nat) (i:Nat),gz m b t i (a++c)=gz m b (gz m b t i a) (i+a.length) c
 | [],c,t,i=>rfl
 | y::a,c,t,i=>by
  show gz m b (eT m y t i b) (i+1) (a++c)=_
  rw[Vs m b a c,dO,show i+1+a.length=i+(a.length+1) by omega];rfl
theorem Vt(m:Bool × Nat)(b a t:List Nat)(i:Nat){j:Nat}(hj:j<a.length):gz m b t i (a.take (j+1))=eT m a[j] (gz m b t i (a.take j)) (i+j) b:=by
 rw[mI,aJ hj,Vs,jz,yb (by omega)];rfl
theorem HU(m:Bool × Nat)(t:List Nat)(k v:Nat):(jw m t k v).length=t.length:=by unfold jw;rw[mB]
theorem vB(m:Bool × Nat)(x:Nat):∀(b t:List Nat) (i:Nat),(eT m x t i b).length=t.length
 | [],t,i=>rfl
 | y::b,t,i=>(vB m x b _ _).trans (HU m t i _)
theorem CP(m:Bool × Nat)(b:List Nat):∀(a t:List Nat) (i:Nat),(gz m b t i a).length=t.length
 | [],t,i=>rfl
 | y::a,t,i=>(CP m b a _ _).trans (vB m y b t i)
noncomputable def AllLt(n:Nat)(l:List Nat):Prop:=∀a∈l,a<n
theorem AllLt.getD{n:Nat}{l:List Nat}(h:AllLt n l)(h0:0<n)(k:Nat):l.getD k 0<n:=by
 rw[aL]
 cases e:l[k]? with
 | none=>exact h0
 | some v=>exact h v (xZ e)
theorem HV{m:Bool × Nat}(hm:m∈aw){t:List Nat}(ht:AllLt (aa m) t){k v:Nat}(hv:v<aa m):AllLt (aa m) (jw m t k v):=λa ha=>by
 unfold jw at ha
 have cZ:=(bO hm).lo
 rcases yf ha with h | h
 ·exact ht a h
 ·rw[h];exact nE hm (ht.getD (by omega) k) hv
theorem vC{m:Bool × Nat}(hm:m∈aw)(x:Nat):∀(b t:List Nat) (i:Nat),AllLt (aa m) t->AllLt (aa m) (eT m x t i b)
 | [],t,i,h=>h
 | y::b,t,i,h=>vC hm x b _ _ (HV hm h (cw hm _ _))
theorem CQ{m:Bool × Nat}(hm:m∈aw)(b:List Nat):∀(a t:List Nat) (i:Nat),AllLt (aa m) t->AllLt (aa m) (gz m b t i a)
 | [],t,i,h=>h
 | y::a,t,i,h=>CQ hm b a _ _ (vC hm y b t i h)
theorem vD{m:Bool × Nat}(hm:m∈aw)(n:Nat):AllLt (aa m) (aV n 0):=λa ha=>by
 have cZ:=(bO hm).lo
 rw[(x8.mp ha).2];omega
theorem cr1{m:Bool × Nat}(hm:m∈aw)(a b:List Nat):AllLt (aa m) (by4 m a b):=CQ hm b a _ 0 (vD hm _)
theorem HW(m:Bool × Nat)(a b:List Nat):(by4 m a b).length=a.length+b.length:=by unfold by4;rw[CP,ib]
theorem CS{m:Bool × Nat}(hm:m∈aw)(a b:List Nat):AllLt (aa m) (fI m a b):=λx hx=>cr1 hm a b x (Vo hx)
theorem cv2(m:Bool × Nat)(a b:List Nat):(fI m a b).length<=a.length+b.length:=eM (cu7 _) (A6 (HW m a b))
theorem Vu{m:Bool × Nat}(hm:m∈aw)(X:Nat){v:Nat}(hv:v<aa m):∀(t:List Nat) (k:Nat),k<t.length->aG m X (jw m t k v)=gp m (aG m X t) (gm m v (px m X k))
 | [],k,h=>by simp at h
 | a::t,0,_=>by
  show gp m (gm m (aG m X t) X) (gp m a v)=gp m (gp m (gm m (aG m X t) X) a) (gm m v 1)
  rw[nD hv,pY]
 | a::t,k+1,h=>by
  have ih:=Vu hm X hv t k (by simpa using h)
  have h0:=bB m hm
  show gp m (gm m (aG m X (jw m t k v)) X) a=gp m (gp m (gm m (aG m X t) X) a) (gm m v (gm m (px m X k) X))
  rw[ih,sX h0,fG h0,pY,pY,ju m _ a]
theorem Vv{m:Bool × Nat}(hm:m∈aw)(X x:Nat):∀(b t:List Nat) (i:Nat),AllLt (aa m) t->i+b.length<=t.length->aG m X (eT m x t i b)=gp m (aG m X t) (gm m (gm m x (px m X i)) (aG m X b))
 | [],t,i,ht,_=>by
  show aG m X t=gp m (aG m X t) (gm m (gm m x (px m X i)) 0)
  rw[gx _ _ (bB m hm),mj (jv hm X ht)]
 | y::b,t,i,ht,hl=>by
  have h0:=bB m hm
  rw[dO]at hl
  show aG m X (eT m x (jw m t i (gm m x y)) (i+1) b)=gp m (aG m X t) (gm m (gm m x (px m X i)) (gp m (gm m (aG m X b) X) y))
  rw[Vv hm X x b _ _ (HV hm ht (cw hm _ _)) (by rw[HU];omega),Vu hm X (cw hm _ _) t i (by omega),pY]
  congr 1
  rw[sY h0,ju]
  congr 1
  ·show gm m (gm m x (gm m (px m X i) X)) (aG m X b)=_
   rw[<-fG h0 x,fG h0 _ X,fu m X]
  ·rw[fG h0,fG h0,fu m y]
theorem Vw{m:Bool × Nat}(hm:m∈aw)(X:Nat)(b:List Nat):∀(a t:List Nat) (i:Nat),AllLt (aa m) t->i+a.length+b.length<=t.length->aG m X (gz m b t i a)=gp m (aG m X t) (gm m (gm m (aG m X a) (px m X i)) (aG m X b))
 | [],t,i,ht,_=>by
  have h0:=bB m hm
  show aG m X t=gp m (aG m X t) (gm m (gm m 0 (px m X i)) (aG m X b))
  rw[dM _ _ h0,dM _ _ h0,mj (jv hm X ht)]
 | x::a,t,i,ht,hl=>by
  have h0:=bB m hm
  rw[dO]at hl
  show aG m X (gz m b (eT m x t i b) (i+1) a)=gp m (aG m X t) (gm m (gm m (gp m (gm m (aG m X a) X) x) (px m X i)) (aG m X b))
  rw[Vw hm X b a _ _ (vC hm x b t i ht) (by rw[vB];omega),Vv hm X x b t i ht (by omega),pY]
  congr 1
  rw[sX h0,sX h0,ju]
  congr 1
  show gm m (gm m (aG m X a) (gm m (px m X i) X)) (aG m X b)=_
  rw[fu m (px m X i) X,<- fG h0 (aG m X a)]
theorem HX{m:Bool × Nat}(hm:m∈aw)(X:Nat)(a b:List Nat)(ha:AllLt (aa m) a)(hb:AllLt (aa m) b):aG m X (fI m a b)=gm m (aG m X a) (aG m X b):=by
 unfold fI
 rw[cs7 hm]
 unfold by4
 rw[Vw hm X b a _ 0 (vD hm _) (by rw[ib];omega),CO hm X (λx hx=>(x8.mp hx).2)]
 show gp m 0 (gm m (gm m (aG m X a) 1) (aG m X b))=_
 rw[nD (jv hm X ha),gy (cw hm _ _)]
end L3
namespace L3
open PySem L2 PySem.Spec PyProof.Rows
theorem cc8(n:Nat)(l:List Nat):(aj l).all (dG n)=true:=by
 rw[cG,kX,cU]
 intro a _
 exact pG n _
theorem Vx(n:Nat)(o:Bool)(l:List Nat):dG (n+1) (.lst o (aj l))=true:=cc8 n l
theorem zP(o o':Bool)(a b:List Nat):bH (.lst o (aj a)) (.lst o' (aj b))=decide (a=b):=by
 unfold aj
 rw[sH]
 congr 1
 apply propext
 constructor
 ·intro h
  have:=congrArg (Fp om) h
  have e:(om ∘ λ(n:Nat)=>(n:Int))=id:=by funext x;rfl
  rw[dh,dh,e,List.map_id,List.map_id]at this
  exact this
 ·intro h;rw[h]
theorem nF{l:List Nat}{k:Int}(h0:0<=k)(h:k.toNat<l.length):eB (aj l) k=some (.int ((l.getD k.toNat 0:Nat):Int)):=by
 refine kh h0 ?_
 rw[cG,cm,aJ h,aL,aJ h];rfl
theorem ck9{l:List Nat}(h:0<l.length):eB (aj l) (-1)=some (.int ((l.getD (l.length-1) 0:Nat):Int)):=by
 unfold aj
 rw[ca6 (by rw[bE];exact h),bE]
 congr 2
 rw[aL,aL,cm]
 cases l[l.length-1]?<;>rfl
theorem zQ{n:Nat}{k:Int}(h0:0<=k)(h:k.toNat<n):iu n k=some k.toNat:=by
 unfold iu
 rw[if_pos h0,if_pos (by omega)]
theorem vE{n:Nat}(k:Int)(h:k=n):(((aS k.toNat).map λ(k:Nat)=>D.int (0+(k:Int))).map D.sh)=(aS n).map λ(i:Nat)=>D.int (i:Int):=by
 subst h
 rw[oW,gD]
 simp
theorem bO3{n nn:Nat}{k:Int}(h:k=n)(hn:n<=1000000){δ:Dl}{Q:D->Dl->Prop}(q:Q (.lst true (aj (aV n 0))) δ):rF true ((aS k.toNat).map λ(k:Nat)=>D.int (0+(k:Int))) [] nn (gN 0) jP (dC (D.int 0)) δ Q:=by
 refine gw (aS n) (λ(i:Nat)=>D.int (i:Int)) (λ_=>D.int ((0:Nat):Int)) (vE _ h) jq (λk hk=>?_) (.inr λ_ _=>rfl) (by rw[eH,sL];omega) ?_
 ·exact rfl
 ·rw[show((aS n).map λ_=>D.int ((0:Nat):Int))=aj (aV n 0) by rw[cG,oo,List.map_const',eH]]
  exact q
theorem Vy{l:List Nat}{k:Nat}(h1:0<k)(hk:k<=l.length)(hz:∀x∈l.drop k,x=0)(h0:l.getD (k-1) 0=0):∀x∈l.drop (k-1),x=0:=by
 intro x hx
 rw[Rt (by omega)]at hx
 rcases bX.mp hx with hx | hx
 ·rw[hx]
  rw[aL,aJ (by omega)]at h0
  exact h0
 ·rw[show k-1+1=k by omega]at hx
  exact hz x hx
theorem CT(l:List Nat)(k v:Nat):(aj l).set k (.int (v:Nat))=aj (l.set k v):=by
 rw[cG,cG,Ru]
theorem HY(l:List Nat):(aj l).all D.fr=true:=pE _
theorem vF(o:Bool)(l:List Nat):(D.lst o (aj l)).sh=.lst false (aj l):=by rw[fh,nu]
theorem e8(l:List Nat):(D.lst true (aj l)).fr=true:=by rw[gh,HY];rfl
theorem cG5{xs:List D}{i:Nat}{d:D}(h:(fq xs)[i]?=some d):∃hi:i<xs.length,d=.tup [.int i,xs[i]]:=by
 have hi:i<(fq xs).length:=(iF.mp h).1
 rw[kI]at hi
 refine⟨hi,?_⟩
 unfold fq at h
 rw[yd,aJ hi]at h
 exact(cQ h).symm
theorem zR{l:List Nat}{i:Nat}{d:D}(h:(fq (aj l))[i]?=some d):∃hi:i<l.length,d=.tup [.int i,.int (l[i]:Nat)]:=by
 obtain⟨hi,e⟩:=cG5 h
 rw[dz]at hi
 refine⟨hi,?_⟩
 rw[e]
 simp only[cG,Rv]
theorem Vz{a:Int}{n i:Nat}{d:D}(h:((aS n).map λ(k:Nat)=>D.int (a+(k:Int)))[i]?=some d):i<n/\d=.int (a+i):=by
 have hi:i<n:=by
  have:=(iF.mp h).1
  simpa using this
 refine⟨hi,?_⟩
 rw[cm,jX hi]at h
 exact(cQ h).symm
section
variable{X:Cx}
noncomputable def vG:iC:=λds Q=>match ds with
 | [.int i]=>Q (.int (if i<0 then -i else i))
 | _=>False
noncomputable def p5:iC:=λds Q=>match ds with
 | [.int i]=>Q (.int i)
 | [.bl b]=>Q (.int (if b then 1 else 0))
 | _=>False
theorem cO3:fW X (.type "int") p5:=fW.of cf7 λvs H Q zz=>by
 obtain⟨B,F,σ,δ,ts,ds,Qd,c,s,q,k⟩:=zz
 unfold p5 at q
 split at q
 ·obtain⟨v,rfl,s1⟩:=jm s
  cases s1
  exact .inl ⟨_,rfl,k _ _ _ q (ag.refl _) (c.pushS (.int .nil) rfl)⟩
 ·obtain⟨v,rfl,s1⟩:=jm s
  cases s1
  exact .inr ⟨_,rfl,k _ _ _ q (ag.refl _) (c.pushS (.int .nil) rfl)⟩
 ·exact q.elim
end
end L3
namespace L3
open PySem L2 Mf
noncomputable def bg(m:Bool × Nat)(a b:Nat):Nat:=(gl m a b).toNat
theorem eK{m:Bool × Nat}(hm:m∈aw){a b:Nat}(ha:a<aa m)(hb:b<aa m):gl m a b=(bg m a b:Nat)/\bg m a b<aa m/\gp m (bg m a b) b=a:=by
 obtain⟨r,e,h1,h2⟩:=cY0 hm ha hb
 have:bg m a b=r:=by unfold bg;rw[e];rfl
 rw[this]
 exact⟨e,h1,h2⟩
noncomputable def nG(l:List Nat)(n:Nat):List Nat:=l++aV (n-l.length) 0
theorem vH{l:List Nat}{n:Nat}(h:l.length<=n):(nG l n).length=n:=by unfold nG;rw[eG,ib];omega
theorem zS{m:Bool × Nat}(hm:m∈aw){l:List Nat}(h:AllLt (aa m) l)(n:Nat):AllLt (aa m) (nG l n):=λa ha=>by
 rcases bW.mp ha with ha | ha
 ·exact h a ha
 ·exact vD hm _ a ha
noncomputable def kK(f:Nat->Nat->Nat)(a b:List Nat):List Nat:=dZ f (nG a (max a.length b.length)) (nG b (max a.length b.length))
theorem VA(f:Nat->Nat->Nat)(a b:List Nat):(kK f a b).length=max a.length b.length:=by
 unfold kK
 rw[jY,vH (Rw _ _),vH (Nat.le_max_right _ _),qD]
theorem CU{n:Nat}{f:Nat->Nat->Nat}:∀{a b:List Nat},(∀x∈a,∀y∈b,f x y<n)->AllLt n (dZ f a b)
 | [],_,_=>by intro x hx;simp at hx
 | _::_,[],_=>by intro x hx;simp at hx
 | x::a,y::b,h=>by
  intro z hz
  rw[Rp]at hz
  rcases bX.mp hz with rfl | hz
  ·exact h x (by simp) y (by simp)
  ·exact CU (λx hx y hy=>h x (by simp[hx]) y (by simp[hy])) z hz
theorem cC7{m:Bool × Nat}(hm:m∈aw){a b:List Nat}(ha:AllLt (aa m) a)(hb:AllLt (aa m) b):AllLt (aa m) (kK (bg m) a b):=CU λx hx y hy=>(eK hm (zS hm ha _ x hx) (zS hm hb _ y hy)).2.1
theorem b83(xs ys:List Nat):(dq (aj xs) (aj ys)).map D.sh=(xs.zip ys).map λz=>D.tup [.int (z.1:Int),.int (z.2:Int)]:=by
 unfold aj
 rw[Vf,List.zip_map,dh];rfl
theorem HZ{sh:Bool}{aD:List (Str × Nat)}{n i1 i2:Nat}{te:aQ}{aq:Dl}{Q:D->Dl->Prop}(f:Nat->Nat->Nat){A B:List Nat}(hx:∀x∈A,∀y∈B,jo i1 i2 (.tup [.int (x:Int),.int (y:Int)]) (fU aD n aq) λaU=>te aU λd _=>d=.int ((f x y:Nat):Int))
  (hl:A.length<=100000) (hq:Q (.lst true (aj (dZ f A B))) aq):rF sh (dq (aj A) (aj B)) aD n (jo i1 i2) jP te aq Q:=by
 refine CJ (A.zip B) (λz=>D.tup [.int (z.1:Int),.int (z.2:Int)]) (λz=>D.int ((f z.1 z.2:Nat):Int)) (b83 A B) (λa b h=>?_) (λz hz=>hx z.1 (qq hz).1 z.2 (qq hz).2) CK (.inr λ_ _=>rfl) (by rw[t8,sL];omega) ?_
 ·injection h with h
  simp at h
  exact Bl (by omega) (by omega)
 ·rw[show((A.zip B).map λz=>D.int ((f z.1 z.2:Nat):Int))=aj (dZ f A B) by rw[cG,jB,qE,qE]]
  exact hq
end L3
namespace L3
open PySem L2 PySem.Spec PyProof.Rows
theorem au.dY4{B:Bs}{F H:Hp}{σ:L2.St}{δ:Dl}{ps ts:List (D × V)}{p:Addr}{o:HO}{A1:List Addr}(c:au B F H σ δ (ps++ts))(hp:H p=none)(r:R F (upd H p o) (ps.map (·.1)) (ps.map (·.2)) A1):p ∉ A1:=λh=>by
 obtain⟨A,C,r0,_,_,_⟩:=c.own
 rw[jW,jW]at r0
 obtain⟨v1,v2,B1,B2,e,rfl,h1,h2⟩:=R.split r0
 have l1:(ps.map (·.2)).length=v1.length:=by rw[<-h1.length];simp
 obtain⟨rfl,rfl⟩:=Fj e l1
 have g1:=h1.grow (ag.refl F) (ag.upd (o:=o) hp) λa ha=>(h1.lists a ha).2
 have:A1=B1:=R.inj r g1
 subst this
 obtain⟨ws,e⟩:=(h1.lists p h).1
 rw[hp]at e;cases e
theorem au.join{B:Bs}{F H:Hp}{σ:L2.St}{δ:Dl}{ts:List (D × V)}{p p' r:Addr}{xs ys:List D}{ws fi:List V}(c:au B F H σ δ ((.lst true ys,.ref p')::(.lst true xs,.ref p)::ts))(e1:H p=some (.lst ws))(e2:H p'=some (.lst fi))(hr:H r=none) :
  au B F (upd H r (.lst (ws++fi))) σ δ ((.lst true (xs++ys),.ref r)::ts):=by
 refine au.pack (ps:=[(.lst true ys,.ref p'),(.lst true xs,.ref p)]) c (ag.upd hr) λA1 r1 nd=>?_
 have nin:=au.dY4 (ps:=[(.lst true ys,.ref p'),(.lst true xs,.ref p)]) (ts:=ts) c hr r1
 have n1:p≠r:=λz=>by rw[z,hr]at e1;cases e1
 have n2:p'≠r:=λz=>by rw[z,hr]at e2;cases e2
 have r1:R F (upd H r (.lst (ws++fi))) [.lst true ys,.lst true xs] [.ref p',.ref p] A1:=r1
 cases r1 with
 | @own _ wy _ Ay _ _ By hy fy ry rb =>
  cases rb with
  | @own _ wx _ Ax _ _ Bx hx fx rx rc =>
   cases rc
   rw[bj n2,e2]at hy;cases hy
   rw[bj n1,e1]at hx;cases hx
   refine⟨r::(Ax++Ay),by simpa using R.own cA (c.ext.free hr) (rx.append ry) .nil,?_,λa ha=>?_⟩
   ·refine iG.mpr ⟨λz=>nin ?_,?_⟩
    ·rcases bW.mp z with z | z<;>simp[z]
    ·have sl:(Ay++Ax).Sublist (p'::Ay++(p::Ax++[])):=by
      rw[n9]
      exact(((dj7 p Ax).append_left Ay).trans (dj7 p' _))
     exact oh.nodup_iff.mp (nd.sublist sl)
   ·simp only[bX,bW]at ha ⊢
    rcases ha with rfl | ha | ha
    ·exact .inr hr
    ·simp[ha]
    ·simp[ha]
section
variable{X:Cx}{a b:Expr}{ta tb:aQ}{pos:Pos}
noncomputable def s8(ta tb:aQ):aQ:=λδ Q=>ta δ λx aq=>tb aq λy aU=>∃xs ys,x=.lst true xs/\y=.lst true ys/\xs.length+ys.length<=sizeLine/\Q (.lst true (xs++ys)) aU
theorem cT8(ha:PE X a (lE ta))(hb:PE X b (lE tb)):PE X (.BinOp a .Add b pos) (lE (s8 ta tb)) :=
 dE (yM Sr ha hb) λσ H Q ⟨B,F,δ,ts,Qd,c,q,k⟩ =>
  ⟨B,F,δ,ts,_,c,q,λx aq v F1 H1 q1 f1 h1 c1=>⟨B,F1,aq,(x,v)::ts,_,c1,q1,λy aU w F2 H2 q2 f2 h2 c2=>by
   obtain⟨xs,ys,rfl,rfl,hz,hq⟩:=q2
   obtain⟨p',fi,rfl,e2,s2⟩:=iZ c2.top c2.ext
   obtain⟨p,ws,rfl,e1,s1⟩:=iZ c2.pop.top c2.ext
   refine⟨p,p',ws,fi,rfl,rfl,e1,e2,by rw[<-s1.length,<- s2.length];exact hz,λr hr=>?_⟩
   exact k _ aU _ F2 _ hq (f1.trans f2) ((h1.trans h2).trans (ag.upd hr)) (c2.join e1 e2 hr)⟩⟩
end
theorem VB{a b:List Nat}(h:aj a=aj b):a=b:=by
 have:=zP true true a b
 rw[h,show bH (D.lst true (aj b)) (D.lst true (aj b))=true from(zP _ _ _ _).trans (decide_eq_true rfl)]at this
 exact of_decide_eq_true this.symm
theorem VC{o:Bool}(a b:List Nat)(h:D.lst o (aj a)=D.lst o (aj b)):a=b:=VB (by injection h)
end L3
namespace L3
open PySem L2 Mf
theorem vI{m:Bool × Nat}(hm:m∈aw)(k:Int):∀n:Nat,px m (eS m k) n=eS m (k*n)
 | 0=>by
  show 1=eS m (k*((0:Nat):Int))
  rw[show k*((0:Nat):Int)=0 by omega,CN hm]
 | n+1=>by
  show gm m (px m (eS m k) n) (eS m k)=_
  rw[vI hm k n,pZ hm,qG,Int.mul_add]
  congr 1
  omega
end L3
namespace L2
open PySem PySem.Spec PyProof.Rows
end L2
namespace L3
open PySem L2 PySem.Spec PyProof.Rows Mf
noncomputable def jS(m:Bool × Nat)(row c:List Nat)(at_:Nat):Nat:=gd m c ((aS c.length).map λj=>row.getD (at_-j) 0)
theorem Ia{m:Bool × Nat}(hm:m∈aw)(xs ys:List Nat):gd m xs ys<aa m:=by
 have cZ:=(bO hm).lo
 unfold gd
 have:∀(l:List Nat) (a:Nat),a<aa m->AllLt (aa m) l->l.foldl (gp m) a<aa m:=by
  intro l
  induction l with
  | nil=>exact λa ha _=>ha
  | cons x l ih=>exact λa ha h=>ih _ (nE hm ha (h x (by simp))) λy hy=>h y (by simp[hy])
 exact this _ _ (by omega) (CU λx _ y _=>cw hm x y)
end L3
namespace L3
open PySem L2 Mf
noncomputable def cf(l:List Nat)(k:Nat):Nat:=l.getD k 0
theorem g8{l:List Nat}{k:Nat}(h:l.length<=k):cf l k=0:=by
 unfold cf;rw[aL,ja h];rfl
theorem bQ{m:Bool × Nat}(hm:m∈aw){l:List Nat}(h:AllLt (aa m) l)(k:Nat):cf l k<aa m:=h.getD (by have:=(bO hm).lo;omega) k
theorem VD(a:Nat)(l:List Nat)(k:Nat):cf (a::l) (k+1)=cf l k:=rfl
theorem cK4(l:List Nat)(n k:Nat):cf (l.take n) k=if k<n then cf l k else 0:=by
 unfold cf
 rw[aL,Bh]
 split
 ·rw[aL]
 ·rfl
theorem CV(l:List Nat)(k:Nat):cf (fH l) k=cf l k:=by
 obtain⟨n,h1,h2,_,e⟩:=zO l
 rw[e,cK4]
 split
 ·rfl
 ·rename_i h
  symm
  by_cases hk:k<l.length
  ·have hk2:k-n<(l.drop n).length:=by rw[tV];omega
   have:=h2 _ (dv hk2)
   rw[List.getElem_drop]at this
   unfold cf
   rw[aL,aJ hk]
   simp only[show n+(k-n)=k by omega]at this
   exact this
  ·exact g8 (by omega)
theorem cs6(m:Bool × Nat)(t:List Nat){j:Nat}(hj:j<t.length)(v k:Nat):cf (jw m t j v) k=if k=j then gp m (cf t j) v else cf t k:=by
 unfold cf jw
 rw[aL,List.getElem?_set]
 by_cases h:k=j
 ·subst h
  rw[if_pos rfl,if_pos hj,if_pos rfl];rfl
 ·rw[if_neg (fe h),if_neg h,aL]
theorem VE{m:Bool × Nat}(hm:m∈aw)(x:Nat):∀(b t:List Nat) (i k:Nat),AllLt (aa m) t->i+b.length<=t.length->cf (eT m x t i b) k=gp m (cf t k) (if k<i then 0 else gm m x (cf b (k-i)))
 | [],t,i,k,ht,_=>by
  have e:(if k<i then 0 else gm m x (cf [] (k-i)))=0:=by
   split
   ·rfl
   ·rw[g8 (kT _),gx _ _ (bB m hm)]
  rw[e,mj (bQ hm ht k)];rfl
 | y::b,t,i,k,ht,hl=>by
  rw[dO]at hl
  show cf (eT m x (jw m t i (gm m x y)) (i+1) b) k=_
  rw[VE hm x b _ (i+1) k (HV hm ht (cw hm _ _)) (by rw[HU];omega),cs6 m t (by omega)]
  by_cases h1:k=i
  ·subst h1
   rw[if_pos rfl,if_pos (by omega),if_neg (by omega),Bo,mj (nE hm (bQ hm ht _) (cw hm _ _))];rfl
  ·rw[if_neg h1]
   by_cases h2:k<i
   ·rw[if_pos (by omega),if_pos h2]
   ·rw[if_neg (by omega),if_neg h2,show k-i=(k-(i+1))+1 by omega,VD]
noncomputable def s9(m:Bool × Nat)(b:List Nat):List Nat->Nat->Nat
 | [],_=>0
 | x::q,k=>gp m (gm m x (cf b k)) (match k with | 0=>0 | k+1=>s9 m b q k)
theorem VF{m:Bool × Nat}(hm:m∈aw)(b:List Nat):∀(q:List Nat) (k:Nat),s9 m b q k<aa m
 | [],_=>by have:=(bO hm).lo;show 0<_;omega
 | x::q,0=>nE hm (cw hm _ _) (by have:=(bO hm).lo;show 0<_;omega)
 | x::q,k+1=>nE hm (cw hm _ _) (VF hm b q k)
theorem VG{m:Bool × Nat}(hm:m∈aw)(b:List Nat):∀(a t:List Nat) (i k:Nat),AllLt (aa m) t->i+a.length+b.length<=t.length->cf (gz m b t i a) k=gp m (cf t k) (if k<i then 0 else s9 m b a (k-i))
 | [],t,i,k,ht,_=>by
  have e:(if k<i then 0 else s9 m b [] (k-i))=0:=by split<;>rfl
  rw[e,mj (bQ hm ht k)];rfl
 | x::a,t,i,k,ht,hl=>by
  rw[dO]at hl
  have cZ:=(bO hm).lo
  show cf (gz m b (eT m x t i b) (i+1) a) k=_
  rw[VG hm b a _ (i+1) k (vC hm x b t i ht) (by rw[vB];omega),VE hm x b t i k ht (by omega),pY]
  congr 1
  by_cases h1:k<i
  ·rw[if_pos h1,if_pos (by omega),if_pos h1,gy (by omega)]
  ·rw[if_neg h1,if_neg h1]
   by_cases h2:k=i
   ·subst h2
    rw[if_pos (by omega),Bo];rfl
   ·rw[if_neg (by omega),show k-i=(k-(i+1))+1 by omega];rfl
theorem cO9(n k:Nat):cf (aV n 0) k=0:=by
 unfold cf
 rw[aL,tU]
 split<;>rfl
theorem Ib{m:Bool × Nat}(hm:m∈aw)(a b:List Nat)(k:Nat):cf (fI m a b) k=s9 m b a k:=by
 unfold fI
 rw[CV]
 unfold by4
 rw[VG hm b a _ 0 k (vD hm _) (by rw[ib];omega),cO9,if_neg (ym k),Ra,gy (VF hm b a k)]
theorem vJ(m:Bool × Nat)(x:Nat):bg m x x=0:=by
 obtain⟨k,n⟩:=m
 cases k with
 | true=>show(((x ^^^ x:Nat):Int)).toNat=0;rw[Be];rfl
 | false=>show(((x:Int)-(x:Int))%(n:Int)).toNat=0;rw[Int.sub_self,Rq];rfl
end L3
namespace L3
open PySem L2 PySem.Spec PyProof.Rows
section
variable{B:Bs}{F H:Hp}{σ:L2.St}{δ:Dl}{ts ps:List (D × V)}{i k:Nat}{p q:Addr}{l1 l2 ys Td:List D}{ws uK:List V}
end
section
variable{X:Cx}{F H:Hp}{e b:Expr}{pos p p2 p3 pr apos bY Ho:Pos}{t ti te:aQ}{x y:Str}{i j:Nat}
end
end L3
namespace L3
structure Rg(N:Nat)(p q:Nat->Nat->Nat):Prop where
 pc:∀a b,p a b=p b a
 pa:∀a b c,p (p a b) c=p a (p b c)
 mc:∀a b,q a b=q b a
 ma:∀{a b c},a<N->b<N->c<N->q (q a b) c=q a (q b c)
 dl:∀a b c,q a (p b c)=p (q a b) (q a c)
 z:∀{a},a<N->p 0 a=a
 qz:∀a,q a 0=0
 one:∀{a},a<N->q 1 a=a
 lp:∀{a b},a<N->b<N->p a b<N
 lq:∀a b,q a b<N
 ng:∀{a},a<N->∃b,b<N/\p a b=0
section
variable{N:Nat}{p q:Nat->Nat->Nat}
noncomputable def sm(p:Nat->Nat->Nat):Nat->(Nat->Nat)->Nat
 | 0,_=>0
 | n+1,f=>p (sm p n f) (f n)
theorem Rg.pos(r:Rg N p q):0<N:=mF (kT _) (r.lq 0 0)
theorem Rg.z'(r:Rg N p q){a:Nat}(h:a<N):p a 0=a:=by rw[r.pc];exact r.z h
theorem Rg.CW(r:Rg N p q){a b c:Nat}(ha:a<N)(hb:b<N)(hc:c<N)(h:p a c=p b c):a=b:=by
 obtain⟨d,_,e⟩:=r.ng hc
 have:=congrArg (λx=>p x d) h
 simp only[r.pa,e]at this
 rw[r.z' ha,r.z' hb]at this
 exact this
theorem Rg.cn(r:Rg N p q){a b:Nat}(ha:a<N)(hb:b<N)(h:p a b=b):a=0:=r.CW ha r.pos hb (by rw[h,r.z hb])
theorem dU{f g:Nat->Nat}:∀{n:Nat},(∀j,j<n->f j=g j)->sm p n f=sm p n g
 | 0,_=>rfl
 | n+1,h=>by rw[sm,sm,dU λj hj=>h j (by omega),h n (by omega)]
theorem kL(r:Rg N p q){f:Nat->Nat}:∀{n:Nat},(∀j,j<n->f j<N)->sm p n f<N
 | 0,_=>r.pos
 | n+1,h=>r.lp (kL r λj hj=>h j (by omega)) (h n (by omega))
theorem gJ(r:Rg N p q){f:Nat->Nat}:∀{n:Nat},(∀j,j<n->f j=0)->sm p n f=0
 | 0,_=>rfl
 | n+1,h=>by rw[sm,gJ r λj hj=>h j (by omega),h n (by omega)];exact r.z r.pos
theorem Rg.four(r:Rg N p q)(a b c d:Nat):p (p a b) (p c d)=p (p a c) (p b d):=by
 rw[r.pa,r.pa,<- r.pa b,<- r.pa c,r.pc b c]
theorem p7(r:Rg N p q)(f g:Nat->Nat):∀n,sm p n (λj=>p (f j) (g j))=p (sm p n f) (sm p n g)
 | 0=>(r.z r.pos).symm
 | n+1=>by rw[sm,p7 r f g n,sm,sm,r.four]
theorem mm(r:Rg N p q)(c:Nat)(f:Nat->Nat):∀n,sm p n (λj=>q c (f j))=q c (sm p n f)
 | 0=>(r.qz c).symm
 | n+1=>by rw[sm,mm r c f n,sm,r.dl]
theorem Ic(r:Rg N p q)(F:Nat->Nat->Nat)(k:Nat):∀n,sm p n (λi=>sm p k λj=>F i j)=sm p k λj=>sm p n λi=>F i j
 | 0=>(gJ r λ_ _=>rfl).symm
 | n+1=>by
  rw[sm,Ic r F k n,<- p7 r];rfl
theorem zT(r:Rg N p q){f:Nat->Nat}(n:Nat):∀k,(∀j,j<n+k->f j<N)->sm p (n+k) f=p (sm p n f) (sm p k λj=>f (n+j))
 | 0,h=>(r.z' (kL r λj hj=>h j (by omega))).symm
 | k+1,h=>by
  rw[<-Fl,sm,zT r n k λj hj=>h j (by omega),sm,r.pa]
theorem VH(r:Rg N p q){f:Nat->Nat}{n n':Nat}(hn:n<=n')(h:∀j,j<n'->f j<N)(hz:∀j,n<=j->j<n'->f j=0):sm p n' f=sm p n f:=by
 obtain⟨k,rfl⟩:=dj8 hn
 rw[zT r n k h,gJ r (f:=λj=>f (n+j)) λj hj=>hz _ (by omega) (by omega),r.z' (kL r λj hj=>h j (by omega))]
theorem CY(r:Rg N p q){f:Nat->Nat}(n:Nat)(h:∀j,j<n+1->f j<N):sm p (n+1) f=p (f 0) (sm p n λj=>f (j+1)):=by
 rw[Ba n 1,zT r 1 n λj hj=>h j (by omega)]
 show p (p 0 (f 0)) _=_
 rw[r.z (h 0 (by omega))]
 congr 1
 exact dU λj _=>by rw[Ba]
noncomputable def ds(p q:Nat->Nat->Nat)(s c:Nat->Nat)(n:Nat):Nat:=sm p (n+1) λj=>q (c j) (s (n-j))
theorem vK(r:Rg N p q)(s c:Nat->Nat)(n:Nat):ds p q s c n<N:=kL r λj _=>r.lq _ _
theorem VI(r:Rg N p q){s c:Nat->Nat}{L n:Nat}(h:L<=n)(hc:∀j,L<j->c j=0):ds p q s c n=sm p (L+1) λj=>q (c j) (s (n-j)) :=
 VH r (by omega) (λj _=>r.lq _ _) λj hj _=>by
  show q (c j) _=0
  rw[hc j (by omega),r.mc,r.qz]
theorem cW2(r:Rg N p q){s c c' b:Nat->Nat}{f:Nat}(hb:∀j,b j<N)(hs:∀j,s j<N)(hf:f<N)(h:∀j,p (c' j) (q f (b j))=c j)(n:Nat):p (ds p q s c' n) (q f (ds p q s b n))=ds p q s c n:=by
 unfold ds
 rw[<-mm r,<- p7 r]
 refine dU λj _=>?_
 rw[<-h j,r.mc (p (c' j) _),r.dl,r.mc (c' j),<- r.ma hf (hb j) (hs _),r.mc (q f (b j))]
noncomputable def fb(k:Nat)(b:Nat->Nat)(j:Nat):Nat:=if j<k then 0 else b (j-k)
theorem CZ(r:Rg N p q)(s b:Nat->Nat){k n:Nat}(h:k<=n):ds p q s (fb k b) n=ds p q s b (n-k):=by
 unfold ds
 obtain⟨d,rfl⟩:=dj8 h
 rw[show k+d+1=k+(d+1) by omega,zT r k (d+1) λj _=>r.lq _ _,gJ r (n:=k),r.z (kL r λj _=>r.lq _ _)]
 ·rw[Rx]
  refine dU λj _=>?_
  unfold fb
  rw[if_neg (by omega),Rx,show k+d-(k+j)=d-j by omega]
 ·intro j hj
  unfold fb
  rw[if_pos hj,r.mc,r.qz]
theorem cT5(r:Rg N p q){s c c1:Nat->Nat}{L L1 n:Nat}(hs:∀j,s j<N)(dJ:∀j,c j<N)(VJ:∀j,c1 j<N)(hc:∀j,L<j->c j=0)(vL:∀j,L1<j->c1 j=0)(h1:c1 0=1)(hn:L+L1<=n)
  (k:∀i,L<=i->i<n->ds p q s c i=0) (k1:∀i,L1<=i->i<n+1->ds p q s c1 i=0):ds p q s c n=0:=by
 have a:sm p (L+1) (λi=>sm p (L1+1) λj=>q (c i) (q (c1 j) (s (n-i-j))))=0:=by
  refine gJ r λi hi=>?_
  show sm p (L1+1) (λj=>q (c i) (q (c1 j) (s (n-i-j))))=0
  rw[mm r (c i),<- VI r (by omega) vL,k1 _ (by omega) (by omega),r.qz]
 rw[Ic r]at a
 have b:∀j,j<L1+1->sm p (L+1) (λi=>q (c i) (q (c1 j) (s (n-i-j))))=q (c1 j) (ds p q s c (n-j)):=λj hj=>by
  rw[VI r (show L<=n-j by omega) hc,<- mm r]
  refine dU λi _=>?_
  rw[show n-i-j=n-j-i by omega,<- r.ma (dJ i) (VJ j) (hs _),<- r.ma (VJ j) (dJ i) (hs _),r.mc (c i)]
 rw[dU b,CY r _ λj _=>r.lq _ _,h1,r.one (vK r _ _ _),gJ r,r.z' (vK r _ _ _)]at a
 ·exact a
 ·intro j hj
  rw[k (n-(j+1)) (by omega) (by omega),r.qz]
structure BI(N:Nat)(p q:Nat->Nat->Nat)(s:Nat->Nat)(n L:Nat)(c b:Nat->Nat)(o:Nat):Prop where
 c0:c 0=1
 cz:∀j,L<j->c j=0
 cl:∀j,c j<N
 ln:L<=n
 kp:∀i,L<=i->i<n->ds p q s c i=0
 mn:∀L1 c1,c1 0=1->(∀j,L1<j->c1 j=0)->(∀j,c1 j<N)->(∀i,L1<=i->i<n->ds p q s c1 i=0)->L<=L1
 b0:b 0=0
 bz:∀j,n+1-L<j->b j=0
 bl:∀j,b j<N
 bk:∀i,n+1-L<=i->i<n->ds p q s b i=0
 bo:n+1-L<=n->ds p q s b n=o
theorem C2(r:Rg N p q){b:Nat->Nat}(h:∀j,b j<N)(j:Nat):fb 1 b j<N:=by
 unfold fb
 split
 ·exact r.pos
 ·exact h _
theorem C3{b:Nat->Nat}{n:Nat}(h:∀j,n<j->b j=0)(j:Nat)(hj:n+1<j):fb 1 b j=0:=by
 unfold fb
 rw[if_neg (by omega)]
 exact h _ (by omega)
theorem BI.same(r:Rg N p q){s c b:Nat->Nat}{n L o:Nat}(I:BI N p q s n L c b o)(h:ds p q s c n=0):BI N p q s (n+1) L c (fb 1 b) o where
 c0:=I.c0
 cz:=I.cz
 cl:=I.cl
 ln:=by have:=I.ln;omega
 kp:=λi h1 h2=>by
  by_cases e:i=n
  ·rw[e];exact h
  ·exact I.kp i h1 (by omega)
 mn:=λL1 c1 h1 h2 h3 h4=>I.mn L1 c1 h1 h2 h3 λi a b=>h4 i a (by omega)
 b0:=rfl
 bz:=λj hj=>C3 I.bz j (by have:=I.ln;omega)
 bl:=C2 r I.bl
 bk:=λi h1 h2=>by
  have:=I.ln
  rw[CZ r s b (show 1<=i by omega)]
  exact I.bk _ (by omega) (by omega)
 bo:=λh1=>by
  rw[CZ r s b (by omega)]
  exact I.bo (by have:=I.ln;omega)
theorem BI.dZ3(r:Rg N p q){s c c' b:Nat->Nat}{n L o f:Nat}(I:BI N p q s n L c b o)(hs:∀j,s j<N)(hf:f<N)(hd:ds p q s c n≠0)(zU:q f o=ds p q s c n)(dJ:∀j,c' j<N)(h:∀j,p (c' j) (q f (b j))=c j) :
  BI N p q s (n+1) (max L (n+1-L)) c' (fb 1 (if 2*L<=n then c else b)) (if 2*L<=n then ds p q s c n else o):=by
 have ln:=I.ln
 have gK:=cW2 r I.bl hs hf h
 have Ie:∀{x:Nat},x<N->p x (q f 0)=x:=λ{x} hx=>by rw[r.qz];exact r.z' hx
 refine⟨?_,?_,dJ,by omega,?_,?_,rfl,?_,?_,?_,?_⟩
 ·have:=h 0
  rw[I.b0,Ie (dJ 0),I.c0]at this
  exact this
 ·intro j hj
  have:=h j
  rw[I.bz j (by omega),Ie (dJ j),I.cz j (by omega)]at this
  exact this
 ·intro i h1 h2
  have:=gK i
  by_cases e:i=n
  ·subst e
   rw[I.bo (by omega),zU]at this
   exact r.cn (vK r _ _ _) (vK r _ _ _) this
  ·rw[I.bk i (by omega) (by omega),Ie (vK r _ _ _),I.kp i (by omega) (by omega)]at this
   exact this
 ·intro L1 c1 h1 h2 h3 h4
  have a:=I.mn L1 c1 h1 h2 h3 λi a b=>h4 i a (by omega)
  have b:n+1-L<=L1:=by
   rcases qI L1 (n+1-L)with h5 | h5
   ·exact absurd (cT5 r hs I.cl h3 I.cz h2 h1 (by omega) I.kp h4) hd
   ·exact h5
  omega
 ·intro j hj
  by_cases h2:2*L<=n
  ·rw[if_pos h2]
   exact C3 I.cz j (by omega)
  ·rw[if_neg h2]
   exact C3 I.bz j (by omega)
 ·by_cases h2:2*L<=n
  ·rw[if_pos h2];exact C2 r I.cl
  ·rw[if_neg h2];exact C2 r I.bl
 ·intro i h1 h2
  rw[CZ r _ _ (show 1<=i by omega)]
  by_cases h3:2*L<=n
  ·rw[if_pos h3]
   exact I.kp _ (by omega) (by omega)
  ·rw[if_neg h3]
   exact I.bk _ (by omega) (by omega)
 ·intro h1
  rw[CZ r _ _ (by omega),Nat.add_sub_cancel]
  by_cases h3:2*L<=n
  ·rw[if_pos h3,if_pos h3]
  ·rw[if_neg h3,if_neg h3]
   exact I.bo (by omega)
end
end L3
namespace L3
section
variable{N:Nat}{p q:Nat->Nat->Nat}
theorem Rg.zq(r:Rg N p q)(a:Nat):q 0 a=0:=by rw[r.mc];exact r.qz a
theorem cp7(r:Rg N p q){s c:Nat->Nat}(h:∀j,c j=0)(n:Nat):ds p q s c n=0:=gJ r λj _=>by rw[h,r.zq]
end
end L3
namespace L3
open PySem L2 Mf
theorem rg{m:Bool × Nat}(hm:m∈aw):Rg (aa m) (gp m) (gm m) where
 pc:=ju m
 pa:=pY m
 mc:=fu m
 ma:=λ_ _ _=>fG (bB m hm) _ _ _
 dl:=λa b c=>sY (bB m hm) b c a
 z:=gy
 qz:=λa=>gx m a (bB m hm)
 one:=pW
 lp:=nE hm
 lq:=cw hm
 ng:=λ{a} ha=>by
  have g:=eK hm (a:=0) (b:=a) (by omega) ha
  exact⟨_,g.2.1,(ju m _ _).trans g.2.2⟩
theorem VL(p:Nat->Nat->Nat)(l:List Nat):l.foldl p 0=sm p l.length λj=>l.getD j 0:=by
 have key:∀n,n<=l.length->(l.take n).foldl p 0=sm p n λj=>l.getD j 0:=by
  intro n
  induction n with
  | zero=>intro _;rfl
  | succ n ih =>
   intro h
   rw[mI,aJ (by omega),Bp,ih (by omega),sm,aL,aJ (show n<l.length by omega)]
   rfl
 have:=key l.length (bI _)
 rw[og]at this
 exact this
theorem C4{m:Bool × Nat}(hm:m∈aw)(row c:List Nat){n:Nat}(h:c.length<=n+1):jS m row c n=ds (gp m) (gm m) (cf row) (cf c) n:=by
 have r:=rg hm
 unfold jS gd ds
 rw[VL,jY,bE,eH,qD,VH r h (λj _=>r.lq _ _)]
 ·refine dU λj hj=>?_
  rw[aL,mK,cm,jX hj,aJ hj]
  show gm m c[j] (row.getD (n-j) 0)=gm m (c.getD j 0) (row.getD (n-j) 0)
  rw[aL (l:=c),aJ hj];rfl
 ·intro j hj _
  show gm m (cf c j) _=0
  rw[g8 hj]
  exact dM m _ (bB m hm)
theorem Ig(l:List Nat)(n:Nat):cf (nG l n)=cf l:=by
 funext k
 unfold nG cf
 rw[aL,aL,dj9]
 by_cases h:k<l.length
 ·rw[if_pos h]
 ·rw[if_neg h,ja (show l.length<=k by omega),tU]
  split<;>rfl
theorem cD5{m:Bool × Nat}(hm:m∈aw){a b:List Nat}(ha:AllLt (aa m) a)(hb:AllLt (aa m) b)(k:Nat):gp m (cf (kK (bg m) a b) k) (cf b k)=cf a k:=by
 have g:=eK hm (bQ hm ha k) (bQ hm hb k)
 have e:cf (kK (bg m) a b) k=bg m (cf a k) (cf b k):=by
  by_cases h:k<max a.length b.length
  ·rw[<-Ig a (max a.length b.length),<- Ig b (max a.length b.length)]
   have la:=vH (Rw a.length b.length)
   have lb:=vH (Nat.le_max_right a.length b.length)
   unfold kK cf
   rw[aL,mK,aJ (by omega),aJ (by omega),aL,aJ (by omega),aL,aJ (by omega)]
   rfl
  ·rw[g8 (by rw[VA];omega),g8 (l:=a) (by omega),g8 (l:=b) (by omega)]
   exact(vJ m 0).symm
 rw[e]
 exact g.2.2
theorem cU2(b:List Nat)(k j:Nat):cf (aV k 0++b) j=fb k (cf b) j:=by
 unfold cf fb
 rw[aL,dj9,ib]
 by_cases h:j<k
 ·rw[if_pos h,if_pos h,tU,if_pos h];rfl
 ·rw[if_neg h,if_neg h,<- aL]
theorem VM{m:Bool × Nat}(hm:m∈aw)(f:Nat)(b:List Nat)(j:Nat):cf (b.map (gm m f)) j=gm m f (cf b j):=by
 unfold cf
 rw[aL,cm,aL]
 cases b[j]? with
 | none=>exact(gx m f (bB m hm)).symm
 | some x=>rfl
theorem VN(k:Nat)(b:Nat->Nat):fb 1 (fb k b)=fb (k+1) b:=by
 funext j
 unfold fb
 by_cases h1:j<1
 ·rw[if_pos h1,if_pos (by omega)]
 ·by_cases h2:j<k+1
  ·rw[if_neg h1,if_pos h2,if_pos (by omega)]
  ·rw[if_neg h1,if_neg h2,if_neg (by omega),show j-1-k=j-(k+1) by omega]
theorem cS5{m:Bool × Nat}(hm:m∈aw)(f k:Nat)(b:Nat->Nat)(j:Nat):fb k (λi=>gm m f (b i)) j=gm m f (fb k b j):=by
 unfold fb
 split
 ·exact(gx m f (bB m hm)).symm
 ·rfl
theorem dd1{m:Bool × Nat}(hm:m∈aw){a b:Nat}(ha:a<aa m)(hb:b<aa m)(h0:b≠0):∃r,r<aa m/\gm m r b=a:=by
 by_cases a0:a=0
 ·exact⟨0,by have:=(bO hm).lo;omega,by rw[a0];exact dM m b (bB m hm)⟩
 ·obtain⟨r,_,h1,h2⟩:=Vh hm (show 1<=a by omega) ha (show 1<=b by omega) hb
  exact⟨r,h1,h2⟩
theorem cj2{l:List Nat}{L:Nat}(h:∀j,L<j->cf l j=0):(fH l).length<=L+1:=by
 rcases HS l with h1 | h1
 ·omega
 ·rcases qI (L+1) (fH l).length with h2 | h2
  ·exact absurd ((CV l _).trans (h _ (by omega))) h1
  ·exact h2
theorem BI.start{m:Bool × Nat}(hm:m∈aw)(s:Nat->Nat):BI (aa m) (gp m) (gm m) s 0 0 (cf [1]) (fb 1 (cf [1])) 1:=by
 have lo:=(bO hm).lo
 have cl:∀j,cf [1] j<aa m:=λj=>by
  cases j with
  | zero=>exact lo
  | succ j=>exact cT (show 0<2 by decide) lo
 have cz:∀j,0<j->cf [1] j=0:=λj hj=>g8 (show([1]:List Nat).length<=j from hj)
 exact⟨rfl,cz,cl,bI _,λi _ h=>absurd h (ym i),λ_ _ _ _ _ _=>kT _,rfl,λj hj=>C3 cz j hj,C2 (rg hm) cl,λi _ h=>absurd h (ym i),λh=>absurd h (by omega)⟩
theorem C5{m:Bool × Nat}(hm:m∈aw)(b:List Nat):∀(a:List Nat) (k:Nat),s9 m b a k=ds (gp m) (gm m) (cf b) (cf a) k
 | [],k=>(cp7 (rg hm) (λ_=>rfl) k).symm
 | x::a,k=>by
  unfold ds
  rw[CY (rg hm) k λj _=>cw hm _ _]
  cases k with
  | zero=>rfl
  | succ k =>
   show gp m (gm m x (cf b (k+1))) (s9 m b a k)=gp m (gm m x (cf b (k+1))) _
   congr 1
   rw[C5 hm b a k]
   exact dU λj _=>by rw[VD,Nat.add_sub_add_right]
end L3
namespace L3
open PySem L2 PySem.Spec PyProof.Rows
section
variable{X:Cx}{i j:Nat}{x y:Str}{p pos pos' apos bY:Pos}
end
section
variable{X:Cx}{e:Expr}{t:aQ}{p pos:Pos}
end
section
variable{X:Cx}
end
end L3
namespace L3
open PySem L2 Mf
noncomputable def bD(o:Bool)(T:List (List Nat)):List D:=T.map λr=>.lst o (aj r)
theorem nH(o:Bool)(T:List (List Nat)):(bD o T).length=T.length:=by unfold bD;rw[bE]
theorem jx(o:Bool)(T:List (List Nat)):(bD o T).map D.sh=bD false T:=by
 unfold bD
 rw[dh]
 exact oj λr _=>vF o r
theorem vM(T:List (List Nat)):(bD false T).all D.pl=true:=by
 unfold bD
 rw[kX,cU]
 intro r _
 show(D.lst false (aj r)).pl=true
 rw[gr,kJ];rfl
theorem VO(T:List (List Nat)):(bD true T).all D.fr=true:=by
 unfold bD
 rw[kX,cU]
 intro r _
 exact e8 r
theorem VP(o:Bool)(S T:List (List Nat)):bD o S++bD o T=bD o (S++T):=by unfold bD;rw[jW]
theorem vN(o:Bool)(T:List (List Nat))(lo hi:Option Int):fm (bD o T) lo hi=bD o (fm T lo hi):=by
 unfold bD fm
 rw[bE,Rj,Ri]
theorem Ih(o:Bool){T:List (List Nat)}{i:Nat}(h:i<T.length):eB (bD o T) (i:Int)=some (.lst o (aj T[i])):=by
 refine L3.Ul ?_
 unfold bD
 rw[cm,aJ h];rfl
theorem cf6(n:Nat)(o:Bool)(T:List (List Nat)):(bD o T).all (dG (n+1))=true:=by
 unfold bD
 rw[kX,cU]
 intro r _
 exact Vx _ _ _
theorem cD1(n:Nat)(o o':Bool)(T:List (List Nat)):dG (n+2) (.lst o (bD o' T))=true:=cf6 n o' T
theorem VQ(o o':Bool):∀(a b:List (List Nat)),bH.fk (bD o a) (bD o' b)=decide (a=b)
 | [],[]=>rfl
 | [],_::_=>by simp[bD,bH.fk]
 | _::_,[]=>by simp[bD,bH.fk]
 | x::xs,y::ys=>by
  show(bH (.lst o (aj x)) (.lst o' (aj y))&&bH.fk (bD o xs) (bD o' ys))=_
  rw[VQ o o' xs ys,zP,tZ];simp
theorem cM2(o o' o1 o2:Bool)(a b:List (List Nat)):bH (.lst o (bD o1 a)) (.lst o' (bD o2 b))=decide (a=b):=VQ o1 o2 a b
open Classical in
theorem Ii{α:Type}{sh:Bool}{xs:List D}{aD:List (Str × Nat)}{n:Nat}{g0:iz}{tt:fS}{te:aQ}{aq:Dl}{Q:D->Dl->Prop}(l:List α)(e g:α->D)(kp:α->Bool)(i4:xs.map D.sh=l.map e)(inj:∀a b,e a=e b->a=b)
  (hx:∀a∈l,g0 (e a) (fU aD n aq) λaU=>tt aU λb iw=>b=kp a/\(kp a=true->te iw λd _=>d=g a)) (eQ:(sh&&aD.all (iB aq))=true\/∀a∈l,kp a=true->(g a).fr=true) (hl:l.length<=sizeLine) (hq:Q (.lst true ((l.filter kp).map g)) aq):rF sh xs aD n g0 tt te aq Q:=by
 have pick:∀{β:Type} (h:α->β) (z:β),∃f:D->β,∀a∈l,f (e a)=h a:=λh z=>⟨λx=>if w:∃a∈l,e a=x then h w.choose else z,λa ha=>by
  have w:∃b∈l,e b=e a:=⟨a,ha,rfl⟩
  show(if w:∃b∈l,e b=e a then h w.choose else z)=h a
  rw[dif_pos w]
  exact congrArg h (inj _ _ w.choose_spec.2)⟩
 obtain⟨f,hf⟩:=pick g .ax
 obtain⟨p,hp⟩:=pick kp false
 refine⟨p,f,λx h=>?_,eQ.imp id λh x dk=>?_,?_,?_⟩
 ·rw[i4]at h
  obtain⟨a,ha,rfl⟩:=cH.mp h
  rw[hp a ha,hf a ha]
  exact hx a ha
 ·rw[i4]at dk
  obtain⟨a,ha,rfl⟩:=cH.mp dk
  rw[hp a ha,hf a ha];exact h a ha
 ·have:=congrArg A7 i4
  simp at this
  omega
 ·rw[i4,List.filter_map,dh,show l.filter (p ∘ e)=l.filter kp from List.filter_congr λa ha=>hp a ha,show(l.filter kp).map (f ∘ e)=(l.filter kp).map g from oj λa ha=>hf a (mx.mp ha).1]
  exact hq
theorem cr4{o:Bool}{G:List (List Nat)}{i:Nat}{d:D}(h:(fq (bD o G))[i]?=some d):∃hi:i<G.length,d=.tup [.int i,.lst o (aj G[i])]:=by
 unfold fq bD at h
 rw[yd,cm]at h
 by_cases hi:i<G.length
 ·rw[aJ hi]at h
  exact⟨hi,(cQ h).symm⟩
 ·rw[ja (by omega)]at h;cases h
theorem cq9(r:List Nat):(fq (aj r)).map D.sh=(aS r.length).map λ(i:Nat)=>D.tup [.int (i:Int),.int ((r.getD i 0:Nat):Int)]:=by
 apply Fo
 intro i
 unfold fq
 rw[cG,cm,yd,cm,cm]
 by_cases hi:i<r.length
 ·have e:r.getD i 0=r[i]:=by rw[aL,aJ hi];rfl
  rw[aJ hi,jX hi]
  show _=some (D.tup [D.int (i:Int),D.int ((r.getD i 0:Nat):Int)])
  rw[e];rfl
 ·rw[ja (show r.length<=i by omega),ja (show(aS r.length).length<=i by simpa using hi)];rfl
theorem cc1{r:List Nat}(h:∃x∈r,x≠0):((aS r.length).filter λi=>r.getD i 0 != 0)[0]?=some (r.findIdx (· != 0)):=by
 obtain⟨x,hx,h0⟩:=h
 have hl:r.findIdx (· != 0)<r.length:=dk0 ⟨x,hx,by simpa using h0⟩
 rw[<-List.head?_eq_getElem?,List.head?_filter,List.find?_range_eq_some]
 refine⟨?_,dA.mpr hl,λj hj=>?_⟩
 ·rw[aL,aJ hl]
  exact List.findIdx_getElem (w:=hl)
 ·have:=List.not_of_lt_findIdx hj
  rw[aL,aJ (by omega)]
  simpa using this
noncomputable def bt(T:List (List Nat)):Nat:=(T.headD []).length
noncomputable def jy(T:List (List Nat))(j:Nat):Option Nat:=T.findIdx? λr=>r.getD j 0 != 0
noncomputable def gA(m:Bool × Nat)(T:List (List Nat))(l:List Nat)(j:Nat):List (List Nat):=T.map λr=>dZ (λx y=>bg m x (gm m (r.getD j 0) y)) r l
noncomputable def zV(m:Bool × Nat)(b:Nat):Nat:=((aS (aa m)).find? λr=>gm m r b==1).getD 0
theorem VR{m:Bool × Nat}(hm:m∈aw){b r:Nat}(hr:r<aa m)(h:gm m r b=1):zV m b=r:=by
 have m0:=bB m hm
 unfold zV
 cases e:(aS (aa m)).find? λr=>gm m r b==1 with
 | none =>
  have:=List.find?_eq_none.mp e r (dA.mpr hr)
  simp[h]at this
 | some r' =>
  have h':gm m r' b=1:=by simpa using List.find?_some e
  have l':r'<aa m:=dA.mp (dj0 e)
  show r'=r
  rw[<-nD hr,<- h',<- fG m0,fu m r r',fG m0,h,nD l']
noncomputable def RT(N w:Nat)(T:List (List Nat)):Prop:=∀r∈T,r.length=w/\AllLt N r
theorem RT.app{N w:Nat}{S T:List (List Nat)}(a:RT N w S)(b:RT N w T):RT N w (S++T):=λr hr=>(bW.mp hr).elim (a r) (b r)
theorem VS{m:Bool × Nat}(hm:m∈aw){w j:Nat}{T:List (List Nat)}{l:List Nat}(h:RT (aa m) w T)(hl:l.length=w):RT (aa m) w (gA m T l j):=λr hr=>by
 obtain⟨r,h1,rfl⟩:=cH.mp hr
 obtain⟨a,b⟩:=h r h1
 exact⟨by rw[jY,a,hl,qD],CU λx hx y hy=>(eK hm (b x hx) (cw hm _ y)).2.1⟩
noncomputable def dW(m:Bool × Nat)(T:List (List Nat))(i p:Nat):List Nat:=(T.getD i []).map (gm m (zV m ((T.getD i []).getD p 0)))
noncomputable def g9(m:Bool × Nat)(s:List (List Nat) × List (List Nat))(p:Nat):List (List Nat) × List (List Nat):=match jy s.2 p with
 | none=>s
 | some i=>(gA m s.1 (dW m s.2 i p) p++[dW m s.2 i p],gA m (s.2.take i++s.2.drop (i+1)) (dW m s.2 i p) p)
noncomputable def i8(m:Bool × Nat)(G:List (List Nat))(k:Nat):List (List Nat) × List (List Nat):=(aS k).foldl (g9 m) ([],G)
noncomputable def cY(m:Bool × Nat)(G:List (List Nat)):List (List Nat):=(i8 m G (bt G)).1
theorem Ij(m:Bool × Nat)(G:List (List Nat))(k:Nat):i8 m G (k+1)=g9 m (i8 m G k) k:=by
 unfold i8
 rw[List.range_succ,Bp];rfl
theorem C6{T:List (List Nat)}{j i:Nat}(h:jy T j=some i):∃hi:i<T.length,T[i].getD j 0≠0/\T.getD i []=T[i]:=by
 obtain⟨hi,h1,_⟩:=dk1.mp h
 exact⟨hi,by simpa using h1,by rw[aL,aJ hi];rfl⟩
structure zW(N w n:Nat)(s:List (List Nat) × List (List Nat)):Prop where
 a:RT N w s.1
 b:RT N w s.2
 l:s.1.length+s.2.length<=n
theorem co4{m:Bool × Nat}(hm:m∈aw){w n p:Nat}{s:List (List Nat) × List (List Nat)}(h:zW (aa m) w n s):zW (aa m) w n (g9 m s p):=by
 unfold g9
 split
 ·exact h
 ·rename_i i e
  obtain⟨hi,h1,h2⟩:=C6 e
  have hl:(dW m s.2 i p).length=w:=by unfold dW;rw[bE,h2];exact(h.b _ (dv hi)).1
  have hr:RT (aa m) w [dW m s.2 i p]:=λr hr=>by
   rw[iH]at hr
   refine⟨by rw[hr];exact hl,λx hx=>?_⟩
   rw[hr]at hx
   obtain⟨y,_,rfl⟩:=cH.mp hx
   exact cw hm _ _
  refine⟨(VS hm h.a hl).app hr,VS hm (λr hr=>h.b r ?_) hl,?_⟩
  ·rcases bW.mp hr with hr | hr
   ·exact ya hr
   ·exact Bg hr
  ·have:=h.l
   unfold gA
   rw[eG,bE,bE,eG,jz,tV]
   show s.1.length+1+_<=n
   omega
theorem zX{m:Bool × Nat}(hm:m∈aw){w:Nat}{G:List (List Nat)}(h:RT (aa m) w G):∀k,zW (aa m) w G.length (i8 m G k)
 | 0=>⟨(λr hr=>nomatch hr),h,A6 (Bj _)⟩
 | k+1=>by rw[Ij];exact co4 hm (zX hm h k)
theorem VT(j:Nat)(l:List Nat):decide ((j:Int)∈l.map λ(n:Nat)=>(n:Int))=l.contains j:=by
 rw[tZ,decide_eq_true_iff,t9,cH]
 exact⟨λ⟨a,h,e⟩=>(show a=j by omega) ▸ h,λh=>⟨j,h,rfl⟩⟩
theorem cD6{o:Bool}{G:List (List Nat)}{f:List Nat->Nat}{k:Nat}{d:D}(h:(dq (aj (G.map f)) (bD o G))[k]?=some d):∃hk:k<G.length,d=.tup [.int ((f G[k]:Nat):Int),.lst o (aj G[k])]:=by
 unfold dq bD at h
 rw[cG,mK,cm,cm,cm]at h
 by_cases hk:k<G.length
 ·rw[aJ hk]at h
  exact⟨hk,(cQ h).symm⟩
 ·rw[ja (by omega)]at h;cases h
theorem VU{α:Type}(a:α->Nat)(b:α->Nat):∀(l:List α) (x:List Nat),(l.foldl (λx z=>x.set (a z) (b z)) x).length=x.length
 | [],_=>rfl
 | z::l,x=>by rw[qy,VU a b l,mB]
theorem cr5(G:List (List Nat))(u:List Nat):(dq (bD false G) (aj u)).map D.sh=(G.zip u).map λz=>D.tup [.lst false (aj z.1),.int ((z.2:Nat):Int)]:=by
 rw[zy,jx,nu]
 unfold dq bD
 rw[cG,yc,jB,qE]
end L3
namespace L2
open PySem PySem.Spec PyProof.Rows
theorem b81{M:Model}{A:Around}{E:Value->Shared->Prop}{s:Shared}{scope:Scope}{globals:Addr}{cl:List (Str × Addr)}{qual:Str}{env:Env}{bi:Addr}{Q:Env->Shared->Prop}
  (hQ:Q (newEnv scope s.heap.objs.size globals (cellsFrom (s.heap.objs.size+1) scope.names cl) qual none .none (some env) bi) { s with heap:=pushCells (s.heap.push { cls:=.type "dict",data:=.dict #[] }) scope.names }) :
  wpAny M A (newFunctionEnv scope globals cl [] qual none .none (some env) bi) Q E s:=by
 simp only[newFunctionEnv,Option.isSome_some,if_true]
 refine wpAny_bind (wpAny_alloc (wpAny_bind (wpAny_layCells _ (λname kind cells=>by cases e:kind==Fs<;>simp[e]) _ _ _ _ ?_)))
 rw[List.forIn_nil]
 refine wpAny_bind (wpAny_pure (wpAny_pure ?_))
 have z:({ s with heap:=s.heap.push { cls:=.type "dict",data:=.dict #[] } }:Shared).heap.objs.size=s.heap.objs.size+1:=tT ..
 rw[z]
 exact hQ
theorem zY:∀(ns:List (Str × NameKind)) (n:Nat) (acc:List (Str × Addr)) (y:Str) (c:Addr),(cellsFrom n ns acc).lookup y=some c->(n<=c/\(y,Fs)∈ns)\/acc.lookup y=some c
 | [],_,_,_,_,h=>.inr h
 | (z,k)::r,n,acc,y,c,h=>by
  unfold cellsFrom at h
  split at h
  ·rename_i hk
   rcases zY r (n+1) _ y c h with⟨h1,h2⟩ | h1
   ·exact .inl ⟨by omega,eE _ h2⟩
   ·rw[gq]at h1
    cases q:y==z with
    | true =>
     rw[q]at h1;cases h1
     exact .inl ⟨bI _,by rw[eq_of_beq q,eq_of_beq hk];exact gP⟩
    | false=>rw[q]at h1;exact .inr h1
  ·rcases zY r n acc y c h with⟨h1,h2⟩ | h1
   ·exact .inl ⟨h1,eE _ h2⟩
   ·exact .inr h1
theorem Ik:∀(ns:List (Str × NameKind)) (n:Nat) (acc:List (Str × Addr)),(∀y z c,acc.lookup y=some c->acc.lookup z=some c->y=z)->(∀y c,acc.lookup y=some c->c<n) ->
  ∀y z c,(cellsFrom n ns acc).lookup y=some c->(cellsFrom n ns acc).lookup z=some c->y=z
 | [],_,_,i,_,y,z,c,h1,h2=>i y z c h1 h2
 | (u,k)::r,n,acc,i,b,y,z,c,h1,h2=>by
  unfold cellsFrom at h1 h2
  split at h1
  ·rw[if_pos (by assumption)]at h2
   refine Ik r (n+1) ((u,n)::acc) (λy z c e1 e2=>?_) (λy c e=>?_) y z c h1 h2
   ·rw[gq]at e1 e2
    cases q1:y==u with
    | true =>
     rw[q1]at e1;cases e1
     cases q2:z==u with
     | true=>rw[eq_of_beq q1,eq_of_beq q2]
     | false=>rw[q2]at e2;exact absurd (b _ _ e2) (fA _)
    | false =>
     rw[q1]at e1
     cases q2:z==u with
     | true=>rw[q2]at e2;cases e2;exact absurd (b _ _ e1) (fA _)
     | false=>rw[q2]at e2;exact i y z c e1 e2
   ·rw[gq]at e
    cases q:y==u with
    | true=>rw[q]at e;cases e;exact E5 _
    | false=>rw[q]at e;exact Rl (b _ _ e)
  ·rw[if_neg (by assumption)]at h2
   exact Ik r n acc i b y z c h1 h2
theorem Il:∀(ns:List (Str × NameKind)) (n:Nat) (acc:List (Str × Addr)) (y:Str) (c:Addr),(y,Fs)∈ns->(cellsFrom n ns acc).lookup y=some c->n<=c
 | [],_,_,_,_,m,_=>nomatch m
 | (z,k)::r,n,acc,y,c,m,h=>by
  unfold cellsFrom at h
  split at h
  ·rename_i hk
   rcases bX.mp m with e | m
   ·have e1:y=z:=(Prod.mk.inj e).1
    rcases zY r (n+1) _ y c h with⟨h1,_⟩ | h1
    ·exact Bq h1
    ·rw[gq,e1,beq_self_eq_true]at h1
     exact A6 (cQ h1)
   ·exact Bq (Il r (n+1) _ y c m h)
  ·rename_i hk
   rcases bX.mp m with e | m
   ·cases e;exact absurd rfl hk
   ·exact Il r n acc y c m h
noncomputable def dX(X:Cx)(scope:Scope)(N:List Str)(cl:List (Str × Addr))(C:Addr)(s:Shared)(H:Hp)(fp:List Addr):Cx :=
 { BU X scope N (cellsFrom (C+1) scope.names cl) C s H fp with fn:=λy=>scope.names.contains (y,Fs) }
section
variable{X:Cx}{scope:Scope}{cl:List (Str × Addr)}
theorem co9{pins:List (Addr × Obj)}{σ:St}{H:Hp}{s:Shared}{fp:List Addr}{C:Addr}(I:Inv X pins σ H s)(iS:scope.kind=.function)(hC:s.heap.objs.size<=C)
  (dJ:∀y c,cl.lookup y=some c->X.env.cells.lookup y=some c) (d12:∀y,((relabel scope X.env).names.lookup y=some .cell\/(relabel scope X.env).names.lookup y=some .free)->∃c,(cellsFrom (C+1) scope.names cl).lookup y=some c)
  (hf:∀b∈fp,iM X pins H b) (ho:∀b∈fp,∃o,s.heap.get? b=some o/\∀v,o.data≠.cell v) (N:List Str):(dX X scope N cl C s H fp).Ok where
 mod:=I.ok.mod
 kind:=iS
 glob:=I.ok.glob
 blt:=I.ok.blt
 above:=hC
 inj:=Ik scope.names (C+1) cl (λy z c h1 h2=>I.ok.inj y z c (dJ _ _ h1) (dJ _ _ h2)) λy c e=>by
  obtain⟨v,o,ho,_⟩:=I.cell y c (dJ y c e)
  exact Nat.lt_succ_of_le (AX (cT (bS ho) hC))
 has:=d12
 qL:=λy c h e=>eM hC (Bq (Il _ _ _ y c (t9.mp h) e))
 hd:=I.ok.hd
 frames:=I.ok.frames
 yy:=.inl rfl
 yz:=λb hb=>⟨by
  obtain⟨o,e,_⟩:=ho b hb
  exact fN (cT (bS e) hC),λy c e z=>by
  rcases zY _ _ _ y c e with⟨h1,_⟩ | h1
  ·obtain⟨o,e,_⟩:=ho b hb
   rw[z]at h1
   exact absurd (cT (bS e) (eM hC (Bq h1))) (fA _)
  ·exact(hf b hb).2.2.2.2.1 y c (dJ _ _ h1) z⟩
 bs:=I.bs
 jG:=eM I.ok.jG I.sz
 uh:=λb o e hb=>by
  rcases(hf b hb).2.2.2.1 with z | z
  ·exact I.ok.uh b o e z
  ·exact absurd (cT (bS (I.ok.bs b o e).1) z) (fA _)
 ui:=λb hb z=>(bX.mp (I.Bz b z)).elim (hf b hb).2.1 (hf b hb).2.2.1
 gE:=I.stack
 jH:=I.Fw
end
theorem Im:∀(ns:List (Str × NameKind)) (h:Heap) (acc:List (Str × Addr)) (y:Str) (c:Addr),(cellsFrom h.objs.size ns acc).lookup y=some c->(∃o,(pushCells h ns).get? c=some o/\o.data=.cell none)\/acc.lookup y=some c
 | [],_,_,_,_,e=>.inr e
 | (z,k)::r,h,acc,y,c,e=>by
  unfold cellsFrom at e
  unfold pushCells
  split at e
  ·rename_i hk
   rw[if_pos hk]
   rw[<-tT h { cls:=.type "cell",data:=.cell none }]at e
   rcases Im r _ _ y c e with h1 | h1
   ·exact .inl h1
   ·rw[gq]at h1
    cases q:y==z with
    | true =>
     rw[q]at h1;cases h1
     exact .inl ⟨_,pushCells_keeps _ _ _ _ (gk _ rfl),rfl⟩
    | false=>rw[q]at h1;exact .inr h1
  ·rename_i hk
   rw[if_neg hk]
   exact Im r h acc y c e
end L2
namespace L2
open PySem PySem.Spec PyProof.Rows
section
variable{X:Cx}{elt iter tg:Expr}{pos:Pos}{ifs:List Expr}{scope:Scope}{cl:List (Str × Addr)}{wi:TI}{tt:TT}{te:TE}{g:TG}
theorem VV(aD:List (Str × Nat))(bV:List Str)(hc:X.calm=true)(hi:PI X tg iter wi)
  (hg:∀C s H fp,PG (dX X scope (aD.map (·.1)++bV) cl C s H fp) tg g)
  (ht:∀C s H fp,mW (dX X scope (aD.map (·.1)++bV) cl C s H fp) ifs tt) (he:∀C s H fp,PE (dX X scope (aD.map (·.1)++bV) cl C s H fp) elt te)
  (nI:closureFor scope X.env=pure cl) (nJ:mX X cl) (nK:∀C:Addr,mY (cellsFrom (C+1) scope.names cl) (relabel scope X.env).names) (nL:∀C:Addr,mV X scope (cellsFrom (C+1) scope.names cl) aD)
  (iS:scope.kind=.function) (nN:∀y∈scope.names,y.2=.local->scope.names.lookup y.1=some .local)
  (hs:∀x,foldedSetIterable iter X.env x=pure x:=by intro _;rfl) {pins:List (Addr × Obj)} {s:Shared} {σ:L2.St} {H:Hp} {Q:VK} {use:Option (Value->Sem Unit)} {bY:Pos} {Rf:Value->Shared->Prop} (I:Inv X pins σ H s) (h:BV wi aD bV.length g tt te σ H Q)
  (d13:∀(s':Shared) (H':Hp) (C Da:Addr) (m:Str->Option Value),Inv X pins σ H' s'->s'.heap.Ns C m->H' C=none->C≠X.env.locals->X.cK.heap.objs.size<=C->(∀x c,X.env.cells.lookup x=some c->c≠C)->(∀p∈X.pn++pins,p.1≠C)->C ∉ X.fs->Q (.ref Da) H' ->
   compPost (model X.prog X.w) X.A X.xe use Rf (.ref Da) C (.ok .next) s') :
  wpAny (model X.prog X.w) X.A (comprehension (.ListComp elt [⟨tg,iter,ifs,0⟩] scope pos) scope X.env bY (newList []) false (eval iter X.env) use) Rf X.xe s:=by
 have dJ:=nJ.all
 refine wpAny_comprehension_free (use:=use) rfl hs nI iS nN (aP (hi pins s σ H _ I h) λv s1 h1=>aP h1 λFK s2 h2=>?_)
 obtain⟨it,fp,tn,J,H2,e,I2,T,mP,f2,q⟩:=h2
 subst e
 refine wpAny_newList ?_
 refine b81 ?_
 have hD:H2 s2.heap.objs.size=none:=I2.aH.fresh (bI _)
 obtain⟨W,⟨m0,w0⟩,turn⟩:=q s2.heap.objs.size hD
 generalize Io:s2.heap.push { cls:=.type "list",data:=.seq ([]:List Value).toArray }=g0 at ⊢
 have hCs:g0.objs.size=s2.heap.objs.size+1:=by rw[<-Io,tT]
 have hDC:s2.heap.objs.size≠g0.objs.size:=by omega
 have hle:s2.heap.objs.size<=g0.objs.size:=by omega
 have uj:∀b o,s2.heap.get? b=some o->b≠g0.objs.size:=λb o e=>fN (cT (bS e) hle)
 obtain⟨g1,C7⟩:∃g1,g1=pushCells (g0.push { cls:=.type "dict",data:=.dict #[] }) scope.names:=⟨_,rfl⟩
 have ns1:g1.Ns g0.objs.size (λ_=>none):=by rw[C7];exact(Heap.Ns.new g0 (.type "dict")).keeps (pushCells_keeps _ _)
 have VW:∀b o,g0.get? b=some o->g1.get? b=some o:=λb o e=>by rw[C7];exact pushCells_keeps _ _ b o (ff _ e)
 have old:∀b o,s2.heap.get? b=some o->g1.get? b=some o:=λb o e=>VW b o (Io ▸ ff _ e)
 rw[<-C7]
 have hDg:g1.get? s2.heap.objs.size=some { cls:=.type "list",data:=.seq ([]:List Value).toArray }:=VW _ _ (Io ▸ gk _ rfl)
 have VX:∀b∈fp,∃o,s2.heap.get? b=some o/\∀v,o.data≠.cell v:=T.obj _ _ mP
 have C8:=co9 (scope:=scope) (cl:=cl) (C:=g0.objs.size) I2 iS hle dJ (nK g0.objs.size).all f2 VX (aD.map (·.1)++bV)
 have I4:Inv (dX X scope (aD.map (·.1)++bV) cl g0.objs.size s2 H2 fp) [] (gX aD bV.length σ) (upd H2 s2.heap.objs.size (.lst [])) { s2 with heap:=g1 }:=by
  refine⟨C8,rfl,I2.bare,Un.laid old (bI _) hD,⟨_,ns1,λi y v h1 h2 h3=>?_⟩,λy c e=>?_,?_,λy c e=>?_,λp hp=>absurd hp (by simp[dX,BU]),I2.aH.laid old (bI _) ⟨kT _,[],0,.nil,hDg⟩,by simp[gX,dX,BU]⟩
  ·by_cases Ip:i<aD.length
   case neg =>
    have jh:((aD.map λp=>(σ[p.2]?).getD none)++aV bV.length none)[i]?=some (some v):=h2
    rw[xX (by simpa using Ip),tU]at jh
    split at jh<;>cases jh
   case pos =>
    have jK:(aD.map (·.1))[i]?=some y:=by
     have z:(aD.map (·.1)++bV)[i]?=some y:=h1
     rwa [xY (by simpa using Ip)]at z
    have jh:(aD.map λp=>(σ[p.2]?).getD none)[i]?=some (some v):=by
     have z:((aD.map λp=>(σ[p.2]?).getD none)++aV bV.length none)[i]?=some (some v):=h2
     rwa [xY (by simpa using Ip)]at z
    rw[cm]at jK jh
    cases hj:aD[i]? with
    | none=>rw[hj]at jK;cases jK
    | some p =>
     rw[hj]at jK jh
     have ey:p.1=y:=cQ jK
     have ev:(σ[p.2]?).getD none=some v:=cQ jh
     obtain⟨hN,hk,vO,c,e1,e2⟩:=(nL g0.objs.size).at p (xZ hj)
     obtain⟨m,hn,hl⟩:=I2.loc
     have es:σ[p.2]?=some (some v):=by
      cases z:σ[p.2]? with
      | none=>rw[z]at ev;cases ev
      | some o=>rw[z]at ev;exact congrArg some ev
     obtain⟨u,ru,lk⟩:=hl p.2 p.1 v hN es (hk.elim (λz=>.inr (.inl z)) λz=>.inr (.inr z))
     refine⟨u,ru,?_⟩
     rcases lk with⟨lk,_⟩ | ⟨_,c',e3,ic⟩
     ·rcases hk with hk | hk
      ·have:=hk.symm.trans lk;cases this
      ·have:=hk.symm.trans lk;cases this
     ·rw[e2]at e3
      cases e3
      subst ey
      obtain⟨oc,iK,HC⟩:=ic
      exact .inr ⟨vO,c,e1,oc,old _ _ iK,HC⟩
  ·rcases Im _ _ _ y c (show(cellsFrom (g0.push { cls:=.type "dict",data:=.dict #[] }).objs.size scope.names cl).lookup y=some c by rw[tT];exact e)with h1 | h1
   ·rw[<-C7]at h1
    exact⟨none,h1⟩
   ·obtain⟨v,o,ho,hd⟩:=I2.cell y c (dJ y c h1)
    exact⟨v,o,old _ _ ho,hd⟩
  ·show upd H2 _ _ g0.objs.size=none
   rw[bj (fe hDC)]
   exact I2.aH.fresh hle
  ·rcases zY _ _ _ y c e with⟨h1,_⟩ | h1
   ·rw[bj (Q0 (mF hle h1))]
    exact I2.aH.fresh (eM hle (Bq h1))
   ·obtain⟨v,o,ho,hd⟩:=I2.cell y c (dJ y c h1)
    rw[bj (fN (bS ho))]
    exact I2.je y c (dJ y c h1)
 have fin:∀(s':Shared) (H':Hp) (aF:L2.St),Inv (dX X scope (aD.map (·.1)++bV) cl g0.objs.size s2 H2 fp) [] aF H' s'->Q (.ref s2.heap.objs.size) H' ->
   compPost (model X.prog X.w) X.A X.xe use Rf (.ref s2.heap.objs.size) g0.objs.size (.ok .next) s':=by
  intro s' H' aF I' q'
  obtain⟨m,hn,_⟩:=I'.loc
  have u:=I'.base
  have hC':H' g0.objs.size=none:=I'.free
  have IX:Inv X pins σ H' s':=I2.dm3 (s':=s') (ch:=fp) I'.os ⟨u.keep,u.slot,u.free,u.there,u.jF,u.jc,u.ij⟩ I'.aH I'.bare λb hb=>by
   obtain⟨_,y1,y2,y3,y4,y5⟩:=f2 b hb
   exact⟨y3,y1,y4,y5⟩
  have VY:∀b,(∃o,s2.heap.get? b=some o)->b≠g0.objs.size:=λb ⟨o,e⟩=>uj b o e
  refine d13 s' H' g0.objs.size s2.heap.objs.size m IX hn hC' (λz=>?_) (eM I2.sz hle) (λx c e z=>?_) (λp hp z=>?_) (λz=>?_) q'
  ·have h0:X.env.locals<s2.heap.objs.size:=I2.lt
   rw[<-z]at h0
   exact fA _ (cT h0 hle)
  ·obtain⟨v,o,ho,_⟩:=I2.cell x c e
   exact VY c ⟨o,ho⟩ z
  ·exact VY p.1 ⟨_,(I2.pin p hp).1⟩ z
  ·exact I2.RD hle z
 have Iq:∀(H':Hp),(∀b∈fp,H' b=none)->∀b∈fp,iM (dX X scope (aD.map (·.1)++bV) cl g0.objs.size s2 H2 fp) [] H' b:=λH' hn b hb =>
  ⟨hn b hb,(C8.yz b hb).1,C8.ui b hb,.inl hb,(C8.yz b hb).2,λp hp=>absurd hp (by simp[dX,BU])⟩
 have loop:codeAny (model X.prog X.w) X.A (.compLoop (.ListComp elt [⟨tg,iter,ifs,0⟩] scope pos) 0 (.ref it) (.ref s2.heap.objs.size) (compEnvC scope (cellsFrom (g0.objs.size+1) scope.names cl) g0.objs.size X.env))
   (compPost (model X.prog X.w) X.A X.xe use Rf (.ref s2.heap.objs.size) g0.objs.size) { s2 with heap:=g1 }:=by
  refine bL2 (λn s'=>∃i acc H',Inv (dX X scope (aD.map (·.1)++bV) cl g0.objs.size s2 H2 fp) [] (gX aD bV.length σ) H' s'/\tn i s'.heap/\(∀b∈fp,H' b=none)/\W i n acc H') ?_ m0
   ⟨0,[],_,I4,T.keep _ _ _ mP λb hb o e=>old b o e,λb hb=>?_,w0⟩
  ·rintro n s' ⟨i,acc,H',I',jJ,Cv,w'⟩
   obtain⟨G1,⟨stop,qn⟩ | ⟨go,step⟩⟩:=turn i n acc H' w'
   ·refine aP (T.done (dX X scope (aD.map (·.1)++bV) cl g0.objs.size s2 H2 fp) rfl rfl rfl hc i [] s' _ H' (λ_ _=>False) I' (Iq H' Cv) jJ stop) λr t1 zz=>?_
    obtain⟨hr,I1⟩:=zz
    subst hr
    exact fin _ _ _ I1 qn
   ·refine aP (T.item (dX X scope (aD.map (·.1)++bV) cl g0.objs.size s2 H2 fp) rfl rfl rfl hc i [] s' _ H' (λ_ _=>False) I' (Iq H' Cv) jJ go) λr t1 zz=>?_
    obtain⟨u,hr,h4⟩:=zz
    subst hr
    refine aP h4 λ_ t2 zz=>?_
    obtain⟨x5,H5,I5,r5,y5,qO,FQ⟩:=zz
    obtain⟨B7,st6⟩:=step x5 H5 y5
    have FR:=I5.pinned (Iq H5 FQ) (T.obj _ _ qO)
    refine aP (hg _ _ _ _ _ t2 _ H5 x5 u _ FR r5 st6) λ_ t3 zz=>?_
    obtain⟨FT,H6,I6,⟨d19,d20⟩,st7⟩:=zz
    have back:∀(s7:Shared) (H7:Hp) (Ir:List V) (m7:Nat),Inv (dX X scope (aD.map (·.1)++bV) cl g0.objs.size s2 H2 fp) ([]++yI fp t2.heap) FT H7 s7->W (i+1) m7 Ir H7 ->
      ∃i acc H',Inv (dX X scope (aD.map (·.1)++bV) cl g0.objs.size s2 H2 fp) [] (gX aD bV.length σ) H' s7/\tn i s7.heap/\(∀b∈fp,H' b=none)/\W i m7 acc H':=λs7 H7 Ir m7 I7 w7 =>
     ⟨i+1,Ir,H7,(I7.yJ).weak d19.symm λj v z=>by
       by_cases hj:j<aD.length
       ·rw[d20 j hj];exact z
       ·have z':((aD.map λp=>(σ[p.2]?).getD none)++aV bV.length none)[j]?=some (some v):=z
        rw[xX (by simpa using hj),tU]at z'
        split at z'<;>(cases z'),
      T.keep _ _ _ qO λb hb o e=>(I7.pin (b,o) (fB _ (fB _ (BK hb e)))).1,λb hb=>by
       obtain⟨o,e,d⟩:=T.obj _ _ qO b hb
       exact(I7.pin (b,o) (fB _ (fB _ (BK hb e)))).2.1,w7⟩
    refine aP (ht _ _ _ _ _ t3 _ H6 _ I6 st7) λok t4 zz=>?_
    obtain⟨H7,I7,hD7,q7⟩:=zz
    cases ok with
    | false =>
     obtain⟨m',hm,w7⟩:=(show ∃m',m'<n/\W (i+1) m' acc H7 from q7)
     exact⟨m',hm,back t4 H7 acc m' I7 w7⟩
    | true =>
     refine aP (he _ _ _ _ _ t4 _ H7 _ I7 q7) λy t5 zz=>?_
     obtain⟨v8,H8,I8,r8,hD8,hl8,m',hm,w8⟩:=zz
     exact aP (Sq _ t5 _ H8 (.ref s2.heap.objs.size) [v8] (.ref s2.heap.objs.size) [y] (λ_ H9=>H9=upd H8 s2.heap.objs.size (.lst (acc++[v8]))) I8 rfl (.cons r8 .nil) ⟨_,acc,v8,rfl,rfl,hD8,hl8,rfl⟩) λ_ t6 zz=>by
      obtain⟨_,H9,I9,_,e9⟩:=zz
      subst e9
      exact⟨m',hm,back t6 _ _ m' I9 w8⟩
  ·obtain⟨o,e,_⟩:=VX b hb
   rw[bj (fN (bS e))]
   exact(f2 b hb).1
 exact codeAny_compStart_list loop (T.self _ 0 _ _ _ (T.keep _ _ _ mP λb hb o e=>old b o e) loop)
theorem co7(aD:List (Str × Nat))(bV:List Str)(hc:X.calm=true)(hi:PI X tg iter wi)
  (hg:∀C s H fp,PG (dX X scope (aD.map (·.1)++bV) cl C s H fp) tg g)
  (ht:∀C s H fp,mW (dX X scope (aD.map (·.1)++bV) cl C s H fp) ifs tt) (he:∀C s H fp,PE (dX X scope (aD.map (·.1)++bV) cl C s H fp) elt te)
  (nI:closureFor scope X.env=pure cl) (nJ:mX X cl) (nK:∀C:Addr,mY (cellsFrom (C+1) scope.names cl) (relabel scope X.env).names) (nL:∀C:Addr,mV X scope (cellsFrom (C+1) scope.names cl) aD)
  (iS:scope.kind=.function) (nN:∀y∈scope.names,y.2=.local->scope.names.lookup y.1=some .local)
  (hs:∀x,foldedSetIterable iter X.env x=pure x:=by intro _;rfl):PE X (.ListComp elt [⟨tg,iter,ifs,0⟩] scope pos) (BV wi aD bV.length g tt te):=by
 intro pins s σ H Q I h
 rw[eval_ListComp]
 refine VV aD bV hc hi hg ht he nI nJ nK nL iS nN hs I h λs' H' C Da m IX hn hC hL h1 h2 h3 h4 q'=>?_
 exact⟨m,hn,λh' sb=>⟨.ref Da,H',IX.turned (t':=s'.toks) (λb o hb e=>sb.extBut b o hb e) hC hL (.inr h1) h2 h3,rfl,q'⟩⟩
theorem cp0{i:Nat}{x:Str}{pos' apos:Pos}(hN:X.N.Nodup)(pJ:X.N[i]?=some x)(hx:Loc X.env.scope x)(hf:X.fn x=true\/X.env.scope.names.lookup x=some .local)(aD:List (Str × Nat))(bV:List Str)(hc:X.calm=true)(hi:PI X tg iter wi)
  (hg:∀C s H fp,PG (dX X scope (aD.map (·.1)++bV) cl C s H fp) tg g)
  (ht:∀C s H fp,mW (dX X scope (aD.map (·.1)++bV) cl C s H fp) ifs tt) (he:∀C s H fp,PE (dX X scope (aD.map (·.1)++bV) cl C s H fp) elt te)
  (nI:closureFor scope X.env=pure cl) (nJ:mX X cl) (nK:∀C:Addr,mY (cellsFrom (C+1) scope.names cl) (relabel scope X.env).names) (nL:∀C:Addr,mV X scope (cellsFrom (C+1) scope.names cl) aD)
  (iS:scope.kind=.function) (nN:∀y∈scope.names,y.2=.local->scope.names.lookup y.1=some .local)
  (sC:swapsWith (.ListComp elt [⟨tg,iter,ifs,0⟩] scope pos) (some (.Name x pos')) apos.line X.env=pure true) (hs:∀x,foldedSetIterable iter X.env x=pure x:=by intro _;rfl):PS X (.Assign [.Name x pos'] (.ListComp elt [⟨tg,iter,ifs,0⟩] scope pos) apos) (FJ (BV wi aD bV.length g tt te) (BH i)):=by
 intro pins s σ H D I h
 rw[exec_Assign_Name_used x pos' _ apos sC]
 refine wpAny_bind (wpAny_standAt (wpAny_bind ?_))
 have hh:BV wi aD bV.length g tt te σ H λv H1=>D.nx (σ.set i (some v)) H1:=h
 show wpAny _ _ (comprehension (.ListComp elt [⟨tg,iter,ifs,0⟩] scope pos) scope X.env (firstIterPos [⟨tg,iter,ifs,0⟩] pos) (newList []) false (eval iter X.env) (some (assign (.Name x pos') X.env)) >>= λ_=>pure ()) _ _ _
 refine wpAny_bind (VV (use:=some (assign (.Name x pos') X.env)) (pos:=pos) aD bV hc hi hg ht he nI nJ nK nL iS nN hs I hh λs' H' C Da m IX hn hC hL h1 h2 h3 h4 q'=>?_)
 obtain⟨oC,es,ep,hoC,VZ,rest⟩:=id hn
 have IP:Inv X (pins++[(C,oC)]) σ H' s':=⟨IX.ok,IX.os,IX.bare,IX.base,IX.loc,IX.cell,IX.free,IX.je,λp hp=>by
  rcases bW.mp hp with z | z
  ·exact IX.pin p (gQ _ z)
  ·rcases bW.mp z with z | z
   ·exact IX.pin p (fB _ z)
   ·obtain rfl:=iH.mp z
    exact⟨hoC,hC,hL,h4,λv w=>by rw[VZ]at w;cases w⟩,IX.aH,IX.len⟩
 refine aP (BJ (X:=X) hN pJ hx hf _ s' σ H' (.ref Da) (.ref Da) (λlD H2=>lD=σ.set i (some (.ref Da))/\H2=H') IP rfl ⟨rfl,rfl⟩) λ_ s2 zz=>?_
 obtain⟨lD,H2,I2,e1,e2⟩:=zz
 subst e1 e2
 have pC:=I2.pin (C,oC) (fB _ (fB _ (by simp)))
 refine⟨m,⟨oC,es,ep,pC.1,VZ,rest⟩,λh' sb=>wpAny_pure (wpAny_pure ?_)⟩
 exact⟨σ.set i (some (.ref Da)),H2,(I2.yJ).turned (t':=s2.toks) (λb o hb e=>sb.extBut b o hb e) hC hL (.inr h1) h2 h3,q'⟩
end
end L2
namespace L3
open PySem L2 PySem.Spec PyProof.Rows
section
variable{X:Cx}{elt iter tg:Expr}{pos:Pos}{ifs:List Expr}{scope:Scope}{cl:List (Str × Addr)}{ti:iy}{tt:fS}{te:aQ}{g:iz}
theorem fc(aD:List (Str × Nat))(bV:List Str)(hc:X.calm=true)(hi:PI X tg iter (lI ti))
  (hg:∀C s H fp,PG (dX X scope (aD.map (·.1)++bV) cl C s H fp) tg (lG aD.length g))
  (ht:∀C s H fp,mW (dX X scope (aD.map (·.1)++bV) cl C s H fp) ifs (lT tt)) (he:∀C s H fp,PE (dX X scope (aD.map (·.1)++bV) cl C s H fp) elt (lE te))
  (nI:closureFor scope X.env=pure cl) (nJ:mX X cl) (nK:∀C:Addr,mY (cellsFrom (C+1) scope.names cl) (relabel scope X.env).names) (nL:∀C:Addr,mV X scope (cellsFrom (C+1) scope.names cl) aD)
  (iS:scope.kind=.function) (nN:∀y∈scope.names,y.2=.local->scope.names.lookup y.1=some .local)
  (hs:∀x,foldedSetIterable iter X.env x=pure x:=by intro _;rfl):PE X (.ListComp elt [⟨tg,iter,ifs,0⟩] scope pos) (lE (oX ti aD bV.length g tt te)) :=
 dE (co7 aD bV hc hi hg ht he nI nJ nK nL iS nN hs) λσ H Q ⟨B,F,δ,ts,Qd,c,q,k⟩=>⟨B,F,δ,ts,_,c,q,λsh xs aq J F1 H1 hq f1 h1 c1 rG zi=>by
  obtain⟨p,f,hx,eQ,hlen,hQ⟩:=hq
  exact Tv c1 rG zi p f hx eQ hlen hQ λd ai v F' H' hd hf hs c'=>k d ai v F' H' hd (f1.trans hf) (h1.trans hs) c'⟩
theorem C9{i:Nat}{x:Str}{pos' apos:Pos}(hN:X.N.Nodup)(pJ:X.N[i]?=some x)(hx:L2.Loc X.env.scope x)(aD:List (Str × Nat))(bV:List Str)(hc:X.calm=true)(hi:PI X tg iter (lI ti))
  (hg:∀C s H fp,PG (dX X scope (aD.map (·.1)++bV) cl C s H fp) tg (lG aD.length g))
  (ht:∀C s H fp,mW (dX X scope (aD.map (·.1)++bV) cl C s H fp) ifs (lT tt)) (he:∀C s H fp,PE (dX X scope (aD.map (·.1)++bV) cl C s H fp) elt (lE te))
  (nI:closureFor scope X.env=pure cl) (nJ:mX X cl) (nK:∀C:Addr,mY (cellsFrom (C+1) scope.names cl) (relabel scope X.env).names) (nL:∀C:Addr,mV X scope (cellsFrom (C+1) scope.names cl) aD)
  (iS:scope.kind=.function) (nN:∀y∈scope.names,y.2=.local->scope.names.lookup y.1=some .local)
  (sC:swapsWith (.ListComp elt [⟨tg,iter,ifs,0⟩] scope pos) (some (.Name x pos')) apos.line X.env=pure true:=by rfl) (hf:X.fn x=true\/X.env.scope.names.lookup x=some .local:=by first | exact .inl rfl | exact .inr rfl)
  (hs:∀x,foldedSetIterable iter X.env x=pure x:=by intro _;rfl):PS X (.Assign [.Name x pos'] (.ListComp elt [⟨tg,iter,ifs,0⟩] scope pos) apos) (lS X (oS i (oX ti aD bV.length g tt te))) :=
 lQ (cp0 hN pJ hx hf aD bV hc hi hg ht he nI nJ nK nL iS nN sC hs) λEn σ H ⟨B,F,δ,Dd,c,q,k1,k2,k3,k4⟩=>⟨B,F,δ,[],_,c,q,λsh xs aq J F1 H1 hq f1 h1 c1 rG zi=>by
  obtain⟨p,f,hx,eQ,hlen,hQ⟩:=hq
  exact Tv (Qd:=λd ai=>Dd.nx (ai.set i (some d))) c1 rG zi p f hx eQ hlen hQ λd ai v F' H' hd hf hs c'=>k1 _ _ F' H' hd (c'.store i)⟩
end
end L3
namespace L3
open PySem L2 Mf
theorem lo1{m:Bool × Nat}(hm:m∈aw):1<aa m:=by have:=(bO hm).lo;omega
inductive Sp(N:Nat)(p q:Nat->Nat->Nat)(S:(Nat->Nat)->Prop):(Nat->Nat)->Prop
 | mem {f:Nat->Nat}:S f->Sp N p q S f
 | zero:Sp N p q S λ_=>0
 | add {f g:Nat->Nat}:Sp N p q S f->Sp N p q S g->Sp N p q S λk=>p (f k) (g k)
 | mul {f:Nat->Nat} (c:Nat):c<N->Sp N p q S f->Sp N p q S λk=>q c (f k)
theorem Sp.trans{N:Nat}{p q:Nat->Nat->Nat}{S S':(Nat->Nat)->Prop}(h:∀f,S f->Sp N p q S' f){f:Nat->Nat}(s:Sp N p q S f):Sp N p q S' f:=by
 induction s with
 | mem a=>exact h _ a
 | zero=>exact .zero
 | add _ _ a b=>exact .add a b
 | mul c hc _ a=>exact .mul c hc a
noncomputable def Gn(T:List (List Nat))(f:Nat->Nat):Prop:=∃r∈T,f=cf r
noncomputable def eD(m:Bool × Nat)(T:List (List Nat))(f:Nat->Nat):Prop:=Sp (aa m) (gp m) (gm m) (Gn T) f
theorem eD.of{m:Bool × Nat}{T:List (List Nat)}{r:List Nat}(h:r∈T):eD m T (cf r):=.mem ⟨r,h,rfl⟩
theorem cp1{m:Bool × Nat}(hm:m∈aw){a:Nat}(ha:a<aa m){f f' l:Nat->Nat}(Iu:∀k,f' k<aa m)(hl:∀k,l k<aa m)(h:∀k,gp m (f' k) (gm m a (l k))=f k):∃b,b<aa m/\f'=λk=>gp m (f k) (gm m b (l k)):=by
 have r:=rg hm
 obtain⟨b,hb,e⟩:=r.ng ha
 refine⟨b,hb,funext λk=>?_⟩
 rw[<-h k,r.pa,r.mc a,r.mc b,<- r.dl,e,r.qz,r.z' (Iu k)]
theorem Iw{m:Bool × Nat}(hm:m∈aw){r l:List Nat}{w:Nat}(hr:r.length=w)(hl:l.length=w)(a k:Nat):cf (dZ (λx y=>bg m x (gm m a y)) r l) k=bg m (cf r k) (gm m a (cf l k)):=by
 by_cases h:k<w
 ·unfold cf
  rw[aL,mK,aJ (by omega),aJ (by omega),aL,aJ (by omega),aL,aJ (by omega)]
  rfl
 ·rw[g8 (by rw[jY];omega),g8 (l:=r) (by omega),g8 (l:=l) (by omega),gx m _ (bB m hm),vJ]
theorem Iy{m:Bool × Nat}(hm:m∈aw){r l:List Nat}{w a:Nat}(hr:r.length=w)(hl:l.length=w)(ar:AllLt (aa m) r)(k:Nat):gp m (cf (dZ (λx y=>bg m x (gm m a y)) r l) k) (gm m a (cf l k))=cf r k:=by
 rw[Iw hm hr hl]
 exact(eK hm (bQ hm ar k) (cw hm _ _)).2.2
theorem V0{m:Bool × Nat}(hm:m∈aw){r l:List Nat}{w:Nat}(hr:r.length=w)(hl:l.length=w)(ar:AllLt (aa m) r)(a k:Nat):cf (dZ (λx y=>bg m x (gm m a y)) r l) k<aa m:=by
 rw[Iw hm hr hl]
 exact(eK hm (bQ hm ar k) (cw hm _ _)).2.1
theorem V1{m:Bool × Nat}(hm:m∈aw){w p i:Nat}{T:List (List Nat)}(hT:RT (aa m) w T)(e:jy T p=some i):∃(g:List Nat) (c:Nat),g∈T/\T.getD i []=g/\g.length=w/\AllLt (aa m) g/\c<aa m/\gm m c (cf g p)=1/\(dW m T i p).length=w/\AllLt (aa m) (dW m T i p)/\(∀k,cf (dW m T i p) k=gm m c (cf g k))/\cf (dW m T i p) p=1/\∀k,gm m (cf g p) (cf (dW m T i p) k)=cf g k:=by
 obtain⟨hi,h1,h2⟩:=C6 e
 obtain⟨a,b⟩:=hT _ (dv hi)
 have l1:1<aa m:=lo1 hm
 obtain⟨c,hc,vL⟩:=dd1 hm l1 (bQ hm b p) h1
 have ec:zV m (cf T[i] p)=c:=VR hm hc vL
 have el:dW m T i p=T[i].map (gm m c):=by unfold dW;rw[h2,<- ec];rfl
 have ek:∀k,cf (dW m T i p) k=gm m c (cf T[i] k):=λk=>by rw[el];exact VM hm _ _ _
 refine⟨T[i],c,dv hi,h2,a,b,hc,vL,by rw[el,bE,a],λx hx=>?_,ek,by rw[ek];exact vL,λk=>?_⟩
 ·rw[el]at hx
  obtain⟨y,_,rfl⟩:=cH.mp hx
  exact cw hm _ _
 ·rw[ek,<- fG (bB m hm),fu m _ c,vL,pW (bQ hm b k)]
theorem V2{m:Bool × Nat}{s:List (List Nat) × List (List Nat)}{p i:Nat}(e:jy s.2 p=some i):g9 m s p=(gA m s.1 (dW m s.2 i p) p++[dW m s.2 i p],gA m (s.2.take i++s.2.drop (i+1)) (dW m s.2 i p) p):=by unfold g9;rw[e]
theorem V3{m:Bool × Nat}{s:List (List Nat) × List (List Nat)}{p:Nat}(e:jy s.2 p=none):g9 m s p=s:=by unfold g9;rw[e]
theorem Dc{α:Type}{T:List α}{i:Nat}{r:α}(h:r∈T.take i++T.drop (i+1)):r∈T:=(bW.mp h).elim ya Bg
theorem cs8{α:Type}{T:List α}{i:Nat}{r:α}(h:r∈T)(hi:i<T.length):r=T[i]\/r∈T.take i++T.drop (i+1):=by
 obtain⟨j,hj,rfl⟩:=ie h
 rcases Nat.lt_trichotomy j i with h | h | h
 ·exact .inr (bW.mpr (.inl (List.mem_take_iff_getElem.mpr ⟨j,by omega,rfl⟩)))
 ·subst h;exact .inl rfl
 ·exact .inr (bW.mpr (.inr (List.mem_drop_iff_getElem.mpr ⟨j-(i+1),by omega,by congr 1;omega⟩)))
theorem b09{m:Bool × Nat}(hm:m∈aw){w n p:Nat}{s:List (List Nat) × List (List Nat)}(h:zW (aa m) w n s)(f:Nat->Nat):eD m (s.1++s.2) f↔eD m ((g9 m s p).1++(g9 m s p).2) f:=by
 cases e:jy s.2 p with
 | none=>rw[V3 e]
 | some i =>
  obtain⟨g,c,g1,g2,g3,g4,c1,c2,l1,l2,l3,l4,l5⟩:=V1 hm h.b e
  obtain⟨hi,_,hg⟩:=C6 e
  rw[V2 e]
  generalize dW m s.2 i p=l at l1 l2 l3 l4 l5
  have ll:=bQ hm l2
  have row:∀{T:List (List Nat)},RT (aa m) w T->∀r'∈gA m T l p,∃r∈T,∃b,b<aa m/\cf r'=λk=>gp m (cf r k) (gm m b (cf l k)):=λ{T} hT r' cW=>by
   obtain⟨r,hr,rfl⟩:=cH.mp cW
   obtain⟨a1,a2⟩:=hT r hr
   exact⟨r,hr,cp1 hm (bQ hm a2 p) (V0 hm a1 l1 a2 _) ll (Iy hm a1 l1 a2)⟩
  have V4:∀{T:List (List Nat)},RT (aa m) w T->∀r∈T,∃r'∈gA m T l p,cf r=λk=>gp m (cf r' k) (gm m (cf r p) (cf l k)):=λ{T} hT r hr=>by
   obtain⟨a1,a2⟩:=hT r hr
   exact⟨_,cH.mpr ⟨r,hr,rfl⟩,funext λk=>(Iy hm a1 l1 a2 k).symm⟩
  have hB:RT (aa m) w (s.2.take i++s.2.drop (i+1)):=λr hr=>h.b r (Dc hr)
  constructor
  ·refine Sp.trans ?_
   rintro f ⟨r,hr,rfl⟩
   have hl:eD m ((gA m s.1 l p++[l])++gA m (s.2.take i++s.2.drop (i+1)) l p) (cf l):=eD.of (by simp)
   rcases bW.mp hr with hr | hr
   ·obtain⟨r',h1,h2⟩:=V4 h.a r hr
    rw[h2]
    exact .add (eD.of (by simp[h1])) (.mul _ (bQ hm (h.a r hr).2 p) hl)
   ·rcases cs8 hr hi with e' | cW
    ·have:cf r=λk=>gm m (cf g p) (cf l k):=funext λk=>by rw[l5 k,e',<- hg,g2]
     rw[this]
     exact .mul _ (bQ hm g4 p) hl
    ·obtain⟨r',h1,h2⟩:=V4 hB r cW
     rw[h2]
     exact .add (eD.of (by simp[h1])) (.mul _ (bQ hm (h.b r hr).2 p) hl)
  ·refine Sp.trans ?_
   rintro f ⟨r,hr,rfl⟩
   have hl:eD m (s.1++s.2) (cf l):=by
    have:cf l=λk=>gm m c (cf g k):=funext l3
    rw[this]
    exact .mul _ c1 (eD.of (fB _ g1))
   rcases bW.mp hr with hr | hr
   ·rcases bW.mp hr with hr | hr
    ·obtain⟨r1,h1,b,hb,h2⟩:=row h.a r hr
     rw[h2]
     exact .add (eD.of (gQ _ h1)) (.mul _ hb hl)
    ·rw[iH]at hr
     rw[hr];exact hl
   ·obtain⟨r1,h1,b,hb,h2⟩:=row hB r hr
    rw[h2]
    exact .add (eD.of (fB _ (Dc h1))) (.mul _ hb hl)
structure RR(w:Nat)(R:List (List Nat))(H:Nat->Nat):Prop where
 u:∀i j,i<R.length->j<R.length->cf (R.getD i []) (H j)=if i=j then 1 else 0
 z:∀i,i<R.length->∀t,t<H i->cf (R.getD i []) t=0
 i:∀i j,i<j->j<R.length->H i<H j
 l:∀i,i<R.length->H i<w
theorem Iz{α β:Type}(f:α->β){l:List α}{i:Nat}(h:i<l.length)(a:α)(b:β):(l.map f).getD i b=f (l.getD i a):=by
 rw[aL,cm,aL,aJ h];rfl
theorem eL{α:Type}{l:List α}{i:Nat}(h:i<l.length)(a:α):l.getD i a∈l:=by
 rw[aL,aJ h];exact dv h
theorem bQ5{m:Bool × Nat}(hm:m∈aw){w n p:Nat}{s:List (List Nat) × List (List Nat)}(h:zW (aa m) w n s){H:Nat->Nat}(I:RR p s.1 H)(e2:∀r∈s.2,∀t,t<p->cf r t=0):∃H',RR (p+1) (g9 m s p).1 H'/\∀r∈(g9 m s p).2,∀t,t<p+1->cf r t=0:=by
 cases e:jy s.2 p with
 | none =>
  rw[V3 e]
  refine⟨H,⟨I.u,I.z,I.i,λi hi=>Rl (I.l i hi)⟩,λr hr t ht=>?_⟩
  rcases qI t p with h1 | h1
  ·exact e2 r hr t h1
  ·have:=dk2.mp e r hr
   have z:r.getD p 0=0:=by simpa using this
   rw[show t=p by omega]
   exact z
 | some i0 =>
  obtain⟨g,c,g1,g2,g3,g4,c1,c2,l1,l2,l3,l4,l5⟩:=V1 hm h.b e
  rw[V2 e]
  generalize dW m s.2 i0 p=l at l1 l2 l3 l4 l5
  have m0:=bB m hm
  have lz:∀t,t<p->cf l t=0:=λt ht=>by rw[l3,e2 g g1 t ht,gx m _ m0]
  have zZ:∀{r:List Nat},r.length=w->AllLt (aa m) r->(∀t,t<p->cf (dZ (λx y=>bg m x (gm m (r.getD p 0) y)) r l) t=cf r t)/\cf (dZ (λx y=>bg m x (gm m (r.getD p 0) y)) r l) p=0:=λ{r} a1 a2=>by
   constructor
   ·intro t ht
    have:=Iy hm (a:=r.getD p 0) a1 l1 a2 t
    rw[lz t ht,gx m _ m0,mj (V0 hm a1 l1 a2 _ _)]at this
    exact this
   ·rw[Iw hm a1 l1,l4]
    show bg m (r.getD p 0) (gm m (r.getD p 0) 1)=0
    rw[nD (show r.getD p 0<aa m from bQ hm a2 p),vJ]
  have nl:(gA m s.1 l p).length=s.1.length:=by unfold gA;rw[bE]
  have V5:∀i,i<s.1.length->∃r,s.1.getD i []=r/\r.length=w/\AllLt (aa m) r/\(gA m s.1 l p++[l]).getD i []=dZ (λx y=>bg m x (gm m (r.getD p 0) y)) r l:=λi hi=>by
   refine⟨_,rfl,(h.a _ (eL hi [])).1,(h.a _ (eL hi [])).2,?_⟩
   rw[aL,xY (by omega),<- aL]
   exact Iz _ hi [] []
  have V6:(gA m s.1 l p++[l]).getD s.1.length []=l:=by
   rw[aL,xX (by omega),nl,Bo];rfl
  have le:(gA m s.1 l p++[l]).length=s.1.length+1:=by rw[eG,nl];rfl
  refine⟨λi=>if i<s.1.length then H i else p,⟨λi j hi hj=>?_,λi hi t ht=>?_,λi j IA hj=>?_,λi hi=>?_⟩,λr hr t ht=>?_⟩
  ·show cf ((gA m s.1 l p++[l]).getD i []) _=_
   dsimp only at hi hj ⊢
   rw[le]at hi hj
   by_cases h1:i<s.1.length
   ·obtain⟨r,r1,r2,r3,r4⟩:=V5 i h1
    rw[r4]
    by_cases h2:j<s.1.length
    ·rw[if_pos h2,(zZ r2 r3).1 _ (I.l j h2),<- r1]
     exact I.u i j h1 h2
    ·rw[if_neg h2,(zZ r2 r3).2,if_neg (by omega)]
   ·have e1:i=s.1.length:=by omega
    rw[e1,V6]
    by_cases h2:j<s.1.length
    ·rw[if_pos h2,lz _ (I.l j h2),if_neg (by omega)]
    ·rw[if_neg h2,l4,if_pos (by omega)]
  ·dsimp only at hi ht ⊢
   rw[le]at hi
   by_cases h1:i<s.1.length
   ·rw[if_pos h1]at ht
    obtain⟨r,r1,r2,r3,r4⟩:=V5 i h1
    rw[r4,(zZ r2 r3).1 _ (by have:=I.l i h1;omega),<- r1]
    exact I.z i h1 t ht
   ·rw[if_neg h1]at ht
    have e1:i=s.1.length:=by omega
    rw[e1,V6];exact lz t ht
  ·dsimp only at hj ⊢
   rw[le]at hj
   rw[if_pos (by omega)]
   by_cases h2:j<s.1.length
   ·rw[if_pos h2];exact I.i i j IA h2
   ·rw[if_neg h2];exact I.l i (by omega)
  ·dsimp only at hi ⊢
   rw[le]at hi
   split
   ·have:=I.l i (by omega);omega
   ·omega
  ·obtain⟨r1,De,rfl⟩:=cH.mp hr
   obtain⟨a1,a2⟩:=h.b r1 (Dc De)
   rcases qI t p with h1 | h1
   ·rw[(zZ a1 a2).1 t h1];exact e2 _ (Dc De) t h1
   ·rw[show t=p by omega];exact(zZ a1 a2).2
theorem V7{m:Bool × Nat}(hm:m∈aw){w:Nat}{G:List (List Nat)}(h:RT (aa m) w G):∀k,(∃H,RR k (i8 m G k).1 H/\∀r∈(i8 m G k).2,∀t,t<k->cf r t=0)/\∀f,eD m G f↔eD m ((i8 m G k).1++(i8 m G k).2) f
 | 0=>⟨⟨λ_=>0,⟨(λ_ _ h=>nomatch h),(λ_ h=>nomatch h),(λ_ _ _ h=>nomatch h),(λ_ h=>nomatch h)⟩,λr _ t ht=>nomatch ht⟩,λf=>.rfl⟩
 | k+1=>by
  obtain⟨⟨H,h1,h2⟩,h3⟩:=V7 hm h k
  have D:=zX hm h k
  rw[Ij]
  exact⟨bQ5 hm D h1 h2,λf=>(h3 f).trans (b09 hm D f)⟩
theorem IB{m:Bool × Nat}(hm:m∈aw){G:List (List Nat)}(h:RT (aa m) (bt G) G):(∃H,RR (bt G) (cY m G) H)/\RT (aa m) (bt G) (cY m G)/\(cY m G).length<=G.length/\∀f,eD m G f↔eD m (cY m G) f:=by
 obtain⟨⟨H,h1,h2⟩,h3⟩:=V7 hm h (bt G)
 have D:=zX hm h (bt G)
 refine⟨⟨H,h1⟩,D.a,by have:=D.l;show(i8 m G (bt G)).1.length<=_;omega,λf=>(h3 f).trans ⟨Sp.trans ?_,Sp.trans ?_⟩⟩
 ·rintro f ⟨r,hr,rfl⟩
  rcases bW.mp hr with hr | hr
  ·exact eD.of hr
  ·have:cf r=λ_=>0:=funext λt=>by
    rcases qI t (bt G)with h4 | h4
    ·exact h2 r hr t h4
    ·exact g8 (by rw[(D.b r hr).1];exact h4)
   rw[this];exact .zero
 ·rintro f ⟨r,hr,rfl⟩
  exact eD.of (gQ _ hr)
theorem Df{N:Nat}{p q:Nat->Nat->Nat}(r:Rg N p q){f:Nat->Nat}{j0:Nat}(hf:f j0<N):∀{n:Nat},j0<n->(∀j,j<n->j≠j0->f j=0)->sm p n f=f j0
 | 0,h,_=>nomatch h
 | n+1,h,hz=>by
  rw[sm]
  by_cases e:j0=n
  ·subst e
   rw[gJ r λj hj=>hz j (by omega) (by omega),r.z hf]
  ·rw[Df r hf (by omega) λj hj=>hz j (by omega),hz n (by omega) (by omega),r.z' hf]
theorem eD.ann{m:Bool × Nat}(hm:m∈aw){R:List (List Nat)}{n:Nat}{y:Nat->Nat}(h:∀x∈R,sm (gp m) n (λj=>gm m (cf x j) (y j))=0){f:Nat->Nat}(s:eD m R f):sm (gp m) n (λj=>gm m (f j) (y j))=0:=by
 have r:=rg hm
 have m0:=bB m hm
 induction s with
 | mem a=>obtain⟨x,hx,rfl⟩:=a;exact h x hx
 | zero=>exact gJ r λj _=>dM m _ m0
 | @add f g _ _ a b =>
  rw[dU (g:=λj=>gp m (gm m (f j) (y j)) (gm m (g j) (y j))) λj _=>by dsimp only;rw[r.mc (gp m _ _),r.dl,r.mc (y j),r.mc (y j)],p7 r,a,b,r.z r.pos]
 | @mul f e he _ a =>
  rw[dU (g:=λj=>gm m e (gm m (f j) (y j))) λj _=>fG m0 _ _ _,mm r,a,r.qz]
theorem RR.Dg{m:Bool × Nat}(hm:m∈aw){w:Nat}{R:List (List Nat)}{H:Nat->Nat}(hR:RT (aa m) w R)(I:RR w R H){i:Nat}(hi:i<R.length):(R.getD i []).findIdx (· != 0)=H i/\∃x∈R.getD i [],x≠0:=by
 have a:=(hR _ (eL hi [])).1
 have l:=I.l i hi
 have u:=I.u i i hi hi
 rw[if_pos rfl]at u
 have eu:(R.getD i [])[H i]'(by omega)=1:=by
  unfold cf at u
  rw[aL (l:=R.getD i []),aJ (by omega)]at u
  exact u
 refine⟨?_,_,dv (show H i<(R.getD i []).length by omega),by rw[eu];decide⟩
 rw[List.findIdx_eq (by omega)]
 refine⟨by rw[eu];rfl,λj hj=>?_⟩
 have z:=I.z i hi j hj
 unfold cf at z
 rw[aL (l:=R.getD i []),aJ (by omega)]at z
 simpa using z
theorem tf{a b:List Nat}{w:Nat}(ha:a.length=w)(hb:b.length=w)(h:∀k,k<w->cf a k=cf b k):a=b:=by
 refine Ro (ha.trans hb.symm) λk h1 h2=>?_
 have:=h k (by omega)
 unfold cf at this
 rw[aL,aL,aJ h1,aJ h2]at this
 exact this
theorem IC(f:Nat->Nat){w k:Nat}(h:k<w):cf ((aS w).map f) k=f k:=by
 unfold cf
 rw[aL,cm,jX h];rfl
theorem V8(m:Bool × Nat){xs ys:List Nat}(h:xs.length=ys.length):gd m xs ys=sm (gp m) xs.length λj=>gm m (cf xs j) (cf ys j):=by
 unfold gd
 rw[VL,jY,h,qD]
 refine dU λj hj=>?_
 unfold cf
 rw[aL,mK,aJ (by omega),aJ (by omega),aL,aJ (by omega),aL,aJ (by omega)]
 rfl
noncomputable def dN(r:List Nat):Nat:=r.findIdx (· != 0)
noncomputable def bM(G:List (List Nat))(u:List Nat):List (List Nat):=dZ (λr x=>r++[x]) G u
theorem Dh{N:Nat}{G:List (List Nat)}{u:List Nat}(h0:0<G.length)(hu:u.length=G.length)(hR:RT N (bt G) G)(ha:AllLt N u):bt (bM G u)=bt G+1/\(bM G u).length=G.length/\RT N (bt G+1) (bM G u):=by
 refine⟨?_,by unfold bM;rw[jY,hu,qD],λr hr=>?_⟩
 ·cases G with
  | nil=>simp at h0
  | cons g G =>
   cases u with
   | nil=>simp at hu
   | cons y u=>show(g++[y]).length=g.length+1;simp
 ·unfold bM at hr
  obtain⟨i,hi,rfl⟩:=ie hr
  rw[jY]at hi
  rw[dj2]
  obtain⟨a,b⟩:=hR _ (dv (show i<G.length by omega))
  refine⟨by rw[eG,a];rfl,λx hx=>?_⟩
  rcases bW.mp hx with hx | hx
  ·exact b x hx
  ·rw[iH]at hx
   rw[hx];exact ha _ (dv _)
noncomputable def i9(R:List (List Nat))(w:Nat):List Nat:=((R.map dN).zip R).foldl (λx z=>x.set z.1 (z.2.getD w 0)) (aV w 0)
noncomputable def p8(m:Bool × Nat)(G:List (List Nat))(u:List Nat):Option (List Nat):=if((cY m (bM G u)).map dN).contains (bt G)then none else some (i9 (cY m (bM G u)) (bt G))
theorem ID{α:Type}(a b:α->Nat){j:Nat}:∀(l:List α) (x:List Nat),(∀z∈l,a z≠j)->cf (l.foldl (λx z=>x.set (a z) (b z)) x) j=cf x j
 | [],_,_=>rfl
 | z::l,x,h=>by
  rw[qy,ID a b l _ λy hy=>h y (eE _ hy)]
  unfold cf
  rw[aL,xU (h z gP),<- aL]
theorem V9{α:Type}(a b:α->Nat):∀(l:List α) (x:List Nat),l.Pairwise (λy z=>a y≠a z)->∀z∈l,a z<x.length->cf (l.foldl (λx z=>x.set (a z) (b z)) x) (a z)=b z
 | [],_,_,_,h,_=>nomatch h
 | y::l,x,hp,z,hz,hl=>by
  rw[qy]
  rw[List.pairwise_cons]at hp
  rcases bX.mp hz with rfl | hz
  ·rw[ID a b l _ λy hy=>fe (hp.1 y hy)]
   unfold cf
   rw[aL,QZ hl];rfl
  ·exact V9 a b l _ hp.2 z hz (by rw[mB];exact hl)
theorem Wa{α:Type}(a b:α->Nat):∀(l:List α) (x:List Nat),(l.foldl (λx z=>x.set (a z) (b z)) x).length=x.length
 | [],_=>rfl
 | z::l,x=>by rw[qy,Wa a b l,mB]
theorem Wb{m:Bool × Nat}(hm:m∈aw){w:Nat}{R:List (List Nat)}{H:Nat->Nat}(hR:RT (aa m) (w+1) R)(I:RR (w+1) R H)(hw:∀i,i<R.length->H i≠w):(i9 R w).length=w/\AllLt (aa m) (i9 R w)/\(∀i,i<R.length->cf (i9 R w) (H i)=cf (R.getD i []) w)/\∀j,(∀i,i<R.length->H i≠j)->cf (i9 R w) j=0:=by
 have l1:=lo1 hm
 have zl:((R.map dN).zip R).length=R.length:=by rw[t8,bE,qD]
 have zg:∀i (h:i<R.length),((R.map dN).zip R)[i]'(by omega)=(H i,R.getD i []):=λi h=>by
  rw[List.getElem_zip,Rv]
  have e:R.getD i []=R[i]:=by rw[aL,aJ h];rfl
  have:=(I.Dg hm hR h).1
  rw[e]at this ⊢
  exact Bl this rfl
 have zm:∀z∈(R.map dN).zip R,∃i,i<R.length/\z=(H i,R.getD i []):=λz hz=>by
  obtain⟨i,hi,rfl⟩:=ie hz
  exact⟨i,by omega,zg i (by omega)⟩
 have mz:∀i,i<R.length->(H i,R.getD i [])∈(R.map dN).zip R:=λi h=>by
  rw[<-zg i h];exact dv _
 have len:(i9 R w).length=w:=by
  unfold i9
  rw[Wa (λz:Nat × List Nat=>z.1) (λz=>z.2.getD w 0),ib]
 have bd:∀z∈(R.map dN).zip R,z.2.getD w 0<aa m:=λz hz=>by
  obtain⟨i,hi,rfl⟩:=zm z hz
  exact bQ hm (hR _ (eL hi [])).2 w
 refine⟨len,?_,λi hi=>?_,λj hj=>?_⟩
 ·have key:∀(l:List (Nat × List Nat)) (x:List Nat),(∀z∈l,z.2.getD w 0<aa m)->AllLt (aa m) x->AllLt (aa m) (l.foldl (λx z=>x.set z.1 (z.2.getD w 0)) x):=by
   intro l
   induction l with
   | nil=>exact λx _ h=>h
   | cons z l ih =>
    intro x hz h
    rw[qy]
    refine ih _ (λy hy=>hz y (eE _ hy)) λy hy=>?_
    rcases yf hy with h1 | h1
    ·exact h y h1
    ·rw[h1];exact hz z gP
  exact key _ _ bd λx hx=>by rw[(x8.mp hx).2];omega
 ·have hp:((R.map dN).zip R).Pairwise (λy z:Nat × List Nat=>y.1≠z.1):=by
   rw[List.pairwise_iff_getElem]
   intro i j hi hj IA
   rw[zg i (by omega),zg j (by omega)]
   have:=I.i i j IA (by omega)
   show H i≠H j
   omega
  have h1:=I.l i hi
  have h2:=hw i hi
  exact V9 (λz:Nat × List Nat=>z.1) (λz=>z.2.getD w 0) _ _ hp _ (mz i hi) (by rw[ib];show H i<w;omega)
 ·unfold i9
  rw[ID (λz:Nat × List Nat=>z.1) (λz=>z.2.getD w 0) _ _ λz hz=>?_]
  ·unfold cf
   rw[aL,tU]
   split<;>rfl
  ·obtain⟨i,hi,rfl⟩:=zm z hz
   exact hj i hi
theorem Wc{G:List (List Nat)}{u:List Nat}{w a:Nat}(ha:a<G.length)(hu:u.length=G.length)(hw:(G.getD a []).length=w):(∀j,j<w->cf ((bM G u).getD a []) j=cf (G.getD a []) j)/\cf ((bM G u).getD a []) w=cf u a:=by
 have e:(bM G u).getD a []=G.getD a []++[u.getD a 0]:=by
  unfold bM
  rw[aL,mK,aL,aL,aJ ha,aJ (by omega)];rfl
 rw[e]
 generalize G.getD a []=g at hw
 refine⟨λj hj=>?_,?_⟩
 ·unfold cf
  rw[aL,xY (by omega),<- aL]
 ·unfold cf
  rw[aL,xX (by omega),hw,Bo];rfl
theorem Wd{m:Bool × Nat}(hm:m∈aw):∃e,e<aa m/\gp m 1 e=0/\e≠0/\∀{a b},a<aa m->b<aa m->(gp m a (gm m b e)=0↔a=b):=by
 have r:=rg hm
 obtain⟨e,he,h⟩:=r.ng (lo1 hm)
 refine⟨e,he,h,λz=>?_,λ{a b} ha hb=>?_⟩
 ·rw[z,r.z' (lo1 hm)]at h;omega
 ·have k:gp m b (gm m b e)=0:=by
   have:=r.dl b 1 e
   rw[h,r.qz,nD hb]at this
   exact this.symm
  exact⟨λh1=>r.CW ha hb (cw hm b e) (h1.trans k.symm),λh1=>h1 ▸ k⟩
theorem cP1{m:Bool × Nat}(hm:m∈aw){G:List (List Nat)}{u:List Nat}(h0:0<G.length)(hu:u.length=G.length)(hR:RT (aa m) (bt G) G)(ha:AllLt (aa m) u){x:Nat->Nat}(hx:∀j,x j<aa m)(h:∀a,a<G.length->sm (gp m) (bt G) (λj=>gm m (cf (G.getD a []) j) (x j))=cf u a):∃X,p8 m G u=some X/\X.length=bt G/\AllLt (aa m) X/\∀a,a<G.length->sm (gp m) (bt G) (λj=>gm m (cf (G.getD a []) j) (cf X j))=cf u a:=by
 obtain⟨w1,w2,w3⟩:=Dh h0 hu hR ha
 have w4:=w3
 rw[<-w1]at w4
 obtain⟨⟨H,I⟩,iR,il,sp⟩:=IB hm w4
 rw[w1]at I iR
 have r:=rg hm
 obtain⟨e,e1,e2,e3,e4⟩:=Wd hm
 have dot:∀(y:Nat->Nat),(∀j,y j<aa m)->∀a,a<G.length->sm (gp m) (bt G+1) (λj=>gm m (cf ((bM G u).getD a []) j) (if j<bt G then y j else e))=gp m (sm (gp m) (bt G) λj=>gm m (cf (G.getD a []) j) (y j)) (gm m (cf u a) e):=λy hy a h1=>by
  obtain⟨c1,c2⟩:=Wc h1 hu (hR _ (eL h1 [])).1
  rw[sm,if_neg (fA _),c2]
  refine congrArg (λz=>gp m z _) (dU λj hj=>?_)
  rw[c1 j hj,if_pos hj]
 have ann:∀x'∈bM G u,sm (gp m) (bt G+1) (λj=>gm m (cf x' j) (if j<bt G then x j else e))=0:=λx' dk=>by
  obtain⟨a,h1,rfl⟩:=ie dk
  have ea:(bM G u)[a]=(bM G u).getD a []:=by rw[aL,aJ h1];rfl
  rw[ea,dot x hx a (by omega),h a (by omega)]
  exact(e4 (bQ hm ha a) (bQ hm ha a)).mpr rfl
 have hw:∀i,i<(cY m (bM G u)).length->H i≠bt G:=λi hi z=>by
  have:=eD.ann hm ann ((sp _).mpr (eD.of (eL hi [])))
  rw[sm,gJ r λj hj=>?_,if_neg (fA _)]at this
  ·have u1:=I.u i i hi hi
   rw[z,if_pos rfl]at u1
   rw[u1,pW e1,r.z e1]at this
   exact e3 this
  ·rw[I.z i hi j (by omega),dM m _ (bB m hm)]
 obtain⟨X1,X2,X3,X4⟩:=Wb hm iR I hw
 refine⟨i9 (cY m (bM G u)) (bt G),?_,X1,X2,λa h1=>?_⟩
 ·unfold p8
  rw[if_neg]
  intro c
  obtain⟨y,hy,hz⟩:=cH.mp (t9.mp c)
  obtain⟨i,hi,rfl⟩:=ie hy
  refine hw i hi ?_
  rw[<-(I.Dg hm iR hi).1,<- hz,aL,aJ hi];rfl
 ·have IE:∀x'∈cY m (bM G u),sm (gp m) (bt G+1) (λj=>gm m (cf x' j) (if j<bt G then cf (i9 (cY m (bM G u)) (bt G)) j else e))=0:=λx' dk=>by
   obtain⟨i,hi,rfl⟩:=ie dk
   have ei:(cY m (bM G u))[i]=(cY m (bM G u)).getD i []:=by rw[aL,aJ hi];rfl
   have tu:=bQ hm (iR _ (eL hi [])).2
   have hl:H i<bt G:=by have:=I.l i hi;have:=hw i hi;omega
   rw[ei,sm,if_neg (fA _),Df r (f:=λj=>gm m (cf ((cY m (bM G u)).getD i []) j) (if j<bt G then cf (i9 (cY m (bM G u)) (bt G)) j else e)) (cw hm _ _) hl λj hj hn=>?_]
   ·rw[if_pos hl,X3 i hi,I.u i i hi hi,if_pos rfl,pW (tu _)]
    exact(e4 (tu _) (tu _)).mpr rfl
   ·rw[if_pos hj]
    by_cases c:∃i',i'<(cY m (bM G u)).length/\H i'=j
    ·obtain⟨i',h1,rfl⟩:=c
     rw[I.u i i' hi h1,if_neg (λz:i=i'=>hn (by rw[z])),dM m _ (bB m hm)]
    ·rw[X4 j λi' h1 h2=>c ⟨i',h1,h2⟩,r.qz]
  have:=eD.ann hm IE ((sp _).mp (eD.of (eL (show a<(bM G u).length by omega) [])))
  rw[dot _ (bQ hm X2) a h1]at this
  exact(e4 (kL r λj _=>cw hm _ _) (bQ hm ha a)).mp this
end L3
namespace L3
open PySem L2 Mf
theorem IF{N n:Nat}{M:List (List Nat)}(h:RT N n M)(h0:M≠[]):bt M=n:=by
 cases M with
 | nil=>exact absurd rfl h0
 | cons g M=>exact(h g gP).1
end L3
namespace L3
open PySem L2 PySem.Spec PyProof.Rows
section
variable{X:Cx}{F H:Hp}{e b:Expr}{pos pos' p p2 p3 apos bY:Pos}{ti te:aQ}{x y:Str}{i j:Nat}
end
section
variable{X:Cx}
end
section
variable{X:Cx}{es:List Expr}{tr:cL}{pos:Pos}
theorem cP5(h:PA X es (lA tr)):PE X (.List es pos) (lB (oO tr)) :=
 dE (R1 h) λσ H Q ⟨B,F,δ,ts,Qd,c,q,k⟩=>⟨B,F,δ,ts,_,c,q,λds aq vs F1 H1 q1 f1 h1 c1 s1=>⟨by rw[<-s1.length];exact q1.1,λp hp=>k _ aq _ F1 _ q1.2 f1 (h1.trans (ag.upd hp)) (c1.grow (ag.upd hp)) (.own cA (s1.mono (ag.refl _) (ag.upd hp)) .nil)⟩⟩
end
end L3
namespace L3
open PySem L2 Mf
end L3
namespace L3
open PySem L2 Mf
end L3
namespace L3
open PySem L2 Mf
theorem IG{r:List Nat}{k v:Nat}(hk:k<r.length)(j:Nat):cf (r.set k v) j=if j=k then v else cf r j:=by
 unfold cf
 rw[aL,List.getElem?_set,aL]
 by_cases h:k=j
 ·subst h
  rw[if_pos rfl,if_pos rfl,if_pos hk];rfl
 ·rw[if_neg h,if_neg (fe h)]
end L3
namespace L2
open PySem PySem.Spec PyProof.Rows
section
variable{X:Cx}
end
end L2
namespace L3
open PySem L2 PySem.Spec PyProof.Rows
section
variable{X:Cx}
end
end L3
namespace L2
open PySem PySem.Spec PyProof.Rows
section
variable{X:Cx}{a:Expr}{ta:TE}{p p2 pos z0:Pos}
end
end L2
namespace L3
open PySem L2 PySem.Spec PyProof.Rows
section
variable{X:Cx}{a:Expr}{t:aQ}{p p2 pos z0:Pos}
end
end L3
namespace L3
open PySem L2 PySem.Spec PyProof.Rows
section
variable{F H:Hp}
end
section
variable{X:Cx}{e:Expr}{t:aQ}{p2 pos:Pos}
end
end L3
namespace L3
open PySem L2 PySem.Spec PyProof.Rows
section
variable{F H:Hp}
end
section
variable{P:Program}{w:World}{K:PySem.W.Frag}{mg:Str->Option Value}{base:Heap}
end
section
variable{X:Cx}{CX:eY}{n i:Nat}{f:Addr}{fd:FuncData}{ps:List Str}{sp:bh}{E:XK}{fn x:Str}{e:Expr}{te:aQ}{p p2 pos pos' z0:Pos}
end
end L3
namespace L2
section
variable{α:Type}{P:List α->Prop}
theorem cW0(h:P []):∀us:List α,us.length=0->P us:=by
 intro us hl;rcases us with _ | ⟨a,t⟩
 ·exact h
 ·cases hl
theorem hE(h:∀a,P [a]):∀us:List α,us.length=1->P us:=by
 intro us hl;rcases us with _ | ⟨a,t⟩
 ·cases hl
 ·exact cW0 (P:=λt=>P (a::t)) (h a) t (Br hl)
theorem gj(h:∀a b,P [a,b]):∀us:List α,us.length=2->P us:=by
 intro us hl;rcases us with _ | ⟨a,t⟩
 ·cases hl
 ·exact hE (P:=λt=>P (a::t)) (h a) t (Br hl)
theorem eU(h:∀a b c,P [a,b,c]):∀us:List α,us.length=3->P us:=by
 intro us hl;rcases us with _ | ⟨a,t⟩
 ·cases hl
 ·exact gj (P:=λt=>P (a::t)) (h a) t (Br hl)
theorem kM(h:∀a b c d,P [a,b,c,d]):∀us:List α,us.length=4->P us:=by
 intro us hl;rcases us with _ | ⟨a,t⟩
 ·cases hl
 ·exact eU (P:=λt=>P (a::t)) (h a) t (Br hl)
theorem IH(h:∀a b c d e,P [a,b,c,d,e]):∀us:List α,us.length=5->P us:=by
 intro us hl;rcases us with _ | ⟨a,t⟩
 ·cases hl
 ·exact kM (P:=λt=>P (a::t)) (h a) t (Br hl)
end
end L2
namespace L3
open PySem L2 PySem.Spec PyProof.Rows
section
variable{B:Bs}{F H:Hp}{σ:L2.St}{δ:Dl}{ts:List (D × V)}
end
section
variable{X:Cx}{elt iter tg:Expr}{pos:Pos}{scope:Scope}{cl:List (Str × Addr)}{ti:iy}{te:aQ}{g:iz}
end
end L3
namespace L2
open PySem PySem.Spec PyProof.Rows
section
variable{X:Cx}
end
end L2
namespace L3
open PySem L2 PySem.Spec PyProof.Rows
section
variable{X:Cx}
end
end L3
namespace L3
open PySem L2 Mf
theorem We{m:Bool × Nat}(hm:m∈aw){a b:Nat}(ha:a+1<aa m)(hb:b+1<aa m):eS m ((a:Int)-(b:Int))=1↔a=b:=by
 constructor
 ·intro h
  have h1:=(jR hm ((a:Int)-b)).2.2.1
  have h2:=(jR hm 0).2.2.1
  rw[CN hm,Rq]at h2
  rw[h,h2]at h1
  by_cases c:a<=b
  ·have e:((a:Int)-b)=-((b-a:Nat):Int):=by omega
   have d:=Int.dvd_of_emod_eq_zero h1.symm
   rw[e]at d
   have d2:=Int.dvd_neg.mp d
   obtain⟨k,hk⟩:=d2
   have hN:(0:Int)<(aa m:Int)-1:=by omega
   by_cases k0:k<=0
   ·have:((aa m:Int)-1)*k<=0:=Int.mul_nonpos_of_nonneg_of_nonpos (by omega) k0
    omega
   ·have:((aa m:Int)-1)*1<=((aa m:Int)-1)*k:=Int.mul_le_mul_of_nonneg_left (by omega) (by omega)
    omega
  ·have e:((a:Int)-b)%((aa m:Int)-1)=(a:Int)-b:=Bi (by omega) (by omega)
   rw[e]at h1
   omega
 ·rintro rfl
  rw[Int.sub_self,CN hm]
theorem tw{m:Bool × Nat}(hm:m∈aw){a b:Nat}(ha:a<aa m)(hb:b<aa m):gm m a b=0↔a=0\/b=0:=by
 constructor
 ·intro h
  by_cases a0:a=0
  ·exact .inl a0
  ·by_cases b0:b=0
   ·exact .inr b0
   ·exact absurd h (c01 hm (by omega) ha (by omega) hb)
 ·rintro (rfl | rfl)
  ·exact dM m _ (bB m hm)
  ·exact gx m _ (bB m hm)
noncomputable def gK(m:Bool × Nat)(p:Nat):List Nat:=[1,bg m 0 (eS m (p:Int))]
noncomputable def dH(m:Bool × Nat)(ps:List Nat):List Nat:=ps.foldl (λf p=>fI m f (gK m p)) [1]
theorem II{m:Bool × Nat}(hm:m∈aw)(p:Nat):AllLt (aa m) (gK m p):=λa ha=>by
 have cZ:=lo1 hm
 unfold gK at ha
 simp only[bX,ig,or_false]at ha
 rcases ha with rfl | rfl
 ·omega
 ·exact(eK hm (by omega) (i7 hm _)).2.1
theorem IJ{m:Bool × Nat}(hm:m∈aw):AllLt (aa m) [1]:=λa ha=>by
 have cZ:=lo1 hm
 simp only[bX,ig,or_false]at ha
 omega
theorem Wf{m:Bool × Nat}(hm:m∈aw){p q:Nat}(hp:p+1<aa m)(hq:q+1<aa m):aG m (eS m (-(q:Int))) (gK m p)=0↔p=q:=by
 have cZ:=lo1 hm
 have h0:=bB m hm
 have r:=rg hm
 obtain⟨_,g1,g2⟩:=eK hm (a:=0) (b:=eS m (p:Int)) (by omega) (i7 hm _)
 have hX:=i7 hm (-(q:Int))
 have e:aG m (eS m (-(q:Int))) (gK m p)=gp m (gm m (bg m 0 (eS m (p:Int))) (eS m (-(q:Int)))) 1:=by
  show gp m (gm m (gp m (gm m 0 _) _) _) 1=_
  rw[dM m _ h0,gy g1]
 have k:gp m (gm m (bg m 0 (eS m (p:Int))) (eS m (-(q:Int)))) (gm m (eS m (p:Int)) (eS m (-(q:Int))))=0:=by
  rw[<-sX h0,g2,dM m _ h0]
 rw[e,<- We hm hp hq,Ry,<- pZ hm]
 constructor
 ·intro z
  have:=z.trans k.symm
  rw[ju m _ 1,ju m (gm m (bg m 0 _) _) _]at this
  exact(r.CW (by omega) (cw hm _ _) (cw hm _ _) this).symm
 ·intro z
  rw[z]at k
  exact k
theorem Wg{m:Bool × Nat}(hm:m∈aw):∀(ps f:List Nat),AllLt (aa m) f->AllLt (aa m) (ps.foldl (λf p=>fI m f (gK m p)) f)/\(ps.foldl (λf p=>fI m f (gK m p)) f).length<=f.length+2*ps.length
 | [],f,h=>⟨h,bI _⟩
 | p::ps,f,h=>by
  have ih:=Wg hm ps (fI m f (gK m p)) (CS hm _ _)
  refine⟨ih.1,eM ih.2 ?_⟩
  have:=cv2 m f (gK m p)
  rw[show(gK m p).length=2 from rfl]at this
  rw[dO]
  omega
theorem Wh{m:Bool × Nat}(hm:m∈aw){X:Nat}:∀(ps f:List Nat),AllLt (aa m) f->(aG m X (ps.foldl (λf p=>fI m f (gK m p)) f)=0↔aG m X f=0\/∃p∈ps,aG m X (gK m p)=0)
 | [],f,h=>by simp
 | p::ps,f,h=>by
  rw[qy,Wh hm ps _ (CS hm _ _),HX hm X f _ h (II hm p),tw hm (jv hm X h) (jv hm X (II hm p))]
  simp only[bX,exists_eq_or_imp,or_assoc]
theorem vP{m:Bool × Nat}(hm:m∈aw)(ps:List Nat):AllLt (aa m) (dH m ps)/\(dH m ps).length<=1+2*ps.length:=Wg hm ps [1] (IJ hm)
theorem Di(m:Bool × Nat)(ps:List Nat)(p:Nat):dH m (ps++[p])=fI m (dH m ps) (gK m p):=by unfold dH;rw[Bp];rfl
theorem cs2(m:Bool × Nat)(ps:List Nat):(dH m ps).length=0\/(dH m ps).getD ((dH m ps).length-1) 0≠0:=by
 rcases List.eq_nil_or_concat ps with rfl | ⟨l,p,rfl⟩
 ·right;show(1:Nat)≠0;omega
 ·rw[List.concat_eq_append,Di]
  exact HS _
theorem IK{m:Bool × Nat}(hm:m∈aw){ps:List Nat}(hp:∀p∈ps,p+1<aa m){q:Nat}(hq:q+1<aa m):aG m (eS m (-(q:Int))) (dH m ps)=0↔q∈ps:=by
 have cZ:=lo1 hm
 unfold dH
 rw[Wh hm ps [1] (IJ hm)]
 constructor
 ·rintro (h | ⟨p,h1,h2⟩)
  ·exfalso
   have:aG m (eS m (-(q:Int))) [1]=1:=by
    show gp m (gm m 0 _) 1=1
    rw[dM m _ (bB m hm),gy (by omega)]
   omega
  ·rwa [<-(Wf hm (hp p h1) hq).mp h2]
 ·exact λh=>.inr ⟨q,h,(Wf hm hq hq).mpr rfl⟩
theorem Wi{m:Bool × Nat}(hm:m∈aw)(x n:Nat):∀(l:List Nat),aG m x (l++aV n 0)=aG m x l
 | []=>by
  induction n with
  | zero=>rfl
  | succ n ih =>
   have cZ:=lo1 hm
   rw[mC]at ih ⊢
   show gp m (gm m (aG m x (aV n 0)) x) 0=0
   rw[ih]
   show gp m (gm m 0 x) 0=0
   rw[dM m _ (bB m hm),mj (by omega)]
 | a::l=>by
  show gp m (gm m (aG m x (l++aV n 0)) x) a=_
  rw[Wi hm x n l];rfl
theorem IL{m:Bool × Nat}(hm:m∈aw)(x:Nat->Nat)(hx:∀j,x j<aa m):∀(n:Nat) (c:Nat->Nat),(∀j,c j<aa m)->(∀i j,i<n->j<n->x i=x j->i=j)->(∀i,i<n->sm (gp m) n (λj=>gm m (c j) (px m (x j) i))=0)->∀j,j<n->c j=0
 | 0,_,_,_,_,j,hj=>absurd hj (by omega)
 | n+1,c,hc,hd,h,j,hj=>by
  have r:=rg hm
  have h0:=bB m hm
  have cZ:=lo1 hm
  have dn:∀j,bg m (x j) (x n)<aa m/\gp m (bg m (x j) (x n)) (x n)=x j:=λj=>(eK hm (hx j) (hx n)).2
  have key:∀i,i<n->sm (gp m) n (λj=>gm m (gm m (c j) (bg m (x j) (x n))) (px m (x j) i))=0:=λi hi=>by
   have h1:=h (i+1) (by omega)
   have hz:=h i (by omega)
   have e:∀j,gm m (c j) (px m (x j) (i+1))=gp m (gm m (gm m (c j) (bg m (x j) (x n))) (px m (x j) i)) (gm m (x n) (gm m (c j) (px m (x j) i))):=λj=>by
    show gm m (c j) (gm m (px m (x j) i) (x j))=_
    have e1:gm m (px m (x j) i) (x j)=gm m (px m (x j) i) (gp m (bg m (x j) (x n)) (x n)):=by rw[(dn j).2]
    rw[e1,sY h0,sY h0]
    congr 1
    ·rw[fG h0,fu m (px m (x j) i)]
    ·rw[fu m (px m (x j) i),<- fG h0,fu m (c j),fG h0]
   rw[dU λj _=>e j,p7 r,mm r,hz,r.qz]at h1
   have ln:sm (gp m) n (λj=>gm m (gm m (c j) (bg m (x j) (x n))) (px m (x j) i))<aa m:=kL r λ_ _=>cw hm _ _
   rw[sm,vJ,gx m _ h0,dM m _ h0,mj ln,mj ln]at h1
   exact h1
  have ih:=IL hm x hx n (λj=>gm m (c j) (bg m (x j) (x n))) (λ_=>cw hm _ _) (λi j hi hj=>hd i j (by omega) (by omega)) key
  have cz:∀j,j<n->c j=0:=λj hj=>by
   rcases(tw hm (hc j) (dn j).1).mp (ih j hj)with z | z
   ·exact z
   ·have:=(dn j).2
    rw[z,gy (hx n)]at this
    exact absurd (hd n j (by omega) (by omega) this) (by omega)
  by_cases c0:j<n
  ·exact cz j c0
  ·have ej:j=n:=by omega
   subst ej
   have:=h 0 (by omega)
   rw[sm,gJ r λi hi=>by rw[cz i hi,dM m _ h0]]at this
   rw[show px m (x j) 0=1 from rfl,nD (hc j),gy (hc j)]at this
   exact this
theorem cp6{m:Bool × Nat}(hm:m∈aw){G:List (List Nat)}{u X:List Nat}(h0:0<G.length)(hu:u.length=G.length)(hR:RT (aa m) (bt G) G)(ha:AllLt (aa m) u)(hs:p8 m G u=some X):X.length=bt G/\AllLt (aa m) X/\∀a,a<G.length->sm (gp m) (bt G) (λj=>gm m (cf (G.getD a []) j) (cf X j))=cf u a:=by
 obtain⟨w1,w2,w3⟩:=Dh h0 hu hR ha
 have w4:=w3
 rw[<-w1]at w4
 obtain⟨⟨H,I⟩,iR,il,sp⟩:=IB hm w4
 rw[w1]at I iR
 have r:=rg hm
 obtain⟨e,e1,e2,e3,e4⟩:=Wd hm
 unfold p8 at hs
 have hc:((cY m (bM G u)).map dN).contains (bt G)=false:=by
  cases c:((cY m (bM G u)).map dN).contains (bt G)with
  | false=>rfl
  | true=>rw[c]at hs;simp at hs
 rw[hc,if_neg (by decide)]at hs
 have eX:=cQ hs
 subst eX
 have hw:∀i,i<(cY m (bM G u)).length->H i≠bt G:=λi hi z=>by
  have:((cY m (bM G u)).map dN).contains (bt G)=true:=t9.mpr (cH.mpr ⟨_,eL hi [],(I.Dg hm iR hi).1.trans z⟩)
  rw[hc]at this;cases this
 obtain⟨X1,X2,X3,X4⟩:=Wb hm iR I hw
 refine⟨X1,X2,λa h1=>?_⟩
 have IE:∀x'∈cY m (bM G u),sm (gp m) (bt G+1) (λj=>gm m (cf x' j) (if j<bt G then cf (i9 (cY m (bM G u)) (bt G)) j else e))=0:=λx' dk=>by
  obtain⟨i,hi,rfl⟩:=ie dk
  have ei:(cY m (bM G u))[i]=(cY m (bM G u)).getD i []:=by rw[aL,aJ hi];rfl
  have tu:=bQ hm (iR _ (eL hi [])).2
  have hl:H i<bt G:=by have:=I.l i hi;have:=hw i hi;omega
  rw[ei,sm,if_neg (fA _),Df r (f:=λj=>gm m (cf ((cY m (bM G u)).getD i []) j) (if j<bt G then cf (i9 (cY m (bM G u)) (bt G)) j else e)) (cw hm _ _) hl λj hj hn=>?_]
  ·rw[if_pos hl,X3 i hi,I.u i i hi hi,if_pos rfl,pW (tu _)]
   exact(e4 (tu _) (tu _)).mpr rfl
  ·rw[if_pos hj]
   by_cases c:∃i',i'<(cY m (bM G u)).length/\H i'=j
   ·obtain⟨i',h1,rfl⟩:=c
    rw[I.u i i' hi h1,if_neg (λz:i=i'=>hn (by rw[z])),dM m _ (bB m hm)]
   ·rw[X4 j λi' h1 h2=>c ⟨i',h1,h2⟩,r.qz]
 have:=eD.ann hm IE ((sp _).mp (eD.of (eL (show a<(bM G u).length by omega) [])))
 obtain⟨c1,c2⟩:=Wc h1 hu (hR _ (eL h1 [])).1
 rw[sm,if_neg (fA _),c2,dU (g:=λj=>gm m (cf (G.getD a []) j) (cf (i9 (cY m (bM G u)) (bt G)) j)) λj hj=>by rw[c1 j hj,if_pos hj]]at this
 exact(e4 (kL r λj _=>cw hm _ _) (bQ hm ha a)).mp this
theorem ch6(l:List Nat):aj l=aC (l.map λ(n:Nat)=>(n:Int)):=by rw[cG];unfold aC;rw[dh];rfl
theorem Wj{xs ys:List Nat}{i:Nat}{d:D}(h:(dq (aj xs) (aj ys))[i]?=some d):∃(hi:i<xs.length) (hj:i<ys.length),d=.tup [.int (xs[i]:Nat),.int (ys[i]:Nat)]:=by
 unfold dq at h
 rw[cG,cG,yc]at h
 have hl:=(iF.mp h).1
 rw[jY]at hl
 have hi:i<xs.length:=by omega
 have hj:i<ys.length:=by omega
 rw[mK,aJ hi,aJ hj]at h
 exact⟨hi,hj,(cQ h).symm⟩
theorem Wk(xs ys:List Nat):(dq (aj xs) (aj ys)).length=min xs.length ys.length:=by unfold dq;rw[jY,dz,dz]
noncomputable def hJ(m:Bool × Nat)(b:Nat)(ps:List Nat)(n:Nat):List (List Nat):=(aS n).map λ(i:Nat)=>ps.map λ(p:Nat)=>eS m (((b:Int)+(i:Int))*(p:Int))
theorem IM{m:Bool × Nat}(hm:m∈aw)(b:Nat)(ps:List Nat)(n:Nat):RT (aa m) ps.length (hJ m b ps n)/\(hJ m b ps n).length=n:=by
 refine⟨λr hr=>?_,by unfold hJ;rw[bE,eH]⟩
 obtain⟨i,_,rfl⟩:=cH.mp hr
 refine⟨by rw[bE],λx hx=>?_⟩
 obtain⟨p,_,rfl⟩:=cH.mp hx
 exact i7 hm _
noncomputable def iE(m:Bool × Nat)(b:Nat)(ps us:List Nat):Option (List Nat):=if ps=[]then(if us.all (·==0)then some []else none)else p8 m (hJ m b ps us.length) us
noncomputable def gB(m:Bool × Nat)(b:Nat)(ps xs:List Nat)(n:Nat):List Nat:=(aS n).map λ(i:Nat)=>gd m xs (ps.map λ(p:Nat)=>eS m (((b:Int)+(i:Int))*(p:Int)))
theorem z4(m:Bool × Nat)(b:Nat)(ps xs:List Nat)(n:Nat):(gB m b ps xs n).length=n:=by unfold gB;rw[bE,eH]
theorem cO2{m:Bool × Nat}(hm:m∈aw)(b:Nat)(ps xs:List Nat)(n:Nat):AllLt (aa m) (gB m b ps xs n):=λx hx=>by
 obtain⟨i,_,rfl⟩:=cH.mp hx
 exact Ia hm _ _
theorem Dj{m:Bool × Nat}{b:Nat}{ps:List Nat}{n a:Nat}(ha:a<n):(hJ m b ps n).getD a []=ps.map λ(p:Nat)=>eS m (((b:Int)+(a:Int))*(p:Int)):=by
 unfold hJ
 rw[aL,cm,jX ha];rfl
theorem tD{m:Bool × Nat}{b:Nat}{ps xs:List Nat}{n a:Nat}(hl:xs.length=ps.length)(ha:a<n):cf (gB m b ps xs n) a=sm (gp m) ps.length λj=>gm m (cf ((hJ m b ps n).getD a []) j) (cf xs j):=by
 unfold gB
 rw[IC _ ha,V8 m (by rw[bE,hl]),hl,Dj ha]
 exact dU λj _=>fu m _ _
theorem IQ{m:Bool × Nat}(hm:m∈aw){b:Nat}{ps us X:List Nat}(h0:ps≠[]->0<us.length)(hu:AllLt (aa m) us)(h:iE m b ps us=some X):X.length=ps.length/\AllLt (aa m) X/\gB m b ps X us.length=us:=by
 unfold iE at h
 by_cases p0:ps=[]
 ·subst p0
  rw[if_pos rfl]at h
  split at h
  ·rename_i hz
   cases h
   refine⟨rfl,λx hx=>absurd hx (by simp),tf (z4 ..) rfl λk hk=>?_⟩
   rw[tD rfl hk]
   have:=cU.mp hz (us.getD k 0) (eL hk 0)
   show 0=us.getD k 0
   exact(beq_iff_eq.mp this).symm
  ·cases h
 ·rw[if_neg p0]at h
  obtain⟨r1,r2⟩:=IM hm b ps us.length
  have u0:=h0 p0
  have eW:bt (hJ m b ps us.length)=ps.length:=IF r1 λz=>by rw[z]at r2;simp at r2;omega
  rw[<-eW]at r1
  obtain⟨x1,x2,x3⟩:=cp6 hm (by omega) r2.symm r1 hu h
  rw[eW]at x1 x3
  refine⟨x1,x2,tf (z4 ..) rfl λk hk=>?_⟩
  rw[tD x1 hk]
  exact x3 k (by omega)
theorem ca7{m:Bool × Nat}(hm:m∈aw){b n:Nat}{ps xs:List Nat}(h0:ps≠[]->0<n)(hx:AllLt (aa m) xs)(hl:xs.length=ps.length):iE m b ps (gB m b ps xs n)≠none:=λh=>by
 unfold iE at h
 by_cases p0:ps=[]
 ·subst p0
  rw[if_pos rfl,if_pos]at h
  ·cases h
  ·refine cU.mpr λx dk=>?_
   obtain⟨i,_,rfl⟩:=cH.mp dk
   cases xs with
   | nil=>rfl
   | cons a l=>cases hl
 ·rw[if_neg p0,z4]at h
  obtain⟨r1,r2⟩:=IM hm b ps n
  have u0:=h0 p0
  have eW:bt (hJ m b ps n)=ps.length:=IF r1 λz=>by rw[z]at r2;simp at r2;omega
  rw[<-eW]at r1
  obtain⟨X,x1,_⟩:=cP1 hm (G:=hJ m b ps n) (u:=gB m b ps xs n) (by omega) (by rw[z4,r2]) r1 (cO2 hm _ _ _ _) (x:=cf xs) (bQ hm hx) λa ha=>by
   rw[eW,tD hl (by omega)]
  rw[x1]at h;cases h
theorem Wl{m:Bool × Nat}(hm:m∈aw){a b:Nat}(ha:a+1<aa m)(hb:b+1<aa m)(h:eS m (a:Int)=eS m (b:Int)):a=b:=by
 have h1:=(jR hm (a:Int)).2.2.1
 have h2:=(jR hm (b:Int)).2.2.1
 rw[h,h2,Bi (by omega) (by omega),Bi (by omega) (by omega)]at h1
 omega
theorem Wm{m:Bool × Nat}(hm:m∈aw){b n:Nat}{ps xs ys:List Nat}(hp:∀p∈ps,p+1<aa m)(nd:ps.Nodup)(hn:ps.length<=n)(hx:AllLt (aa m) xs)(hy:AllLt (aa m) ys)(lx:xs.length=ps.length)(ly:ys.length=ps.length)(h:gB m b ps xs n=gB m b ps ys n):xs=ys:=by
 have r:=rg hm
 have h0:=bB m hm
 have cZ:=lo1 hm
 refine tf lx ly λj hj=>?_
 have dn:∀j,bg m (cf xs j) (cf ys j)<aa m/\gp m (bg m (cf xs j) (cf ys j)) (cf ys j)=cf xs j:=λj=>(eK hm (bQ hm hx j) (bQ hm hy j)).2
 have z:=IL hm (λj=>eS m ((ps.getD j 0:Nat):Int)) (λj=>i7 hm _) ps.length (λj=>gm m (bg m (cf xs j) (cf ys j)) (eS m ((b:Int)*((ps.getD j 0:Nat):Int)))) (λ_=>cw hm _ _) (λi j hi hj e=>?_) (λi hi=>?_) j hj
 ·have e1:1<=eS m ((b:Int)*((ps.getD j 0:Nat):Int)):=(jR hm _).1
  rcases(tw hm (dn j).1 (i7 hm _)).mp z with z | z
  ·have:=(dn j).2
   rw[z,gy (bQ hm hy j)]at this
   exact this.symm
  ·omega
 ·have a1:=hp _ (eL hi 0)
  have a2:=hp _ (eL hj 0)
  have e':=Wl hm a1 a2 e
  rw[aL,aJ hi,aL,aJ hj]at e'
  exact(QY nd).mp e'
 ·have fQ:i<n:=by omega
  have e:cf (gB m b ps xs n) i=cf (gB m b ps ys n) i:=by rw[h]
  rw[tD lx fQ,tD ly fQ,Dj fQ]at e
  have es:∀j,j<ps.length->gm m (cf (ps.map λ(p:Nat)=>eS m (((b:Int)+(i:Int))*(p:Int))) j) (cf xs j)=gp m (gm m (gm m (bg m (cf xs j) (cf ys j)) (eS m ((b:Int)*((ps.getD j 0:Nat):Int)))) (px m (eS m ((ps.getD j 0:Nat):Int)) i)) (gm m (cf (ps.map λ(p:Nat)=>eS m (((b:Int)+(i:Int))*(p:Int))) j) (cf ys j)):=λj hj=>by
   have ec:cf (ps.map λ(p:Nat)=>eS m (((b:Int)+(i:Int))*(p:Int))) j=eS m (((b:Int)+(i:Int))*((ps.getD j 0:Nat):Int)):=by
    unfold cf
    rw[Iz (λ(p:Nat)=>eS m (((b:Int)+(i:Int))*(p:Int))) hj 0 0]
   rw[ec,vI hm,fG h0,pZ hm,show(b:Int)*((ps.getD j 0:Nat):Int)+((ps.getD j 0:Nat):Int)*(i:Int)=((b:Int)+(i:Int))*((ps.getD j 0:Nat):Int) by rw[Int.add_mul,Rz (i:Int)],fu m (bg m _ _),<- sY h0,(dn j).2]
  rw[dU es,p7 r]at e
  exact r.cn (kL r λ_ _=>cw hm _ _) (kL r λ_ _=>cw hm _ _) e
end L3
namespace L3
open PySem L2 PySem.Spec PyProof.Rows
section
variable{B:Bs}{F H:Hp}{σ:L2.St}{δ:Dl}{ts:List (D × V)}
end
section
variable{X:Cx}{a:Expr}{ta:aQ}{pos p2:Pos}{tk:Nat}
end
end L3
namespace L3
open PySem L2 PySem.Spec PyProof.Rows
section
variable{X:Cx}{a b:Expr}{ta tb:aQ}{elts:List Expr}{x1:Nat}{oy p pos:Pos}
noncomputable def tE(ta tb:aQ):iy:=λδ Q=>ta δ λd1 aq=>tb aq λd2 aU=>∃xs ys,iA d1=some xs/\d2=.lst true ys/\d1.pl=true/\Q true (dq xs (ys.map D.sh)) aU
theorem cT7(hg:Gl X "zip")(hm:X.mg "zip"=none)(ha:PE X a (lB ta))(hb:PE X b (lE tb))(hs:starEach [a,b] X.env=[(false,eval a X.env),(false,eval b X.env)]:=by rfl)(gU:starEach [b] X.env=[(false,eval b X.env)]:=by rfl)
  (kN:starEach [a,b] X.env=(false,eval a X.env)::starEach [b] X.env:=by rfl) (hs4:starEach [b] X.env=(false,eval b X.env)::starEach [] X.env:=by rfl) :
  PI X (.Tuple elts x1 oy) (.Call (.Name "zip" p) [a,b] [] pos) (lI (tE ta tb)) :=
 oV (Te hg hm (fE ha (fE hb jg hs4) kN) hs gU) λσ H Q ⟨B,F,δ,ts,Qd,c,q,k⟩=>⟨B,F,δ,ts,_,c,q,λd1 aq v1 F1 H1 q1 f1 h1 c1 s1=>⟨B,F1,aq,ts,_,c1,q1,λd2 aU v2 F2 H2 q2 f2 h2 c2=>by
  obtain⟨xs,ys,i1,rfl,hp,hq⟩:=q2
  obtain⟨F3,f3,c3⟩:=c2.GW
  have tp:=c3.top
  have kD:=(s1.mono f2 h2).mono f3 (ag.refl _)
  have e2:=c3.ext
  have sn:=m5 e2
  have pl2:(D.lst true ys).sh.pl=true:=by
   rw[fh]
   cases tp with
   | @shr _ _ _ _ _ nj r' _ =>
    have z:=r'.pl
    rw[GS]at z
    rw[gr,z];rfl
  obtain⟨p1,w1,rfl,r1,t1,u1⟩:=vn kD e2 i1
  obtain⟨p2,w2,rfl,r2,t2,u2⟩:=vn (xs:=ys.map D.sh) tp e2 (by rw[fh];rfl)
  refine⟨p1,p2,rfl,⟨w1,.inl r1⟩,⟨w2,.inl r2⟩,k _ _ aU _ _ H2 hq (((f1.trans f2).trans f3).trans sn) (h1.trans h2) c3.pop.snap ?_ λz=>?_⟩
  ·rw[zy]
   exact Cj r1 t1 r2 t2 (Full.refl _)
  ·obtain⟨a1,a2,a3⟩:=u1 hp
   obtain⟨b1,b2,b3⟩:=u2 pl2
   exact⟨Uj a1 b1,Cj (fR a2 sn) (a3.shared sn (ag.refl _)) (fR b2 sn) (b3.shared sn (ag.refl _)) oH⟩⟩⟩
end
end L3
namespace L2
open PySem PySem.Spec PyProof.Rows
section
variable{X:Cx}
end
end L2
namespace L3
open PySem L2 PySem.Spec PyProof.Rows
section
variable{X:Cx}{o e:Expr}{t tb:aQ}{apos bY:Pos}
end
section
variable{X:Cx}{i:Nat}{x:Str}{p pos apos bY dP6 z0:Pos}{a b:List Stmt}{t u:cO}{k:Int}{j}
end
end L3
namespace L3
open PySem L2 Mf
section
variable{N:Nat}{p q:Nat->Nat->Nat}
variable{ng:Nat->Nat}{c:Nat}
end
section
variable{m:Bool × Nat}
theorem z5(hm:m∈aw)(x:Nat):∀{l:List Nat},AllLt (aa m) l->∀n,l.length<=n->aG m x l=sm (gp m) n λk=>gm m (cf l k) (px m x k)
 | [],_,n,_=>(gJ (rg hm) λj _=>by rw[show cf [] j=0 from rfl,dM m _ (bB m hm)]).symm
 | a::l,h,0,hn=>by simp at hn
 | a::l,h,n+1,hn=>by
  have hl:AllLt (aa m) l:=λb hb=>h b (by simp[hb])
  rw[CY (rg hm) n λ_ _=>cw hm _ _]
  show gp m (gm m (aG m x l) x) a=gp m (gm m a 1) (sm (gp m) n λj=>gm m (cf l j) (gm m (px m x j) x))
  rw[nD (h a (by simp)),ju,z5 hm x hl n (by simpa using hn),fu m _ x,<- mm (rg hm)]
  congr 1
  exact dU λj _=>by rw[fu m x,fG (bB m hm)]
end
end L3
namespace L2
open PySem PySem.Spec PyProof.Rows
section
variable{prog:Program}{w:World}{A:Around}{E:Value->Shared->Prop}{s:Shared}
end
section
variable{X:Cx}{e:Expr}{ta:TA}{p p2 pos z0:Pos}
end
end L2
namespace L3
open PySem L2 PySem.Spec PyProof.Rows
section
variable{X:Cx}{e:Expr}{tr:cL}{p p2 pos z0:Pos}
end
end L3
namespace L3
open PySem L2 Mf
section
variable{m:Bool × Nat}
noncomputable def qt(m:Bool × Nat)(r:Nat):List Nat->List Nat
 | []=>[]
 | _::l=>aG m r l::qt m r l
theorem IS(hm:m∈aw)(r:Nat):∀{l:List Nat},AllLt (aa m) l->AllLt (aa m) (qt m r l)
 | [],_=>λ_ h=>absurd h ig
 | a::l,h=>λx hx=>by
  have h':AllLt (aa m) l:=λa ha=>h a (eE _ ha)
  rcases bX.mp hx with rfl | hx
  ·exact jv hm r h'
  ·exact IS hm r h' x hx
theorem Wn(hm:m∈aw){r s d:Nat}(e:gp m d r=s):∀{l:List Nat},AllLt (aa m) l->aG m s l=gp m (aG m r l) (gm m d (aG m s (qt m r l)))
 | [],_=>by
  show 0=gp m 0 (gm m d 0)
  rw[gx m _ (bB m hm)]
  exact(gy (Q4 Nat.zero_lt_one (lo1 hm))).symm
 | a::l,h=>by
  have h0:=bB m hm
  show gp m (gm m (aG m s l) s) a=gp m (gp m (gm m (aG m r l) r) a) (gm m d (gp m (gm m (aG m s (qt m r l)) s) (aG m r l)))
  rw[Wn hm e (l:=l) λa ha=>h a (eE _ ha),sX h0,sY h0,fG h0]
  have e1:gm m (aG m r l) s=gp m (gm m d (aG m r l)) (gm m (aG m r l) r):=by rw[<-e,sY h0,fu m d]
  rw[e1]
  haveI:Std.Commutative (gp m):=⟨ju m⟩
  haveI:Std.Associative (gp m):=⟨pY m⟩
  ac_rfl
theorem Wo(m:Bool × Nat)(r:Nat):∀(l:List Nat) (k:Nat),cf (qt m r l) k=aG m r (l.drop (k+1))
 | [],_=>rfl
 | _::_,0=>rfl
 | _::l,k+1=>Wo m r l k
theorem Wq(hm:m∈aw){r:Nat}:∀{l:List Nat},AllLt (aa m) l->(∀x∈qt m r l,x=0)->aG m r l=0->∀x∈l,x=0
 | [],_,_,_=>λ_ h=>absurd h ig
 | a::l,h,hq,hz=>by
  have z:=hq _ gP
  have ih:=Wq hm (r:=r) (l:=l) (λa ha=>h a (eE _ ha)) (λx hx=>hq x (eE _ hx)) z
  intro x hx
  rcases bX.mp hx with rfl | hx
  ·have:=hz
   rw[show aG m r (x::l)=gp m (gm m (aG m r l) r) x from rfl,z,dM m _ (bB m hm),gy (h x gP)]at this
   exact this
  ·exact ih x hx
theorem Wr{l:List Nat}{j:Nat}(h:∀k,j<=k->cf l k=0):∀a∈l.drop j,a=0:=λa ha=>by
 obtain⟨i,hi,rfl⟩:=ie ha
 rw[List.getElem_drop]
 have:=h (j+i) (by omega)
 unfold cf at this
 rw[tV]at hi
 rwa [aL,aJ (by omega)]at this
theorem Ws(hm:m∈aw):∀{rs l:List Nat},AllLt (aa m) l->(∀r∈rs,r<aa m/\aG m r l=0)->rs.Nodup->(∀k,rs.length<=k->cf l k=0)->∀x∈l,x=0
 | [],l,_,_,_,hz=>by have:=Wr hz;exact this
 | r::rs,l,hl,hr,nd,hz=>by
  obtain⟨r1,r2⟩:=hr r gP
  obtain⟨n1,n2⟩:=iG.mp nd
  refine Wq hm hl (Ws hm (rs:=rs) (IS hm r hl) (λs hs=>?_) n2 λk hk=>?_) r2
  ·obtain⟨s1,s2⟩:=hr s (eE _ hs)
   refine⟨s1,?_⟩
   obtain⟨_,d1,d2⟩:=eK hm s1 r1
   have:=Wn hm d2 hl
   rw[s2,r2,gy (cw hm _ _)]at this
   rcases(tw hm d1 (jv hm s (IS hm r hl))).mp this.symm with z | z
   ·rw[z,gy r1]at d2
    rw[d2]at n1
    exact absurd hs n1
   ·exact z
  ·rw[Wo]
   exact CO hm r (Wr λk' vO=>hz k' (by rw[dO];omega))
theorem cO4{N:Nat}{p q:Nat->Nat->Nat}(r:Rg N p q){f:Nat->Nat}(hf:∀j,f j<N){n a:Nat}(ha:a<n):sm p n f=p (f a) (sm p n λj=>if j=a then 0 else f j):=by
 rw[dU (g:=λj=>p (if j=a then f a else 0) (if j=a then 0 else f j)) λj _=>?_,p7 r,Df r (f:=λj=>if j=a then f a else 0) (j0:=a) (by simp[hf]) ha λj _ hj=>if_neg hj]
 ·simp
 ·by_cases c:j=a
  ·subst c;simp[r.z' (hf j)]
  ·simp[c,r.z (hf j)]
theorem Wt{N:Nat}{p q:Nat->Nat->Nat}(r:Rg N p q){n:Nat}:∀{ps:List Nat} {f:Nat->Nat},(∀j,f j<N)->ps.Nodup->(∀a∈ps,a<n)->(∀j,j<n->j ∉ ps->f j=0)->sm p n f=sm p ps.length λk=>f (ps.getD k 0)
 | [],f,_,_,_,hz=>gJ r λj hj=>hz j hj ig
 | a::ps,f,hf,nd,hp,hz=>by
  obtain⟨n1,n2⟩:=iG.mp nd
  have Iu:∀j,(if j=a then 0 else f j)<N:=λj=>by
   by_cases c:j=a
   ·rw[if_pos c];exact r.pos
   ·rw[if_neg c];exact hf j
  rw[cO4 r hf (hp a gP),Wt r (ps:=ps) Iu n2 (λb hb=>hp b (eE _ hb)) λj hj hn=>?_,dO,CY r _ λj _=>hf _]
  ·show _=p (f a) (sm p ps.length λk=>f (ps.getD k 0))
   congr 1
   refine dU λj hj=>?_
   have:=eL hj 0
   exact if_neg λ(z:ps.getD j 0=a)=>n1 (z ▸ this)
  ·by_cases c:j=a
   ·exact if_pos c
   ·rw[if_neg c]
    exact hz j hj λh=>by
     rcases bX.mp h with h | h
     ·exact c h
     ·exact hn h
theorem nO{f:Nat->Nat}{ps:List Nat}{j:Nat}(hj:j<ps.length):cf (ps.map f) j=f (ps.getD j 0):=Iz f hj 0 0
theorem IT(hm:m∈aw){b n i:Nat}{ps xs a:List Nat}(hl:xs.length=ps.length)(ha:AllLt (aa m) a)(h:a.length<=i+1)(hi:i<n):jS m (gB m b ps xs n) a i=sm (gp m) ps.length λj=>gm m (gm m (cf xs j) (aG m (eS m (-((ps.getD j 0:Nat):Int))) a)) (eS m (((b:Int)+(i:Int))*((ps.getD j 0:Nat):Int))):=by
 have r:=rg hm
 have h0:=bB m hm
 haveI:Std.Commutative (gm m):=⟨fu m⟩
 haveI:Std.Associative (gm m):=⟨fG h0⟩
 rw[C4 hm _ _ h]
 unfold ds
 rw[dU (g:=λk=>sm (gp m) ps.length λj=>gm m (cf a k) (gm m (eS m (((b:Int)+((i-k:Nat):Int))*((ps.getD j 0:Nat):Int))) (cf xs j))) λk hk=>?_,Ic r]
 ·refine dU λj _=>?_
  rw[z5 hm _ ha (i+1) h,fG h0,fu m (sm _ _ _),<- mm r,<- mm r]
  refine dU λk hk=>?_
  rw[vI hm,show eS m (((b:Int)+((i-k:Nat):Int))*((ps.getD j 0:Nat):Int))=gm m (eS m (((b:Int)+(i:Int))*((ps.getD j 0:Nat):Int))) (eS m (-((ps.getD j 0:Nat):Int)*(k:Int))) by
   rw[pZ hm];congr 1
   rw[show((i-k:Nat):Int)=(i:Int)-(k:Int) by omega,Int.neg_mul,Rz _ (k:Int),<- Ry,<- Int.sub_mul];congr 1;omega]
  ac_rfl
 ·rw[tD hl (by omega),Dj (by omega),<- mm r]
  exact dU λj hj=>by rw[nO hj]
theorem Wu(hm:m∈aw){n b i:Nat}{u v ps:List Nat}(hu:AllLt (aa m) u)(hv:AllLt (aa m) v)(lu:u.length=n)(lv:v.length=n)(nd:ps.Nodup)(hp:∀p∈ps,p<n)(hs:∀j,j<n->j ∉ ps->cf u j=cf v j):aG m (eS m ((b:Int)+(i:Int))) u=gp m (gd m (ps.map λp=>bg m (cf u p) (cf v p)) (ps.map λ(p:Nat)=>eS m (((b:Int)+(i:Int))*(p:Int)))) (aG m (eS m ((b:Int)+(i:Int))) v):=by
 have r:=rg hm
 have h0:=bB m hm
 have dn:∀j,bg m (cf u j) (cf v j)<aa m/\gp m (bg m (cf u j) (cf v j)) (cf v j)=cf u j:=λj=>(eK hm (bQ hm hu j) (bQ hm hv j)).2
 rw[z5 hm _ hu n (by omega),z5 hm _ hv n (by omega),V8 m (by rw[bE,bE]),bE,
  dU (g:=λk=>gp m (gm m (bg m (cf u k) (cf v k)) (px m (eS m ((b:Int)+(i:Int))) k)) (gm m (cf v k) (px m (eS m ((b:Int)+(i:Int))) k))) λk _=>by rw[<-sX h0,(dn k).2],p7 r,
  Wt r (ps:=ps) (f:=λk=>gm m (bg m (cf u k) (cf v k)) (px m (eS m ((b:Int)+(i:Int))) k)) (λ_=>cw hm _ _) nd hp λj hj hn=>by rw[hs j hj hn,vJ,dM m _ h0]]
 congr 1
 exact dU λj hj=>by rw[nO hj,nO hj,vI hm]
theorem Wv(hm:m∈aw)(ps:List Nat):cf (dH m ps) 0=1/\∀k,ps.length<k->cf (dH m ps) k=0:=by
 have r:=rg hm
 have h0:=bB m hm
 generalize hq:ps.reverse=qs
 induction qs generalizing ps with
 | nil =>
  rw[List.reverse_eq_nil_iff.mp hq]
  exact⟨rfl,λk hk=>g8 (show([1]:List Nat).length<=k from hk)⟩
 | cons p qs ih =>
  have e:ps=qs.reverse++[p]:=by rw[<-List.reverse_cons,<- hq,dk3]
  subst e
  obtain⟨i1,i2⟩:=ih qs.reverse (dk3 _)
  refine⟨?_,λk hk=>?_⟩
  ·rw[Di,Ib hm,C5 hm]
   show gp m 0 (gm m (cf (dH m qs.reverse) 0) 1)=1
   rw[i1,pW (lo1 hm),gy (lo1 hm)]
  ·rw[eG,A9]at hk
   rw[Di,Ib hm,C5 hm]
   refine gJ r λj hj=>?_
   by_cases c:qs.reverse.length<j
   ·rw[i2 j c,dM m _ h0]
   ·rw[g8 (l:=gK m p) (show 2<=k-j by omega),gx m _ h0]
theorem IU(hm:m∈aw)(ps:List Nat):(dH m ps).length<=ps.length+1:=by
 rcases cs2 m ps with h | h
 ·omega
 ·rcases qI (ps.length+1) (dH m ps).length with c | c
  ·exact absurd ((Wv hm ps).2 _ (by omega)) h
  ·exact c
noncomputable def dr(m:Bool × Nat):List Nat->List Nat->List Nat->List Nat
 | l,p::ps,x::xs=>dr m (l.set p (bg m (cf l p) x)) ps xs
 | l,[],_=>l
 | l,_::_,[]=>l
theorem IV(hm:m∈aw):∀{ps xs l:List Nat},AllLt (aa m) l->AllLt (aa m) xs->ps.Nodup->(∀p∈ps,p<l.length)->xs.length=ps.length->AllLt (aa m) (dr m l ps xs)/\(dr m l ps xs).length=l.length/\(∀j,j ∉ ps->cf (dr m l ps xs) j=cf l j)/\∀k,k<ps.length->cf (dr m l ps xs) (ps.getD k 0)=bg m (cf l (ps.getD k 0)) (cf xs k)
 | [],xs,l,hl,_,_,_,_=>⟨by unfold dr;exact hl,by unfold dr;rfl,λ_ _=>by unfold dr;rfl,λk hk=>absurd hk (ym k)⟩
 | p::ps,[],l,_,_,_,_,h=>by cases h
 | p::ps,x::xs,l,hl,hx,nd,hp,h=>by
  obtain⟨n1,n2⟩:=iG.mp nd
  have bL:=hp p gP
  have g:=(eK hm (bQ hm hl p) (hx x gP)).2.1
  have yB:AllLt (aa m) (l.set p (bg m (cf l p) x)):=λa ha=>by
   rcases yf ha with h1 | rfl
   ·exact hl a h1
   ·exact g
  obtain⟨t1,t2,t3,t4⟩:=IV hm (ps:=ps) (xs:=xs) yB (λa ha=>hx a (eE _ ha)) n2 (λq hq=>by rw[mB];exact hp q (eE _ hq)) (by simpa using h)
  rw[show dr m l (p::ps) (x::xs)=dr m (l.set p (bg m (cf l p) x)) ps xs from by rw[dr]]
  refine⟨t1,by rw[t2,mB],λj hj=>?_,λk hk=>?_⟩
  ·have Ww:¬ (j=p\/j∈ps):=λz=>hj (bX.mpr z)
   rw[t3 j λz=>Ww (.inr z),IG bL,if_neg λz=>Ww (.inl z)]
  ·cases k with
   | zero =>
    show cf _ p=bg m (cf l p) x
    rw[t3 p n1,IG bL,if_pos rfl]
   | succ k =>
    have vO:k<ps.length:=by simpa using hk
    show cf _ (ps.getD k 0)=bg m (cf l (ps.getD k 0)) (cf xs k)
    rw[t4 k vO,IG bL,if_neg λz:ps.getD k 0=p=>n1 (z ▸ eL vO 0)]
noncomputable def bU(y:List (Option Nat)):List Nat:=y.map λs=>s.getD 0
noncomputable def aX(y:List (Option Nat)):List Nat:=(aS y.length).filter λj=>decide (y[j]?=some none)
noncomputable def cy(y:List (Option Nat))(c:List Nat):List Nat:=(aS y.length).filter λj=>decide (j ∉ aX y/\cf (bU y) j≠cf c j)
noncomputable def eV(m:Bool × Nat)(b e:Nat)(l:List Nat):List Nat:=(aS e).map λ(i:Nat)=>aG m (eS m ((b:Int)+(i:Int))) l
noncomputable def nQ(m:Bool × Nat)(b e:Nat)(y:List (Option Nat)):List Nat:=(aS (e-(aX y).length)).map λ(i:Nat)=>jS m (eV m b e (bU y)) (dH m (aX y)) ((aX y).length+i)
noncomputable def fJ(m:Bool × Nat)(c:List Nat)(n:Nat):List Nat:=(aS n).filter λ(q:Nat)=>decide (aG m (eS m (-(q:Int))) c=0)
structure Nr(m:Bool × Nat)(b e:Nat)(y:List (Option Nat))(c:List Nat):Prop where
 ln:c.length=y.length
 lt:AllLt (aa m) c
 z:∀i,i<e->aG m (eS m ((b:Int)+(i:Int))) c=0
 fK:(aX y).length+2*(cy y c).length<=e
theorem p9(y:List (Option Nat)):(aX y).Nodup/\∀p∈aX y,p<y.length:=⟨ua.filter _,λp hp=>dA.mp (mx.mp hp).1⟩
theorem qa{y:List (Option Nat)}{c:List Nat}{j:Nat}:j∈cy y c↔j<y.length/\j ∉ aX y/\cf (bU y) j≠cf c j:=by
 unfold cy
 rw[mx,dA,decide_eq_true_iff]
theorem vQ{c:List Nat}{n j:Nat}:j∈fJ m c n↔j<n/\aG m (eS m (-(j:Int))) c=0:=by
 unfold fJ
 rw[mx,dA,decide_eq_true_iff]
theorem vR(hm:m∈aw){y:List (Option Nat)}(hy:∀a,some a∈y->a<aa m):AllLt (aa m) (bU y):=λa ha=>by
 obtain⟨s,h1,rfl⟩:=cH.mp ha
 cases s with
 | none=>exact Q4 Nat.zero_lt_one (lo1 hm)
 | some a=>exact hy a h1
theorem z6(b e:Nat)(l:List Nat):(eV m b e l).length=e:=by unfold eV;rw[bE,eH]
theorem IW(hm:m∈aw){b e:Nat}{l:List Nat}(hl:AllLt (aa m) l):AllLt (aa m) (eV m b e l):=λa ha=>by
 obtain⟨i,_,rfl⟩:=cH.mp ha
 exact jv hm _ hl
theorem IY(b e:Nat)(y:List (Option Nat)):(nQ m b e y).length=e-(aX y).length:=by unfold nQ;rw[bE,eH]
theorem IZ(hm:m∈aw){b e n:Nat}{u v ps:List Nat}(hu:AllLt (aa m) u)(hv:AllLt (aa m) v)(lu:u.length=n)(lv:v.length=n)(nd:ps.Nodup)(hp:∀p∈ps,p<n)(hs:∀j,j<n->j ∉ ps->cf u j=cf v j)(hz:∀i,i<e->aG m (eS m ((b:Int)+(i:Int))) v=0):eV m b e u=gB m b ps (ps.map λp=>bg m (cf u p) (cf v p)) e:=by
 unfold eV gB
 refine oj λi hi=>?_
 rw[Wu hm hu hv lu lv nd hp hs,hz i (dA.mp hi),mj (Ia hm _ _)]
theorem I0{α:Type}{P Q:α->Bool}:∀{l:List α},(∀x∈l,P x=true->Q x=true)->(l.filter P).length<=(l.filter Q).length/\((l.filter P).length=(l.filter Q).length->l.filter P=l.filter Q)
 | [],_=>⟨bI _,λ_=>rfl⟩
 | a::l,h=>by
  obtain⟨i1,i2⟩:=I0 (l:=l) λx hx=>h x (eE _ hx)
  have ha:=h a gP
  cases p:P a with
  | true =>
   rw[yn p,yn (ha p),dO,dO]
   exact⟨by omega,λz=>by rw[i2 (by omega)]⟩
  | false =>
   rw[Bt (by rw[p];exact eF)]
   cases q:Q a with
   | true =>
    rw[yn q,dO]
    exact⟨by omega,λz=>by omega⟩
   | false =>
    rw[Bt (by rw[q];exact eF)]
    exact⟨i1,i2⟩
theorem Wx(hm:m∈aw){a b:Nat}(ha:a<aa m)(hb:b<aa m)(h:a≠b):bg m a b≠0:=λz=>by
 have g:=(eK hm ha hb).2.2
 rw[z,gy hb]at g
 exact h g.symm
theorem Wy(hm:m∈aw){a x:Nat}(ha:a<aa m)(hx:x<aa m):bg m a (bg m a x)=x:=by
 have g:=eK hm ha hx
 have k:=eK hm ha g.2.1
 refine(rg hm).CW k.2.1 hx g.2.1 (k.2.2.trans ?_)
 rw[ju]
 exact g.2.2.symm
theorem cK5(hm:m∈aw){c:List Nat}{L n:Nat}(hn:n+1<=aa m)(ca:AllLt (aa m) c)(cl:c.length=L+1)(c0:cf c 0=1):(fJ m c n).length<=L:=by
 rcases qI L (fJ m c n).length with h | h
 ·have z:=Ws hm (rs:=(fJ m c n).map λ(q:Nat)=>eS m (-(q:Int))) ca (λr hr=>?_) ?_ (λk hk=>g8 (by rw[bE]at hk;omega)) (cf c 0) (eL (by omega) 0)
  ·omega
  ·obtain⟨q,h1,rfl⟩:=cH.mp hr
   exact⟨i7 hm _,(vQ.mp h1).2⟩
  ·refine List.pairwise_map.mpr (List.Pairwise.imp_of_mem (λ{a b} ha hb hab z=>hab ?_) (ua.filter _))
   have a1:=(vQ.mp ha).1
   have b1:=(vQ.mp hb).1
   refine(We hm (by omega) (by omega)).mp ?_
   rw[Ry,<- pZ hm,<- z,pZ hm,Int.add_right_neg,CN hm]
 ·exact h
theorem Wz{y:List (Option Nat)}{w:List Nat}:(aX y++cy y w).Nodup/\(∀p∈aX y++cy y w,p<y.length)/\∀j,j<y.length->j ∉ aX y++cy y w->cf (bU y) j=cf w j:=by
 refine⟨Rb.mpr ⟨(p9 y).1,ua.filter _,λa ha b hb z=>(qa.mp hb).2.1 (z ▸ ha)⟩,λp hp=>?_,λj hj hn=>?_⟩
 ·rcases bW.mp hp with h | h
  ·exact(p9 y).2 p h
  ·exact(qa.mp h).1
 ·by_cases c:cf (bU y) j=cf w j
  ·exact c
  ·exact absurd (bW.mpr (.inr (qa.mpr ⟨hj,λz=>hn (bW.mpr (.inl z)),c⟩))) hn
theorem qe(y:List (Option Nat)):(bU y).length=y.length:=by unfold bU;rw[bE]
section
variable{b e L o:Nat}{y:List (Option Nat)}{w c:List Nat}{bb:Nat->Nat}
theorem WA(hm:m∈aw)(hy:∀a,some a∈y->a<aa m)(h:Nr m b e y w):eV m b e (bU y)=gB m b (aX y++cy y w) ((aX y++cy y w).map λp=>bg m (cf (bU y) p) (cf w p)) e:=by
 obtain⟨p1,p2,p3⟩:=Wz (y:=y) (w:=w)
 exact IZ hm (vR hm hy) h.lt (qe y) h.ln p1 p2 p3 h.z
theorem cK6(hm:m∈aw)(hy:∀a,some a∈y->a<aa m)(hn:y.length+1<=aa m)(h:Nr m b e y w):nQ m b e y=gB m (b+(aX y).length) (cy y w) ((cy y w).map λp=>gm m (bg m (cf (bU y) p) (cf w p)) (aG m (eS m (-(p:Int))) (dH m (aX y)))) (e-(aX y).length):=by
 have r:=rg hm
 have h0:=bB m hm
 refine tf (IY ..) (z4 ..) λi hi=>?_
 have fl:=IU hm (aX y)
 rw[tD (by rw[bE]) hi,Dj hi]
 unfold nQ
 rw[IC _ hi,WA hm hy h,IT hm (by rw[bE]) (vP hm _).1 (by omega) (by omega),eG,zT r _ _ λ_ _=>cw hm _ _,gJ r λj hj=>?_,r.z (kL r λ_ _=>cw hm _ _)]
 ·refine dU λj hj=>?_
  have eP:(aX y++cy y w).getD ((aX y).length+j) 0=(cy y w).getD j 0:=by
   rw[aL,xX (by omega),Rx,<- aL]
  rw[nO (by rw[eG];omega),eP,nO hj,nO hj,fu m (eS m _)]
  congr 3
  omega
 ·have eP:(aX y++cy y w).getD j 0=(aX y).getD j 0:=by
   rw[aL,xY hj,<- aL]
  have pj:=eL hj 0
  rw[eP,(IK hm (λp hp=>by have:=(p9 y).2 p hp;omega) (by have:=(p9 y).2 _ pj;omega)).mpr pj,gx m _ h0,dM m _ h0]
theorem cp2(hm:m∈aw)(hy:∀a,some a∈y->a<aa m)(hn:y.length+1<=aa m)(h:Nr m b e y w)(I:BI (aa m) (gp m) (gm m) (cf (nQ m b e y)) (nQ m b e y).length L (cf c) bb o)(cl:c.length=L+1)(ca:AllLt (aa m) c):fJ m c y.length=cy y w/\(cy y w).length=L:=by
 have r:=rg hm
 have h0:=bB m hm
 have fK:=h.fK
 have wl:∀p∈cy y w,p+1<aa m:=λp hp=>by have:=(qa.mp hp).1;omega
 have el:=cK6 hm hy hn h
 have ll:(nQ m b e y).length=e-(aX y).length:=IY ..
 obtain⟨f1,f2⟩:=Wv hm (cy y w)
 have fl:=IU hm (cy y w)
 have a1:L<=(cy y w).length:=I.mn _ _ f1 f2 (bQ hm (vP hm _).1) λi h1 h2=>by
  rw[<-C4 hm _ _ (by omega),el,IT hm (by rw[bE]) (vP hm _).1 (by omega) (by omega)]
  refine gJ r λj hj=>?_
  have pj:=eL hj 0
  rw[(IK hm wl (wl _ pj)).mpr pj,gx m _ h0,dM m _ h0]
 have roots:∀j,j<(cy y w).length->aG m (eS m (-(((cy y w).getD j 0:Nat):Int))) c=0:=λj hj=>by
  have z:=IL hm (λj=>eS m (((cy y w).getD j 0:Nat):Int)) (λj=>i7 hm _) (cy y w).length (λj=>gm m (gm m (cf ((cy y w).map λp=>gm m (bg m (cf (bU y) p) (cf w p)) (aG m (eS m (-(p:Int))) (dH m (aX y)))) j) (aG m (eS m (-(((cy y w).getD j 0:Nat):Int))) c)) (eS m ((((b+(aX y).length:Nat):Int)+(L:Int))*(((cy y w).getD j 0:Nat):Int)))) (λ_=>cw hm _ _) (λi j hi hj z=>?_) (λi hi=>?_) j hj
  ·have e1:=(jR hm ((((b+(aX y).length:Nat):Int)+(L:Int))*(((cy y w).getD j 0:Nat):Int))).1
   have pj:=qa.mp (eL hj 0)
   rw[nO hj]at z
   rcases(tw hm (cw hm _ _) (i7 hm _)).mp z with z | z
   ·rcases(tw hm (cw hm _ _) (jv hm _ ca)).mp z with z | z
    ·exfalso
     rcases(tw hm (eK hm (bQ hm (vR hm hy) _) (bQ hm h.lt _)).2.1 (jv hm _ (vP hm _).1)).mp z with z | z
     ·exact Wx hm (bQ hm (vR hm hy) _) (bQ hm h.lt _) pj.2.2 z
     ·exact pj.2.1 ((IK hm (λp hp=>by have:=(p9 y).2 p hp;omega) (by have:=pj.1;omega)).mp z)
    ·exact z
   ·omega
  ·have z:=Wl hm (wl _ (eL hi 0)) (wl _ (eL hj 0)) z
   rw[aL,aJ hi,aL,aJ hj]at z
   exact(QY (ua.filter _)).mp z
  ·have k:=I.kp (L+i) (by omega) (by omega)
   rw[<-C4 hm _ _ (by omega),el,IT hm (by rw[bE]) ca (by omega) (by omega)]at k
   refine Eq.trans (dU λj _=>?_) k
   rw[vI hm,fG h0 _ (eS m _),pZ hm]
   congr 2
   rw[qG L i,<- Int.add_assoc,Int.add_mul (_+_) (i:Int),Rz (i:Int)]
 have fd:=cK5 hm hn ca cl I.c0
 have sub:=I0 (l:=aS y.length) (P:=λj=>decide (j ∉ aX y/\cf (bU y) j≠cf w j)) (Q:=λ(q:Nat)=>decide (aG m (eS m (-(q:Int))) c=0)) λx hx hp=>by
  have:x∈cy y w:=mx.mpr ⟨hx,hp⟩
  obtain⟨j,hj,rfl⟩:=ie this
  have:=roots j hj
  rw[aL,aJ hj]at this
  exact decide_eq_true this
 have s1:(cy y w).length<=(fJ m c y.length).length:=sub.1
 exact⟨(sub.2 (show(cy y w).length=(fJ m c y.length).length by omega)).symm,by omega⟩
theorem cM3(hm:m∈aw)(hy:∀a,some a∈y->a<aa m)(hn:y.length+1<=aa m)(h:Nr m b e y w):(iE m b (aX y++cy y w) (eV m b e (bU y))).map (dr m (bU y) (aX y++cy y w))=some w:=by
 obtain⟨p1,p2,p3⟩:=Wz (y:=y) (w:=w)
 have es:=WA hm hy h
 have fK:=h.fK
 have h0:aX y++cy y w≠[]->0<e:=λz=>by
  have:=Fm.mpr z
  rw[eG]at this
  omega
 have kl:=vR hm hy
 have xl:AllLt (aa m) ((aX y++cy y w).map λp=>bg m (cf (bU y) p) (cf w p)):=λa ha=>by
  obtain⟨p,_,rfl⟩:=cH.mp ha
  exact(eK hm (bQ hm kl _) (bQ hm h.lt _)).2.1
 cases sg:iE m b (aX y++cy y w) (eV m b e (bU y))with
 | none =>
  rw[es]at sg
  exact absurd sg (ca7 hm h0 xl (by rw[bE]))
 | some X =>
  obtain⟨x1,x2,x3⟩:=IQ hm (λz=>by rw[z6];exact h0 z) (IW hm kl) sg
  rw[z6,es]at x3
  have eX:=Wm hm (λp hp=>by have:=p2 p hp;omega) p1 (by rw[eG];omega) x2 xl x1 (by rw[bE]) x3
  obtain⟨t1,t2,t3,t4⟩:=IV hm kl x2 p1 (λp hp=>by rw[qe];exact p2 p hp) x1
  refine congrArg some (tf (t2.trans (qe y)) h.ln λj hj=>?_)
  by_cases c:j∈aX y++cy y w
  ·obtain⟨k,hk,rfl⟩:=ie c
   have:=t4 k hk
   rw[eX,nO hk,Wy hm (bQ hm kl _) (bQ hm h.lt _),aL,aJ hk,<- eX]at this
   exact this
  ·rw[t3 j c,p3 j hj c]
theorem cv1(hm:m∈aw)(hy:∀a,some a∈y->a<aa m){fd X:List Nat}(hf:fd=fJ m c y.length)(hl:(aX y).length+2*fd.length<=e)(hd:∀p∈fd,p ∉ aX y)(sg:iE m b (aX y++fd) (eV m b e (bU y))=some X):Nr m b e y (dr m (bU y) (aX y++fd) X):=by
 have r:=rg hm
 have kl:=vR hm hy
 have p1:(aX y++fd).Nodup:=Rb.mpr ⟨(p9 y).1,hf ▸ ua.filter _,λa ha b hb z=>hd b hb (z ▸ ha)⟩
 have p2:∀p∈aX y++fd,p<y.length:=λp hp=>by
  rcases bW.mp hp with h | h
  ·exact(p9 y).2 p h
  ·rw[hf]at h;exact(vQ.mp h).1
 have h0:aX y++fd≠[]->0<(eV m b e (bU y)).length:=λz=>by
  have:=Fm.mpr z
  rw[eG]at this
  rw[z6]
  omega
 obtain⟨x1,x2,x3⟩:=IQ hm h0 (IW hm kl) sg
 obtain⟨t1,t2,t3,t4⟩:=IV hm kl x2 p1 (λp hp=>by rw[qe];exact p2 p hp) x1
 have eX:((aX y++fd).map λp=>bg m (cf (bU y) p) (cf (dr m (bU y) (aX y++fd) X) p))=X:=tf (by rw[bE]) x1 λk hk=>by
  rw[nO hk,t4 k hk,Wy hm (bQ hm kl _) (bQ hm x2 _)]
 refine⟨t2.trans (qe y),t1,λi hi=>?_,?_⟩
 ·have s:=Wu hm (b:=b) (i:=i) kl t1 (qe y) (t2.trans (qe y)) p1 p2 λj _ hn=>(t3 j hn).symm
  rw[eX]at s
  have g:gd m X ((aX y++fd).map λ(p:Nat)=>eS m (((b:Int)+(i:Int))*(p:Int)))=aG m (eS m ((b:Int)+(i:Int))) (bU y):=by
   have:=congrArg (λl=>cf l i) x3
   rw[z6]at this
   unfold gB eV at this
   simp only[IC _ hi]at this
   exact this
  rw[g,ju]at s
  exact r.cn (jv hm _ t1) (jv hm _ kl) s.symm
 ·have:=(I0 (l:=aS y.length) (P:=λj=>decide (j ∉ aX y/\cf (bU y) j≠cf (dr m (bU y) (aX y++fd) X) j)) (Q:=λ(q:Nat)=>decide (aG m (eS m (-(q:Int))) c=0)) λx hx hp=>by
   obtain⟨q1,q2⟩:=of_decide_eq_true hp
   by_cases c':x∈fd
   ·rw[hf]at c';exact decide_eq_true (vQ.mp c').2
   ·exact absurd (t3 x λz=>by
     rcases bW.mp z with z | z
     ·exact q1 z
     ·exact c' z).symm q2).1
  have s2:(cy y (dr m (bU y) (aX y++fd) X)).length<=(fJ m c y.length).length:=this
  rw[hf]at hl s2 ⊢
  omega
noncomputable def nR(m:Bool × Nat)(bN:List Nat)(k n L:Nat)(c:List Nat):Option (List Nat):=if k<2*L then none else if(fJ m c n).length≠L\/(∃p∈fJ m c n,p∈bN)then none else some (fJ m c n)
noncomputable def Dk(m:Bool × Nat)(b e:Nat)(y:List (Option Nat))(L:Nat)(c:List Nat):Option (List Nat):=if e<(aX y).length then none else(nR m (aX y) (e-(aX y).length) y.length L c).bind λfd=>(iE m b (aX y++fd) (eV m b e (bU y))).map (dr m (bU y) (aX y++fd))
theorem cQ4(hm:m∈aw)(hy:∀a,some a∈y->a<aa m)(hn:y.length+1<=aa m)(I:BI (aa m) (gp m) (gm m) (cf (nQ m b e y)) (nQ m b e y).length L (cf c) bb o)(cl:c.length=L+1)(ca:AllLt (aa m) c):Dk m b e y L c=some w↔Nr m b e y w:=by
 unfold Dk nR
 constructor
 ·intro h
  split at h
  ·cases h
  ·split at h
   ·cases h
   ·split at h
    ·cases h
    ·rename_i h1 h2 h3
     obtain⟨X,sg,rfl⟩:=x9.mp h
     exact cv1 hm hy rfl (by
      have:(fJ m c y.length).length=L:=Ft λz=>h3 (.inl z)
      omega) (λp hp nj=>h3 (.inr ⟨p,hp,nj⟩)) sg
 ·intro h
  obtain⟨f1,f2⟩:=cp2 hm hy hn h I cl ca
  have fK:=h.fK
  rw[if_neg (by omega),if_neg (by omega),if_neg λz=>?_,f1]
  ·exact cM3 hm hy hn h
  ·rcases z with z | ⟨p,z1,z2⟩
   ·rw[f1]at z;exact z f2
   ·rw[f1]at z1;exact(qa.mp z1).2.1 z2
end
end
noncomputable def fX:Option Nat->D
 | none=>.ax
 | some a=>.int (a:Int)
noncomputable def bZ(y:List (Option Nat)):List D:=y.map fX
theorem WB(a:Option Nat):(fX a).sh=fX a:=by cases a<;>rfl
theorem WC:∀a b:Option Nat,fX a=fX b->a=b
 | none,none,_=>rfl
 | some a,some b,h=>by
  have:(D.int (a:Int))=D.int (b:Int):=h
  injection this with h
  rw[show a=b by omega]
 | none,some _,h=>by cases h
 | some _,none,h=>by cases h
theorem tF(y:List (Option Nat)):(bZ y).map D.sh=bZ y:=by
 unfold bZ;rw[dh];exact oj λa _=>WB a
theorem cL0(y:List (Option Nat)):(bZ y).all D.pl=true:=by
 unfold bZ;rw[kX];exact cU.mpr λa _=>by cases a<;>rfl
theorem Dm(y:List (Option Nat)):(bZ y).length=y.length:=bE ..
theorem z7{y:List (Option Nat)}{i:Nat}(hi:i<y.length):y[i]?=some (y.getD i none):=by
 rw[aL,aJ hi];rfl
theorem cn4(y:List (Option Nat)):(fq (bZ y)).map D.sh=(aS y.length).map λ(i:Nat)=>D.tup [.int (i:Int),fX (y.getD i none)]:=by
 apply Fo
 intro i
 unfold fq bZ
 rw[cm,yd,cm,cm]
 by_cases hi:i<y.length
 ·rw[jX hi,z7 hi]
  show some (D.tup [D.int (i:Int),fX (y.getD i none)]).sh=some (D.tup [D.int (i:Int),fX (y.getD i none)])
  rw[ky]
  simp only[dP,kU,kF,WB]
 ·rw[ja (show y.length<=i by omega),ja (show(aS y.length).length<=i by simpa using hi)];rfl
end L3
namespace L3
open PySem L2 Mf
section
variable{m:Bool × Nat}
theorem WD:∀{l l':List Nat},l.Nodup->(∀a∈l,a∈l')->l.length<=l'.length
 | [],_,_,_=>kT _
 | a::l,l',nd,h=>by
  obtain⟨n1,n2⟩:=iG.mp nd
  have ha:=h a gP
  have:=WD (l:=l) (l':=l'.erase a) n2 λb hb=>(List.mem_erase_of_ne (λz:b=a=>n1 (z ▸ hb))).mpr (h b (eE _ hb))
  rw[List.length_erase_of_mem ha]at this
  have:=List.length_pos_of_mem ha
  rw[dO]
  omega
theorem cH1{y:List (Option Nat)}{j:Nat}(hj:j<y.length):j∈aX y↔y.getD j none=none:=by
 unfold aX
 rw[mx,dA,decide_eq_true_iff,z7 hj]
 exact⟨λh=>cQ h.2,λh=>⟨hj,congrArg some h⟩⟩
theorem cR3{y:List (Option Nat)}{j:Nat}:cf (bU y) j=(y.getD j none).getD 0:=by
 unfold bU cf
 rw[aL,cm,aL]
 cases y[j]?<;>rfl
end
end L3
namespace L3
open PySem L2 Mf
section
variable{m:Bool × Nat}
noncomputable def z8(a:Option Nat)(b:Nat):Nat:=match a with
 | none=>1
 | some a=>if a≠b then 2 else 0
noncomputable def fK(y:List (Option Nat))(w:List Nat):Nat:=((jB y w).map λp=>z8 p.1 p.2).sum
theorem WE{P Q:Nat->Bool}{f:Nat->Nat}:∀{l:List Nat},(∀x∈l,f x=(if P x=true then 1 else 0)+2*(if Q x=true then 1 else 0))->(l.map f).sum=(l.filter P).length+2*(l.filter Q).length
 | [],_=>rfl
 | a::l,h=>by
  have i:=WE (l:=l) λx hx=>h x (eE _ hx)
  have ha:=h a gP
  rw[dP,yj,i,ha]
  cases p:P a with
  | true =>
   rw[yn p,dO]
   cases q:Q a with
   | true=>rw[yn q,dO,if_pos rfl];omega
   | false=>rw[Bt (by rw[q];exact eF),if_pos rfl,if_neg eF];omega
  | false =>
   rw[Bt (by rw[p];exact eF),if_neg eF]
   cases q:Q a with
   | true=>rw[yn q,dO,if_pos rfl];omega
   | false=>rw[Bt (by rw[q];exact eF),if_neg eF];omega
theorem cM4{y:List (Option Nat)}{w:List Nat}(h:w.length=y.length):jB y w=(aS y.length).map λj=>(y.getD j none,cf w j):=by
 refine Ro (by rw[t8,bE,eH,h,qD]) λi h1 h2=>?_
 rw[bE,eH]at h2
 rw[List.getElem_zip,Rv,List.getElem_range]
 unfold cf
 rw[aL,aL,aJ h2,aJ (by omega)]
 rfl
theorem Ja{y:List (Option Nat)}{w:List Nat}(h:w.length=y.length):fK y w=(aX y).length+2*(cy y w).length:=by
 unfold fK
 rw[cM4 h,dh]
 refine WE λj hj=>?_
 have hj:=dA.mp hj
 show z8 (y.getD j none) (cf w j)=_
 rw[z7 hj]
 have k:=cR3 (y:=y) (j:=j)
 have l:=cH1 hj
 rw[k]
 cases e:y.getD j none with
 | none =>
  rw[e]at l
  rw[if_pos (decide_eq_true rfl),if_neg λz=>(of_decide_eq_true z).1 (l.mpr rfl)];rfl
 | some a =>
  rw[e]at l
  rw[if_neg λz=>by cases of_decide_eq_true z]
  by_cases c:a=cf w j
  ·rw[if_neg λz=>(of_decide_eq_true z).2 c]
   show(if a≠cf w j then 2 else 0)=_
   rw[if_neg λz=>z c]
  ·rw[if_pos (decide_eq_true ⟨λz=>(by cases l.mp z),c⟩)]
   show(if a≠cf w j then 2 else 0)=_
   rw[if_pos c]
theorem cp8(hm:m∈aw){b e n:Nat}{u v:List Nat}(hu:AllLt (aa m) u)(hv:AllLt (aa m) v)(lu:u.length=n)(lv:v.length=n)(hn:n+1<=aa m)(zu:∀i,i<e->aG m (eS m ((b:Int)+(i:Int))) u=0)(zv:∀i,i<e->aG m (eS m ((b:Int)+(i:Int))) v=0)(hd:((aS n).filter λj=>decide (cf u j≠cf v j)).length<=e):u=v:=by
 have nd:((aS n).filter λj=>decide (cf u j≠cf v j)).Nodup:=ua.filter _
 have mem:∀j,j∈((aS n).filter λj=>decide (cf u j≠cf v j))↔j<n/\cf u j≠cf v j:=λj=>by rw[mx,dA,decide_eq_true_iff]
 generalize ((aS n).filter λj=>decide (cf u j≠cf v j))=ps at hd nd mem
 have hp:∀p∈ps,p<n:=λp h=>((mem p).mp h).1
 have e1:=IZ hm hu hv lu lv nd hp (λj hj hn=>Ft λz=>hn ((mem j).mpr ⟨hj,z⟩)) zv
 have e2:=IZ hm hv hv lv lv nd hp (λj hj hn=>rfl) zv
 have e3:eV m b e u=eV m b e v:=oj λi hi=>by rw[zu i (dA.mp hi),zv i (dA.mp hi)]
 have al:∀x,AllLt (aa m) x->AllLt (aa m) (ps.map λp=>bg m (cf x p) (cf v p)):=λx hx a ha=>by
  obtain⟨p,_,rfl⟩:=cH.mp ha
  exact(eK hm (bQ hm hx _) (bQ hm hv _)).2.1
 have ex:=Wm hm (λp nj=>by have:=hp p nj;omega) nd hd (al u hu) (al v hv) (by rw[bE]) (by rw[bE]) (e1.symm.trans (e3.trans e2))
 refine tf lu lv λj hj=>Ft λz=>?_
 have hjm:=(mem j).mpr ⟨hj,z⟩
 have:=List.map_inj_left.mp ex j hjm
 rw[vJ]at this
 exact Wx hm (bQ hm hu _) (bQ hm hv _) z this
theorem cJ5(hm:m∈aw){b e:Nat}{y:List (Option Nat)}{u v:List Nat}(hn:y.length+1<=aa m)(hu:Nr m b e y u)(lv:v.length=y.length)(hv:AllLt (aa m) v)(zv:∀i,i<e->aG m (eS m ((b:Int)+(i:Int))) v=0)(hf:fK y v<=e+1):u=v:=by
 rw[Ja lv]at hf
 have f:=hu.fK
 refine cp8 hm hu.lt hv hu.ln lv hn hu.z zv ?_
 have:=WD (l:=(aS y.length).filter λj=>decide (cf u j≠cf v j)) (l':=aX y++(cy y u++cy y v)) (ua.filter _) λj hj=>by
  rw[mx,dA,decide_eq_true_iff]at hj
  by_cases c:j∈aX y
  ·exact bW.mpr (.inl c)
  ·refine bW.mpr (.inr (bW.mpr ?_))
   by_cases c1:cf (bU y) j=cf u j
   ·exact .inr (qa.mpr ⟨hj.1,c,λz=>hj.2 (c1.symm.trans z)⟩)
   ·exact .inl (qa.mpr ⟨hj.1,c,c1⟩)
 rw[eG,eG]at this
 omega
end
end L3
namespace HK26
open PySem.W (Frag codeHdIn nsIn fnOf codeIn keepIn findIn isFn specialIn takesIn mroIn mg_of mg_none_of CodeHd)
open PySem L2 L3 Mf
seal L2.PSs L2.PS L2.PE L2.PT L2.PA L2.PI L2.PG L2.PO L2.PW
local macro_rules | `(tactic| walk_at "l3") => do
  let l ← (("rk oS rm rn dT lR m6 m8 dC oJ oQ oN oM oO rj nk sj pz sk sq q0 q5 q8 q9 rf rh oK r9 pe pf ii oY rH oZ rJ rK rL rM rN rO iI gv rQ rR rS rT o8 o9 lX rZ r6 gN sr si rp rA rB rC rD rE su sD sF oX jP fU iY iB qC qv yo yp oR jO iA pk pq pH sJ sM sN vi kH sQ pK sO jo vm vj vk dP kU qF mC dO yq aV ub ud jD jE ue exists_eq_left' exists_eq_left D.bl.injEq D.int.injEq D.lst.injEq D.fz.injEq D.str.injEq D.tup.injEq uf and_true true_and eN oi jA mG uN uO uP uQ uR uS gr ku kF uW uX uY uZ u3 fh ky pB uT uU uV gh m4 yr yt tR jb yu yv tW u7 u9 va vb vd ve vf kG lZ pE jn pF u5 sI u4 pG u6 sG i3 sH if_true yw if_false reduceIte vg decide_eq_true_eq dz kJ nu vp mh vo rq sT pX sP pP pQ sV sZ vG p5 s8 jx vM nH vN tE sL cZ2 c69 cC6 cL8 Vx zP".splitOn " ").toArray.map fun (s : String) => Lean.mkIdent s.toName).mapM fun i => `(Lean.Parser.Tactic.simpLemma| $i:term)
  `(tactic| (try dsimp only [$l,*]) <;> (try simp only [$l,*]))
noncomputable def top (i:Nat):Stmt:=PySem.Challenge.pw_mendfield_k26_whole_root_nearest.main.body.getD i (.Pass ⟨0,0,0,0⟩)
noncomputable abbrev vS:Stmt:=top 52
theorem z9:bc ["_law_cell_here","_law_some","_law_primes"] ["_law_cell_here"] (av vS):=⟨rfl,rfl,rfl,by decide +kernel,rfl,by decide +kernel,by decide +kernel⟩
noncomputable abbrev vT:Stmt:=top 40
theorem Dn:bc ["a","product","found","power"] ["a","product"] (av vT):=⟨rfl,rfl,rfl,by decide +kernel,rfl,by decide +kernel,by decide +kernel⟩
noncomputable abbrev vU:Stmt:=top 41
theorem Aa:bc ["many","product","step","found"] ["many","product"] (av vU):=⟨rfl,rfl,rfl,by decide +kernel,rfl,by decide +kernel,by decide +kernel⟩
noncomputable abbrev vV:Stmt:=top 42
theorem Jb:bc ["powers","logs","n","a"] ["powers"] (av vV):=⟨rfl,rfl,rfl,by decide +kernel,rfl,by decide +kernel,by decide +kernel⟩
noncomputable abbrev vW:Stmt:=gH (top 46) 8
theorem aF6:bc ["self","n"] ["self","n"] (av vW):=⟨rfl,rfl,rfl,by decide +kernel,rfl,by decide +kernel,by decide +kernel⟩
noncomputable abbrev vX:Stmt:=gH (top 46) 0
theorem aS0:bc ["self","many","product"] ["self","many","product"] (av vX):=⟨rfl,rfl,rfl,by decide +kernel,rfl,by decide +kernel,by decide +kernel⟩
noncomputable abbrev vY:Stmt:=top 45
theorem aD7:bc ["prime"] ["prime"] (av vY):=⟨rfl,rfl,rfl,by decide +kernel,rfl,by decide +kernel,by decide +kernel⟩
noncomputable abbrev nS:Stmt:=gH (top 48) 0
theorem aH0:bc ["self","prime"] ["self","prime"] (av nS):=⟨rfl,rfl,rfl,by decide +kernel,rfl,by decide +kernel,by decide +kernel⟩
noncomputable abbrev vZ:Stmt:=top 43
theorem Dq:bc ["powers","logs","many","rows","a"] ["powers","logs"] (av vZ):=⟨rfl,rfl,rfl,by decide +kernel,rfl,by decide +kernel,by decide +kernel⟩
noncomputable abbrev v3:Stmt:=top 37
theorem v7:bc ["a","b","quotient","rest","shift"] ["a","b"] (av v3):=⟨rfl,rfl,rfl,by decide +kernel,rfl,by decide +kernel,by decide +kernel⟩
noncomputable abbrev v9:Stmt:=top 38
theorem Jc:bc ["a","half","b"] ["a"] (av v9):=⟨rfl,rfl,rfl,by decide +kernel,rfl,by decide +kernel,by decide +kernel⟩
noncomputable abbrev wa:Stmt:=top 44
theorem aH1:bc ["bits"] ["bits"] (av wa):=⟨rfl,rfl,rfl,by decide +kernel,rfl,by decide +kernel,by decide +kernel⟩
noncomputable abbrev wb:Stmt:=top 36
theorem Dr:bc ["a","b","product","k"] ["a","b"] (av wb):=⟨rfl,rfl,rfl,by decide +kernel,rfl,by decide +kernel,by decide +kernel⟩
noncomputable abbrev nU:Stmt:=gH (top 47) 0
theorem WG:bc ["self","bits","many"] ["self","bits"] (av nU):=⟨rfl,rfl,rfl,by decide +kernel,rfl,by decide +kernel,by decide +kernel⟩
noncomputable abbrev wc:Stmt:=top 54
theorem aS1:bc ["_law_told_here"] ["_law_told_here"] (av wc):=⟨rfl,rfl,rfl,by decide +kernel,rfl,by decide +kernel,by decide +kernel⟩
noncomputable abbrev we:Stmt:=top 53
theorem aU5:bc ["_law_told_here"] ["_law_told_here"] (av we):=⟨rfl,rfl,rfl,by decide +kernel,rfl,by decide +kernel,by decide +kernel⟩
noncomputable abbrev wg:Stmt:=top 57
theorem wj:bc ["_law_told_here","_law_a","_law_b","_law_total"] ["_law_told_here","_law_a","_law_b"] (av wg):=⟨rfl,rfl,rfl,by decide +kernel,rfl,by decide +kernel,by decide +kernel⟩
noncomputable abbrev wk:Stmt:=top 61
theorem Ab:bc ["_law_told_here","_law_many_here","_law_step","_law_powers_here","_law_ahead"] ["_law_told_here","_law_many_here"] (av wk):=⟨rfl,rfl,rfl,by decide +kernel,rfl,by decide +kernel,by decide +kernel⟩
noncomputable abbrev wm:Stmt:=top 50
theorem aU6:bc ["_law_script","_law_k"] ["_law_script","_law_k"] (av wm):=⟨rfl,rfl,rfl,by decide +kernel,rfl,by decide +kernel,by decide +kernel⟩
noncomputable abbrev wq:Stmt:=top 66
theorem nV:bc ["_law_script","_law_many_here","_law_whole_here","_law_length","_law_extra","_law_first","_law_count"] ["_law_script","_law_many_here","_law_whole_here"] (av wq):=⟨rfl,rfl,rfl,by decide +kernel,rfl,by decide +kernel,by decide +kernel⟩
noncomputable abbrev wt:Stmt:=top 59
theorem WH:bc ["_law_row"] ["_law_row"] (av wt):=⟨rfl,rfl,rfl,by decide +kernel,rfl,by decide +kernel,by decide +kernel⟩
noncomputable abbrev wu:Stmt:=top 55
theorem aU7:bc ["_law_told_here","_law_a","_law_b"] ["_law_told_here","_law_a","_law_b"] (av wu):=⟨rfl,rfl,rfl,by decide +kernel,rfl,by decide +kernel,by decide +kernel⟩
noncomputable abbrev wz:Stmt:=top 60
theorem Ds:bc ["_law_told_here","_law_a","_law_b","_law_total","_law_i","_law_x","_law_j","_law_y"] ["_law_told_here","_law_a","_law_b"] (av wz):=⟨rfl,rfl,rfl,by decide +kernel,rfl,by decide +kernel,by decide +kernel⟩
noncomputable abbrev wA:Stmt:=top 62
theorem Dt:bc ["_law_cell_here","_law_base","_law_count","_law_row","_law_k"] ["_law_cell_here","_law_base","_law_count"] (av wA):=⟨rfl,rfl,rfl,by decide +kernel,rfl,by decide +kernel,by decide +kernel⟩
noncomputable abbrev wB:Stmt:=top 56
theorem aU8:bc ["_law_told_here","_law_a","_law_b"] ["_law_told_here","_law_a","_law_b"] (av wB):=⟨rfl,rfl,rfl,by decide +kernel,rfl,by decide +kernel,by decide +kernel⟩
noncomputable abbrev wC:Stmt:=top 63
theorem qf:bc ["_law_script","_law_told_here","_law_many_here","_law_powers_here","_law_numbers_here","_law_maker","_law_i","_law_base","_law_message","_law_word_here"] ["_law_script","_law_told_here","_law_many_here","_law_powers_here","_law_numbers_here"] (av wC):=⟨rfl,rfl,rfl,by decide +kernel,rfl,by decide +kernel,by decide +kernel⟩
noncomputable abbrev wD:Stmt:=top 64
theorem Ac:bc ["_law_script","_law_told_here","_law_many_here","_law_word_here","_law_count","_law_row","_law_k","_law_p","_law_change"] ["_law_script","_law_told_here","_law_many_here","_law_word_here","_law_count"] (av wD):=⟨rfl,rfl,rfl,by decide +kernel,rfl,by decide +kernel,by decide +kernel⟩
noncomputable abbrev wF:Stmt:=top 29
theorem aQ2:bc ["signs"] ["signs"] (av wF):=⟨rfl,rfl,rfl,by decide +kernel,rfl,by decide +kernel,by decide +kernel⟩
noncomputable abbrev wG:Stmt:=top 30
theorem aF7:bc ["signs"] ["signs"] (av wG):=⟨rfl,rfl,rfl,by decide +kernel,rfl,by decide +kernel,by decide +kernel⟩
noncomputable abbrev wH:Stmt:=gH (top 47) 1
theorem aM0:bc ["self","a","b"] ["self","a","b"] (av wH):=⟨rfl,rfl,rfl,by decide +kernel,rfl,by decide +kernel,by decide +kernel⟩
noncomputable abbrev wI:Stmt:=gH (top 48) 1
theorem aH2:bc ["self","a","b"] ["self","a","b"] (av wI):=⟨rfl,rfl,rfl,by decide +kernel,rfl,by decide +kernel,by decide +kernel⟩
noncomputable abbrev wJ:Stmt:=gH (top 47) 3
theorem aJ8:bc ["self","a","b"] ["self","a","b"] (av wJ):=⟨rfl,rfl,rfl,by decide +kernel,rfl,by decide +kernel,by decide +kernel⟩
noncomputable abbrev wK:Stmt:=gH (top 48) 3
theorem aF8:bc ["self","a","b"] ["self","a","b"] (av wK):=⟨rfl,rfl,rfl,by decide +kernel,rfl,by decide +kernel,by decide +kernel⟩
noncomputable abbrev wL:Stmt:=top 10
theorem Du:bc ["field","a","x","value","number"] ["field","a","x"] (av wL):=⟨rfl,rfl,rfl,by decide +kernel,rfl,by decide +kernel,by decide +kernel⟩
noncomputable abbrev wM:Stmt:=top 21
theorem aU9:bc ["field","first","extra","word"] ["field","first","extra","word"] (av wM):=⟨rfl,rfl,rfl,by decide +kernel,rfl,by decide +kernel,by decide +kernel⟩
noncomputable abbrev wN:Stmt:=top 6
theorem Jd:bc ["a","length"] ["a"] (av wN):=⟨rfl,rfl,rfl,by decide +kernel,rfl,by decide +kernel,by decide +kernel⟩
noncomputable abbrev wO:Stmt:=top 9
theorem Dv:bc ["field","a","b","total","i","x","j","y"] ["field","a","b"] (av wO):=⟨rfl,rfl,rfl,by decide +kernel,rfl,by decide +kernel,by decide +kernel⟩
noncomputable abbrev wQ:Stmt:=gH (top 47) 2
theorem aJ9:bc ["self","a","b"] ["self","a","b"] (av wQ):=⟨rfl,rfl,rfl,by decide +kernel,rfl,by decide +kernel,by decide +kernel⟩
noncomputable abbrev wR:Stmt:=gH (top 48) 2
theorem aF9:bc ["self","a","b"] ["self","a","b"] (av wR):=⟨rfl,rfl,rfl,by decide +kernel,rfl,by decide +kernel,by decide +kernel⟩
noncomputable abbrev wU:Stmt:=top 22
theorem Dw:bc ["field","places","finder","place"] ["field","places"] (av wU):=⟨rfl,rfl,rfl,by decide +kernel,rfl,by decide +kernel,by decide +kernel⟩
noncomputable abbrev wV:Stmt:=gH (top 47) 5
theorem Ad:bc ["self","xs","ys","products","total","x","y"] ["self","xs","ys"] (av wV):=⟨rfl,rfl,rfl,by decide +kernel,rfl,by decide +kernel,by decide +kernel⟩
noncomputable abbrev wW:Stmt:=gH (top 48) 5
theorem aK0:bc ["self","xs","ys"] ["self","xs","ys"] (av wW):=⟨rfl,rfl,rfl,by decide +kernel,rfl,by decide +kernel,by decide +kernel⟩
noncomputable abbrev wX:Stmt:=top 26
theorem a08:bc ["field","row","c","place"] ["field","row","c","place"] (av wX):=⟨rfl,rfl,rfl,by decide +kernel,rfl,by decide +kernel,by decide +kernel⟩
noncomputable abbrev wY:Stmt:=top 7
theorem a09:bc ["a","length"] ["a","length"] (av wY):=⟨rfl,rfl,rfl,by decide +kernel,rfl,by decide +kernel,by decide +kernel⟩
noncomputable abbrev wZ:Stmt:=top 8
theorem WI:bc ["field","a","b","length"] ["field","a","b"] (av wZ):=⟨rfl,rfl,rfl,by decide +kernel,rfl,by decide +kernel,by decide +kernel⟩
noncomputable abbrev w5:Stmt:=gH (top 47) 6
theorem WJ:bc ["self","a","row","by_a"] ["self","a","row"] (av w5):=⟨rfl,rfl,rfl,by decide +kernel,rfl,by decide +kernel,by decide +kernel⟩
noncomputable abbrev w6:Stmt:=gH (top 48) 6
theorem WK:bc ["self","a","row","prime"] ["self","a","row"] (av w6):=⟨rfl,rfl,rfl,by decide +kernel,rfl,by decide +kernel,by decide +kernel⟩
noncomputable abbrev w9:Stmt:=gH (top 46) 5
theorem aS2:bc ["self","a","b"] ["self","a","b"] (av w9):=⟨rfl,rfl,rfl,by decide +kernel,rfl,by decide +kernel,by decide +kernel⟩
noncomputable abbrev xa:Stmt:=top 27
theorem hV:bc ["field","row","size","c","old","old_off","back","place","off","mended"] ["field","row"] (av xa):=⟨rfl,rfl,rfl,by decide +kernel,rfl,by decide +kernel,by decide +kernel⟩
noncomputable abbrev xb:Stmt:=top 23
theorem aV0:bc ["field","finder","length"] ["field","finder","length"] (av xb):=⟨rfl,rfl,rfl,by decide +kernel,rfl,by decide +kernel,by decide +kernel⟩
noncomputable abbrev xf:Stmt:=top 33
theorem Ae:bc ["field","lost","sums","length","known","left","rule","found"] ["field","lost","sums","length"] (av xf):=⟨rfl,rfl,rfl,by decide +kernel,rfl,by decide +kernel,by decide +kernel⟩
noncomputable abbrev xg:Stmt:=top 12
theorem aX7:bc ["table"] ["table"] (av xg):=⟨rfl,rfl,rfl,by decide +kernel,rfl,by decide +kernel,by decide +kernel⟩
noncomputable abbrev xh:Stmt:=top 13
theorem WL:bc ["rows","place","number","row"] ["rows","place"] (av xh):=⟨rfl,rfl,rfl,by decide +kernel,rfl,by decide +kernel,by decide +kernel⟩
noncomputable abbrev xi:Stmt:=gH (top 47) 7
theorem WM:bc ["self","row","a","other","by_a"] ["self","row","a","other"] (av xi):=⟨rfl,rfl,rfl,by decide +kernel,rfl,by decide +kernel,by decide +kernel⟩
noncomputable abbrev xj:Stmt:=gH (top 48) 7
theorem WN:bc ["self","row","a","other","prime"] ["self","row","a","other"] (av xj):=⟨rfl,rfl,rfl,by decide +kernel,rfl,by decide +kernel,by decide +kernel⟩
noncomputable abbrev xk:Stmt:=top 14
theorem aZ9:bc ["field","rows","lead_row","place"] ["field","rows","lead_row","place"] (av xk):=⟨rfl,rfl,rfl,by decide +kernel,rfl,by decide +kernel,by decide +kernel⟩
noncomputable abbrev xm:Stmt:=top 15
theorem qg:bc ["field","table","done","left","place","number","lead_row"] ["field","table"] (av xm):=⟨rfl,rfl,rfl,by decide +kernel,rfl,by decide +kernel,by decide +kernel⟩
noncomputable abbrev xn:Stmt:=top 16
theorem cp5:bc ["rows"] ["rows"] (av xn):=⟨rfl,rfl,rfl,by decide +kernel,rfl,by decide +kernel,by decide +kernel⟩
noncomputable abbrev xo:Stmt:=top 18
theorem aX8:bc ["table","due"] ["table","due"] (av xo):=⟨rfl,rfl,rfl,by decide +kernel,rfl,by decide +kernel,by decide +kernel⟩
noncomputable abbrev xp:Stmt:=top 19
theorem xq:bc ["field","table","due","width","rows","taken","x","lead","row"] ["field","table","due"] (av xp):=⟨rfl,rfl,rfl,by decide +kernel,rfl,by decide +kernel,by decide +kernel⟩
noncomputable abbrev xt:Stmt:=top 24
theorem WO:bc ["field","first","places","sums","table"] ["field","first","places","sums"] (av xt):=⟨rfl,rfl,rfl,by decide +kernel,rfl,by decide +kernel,by decide +kernel⟩
noncomputable abbrev xu:Stmt:=top 31
theorem Je:bc ["field","word","places","signs","left","place","sign"] ["field","word","places","signs"] (av xu):=⟨rfl,rfl,rfl,by decide +kernel,rfl,by decide +kernel,by decide +kernel⟩
noncomputable abbrev xv:Stmt:=top 34
theorem tG:bc ["field","first","extra","word","lost","known","sums","wrong","places","signs"] ["field","first","extra","word"] (av xv):=⟨rfl,rfl,rfl,by decide +kernel,rfl,by decide +kernel,by decide +kernel⟩
noncomputable abbrev xw:Stmt:=top 68
theorem aX9:bc ["_law_row","_law_word_here"] ["_law_row","_law_word_here"] (av xw):=⟨rfl,rfl,rfl,by decide +kernel,rfl,by decide +kernel,by decide +kernel⟩
noncomputable abbrev xx:Stmt:=top 65
theorem Jf:bc ["_law_script","_law_told_here","_law_many_here","_law_word_here","_law_row","_law_sign","_law_change"] ["_law_script","_law_told_here","_law_many_here","_law_word_here"] (av xx):=⟨rfl,rfl,rfl,by decide +kernel,rfl,by decide +kernel,by decide +kernel⟩
noncomputable abbrev xy:Stmt:=top 51
theorem aS3:bc ["_law_x"] ["_law_x"] (av xy):=⟨rfl,rfl,rfl,by decide +kernel,rfl,by decide +kernel,by decide +kernel⟩
noncomputable abbrev xA:Stmt:=top 58
theorem aS4:bc ["_law_found","_law_many_here"] ["_law_found","_law_many_here"] (av xA):=⟨rfl,rfl,rfl,by decide +kernel,rfl,by decide +kernel,by decide +kernel⟩
noncomputable abbrev xB:Stmt:=top 67
theorem Af:bc ["_law_told_here","_law_many_here","_law_powers_here","_law_numbers_here","_law_word_here","_law_i","_law_total","_law_p","_law_sign"] ["_law_told_here","_law_many_here","_law_powers_here","_law_numbers_here","_law_word_here"] (av xB):=⟨rfl,rfl,rfl,by decide +kernel,rfl,by decide +kernel,by decide +kernel⟩
noncomputable abbrev nW:Stmt:=top 69
theorem jT:bc ["_law_script","_law_told_here","_law_field_here","_law_many_here","_law_powers_here","_law_numbers_here","_law_word_here","_law_row","_law_handed","_law_found","_law_far_here"] ["_law_script"] (av nW):=⟨rfl,rfl,rfl,by decide +kernel,rfl,by decide +kernel,by decide +kernel⟩
set_option genInjectivity false in
set_option genSizeOf false in
structure km where
 Jg:Addr
 Jh:FuncData
 Ji:Addr
 Jj:FuncData
 Jk:Addr
 Jl:FuncData
 Jm:Addr
 Jn:FuncData
 Ag:Addr
 Jo:FuncData
 Jp:Addr
 Jq:FuncData
 Jr:Addr
 Js:FuncData
 Jt:Addr
 Dx:FuncData
 Ju:Addr
 Jv:FuncData
 Jw:Addr
 Jx:FuncData
 Jy:Addr
 Jz:FuncData
 JA:Addr
 JB:FuncData
 JC:Addr
 JE:FuncData
 JF:Addr
 Dy:FuncData
 JG:Addr
 JH:FuncData
 JI:Addr
 JJ:FuncData
 JK:Addr
 JL:FuncData
 JM:Addr
 JN:FuncData
 JO:Addr
 JP:FuncData
 JQ:Addr
 JR:FuncData
 JS:Addr
 JT:FuncData
 JU:Addr
 JV:FuncData
 JW:Addr
 JX:FuncData
 JY:Addr
 JZ:FuncData
 J0:Addr
 J1:FuncData
 J2:Addr
 J3:FuncData
 J4:Addr
 J5:FuncData
 J6:Addr
 J7:FuncData
 J8:Addr
 J9:FuncData
 Ka:Addr
 Kb:FuncData
 Kd:Addr
 Ke:FuncData
 Kf:Addr
 Kg:FuncData
 Kh:Addr
 Ki:FuncData
 Kj:Addr
 Kk:FuncData
 Kl:Addr
 Km:FuncData
 Kn:Addr
 Ko:FuncData
 Kp:Addr
 Kq:FuncData
 Kr:Addr
 Ks:FuncData
 Kt:Addr
 Ku:FuncData
 Kv:Addr
 Kw:FuncData
 Kx:Addr
 Ky:FuncData
 Kz:Addr
 KA:FuncData
 KC:Addr
 KD:FuncData
 KG:Addr
 KH:FuncData
 KI:Addr
 KJ:FuncData
 KL:Addr
 KN:FuncData
 KO:Addr
 KP:FuncData
 Dz:Addr
 KQ:FuncData
 KR:Addr
 KS:FuncData
 KU:Addr
 KW:FuncData
 KY:Addr
 KZ:FuncData
 K0:Addr
 K1:FuncData
 K2:Addr
 K3:FuncData
 K4:Addr
 K5:FuncData
 K6:Addr
 K7:FuncData
 K8:Addr
 K9:FuncData
 La:Addr
 Lb:FuncData
 Lc:Addr
 Ld:FuncData
 Le:Addr
 Lf:FuncData
 Lg:Addr
 Lh:FuncData
 Li:Addr
 Lj:FuncData
 Lk:Addr
 Ll:FuncData
 Lm:Addr
 Ln:FuncData
 Lo:Addr
 Lp:FuncData
 Lq:Addr
 Lr:FuncData
 Ls:Addr
 Lu:FuncData
 Lv:Addr
 Lw:FuncData
 Lx:Addr
 Ly:FuncData
 Lz:Addr
 LA:FuncData
 WQ:Addr
 kO:Addr
 WR:Addr
 kP:Addr
 aK:Addr
 hW:Addr
 kQ:Addr
 aN:Addr
structure Txt(K:Frag)(mg:Str->Option Value)(t:km):Prop where
 WS:aY K "_law_told" "_law_told" vS t.Jg t.Jh
 aY0:mg "_law_told"=some (.ref t.Jg)
 aY1:Binds K t.Jh ["_law_cell_here"] []
 LB:aY K "powers_of" "powers_of" vT t.Ji t.Jj
 WT:mg "powers_of"=some (.ref t.Ji)
 WU:Binds K t.Jj ["a","product"] []
 WV:aY K "step_powers" "step_powers" vU t.Jk t.Jl
 d91:mg "step_powers"=some (.ref t.Jk)
 d92:Binds K t.Jl ["many","product"] []
 WW:aY K "logs_of" "logs_of" vV t.Jm t.Jn
 d93:mg "logs_of"=some (.ref t.Jm)
 d94:Binds K t.Jn ["powers"] []
 aH3:aY K "step_power" "Field.step_power" vW t.Ag t.Jo
 Ah:Binds K t.Jo ["self","n"] []
 aV1:aY K "__init__" "Field.__init__" vX t.Jp t.Jq
 WX:Binds K t.Jq ["self","many","product"] []
 WY:aY K "makes_prime_field" "makes_prime_field" vY t.Jr t.Js
 d97:mg "makes_prime_field"=some (.ref t.Jr)
 d98:Binds K t.Js ["prime"] []
 aK1:aY K "__init__" "PrimeField.__init__" nS t.Jt t.Dx
 aK2:Binds K t.Dx ["self","prime"] []
 WZ:aY K "product_rows" "product_rows" vZ t.Ju t.Jv
 ea1:mg "product_rows"=some (.ref t.Ju)
 ea2:Binds K t.Jv ["powers","logs"] []
 LC:aY K "bits_divided" "bits_divided" v3 t.Jw t.Jx
 W0:mg "bits_divided"=some (.ref t.Jw)
 W2:Binds K t.Jx ["a","b"] []
 W3:aY K "stands_alone" "stands_alone" v9 t.Jy t.Jz
 ea3:mg "stands_alone"=some (.ref t.Jy)
 ea4:Binds K t.Jz ["a"] []
 W4:aY K "makes_bit_field" "makes_bit_field" wa t.JA t.JB
 ea5:mg "makes_bit_field"=some (.ref t.JA)
 ea6:Binds K t.JB ["bits"] []
 W5:aY K "bits_times" "bits_times" wb t.JC t.JE
 ea7:mg "bits_times"=some (.ref t.JC)
 ea8:Binds K t.JE ["a","b"] []
 aN5:aY K "__init__" "BitField.__init__" nU t.JF t.Dy
 aN6:Binds K t.Dy ["self","bits"] []
 W6:aY K "_law_field" "_law_field" wc t.JG t.JH
 aV2:mg "_law_field"=some (.ref t.JG)
 aV3:Binds K t.JH ["_law_told_here"] []
 W7:aY K "_law_many" "_law_many" we t.JI t.JJ
 aY2:mg "_law_many"=some (.ref t.JI)
 aY3:Binds K t.JJ ["_law_told_here"] []
 DA:aY K "_law_times" "_law_times" wg t.JK t.JL
 LD:mg "_law_times"=some (.ref t.JK)
 LF:Binds K t.JL ["_law_told_here","_law_a","_law_b"] []
 W8:aY K "_law_powers" "_law_powers" wk t.JM t.JN
 aS5:mg "_law_powers"=some (.ref t.JM)
 aS6:Binds K t.JN ["_law_told_here","_law_many_here"] []
 gC:aY K "_law_cell" "_law_cell" wm t.JO t.JP
 gL:mg "_law_cell"=some (.ref t.JO)
 gM:Binds K t.JP ["_law_script","_law_k"] []
 W9:aY K "_law_numbers" "_law_numbers" wq t.JQ t.JR
 aQ3:mg "_law_numbers"=some (.ref t.JQ)
 aQ4:Binds K t.JR ["_law_script","_law_many_here","_law_whole_here"] []
 Xa:aY K "_law_cut" "_law_cut" wt t.JS t.JT
 a00:mg "_law_cut"=some (.ref t.JS)
 a01:Binds K t.JT ["_law_row"] []
 Ai:aY K "_law_plus" "_law_plus" wu t.JU t.JV
 DB:mg "_law_plus"=some (.ref t.JU)
 DC:Binds K t.JV ["_law_told_here","_law_a","_law_b"] []
 LG:aY K "_law_product" "_law_product" wz t.JW t.JX
 Xb:mg "_law_product"=some (.ref t.JW)
 Xc:Binds K t.JX ["_law_told_here","_law_a","_law_b"] []
 LH:aY K "_law_digits" "_law_digits" wA t.JY t.JZ
 Xd:mg "_law_digits"=some (.ref t.JY)
 Xe:Binds K t.JZ ["_law_cell_here","_law_base","_law_count"] []
 Xf:aY K "_law_less" "_law_less" wB t.J0 t.J1
 aY4:mg "_law_less"=some (.ref t.J0)
 aY5:Binds K t.J1 ["_law_told_here","_law_a","_law_b"] []
 Xg:aY K "_law_word" "_law_word" wC t.J2 t.J3
 aY6:mg "_law_word"=some (.ref t.J2)
 aY7:Binds K t.J3 ["_law_script","_law_told_here","_law_many_here","_law_powers_here","_law_numbers_here"] []
 Xh:aY K "_law_spoilt" "_law_spoilt" wD t.J4 t.J5
 aS7:mg "_law_spoilt"=some (.ref t.J4)
 aS8:Binds K t.J5 ["_law_script","_law_told_here","_law_many_here","_law_word_here","_law_count"] []
 Xi:aY K "lost_places" "lost_places" wF t.J6 t.J7
 ec7:mg "lost_places"=some (.ref t.J6)
 ec8:Binds K t.J7 ["signs"] []
 Xj:aY K "noughts_for_lost" "noughts_for_lost" wG t.J8 t.J9
 ec9:mg "noughts_for_lost"=some (.ref t.J8)
 ed0:Binds K t.J9 ["signs"] []
 aN8:aY K "plus" "BitField.plus" wH t.Ka t.Kb
 aN9:Binds K t.Kb ["self","a","b"] []
 aK3:aY K "plus" "PrimeField.plus" wI t.Kd t.Ke
 aK4:Binds K t.Ke ["self","a","b"] []
 aM1:aY K "times" "BitField.times" wJ t.Kf t.Kg
 aM2:Binds K t.Kg ["self","a","b"] []
 aH6:aY K "times" "PrimeField.times" wK t.Kh t.Ki
 aH7:Binds K t.Ki ["self","a","b"] []
 LJ:aY K "value_at" "value_at" wL t.Kj t.Kk
 Xk:mg "value_at"=some (.ref t.Kj)
 Xl:Binds K t.Kk ["field","a","x"] []
 Xm:aY K "root_sums" "root_sums" wM t.Kl t.Km
 ed9:mg "root_sums"=some (.ref t.Kl)
 ee0:Binds K t.Km ["field","first","extra","word"] []
 LK:aY K "trimmed" "trimmed" wN t.Kn t.Ko
 Xn:mg "trimmed"=some (.ref t.Kn)
 Xo:Binds K t.Ko ["a"] []
 Xp:aY K "poly_times" "poly_times" wO t.Kp t.Kq
 ee1:mg "poly_times"=some (.ref t.Kp)
 ee2:Binds K t.Kq ["field","a","b"] []
 aM3:aY K "minus" "BitField.minus" wQ t.Kr t.Ks
 aM4:Binds K t.Ks ["self","a","b"] []
 aH8:aY K "minus" "PrimeField.minus" wR t.Kt t.Ku
 aH9:Binds K t.Ku ["self","a","b"] []
 Xq:aY K "place_finder" "place_finder" wU t.Kv t.Kw
 ee7:mg "place_finder"=some (.ref t.Kv)
 ee8:Binds K t.Kw ["field","places"] []
 aQ5:aY K "dot" "BitField.dot" wV t.Kx t.Ky
 aQ6:Binds K t.Ky ["self","xs","ys"] []
 aM5:aY K "dot" "PrimeField.dot" wW t.Kz t.KA
 aM6:Binds K t.KA ["self","xs","ys"] []
 LL:aY K "off_at" "off_at" wX t.KC t.KD
 Xr:mg "off_at"=some (.ref t.KC)
 Xs:Binds K t.KD ["field","row","c","place"] []
 DD:aY K "filled" "filled" wY t.KG t.KH
 LM:mg "filled"=some (.ref t.KG)
 LN:Binds K t.KH ["a","length"] []
 Xt:aY K "poly_minus" "poly_minus" wZ t.KI t.KJ
 ef3:mg "poly_minus"=some (.ref t.KI)
 ef4:Binds K t.KJ ["field","a","b"] []
 aK5:aY K "scaled" "BitField.scaled" w5 t.KL t.KN
 aK6:Binds K t.KN ["self","a","row"] []
 aG0:aY K "scaled" "PrimeField.scaled" w6 t.KO t.KP
 aG1:Binds K t.KP ["self","a","row"] []
 aV4:aY K "over" "Field.over" w9 t.Dz t.KQ
 Xu:Binds K t.KQ ["self","a","b"] []
 Xv:aY K "shortest" "shortest" xa t.KR t.KS
 eg0:mg "shortest"=some (.ref t.KR)
 eg1:Binds K t.KS ["field","row"] []
 Xw:aY K "places_in" "places_in" xb t.KU t.KW
 eg2:mg "places_in"=some (.ref t.KU)
 eg3:Binds K t.KW ["field","finder","length"] []
 Xx:aY K "wrong_places" "wrong_places" xf t.KY t.KZ
 eg4:mg "wrong_places"=some (.ref t.KY)
 eg5:Binds K t.KZ ["field","lost","sums","length"] []
 LO:aY K "width_of" "width_of" xg t.K0 t.K1
 Xy:mg "width_of"=some (.ref t.K0)
 Xz:Binds K t.K1 ["table"] []
 XA:aY K "first_with" "first_with" xh t.K2 t.K3
 eg6:mg "first_with"=some (.ref t.K2)
 eg7:Binds K t.K3 ["rows","place"] []
 aG2:aY K "lessened" "BitField.lessened" xi t.K4 t.K5
 aG3:Binds K t.K5 ["self","row","a","other"] []
 aD2:aY K "lessened" "PrimeField.lessened" xj t.K6 t.K7
 aD3:Binds K t.K7 ["self","row","a","other"] []
 LP:aY K "cleared" "cleared" xk t.K8 t.K9
 XB:mg "cleared"=some (.ref t.K8)
 XC:Binds K t.K9 ["field","rows","lead_row","place"] []
 XD:aY K "reduced" "reduced" xm t.La t.Lb
 eh2:mg "reduced"=some (.ref t.La)
 eh3:Binds K t.Lb ["field","table"] []
 XE:aY K "leads" "leads" xn t.Lc t.Ld
 eh4:mg "leads"=some (.ref t.Lc)
 eh5:Binds K t.Ld ["rows"] []
 XF:aY K "with_due" "with_due" xo t.Le t.Lf
 eh6:mg "with_due"=some (.ref t.Le)
 eh7:Binds K t.Lf ["table","due"] []
 XG:aY K "solved" "solved" xp t.Lg t.Lh
 eh8:mg "solved"=some (.ref t.Lg)
 eh9:Binds K t.Lh ["field","table","due"] []
 XH:aY K "signs_at" "signs_at" xt t.Li t.Lj
 ei0:mg "signs_at"=some (.ref t.Li)
 ei1:Binds K t.Lj ["field","first","places","sums"] []
 XI:aY K "taken_off" "taken_off" xu t.Lk t.Ll
 ei2:mg "taken_off"=some (.ref t.Lk)
 ei3:Binds K t.Ll ["field","word","places","signs"] []
 XJ:aY K "root_nearest" "root_nearest" xv t.Lm t.Ln
 ei4:mg "root_nearest"=some (.ref t.Lm)
 ei5:Binds K t.Ln ["field","first","extra","word"] []
 LQ:aY K "_law_far" "_law_far" xw t.Lo t.Lp
 XM:mg "_law_far"=some (.ref t.Lo)
 XN:Binds K t.Lp ["_law_row","_law_word_here"] []
 XO:aY K "_law_any_row" "_law_any_row" xx t.Lq t.Lr
 aQ7:mg "_law_any_row"=some (.ref t.Lq)
 aQ8:Binds K t.Lr ["_law_script","_law_told_here","_law_many_here","_law_word_here"] []
 XQ:aY K "_law_whole" "_law_whole" xy t.Ls t.Lu
 aV5:mg "_law_whole"=some (.ref t.Ls)
 aV6:Binds K t.Lu ["_law_x"] []
 XR:aY K "_law_signs" "_law_signs" xA t.Lv t.Lw
 aV7:mg "_law_signs"=some (.ref t.Lv)
 aV8:Binds K t.Lw ["_law_found","_law_many_here"] []
 XS:aY K "_law_sums_nought" "_law_sums_nought" xB t.Lx t.Ly
 aI3:mg "_law_sums_nought"=some (.ref t.Lx)
 aI4:Binds K t.Ly ["_law_told_here","_law_many_here","_law_powers_here","_law_numbers_here","_law_word_here"] []
 ej4:aY K "law" "law" nW t.Lz t.LA
 fB4:mg "law"=some (.ref t.Lz)
 fB5:Binds K t.LA ["_law_script"] []
 aI5:t.Dx.code=.ref t.WQ
 aI6:codeHdIn K t.WQ t.kO=true
 aM7:t.Dy.code=.ref t.WR
 aM8:codeHdIn K t.WR t.kP=true
 fv:dQ K t.aK
 Aj:Mk K t.aK t.JF
 a74:Vg K t.aK
 Ak:cq K t.aK "bits"
 qh:cq K t.aK "logs"
 tH:cq K t.aK "many"
 qi:cq K t.aK "powers"
 DE:cq K t.aK "prime"
 nX:cq K t.aK "products"
 Al:cq K t.aK "step"
 Am:cq K t.aK "wide"
 An:Meth K t.aK "dot" t.Kx
 Ao:Meth K t.aK "lessened" t.K4
 Ap:Meth K t.aK "minus" t.Kr
 Aq:Meth K t.aK "over" t.Dz
 Ar:Meth K t.aK "plus" t.Ka
 As:Meth K t.aK "scaled" t.KL
 tI:Meth K t.aK "step_power" t.Ag
 Au:Meth K t.aK "times" t.Kf
 fL:dQ K t.aN
 Av:Mk K t.aN t.Jt
 a73:Vg K t.aN
 DF:cq K t.aN "bits"
 tJ:cq K t.aN "logs"
 tK:cq K t.aN "many"
 tL:cq K t.aN "powers"
 kR:cq K t.aN "prime"
 DG:cq K t.aN "products"
 Aw:cq K t.aN "step"
 Az:cq K t.aN "wide"
 AA:Meth K t.aN "dot" t.Kz
 AB:Meth K t.aN "lessened" t.K6
 AD:Meth K t.aN "minus" t.Kt
 AE:Meth K t.aN "over" t.Dz
 AF:Meth K t.aN "plus" t.Kd
 AG:Meth K t.aN "scaled" t.KO
 tM:Meth K t.aN "step_power" t.Ag
 AH:Meth K t.aN "times" t.Kh
 XT:Cu K t.kQ "__init__" t.Jp
 LR:mg "all"=none
 ej9:mg "any"=none
 ek0:mg "bool"=none
 nY:mg "enumerate"=none
 XU:mg "int"=none
 LS:mg "isinstance"=none
 df:mg "len"=none
 AI:mg "list"=none
 ek1:mg "max"=none
 LU:mg "min"=none
 fY:mg "range"=none
 ek2:mg "reversed"=none
 XW:mg "sum"=none
 mq:mg "zip"=none
 AJ:mg "BitField"=some (.ref t.aK)
 AK:mg "ByNought"=some (.ref t.hW)
 xC:mg "Field"=some (.ref t.kQ)
 AL:mg "PrimeField"=some (.ref t.aN)
 XX:Hs K mg "ByNought" t.hW
 a75:dH4 K t.hW
section
variable{P:Program}{w:World}{K:Frag}{mg:Str->Option Value}{base:Heap}{t:km}
noncomputable abbrev aV9:bh:=λds Q=>∃c:Int,ds=[.int c]/\∀m,m∈aw->3<=aa m->Q (cS m)
theorem aW0(T:Txt K mg t):aM P w K mg base aT 1 t.Jg t.Jh ["_law_cell_here"] (bq (aV9 )):=by
 refine bA T.WS z9 ?_ ?_
 ·intro ds Q h
  obtain⟨c,rfl,q⟩:=h<;>rfl
 ·intro aE A outer s H E hr
  refine⟨_,(az (aI (i:=1) z9.nd rfl (ah rfl) (Ce (ns:=[7,11,13,19,25,31]) (by decide +kernel)))
   (az (aI (i:=2) z9.nd rfl (ah rfl) (Ce (ns:=[3,5,7,11,13,17]) (by decide +kernel)))
   (az (cj (bG (eJ (cI hr)) (ae (aA cP (bv 0) (ae ak))) (ae ak) (bC _)) (az (aI (i:=1) z9.nd rfl (ah rfl) (aA cu (bv 1) (ae (Ce (ns:=[37,41,47,55,59,61,67,73,87,91,97,103,109,115,117]) (by decide +kernel)))))
    (aB (aI (i:=2) z9.nd rfl (ah rfl) (aA cu (bv 2) (ae (Ce (ns:=[19,23,29,31,37,41,43,47,53,59,61]) (by decide +kernel))))))) cF)
   (az (cj (bG (eJ (cI hr)) (ae (aA cP (ae (aA jl (bv 0) (ae ak))) (ae ak))) (ae ak) (bC _)) (aB (aO (zh (cX jM (cX (dF (br (bv 1) (ae (aA cP (ae (aA jl (bv 0) (ae ak))) (ae (ck (de) (by rfl) T.df da (af (bv 1) ao))))) (λ_ _=>rfl))) dy))))) cF)
   (aB (aO (zh (cX jM (cX (dF (br (bv 2) (ae (aA cP (ae (aA jl (bv 0) (ae ak))) (ae (ck (de) (by rfl) T.df da (af (bv 2) ao))))) (λ_ _=>rfl))) dy))))))))),λds Q h=>?_⟩
  obtain⟨c,rfl,q⟩:=h
  refine ay λU hU=>?_
  walk_at"l3"
  refine⟨by decide,hU _ ?_⟩
  clear hU U
  refine ay λU hU=>?_
  walk_at"l3"
  refine⟨by decide,hU _ ?_⟩
  clear hU U
  refine ay λU hU=>?_
  walk_at"l3"
  have st:∀A B:List Int,0<A.length->A.length<=100->0<B.length->B.length<=100->(∀a∈A,0<=a/\(true,a.toNat)∈aw/\3<=aa (true,a.toNat))->(∀a∈B,0<=a/\(false,a.toNat)∈aw/\3<=aa (false,a.toNat))->U [some (D.int c),some (D.lst true (aC A)),some (D.lst true (aC B))]:=by
   intro A B a0 a1 b0 b1 hA hB
   refine hU _ ?_
   clear hU U
   refine ay λU hU=>?_
   walk_at"l3"
   have n1:=gR (c/16) (show(A.length:Int)≠0 by omega)
   have n2:=jC (c/16) (show(0:Int)<(A.length:Int) by omega)
   have n3:=gR (c/16) (show(B.length:Int)≠0 by omega)
   have n4:=jC (c/16) (show(0:Int)<(B.length:Int) by omega)
   have get:∀(Z:List Int) (k:Int),0<=k->k<(Z.length:Int)->Z.getD k.toNat 0∈Z:=λZ k h1 h2=>eL (by omega) 0
   refine⟨jk (by decide) (by decide),by decide,?_⟩
   split
   ·obtain⟨h1,h2,h3⟩:=hA _ (get A _ n1 n2)
    refine⟨jk (by decide) (by decide),by omega,_,me n1 (by omega),rfl,by decide,?_⟩
    have:=q _ h2 h3
    unfold cS at this
    rw[show(((A.getD (c/16%(A.length:Int)).toNat 0).toNat:Nat):Int)=A.getD (c/16%(A.length:Int)).toNat 0 by omega]at this
    exact this
   ·obtain⟨h1,h2,h3⟩:=hB _ (get B _ n3 n4)
    refine hU _ ?_
    walk_at"l3"
    refine⟨jk (by decide) (by decide),by omega,_,me n3 (by omega),rfl,by decide,?_⟩
    have:=q _ h2 h3
    unfold cS at this
    rw[show(((B.getD (c/16%(B.length:Int)).toNat 0).toNat:Nat):Int)=B.getD (c/16%(B.length:Int)).toNat 0 by omega]at this
    exact this
  clear hU
  refine⟨by decide,?_⟩
  split
  ·refine ay λU hU=>?_
   walk_at"l3"
   refine⟨by decide,by decide,hU _ ?_⟩
   clear hU
   walk_at"l3"
   refine⟨by decide,by decide,?_⟩
   exact st _ _ (by decide) (by decide) (by decide) (by decide) (by decide) (by decide)
  ·exact st _ _ (by decide) (by decide) (by decide) (by decide) (by decide) (by decide)
noncomputable abbrev aW1(L:Obj->Obj->Addr->Addr->vv->Prop):bh:=λds Q=>∃(a:Nat) (of oc:Obj) (c k:Addr) (g:Nat->Nat->Nat) (l:List Int),ds=[.int a,.bJ (.lam of oc c k)]/\L of oc c k (aX g)/\a<64/\HJ g a=some l/\Q (.lst true (aC l))
theorem XY(T:Txt K mg t):aM P w K mg base aT 5 t.Ji t.Jj ["a","product"] (bq (aW1 (zC P w K mg base 4))):=by
 refine bA T.LB Dn ?_ ?_
 ·intro ds Q h
  obtain⟨a,of,oc,c,k,g,l,rfl,hL,ha,hp,q⟩:=h<;>rfl
 ·intro aE A outer s H E hr
  refine⟨_,(az (aI (i:=2) Dn.nd rfl (ah rfl) (eI (cX ak dy)))
   (az (aI (i:=3) Dn.nd rfl (ah rfl) (UD (n:=4) (i:=1) rfl (by first | exact ah rfl | exact bw (ah rfl)) (hr.mono (by decide)) (af (ae ak) (af (bv 0) ao))))
   (az (rz dB (bG (jQ (cI hr)) (bv 3) (ae ak) (bC _))
    (az (sA (i:=2) rfl (by first | exact ah rfl | exact bw (ah rfl)) (dF (bv 3)))
    (aB (aI (i:=3) Dn.nd rfl (ah rfl) (UD (n:=4) (i:=1) rfl (by first | exact ah rfl | exact bw (ah rfl)) (hr.mono (by decide)) (af (bv 3) (af (bv 0) ao)))))))
   (aB (aO (em 2)))))),λds Q h=>?_⟩
  obtain⟨a,of,oc,c,k,g,l,rfl,hL,ha,hp,q⟩:=h
  refine ay λU hU=>?_
  walk_at"l3"
  refine⟨by decide,hU _ ?_⟩
  clear hU U
  refine ay λU hU=>?_
  walk_at"l3"
  refine⟨of,oc,c,k,aX g,rfl,hL,1,a,⟨rfl,rfl⟩,1,a,rfl,rfl,by decide,ha,hU _ ?_⟩
  clear hU U
  refine ay λU hU=>?_
  walk_at"l3"
  refine⟨λm δ=>∃(p:Nat) (acc:List Int),δ=[some (.int a),some (.bJ (.lam of oc c k)),some (.lst true (aC acc)),some (.int p)]/\acc.length+m<=70/\Cw g a m p acc=some l,⟨64,_,[1],rfl,by decide,hp⟩,?_⟩
  rintro m δ ⟨p,acc,rfl,hn,hg⟩
  walk_at"l3"
  cases m with
  | zero=>cases hg
  | succ m =>
   unfold Cw at hg
   split at hg
   ·rename_i h1
    subst h1
    cases hg
    rw[if_neg (by simp)]
    refine hU _ ?_
    walk_at"l3"
    exact q
   ·rename_i h1
    rw[if_pos (by simp;omega)]
    split at hg
    ·rename_i h2
     clear hU
     refine ay λU hU=>?_
     walk_at"l3"
     refine⟨⟨_,rfl⟩,by omega,hU _ ?_⟩
     clear hU
     walk_at"l3"
     exact⟨of,oc,c,k,aX g,rfl,hL,p,a,⟨rfl,rfl⟩,p,a,rfl,rfl,h2,ha,m,by omega,g p a,acc++[(p:Int)],⟨by rw[<-pF];rfl,rfl⟩,by simp;omega,hg⟩
    ·cases hg
noncomputable abbrev aQ9(L:Obj->Obj->Addr->Addr->vv->Prop):bh:=λds Q=>∃(n:Nat) (of oc:Obj) (c k:Addr) (g:Nat->Nat->Nat) (l:List Int),ds=[.int n,.bJ (.lam of oc c k)]/\L of oc c k (aX g)/\zI g n=some l/\Q (.lst true (aC l))
theorem aR0(T:Txt K mg t):aM P w K mg base aT 6 t.Jk t.Jl ["many","product"] (bq (aQ9 (zC P w K mg base 4))):=by
 refine bA T.WV Aa ?_ ?_
 ·intro ds Q h
  obtain⟨n,of,oc,c,k,g,l,rfl,hL,hp,q⟩:=h<;>rfl
 ·intro aE A outer s H E hr
  refine⟨_,(az (aI (i:=2) Aa.nd rfl (ah rfl) ak)
   (az (aI (i:=3) Aa.nd rfl (ah rfl) (aZ ((XY T).mono (by decide)) hr rfl T.WT T.LB.kp T.WU aR (af (bv 2) (af (bv 1) ao))))
   (az (rz dB (bG zo (ae (ck (de) (by rfl) T.df da (af (bv 3) ao))) (ae (aA dR (bv 0) (ae ak))) (bC _))
    (az (oU (i:=2) Aa.nd rfl (ah rfl) (ae ak) G7)
    (aB (aI (i:=3) Aa.nd rfl (ah rfl) (aZ ((XY T).mono (by decide)) hr rfl T.WT T.LB.kp T.WU aR (af (bv 2) (af (bv 1) ao)))))))
   (aB (aO (em 3)))))),λds Q h=>?_⟩
  obtain⟨n,of,oc,c,k,g,l,rfl,hL,hp,q⟩:=h
  unfold zI at hp
  split at hp
  ·rename_i l0 h0
   refine ay λU hU=>?_
   walk_at"l3"
   refine hU _ ?_
   clear hU U
   refine ay λU hU=>?_
   walk_at"l3"
   refine⟨1,of,oc,c,k,g,l0,rfl,hL,by decide,h0,hU _ ?_⟩
   clear hU U
   refine ay λU hU=>?_
   walk_at"l3"
   refine⟨λm δ=>∃(st:Nat) (l1:List Int),δ=[some (.int n),some (.bJ (.lam of oc c k)),some (.int st),some (.lst true (aC l1))]/\st+m<=63/\Cy g n m st l1=some l,⟨62,1,l0,rfl,by decide,hp⟩,?_⟩
   rintro m δ ⟨st,l1,rfl,hn,hg⟩
   walk_at"l3"
   cases m with
   | zero=>cases hg
   | succ m =>
    unfold Cy at hg
    split at hg
    ·rename_i h1
     rw[if_pos (by omega)]
     split at hg
     ·rename_i l2 h2
      clear hU
      refine ay λU hU=>?_
      walk_at"l3"
      refine hU _ ?_
      clear hU
      walk_at"l3"
      exact⟨st+1,of,oc,c,k,g,l2,rfl,hL,by omega,h2,m,by omega,st+1,l2,⟨rfl,rfl⟩,by omega,hg⟩
     ·cases hg
    ·rename_i h1
     rw[if_neg (by omega)]
     cases hg
     refine hU _ ?_
     walk_at"l3"
     exact q
  ·cases hp
noncomputable abbrev a02:bh:=λds Q=>∃(l:List Int),ds=[.lst false (aC l)]/\l.length<=64/\(∀x∈l,0<=x/\x.toNat<=l.length)/\Q (.lst true (aC (eC l)))
theorem a03(T:Txt K mg t):aM P w K mg base aT 1 t.Jm t.Jn ["powers"] (bq (a02 )):=by
 refine bA T.WW Jb ?_ ?_
 ·intro ds Q h
  obtain⟨l,rfl,hl,hx,q⟩:=h<;>rfl
 ·intro aE A outer s H E hr
  refine⟨_,(az (aI (i:=1) Jb.nd rfl (ah rfl) (aA fV (ae (eI (cX ak dy))) (ae (aA cu (ae (ck (de) (by rfl) T.df da (af (bv 0) ao))) (ae ak)))))
   (az (e7 dB rfl (nt rfl T.nY (af (bv 0) ao)) (gi (i1:=2) (i2:=3) rfl Jb.nd rfl (ah rfl) rfl (ah rfl))
    (aB (sE (i:=1) rfl (by first | exact ah rfl | exact bw (ah rfl)) (dF (bv 2)) (bv 3))))
   (aB (aO (em 1))))),λds Q h=>?_⟩
  obtain⟨l,rfl,hl,hx,q⟩:=h
  refine ay λU hU=>?_
  walk_at"l3"
  refine⟨by decide,⟨by omega,by omega,by omega⟩,hU _ ?_⟩
  clear hU U
  refine ay λU hU=>?_
  walk_at"l3"
  refine fj.mk (λi δ=>∃o1 o2,δ=[some (.lst false (aC l)),some (.lst true (aC (nB l i))),o1,o2]) ⟨none,none,?_⟩ ?_ ?_
  ·rw[show((l.length:Int)+1).toNat=l.length+1 by omega];rfl
  ·rintro i d δ hd ⟨o1,o2,rfl⟩
   obtain⟨hi,rfl⟩:∃h:i<l.length,d=.tup [.int i,.int l[i]]:=by
    unfold fq aC at hd
    rw[yd,cm]at hd
    by_cases hi:i<l.length
    ·rw[aJ hi]at hd
     simp at hd
     exact⟨hi,hd.symm⟩
    ·rw[ja (by omega)]at hd;simp at hd
   have ft:=hx l[i] (dv _)
   walk_at"l3"
   refine⟨_,(l[i]).toNat,rfl,?_,_,_,?_,rfl,rfl⟩
   ·unfold iu
    rw[kG,zJ,if_pos ft.1,if_pos (by omega)]
   ·unfold aC
    rw[<-Ru]
    congr 1
    show _=(nB l i).set (l.getD i 0).toNat (i:Int)
    rw[aL,aJ hi];rfl
  ·rintro δ ⟨o1,o2,rfl⟩
   refine hU _ ?_
   simp only[rk,oS,rm,rn,dT,lR,m6,m8,dC,oJ,oQ,oN,oM,oO,rj,nk,sj,pz,sk,sq,q0,q5,q8,q9,rf,rh,oK,r9,pe,pf,ii,oY,rH,oZ,rJ,rK,rL,rM,rN,rO,iI,gv,rQ,rR,rS,rT,o8,o9,lX,rZ,r6,gN,sr,si,rp,rA,rB,rC,rD,rE,su,sD,sF,oX,jP,fU,iY,iB,qC,qv,yo,yp,oR,jO,iA,pk,pq,pH,sJ,sM,sN,vi,kH,sQ,pK,sO,jo,vm,vj,vk,dP,kU,qF,mC,dO,yq,aV,ub,ud,jD,jE,ue,exists_eq_left',exists_eq_left,D.bl.injEq,D.int.injEq,D.lst.injEq,D.fz.injEq,D.str.injEq,D.tup.injEq,uf,and_true,true_and,eN,oi,jA,mG,uN,uO,uP,uQ,uR,uS,gr,ku,kF,uW,uX,uY,uZ,u3,fh,ky,pB,uT,uU,uV,gh,m4,yr,yt,tR,jb,yu,yv,tW,u7,u9,va,vb,vd,ve,vf,kG,lZ,pE,jn,pF,u5,sI,u4,pG,u6,sG,i3,sH,if_true,yw,if_false,reduceIte,vg,decide_eq_true_eq,dz,kJ,nu,vp,mh,vo,rq,sT,pX,sP,pP,pQ,sV,sZ,vG,p5,s8,jx,vM,nH,vN,tE,kI]
   exact q
noncomputable abbrev AM(K:Frag):bh:=λds Q=>∃(C:Addr) (ns:List Str) (xs:List D) (n:Int) (many:Nat) (l:List Int) (r:Int),ds=[.obj C ns xs,.int n]/\dQ K C/\cq K C "powers"/\cq K C "many"/\(ns.zip xs).lookup ("powers":Str)=some (.lst false (aC l))/\(ns.zip xs).lookup ("many":Str)=some (.int many)/\2<=many/\l[(n%((many:Int)-1)).toNat]?=some r/\Q (.int r)
theorem AN(T:Txt K mg t):aM P w K mg base aT 1 t.Ag t.Jo ["self","n"] (bq (AM K)):=by
 refine bA T.aH3 aF6 ?_ ?_
 ·intro ds Q h
  obtain⟨C,ns,xs,n,many,l,r,rfl,hC,h1,h2,h3,h4,h5,h6,q⟩:=h<;>rfl
 ·intro aE A outer s H E hr
  refine⟨_,(aB (aO (dF (br (i6 (K:=K) (bv 0)) (ae (aA cP (bv 1) (ae (aA dR (i6 (K:=K) (bv 0)) (ae ak))))) (λ_ _=>rfl))))),λds Q h=>?_⟩
  obtain⟨C,ns,xs,n,many,l,r,rfl,hC,h1,h2,h3,h4,h5,h6,q⟩:=h
  walk_at"l3"
  refine⟨C,ns,xs,_,rfl,hC,h1,h3,C,ns,xs,_,rfl,hC,h2,h4,?_⟩
  refine⟨by omega,_,kh (d:=.int r) (gR _ (by omega)) ?_,rfl,q⟩
  unfold aC
  rw[cm,h6];rfl
theorem DH(T:Txt K mg t){m:Bool × Nat}(hm:m∈aw){n:Int}{Q:D->Prop}(q:Q (.int (eS m n:Nat))):HN P w K mg base 1 t.aK t.aN m "step_power" [.int n] Q:=by
 have hF:=bO hm
 have hl:=HP hm n
 obtain⟨k,b⟩:=m
 cases k with
 | true=>exact⟨_,_,_,AM K,rfl,⟨T.fv,_,_,_,T.tI,AN T,T.Ah⟩,by decide,_,_,_,_,aa (true,b),fl (true,b),_,rfl,T.fv,T.qi,T.tH,rfl,rfl,hF.lo,hl,q⟩
 | false=>exact⟨_,_,_,AM K,rfl,⟨T.fL,_,_,_,T.tM,AN T,T.Ah⟩,by decide,_,_,_,_,aa (false,b),fl (false,b),_,rfl,T.fL,T.tL,T.tK,rfl,rfl,hF.lo,hl,q⟩
noncomputable abbrev aS9(P:Program)(w:World)(K:Frag)(mg:Str->Option Value)(base:Heap)(fs:Addr):Sp:=λvs H Q _=>∃(x dx f C:Addr) (b:Str) (n0:Int) (many:Nat) (of oc:Obj) (c k:Addr) (g:Nat->Nat->Nat) (l:List Int) (st:Int),
 vs=[.ref x,.int many,.ref f]/\H x=some (.ins C dx [(b,.int n0)])/\(∀n∈(["many","wide","powers","logs","step","step_power"]:List Str),b≠n)/\dU3 K C fs/\jL H f of oc c k/\zC P w K mg base 4 of oc c k (aX g)/\UZ g many l st /\
 ∀H' p1 p2,dS x H H'->H' x=some (.ins C dx ((g6 b).zip (CA n0 many p1 p2 st)))->LI H' p1 l->LI H' p2 (eC l)->p1≠p2->H p1=none->H p2=none->Q .ax H'
theorem XZ(T:Txt K mg t):aM P w K mg base aT 7 t.Jp t.Jq ["self","many","product"] (aS9 P w K mg base t.Ag):=by
 refine T.aV1.ok aS0 (λvs H Q E h=>?_) λaE A outer s H vs Q E hr h=>?_
 ·obtain⟨x,dx,f,C,b,n0,many,of,oc,c,k,g,l,st,rfl,_⟩:=h;rfl
 obtain⟨x,dx,f,C,b,n0,many,of,oc,c,k,g,l,st,rfl,hx,hb,hC,el1,hL,hF,q⟩:=h
 refine⟨_,ka (oA (pv 0) (pv 1) rfl) (ka (oA (pv 0) (yM FW (GA (pv 1)) yD) rfl)
  (ka (oA (pv 0) (qS ((aR0 T).mono (by decide)) hr rfl T.d91 T.WV.kp T.d92 .nil aR (fE (pv 1) (fE (pv 2) jg))) rfl)
  (ka (oA (pv 0) (qS ((a03 T).mono (by decide)) hr rfl T.d93 T.WW.kp T.d94 .nil aR (fE (BO (pv 0) rfl) jg)) rfl)
  (uk (oA (pv 0) (cK0 (pv 0) hC.cls hC.sp ((AN T).mono (by decide)) hr T.Ah .nil aR (fE yD jg)) rfl))))),?_⟩
 have nb:∀n∈(["many","wide","powers","logs","step","step_power"]:List Str),b≠n:=hb
 refine⟨.int many,rfl,.ref x,rfl,x,C,dx,_,rfl,hx,hC.cls,hC.many,mF (bI 1) (by decide),?_⟩
 rw[vy (by simpa using nb "many" (by simp))]
 generalize e1:upd H x (HO.ins C dx ([(b,V.int n0)]++[(("many":Str),V.int many)]))=H1
 have ft:H1 x=some (.ins C dx [(b,V.int n0),(("many":Str),V.int many)]):=by rw[<-e1,cA];rfl
 have s1:dS x H H1:=by rw[<-e1];exact dS.upd (C:=C) (dx:=dx) hx rfl
 have l1:jL H1 f of oc c k:=by rw[<-e1];exact el1.zK hx
 have n1:∀p,H1 p=none->H p=none:=λp h=>zL hx (by rw[e1];exact h)
 refine⟨_,rfl,rfl,_,rfl,rfl,_,_,rfl,rfl,.ref x,rfl,x,C,dx,_,rfl,ft,hC.cls,hC.wide,mF (bI 2) (by decide),?_⟩
 rw[vy (by simp;exact⟨nb "wide" (by simp),by decide⟩),iJ]
 generalize e2:upd H1 x (HO.ins C dx ([(b,V.int n0),(("many":Str),V.int many)]++[(("wide":Str),V.int ((bl many:Nat)-1))]))=H2
 have iD:H2 x=some (.ins C dx [(b,V.int n0),(("many":Str),V.int many),(("wide":Str),V.int ((bl many:Nat)-1))]):=by rw[<-e2,cA];rfl
 have s2:dS x H H2:=by rw[<-e2];exact s1.trans (dS.upd (C:=C) (dx:=dx) ft rfl)
 have l2:jL H2 f of oc c k:=by rw[<-e2];exact l1.zK ft
 have n2:∀p,H2 p=none->H p=none:=λp h=>n1 p (zL ft (by rw[e2];exact h))
 refine⟨_,rfl,_,rfl,H2,[.int many,.bJ (.lam of oc c k)],λd=>d=.lst true (aC l),ag.refl _,.int (.bJ l2 .nil),⟨many,of,oc,c,k,g,l,rfl,hL,hF.step,rfl⟩,λd v F' H3 A' hd hs hf he h3 r nd fr=>?_⟩
 subst hd
 obtain⟨p1,rfl,LV,AO⟩:=UY r fr
 have mr:=hs.get _ _ iD
 have s3:=s2.trans (hs.x (x:=x))
 refine⟨.ref x,rfl,x,C,dx,_,rfl,mr,hC.cls,hC.HK,mF (bI 3) (by decide),?_⟩
 rw[vy (by simp;exact⟨nb "powers" (by simp),by decide,by decide⟩)]
 generalize e4:upd H3 x (HO.ins C dx ([(b,V.int n0),(("many":Str),V.int many),(("wide":Str),V.int ((bl many:Nat)-1))]++[(("powers":Str),V.ref p1)]))=H4
 have qj:H4 x=some (.ins C dx [(b,V.int n0),(("many":Str),V.int many),(("wide":Str),V.int ((bl many:Nat)-1)),(("powers":Str),V.ref p1)]):=by rw[<-e4,cA];rfl
 have s4:dS x H H4:=by rw[<-e4];exact s3.trans (dS.upd (C:=C) (dx:=dx) mr rfl)
 have p4:LI H4 p1 l:=by rw[<-e4];exact LV.upd mr (λws z=>by cases z)
 have n4:∀p,H4 p=none->H p=none:=λp h=>n2 p (hs.free (zL mr (by rw[e4];exact h)))
 refine⟨.ref x,rfl,x,C,dx,_,.ref p1,rfl,qj,hC.cls,hC.HK,by rw[CB (nb "powers" (by simp))];rfl,H4,[.lst false (aC l)],λd=>d=.lst true (aC (eC l)),ag.refl _,.shr p4 (kE l) .nil,⟨l,rfl,by have:=hF.len;have:=hF.hi;omega,hF.ins,rfl⟩,λd v F' H5 A' hd qk hf he h3 r nd fr=>?_⟩
 subst hd
 obtain⟨p2,rfl,X0,tN⟩:=UY r fr
 have mv:=qk.get _ _ qj
 have s5:=s4.trans (qk.x (x:=x))
 have el2:p1≠p2:=λz=>by rw[<-z]at tN;unfold LI at p4;rw[tN]at p4;cases p4
 refine⟨.ref x,rfl,x,C,dx,_,rfl,mv,hC.cls,hC.dU4,mF (bI 4) (by decide),?_⟩
 rw[vy (by simp;exact⟨nb "logs" (by simp),by decide,by decide,by decide⟩)]
 generalize e6:upd H5 x (HO.ins C dx ([(b,V.int n0),(("many":Str),V.int many),(("wide":Str),V.int ((bl many:Nat)-1)),(("powers":Str),V.ref p1)]++[(("logs":Str),V.ref p2)]))=H6
 have LW:H6 x=some (.ins C dx (([b,"many","wide","powers","logs"]:List Str).zip [V.int n0,V.int many,V.int ((bl many:Nat)-1),V.ref p1,V.ref p2])):=by rw[<-e6,cA];rfl
 have s6:dS x H H6:=by rw[<-e6];exact s5.trans (dS.upd (C:=C) (dx:=dx) mv rfl)
 have p6:LI H6 p1 l:=by rw[<-e6];exact(p4.same qk).upd mv (λws z=>by cases z)
 have q6:LI H6 p2 (eC l):=by rw[<-e6];exact X0.upd mv (λws z=>by cases z)
 refine⟨.ref x,rfl,x,dx,_,rfl,LW,by show my ("step_power":Str) ((b,V.int n0)::_)=none;rw[CB (nb "step_power" (by simp))];rfl,H6,[.obj C [b,"many","wide","powers","logs"] [.int n0,.int many,.int ((bl many:Nat)-1),.lst false (aC l),.lst false (aC (eC l))],.int 1],λd=>d=.int st,ag.refl _,
  .obj LW rfl (.int (.int (.int (.shr p6 (kE l) (.shr q6 (kE _) .nil))))) (.int .nil),⟨C,_,_,1,many,l,st,rfl,hC.cls,hC.HK,hC.many,by show my ("powers":Str) ((b,D.int n0)::_)=_;rw[CB (nb "powers" (by simp))];rfl,by show my ("many":Str) ((b,D.int n0)::_)=_;rw[CB (nb "many" (by simp))];rfl,hF.lo,hF.st,rfl⟩,λd v F' H7 A' hd DI hf he h3 r nd fr=>?_⟩
 subst hd
 cases r
 have DJ:=DI.get _ _ LW
 refine⟨.ref x,rfl,x,C,dx,_,rfl,DJ,hC.cls,hC.step,mF (bI 5) (by decide),?_⟩
 rw[vy (by simp;exact⟨nb "step" (by simp),by decide,by decide,by decide,by decide⟩)]
 refine q _ p1 p2 ((s6.trans (DI.x (x:=x))).trans (dS.upd (C:=C) (dx:=dx) DJ rfl)) (by rw[cA];rfl) ((p6.same DI).upd DJ (λws z=>by cases z)) ((q6.same DI).upd DJ (λws z=>by cases z)) el2 (n2 p1 AO) (n4 p2 tN)
noncomputable abbrev aE2:bh:=λds Q=>∃a:Int,ds=[.int a]/\Q (.bl (decide (2<=a)&&decide (a<=61)&&(aS (a.toNat-2)).all λi=>a%(2+(i:Int)) != 0))
theorem aE3(T:Txt K mg t):aM P w K mg base aT 1 t.Jr t.Js ["prime"] (bq (aE2 )):=by
 refine bA T.WY aD7 ?_ ?_
 ·intro ds Q h
  obtain⟨a,rfl,q⟩:=h<;>rfl
 ·intro aE A outer s H E hr
  refine⟨_,(aB (aO (B4 (ae (Hb rV rV (ae ak) (bv 0) (ae ak))) (BE (ck (Hf rfl) (by rfl) T.LR Gz (af (ae (fc [("prime",0)] ["d"] rfl (uF rfl T.fY (af (ae ak) (af (bv 0) ao))) (λ_ _ _ _=>(dm (i:=1) (show(["prime","d"]:List Str).Nodup by decide +kernel) rfl (ah (lookup_relabel_local rfl)) (by decide) (bw (lookup_relabel_local rfl)))) (λ_ _ _ _=>eR) (λ_ _ _ _=>(qZ (jQ (cI hr)) (ae (aA cP (bv 0) (bv 1))) (ae ak) (bC _))) rfl ⟨rfl,trivial⟩ (λ_=>by repeat' (first | exact trivial | refine⟨.inl rfl,?_⟩ | refine⟨.inr (.inl rfl),?_⟩ | refine⟨.inr (.inr ⟨_,rfl⟩),?_⟩)) (λ_=>⟨⟨rfl,.inl rfl,.inl rfl,_,rfl,rfl⟩,trivial⟩) rfl (by decide +kernel))) ao)))))),λds Q h=>?_⟩
  obtain⟨a,rfl,q⟩:=h
  walk_at"l3"
  split
  ·rename_i h1
   split
   ·rename_i h2
    refine⟨2,a,⟨rfl,rfl⟩,⟨by decide,by decide,by omega,by omega⟩,?_⟩
    have e0:(a-2).toNat=a.toNat-2:=by omega
    rw[e0]
    refine gw (aS (a.toNat-2)) (λ(k:Nat)=>D.int (2+(k:Int))) (λ(k:Nat)=>D.bl (a%(2+(k:Int)) != 0)) (by rw[oW]) (λx y h=>by injection h with h;omega) (λk hk=>?_) (.inr λ_ _=>rfl) (by rw[eH,sL];omega) ?_
    ·walk_at"l3"
     refine⟨by omega,?_⟩
     by_cases z:a%(2+(k:Int))=0<;>simp[z]
    ·refine⟨(aS (a.toNat-2)).map λ(k:Nat)=>a%(2+(k:Int)) != 0,?_,?_⟩
     ·unfold se;rw[dh];rfl
     ·have e:(decide (2<=a)&&decide (a<=61)&&(aS (a.toNat-2)).all λi=>a%(2+(i:Int)) != 0)=((aS (a.toNat-2)).map λ(k:Nat)=>a%(2+(k:Int)) != 0).all id:=by
       simp[h1,h2,kX]
      rw[<-e];exact q
   ·rename_i h2
    have e:(decide (2<=a)&&decide (a<=61)&&(aS (a.toNat-2)).all λi=>a%(2+(i:Int)) != 0)=false:=by simp[h2]
    rw[e]at q;exact q
  ·rename_i h1
   have e:(decide (2<=a)&&decide (a<=61)&&(aS (a.toNat-2)).all λi=>a%(2+(i:Int)) != 0)=false:=by simp[h1]
   rw[e]at q;exact q
noncomputable abbrev aR1:List D->List Str->List D->Prop:=λds ns xs=>∃p:Nat,ds=[.int p]/\p∈Cz/\ns=g6 "prime"/\xs=[.int p,.int p,.int ((bl p:Nat)-1),.lst true (aC (fl (false,p))),.lst true (aC (eC (fl (false,p)))),.int (fst (false,p))]
theorem aI8(T:Txt K mg t)(hB:Bm mg base):aM P w K mg base aT 8 t.Jt t.Dx ["self","prime"] (HI [t.kO,t.kP] t.aN aR1):=by
 refine UT T.aK1 T.aI5 aH0 (λvs H Q E h=>?_) λA outer s H vs Q E hr h=>?_
 ·obtain⟨x,dx,cE,ds,ns,xs,rfl,_,_,r,⟨p,rfl,_⟩,_⟩:=h
  have:=r.length
  simp at this
  simp[this]
 obtain⟨x,dx,cE,ds,ns,xs,rfl,tb,hx,r,⟨p,rfl,hp,rfl,rfl⟩,q⟩:=h
 obtain rfl:cE=[.int p]:=by
  cases r with
  | int r=>cases r;rfl
 have hm:(false,p)∈aw:=fB _ (Fq hp)
 have hF:=bO hm
 refine⟨_,ka (FG (FE (FC (qS ((aE3 T).mono (by decide)) hr rfl T.d97 T.WY.kp T.d98 .nil aR (fE (pv 1) jg)))) (uk RK) FF)
  (ka (oA (pv 0) (pv 1) rfl)
  (uk (BF (UM (E:=E0) (i:=1) T.XT ((XZ T).mono (by decide)) hr T.WX rfl T.xC rfl rfl rfl rfl (fE (pv 0) (fE (pv 1) (fE (UE rfl rfl T.aI6 hB) jg))))))),?_⟩
 refine⟨_,rfl,H,[.int p],λd=>d=.bl true,ag.refl _,.int .nil,⟨p,rfl,by rw[cs3 p hp]⟩,λd v F' H1 A1 hd tO hf he h3 r nd fr=>?_⟩
 subst hd
 cases r
 refine⟨true,rfl,?_⟩
 refine lL ?_
 have ft:=tO.get _ _ hx
 refine⟨.int p,rfl,.ref x,rfl,x,t.aN,dx,_,rfl,ft,T.fL,T.kR,by decide,?_⟩
 generalize e2:upd H1 x (HO.ins t.aN dx (fP "prime" (.int p) []))=H2
 have iD:H2 x=some (.ins t.aN dx [(("prime":Str),.int p)]):=by rw[<-e2,cA];rfl
 have s2:dS x H H2:=by rw[<-e2];exact(tO.x (x:=x)).trans (dS.upd (C:=x) (dx:=dx) ft rfl)
 have n2:∀p,H2 p=none->H p=none:=λp h=>tO.free (zL ft (by rw[e2];exact h))
 obtain⟨ps,hP⟩:=tb t.kO (by simp)
 obtain⟨more,LX⟩:=s2.tb _ ps hP
 refine⟨.ref x,rfl,.int p,rfl,⟨_,LX⟩,λf k qn pm i5 H3 nf LY hk kf kN hl3=>?_⟩
 refine⟨f,_,_,.int p,LY,rfl,rfl,λoc u iK hu nc pO=>?_⟩
 obtain⟨tm,rfl⟩:∃tm,u=qo p tm:=hu
 have mr:=kN.get _ _ iD
 refine⟨x,dx,f,t.aN,"prime",p,p,_,oc,_,k,gm (false,p),fl (false,p),fst (false,p),rfl,zM mr (λz=>by rw[z,nf]at iD;cases iD) nc,by decide,⟨T.fL,T.tK,T.Az,T.tL,T.tJ,T.Aw,T.tM⟩,U1 pO nc hk kf,?_,hF,λH' p1 p2 sx dk AQ ur ne AO tN=>?_⟩
 ·refine UR (n:=3) ⟨rfl,rfl,rfl,by decide,rfl,rfl,by decide,by decide,rfl⟩ iK (λu1 u2=>rfl) λq f A outer s H E hr=>?_
  refine⟨_,aA cP (ae (aA fV (bv 0) (bv 1))) (bv 2),λi j Qd h=>?_⟩
  obtain⟨a,b,rfl,rfl,ha,hb,hq⟩:=h
  walk_at"l3"
  have hp0:2<=p:=hF.lo
  refine⟨ik.ok (.inr ⟨by omega,by omega⟩),by omega,?_⟩
  have e:((gm (false,p) a b:Nat):Int)=(a:Int)*b%p:=by
   show((a*b%p:Nat):Int)=_
   rw[mJ,yk]
  rw[<-e];exact hq
 ·have gf:H' f=some (.ext (ji _ oc _ f)):=sx.get f _ (λz=>by rw[z]at nf;rw[nf]at iD;cases iD) (by rw[bj pO.symm,cA]) rfl
  have gc:=sx.get _ _ (fg mr nc).symm cA rfl
  refine⟨gf,gc,?_⟩
  refine q _ (CA p p p1 p2 (fst (false,p))) [p1,p2] (s2.trans (U0 kN nf nc sx)) ?_ rfl ?_ (by simp[ne]) (λa ha=>?_)
  ·rw[g5 (λz=>by rw[z,gf]at dk;cases dk) (λz=>by rw[z,gc]at dk;cases dk)];exact dk
  ·exact .int (.int (.int (.own (AQ.rem gf gc) rfl (kE _) (.own (ur.rem gf gc) rfl (kE _) (.int .nil)))))
  ·simp at ha
   rcases ha with rfl | rfl
   ·exact n2 _ (CC kN AO)
   ·exact n2 _ (CC kN tN)
noncomputable abbrev aO3:bh:=λds Q=>∃(l g:List Int),ds=[.lst false (aC l),.lst false (aC g)]/\1<=l.length/\l.length<=63/\g.length=l.length+1/\(∀x∈g,0<=x)/\Q (.lst true (pU l g))
theorem aO4(T:Txt K mg t):aM P w K mg base aT 1 t.Ju t.Jv ["powers","logs"] (bq (aO3 )):=by
 refine bA T.WZ Dq ?_ ?_
 ·intro ds Q h
  obtain⟨l,g,rfl,h1,h2,h3,h4,q⟩:=h<;>rfl
 ·intro aE A outer s H E hr
  refine⟨_,(az (aI (i:=2) Dq.nd rfl (bw rfl) (aA cu (ae (ck (de) (by rfl) T.df da (af (bv 0) ao))) (ae ak)))
   (az (aI (i:=3) Dq.nd rfl (ah rfl) (eI (cX (aA fV (ae (eI (cX ak dy))) (bv 2)) dy)))
   (az (e7 dB rfl (uF rfl T.fY (af (ae ak) (af (bv 2) ao))) (dm (i:=4) Dq.nd rfl (bw rfl))
    (aB (sA (i:=3) rfl (by first | exact ah rfl | exact bw (ah rfl)) (aA cu (ae (eI (cX ak dy))) (ae (fc [("powers",0),("many",2),("logs",1),("a",4)] ["b"] rfl (uF rfl T.fY (af (ae ak) (af (bv 2) ao))) (λ_ _ _ _=>(dm (i:=4) (show(["powers","many","logs","a","b"]:List Str).Nodup by decide +kernel) rfl (ah (lookup_relabel_local rfl)) (by decide) (bw (lookup_relabel_local rfl)))) (λ_ _ _ _=>eR) (λ_ _ _ _=>(dF (br (bv 0) (ae (aA cP (ae (aA cu (br (bv 2) (bv 3) (λ_ _=>rfl)) (br (bv 2) (bv 4) (λ_ _=>rfl)))) (ae (aA dR (bv 1) (ae ak))))) (λ_ _=>rfl)))) rfl ⟨rfl,⟨rfl,⟨rfl,⟨rfl,trivial⟩⟩⟩⟩ (λ_=>by repeat' (first | exact trivial | refine⟨.inl rfl,?_⟩ | refine⟨.inr (.inl rfl),?_⟩ | refine⟨.inr (.inr ⟨_,rfl⟩),?_⟩)) (λ_=>⟨⟨rfl,.inl rfl,.inl rfl,_,rfl,rfl⟩,⟨⟨rfl,.inl rfl,.inl rfl,_,rfl,rfl⟩,⟨⟨rfl,.inl rfl,.inl rfl,_,rfl,rfl⟩,⟨⟨rfl,.inl rfl,.inl rfl,_,rfl,rfl⟩,trivial⟩⟩⟩⟩) rfl (by decide +kernel)))))))
   (aB (aO (em 3)))))),λds Q h=>?_⟩
  obtain⟨l,g,rfl,h1,h2,h3,h4,q⟩:=h
  refine ay λU hU=>?_
  walk_at"l3"
  refine hU _ ?_
  clear hU U
  refine ay λU hU=>?_
  walk_at"l3"
  refine⟨by decide,⟨by omega,by omega,by omega⟩,by decide,hU _ ?_⟩
  clear hU U
  refine ay λU hU=>?_
  walk_at"l3"
  refine⟨1,(l.length:Int)+1,⟨rfl,rfl⟩,⟨by decide,by decide,by omega,by omega⟩,?_⟩
  have en:((l.length:Int)+1-1).toNat=l.length:=by omega
  rw[en]
  refine fj.mk (λi δ=>∃o,δ=[some (.lst false (aC l)),some (.lst false (aC g)),some (.int ((l.length:Int)+1)),some (.lst true (vx l g (i+1))),o]) ⟨none,?_⟩ ?_ ?_
  ·rw[show((l.length:Int)+1).toNat=l.length+1 by omega];rfl
  ·rintro i d δ hd ⟨o,rfl⟩
   obtain⟨hi,rfl⟩:i<l.length/\d=.int (1+(i:Int)):=by
    rw[cm]at hd
    by_cases hi:i<l.length
    ·rw[jX hi]at hd
     exact⟨hi,(cQ hd).symm⟩
    ·rw[ja (by simpa using hi)]at hd;cases hd
   walk_at"l3"
   refine⟨⟨_,rfl⟩,by decide,1,(l.length:Int)+1,⟨rfl,rfl⟩,⟨by decide,by decide,by omega,by omega⟩,?_⟩
   rw[en]
   refine gw (aS l.length) (λ(k:Nat)=>D.int (1+(k:Int))) (λ(k:Nat)=>D.int (l.getD ((g.getD (i+1) 0+g.getD (k+1) 0)%(l.length:Int)).toNat 0)) (by rw[oW]) (λx y h=>by injection h with h;omega) (λk hk=>?_) (.inr λ_ _=>rfl) (by rw[eH,sL];omega) ?_
   ·have vO:=dA.mp hk
    walk_at"l3"
    have e1:(1+(i:Int)).toNat=i+1:=by omega
    have e2:(1+(k:Int)).toNat=k+1:=by omega
    have e3:(l.length:Int)+1-1=l.length:=by omega
    have n0:=gR (g.getD (i+1) 0+g.getD (k+1) 0) (show(l.length:Int)≠0 by omega)
    have n1:=jC (g.getD (i+1) 0+g.getD (k+1) 0) (show(0:Int)<l.length by omega)
    refine⟨_,me (by omega) (by omega),_,me (by omega) (by omega),?_⟩
    rw[e1,e2,e3]
    exact⟨by omega,_,me n0 n1,rfl,rfl⟩
   ·walk_at"l3"
    refine⟨⟨by simp;omega,by rw[kX,cU];intro x _;rfl⟩,by simp[vx];omega,_,?_,rfl⟩
    unfold vx
    rw[List.range_succ (n:=i+1),jW]
    congr 1
    show _=[D.lst true (aC (pS l g (i+1)))]
    unfold pS
    rw[if_neg (by omega)]
    unfold aC
    rw[dP,dh];rfl
  ·rintro δ ⟨o,rfl⟩
   refine hU _ ?_
   simp only[rk,oS,rm,rn,dT,lR,m6,m8,dC,oJ,oQ,oN,oM,oO,rj,nk,sj,pz,sk,sq,q0,q5,q8,q9,rf,rh,oK,r9,pe,pf,ii,oY,rH,oZ,rJ,rK,rL,rM,rN,rO,iI,gv,rQ,rR,rS,rT,o8,o9,lX,rZ,r6,gN,sr,si,rp,rA,rB,rC,rD,rE,su,sD,sF,oX,jP,fU,iY,iB,qC,qv,yo,yp,oR,jO,iA,pk,pq,pH,sJ,sM,sN,vi,kH,sQ,pK,sO,jo,vm,vj,vk,dP,kU,qF,mC,dO,yq,aV,ub,ud,jD,jE,ue,exists_eq_left',exists_eq_left,D.bl.injEq,D.int.injEq,D.lst.injEq,D.fz.injEq,D.str.injEq,D.tup.injEq,uf,and_true,true_and,eN,oi,jA,mG,uN,uO,uP,uQ,uR,uS,gr,ku,kF,uW,uX,uY,uZ,u3,fh,ky,pB,uT,uU,uV,gh,m4,yr,yt,tR,jb,yu,yv,tW,u7,u9,va,vb,vd,ve,vf,kG,lZ,pE,jn,pF,u5,sI,u4,pG,u6,sG,i3,sH,if_true,yw,if_false,reduceIte,vg,decide_eq_true_eq,dz,kJ,nu,vp,mh,vo,rq,sT,pX,sP,pP,pQ,sV,sZ,vG,p5,s8,jx,vM,nH,vN,tE,bE,eH]
   exact q
noncomputable abbrev aO5(t:km):pI:=λds Q Ex=>∃a b:Nat,ds=[.int a,.int b]/\bl a<=1000000/\bl b<=1000000/\(b=0->Ex t.hW)/\(b≠0->∀q r:Nat,a=cl q b ^^^ r->bl r<bl b->Q (.tup [.int q,.int r]))
theorem X5(T:Txt K mg t):aM P w K mg base (mZ P w) 1 t.Jw t.Jx ["a","b"] (zx (aO5 t )):=by
 refine Uc T.LC v7 ?_ ?_
 ·intro ds Q Ex h
  obtain⟨a,b,rfl,ha,hb,qx,q⟩:=h<;>rfl
 ·intro aE A outer s H E hr
  refine⟨_,(az (cj (bG (eJ (cI hr)) (bv 1) (ae ak) (bC _)) (aB (Uh T.XX rfl (by rfl) (af (ae To) ao))) cF)
   (az (aI (i:=2) v7.nd rfl (ah rfl) ak)
   (az (aI (i:=3) v7.nd rfl (ah rfl) (em 0))
   (az (cX9 (rz dB (bG db2 (ae (nq (bv 3))) (ae (nq (bv 1))) (bC _))
    (az (aI (i:=4) v7.nd rfl (ah rfl) (aA dR (ae (nq (bv 3))) (ae (nq (bv 1)))))
    (az (oU (i:=2) v7.nd rfl (ah rfl) (ae (aA uH (ae ak) (bv 4))) Ca)
    (aB (oU (i:=3) v7.nd rfl (ah rfl) (ae (aA uH (bv 1) (bv 4))) Ca))))))
   (aB (aO (zh (cX (em 2) (cX (em 3) dy))))))))),λds Q Ex h=>?_⟩
  obtain⟨a,b,rfl,ha,hb,qx,q⟩:=h
  refine ay λU hU=>?_
  walk_at"l3"
  split
  ·rename_i h0
   exact⟨by decide,qx (by omega)⟩
  ·rename_i h0
   have b0:b≠0:=by omega
   refine hU _ ?_
   clear hU U
   refine ay λU hU=>?_
   walk_at"l3"
   refine hU _ ?_
   clear hU U
   refine ay λU hU=>?_
   walk_at"l3"
   refine hU _ ?_
   clear hU U
   refine ay λU hU=>?_
   walk_at"l3"
   refine⟨λm δ=>∃(x r:Nat) (o sh:Option D),δ=[o,some (.int b),some (.int (x:Nat)),some (.int (r:Nat)),sh]/\a=cl x b ^^^ r/\bl r<=bl a/\m=bl r,
    ⟨bl a,0,a,_,none,rfl,by rw[oF,oa],bI _,rfl⟩,?_⟩
   rintro m δ ⟨x,r,o,sh,rfl,inv,hra,rfl⟩
   simp only[rk,oS,rm,rn,dT,lR,m6,m8,dC,oJ,oQ,oN,oM,oO,rj,nk,sj,pz,sk,sq,q0,q5,q8,q9,rf,rh,oK,r9,pe,pf,ii,oY,rH,oZ,rJ,rK,rL,rM,rN,rO,iI,gv,rQ,rR,rS,rT,o8,o9,lX,rZ,r6,gN,sr,si,rp,rA,rB,rC,rD,rE,su,sD,sF,oX,jP,fU,iY,iB,qC,qv,yo,yp,oR,jO,iA,pk,pq,pH,sJ,sM,sN,vi,kH,sQ,pK,sO,jo,vm,vj,vk,dP,kU,qF,mC,dO,yq,aV,ub,ud,jD,jE,ue,exists_eq_left',exists_eq_left,D.bl.injEq,D.int.injEq,D.lst.injEq,D.fz.injEq,D.str.injEq,D.tup.injEq,uf,and_true,true_and,eN,oi,jA,mG,uN,uO,uP,uQ,uR,uS,gr,ku,kF,uW,uX,uY,uZ,u3,fh,ky,pB,uT,uU,uV,gh,m4,yr,yt,tR,jb,yu,yv,tW,u7,u9,va,vb,vd,ve,vf,kG,lZ,pE,jn,pF,u5,sI,u4,pG,u6,sG,i3,sH,if_true,yw,if_false,reduceIte,vg,decide_eq_true_eq,dz,kJ,nu,vp,mh,vo,rq,sT,pX,sP,pP,pQ,sV,sZ,vG,p5,s8,jx,vM,nH,vN,tE,iJ]
   split
   ·rename_i hc
    have hle:bl b<=bl r:=by omega
    have less:=SO b0 hle
    have es:(((bl r:Nat):Int)-((bl b:Nat):Int))=((bl r-bl b:Nat):Int):=by omega
    clear hU
    refine ay λU hU=>?_
    walk_at"l3"
    simp only[iJ,es]
    refine hU _ ?_
    clear hU
    refine ay λU hU=>?_
    walk_at"l3"
    have o1:bl (1:Int).natAbs=1:=by decide
    refine⟨⟨by omega,by omega⟩,hU _ ?_⟩
    clear hU
    simp only[rk,oS,rm,rn,dT,lR,m6,m8,dC,oJ,oQ,oN,oM,oO,rj,nk,sj,pz,sk,sq,q0,q5,q8,q9,rf,rh,oK,r9,pe,pf,ii,oY,rH,oZ,rJ,rK,rL,rM,rN,rO,iI,gv,rQ,rR,rS,rT,o8,o9,lX,rZ,r6,gN,sr,si,rp,rA,rB,rC,rD,rE,su,sD,sF,oX,jP,fU,iY,iB,qC,qv,yo,yp,oR,jO,iA,pk,pq,pH,sJ,sM,sN,vi,kH,sQ,pK,sO,jo,vm,vj,vk,dP,kU,qF,mC,dO,yq,aV,ub,ud,jD,jE,ue,exists_eq_left',exists_eq_left,D.bl.injEq,D.int.injEq,D.lst.injEq,D.fz.injEq,D.str.injEq,D.tup.injEq,uf,and_true,true_and,eN,oi,jA,mG,uN,uO,uP,uQ,uR,uS,gr,ku,kF,uW,uX,uY,uZ,u3,fh,ky,pB,uT,uU,uV,gh,m4,yr,yt,tR,jb,yu,yv,tW,u7,u9,va,vb,vd,ve,vf,kG,lZ,pE,jn,pF,u5,sI,u4,pG,u6,sG,i3,sH,if_true,yw,if_false,reduceIte,vg,decide_eq_true_eq,dz,kJ,nu,vp,mh,vo,rq,sT,pX,sP,pP,pQ,sV,sZ,vG,p5,s8,jx,vM,nH,vN,tE,iJ]
    refine⟨⟨by omega,by rw[iJ];omega⟩,_,less,x ^^^ 2 ^ (bl r-bl b),r ^^^ b <<< (bl r-bl b),o,_,⟨rfl,?_,?_,rfl⟩,cr8 inv,by omega,rfl⟩
    ·rw[show(1:Int)=((1:Nat):Int) from rfl,uz,kq,Fu]
    ·rw[uz,kq]
   ·rename_i hc
    refine hU _ ?_
    walk_at"l3"
    refine⟨by decide,q b0 x r inv (by omega)⟩
noncomputable abbrev aO6:bh:=λds Q=>∃a:Nat,ds=[.int a]/\bl a<=60/\Q (.bl (al a))
theorem aO7(T:Txt K mg t):aM P w K mg base aT 2 t.Jy t.Jz ["a"] (bq (aO6 )):=by
 refine bA T.W3 Jc ?_ ?_
 ·intro ds Q h
  obtain⟨a,rfl,ha,q⟩:=h<;>rfl
 ·intro aE A outer s H E hr
  refine⟨_,(az (cj (bG zo (bv 0) (ae ak) (bC _)) (aB (aO jM)) cF)
   (az (aI (i:=1) Jc.nd rfl (ah rfl) (aA jl (ae (aA dR (ae (nq (bv 0))) (ae ak))) (ae ak)))
   (az (e7 dB rfl (uF rfl T.fY (af (ae ak) (af (ae (aA uH (ae ak) (ae (aA cu (bv 1) (ae ak))))) ao))) (dm (i:=2) Jc.nd rfl (ah rfl))
    (aB (cj (bG (eJ (cI hr)) (br (ae (aZ (Hu ((X5 T).mono (by decide))) hr rfl T.W0 T.LC.kp T.W2 Ht (af (bv 0) (af (bv 2) ao)))) (ae ak) (λ_ _=>rfl)) (ae ak) (bC _)) (aB (aO jM)) cF)))
   (aB (aO jM))))),λds Q h=>?_⟩
  obtain⟨a,rfl,ha,q⟩:=h
  refine ay λU hU=>?_
  walk_at"l3"
  split
  ·rename_i h2
   rw[cs1 (by omega)]at q;exact q
  ·rename_i h2
   have h2:2<=a:=by omega
   have hp:=gW (show a≠0 by omega)
   refine hU _ ?_
   clear hU U
   refine ay λU hU=>?_
   walk_at"l3"
   simp only[iJ]
   refine⟨jk (by omega) (by omega),hU _ ?_⟩
   clear hU U
   have eh:((((bl a:Nat):Int)-1)/2+1)=(((bl a-1)/2+1:Nat):Int):=by omega
   have e1:(1:Int)*2 ^ ((((bl a:Nat):Int)-1)/2+1).toNat=((2 ^ ((bl a-1)/2+1):Nat):Int):=by
    rw[eh,show(1:Int)=((1:Nat):Int) from rfl,uz,Fu]
   have big:2 ^ ((bl a-1)/2+1)<=2 ^ 40:=Bb (by decide) (by omega)
   have o1:bl (1:Int).natAbs=1:=by decide
   refine ay λU hU=>?_
   walk_at"l3"
   rw[e1]
   have fC1:((2 ^ ((bl a-1)/2+1):Nat):Int)<=2 ^ 40:=by exact_mod_cast big
   have nn:(0:Int)<=((2 ^ ((bl a-1)/2+1):Nat):Int):=Q1 _
   refine⟨⟨by omega,by omega⟩,_,_,⟨rfl,rfl⟩,⟨by decide,by decide,by omega,by omega⟩,?_⟩
   have en:(((2 ^ ((bl a-1)/2+1):Nat):Int)-2).toNat=2 ^ ((bl a-1)/2+1)-2:=by omega
   rw[en]
   refine fj.mk (λi δ=>(∃o1 o2,δ=[some (.int a),o1,o2])/\∀j,j<i->md a (2+j)≠0) ⟨⟨_,_,rfl⟩,λj hj=>absurd hj (by omega)⟩ ?_ ?_
   ·rintro i d δ hd ⟨⟨o1,o2,rfl⟩,inv⟩
    obtain⟨hi,rfl⟩:i<2 ^ ((bl a-1)/2+1)-2/\d=.int (2+(i:Int)):=by
     rw[cm]at hd
     by_cases hi:i<2 ^ ((bl a-1)/2+1)-2
     ·rw[jX hi]at hd
      exact⟨hi,(cQ hd).symm⟩
     ·rw[ja (by simpa using hi)]at hd;cases hd
    have bi:bl (2+i)<=60:=by
     have:=(cu4 h2 (show 2+i<2 ^ ((bl a-1)/2+1) by omega)).2
     omega
    walk_at"l3"
    refine⟨a,2+i,by rw[show((2+i:Nat):Int)=2+(i:Int) by omega],by omega,by omega,by omega,λ_ x r e l=>?_⟩
    have em:md a (2+i)=r:=yZ e l
    refine⟨.int r,rfl,rfl,?_⟩
    rw[i3]
    split
    ·rename_i hz
     have r0:r=0:=by have:=of_decide_eq_true hz;omega
     rw[cu6 hi (em.trans r0)]at q
     exact q
    ·rename_i hz
     refine⟨⟨_,_,rfl,rfl⟩,λj hj=>?_⟩
     by_cases ej:j=i
     ·rw[ej,em]
      intro r0
      exact hz (decide_eq_true (by omega))
     ·exact inv j (by omega)
   ·rintro δ ⟨⟨o1,o2,rfl⟩,inv⟩
    rw[bE,eH]at inv
    rw[cH8 h2 inv]at q
    refine hU _ ?_
    walk_at"l3"
    exact q
noncomputable abbrev aI9:bh:=λds Q=>∃a:Int,ds=[.int a]/\Q (.bl (decide (4<=a)&&decide (a<=127)&&al a.toNat))
theorem aJ0(T:Txt K mg t):aM P w K mg base aT 3 t.JA t.JB ["bits"] (bq (aI9 )):=by
 refine bA T.W4 aH1 ?_ ?_
 ·intro ds Q h
  obtain⟨a,rfl,q⟩:=h<;>rfl
 ·intro aE A outer s H E hr
  refine⟨_,(aB (aO (B4 (ae (Hb rV rV (ae ak) (bv 0) (ae ak))) (BE (aZ ((aO7 T).mono (by decide)) hr rfl T.ea3 T.W3.kp T.ea4 aR (af (bv 0) ao)))))),λds Q h=>?_⟩
  obtain⟨a,rfl,q⟩:=h
  walk_at"l3"
  split
  ·rename_i h1
   split
   ·rename_i h2
    refine⟨a.toNat,by rw[qH (by omega)],?_,?_⟩
    ·have:bl a.toNat<=bl 127:=Gx (by omega)
     exact eM this (by decide)
    ·have e:(decide (4<=a)&&decide (a<=127)&&al a.toNat)=al a.toNat:=by simp[h1,h2]
     rw[e]at q;exact q
   ·rename_i h2
    have e:(decide (4<=a)&&decide (a<=127)&&al a.toNat)=false:=by simp[h2]
    rw[e]at q;exact q
  ·rename_i h1
   have e:(decide (4<=a)&&decide (a<=127)&&al a.toNat)=false:=by simp[h1]
   rw[e]at q;exact q
noncomputable abbrev aT0:bh:=λds Q=>∃a b:Nat,ds=[.int a,.int b]/\bl a<=1000/\bl b<=1000/\Q (.int (cl a b:Nat))
theorem aT1(T:Txt K mg t):aM P w K mg base aT 1 t.JC t.JE ["a","b"] (bq (aT0 )):=by
 refine bA T.W5 Dr ?_ ?_
 ·intro ds Q h
  obtain⟨a,b,rfl,ha,hb,q⟩:=h<;>rfl
 ·intro aE A outer s H E hr
  refine⟨_,(az (aI (i:=2) Dr.nd rfl (ah rfl) ak)
   (az (e7 dB rfl (iX rfl T.fY (af (ae (nq (bv 1))) ao)) (dm (i:=3) Dr.nd rfl (ah rfl))
    (aB (cj (bG (eJ (cI hr)) (ae (aA TF (ae (aA TC (bv 1) (bv 3))) (ae ak))) (ae ak) (bC _)) (aB (oU (i:=2) Dr.nd rfl (ah rfl) (ae (aA uH (bv 0) (bv 3))) Ca)) cF)))
   (aB (aO (em 2))))),λds Q h=>?_⟩
  obtain⟨a,b,rfl,ha,hb,q⟩:=h
  refine ay λU hU=>?_
  walk_at"l3"
  refine hU _ ?_
  clear hU U
  refine ay λU hU=>?_
  walk_at"l3"
  simp only[iJ]
  refine⟨⟨by omega,by omega⟩,vh (λi δ=>∃o,δ=[some (.int a),some (.int b),some (.int (Mf.P a b i:Nat)),o]) ⟨none,rfl⟩ ?_ ?_⟩
  ·rintro i δ hi ⟨o,rfl⟩
   walk_at"l3"
   refine⟨by omega,?_⟩
   have DK:(nZ ((b:Int)/2 ^ ((i:Int)).toNat) 1=1)↔b.testBit i=true:=by
    have h:=cI0 b i
    rw[Rm]at h
    rw[<-h,dI]
   split
   ·rename_i hc
    have h:=cm7 (a:=a) (DK.mp hc)
    rw[Rm]at h
    exact⟨⟨by omega,by rw[iJ];omega⟩,_,h,rfl⟩
   ·rename_i hc
    exact⟨_,by rw[b76 (λz=>hc (DK.mpr z))],rfl⟩
  ·rintro δ ⟨o,rfl⟩
   refine hU _ ?_
   walk_at"l3"
   exact q
noncomputable abbrev aW2:List D->List Str->List D->Prop:=λds ns xs=>∃p:Nat,ds=[.int p]/\p∈jt/\ns=g6 "bits"++[("products":Str)]/\xs=[.int p,.int (aa (true,p)),.int ((bl (aa (true,p)):Nat)-1),.lst true (aC (fl (true,p))),.lst true (aC (eC (fl (true,p)))),.int (fst (true,p)),.lst true (pU (fl (true,p)) (eC (fl (true,p))))]
theorem aM9(T:Txt K mg t)(hB:Bm mg base):aM P w K mg base aT 8 t.JF t.Dy ["self","bits"] (HI [t.kO,t.kP] t.aK aW2):=by
 refine UT T.aN5 T.aM7 WG (λvs H Q E h=>?_) λA outer s H vs Q E hr h=>?_
 ·obtain⟨x,dx,cE,ds,ns,xs,rfl,_,_,r,⟨p,rfl,_⟩,_⟩:=h
  have:=r.length
  simp at this
  simp[this]
 obtain⟨x,dx,cE,ds,ns,xs,rfl,tb,hx,r,⟨p,rfl,hp,rfl,rfl⟩,q⟩:=h
 obtain rfl:cE=[.int p]:=by
  cases r with
  | int r=>cases r;rfl
 have hm:(true,p)∈aw:=gQ _ (Fq hp)
 have hF:=bO hm
 refine⟨_,ka (FG (FE (FC (qS ((aJ0 T).mono (by decide)) hr rfl T.ea5 T.W4.kp T.ea6 .nil aR (fE (pv 1) jg)))) (uk RK) FF)
  (ka (oA (pv 0) (pv 1) rfl)
  (ka (RN (i:=2) WG.nd rfl (ah rfl) (yM S1 yD (yM FW (GA (pv 1)) yD)))
  (ka (BF (UM (E:=E0) (i:=1) T.XT ((XZ T).mono (by decide)) hr T.WX rfl T.xC rfl rfl rfl rfl (fE (pv 0) (fE (pv 2) (fE (UE rfl rfl T.aM8 hB) jg)))))
  (uk (oA (pv 0) (qS ((aO4 T).mono (by decide)) hr rfl T.ea1 T.WZ.kp T.ea2 .nil aR (fE (BO (pv 0) rfl) (fE (BO (pv 0) rfl) jg))) rfl))))),?_⟩
 refine⟨_,rfl,H,[.int p],λd=>d=.bl true,ag.refl _,.int .nil,⟨p,rfl,by rw[cJ9 p hp]⟩,λd v F' H1 A1 hd tO hf he h3 r nd fr=>?_⟩
 subst hd
 cases r
 refine⟨true,rfl,?_⟩
 refine lL ?_
 have ft:=tO.get _ _ hx
 refine⟨.int p,rfl,.ref x,rfl,x,t.aK,dx,_,rfl,ft,T.fv,T.Ak,by decide,?_⟩
 generalize e2:upd H1 x (HO.ins t.aK dx (fP "bits" (.int p) []))=H2
 have iD:H2 x=some (.ins t.aK dx [(("bits":Str),.int p)]):=by rw[<-e2,cA];rfl
 have s2:dS x H H2:=by rw[<-e2];exact(tO.x (x:=x)).trans (dS.upd (C:=x) (dx:=dx) ft rfl)
 have n2:∀p,H2 p=none->H p=none:=λp h=>tO.free (zL ft (by rw[e2];exact h))
 obtain⟨ps,hP⟩:=tb t.kP (by simp)
 obtain⟨more,LX⟩:=s2.tb _ ps hP
 have bp:bl p<=7:=U5 p hp
 have DL:1<=bl p:=U6 p hp
 refine⟨.int p,rfl,rfl,p,rfl,rfl,_,_,rfl,rfl,_,_,rfl,rfl,?_,?_⟩
 ·have o1:bl (1:Int).natAbs=1:=by decide
  rw[iJ]
  exact⟨by omega,by omega⟩
 have em:(1:Int)*2 ^ (((bl ((p:Int)).natAbs:Nat):Int)-1).toNat=((aa (true,p):Nat):Int):=by
  rw[iJ,show(((bl p:Nat):Int)-1)=((bl p-1:Nat):Int) by omega,show(1:Int)=((1:Nat):Int) from rfl,uz,Fu];rfl
 show BH 2 (.int ((1:Int)*2 ^ (((bl ((p:Int)).natAbs:Nat):Int)-1).toNat)) _ _ _
 rw[em]
 refine⟨.ref x,rfl,.int (aa (true,p)),rfl,⟨_,LX⟩,λf k qn pm i5 H3 nf LY hk kf kN hl3=>?_⟩
 refine⟨f,_,_,.int p,LY,rfl,rfl,λoc u iK hu nc pO=>?_⟩
 obtain⟨tm,rfl⟩:∃tm,u=qo p tm:=hu
 have mr:=kN.get _ _ iD
 refine⟨x,dx,f,t.aK,"bits",p,aa (true,p),_,oc,_,k,gm (true,p),fl (true,p),fst (true,p),rfl,zM mr (λz=>by rw[z,nf]at iD;cases iD) nc,by decide,⟨T.fv,T.tH,T.Am,T.qi,T.qh,T.Al,T.tI⟩,U1 pO nc hk kf,?_,hF,λH' p1 p2 sx dk AQ ur ne AO tN=>?_⟩
 ·refine UR (n:=3) ⟨rfl,rfl,rfl,by decide,rfl,rfl,by decide,by decide,rfl⟩ iK (λu1 u2=>rfl) λq f A outer s H E hr=>?_
  refine⟨_,dF (br (ae (aZ (Hu ((X5 T).mono (by decide))) hr rfl T.W0 T.LC.kp T.W2 Ht (af (ae (aZ ((aT1 T).mono (by decide)) hr rfl T.ea7 T.W5.kp T.ea8 aR (af (bv 0) (af (bv 1) ao)))) (af (bv 2) ao)))) (ae ak) (λ_ _=>rfl)),λi j Qd h=>?_⟩
  obtain⟨a,b,rfl,rfl,ha,hb,hq⟩:=h
  walk_at"l3"
  have b1:bl a<=6:=by
   have:bl a<=bl 63:=Gx (by omega)
   exact eM this (by decide)
  have b2:bl b<=6:=by
   have:bl b<=bl 63:=Gx (by omega)
   exact eM this (by decide)
  have p0:p≠0:=by
   intro z
   rw[z]at DL
   exact absurd DL (by decide)
  refine⟨a,b,rfl,by omega,by omega,cl a b,p,rfl,eM (cs0 a b) (by omega),by omega,λz=>p0 z,λ_ x r e l=>⟨by simp[D.pl],.int r,rfl,rfl,r,rfl,?_⟩⟩
  have er:gm (true,p) a b=r:=yZ e l
  rw[<-er];exact hq
 ·have gf:H' f=some (.ext (ji _ oc _ f)):=sx.get f _ (λz=>by rw[z]at nf;rw[nf]at iD;cases iD) (by rw[bj pO.symm,cA]) rfl
  have gc:=sx.get _ _ (fg mr nc).symm cA rfl
  refine⟨gf,gc,?_⟩
  have s4:=s2.trans (U0 kN nf nc sx)
  have f1:=n2 _ (CC kN AO)
  have f2:=n2 _ (CC kN tN)
  have l1:=AQ.rem gf gc
  have l2:=ur.rem gf gc
  have qj:rem H' f (s.heap.objs.size+1) x=some (.ins t.aK dx ((g6 "bits").zip (CA p (aa (true,p)) p1 p2 (fst (true,p))))):=by
   rw[g5 (λz=>by rw[z,gf]at dk;cases dk) (λz=>by rw[z,gc]at dk;cases dk)];exact dk
  generalize rem H' f (s.heap.objs.size+1)=H4 at s4 l1 l2 qj
  refine⟨.ref x,rfl,x,t.aK,dx,_,.ref p1,rfl,qj,T.fv,T.qi,rfl,.ref x,rfl,x,t.aK,dx,_,.ref p2,rfl,qj,T.fv,T.qh,rfl,H4,[.lst false (aC (fl (true,p))),.lst false (aC (eC (fl (true,p))))],λd=>d=.lst true (pU (fl (true,p)) (eC (fl (true,p)))),ag.refl _,.shr l1 (kE _) (.shr l2 (kE _) .nil),
   ⟨_,_,rfl,by have:=hF.len;have:=hF.lo;omega,by have:=hF.len;have:=hF.hi;omega,zJ _ _,U4 _ _,rfl⟩,λd v F' H5 A' hd qk hf he h3 r nd fr=>?_⟩
  subst hd
  obtain⟨p3,rfl⟩:∃p3,v=.ref p3:=by cases r;exact⟨_,rfl⟩
  have mv:=qk.get _ _ qj
  have nA:∀{a ws},H4 a=some (.lst ws)->a ∉ A':=λ{a ws} e z=>by rw[fr a z]at e;cases e
  refine⟨.ref x,rfl,x,t.aK,dx,_,rfl,mv,T.fv,T.nX,mF (bI 6) (by decide),?_⟩
  refine q _ (CA p (aa (true,p)) p1 p2 (fst (true,p))++[.ref p3]) (p1::p2::A') ((s4.trans (qk.x (x:=x))).trans (dS.upd (C:=x) (dx:=dx) mv rfl)) (by rw[cA];rfl) rfl ?_ ?_ ?_
  ·exact .int (.int (.int (.own ((l1.same qk).upd mv (λws z=>by cases z)) rfl (kE _) (.own ((l2.same qk).upd mv (λws z=>by cases z)) rfl (kE _) (.int ((r.GU (by simp[gh,U3]) (ag.of λb o e=>by cases e)).zK mv (by simp[gh,U3])))))))
  ·exact iG.mpr ⟨by simp[ne];exact nA l1,iG.mpr ⟨nA l2,nd⟩⟩
  ·intro a ha
   rcases bX.mp ha with rfl | ha
   ·exact f1
   ·rcases bX.mp ha with rfl | ha
    ·exact f2
    ·exact s4.free (by rw[qj];simp) (fr a ha)
noncomputable abbrev aT2(cb cp:Addr):bh:=λds Q=>∃m:Bool × Nat,ds=[cS m]/\m∈aw/\Q (fD cb cp m)
theorem aT3(T:Txt K mg t)(hB:Bm mg base):aM P w K mg base aT 10 t.JG t.JH ["_law_told_here"] (zB [t.kO,t.kP] (bq (aT2 t.aK t.aN))):=by
 refine US T.W6 aS1 ?_ ?_
 ·intro ds Q h
  obtain⟨m,rfl,hm,q⟩:=h<;>rfl
 ·intro aE A outer s H E hT hr
  refine⟨_,(az (cj (jN (br (bv 0) (ae ak) (λ_ _=>rfl))) (aB (aO (UW hT T.Aj ((aM9 T hB).mono (by decide)) hr rfl T.AJ T.aN6 aR (af (br (bv 0) (ae ak) (λ_ _=>rfl)) ao)))) cF)
   (aB (aO (UW hT T.Av ((aI8 T hB).mono (by decide)) hr rfl T.AL T.aK2 aR (af (br (bv 0) (ae ak) (λ_ _=>rfl)) ao))))),λds Q h=>?_⟩
  obtain⟨m,rfl,hm,q⟩:=h
  unfold cS at *
  refine ay λU hU=>?_
  walk_at"l3"
  obtain⟨b,n⟩:=m
  cases b with
  | true =>
   refine⟨_,rfl,true,rfl,?_⟩
   rw[if_pos rfl]
   refine⟨_,rfl,_,_,⟨n,rfl,vz hm,rfl,rfl⟩,?_⟩
   rw[cT4];exact q
  | false =>
   refine⟨_,rfl,false,rfl,?_⟩
   rw[if_neg (by decide)]
   refine hU _ ?_
   walk_at"l3"
   refine⟨_,rfl,_,_,⟨n,rfl,bR4 hm,rfl,rfl⟩,?_⟩
   rw[cp4];exact q
noncomputable abbrev aW3:bh:=λds Q=>∃m:Bool × Nat,ds=[cS m]/\bl m.2<=1000/\1<=bl m.2/\Q (.int (aa m:Nat))
theorem aW4(T:Txt K mg t):aM P w K mg base aT 1 t.JI t.JJ ["_law_told_here"] (bq (aW3 )):=by
 refine bA T.W7 aU5 ?_ ?_
 ·intro ds Q h
  obtain⟨m,rfl,h1,h2,q⟩:=h<;>rfl
 ·intro aE A outer s H E hr
  refine⟨_,(az (cj (jN (br (bv 0) (ae ak) (λ_ _=>rfl))) (aB (aO (aA uH (ae ak) (ae (aA dR (ae (nq (br (bv 0) (ae ak) (λ_ _=>rfl)))) (ae ak)))))) cF)
   (aB (aO (dF (br (bv 0) (ae ak) (λ_ _=>rfl)))))),λds Q h=>?_⟩
  obtain⟨m,rfl,h1,h2,q⟩:=h
  unfold cS at *
  refine ay λU hU=>?_
  walk_at"l3"
  obtain⟨b,n⟩:=m
  cases b with
  | true =>
   refine⟨_,rfl,true,rfl,?_⟩
   rw[if_pos rfl]
   refine⟨_,rfl,?_⟩
   have o1:bl (1:Int).natAbs=1:=by decide
   have e:(1:Int)*2 ^ (((bl ((n:Int)).natAbs:Nat):Int)-1).toNat=((aa (true,n):Nat):Int):=by
    have jh:1<=bl n:=h2
    rw[iJ,show(((bl n:Nat):Int)-1)=((bl n-1:Nat):Int) by omega,show(1:Int)=((1:Nat):Int) from rfl,uz,Fu];rfl
   refine⟨?_,by rw[e];exact q⟩
   rw[iJ]
   have jK:bl n<=1000:=h1
   have jh:1<=bl n:=h2
   exact⟨by omega,by omega⟩
  | false =>
   refine⟨_,rfl,false,rfl,?_⟩
   rw[if_neg (by decide)]
   refine hU _ ?_
   walk_at"l3"
   exact⟨_,rfl,rfl,q⟩
noncomputable abbrev aT4:bh:=λds Q=>∃(m:Bool × Nat) (a b:Nat),ds=[cS m,.int a,.int b]/\m∈aw/\a<aa m/\b<aa m/\Q (.int (gm m a b:Nat))
theorem LZ(T:Txt K mg t):aM P w K mg base aT 1 t.JK t.JL ["_law_told_here","_law_a","_law_b"] (bq (aT4 )):=by
 refine bA T.DA wj ?_ ?_
 ·intro ds Q h
  obtain⟨m,a,b,rfl,hm,ha,hb,q⟩:=h<;>rfl
 ·intro aE A outer s H E hr
  refine⟨_,(az (cj (ze (jN (br (bv 0) (ae ak) (λ_ _=>rfl)))) (aB (aO (aA cP (ae (aA fV (bv 1) (bv 2))) (br (bv 0) (ae ak) (λ_ _=>rfl))))) cF)
   (az (aI (i:=3) wj.nd rfl (ah rfl) ak)
   (az (rz dB (bG rW (bv 2) (ae ak) (bC _))
    (az (cj (bG (eJ (cI hr)) (ae (aA TF (bv 2) (ae ak))) (ae ak) (bC _)) (aB (aI (i:=3) wj.nd rfl (ah rfl) (aA rP (bv 3) (bv 1)))) cF)
    (az (aI (i:=1) wj.nd rfl (ah rfl) (aA uH (bv 1) (ae ak)))
    (az (cj (bG (eJ (cI hr)) (ae (nq (bv 1))) (ae (nq (br (bv 0) (ae ak) (λ_ _=>rfl)))) (bC _)) (aB (aI (i:=1) wj.nd rfl (ah rfl) (aA rP (bv 1) (br (bv 0) (ae ak) (λ_ _=>rfl))))) cF)
    (aB (aI (i:=2) wj.nd rfl (ah rfl) (aA TC (bv 2) (ae ak))))))))
   (aB (aO (em 3)))))),λds Q h=>?_⟩
  obtain⟨m,a,b,rfl,hm,ha,hb,q⟩:=h
  unfold cS at *
  obtain⟨k,n⟩:=m
  refine ay λU hU=>?_
  walk_at"l3"
  have hF:=bO hm
  cases k with
  | false =>
   refine⟨_,rfl,false,rfl,?_⟩
   have jU:n<=64:=hF.hi
   have l2:2<=n:=hF.lo
   have Cg:a<n:=ha
   have zG:b<n:=hb
   rw[if_pos (by decide)]
   refine⟨ik.ok (.inr ⟨by omega,by omega⟩),_,rfl,by omega,?_⟩
   have e:((gm (false,n) a b:Nat):Int)=(a:Int)*b%n:=by
    show((a*b%n:Nat):Int)=_
    rw[mJ,yk]
   rw[<-e];exact q
  | true =>
   refine⟨_,rfl,true,rfl,?_⟩
   rw[if_neg (by decide)]
   have hp:=vz hm
   have bp:=U5 n hp
   have DL:=U6 n hp
   have p0:n≠0:=λz=>by rw[z,mU]at DL;omega
   have G4:bl a<bl n:=by
    have:=eO.mpr (show a<2 ^ (bl n-1) from ha)
    omega
   have hy0:bl b<bl n:=by
    have:=eO.mpr (show b<2 ^ (bl n-1) from hb)
    omega
   refine hU _ ?_
   clear hU U
   refine ay λU hU=>?_
   walk_at"l3"
   refine hU _ ?_
   clear hU U
   refine ay λU hU=>?_
   walk_at"l3"
   refine⟨λm δ=>∃(x y z:Nat),δ=[some (.tup [.bl true,.int n]),some (.int (x:Nat)),some (.int (y:Nat)),some (.int (z:Nat))]/\z ^^^ md (cl x y) n=gm (true,n) a b/\bl x<bl n/\bl y<bl n/\m=bl y,
    ⟨bl b,a,b,0,rfl,by rw[oa];rfl,G4,hy0,rfl⟩,?_⟩
   rintro m δ ⟨x,y,z,rfl,inv,hx,hy,rfl⟩
   walk_at"l3"
   split
   ·rename_i L0
    have X0:=gW (show y≠0 by omega)
    have DM:bl (y/2)=bl y-1:=cF7 y
    have e1:((x:Int)*2 ^ (1:Int).toNat)=((2*x:Nat):Int):=by
     show(x:Int)*(2:Int) ^ 1=_
     omega
    have e2:((y:Int)/2 ^ (1:Int).toNat)=((y/2:Nat):Int):=by
     show(y:Int)/(2:Int) ^ 1=_
     omega
    have a1:nZ (y:Int) 1=((y%2:Nat):Int):=by
     rw[show(1:Int)=((1:Nat):Int) from rfl,SR,Nat.and_one_is_mod]
    have tm:=cI1 (y:=y) p0 hx
    have tb:=cG4 p0 hx
    clear hU
    refine ay λU hU=>?_
    walk_at"l3"
    have fin:∀z':Nat,z'=z ^^^ (if y%2=1 then x else 0)->U [some (.tup [.bl true,.int n]),some (.int x),some (.int y),some (.int z')]:=by
     intro z' hz
     have en5:z' ^^^ md (cl (if bl (2*x)=bl n then 2*x ^^^ n else 2*x) (y/2)) n=gm (true,n) a b:=by
      rw[hz,qB,<- tm];exact inv
     refine hU _ ?_
     clear hU
     refine ay λU hU=>?_
     walk_at"l3"
     refine⟨⟨by decide,by simp only[iJ];omega⟩,hU _ ?_⟩
     clear hU
     rw[e1]
     refine ay λU hU=>?_
     walk_at"l3"
     have last:∀x':Nat,x'=(if bl (2*x)=bl n then 2*x ^^^ n else 2*x)->U [some (.tup [.bl true,.int n]),some (.int (x':Nat)),some (.int y),some (.int z')]:=by
      intro x' dk
      refine hU _ ?_
      walk_at"l3"
      exact⟨by decide,bl (y/2),by omega,x',y/2,z',⟨rfl,e2,rfl⟩,by rw[dk];exact en5,by rw[dk];exact tb,by omega,rfl⟩
     refine⟨_,rfl,?_⟩
     show(if(((bl (((2*x:Nat):Int)).natAbs:Nat):Int)=((bl ((n:Int)).natAbs:Nat):Int))then _ else _)
     rw[iJ,iJ]
     split
     ·rename_i hc
      refine⟨_,rfl,?_⟩
      have g:=last (2*x ^^^ n) (by rw[if_pos (by omega)])
      rw[<-kq]at g
      exact g
     ·rename_i hc
      exact last (2*x) (by rw[if_neg (by omega)])
    rw[a1]
    split
    ·rename_i DK
     have odd:y%2=1:=by omega
     have g:=fin (z ^^^ x) (by rw[if_pos odd])
     rw[<-kq]at g
     exact g
    ·rename_i DK
     exact fin z (by rw[if_neg (by omega),kW])
   ·rename_i L0
    have hy:y=0:=by omega
    subst hy
    rw[cD0,zN (by rw[mU];exact gW p0),kW]at inv
    subst inv
    refine hU _ ?_
    walk_at"l3"
    exact q
noncomputable def kS(g:Nat->Nat->Nat)(a N:Nat):Nat->List Int->Nat->List Int
 | 0,l,_=>l
 | f+1,l,p=>if l.length<N/\p≠1 then kS g a N f (l++[(p:Int)]) (g p a)else l
noncomputable def X6(m:Bool × Nat):Bool:=decide (1<=(fst m).toNat)&&decide ((fst m).toNat<aa m)&&((aS ((fst m).toNat-1)).all λi=>decide ((kS (gm m) (i+1) (aa m-1) (aa m-2) [1] (i+1)).length≠aa m-1))&&decide (kS (gm m) (fst m).toNat (aa m-1) (aa m-2) [1] (fst m).toNat=fl m)
theorem cW1:aw.all X6=true:=by decide +kernel
theorem cZ6{m:Bool × Nat}(hm:m∈aw):∃s:Nat,1<=s/\s<aa m/\(∀i,i<s-1->(kS (gm m) (i+1) (aa m-1) (aa m-2) [1] (i+1)).length≠aa m-1)/\kS (gm m) s (aa m-1) (aa m-2) [1] s=fl m:=by
 have h:=cU.mp cW1 m hm
 simp only[X6,dY,cU,decide_eq_true_eq,dA]at h
 exact⟨_,h.1.1.1,h.1.1.2,h.1.2,h.2⟩
noncomputable abbrev aR2:bh:=λds Q=>∃m:Bool × Nat,ds=[cS m,.int (aa m)]/\m∈aw/\Q (.lst true (aC (fl m)))
theorem aR3(T:Txt K mg t):aM P w K mg base aT 2 t.JM t.JN ["_law_told_here","_law_many_here"] (bq (aR2 )):=by
 refine bA T.W8 Ab ?_ ?_
 ·intro ds Q h
  obtain⟨m,rfl,hm,q⟩:=h<;>rfl
 ·intro aE A outer s H E hr
  refine⟨_,(az (e7 dB rfl (uF rfl T.fY (af (ae ak) (af (bv 1) ao))) (dm (i:=2) Ab.nd rfl (ah rfl))
    (az (aI (i:=3) Ab.nd rfl (ah rfl) (eI (cX ak dy)))
    (az (aI (i:=4) Ab.nd rfl (ah rfl) (dF (bv 2)))
    (az (rz dB (PW.pt (zd (bG zo (ae (ck (de) (by rfl) T.df da (af (bv 3) ao))) (ae (aA dR (bv 1) (ae ak))) (bC _)) (yE (bG (jQ (cI hr)) (bv 4) (ae ak) (bC _)))))
     (az (sA (i:=3) rfl (by first | exact ah rfl | exact bw (ah rfl)) (dF (bv 4)))
     (aB (aI (i:=4) Ab.nd rfl (ah rfl) (aZ ((LZ T).mono (by decide)) hr rfl T.LD T.DA.kp T.LF aR (af (bv 0) (af (bv 4) (af (bv 2) ao))))))))
    (aB (cj (bG (eJ (cI hr)) (ae (ck (de) (by rfl) T.df da (af (bv 3) ao))) (ae (aA dR (bv 1) (ae ak))) (bC _)) (aB (aO (em 3))) cF))))))
   (aB (aO (eI (cX ak dy))))),λds Q h=>?_⟩
  obtain⟨m,rfl,hm,q⟩:=h
  have hF:=bO hm
  have cZ:=hF.lo
  have xD:=hF.hi
  obtain⟨st,s1,s2,s3,s4⟩:=cZ6 hm
  refine ay λU hU=>?_
  walk_at"l3"
  refine⟨1,_,⟨rfl,rfl⟩,⟨by decide,by decide,by omega,by omega⟩,?_⟩
  refine fj.mk (λi δ=>i<=st-1/\∃o1 o2 o3,δ=[some (cS m),some (.int (aa m)),o1,o2,o3]) ⟨by omega,none,none,none,rfl⟩ ?_ ?_
  ·rintro i d δ hd ⟨hi,o1,o2,o3,rfl⟩
   obtain⟨mf,rfl⟩:=Vz hd
   rw[show(1:Int)+(i:Int)=((i+1:Nat):Int) by omega]
   clear hd
   refine ay λU hU=>?_
   walk_at"l3"
   refine⟨by decide,hU _ ?_⟩
   clear hU
   refine ay λU hU=>?_
   walk_at"l3"
   refine hU _ ?_
   clear hU
   refine ay λU hU=>?_
   walk_at"l3"
   refine⟨λn δ=>∃(l:List Int) (p:Nat),δ=[some (cS m),some (.int (aa m)),some (.int ((i+1:Nat):Int)),some (.lst true (aC l)),some (.int (p:Nat))]/\p<aa m/\l.length<=aa m-1/\kS (gm m) (i+1) (aa m-1) (aa m-1-l.length) l p=kS (gm m) (i+1) (aa m-1) (aa m-2) [1] (i+1)/\n=aa m-1-l.length,
    ⟨_,[1],i+1,rfl,by omega,by simp;omega,rfl,rfl⟩,?_⟩
   rintro n δ ⟨l,p,rfl,hp,hl,he,rfl⟩
   walk_at"l3"
   have fin:kS (gm m) (i+1) (aa m-1) (aa m-1-l.length) l p=l->U [some (cS m),some (D.int (aa m)),some (D.int ((i+1:Nat):Int)),some (D.lst true (aC l)),some (D.int p)]:=by
    intro e
    have e:=he.symm.trans e
    refine hU _ ?_
    walk_at"l3"
    by_cases hi3:i=st-1
    ·have el:l=fl m:=by rw[<-e,<- s4,hi3,show st-1+1=st by omega]
     have:=hF.len
     rw[if_pos (by rw[el];omega),el]
     exact q
    ·have h3:=s3 i (by omega)
     rw[e]at h3
     rw[if_neg (by omega)]
     exact⟨by omega,_,_,_,rfl,rfl,rfl⟩
   have L4:∀f,kS (gm m) (i+1) (aa m-1) f l p=(match f with | 0=>l | f+1=>if l.length<aa m-1/\p≠1 then kS (gm m) (i+1) (aa m-1) f (l++[(p:Int)]) (gm m p (i+1))else l):=λf=>by cases f<;>rfl
   split
   ·rename_i h1
    split
    ·rename_i h2
     have p1:p≠1:=by
      intro z;subst z;simp at h2
     clear hU fin
     refine ay λU hU=>?_
     walk_at"l3"
     refine⟨⟨_,rfl⟩,by omega,hU _ ?_⟩
     clear hU
     walk_at"l3"
     refine⟨m,p,i+1,rfl,hm,hp,by omega,?_⟩
     have hf:aa m-1-l.length=(aa m-1-(l.length+1))+1:=by omega
     rw[hf,L4]at he
     have he:(if l.length<aa m-1/\p≠1 then kS (gm m) (i+1) (aa m-1) (aa m-1-(l.length+1)) (l++[(p:Int)]) (gm m p (i+1))else l)=_:=he
     rw[if_pos ⟨by omega,p1⟩]at he
     exact⟨aa m-1-(l.length+1),by omega,l++[(p:Int)],gm m p (i+1),⟨by unfold aC;rw[jW];rfl,rfl⟩,cw hm _ _,by rw[eG,A9];omega,by rw[eG,A9];exact he,by rw[eG,A9]⟩
    ·rename_i h2
     refine fin ?_
     have p1:p=1:=by
      apply di3
      intro z
      exact h2 (by simp;omega)
     rw[L4]
     split
     ·rfl
     ·rw[if_neg (λz=>z.2 p1)]
   ·rename_i h1
    refine fin ?_
    rw[L4]
    split
    ·rfl
    ·rw[if_neg (λz=>h1 (by omega))]
  ·rintro δ ⟨hi,_⟩
   simp at hi
   omega
noncomputable abbrev aW5:bh:=λds Q=>∃(ns:List Int) (k:Int),ds=[.fz (aC ns),.int k]/\0<=k/\Q (.int (ns.getD k.toNat 0))
theorem gO(T:Txt K mg t):aM P w K mg base aT 1 t.JO t.JP ["_law_script","_law_k"] (bq (aW5 )):=by
 refine bA T.gC aU6 ?_ ?_
 ·intro ds Q h
  obtain⟨ns,k,rfl,hk,q⟩:=h<;>rfl
 ·intro aE A outer s H E hr
  refine⟨_,(az (cj (bG zo (bv 1) (ae (ck (de) (by rfl) T.df da (af (bv 0) ao))) (bC _)) (aB (aO (dF (br (bv 0) (bv 1) (λ_ _=>rfl))))) cF)
   (aB (aO ak))),λds Q h=>?_⟩
  obtain⟨ns,k,rfl,hk,q⟩:=h
  refine ay λU hU=>?_
  walk_at"l3"
  split
  ·rename_i h
   exact⟨_,me hk h,rfl,q⟩
  ·rename_i h
   refine hU _ ?_
   walk_at"l3"
   rw[aL,ja (by omega)]at q
   exact q
noncomputable abbrev aO8:bh:=λds Q=>∃(ns:List Int) (M:Nat) (wh:Bool),ds=[.fz (aC ns),.int M,.bl wh]/\3<=M/\M<=64/\∀n e f k:Nat,2<=n->n+1<=M->1<=e->e+1<=n->e<=39->f<M->k<=24->(wh=true->n+1=M)->Q (.tup [.int n,.int e,.int f,.int k])
theorem aO9(T:Txt K mg t):aM P w K mg base aT 2 t.JQ t.JR ["_law_script","_law_many_here","_law_whole_here"] (bq (aO8 )):=by
 refine bA T.W9 nV ?_ ?_
 ·intro ds Q h
  obtain⟨ns,M,wh,rfl,hM3,hM,q⟩:=h<;>rfl
 ·intro aE A outer s H E hr
  refine⟨_,(az (aI (i:=3) nV.nd rfl (ah rfl) (aA cu (ae ak) (ae (aA cP (ae (aZ ((gO T).mono (by decide)) hr rfl T.gL T.gC.kp T.gM aR (af (bv 0) (af (ae ak) ao)))) (ae (aA dR (bv 1) (ae ak)))))))
   (az (cj (jN (bv 2)) (aB (aI (i:=3) nV.nd rfl (ah rfl) (aA dR (bv 1) (ae ak)))) cF)
   (az (aI (i:=4) nV.nd rfl (ah rfl) (aA cu (ae ak) (ae (aA cP (ae (aZ ((gO T).mono (by decide)) hr rfl T.gL T.gC.kp T.gM aR (af (bv 0) (af (ae ak) ao)))) (ae (ck (Hc rfl) (by rfl) T.LU Gy (af (ae (aA dR (bv 3) (ae ak))) (af (ae ak) ao))))))))
   (az (cj (PW.pt (zd (ze (jN (bv 2))) (yE (bG (eJ (cI hr)) (ae (aA cP (ae (aA jl (ae (aZ ((gO T).mono (by decide)) hr rfl T.gL T.gC.kp T.gM aR (af (bv 0) (af (ae ak) ao)))) (ae ak))) (ae ak))) (ae ak) (bC _))))) (az (aI (i:=3) nV.nd rfl (ah rfl) (ck (Hc rfl) (by rfl) T.LU Gy (af (bv 3) (af (ae ak) ao))))
    (aB (aI (i:=4) nV.nd rfl (ah rfl) (aA cu (ae ak) (ae (aA cP (ae (aA jl (ae (aZ ((gO T).mono (by decide)) hr rfl T.gL T.gC.kp T.gM aR (af (bv 0) (af (ae ak) ao)))) (ae ak))) (ae (aA dR (bv 3) (ae ak))))))))) cF)
   (az (aI (i:=5) nV.nd rfl (ah rfl) (aA cP (ae (aZ ((gO T).mono (by decide)) hr rfl T.gL T.gC.kp T.gM aR (af (bv 0) (af (ae ak) ao)))) (bv 1)))
   (az (aI (i:=6) nV.nd rfl (ah rfl) (aA cP (ae (aA jl (ae (aZ ((gO T).mono (by decide)) hr rfl T.gL T.gC.kp T.gM aR (af (bv 0) (af (ae ak) ao)))) (ae ak))) (ae (aA cu (ae (aA jl (bv 4) (ae ak))) (ae ak)))))
   (az (cj (bG (eJ (cI hr)) (ae (aA cP (ae (aZ ((gO T).mono (by decide)) hr rfl T.gL T.gC.kp T.gM aR (af (bv 0) (af (ae ak) ao)))) (ae ak))) (ae ak) (bC _)) (aB (aI (i:=6) nV.nd rfl (ah rfl) (aA cP (ae (aA jl (ae (aZ ((gO T).mono (by decide)) hr rfl T.gL T.gC.kp T.gM aR (af (bv 0) (af (ae ak) ao)))) (ae ak))) (ae (aA cu (bv 3) (ae ak)))))) cF)
   (aB (aO (zh (cX (em 3) (cX (em 4) (cX (em 5) (cX (ck (Hc rfl) (by rfl) T.LU Gy (af (bv 6) (af (ae ak) ao))) dy)))))))))))))),λds Q h=>?_⟩
  obtain⟨ns,M,wh,rfl,hM3,hM,q⟩:=h
  have modn:∀(z:Int) (k:Nat),0<k->∃r:Nat,z%(k:Int)=r/\r<k:=λz k hk=>by
   have n0:=gR z (show(k:Int)≠0 by omega)
   have n1:=jC z (show(0:Int)<(k:Int) by omega)
   exact⟨(z%(k:Int)).toNat,by omega,by omega⟩
  refine ay λU hU=>?_
  walk_at"l3"
  refine⟨ns,1,rfl,by decide,by omega,?_⟩
  obtain⟨r1,e1,h1⟩:=modn (ns.getD (om 1) 0) (M-2) (by omega)
  rw[show(M:Int)-2=((M-2:Nat):Int) by omega,e1]
  refine hU _ ?_
  clear hU U
  refine ay λU hU=>?_
  walk_at"l3"
  have st:∀n:Nat,2<=n->n+1<=M->(wh=true->n+1=M)->U [some (D.fz (aC ns)),some (D.int M),some (D.bl wh),some (D.int n),none,none,none]:=by
   intro n n1 n2 n3
   refine hU _ ?_
   clear hU U
   refine ay λU hU=>?_
   walk_at"l3"
   refine⟨ns,2,rfl,by decide,?_⟩
   dsimp only
   rw[show(if(15:Int)<(n:Int)-1 then(15:Int)else(n:Int)-1)=((min 15 (n-1):Nat):Int) by split<;>omega]
   obtain⟨r2,e2,h2⟩:=modn (ns.getD (om 2) 0) (min 15 (n-1)) (by omega)
   rw[e2]
   refine⟨by omega,hU _ ?_⟩
   clear hU U
   refine ay λU hU=>?_
   walk_at"l3"
   have mP:∀n e:Nat,2<=n->n+1<=M->1<=e->e+1<=n->e<=39->(wh=true->n+1=M)->U [some (D.fz (aC ns)),some (D.int M),some (D.bl wh),some (D.int n),some (D.int e),none,none]:=by
    intro n e n1 n2 n3 n4 n5 n6
    refine hU _ ?_
    clear hU U
    refine ay λU hU=>?_
    walk_at"l3"
    refine⟨ns,3,rfl,by decide,by omega,?_⟩
    obtain⟨r3,e3,h3⟩:=modn (ns.getD (om 3) 0) M (by omega)
    rw[e3]
    refine hU _ ?_
    clear hU U
    refine ay λU hU=>?_
    walk_at"l3"
    refine⟨ns,4,rfl,by decide,jk (by decide) (by decide),jk (by decide) (by decide),by omega,?_⟩
    obtain⟨r4,e4,h4⟩:=modn (ns.getD (om 4) 0/5) (e/2+2) (by omega)
    rw[show(e:Int)/2+2=((e/2+2:Nat):Int) by omega,e4]
    refine hU _ ?_
    clear hU U
    refine ay λU hU=>?_
    walk_at"l3"
    have yK:∀k:Nat,U [some (D.fz (aC ns)),some (D.int M),some (D.bl wh),some (D.int n),some (D.int e),some (D.int r3),some (D.int k)]:=by
     intro k
     refine hU _ ?_
     walk_at"l3"
     have:=q n e r3 (min k 24) n1 n2 n3 n4 n5 h3 (by omega) n6
     rw[show(if(24:Int)<(k:Int)then(24:Int)else(k:Int))=((min k 24:Nat):Int) by split<;>omega]
     exact⟨by decide,this⟩
    clear hU
    refine⟨ns,4,rfl,by decide,by decide,?_⟩
    split
    ·refine⟨ns,4,rfl,by decide,jk (by decide) (by decide),by omega,?_⟩
     obtain⟨r5,e5,h5⟩:=modn (ns.getD (om 4) 0/5) (n+1) (by omega)
     rw[show(n:Int)+1=((n+1:Nat):Int) by omega,e5]
     exact yK _
    ·exact yK _
   clear hU
   cases wh with
   | true =>
    rw[if_neg (by decide),show(1:Int)+(r2:Int)=((1+r2:Nat):Int) by omega]
    exact mP _ _ n1 n2 (by omega) (by omega) (by omega) n3
   | false =>
    rw[if_pos (by decide)]
    refine⟨ns,2,rfl,by decide,jk (by decide) (by decide),by decide,?_⟩
    split
    ·refine ay λU hU=>?_
     walk_at"l3"
     refine hU _ ?_
     clear hU
     walk_at"l3"
     refine⟨ns,2,rfl,by decide,jk (by decide) (by decide),?_⟩
     rw[show(if(40:Int)<(n:Int)then(40:Int)else(n:Int))=((min n 40:Nat):Int) by split<;>omega,show((min n 40:Nat):Int)-1=((min n 40-1:Nat):Int) by omega]
     obtain⟨r5,e5,h5⟩:=modn (ns.getD (om 2) 0/240) (min n 40-1) (by omega)
     rw[e5,show(1:Int)+(r5:Int)=((1+r5:Nat):Int) by omega]
     exact⟨by omega,mP _ _ (by omega) (by omega) (by omega) (by omega) (by omega) λz=>by cases z⟩
    ·rw[show(1:Int)+(r2:Int)=((1+r2:Nat):Int) by omega]
     exact mP _ _ n1 n2 (by omega) (by omega) (by omega) n3
  clear hU
  cases wh with
  | true =>
   rw[if_pos rfl,show(M:Int)-1=((M-1:Nat):Int) by omega]
   exact st _ (by omega) (by omega) λ_=>by omega
  | false =>
   rw[if_neg (by decide),show(2:Int)+(r1:Int)=((2+r1:Nat):Int) by omega]
   exact st _ (by omega) (by omega) λz=>by cases z
noncomputable abbrev aY8:bh:=λds Q=>∃l:List Nat,ds=[.lst false (aj l)]/\l.length<=1000/\Q (.lst true (aj (fH l)))
theorem aY9(T:Txt K mg t):aM P w K mg base aT 1 t.JS t.JT ["_law_row"] (bq (aY8 )):=by
 refine bA T.Xa WH ?_ ?_
 ·intro ds Q h
  obtain⟨l,rfl,hl,q⟩:=h<;>rfl
 ·intro aE A outer s H E hr
  refine⟨_,(az (aI (i:=0) WH.nd rfl (ah rfl) (zw (Cc) (by rfl) T.AI y0 (af (bv 0) ao)))
   (az (rz dB (PW.pt (zd (bG rW (ae (ck (de) (by rfl) T.df da (af (bv 0) ao))) (ae ak) (bC _)) (yE (bG (eJ (cI hr)) (br (bv 0) (ae (TY (ae ak))) (λ_ _=>rfl)) (ae ak) (bC _)))))
    (aB (cX3 (i:=0) rfl (by first | exact ah rfl | exact bw (ah rfl)))))
   (aB (aO (em 0))))),λds Q h=>?_⟩
  obtain⟨l,rfl,hl,q⟩:=h
  refine ay λU hU=>?_
  walk_at"l3"
  refine hU _ ?_
  clear hU U
  refine ay λU hU=>?_
  walk_at"l3"
  refine⟨λn δ=>∃k:Nat,δ=[some (.lst true (aj (l.take k)))]/\k<=l.length/\(∀x∈l.drop k,x=0)/\n=k,⟨l.length,l.length,by rw[og];rfl,bI _,by simp,rfl⟩,?_⟩
  rintro n δ ⟨k,rfl,hk,hz,rfl⟩
  walk_at"l3"
  have fin:(n=0\/l.getD (n-1) 0≠0)->U [some (.lst true (aj (l.take n)))]:=λh=>by
   refine hU _ ?_
   walk_at"l3"
   rw[HR hk hz h]at q
   exact q
  have tl:(l.take n).length=n:=by rw[jz];omega
  split
  ·rename_i h1
   rw[tl]at h1
   refine⟨_,ck9 (by omega),rfl,?_⟩
   rw[i3,tl,show(l.take n).getD (n-1) 0=l.getD (n-1) 0 by rw[aL,Bh,if_pos (by omega),aL]]
   by_cases h0:l.getD (n-1) 0=0
   ·rw[if_pos (by rw[h0];rfl)]
    refine⟨λz=>?_,n-1,by omega,n-1,?_,by omega,Vy (by omega) hk hz h0,rfl⟩
    ·have:=congrArg A7 z
     rw[dz,tl]at this
     simp at this
     omega
    ·rw[cG,cG,<- List.map_dropLast,List.dropLast_eq_take,tl,List.take_take,yb (by omega)]
   ·rw[if_neg (by simp only[decide_eq_true_eq];omega)]
    exact fin (.inr h0)
  ·rename_i h1
   rw[tl]at h1
   exact fin (.inl (by omega))
noncomputable abbrev aW6:bh:=λds Q=>∃(m:Bool × Nat) (a b:Nat),ds=[cS m,.int a,.int b]/\0<m.2/\Q (.int (gp m a b:Nat))
theorem DN(T:Txt K mg t):aM P w K mg base aT 1 t.JU t.JV ["_law_told_here","_law_a","_law_b"] (bq (aW6 )):=by
 refine bA T.Ai aU7 ?_ ?_
 ·intro ds Q h
  obtain⟨m,a,b,rfl,h0,q⟩:=h<;>rfl
 ·intro aE A outer s H E hr
  refine⟨_,(az (cj (jN (br (bv 0) (ae ak) (λ_ _=>rfl))) (aB (aO (aA rP (bv 1) (bv 2)))) cF)
   (aB (aO (aA cP (ae (aA cu (bv 1) (bv 2))) (br (bv 0) (ae ak) (λ_ _=>rfl)))))),λds Q h=>?_⟩
  obtain⟨m,a,b,rfl,h0,q⟩:=h
  unfold cS at *
  obtain⟨k,n⟩:=m
  refine ay λU hU=>?_
  walk_at"l3"
  cases k with
  | true =>
   refine⟨_,rfl,true,rfl,?_⟩
   rw[if_pos rfl,kq]
   exact q
  | false =>
   refine⟨_,rfl,false,rfl,?_⟩
   rw[if_neg (by decide)]
   refine hU _ ?_
   walk_at"l3"
   refine⟨_,rfl,?_⟩
   refine⟨by omega,?_⟩
   have e:((gp (false,n) a b:Nat):Int)=((a:Int)+b)%n:=by
    show(((a+b)%n:Nat):Int)=_
    rw[mJ,qG]
   rw[<-e];exact q
noncomputable abbrev aP0:bh:=λds Q=>∃(m:Bool × Nat) (a b:List Nat),ds=[cS m,.lst false (aj a),.lst false (aj b)]/\m∈aw/\AllLt (aa m) a/\AllLt (aa m) b/\a.length+b.length<=1000/\Q (.lst true (aj (fI m a b)))
theorem X7(T:Txt K mg t):aM P w K mg base aT 2 t.JW t.JX ["_law_told_here","_law_a","_law_b"] (bq (aP0 )):=by
 refine bA T.LG Ds ?_ ?_
 ·intro ds Q h
  obtain⟨m,a,b,rfl,hm,ha,hb,hl,q⟩:=h<;>rfl
 ·intro aE A outer s H E hr
  refine⟨_,(az (C9 (i:=3) Ds.nd rfl (ah rfl) [] ["_law_k"] rfl (iX rfl T.fY (af (ae (aA cu (ae (ck (de) (by rfl) T.df da (af (bv 1) ao))) (ae (ck (de) (by rfl) T.df da (af (bv 2) ao))))) ao)) (λ_ _ _ _=>(dm (i:=0) (show(["_law_k"]:List Str).Nodup by decide +kernel) rfl (ah (lookup_relabel_local rfl)) (by decide) (bw (lookup_relabel_local rfl)))) (λ_ _ _ _=>eR) (λ_ _ _ _=>ak) rfl trivial (λ_=>by repeat' (first | exact trivial | refine⟨.inl rfl,?_⟩ | refine⟨.inr (.inl rfl),?_⟩ | refine⟨.inr (.inr ⟨_,rfl⟩),?_⟩)) (λ_=>trivial) rfl (by decide +kernel))
   (az (e7 dB rfl (nt rfl T.nY (af (bv 1) ao)) (gi (i1:=4) (i2:=5) rfl Ds.nd rfl (ah rfl) rfl (ah rfl))
    (aB (e7 dB rfl (nt rfl T.nY (af (bv 2) ao)) (gi (i1:=6) (i2:=7) rfl Ds.nd rfl (ah rfl) rfl (ah rfl))
     (aB (sE (i:=3) rfl (by first | exact ah rfl | exact bw (ah rfl)) (aZ ((DN T).mono (by decide)) hr rfl T.DB T.Ai.kp T.DC aR (af (bv 0) (af (br (bv 3) (ae (aA cu (bv 4) (bv 6))) (λ_ _=>rfl)) (af (ae (aZ ((LZ T).mono (by decide)) hr rfl T.LD T.DA.kp T.LF aR (af (bv 0) (af (bv 5) (af (bv 7) ao))))) ao)))) (ae (aA cu (bv 4) (bv 6))))))))
   (aB (aO (aZ ((aY9 T).mono (by decide)) hr rfl T.a00 T.Xa.kp T.a01 aR (af (bv 3) ao)))))),λds Q h=>?_⟩
  obtain⟨m,a,b,rfl,hm,ha,hb,hl,q⟩:=h
  have m0:=bB m hm
  refine ay λU hU=>?_
  walk_at"l3"
  refine⟨⟨by omega,by omega⟩,?_⟩
  refine gw (aS (a.length+b.length)) (λ(i:Nat)=>D.int (i:Int)) (λ_=>D.int ((0:Nat):Int)) (vE _ (by omega)) jq (λk hk=>?_) (.inr λ_ _=>rfl) (by simp[sL];omega) ?_
  ·walk_at"l3"
   rfl
  rw[show((aS (a.length+b.length)).map λ_=>D.int ((0:Nat):Int))=aj (aV (a.length+b.length) 0) by rw[cG,oo,List.map_const',eH]]
  refine hU _ ?_
  clear hU U
  refine ay λU hU=>?_
  walk_at"l3"
  refine fj.mk (λi δ=>∃o4 o5 o6 o7,δ=[some (cS m),some (D.lst false (aj a)),some (D.lst false (aj b)),some (D.lst true (aj (gz m b (aV (a.length+b.length) 0) 0 (a.take i)))),o4,o5,o6,o7]) ⟨_,_,_,_,rfl⟩ ?_ ?_
  ·rintro i d δ hd ⟨o4,o5,o6,o7,rfl⟩
   obtain⟨hi,rfl⟩:=zR hd
   clear hd
   generalize hT:gz m b (aV (a.length+b.length) 0) 0 (a.take i)=tt
   have lT:tt.length=a.length+b.length:=by rw[<-hT,CP,ib]
   have bT:AllLt (aa m) tt:=by rw[<-hT];exact CQ hm b _ _ _ (vD hm _)
   walk_at"l3"
   refine fj.mk (λj δ=>∃o6 o7,δ=[some (cS m),some (D.lst false (aj a)),some (D.lst false (aj b)),some (D.lst true (aj (eT m a[i] tt i (b.take j)))),some (D.int i),some (D.int (a[i]:Nat)),o6,o7]) ⟨_,_,rfl⟩ ?_ ?_
   ·rintro j d δ hd ⟨o6,o7,rfl⟩
    obtain⟨hj,rfl⟩:=zR hd
    clear hd
    have lP:(eT m a[i] tt i (b.take j)).length=a.length+b.length:=by rw[vB,lT]
    have bP:AllLt (aa m) (eT m a[i] tt i (b.take j)):=vC hm _ _ _ _ bT
    walk_at"l3"
    refine⟨_,nF (by omega) (by omega),m,_,_,rfl,hm,ha _ (dv _),hb _ (dv _),m,_,_,rfl,m0,rfl,_,((i:Int)+(j:Int)).toNat,rfl,zQ (by omega) (by rw[dz];omega),_,_,?_,rfl,rfl⟩
    rw[Vr m _ b tt i hj,CT,show((i:Int)+(j:Int)).toNat=i+j by omega];rfl
   ·rintro δ ⟨o6,o7,rfl⟩
    rw[kI,dz,og,Vt m b a _ 0 hi,hT,Bj]
    exact⟨_,_,_,_,rfl⟩
  ·rintro δ ⟨o4,o5,o6,o7,rfl⟩
   rw[kI,dz,og]
   refine hU _ ?_
   walk_at"l3"
   have:=HW m a b
   exact⟨by4 m a b,rfl,by rw[this];exact hl,by rw[gh,HY];rfl,q⟩
noncomputable abbrev aR4:bh:=λds Q=>∃(z:Int) (b n:Nat),ds=[.int z,.int b,.int n]/\0<b/\b<=100/\n<=64/\∀c:List Nat,c.length=n->AllLt b c->Q (.lst true (aj c))
theorem X8(T:Txt K mg t):aM P w K mg base aT 1 t.JY t.JZ ["_law_cell_here","_law_base","_law_count"] (bq (aR4 )):=by
 refine bA T.LH Dt ?_ ?_
 ·intro ds Q h
  obtain⟨z,b,n,rfl,HE,hb,hn,q⟩:=h<;>rfl
 ·intro aE A outer s H E hr
  refine⟨_,(az (aI (i:=3) Dt.nd rfl (ah rfl) (eI dy))
   (az (e7 dB rfl (iX rfl T.fY (af (bv 2) ao)) (dm (i:=4) Dt.nd rfl (ah rfl))
    (az (sA (i:=3) rfl (by first | exact ah rfl | exact bw (ah rfl)) (aA cP (bv 0) (bv 1)))
    (aB (aI (i:=0) Dt.nd rfl (ah rfl) (aA jl (bv 0) (bv 1))))))
   (aB (aO (em 3))))),λds Q h=>?_⟩
  obtain⟨z,b,n,rfl,HE,hb,hn,q⟩:=h
  refine ay λU hU=>?_
  walk_at"l3"
  refine⟨by decide,hU _ ?_⟩
  clear hU U
  refine ay λU hU=>?_
  walk_at"l3"
  refine⟨⟨by omega,by omega⟩,vh (λi δ=>∃(z:Int) (c:List Nat) (o1:Option D),(c.length=i/\AllLt b c)/\δ=[some (D.int z),some (D.int b),some (D.int n),some (D.lst true (aj c)),o1]) ⟨z,[],_,⟨rfl,λa ha=>by cases ha⟩,rfl⟩ ?_ ?_⟩
  ·rintro i δ hi ⟨z,c,o1,⟨h1,h2⟩,rfl⟩
   simp only[gN,jE,jD]
   clear hU
   have n0:=gR z (show(b:Int)≠0 by omega)
   have n1:=jC z (show(0:Int)<(b:Int) by omega)
   refine ay λU hU=>?_
   walk_at"l3"
   refine⟨⟨_,rfl⟩,by omega,by omega,hU _ ?_⟩
   clear hU
   walk_at"l3"
   refine⟨jk (by omega) (by omega),_,c++[(z%(b:Int)).toNat],_,⟨by rw[eG,h1];rfl,λa ha=>?_⟩,rfl,?_,rfl⟩
   ·rcases bW.mp ha with h | h
    ·exact h2 a h
    ·rw[iH.mp h];omega
   ·rw[<-mh];show _=aj c++[D.int (((z%(b:Int)).toNat:Nat):Int)];rw[qH n0]
  ·rintro δ ⟨z,c,o1,⟨h1,h2⟩,rfl⟩
   refine hU _ ?_
   walk_at"l3"
   exact q c h1 h2
noncomputable abbrev aW7:bh:=λds Q=>∃(m:Bool × Nat) (a b:Nat),ds=[cS m,.int a,.int b]/\0<m.2/\Q (.int (gl m a b))
theorem aW8(T:Txt K mg t):aM P w K mg base aT 1 t.J0 t.J1 ["_law_told_here","_law_a","_law_b"] (bq (aW7 )):=by
 refine bA T.Xf aU8 ?_ ?_
 ·intro ds Q h
  obtain⟨m,a,b,rfl,h0,q⟩:=h<;>rfl
 ·intro aE A outer s H E hr
  refine⟨_,(az (cj (jN (br (bv 0) (ae ak) (λ_ _=>rfl))) (aB (aO (aA rP (bv 1) (bv 2)))) cF)
   (aB (aO (aA cP (ae (aA dR (bv 1) (bv 2))) (br (bv 0) (ae ak) (λ_ _=>rfl)))))),λds Q h=>?_⟩
  obtain⟨m,a,b,rfl,h0,q⟩:=h
  unfold cS at *
  obtain⟨k,n⟩:=m
  refine ay λU hU=>?_
  walk_at"l3"
  cases k with
  | true =>
   refine⟨_,rfl,true,rfl,?_⟩
   rw[if_pos rfl,kq]
   exact q
  | false =>
   refine⟨_,rfl,false,rfl,?_⟩
   rw[if_neg (by decide)]
   refine hU _ ?_
   walk_at"l3"
   refine⟨_,rfl,?_⟩
   exact⟨by omega,q⟩
theorem X9{m:Bool × Nat}(hm:m∈aw){a b:List Nat}{x z:Nat}(ha:a.length<=x+1)(hb:b.length<=z+1):(fI m a b).length<=x+z+1:=by
 have h0:=bB m hm
 rcases HS (by4 m a b)with h | h
 ·rw[show fH (by4 m a b)=fI m a b from rfl]at h;omega
 ·rw[show fH (by4 m a b)=fI m a b from rfl]at h
  rcases qI (x+z+1) (fI m a b).length with c | c
  ·refine absurd ?_ h
   show cf (fI m a b) _=0
   rw[Ib hm,C5 hm]
   refine gJ (rg hm) λj hj=>?_
   by_cases c':x<j
   ·rw[g8 (l:=a) (by omega),dM m _ h0]
   ·rw[g8 (l:=b) (by omega),gx m _ h0]
  ·exact c
theorem cv0{m:Bool × Nat}(hm:m∈aw){s:Nat}(hs:s<aa m):aG m s [bg m 0 s,1]=0:=by
 have h0:=bB m hm
 have g:=(eK hm (a:=0) (b:=s) (by omega) hs).2
 show gp m (gm m (gp m (gm m 0 s) 1) s) (bg m 0 s)=0
 rw[dM m _ h0,gy (lo1 hm),pW hs,ju]
 exact g.2
noncomputable abbrev aW9:bh:=λds Q=>∃(ns:List Int) (m:Bool × Nat) (n e f k:Nat),ds=[.fz (aC ns),cS m,.int (aa m),.lst false (aC (fl m)),.tup [.int n,.int e,.int f,.int k]]/\m∈aw/\n+1<=aa m/\e+1<=n/\f<aa m/\k<=24/\∀c:List Nat,c.length=n->AllLt (aa m) c->(∀i,i<e->aG m (eS m ((f:Int)+(i:Int))) c=0)->Q (.lst true (aj c))
theorem aX0(T:Txt K mg t):aM P w K mg base aT 3 t.J2 t.J3 ["_law_script","_law_told_here","_law_many_here","_law_powers_here","_law_numbers_here"] (bq (aW9 )):=by
 refine bA T.Xg qf ?_ ?_
 ·intro ds Q h
  obtain⟨ns,m,n,e,f,k,rfl,hm,hn,he,hf,hk,q⟩:=h<;>rfl
 ·intro aE A outer s H E hr
  refine⟨_,(az (aI (i:=5) qf.nd rfl (ah rfl) (eI (cX ak dy)))
   (az (e7 dB rfl (iX rfl T.fY (af (br (bv 4) (ae ak) (λ_ _=>rfl)) ao)) (dm (i:=6) qf.nd rfl (ah rfl))
    (aB (aI (i:=5) qf.nd rfl (ah rfl) (aZ ((X7 T).mono (by decide)) hr rfl T.Xb T.LG.kp T.Xc aR (af (bv 1) (af (bv 5) (af (ae (eI (cX (aZ ((aW8 T).mono (by decide)) hr rfl T.aY4 T.Xf.kp T.aY5 aR (af (bv 1) (af (ae ak) (af (br (bv 3) (ae (aA cP (ae (aA cu (br (bv 4) (ae ak) (λ_ _=>rfl)) (bv 6))) (ae (aA dR (bv 2) (ae ak))))) (λ_ _=>rfl)) ao)))) (cX ak dy)))) ao)))))))
   (az (aI (i:=7) qf.nd rfl (bw rfl) (aA cu (ae ak) (ae (aA fV (ae ak) (br (bv 4) (ae ak) (λ_ _=>rfl))))))
   (az (C9 (i:=8) qf.nd rfl (ah rfl) [("_law_many_here",2),("_law_script",0),("_law_base",7)] ["_law_k"] rfl (iX rfl T.fY (af (ae (aA dR (br (bv 4) (ae ak) (λ_ _=>rfl)) (br (bv 4) (ae ak) (λ_ _=>rfl)))) ao)) (λ_ _ _ _=>(dm (i:=3) (show(["_law_many_here","_law_script","_law_base","_law_k"]:List Str).Nodup by decide +kernel) rfl (ah (lookup_relabel_local rfl)) (by decide) (bw (lookup_relabel_local rfl)))) (λ_ _ _ _=>eR) (λ_ _ _ _=>(aA cP (ae (aZ ((gO T).mono (by decide)) hr rfl T.gL T.gC.kp T.gM aR (af (bv 1) (af (ae (aA cu (bv 2) (bv 3))) ao)))) (bv 0))) rfl ⟨rfl,⟨rfl,⟨rfl,trivial⟩⟩⟩ (λ_=>by repeat' (first | exact trivial | refine⟨.inl rfl,?_⟩ | refine⟨.inr (.inl rfl),?_⟩ | refine⟨.inr (.inr ⟨_,rfl⟩),?_⟩)) (λ_=>⟨⟨rfl,.inl rfl,.inl rfl,_,rfl,rfl⟩,⟨⟨rfl,.inl rfl,.inl rfl,_,rfl,rfl⟩,⟨⟨rfl,.inl rfl,.inl rfl,_,rfl,rfl⟩,trivial⟩⟩⟩) rfl (by decide +kernel))
   (az (cj (bG (eJ (cI hr)) (ae (aA cP (ae (aA jl (ae (aZ ((gO T).mono (by decide)) hr rfl T.gL T.gC.kp T.gM aR (af (bv 0) (af (ae ak) ao)))) (ae ak))) (ae ak))) (ae ak) (bC _)) (aB (aI (i:=8) qf.nd rfl (ah rfl) (aZ ((X8 T).mono (by decide)) hr rfl T.Xd T.LH.kp T.Xe aR (af (ae (aZ ((gO T).mono (by decide)) hr rfl T.gL T.gC.kp T.gM aR (af (bv 0) (af (ae ak) ao)))) (af (bv 2) (af (ae (aA dR (br (bv 4) (ae ak) (λ_ _=>rfl)) (br (bv 4) (ae ak) (λ_ _=>rfl)))) ao)))))) cF)
   (az (aI (i:=9) qf.nd rfl (ah rfl) (aZ ((X7 T).mono (by decide)) hr rfl T.Xb T.LG.kp T.Xc aR (af (bv 1) (af (bv 8) (af (bv 5) ao)))))
   (aB (aO (aA cu (bv 9) (ae (fc [] ["_law_k"] rfl (iX rfl T.fY (af (ae (aA dR (br (bv 4) (ae ak) (λ_ _=>rfl)) (ae (ck (de) (by rfl) T.df da (af (bv 9) ao))))) ao)) (λ_ _ _ _=>(dm (i:=0) (show(["_law_k"]:List Str).Nodup by decide +kernel) rfl (ah (lookup_relabel_local rfl)) (by decide) (bw (lookup_relabel_local rfl)))) (λ_ _ _ _=>eR) (λ_ _ _ _=>ak) rfl trivial (λ_=>by repeat' (first | exact trivial | refine⟨.inl rfl,?_⟩ | refine⟨.inr (.inl rfl),?_⟩ | refine⟨.inr (.inr ⟨_,rfl⟩),?_⟩)) (λ_=>trivial) rfl (by decide +kernel)))))))))))),λds Q h=>?_⟩
  obtain⟨ns,m,n,e,f,k,rfl,hm,hn,he,hf,hk,q⟩:=h
  have cZ:=(bO hm).lo
  have xD:=(bO hm).hi
  have m0:=bB m hm
  refine ay λU hU=>?_
  walk_at"l3"
  refine⟨by decide,hU _ ?_⟩
  clear hU U
  refine ay λU hU=>?_
  walk_at"l3"
  refine⟨_,rfl,_,rfl,⟨by omega,by omega⟩,vh (λi δ=>∃(G:List Nat) (o1:Option D),(AllLt (aa m) G/\G.length<=i+1/\∀j,j<i->aG m (eS m ((f:Int)+(j:Int))) G=0)/\δ=[some (D.fz (aC ns)),some (cS m),some (D.int (aa m)),some (D.lst false (aC (fl m))),some (D.tup [D.int n,D.int e,D.int f,D.int k]),some (D.lst true (aj G)),o1,none,none,none]) ⟨[1],none,⟨IJ hm,bI _,λj hj=>absurd hj (ym j)⟩,rfl⟩ ?_ ?_⟩
  ·rintro i δ hi ⟨G,o1,⟨g1,g2,g3⟩,rfl⟩
   simp only[gN,jE,jD]
   clear hU
   walk_at"l3"
   have n0:=gR ((f:Int)+(i:Int)) (show(aa m:Int)-1≠0 by omega)
   have hs:=i7 hm ((f:Int)+(i:Int))
   have gn:=eK hm (a:=0) (b:=eS m ((f:Int)+(i:Int))) (by omega) hs
   have hb:AllLt (aa m) [bg m 0 (eS m ((f:Int)+(i:Int))),1]:=λa ha=>by
    simp only[bX,ig,or_false]at ha
    rcases ha with rfl | rfl
    ·exact gn.2.1
    ·omega
   refine⟨_,rfl,by omega,.int (eS m ((f:Int)+(i:Int)):Nat),kh n0 ?_,m,0,_,rfl,m0,?_⟩
   ·unfold aC;rw[cm,HP hm];rfl
   rw[gn.1]
   refine⟨rfl,by decide,m,G,[bg m 0 (eS m ((f:Int)+(i:Int))),1],rfl,hm,g1,hb,by rw[show([bg m 0 (eS m ((f:Int)+(i:Int))),1]:List Nat).length=2 from rfl];omega,e8 _,_,_,⟨CS hm _ _,X9 hm (x:=i) (z:=1) g2 (by show 2<=2;omega),λj hj=>?_⟩,rfl,rfl⟩
   rw[HX hm _ _ _ g1 hb]
   by_cases c:j<i
   ·rw[g3 j c,dM m _ m0]
   ·rw[show j=i by omega,cv0 hm hs,gx m _ m0]
  ·rintro δ ⟨G,o1,⟨g1,g2,g3⟩,rfl⟩
   refine hU _ ?_
   clear hU U
   refine ay λU hU=>?_
   walk_at"l3"
   refine⟨_,rfl,ik.ok (.inl ⟨by omega,by omega⟩),hU _ ?_⟩
   clear hU U
   refine ay λU hU=>?_
   walk_at"l3"
   have ep5:∀z:Int,z%(aa m:Int)=(((z%(aa m:Int)).toNat:Nat):Int):=λz=>by
    have n0:=gR z (show(aa m:Int)≠0 by omega)
    omega
   have ep6:∀z:Int,(z%(aa m:Int)).toNat<aa m:=λz=>by
    have n1:=jC z (show(0:Int)<(aa m:Int) by omega)
    omega
   refine⟨_,rfl,_,rfl,⟨by omega,by omega⟩,gw (aS (n-e)) (λ(i:Nat)=>D.int (i:Int)) (λkk=>D.int (((ns.getD ((6:Int)+2*(k:Int)+(kk:Int)).toNat 0%(aa m:Int)).toNat:Nat):Int)) (vE _ (by omega)) jq (λkk hk=>?_) (.inr λ_ _=>rfl) (by rw[eH,sL];omega) ?_⟩
   ·walk_at"l3"
    exact⟨ns,_,rfl,by omega,by omega,ep5 _⟩
   obtain⟨wd,ewd,DO,Ya⟩:∃wd:List Nat,((aS (n-e)).map λ(kk:Nat)=>D.int (((ns.getD ((6:Int)+2*(k:Int)+(kk:Int)).toNat 0%(aa m:Int)).toNat:Nat):Int))=aj wd/\AllLt (aa m) wd/\wd.length=n-e:=by
    refine⟨(aS (n-e)).map λ(kk:Nat)=>(ns.getD ((6:Int)+2*(k:Int)+(kk:Int)).toNat 0%(aa m:Int)).toNat,by rw[cG,dh];rfl,λa ha=>?_,by simp⟩
    obtain⟨k,_,rfl⟩:=cH.mp ha
    exact ep6 _
   rw[ewd]
   refine hU _ ?_
   clear hU U
   refine ay λU hU=>?_
   walk_at"l3"
   have st:∀wd:List Nat,AllLt (aa m) wd->wd.length=n-e->U [some (D.fz (aC ns)),some (cS m),some (D.int (aa m)),some (D.lst false (aC (fl m))),some (D.tup [D.int n,D.int e,D.int f,D.int k]),some (D.lst true (aj G)),o1,some (D.int ((6:Int)+2*(k:Int))),some (D.lst true (aj wd)),none]:=by
    intro wd DO Ya
    refine hU _ ?_
    clear hU U
    refine ay λU hU=>?_
    walk_at"l3"
    refine⟨m,wd,G,rfl,hm,DO,g1,by omega,e8 _,hU _ ?_⟩
    clear hU U
    have pl:=X9 hm (a:=wd) (b:=G) (x:=n-e-1) (z:=e) (by omega) g2
    have pa:=CS hm wd G
    have ph:∀i,i<e->aG m (eS m ((f:Int)+(i:Int))) (fI m wd G)=0:=λi hi=>by rw[HX hm _ _ _ DO g1,g3 i hi,gx m _ m0]
    generalize fI m wd G=pr at pl pa ph ⊢
    walk_at"l3"
    refine⟨_,rfl,⟨by omega,by omega⟩,bO3 (n:=n-pr.length) (by omega) (by omega) ?_⟩
    dsimp only
    refine⟨⟨by rw[dz,dz,ib];omega,kJ _,kJ _⟩,?_⟩
    rw[mh]
    refine q _ (by rw[eG,ib];omega) (λa ha=>?_) λi hi=>by rw[Wi hm,ph i hi]
    rcases bW.mp ha with h | h
    ·exact pa a h
    ·rw[(x8.mp h).2];omega
   clear hU
   refine⟨ns,5,rfl,by decide,jk (by decide) (by decide),by decide,?_⟩
   split
   ·refine⟨ns,6,rfl,by decide,_,rfl,_,rfl,?_⟩
    dsimp only
    rw[<-Int.ofNat_sub (by omega)]
    exact⟨_,aa m,n-e,rfl,by omega,by omega,by omega,λc lc hc=>⟨rfl,st c hc lc⟩⟩
   ·exact st wd DO Ya
theorem cj6(l:List Nat):bZ (l.map some)=aj l:=by unfold bZ;rw[dh,cG];rfl
theorem Yb(y:List (Option Nat))(j:Nat)(v:Option Nat):(bZ y).set j (fX v)=bZ (y.set j v):=by unfold bZ;rw[Ru]
theorem Yc{y:List (Option Nat)}{N j:Nat}{v:Option Nat}(h:∀a,some a∈y->a<N)(hv:∀a,v=some a->a<N):∀a,some a∈y.set j v->a<N:=λa ha=>by
 rcases yf ha with h1 | h1
 ·exact h a h1
 ·exact hv a h1.symm
noncomputable abbrev aR5:bh:=λds Q=>∃(ns:List Int) (m:Bool × Nat) (c:List Nat) (k:Nat),ds=[.fz (aC ns),cS m,.int (aa m),.lst false (aj c),.int k]/\m∈aw/\0<c.length/\c.length<=64/\AllLt (aa m) c/\k<=24/\∀y:List (Option Nat),y.length=c.length->(∀a,some a∈y->a<aa m)->Q (.lst true (bZ y))
theorem aR6(T:Txt K mg t):aM P w K mg base aT 2 t.J4 t.J5 ["_law_script","_law_told_here","_law_many_here","_law_word_here","_law_count"] (bq (aR5 )):=by
 refine bA T.Xh Ac ?_ ?_
 ·intro ds Q h
  obtain⟨ns,m,c,k,rfl,hm,hc0,hc,js,hk,q⟩:=h<;>rfl
 ·intro aE A outer s H E hr
  refine⟨_,(az (aI (i:=5) Ac.nd rfl (ah rfl) (zw (Cc) (by rfl) T.AI y0 (af (bv 3) ao)))
   (az (e7 dB rfl (iX rfl T.fY (af (bv 4) ao)) (dm (i:=6) Ac.nd rfl (ah rfl))
    (az (aI (i:=7) Ac.nd rfl (ah rfl) (aA cP (ae (aZ ((gO T).mono (by decide)) hr rfl T.gL T.gC.kp T.gM aR (af (bv 0) (af (ae (aA cu (ae ak) (ae (aA fV (ae ak) (bv 6))))) ao)))) (ae (ck (de) (by rfl) T.df da (af (bv 5) ao)))))
    (az (aI (i:=8) Ac.nd rfl (ah rfl) (aZ ((gO T).mono (by decide)) hr rfl T.gL T.gC.kp T.gM aR (af (bv 0) (af (ae (aA cu (ae ak) (ae (aA fV (ae ak) (bv 6))))) ao))))
    (aB (cj (bG (eJ (cI hr)) (ae (aA cP (ae (aA jl (bv 8) (ae (aA dR (bv 2) (ae ak))))) (ae ak))) (ae ak) (bC _)) (aB (sE (i:=5) rfl (by first | exact ah rfl | exact bw (ah rfl)) gu (bv 7))) (aB (cj (bG TJ (br (bv 5) (bv 7) (λ_ _=>rfl)) (ae gu) (bC _)) (aB (sE (i:=5) rfl (by first | exact ah rfl | exact bw (ah rfl)) (aZ ((DN T).mono (by decide)) hr rfl T.DB T.Ai.kp T.DC aR (af (bv 1) (af (br (bv 5) (bv 7) (λ_ _=>rfl)) (af (ae (aA cu (ae ak) (ae (aA cP (bv 8) (ae (aA dR (bv 2) (ae ak))))))) ao)))) (bv 7))) cF)))))))
   (aB (aO (em 5))))),λds Q h=>?_⟩
  obtain⟨ns,m,c,k,rfl,hm,hc0,hc,js,hk,q⟩:=h
  have cZ:=(bO hm).lo
  have xD:=(bO hm).hi
  have m0:=bB m hm
  refine ay λU hU=>?_
  walk_at"l3"
  refine hU _ ?_
  clear hU U
  refine ay λU hU=>?_
  walk_at"l3"
  refine⟨⟨by omega,by omega⟩,vh (λi δ=>∃(y:List (Option Nat)) (o1 o2 o3:Option D),(y.length=c.length/\∀a,some a∈y->a<aa m)/\δ=[some (D.fz (aC ns)),some (cS m),some (D.int (aa m)),some (D.lst false (aj c)),some (D.int k),some (D.lst true (bZ y)),o1,o2,o3]) ⟨c.map some,_,_,_,⟨by rw[bE],λa ha=>?_⟩,by rw[cj6]⟩ ?_ ?_⟩
  ·obtain⟨b,hb,e⟩:=cH.mp ha
   cases e
   exact js _ hb
  ·rintro i δ hi ⟨y,o1,o2,o3,⟨y1,y2⟩,rfl⟩
   simp only[gN,jE,jD]
   clear hU
   have yl:=Dm y
   refine ay λU hU=>?_
   walk_at"l3"
   refine⟨ik.ok (.inl ⟨by omega,by omega⟩),ns,_,rfl,by omega,by omega,?_⟩
   obtain⟨p,ep,hp⟩:∃p:Nat,ns.getD ((6:Int)+2*(i:Int)).toNat 0%((bZ y).length:Int)=p/\p<y.length:=by
    have n0:=gR (ns.getD ((6:Int)+2*(i:Int)).toNat 0) (show((bZ y).length:Int)≠0 by omega)
    have n1:=jC (ns.getD ((6:Int)+2*(i:Int)).toNat 0) (show(0:Int)<((bZ y).length:Int) by omega)
    exact⟨_,(qH n0).symm,by omega⟩
   rw[ep]
   refine hU _ ?_
   clear hU
   refine ay λU hU=>?_
   walk_at"l3"
   refine⟨ik.ok (.inl ⟨by omega,by omega⟩),ns,_,rfl,by omega,?_⟩
   generalize ns.getD ((7:Int)+2*(i:Int)).toNat 0=ch
   refine hU _ ?_
   clear hU
   walk_at"l3"
   have ix:iu (bZ y).length (p:Int)=some p:=zQ (by omega) (by rw[gD];omega)
   have at_:eB (bZ y) (p:Int)=some (fX (y.getD p none)):=kh (by omega) (by unfold bZ;rw[gD,cm,z7 hp];rfl)
   have hv:∀a,y.getD p none=some a->a<aa m:=λa ha=>y2 a (ha ▸ eL hp none)
   refine⟨jk (by omega) (by omega),by decide,?_⟩
   split
   ·exact⟨_,_,rfl,ix,y.set p none,_,_,_,⟨by rw[mB,y1],Yc y2 λa ha=>by cases ha⟩,Yb y p none,rfl,rfl,rfl⟩
   ·refine⟨_,at_,?_⟩
    cases ev:y.getD p none with
    | none =>
     rw[if_neg (by decide)]
     exact⟨y,_,_,_,⟨y1,y2⟩,rfl,rfl,rfl,rfl⟩
    | some a =>
     have ha:=hv a ev
     obtain⟨r,er,hr⟩:∃r:Nat,ch%((aa m:Int)-1)=r/\r+1<aa m:=by
      have n0:=gR ch (show(aa m:Int)-1≠0 by omega)
      have n1:=jC ch (show(0:Int)<(aa m:Int)-1 by omega)
      exact⟨_,(qH n0).symm,by omega⟩
     rw[if_pos (by exact rfl),er,show(1:Int)+(r:Int)=((1+r:Nat):Int) by omega]
     rw[ev]at at_
     exact⟨_,at_,by omega,m,a,1+r,rfl,m0,rfl,_,_,rfl,ix,y.set p (some (gp m a (1+r))),_,_,_,⟨by rw[mB,y1],Yc y2 λb hb=>by cases hb;exact nE hm ha (by omega)⟩,Yb y p (some (gp m a (1+r))),rfl,rfl,rfl⟩
  ·rintro δ ⟨y,o1,o2,o3,⟨y1,y2⟩,rfl⟩
   refine hU _ ?_
   walk_at"l3"
   exact q y y1 y2
noncomputable abbrev aR7:bh:=λds Q=>∃(y:List (Option Nat)),ds=[.lst false (bZ y)]/\y.length<=1000/\Q (.lst true (aj (aX y)))
theorem aR8(T:Txt K mg t):aM P w K mg base aT 1 t.J6 t.J7 ["signs"] (bq (aR7 )):=by
 refine bA T.Xi aQ2 ?_ ?_
 ·intro ds Q h
  obtain⟨y,rfl,hy,q⟩:=h<;>rfl
 ·intro aE A outer s H E hr
  refine⟨_,(aB (aO (fc [] ["place","sign"] rfl (nt rfl T.nY (af (bv 0) ao)) (λ_ _ _ _=>(gi (i1:=0) (i2:=1) rfl (show(["place","sign"]:List Str).Nodup by decide +kernel) rfl (ah (lookup_relabel_local rfl)) rfl (ah (lookup_relabel_local rfl)) (by decide) (by decide) (bw (lookup_relabel_local rfl)) (bw (lookup_relabel_local rfl)))) (λ_ _ _ _=>(G5 (bG uI (bv 1) (ae gu) (bC _)))) (λ_ _ _ _=>(dF (bv 0))) rfl trivial (λ_=>by repeat' (first | exact trivial | refine⟨.inl rfl,?_⟩ | refine⟨.inr (.inl rfl),?_⟩ | refine⟨.inr (.inr ⟨_,rfl⟩),?_⟩)) (λ_=>trivial) rfl (by decide +kernel)))),λds Q h=>?_⟩
  obtain⟨y,rfl,hy,q⟩:=h
  walk_at"l3"
  refine Ii (aS y.length) (λ(i:Nat)=>D.tup [.int (i:Int),fX (y.getD i none)]) (λ(i:Nat)=>D.int (i:Int)) (λj=>decide (y[j]?=some none)) (cn4 y) (λa b h=>by injection h with h;simp at h;omega) (λi hi=>?_) (.inr λ_ _ _=>rfl) (by rw[eH,sL];omega) ?_
  ·walk_at"l3"
   rw[z7 (dA.mp hi)]
   refine⟨?_,λ_=>trivial⟩
   cases y.getD i none with
   | none=>rfl
   | some a=>exact(decide_eq_false λz=>by cases z).symm
  ·rw[cG]at q
   exact q
noncomputable abbrev aG4:bh:=λds Q=>∃(y:List (Option Nat)),ds=[.lst false (bZ y)]/\y.length<=1000/\Q (.lst true (aj (bU y)))
theorem aG5(T:Txt K mg t):aM P w K mg base aT 1 t.J8 t.J9 ["signs"] (bq (aG4 )):=by
 refine bA T.Xj aF7 ?_ ?_
 ·intro ds Q h
  obtain⟨y,rfl,hy,q⟩:=h<;>rfl
 ·intro aE A outer s H E hr
  refine⟨_,(aB (aO (fc [] ["sign"] rfl (nh (bv 0)) (λ_ _ _ _=>(dm (i:=0) (show(["sign"]:List Str).Nodup by decide +kernel) rfl (ah (lookup_relabel_local rfl)) (by decide) (bw (lookup_relabel_local rfl)))) (λ_ _ _ _=>eR) (λ_ _ _ _=>(zf (bG uI (bv 0) (ae gu) (bC _)) ak (dF (bv 0)))) rfl trivial (λ_=>by repeat' (first | exact trivial | refine⟨.inl rfl,?_⟩ | refine⟨.inr (.inl rfl),?_⟩ | refine⟨.inr (.inr ⟨_,rfl⟩),?_⟩)) (λ_=>trivial) rfl (by decide +kernel)))),λds Q h=>?_⟩
  obtain⟨y,rfl,hy,q⟩:=h
  walk_at"l3"
  refine gw y fX (λs=>D.int ((s.getD 0:Nat):Int)) (tF y) WC (λs hs=>?_) (.inr λ_ _=>rfl) (by rw[sL];omega) ?_
  ·walk_at"l3"
   cases s with
   | none=>exact rfl
   | some a=>exact⟨rfl,rfl⟩
  ·unfold bU at q
   rw[cG,dh]at q
   exact q
noncomputable abbrev Yd:bh:=λds Q=>∃(d:D) (a b:Nat),ds=[d,.int a,.int b]/\Q (.int (a ^^^ b:Nat))
theorem aN0(T:Txt K mg t):aM P w K mg base aT 1 t.Ka t.Kb ["self","a","b"] (bq (Yd )):=by
 refine bA T.aN8 aM0 ?_ ?_
 ·intro ds Q h
  obtain⟨d,a,b,rfl,q⟩:=h<;>rfl
 ·intro aE A outer s H E hr
  refine⟨_,(aB (aO (aA rP (bv 1) (bv 2)))),λds Q h=>?_⟩
  obtain⟨d,a,b,rfl,q⟩:=h
  walk_at"l3"
  rw[kq];exact q
noncomputable abbrev Ye(K:Frag):bh:=λds Q=>∃(C:Addr) (p:Nat) (a b:Int),ds=[pV C p,.int a,.int b]/\dQ K C/\cq K C "prime"/\0<p/\Q (.int ((a+b)%p))
theorem aJ1(T:Txt K mg t):aM P w K mg base aT 1 t.Kd t.Ke ["self","a","b"] (bq (Ye K)):=by
 refine bA T.aK3 aH2 ?_ ?_
 ·intro ds Q h
  obtain⟨C,p,a,b,rfl,hC,hn,hp,q⟩:=h<;>rfl
 ·intro aE A outer s H E hr
  refine⟨_,(aB (aO (aA cP (ae (aA cu (bv 1) (bv 2))) (i6 (K:=K) (bv 0))))),λds Q h=>?_⟩
  obtain⟨C,p,a,b,rfl,hC,hn,hp,q⟩:=h
  walk_at"l3"
  refine⟨C,_,_,.int p,rfl,hC,hn,rfl,?_⟩
  exact⟨by omega,q⟩
theorem Yf(T:Txt K mg t){m:Bool × Nat}(h0:0<m.2):∃C ns xs sp,fD t.aK t.aN m=.obj C ns xs/\nz P w K mg base 1 "plus" C sp/\("plus":Str) ∉ ns/\∀(a b:Nat) (Q:D->Prop),Q (.int (gp m a b:Nat))->sp [.obj C ns xs,.int a,.int b] Q:=by
 obtain⟨k,n⟩:=m
 cases k with
 | true=>exact⟨_,_,_,Yd,rfl,⟨T.fv,_,_,_,T.Ar,aN0 T,T.aN9⟩,by decide,λa b Q q=>⟨_,a,b,rfl,q⟩⟩
 | false =>
  refine⟨_,_,_,Ye K,rfl,⟨T.fL,_,_,_,T.AF,aJ1 T,T.aK4⟩,by decide,λa b Q q=>⟨_,n,a,b,rfl,T.fL,T.kR,h0,?_⟩⟩
  have e:((gp (false,n) a b:Nat):Int)=((a:Int)+b)%n:=by
   show(((a+b)%n:Nat):Int)=_
   rw[mJ,qG]
  rw[<-e];exact q
noncomputable abbrev Yg(K:Frag):bh:=λds Q=>∃(C:Addr) (p a b:Nat),ds=[sW C p,.int a,.int b]/\dQ K C/\cq K C "products"/\p∈jt/\a<aa (true,p)/\b<aa (true,p)/\Q (.int (gm (true,p) a b:Nat))
theorem aK7(T:Txt K mg t):aM P w K mg base aT 1 t.Kf t.Kg ["self","a","b"] (bq (Yg K)):=by
 refine bA T.aM1 aJ8 ?_ ?_
 ·intro ds Q h
  obtain⟨C,p,a,b,rfl,hC,hn,hp,ha,hb,q⟩:=h<;>rfl
 ·intro aE A outer s H E hr
  refine⟨_,(aB (aO (dF (br (br (i6 (K:=K) (bv 0)) (bv 1) (λ_ _=>rfl)) (bv 2) (λ_ _=>rfl))))),λds Q h=>?_⟩
  obtain⟨C,p,a,b,rfl,hC,hn,hp,ha,hb,q⟩:=h
  walk_at"l3"
  refine⟨C,_,_,_,rfl,hC,hn,rfl,?_⟩
  exact⟨_,CI hp ha,_,CH hp ha hb,rfl,q⟩
noncomputable abbrev Yh(K:Frag):bh:=λds Q=>∃(C:Addr) (p:Nat) (a b:Int),ds=[pV C p,.int a,.int b]/\dQ K C/\cq K C "prime"/\0<p/\IntMulOk a b/\Q (.int (a*b%p))
theorem aG6(T:Txt K mg t):aM P w K mg base aT 1 t.Kh t.Ki ["self","a","b"] (bq (Yh K)):=by
 refine bA T.aH6 aF8 ?_ ?_
 ·intro ds Q h
  obtain⟨C,p,a,b,rfl,hC,hn,hp,hm,q⟩:=h<;>rfl
 ·intro aE A outer s H E hr
  refine⟨_,(aB (aO (aA cP (ae (aA fV (bv 1) (bv 2))) (i6 (K:=K) (bv 0))))),λds Q h=>?_⟩
  obtain⟨C,p,a,b,rfl,hC,hn,hp,hm,q⟩:=h
  walk_at"l3"
  exact⟨hm,C,_,_,.int p,rfl,hC,hn,rfl,by omega,q⟩
theorem Yi(T:Txt K mg t){m:Bool × Nat}(hm:m∈aw){a b:Nat}(ha:a<aa m)(hb:b<aa m){Q:D->Prop}(q:Q (.int (gm m a b:Nat))):HN P w K mg base 1 t.aK t.aN m "times" [.int a,.int b] Q:=by
 have hF:=bO hm
 obtain⟨k,n⟩:=m
 cases k with
 | true=>exact⟨_,_,_,Yg K,rfl,⟨T.fv,_,_,_,T.Au,aK7 T,T.aM2⟩,by decide,_,n,a,b,rfl,T.fv,T.nX,vz hm,ha,hb,q⟩
 | false =>
  have jU:n<=64:=hF.hi
  have Cg:a<n:=ha
  have zG:b<n:=hb
  refine⟨_,_,_,Yh K,rfl,⟨T.fL,_,_,_,T.AH,aG6 T,T.aH7⟩,by decide,_,n,a,b,rfl,T.fL,T.kR,by omega,ik.ok (.inr ⟨by omega,by omega⟩),?_⟩
  have e:((gm (false,n) a b:Nat):Int)=(a:Int)*b%n:=by
   show((a*b%n:Nat):Int)=_
   rw[mJ,yk]
  rw[<-e];exact q
noncomputable abbrev aZ0(cb cp:Addr):bh:=λds Q=>∃(m:Bool × Nat) (l:List Nat) (x:Nat),ds=[fD cb cp m,.lst false (aj l),.int x]/\m∈aw/\(∀a∈l,a<aa m)/\x<aa m/\Q (.int (aG m x l:Nat))
theorem Yj(T:Txt K mg t):aM P w K mg base aT 2 t.Kj t.Kk ["field","a","x"] (bq (aZ0 t.aK t.aN)):=by
 refine bA T.LJ Du ?_ ?_
 ·intro ds Q h
  obtain⟨m,l,x,rfl,hm,ha,hx,q⟩:=h<;>rfl
 ·intro aE A outer s H E hr
  refine⟨_,(az (aI (i:=3) Du.nd rfl (ah rfl) ak)
   (az (e7 dB rfl (b74 rfl T.ek2 (af (bv 1) ao)) (dm (i:=4) Du.nd rfl (ah rfl))
    (aB (aI (i:=3) Du.nd rfl (ah rfl) (g7 (P:=P) (w:=w) (K:=K) (mg:=mg) (base:=base) (n:=1) (bv 0) (hr.mono (by decide)) (af (ae (g7 (P:=P) (w:=w) (K:=K) (mg:=mg) (base:=base) (n:=1) (bv 0) (hr.mono (by decide)) (af (bv 3) (af (bv 2) ao)))) (af (bv 4) ao))))))
   (aB (aO (em 3))))),λds Q h=>?_⟩
  obtain⟨m,l,x,rfl,hm,ha,hx,q⟩:=h
  have m0:=bB m hm
  refine ay λU hU=>?_
  walk_at"l3"
  refine hU _ ?_
  clear hU U
  refine ay λU hU=>?_
  walk_at"l3"
  refine fj.mk (λi δ=>∃o,δ=[some (fD t.aK t.aN m),some (.lst false (aj l)),some (.int x),some (.int (aG m x (l.drop (l.length-i)):Nat)),o]) ⟨none,by rw[Ra,List.drop_length];rfl⟩ ?_ ?_
  ·rintro i d δ hd ⟨o,rfl⟩
   have mf:i<l.length:=by
    have:=(iF.mp hd).1
    rw[Bk,dz]at this;exact this
   obtain⟨hi,rfl⟩:∃hi:l.length-1-i<l.length,d=.int (l[l.length-1-i]:Nat):=by
    refine⟨by omega,?_⟩
    rw[dj5 (by rw[dz];exact mf),cG,cm,bE,aJ (by omega)]at hd
    exact(cQ hd).symm
   have hv:aG m x (l.drop (l.length-i))<aa m:=jv hm x λa h=>ha a (Bg h)
   obtain⟨C,ns,xs,sp,e1,e2,e3,e4⟩:=Yf (P:=P) (w:=w) (base:=base) T m0
   walk_at"l3"
   refine⟨C,ns,xs,sp,e1,e2,e3,Yi T hm hv hx (e4 _ _ _ ⟨rfl,_,?_,rfl⟩)⟩
   have e:l.drop (l.length-(i+1))=l[l.length-1-i]::l.drop (l.length-i):=by
    rw[show l.length-(i+1)=l.length-1-i by omega,Rt hi,show l.length-1-i+1=l.length-i by omega]
   rw[e];rfl
  ·rintro δ ⟨o,rfl⟩
   refine hU _ ?_
   walk_at"l3"
   rw[Bk,dz,Bo,List.drop_zero]
   exact q
noncomputable abbrev aX1(cb cp:Addr):bh:=λds Q=>∃(m:Bool × Nat) (l:List Nat) (a n:Nat),ds=[fD cb cp m,.int a,.int n,.lst false (aj l)]/\m∈aw/\(∀a∈l,a<aa m)/\n<=1000/\Q (.lst true (aj ((aS n).map λ(i:Nat)=>aG m (eS m ((a:Int)+(i:Int))) l)))
theorem aX2(T:Txt K mg t):aM P w K mg base aT 3 t.Kl t.Km ["field","first","extra","word"] (bq (aX1 t.aK t.aN)):=by
 refine bA T.Xm aU9 ?_ ?_
 ·intro ds Q h
  obtain⟨m,l,a,n,rfl,hm,hl,hn,q⟩:=h<;>rfl
 ·intro aE A outer s H E hr
  refine⟨_,(aB (aO (fc [("field",0),("word",3),("first",1)] ["i"] rfl (iX rfl T.fY (af (bv 2) ao)) (λ_ _ _ _=>(dm (i:=3) (show(["field","word","first","i"]:List Str).Nodup by decide +kernel) rfl (ah (lookup_relabel_local rfl)) (by decide) (bw (lookup_relabel_local rfl)))) (λ_ _ _ _=>eR) (λ_ _ _ _=>(aZ ((Yj T).mono (by decide)) hr rfl T.Xk T.LJ.kp T.Xl aR (af (bv 0) (af (bv 1) (af (ae (g7 (P:=P) (w:=w) (K:=K) (mg:=mg) (base:=base) (n:=1) (bv 0) (hr.mono (by decide)) (af (ae (aA cu (bv 2) (bv 3))) ao))) ao))))) rfl ⟨rfl,⟨rfl,⟨rfl,trivial⟩⟩⟩ (λ_=>by repeat' (first | exact trivial | refine⟨.inl rfl,?_⟩ | refine⟨.inr (.inl rfl),?_⟩ | refine⟨.inr (.inr ⟨_,rfl⟩),?_⟩)) (λ_=>⟨⟨rfl,.inl rfl,.inl rfl,_,rfl,rfl⟩,⟨⟨rfl,.inl rfl,.inl rfl,_,rfl,rfl⟩,⟨⟨rfl,.inl rfl,.inl rfl,_,rfl,rfl⟩,trivial⟩⟩⟩) rfl (by decide +kernel)))),λds Q h=>?_⟩
  obtain⟨m,l,a,n,rfl,hm,hl,hn,q⟩:=h
  have m0:=bB m hm
  walk_at"l3"
  refine⟨⟨by omega,by omega⟩,?_⟩
  refine gw (aS n) (λ(i:Nat)=>D.int (i:Int)) (λi=>D.int ((aG m (eS m ((a:Int)+(i:Int))) l:Nat):Int)) ?_ jq (λi hi=>?_) (.inr λ_ _=>rfl) ?_ ?_
  ·rw[oW];simp
  ·walk_at"l3"
   exact DH T hm ⟨m,l,_,rfl,hm,hl,i7 hm _,rfl,rfl⟩
  ·simp[sL];omega
  ·rw[cG,dh]at q
   exact q
noncomputable abbrev a04:bh:=λds Q=>∃l:List Nat,ds=[.lst false (aj l)]/\l.length<=1000/\Q (.lst true (aj (fH l)))
theorem Yk(T:Txt K mg t):aM P w K mg base aT 1 t.Kn t.Ko ["a"] (bq (a04 )):=by
 refine bA T.LK Jd ?_ ?_
 ·intro ds Q h
  obtain⟨l,rfl,hl,q⟩:=h<;>rfl
 ·intro aE A outer s H E hr
  refine⟨_,(az (aI (i:=1) Jd.nd rfl (ah rfl) (ck (de) (by rfl) T.df da (af (bv 0) ao)))
   (az (rz dB (PW.pt (zd (bG rW (bv 1) (ae ak) (bC _)) (yE (bG (eJ (cI hr)) (br (bv 0) (ae (aA dR (bv 1) (ae ak))) (λ_ _=>rfl)) (ae ak) (bC _)))))
    (aB (oU (i:=1) Jd.nd rfl (ah rfl) (ae ak) cQ8)))
   (aB (aO (Hw (bv 0) Hk (Hl (bv 1))))))),λds Q h=>?_⟩
  obtain⟨l,rfl,hl,q⟩:=h
  refine ay λU hU=>?_
  walk_at"l3"
  refine hU _ ?_
  clear hU U
  refine ay λU hU=>?_
  walk_at"l3"
  refine⟨λn δ=>∃k:Nat,δ=[some (.lst false (aj l)),some (.int (k:Nat))]/\k<=l.length/\(∀x∈l.drop k,x=0)/\n=k,⟨l.length,l.length,rfl,bI _,by simp,rfl⟩,?_⟩
  rintro n δ ⟨k,rfl,hk,hz,rfl⟩
  walk_at"l3"
  have fin:(n=0\/l.getD (n-1) 0≠0)->U [some (.lst false (aj l)),some (.int (n:Nat))]:=λh=>by
   refine hU _ ?_
   walk_at"l3"
   rw[HR hk hz h]at q
   rw[show fm l none (some (n:Int))=l.take n from Uo l n]
   exact q
  split
  ·rename_i h1
   refine⟨_,nF (by omega) (by omega),rfl,?_⟩
   rw[i3,show((n:Int)-1).toNat=n-1 by omega]
   by_cases h0:l.getD (n-1) 0=0
   ·rw[if_pos (by rw[h0];rfl)]
    refine⟨n-1,by omega,n-1,by omega,by omega,Vy (by omega) hk hz h0,rfl⟩
   ·rw[if_neg (by simp only[decide_eq_true_eq];omega)]
    exact fin (.inr h0)
  ·rename_i h1
   exact fin (.inl (by omega))
noncomputable abbrev aT5(cb cp:Addr):bh:=λds Q=>∃(m:Bool × Nat) (a b:List Nat),ds=[fD cb cp m,.lst false (aj a),.lst false (aj b)]/\m∈aw/\AllLt (aa m) a/\AllLt (aa m) b/\a.length+b.length<=1000/\Q (.lst true (aj (fI m a b)))
theorem aT6(T:Txt K mg t):aM P w K mg base aT 2 t.Kp t.Kq ["field","a","b"] (bq (aT5 t.aK t.aN)):=by
 refine bA T.Xp Dv ?_ ?_
 ·intro ds Q h
  obtain⟨m,a,b,rfl,hm,ha,hb,hl,q⟩:=h<;>rfl
 ·intro aE A outer s H E hr
  refine⟨_,(az (aI (i:=3) Dv.nd rfl (ah rfl) (aA fV (ae (eI (cX ak dy))) (ae (aA cu (ae (ck (de) (by rfl) T.df da (af (bv 1) ao))) (ae (ck (de) (by rfl) T.df da (af (bv 2) ao)))))))
   (az (e7 dB rfl (nt rfl T.nY (af (bv 1) ao)) (gi (i1:=4) (i2:=5) rfl Dv.nd rfl (ah rfl) rfl (ah rfl))
    (aB (e7 dB rfl (nt rfl T.nY (af (bv 2) ao)) (gi (i1:=6) (i2:=7) rfl Dv.nd rfl (ah rfl) rfl (ah rfl))
     (aB (sE (i:=3) rfl (by first | exact ah rfl | exact bw (ah rfl)) (g7 (P:=P) (w:=w) (K:=K) (mg:=mg) (base:=base) (n:=1) (bv 0) (hr.mono (by decide)) (af (br (bv 3) (ae (aA cu (bv 4) (bv 6))) (λ_ _=>rfl)) (af (ae (g7 (P:=P) (w:=w) (K:=K) (mg:=mg) (base:=base) (n:=1) (bv 0) (hr.mono (by decide)) (af (bv 5) (af (bv 7) ao)))) ao))) (ae (aA cu (bv 4) (bv 6))))))))
   (aB (aO (aZ ((Yk T).mono (by decide)) hr rfl T.Xn T.LK.kp T.Xo aR (af (bv 3) ao)))))),λds Q h=>?_⟩
  obtain⟨m,a,b,rfl,hm,ha,hb,hl,q⟩:=h
  have m0:=bB m hm
  refine ay λU hU=>?_
  walk_at"l3"
  refine⟨by decide,⟨by omega,by omega,by omega⟩,?_⟩
  rw[show aC (aV ((a.length:Int)+(b.length:Int)).toNat 0)=aj (aV (a.length+b.length) 0) by rw[cG,oo];unfold aC;rw[oo];rfl]
  refine hU _ ?_
  clear hU U
  refine ay λU hU=>?_
  walk_at"l3"
  refine fj.mk (λi δ=>∃o4 o5 o6 o7,δ=[some (fD t.aK t.aN m),some (D.lst false (aj a)),some (D.lst false (aj b)),some (D.lst true (aj (gz m b (aV (a.length+b.length) 0) 0 (a.take i)))),o4,o5,o6,o7]) ⟨_,_,_,_,rfl⟩ ?_ ?_
  ·rintro i d δ hd ⟨o4,o5,o6,o7,rfl⟩
   obtain⟨hi,rfl⟩:=zR hd
   clear hd
   generalize hT:gz m b (aV (a.length+b.length) 0) 0 (a.take i)=tt
   have lT:tt.length=a.length+b.length:=by rw[<-hT,CP,ib]
   have bT:AllLt (aa m) tt:=by rw[<-hT];exact CQ hm b _ _ _ (vD hm _)
   walk_at"l3"
   refine fj.mk (λj δ=>∃o6 o7,δ=[some (fD t.aK t.aN m),some (D.lst false (aj a)),some (D.lst false (aj b)),some (D.lst true (aj (eT m a[i] tt i (b.take j)))),some (D.int i),some (D.int (a[i]:Nat)),o6,o7]) ⟨_,_,rfl⟩ ?_ ?_
   ·rintro j d δ hd ⟨o6,o7,rfl⟩
    obtain⟨hj,rfl⟩:=zR hd
    clear hd
    have lP:(eT m a[i] tt i (b.take j)).length=a.length+b.length:=by rw[vB,lT]
    have bP:AllLt (aa m) (eT m a[i] tt i (b.take j)):=vC hm _ _ _ _ bT
    obtain⟨C,ns,xs,sp,e1,e2,e3,e4⟩:=Yf (P:=P) (w:=w) (base:=base) T m0
    walk_at"l3"
    refine⟨C,ns,xs,sp,e1,e2,e3,_,nF (by omega) (by omega),Yi T hm (ha _ (dv _)) (hb _ (dv _)) (e4 _ _ _ ⟨rfl,_,((i:Int)+(j:Int)).toNat,rfl,zQ (by omega) (by rw[dz];omega),_,_,?_,rfl,rfl⟩)⟩
    rw[Vr m _ b tt i hj,CT,show((i:Int)+(j:Int)).toNat=i+j by omega];rfl
   ·rintro δ ⟨o6,o7,rfl⟩
    rw[kI,dz,og,Vt m b a _ 0 hi,hT,Bj]
    exact⟨_,_,_,_,rfl⟩
  ·rintro δ ⟨o4,o5,o6,o7,rfl⟩
   rw[kI,dz,og]
   refine hU _ ?_
   walk_at"l3"
   have:=HW m a b
   exact⟨by4 m a b,rfl,by rw[this];exact hl,by rw[gh,HY];rfl,q⟩
noncomputable abbrev Yl:bh:=λds Q=>∃(d:D) (a b:Nat),ds=[d,.int a,.int b]/\Q (.int (a ^^^ b:Nat))
theorem aK8(T:Txt K mg t):aM P w K mg base aT 1 t.Kr t.Ks ["self","a","b"] (bq (Yl )):=by
 refine bA T.aM3 aJ9 ?_ ?_
 ·intro ds Q h
  obtain⟨d,a,b,rfl,q⟩:=h<;>rfl
 ·intro aE A outer s H E hr
  refine⟨_,(aB (aO (aA rP (bv 1) (bv 2)))),λds Q h=>?_⟩
  obtain⟨d,a,b,rfl,q⟩:=h
  walk_at"l3"
  rw[kq];exact q
noncomputable abbrev at2(K:Frag):bh:=λds Q=>∃(C:Addr) (p:Nat) (a b:Int),ds=[pV C p,.int a,.int b]/\dQ K C/\cq K C "prime"/\0<p/\Q (.int ((a-b)%p))
theorem aG7(T:Txt K mg t):aM P w K mg base aT 1 t.Kt t.Ku ["self","a","b"] (bq (at2 K)):=by
 refine bA T.aH8 aF9 ?_ ?_
 ·intro ds Q h
  obtain⟨C,p,a,b,rfl,hC,hn,hp,q⟩:=h<;>rfl
 ·intro aE A outer s H E hr
  refine⟨_,(aB (aO (aA cP (ae (aA dR (bv 1) (bv 2))) (i6 (K:=K) (bv 0))))),λds Q h=>?_⟩
  obtain⟨C,p,a,b,rfl,hC,hn,hp,q⟩:=h
  walk_at"l3"
  refine⟨C,_,_,.int p,rfl,hC,hn,rfl,?_⟩
  exact⟨by omega,q⟩
theorem L5(T:Txt K mg t){m:Bool × Nat}(h0:0<m.2):∃C ns xs sp,fD t.aK t.aN m=.obj C ns xs/\nz P w K mg base 1 "minus" C sp/\("minus":Str) ∉ ns/\∀(a b:Nat) (Q:D->Prop),Q (.int (gl m a b))->sp [.obj C ns xs,.int a,.int b] Q:=by
 obtain⟨k,n⟩:=m
 cases k with
 | true=>exact⟨_,_,_,Yl,rfl,⟨T.fv,_,_,_,T.Ap,aK8 T,T.aM4⟩,by decide,λa b Q q=>⟨_,a,b,rfl,q⟩⟩
 | false=>exact⟨_,_,_,at2 K,rfl,⟨T.fL,_,_,_,T.AD,aG7 T,T.aH9⟩,by decide,λa b Q q=>⟨_,n,a,b,rfl,T.fL,T.kR,h0,q⟩⟩
theorem cE0(T:Txt K mg t){m:Bool × Nat}(h0:0<m.2){a b:Nat}{Q:D->Prop}(q:Q (.int (gl m a b))):HN P w K mg base 1 t.aK t.aN m "minus" [.int a,.int b] Q :=
 let⟨C,ns,xs,sp,e1,e2,e3,e4⟩:=L5 T h0;⟨C,ns,xs,sp,e1,e2,e3,e4 a b Q q⟩
noncomputable abbrev aP2(cb cp:Addr):bh:=λds Q=>∃(m:Bool × Nat) (ps:List Nat),ds=[fD cb cp m,.lst false (aj ps)]/\m∈aw/\ps.length<=64/\Q (.lst true (aj (dH m ps)))
theorem aP3(T:Txt K mg t):aM P w K mg base aT 3 t.Kv t.Kw ["field","places"] (bq (aP2 t.aK t.aN)):=by
 refine bA T.Xq Dw ?_ ?_
 ·intro ds Q h
  obtain⟨m,ps,rfl,hm,hl,q⟩:=h<;>rfl
 ·intro aE A outer s H E hr
  refine⟨_,(az (aI (i:=2) Dw.nd rfl (ah rfl) (eI (cX ak dy)))
   (az (e7 dB rfl (c08 (dF (bv 1))) (dm (i:=3) Dw.nd rfl (ah rfl))
    (aB (aI (i:=2) Dw.nd rfl (ah rfl) (aZ ((aT6 T).mono (by decide)) hr rfl T.ee1 T.Xp.kp T.ee2 aR (af (bv 0) (af (bv 2) (af (ae (eI (cX ak (cX (g7 (P:=P) (w:=w) (K:=K) (mg:=mg) (base:=base) (n:=1) (bv 0) (hr.mono (by decide)) (af (ae ak) (af (ae (g7 (P:=P) (w:=w) (K:=K) (mg:=mg) (base:=base) (n:=1) (bv 0) (hr.mono (by decide)) (af (bv 3) ao))) ao))) dy)))) ao)))))))
   (aB (aO (em 2))))),λds Q h=>?_⟩
  obtain⟨m,ps,rfl,hm,hl,q⟩:=h
  have m0:=bB m hm
  have cZ:=(bO hm).lo
  refine ay λU hU=>?_
  walk_at"l3"
  refine⟨by decide,hU _ ?_⟩
  clear hU U
  refine ay λU hU=>?_
  walk_at"l3"
  refine fj.mk (λi δ=>∃o3,δ=[some (fD t.aK t.aN m),some (D.lst false (aj ps)),some (D.lst true (aj (dH m (ps.take i)))),o3]) ⟨_,rfl⟩ ?_ ?_
  ·rintro i d δ hd ⟨o3,rfl⟩
   rw[cG,cm]at hd
   obtain⟨p,hp,rfl⟩:=x9.mp hd
   clear hd
   have ga:=eK hm (a:=0) (b:=eS m (p:Int)) (by omega) (i7 hm _)
   obtain⟨C,ns,xs,sp,e1,e2,e3,e4⟩:=L5 (P:=P) (w:=w) (base:=base) T m0
   obtain⟨f1,f2⟩:=vP hm (ps.take i)
   have f3:(ps.take i).length<=64:=by rw[jz];omega
   walk_at"l3"
   refine⟨C,ns,xs,sp,e1,e2,e3,DH T hm (e4 0 (eS m (p:Int)) _ ?_)⟩
   refine⟨rfl,by decide,m,dH m (ps.take i),gK m p,by rw[ga.1];rfl,hm,f1,II hm p,by show _+2<=1000;omega,e8 _,_,?_,rfl⟩
   rw[mI,hp,di8,Di]
  ·rintro δ ⟨o3,rfl⟩
   refine hU _ ?_
   walk_at"l3"
   rw[og]
   exact q
noncomputable abbrev Ym(K:Frag):bh:=λds Q=>∃(C:Addr) (p:Nat) (xs ys:List Nat),ds=[sW C p,.lst false (aj xs),.lst false (aj ys)]/\dQ K C/\cq K C "products"/\p∈jt/\xs.length=ys.length/\xs.length<=64/\(∀x∈xs,x<aa (true,p))/\(∀y∈ys,y<aa (true,p))/\Q (.int ((dZ (gm (true,p)) xs ys).foldl (· ^^^ ·) 0:Nat))
theorem aP4(T:Txt K mg t):aM P w K mg base aT 1 t.Kx t.Ky ["self","xs","ys"] (bq (Ym K)):=by
 refine bA T.aQ5 Ad ?_ ?_
 ·intro ds Q h
  obtain⟨C,p,xs,ys,rfl,hC,hn,hp,hl,mw,hx,hy,q⟩:=h<;>rfl
 ·intro aE A outer s H E hr
  refine⟨_,(az (aI (i:=3) Ad.nd rfl (ah rfl) (dF (i6 (K:=K) (bv 0))))
   (az (aI (i:=4) Ad.nd rfl (ah rfl) ak)
   (az (e7 dB rfl (nr rfl T.mq (af (bv 1) (af (bv 2) ao))) (gi (i1:=5) (i2:=6) rfl Ad.nd rfl (ah rfl) rfl (ah rfl))
    (aB (oU (i:=4) Ad.nd rfl (ah rfl) (br (br (bv 3) (bv 5) (λ_ _=>rfl)) (bv 6) (λ_ _=>rfl)) Ca)))
   (aB (aO (em 4)))))),λds Q h=>?_⟩
  obtain⟨C,p,xs,ys,rfl,hC,hn,hp,hl,mw,hx,hy,q⟩:=h
  refine ay λU hU=>?_
  walk_at"l3"
  refine⟨C,_,_,_,rfl,hC,hn,rfl,by rw[gr,cb1];rfl,hU _ ?_⟩
  clear hU U
  refine ay λU hU=>?_
  walk_at"l3"
  refine hU _ ?_
  clear hU U
  refine ay λU hU=>?_
  walk_at"l3"
  refine⟨_,_,rfl,rfl,?_⟩
  refine fj.mk (λi δ=>∃o1 o2,δ=[some (sW C p),some (.lst false (aj xs)),some (.lst false (aj ys)),some (.lst false (nC (fl (true,p)) (eC (fl (true,p))))),some (.int (((dZ (gm (true,p)) xs ys).take i).foldl (· ^^^ ·) 0:Nat)),o1,o2]) ⟨none,none,rfl⟩ ?_ ?_
  ·rintro i d δ hd ⟨o1,o2,rfl⟩
   obtain⟨hi,hj,rfl⟩:∃(hi:i<xs.length) (hj:i<ys.length),d=.tup [.int (xs[i]:Nat),.int (ys[i]:Nat)]:=by
    unfold dq at hd
    rw[cG,cG,yc]at hd
    by_cases hi:i<xs.length
    ·have hj:i<ys.length:=by omega
     rw[mK,aJ hi,aJ hj]at hd
     exact⟨hi,hj,(cQ hd).symm⟩
    ·rw[ja (by simp;omega)]at hd;cases hd
   have ft:=hx xs[i] (dv _)
   have L0:=hy ys[i] (dv _)
   walk_at"l3"
   refine⟨_,CI hp ft,_,CH hp ft L0,_,_,?_,rfl,rfl⟩
   rw[kq,List.take_succ,Bp,mK,aJ hi,aJ hj];rfl
  ·rintro δ ⟨o1,o2,rfl⟩
   refine hU _ ?_
   walk_at"l3"
   have e:(dq (aj xs) (aj ys)).length=xs.length:=by unfold dq;rw[jY,dz,dz];omega
   rw[e,x6 (by rw[jY];omega)]
   exact q
noncomputable abbrev Yn(K:Frag):bh:=λds Q=>∃(C:Addr) (p:Nat) (xs ys:List Int),ds=[pV C p,.lst false (aC xs),.lst false (aC ys)]/\dQ K C/\cq K C "prime"/\0<p/\xs.length=ys.length/\xs.length<=64/\(∀x∈xs,0<=x/\x<64)/\(∀y∈ys,0<=y/\y<64)/\Q (.int ((dZ (· * ·) xs ys).sum%p))
theorem aK9(T:Txt K mg t):aM P w K mg base aT 1 t.Kz t.KA ["self","xs","ys"] (bq (Yn K)):=by
 refine bA T.aM5 aK0 ?_ ?_
 ·intro ds Q h
  obtain⟨C,p,xs,ys,rfl,hC,hn,hp,hl,mw,hx,hy,q⟩:=h<;>rfl
 ·intro aE A outer s H E hr
  refine⟨_,(aB (aO (aA cP (ae (ck (Ua rfl) (by rfl) T.XW SV (af (ae (fc [] ["x","y"] rfl (nr rfl T.mq (af (bv 1) (af (bv 2) ao))) (λ_ _ _ _=>(gi (i1:=0) (i2:=1) rfl (show(["x","y"]:List Str).Nodup by decide +kernel) rfl (ah (lookup_relabel_local rfl)) rfl (ah (lookup_relabel_local rfl)) (by decide) (by decide) (bw (lookup_relabel_local rfl)) (bw (lookup_relabel_local rfl)))) (λ_ _ _ _=>eR) (λ_ _ _ _=>(aA fV (bv 0) (bv 1))) rfl trivial (λ_=>by repeat' (first | exact trivial | refine⟨.inl rfl,?_⟩ | refine⟨.inr (.inl rfl),?_⟩ | refine⟨.inr (.inr ⟨_,rfl⟩),?_⟩)) (λ_=>trivial) rfl (by decide +kernel))) ao))) (i6 (K:=K) (bv 0))))),λds Q h=>?_⟩
  obtain⟨C,p,xs,ys,rfl,hC,hn,hp,hl,mw,hx,hy,q⟩:=h
  walk_at"l3"
  refine⟨_,_,rfl,rfl,?_⟩
  refine CJ (xs.zip ys) (λz=>D.tup [.int z.1,.int z.2]) (λz=>D.int (z.1*z.2)) (Vf xs ys) (λa b h=>by injection h with h;simp at h;exact Bl h.1 h.2) (λz hz=>?_) CK (.inr λ_ _=>rfl) (by rw[t8,sL];omega) ?_
  ·have z1:=hx z.1 (qq hz).1
   have z2:=hy z.2 (qq hz).2
   walk_at"l3"
   exact ik.ok (.inr ⟨by omega,by omega⟩)
  ·refine⟨(xs.zip ys).map λz=>z.1*z.2,?_,?_⟩
   ·unfold aC;rw[dh];rfl
   ·walk_at"l3"
    refine⟨C,_,_,.int p,rfl,hC,hn,rfl,?_⟩
    refine⟨by omega,?_⟩
    rw[List.map_zip_eq_zipWith]
    exact q
theorem cX1(T:Txt K mg t){m:Bool × Nat}(hm:m∈aw):∃C ns zs sp,fD t.aK t.aN m=.obj C ns zs/\nz P w K mg base 1 "dot" C sp/\("dot":Str) ∉ ns/\∀(xs ys:List Nat) (Q:D->Prop),xs.length=ys.length->xs.length<=64->(∀x∈xs,x<aa m)->(∀y∈ys,y<aa m)->Q (.int (gd m xs ys:Nat))->sp [.obj C ns zs,.lst false (aj xs),.lst false (aj ys)] Q:=by
 have hF:=bO hm
 obtain⟨k,n⟩:=m
 cases k with
 | true=>exact⟨_,_,_,Ym K,rfl,⟨T.fv,_,_,_,T.An,aP4 T,T.aQ6⟩,by decide,λxs ys Q hl mw hx hy q=>⟨_,n,xs,ys,rfl,T.fv,T.nX,vz hm,hl,mw,hx,hy,q⟩⟩
 | false =>
  have jU:n<=64:=hF.hi
  have l2:2<=n:=hF.lo
  have cx:∀l:List Nat,(∀x∈l,x<aa (false,n))->∀z∈l.map (λ(n:Nat)=>(n:Int)),0<=z/\z<64:=λl h z hz=>by
   obtain⟨x,hx,rfl⟩:=cH.mp hz
   have:x<n:=h x hx
   omega
  refine⟨_,_,_,Yn K,rfl,⟨T.fL,_,_,_,T.AA,aK9 T,T.aM6⟩,by decide,λxs ys Q hl mw hx hy q=>⟨_,n,xs.map (λ(n:Nat)=>(n:Int)),ys.map (λ(n:Nat)=>(n:Int)),rfl,T.fL,T.kR,by omega,by rw[bE,bE];exact hl,by rw[bE];exact mw,cx xs hx,cx ys hy,?_⟩⟩
  have e:((gd (false,n) xs ys:Nat):Int)=(dZ (· * ·) (xs.map λ(n:Nat)=>(n:Int)) (ys.map λ(n:Nat)=>(n:Int))).sum%n:=by
   unfold gd
   rw[Vk (by omega) _ _ (by omega),Bj,Vl,CM,mJ]
  rw[<-e];exact q
noncomputable abbrev a69(cb cp:Addr):bh:=λds Q=>∃(m:Bool × Nat) (row c:List Nat) (p:Nat),ds=[fD cb cp m,.lst false (aj row),.lst false (aj c),.int p]/\m∈aw/\AllLt (aa m) row/\AllLt (aa m) c/\c.length<=64/\c.length<=p+1/\p<row.length/\Q (.int (jS m row c p:Nat))
theorem Yo(T:Txt K mg t):aM P w K mg base aT 2 t.KC t.KD ["field","row","c","place"] (bq (a69 t.aK t.aN)):=by
 refine bA T.LL a08 ?_ ?_
 ·intro ds Q h
  obtain⟨m,row,c,p,rfl,hm,hr,hc,mw,hp,bL,q⟩:=h<;>rfl
 ·intro aE A outer s H E hr
  refine⟨_,(aB (aO (g7 (P:=P) (w:=w) (K:=K) (mg:=mg) (base:=base) (n:=1) (bv 0) (hr.mono (by decide)) (af (bv 2) (af (ae (fc [("row",1),("place",3)] ["j"] rfl (iX rfl T.fY (af (ae (ck (de) (by rfl) T.df da (af (bv 2) ao))) ao)) (λ_ _ _ _=>(dm (i:=2) (show(["row","place","j"]:List Str).Nodup by decide +kernel) rfl (ah (lookup_relabel_local rfl)) (by decide) (bw (lookup_relabel_local rfl)))) (λ_ _ _ _=>eR) (λ_ _ _ _=>(dF (br (bv 0) (ae (aA dR (bv 1) (bv 2))) (λ_ _=>rfl)))) rfl ⟨rfl,⟨rfl,trivial⟩⟩ (λ_=>by repeat' (first | exact trivial | refine⟨.inl rfl,?_⟩ | refine⟨.inr (.inl rfl),?_⟩ | refine⟨.inr (.inr ⟨_,rfl⟩),?_⟩)) (λ_=>⟨⟨rfl,.inl rfl,.inl rfl,_,rfl,rfl⟩,⟨⟨rfl,.inl rfl,.inl rfl,_,rfl,rfl⟩,trivial⟩⟩) rfl (by decide +kernel))) ao))))),λds Q h=>?_⟩
  obtain⟨m,row,c,p,rfl,hm,hr,hc,mw,hp,bL,q⟩:=h
  have cZ:=(bO hm).lo
  obtain⟨C,ns,xs,sp,e1,e2,e3,e4⟩:=cX1 (P:=P) (w:=w) (base:=base) T hm
  walk_at"l3"
  refine⟨C,ns,xs,sp,e1,e2,e3,⟨by omega,by omega⟩,?_⟩
  refine gw (aS c.length) (λ(i:Nat)=>D.int (i:Int)) (λj=>D.int ((row.getD (p-j) 0:Nat):Int)) (vE _ rfl) jq (λj hj=>?_) (.inr λ_ _=>rfl) (by rw[eH,sL];omega) ?_
  ·have hj:=dA.mp hj
   walk_at"l3"
   refine⟨_,nF (by omega) (by omega),?_⟩
   rw[show((p:Int)-(j:Int)).toNat=p-j by omega]
   exact⟨rfl,rfl⟩
  ·rw[show((aS c.length).map λj=>D.int ((row.getD (p-j) 0:Nat):Int))=aj ((aS c.length).map λj=>row.getD (p-j) 0) by rw[cG,dh];rfl]
   rw[vF]
   refine e4 _ _ _ (by simp) mw hc (λy hy=>?_) ⟨by rw[pB,jb],q⟩
   obtain⟨j,_,rfl⟩:=cH.mp hy
   exact hr.getD (by omega) _
noncomputable def L6(a:List Int)(n:Int):List Int:=a++aV (n-a.length).toNat 0
theorem L7(l:List Nat)(n:Nat):aC (L6 (l.map λ(k:Nat)=>(k:Int)) (n:Int))=aj (nG l n):=by
 unfold aj L6 nG
 rw[jW,oo,bE]
 congr 3
 omega
noncomputable abbrev a70:bh:=λds Q=>∃(a:List Int) (n:Int),ds=[.lst false (aC a),.int n]/\a.length<=100000/\0<=n/\n<=100000/\Q (.lst true (aC (L6 a n)))
theorem L8(T:Txt K mg t):aM P w K mg base aT 1 t.KG t.KH ["a","length"] (bq (a70 )):=by
 refine bA T.DD a09 ?_ ?_
 ·intro ds Q h
  obtain⟨a,n,rfl,h1,h2,h3,q⟩:=h<;>rfl
 ·intro aE A outer s H E hr
  refine⟨_,(aB (aO (aA cu (bv 0) (ae (aA fV (ae (eI (cX ak dy))) (ae (aA dR (bv 1) (ae (ck (de) (by rfl) T.df da (af (bv 0) ao)))))))))),λds Q h=>?_⟩
  obtain⟨a,n,rfl,h1,h2,h3,q⟩:=h
  simp only[rk,oS,rm,rn,dT,lR,m6,m8,dC,oJ,oQ,oN,oM,oO,rj,nk,sj,pz,sk,sq,q0,q5,q8,q9,rf,rh,oK,r9,pe,pf,ii,oY,rH,oZ,rJ,rK,rL,rM,rN,rO,iI,gv,rQ,rR,rS,rT,o8,o9,lX,rZ,r6,gN,sr,si,rp,rA,rB,rC,rD,rE,su,sD,sF,oX,jP,fU,iY,iB,qC,qv,yo,yp,oR,jO,iA,pk,pq,pH,sJ,sM,sN,vi,kH,sQ,pK,sO,jo,vm,vj,vk,dP,kU,qF,mC,dO,yq,aV,ub,ud,jD,jE,ue,exists_eq_left',exists_eq_left,D.bl.injEq,D.int.injEq,D.lst.injEq,D.fz.injEq,D.str.injEq,D.tup.injEq,uf,and_true,true_and,eN,oi,jA,mG,uN,uO,uP,uQ,uR,uS,gr,ku,kF,uW,uX,uY,uZ,u3,fh,ky,pB,uT,uU,uV,gh,m4,yr,yt,tR,jb,yu,yv,tW,u7,u9,va,vb,vd,ve,vf,kG,lZ,pE,jn,pF,u5,sI,u4,pG,u6,sG,i3,sH,if_true,yw,if_false,reduceIte,vg,decide_eq_true_eq,dz,kJ,nu,vp,mh,vo,rq,sT,pX,sP,pP,pQ,sV,sZ,vG,p5,s8,jx,vM,nH,vN,tE,sL,ib]
  exact⟨by omega,⟨by omega,by omega,by omega⟩,by omega,q⟩
noncomputable abbrev aT7(cb cp:Addr):bh:=λds Q=>∃(m:Bool × Nat) (a b:List Nat),ds=[fD cb cp m,.lst false (aj a),.lst false (aj b)]/\m∈aw/\AllLt (aa m) a/\AllLt (aa m) b/\a.length<=500/\b.length<=500/\Q (.lst true (aj (fH (kK (bg m) a b))))
theorem aT8(T:Txt K mg t):aM P w K mg base aT 2 t.KI t.KJ ["field","a","b"] (bq (aT7 t.aK t.aN)):=by
 refine bA T.Xt WI ?_ ?_
 ·intro ds Q h
  obtain⟨m,a,b,rfl,hm,ha,hb,hl,ur,q⟩:=h<;>rfl
 ·intro aE A outer s H E hr
  refine⟨_,(az (aI (i:=3) WI.nd rfl (ah rfl) (ck (c02 rfl) (by rfl) T.ek1 cR5 (af (ae (ck (de) (by rfl) T.df da (af (bv 1) ao))) (af (ae (ck (de) (by rfl) T.df da (af (bv 2) ao))) ao))))
   (aB (aO (aZ ((Yk T).mono (by decide)) hr rfl T.Xn T.LK.kp T.Xo aR (af (ae (fc [("field",0)] ["x","y"] rfl (nr rfl T.mq (af (ae (aZ ((L8 T).mono (by decide)) hr rfl T.LM T.DD.kp T.LN aR (af (bv 1) (af (bv 3) ao)))) (af (ae (aZ ((L8 T).mono (by decide)) hr rfl T.LM T.DD.kp T.LN aR (af (bv 2) (af (bv 3) ao)))) ao))) (λ_ _ _ _=>(gi (i1:=1) (i2:=2) rfl (show(["field","x","y"]:List Str).Nodup by decide +kernel) rfl (ah (lookup_relabel_local rfl)) rfl (ah (lookup_relabel_local rfl)) (by decide) (by decide) (bw (lookup_relabel_local rfl)) (bw (lookup_relabel_local rfl)))) (λ_ _ _ _=>eR) (λ_ _ _ _=>(g7 (P:=P) (w:=w) (K:=K) (mg:=mg) (base:=base) (n:=1) (bv 0) (hr.mono (by decide)) (af (bv 1) (af (bv 2) ao)))) rfl ⟨rfl,trivial⟩ (λ_=>by repeat' (first | exact trivial | refine⟨.inl rfl,?_⟩ | refine⟨.inr (.inl rfl),?_⟩ | refine⟨.inr (.inr ⟨_,rfl⟩),?_⟩)) (λ_=>⟨⟨rfl,.inl rfl,.inl rfl,_,rfl,rfl⟩,trivial⟩) rfl (by decide +kernel))) ao))))),λds Q h=>?_⟩
  obtain⟨m,a,b,rfl,hm,ha,hb,hl,ur,q⟩:=h
  have m0:=bB m hm
  refine ay λU hU=>?_
  walk_at"l3"
  rw[show(if(b.length:Int)>(a.length:Int)then(b.length:Int)else(a.length:Int))=((max a.length b.length:Nat):Int) by split<;>omega]
  refine hU _ ?_
  clear hU U
  walk_at"l3"
  refine⟨_,_,rfl,by rw[bE];omega,by omega,by omega,_,_,rfl,by rw[bE];omega,by omega,by omega,?_⟩
  rw[L7,L7]
  refine⟨_,_,rfl,rfl,?_⟩
  have lA:=vH (Rw a.length b.length)
  refine HZ (bg m) (λx hx y hy=>?_) (by omega) ?_
  ·walk_at"l3"
   have g:=eK hm (zS hm ha _ x hx) (zS hm hb _ y hy)
   refine cE0 T m0 ?_
   rw[g.1]
  ·refine⟨kK (bg m) a b,by rw[vF];rfl,by rw[VA];omega,by rw[e8,jb],q⟩
noncomputable abbrev Yp(K:Frag):bh:=λds Q=>∃(C:Addr) (p a:Nat) (xs:List Nat),ds=[sW C p,.int a,.lst false (aj xs)]/\dQ K C/\cq K C "products"/\p∈jt/\a<aa (true,p)/\(∀y∈xs,y<aa (true,p))/\xs.length<=1000/\Q (.lst true (aj (xs.map (gm (true,p) a))))
theorem aJ3(T:Txt K mg t):aM P w K mg base aT 1 t.KL t.KN ["self","a","row"] (bq (Yp K)):=by
 refine bA T.aK5 WJ ?_ ?_
 ·intro ds Q h
  obtain⟨C,p,a,xs,rfl,hC,hn,hp,ha,hy,hl,q⟩:=h<;>rfl
 ·intro aE A outer s H E hr
  refine⟨_,(az (aI (i:=3) WJ.nd rfl (bw rfl) (dF (br (i6 (K:=K) (bv 0)) (bv 1) (λ_ _=>rfl))))
   (aB (aO (fc [("by_a",3)] ["x"] rfl (nh (bv 2)) (λ_ _ _ _=>(dm (i:=1) (show(["by_a","x"]:List Str).Nodup by decide +kernel) rfl (ah (lookup_relabel_local rfl)) (by decide) (bw (lookup_relabel_local rfl)))) (λ_ _ _ _=>eR) (λ_ _ _ _=>(dF (br (bv 0) (bv 1) (λ_ _=>rfl)))) rfl ⟨rfl,trivial⟩ (λ_=>by repeat' (first | exact trivial | refine⟨.inl rfl,?_⟩ | refine⟨.inr (.inl rfl),?_⟩ | refine⟨.inr (.inr ⟨_,rfl⟩),?_⟩)) (λ_=>⟨⟨rfl,.inl rfl,.inl rfl,_,rfl,rfl⟩,trivial⟩) rfl (by decide +kernel))))),λds Q h=>?_⟩
  obtain⟨C,p,a,xs,rfl,hC,hn,hp,ha,hy,hl,q⟩:=h
  refine ay λU hU=>?_
  walk_at"l3"
  refine⟨C,_,_,_,rfl,hC,hn,rfl,_,CI hp ha,?_⟩
  refine⟨by rw[gr,lZ];rfl,hU _ ?_⟩
  clear hU U
  walk_at"l3"
  refine gw xs (λ(i:Nat)=>D.int (i:Int)) (λx=>D.int ((gm (true,p) a x:Nat):Int)) (sR xs) jq (λx hx=>?_) (.inr λ_ _=>rfl) (by rw[sL];omega) ?_
  ·walk_at"l3"
   exact⟨_,CH hp ha (hy x hx),rfl,rfl⟩
  ·rw[cG,dh]at q
   exact q
noncomputable abbrev Yq(K:Frag):bh:=λds Q=>∃(C:Addr) (p a:Nat) (xs:List Nat),ds=[pV C p,.int a,.lst false (aj xs)]/\dQ K C/\cq K C "prime"/\0<p/\a<64/\(∀y∈xs,y<64)/\xs.length<=1000/\Q (.lst true (aj (xs.map (gm (false,p) a))))
theorem aE4(T:Txt K mg t):aM P w K mg base aT 1 t.KO t.KP ["self","a","row"] (bq (Yq K)):=by
 refine bA T.aG0 WK ?_ ?_
 ·intro ds Q h
  obtain⟨C,p,a,xs,rfl,hC,hn,hp,ha,hy,hl,q⟩:=h<;>rfl
 ·intro aE A outer s H E hr
  refine⟨_,(az (aI (i:=3) WK.nd rfl (bw rfl) (dF (i6 (K:=K) (bv 0))))
   (aB (aO (fc [("prime",3),("a",1)] ["x"] rfl (nh (bv 2)) (λ_ _ _ _=>(dm (i:=2) (show(["prime","a","x"]:List Str).Nodup by decide +kernel) rfl (ah (lookup_relabel_local rfl)) (by decide) (bw (lookup_relabel_local rfl)))) (λ_ _ _ _=>eR) (λ_ _ _ _=>(aA cP (ae (aA fV (bv 1) (bv 2))) (bv 0))) rfl ⟨rfl,⟨rfl,trivial⟩⟩ (λ_=>by repeat' (first | exact trivial | refine⟨.inl rfl,?_⟩ | refine⟨.inr (.inl rfl),?_⟩ | refine⟨.inr (.inr ⟨_,rfl⟩),?_⟩)) (λ_=>⟨⟨rfl,.inl rfl,.inl rfl,_,rfl,rfl⟩,⟨⟨rfl,.inl rfl,.inl rfl,_,rfl,rfl⟩,trivial⟩⟩) rfl (by decide +kernel))))),λds Q h=>?_⟩
  obtain⟨C,p,a,xs,rfl,hC,hn,hp,ha,hy,hl,q⟩:=h
  refine ay λU hU=>?_
  walk_at"l3"
  refine⟨C,_,_,.int p,rfl,hC,hn,rfl,rfl,hU _ ?_⟩
  clear hU U
  walk_at"l3"
  refine gw xs (λ(i:Nat)=>D.int (i:Int)) (λx=>D.int ((gm (false,p) a x:Nat):Int)) (sR xs) jq (λx hx=>?_) (.inr λ_ _=>rfl) (by rw[sL];omega) ?_
  ·have h2:=hy x hx
   walk_at"l3"
   refine⟨ik.ok (.inr ⟨by omega,by omega⟩),by omega,?_⟩
   show _=((a*x%p:Nat):Int)
   rw[mJ,yk]
  ·rw[cG,dh]at q
   exact q
theorem Yr(T:Txt K mg t){m:Bool × Nat}(hm:m∈aw):∃C ns zs sp,fD t.aK t.aN m=.obj C ns zs/\nz P w K mg base 1 "scaled" C sp/\("scaled":Str) ∉ ns/\∀(xs:List Nat) (a:Nat) (Q:D->Prop),a<aa m->(∀y∈xs,y<aa m)->xs.length<=1000->Q (.lst true (aj (xs.map (gm m a))))->sp [.obj C ns zs,.int a,.lst false (aj xs)] Q:=by
 have hF:=bO hm
 obtain⟨k,n⟩:=m
 cases k with
 | true=>exact⟨_,_,_,Yp K,rfl,⟨T.fv,_,_,_,T.As,aJ3 T,T.aK6⟩,by decide,λxs a Q ha hy hl q=>⟨_,n,a,xs,rfl,T.fv,T.nX,vz hm,ha,hy,hl,q⟩⟩
 | false =>
  have jU:n<=64:=hF.hi
  have l2:2<=n:=hF.lo
  exact⟨_,_,_,Yq K,rfl,⟨T.fL,_,_,_,T.AG,aE4 T,T.aG1⟩,by decide,λxs a Q ha hy hl q=>⟨_,n,a,xs,rfl,T.fL,T.kR,by omega,cT (show a<n from ha) jU,λy h=>cT (show y<n from hy y h) jU,hl,q⟩⟩
noncomputable abbrev Ys(t:km)(P:Program)(w:World)(K:Frag)(mg:Str->Option Value)(base:Heap):pI:=λds Q Ex=>∃(m:Bool × Nat) (a b:Nat),ds=[fD t.aK t.aN m,.int a,.int b]/\m∈aw/\a<aa m/\b<aa m/\(b=0->Ex t.hW)/\(b≠0->∀r:Nat,r<aa m->gm m r b=a->Q (.int (r:Nat)))
theorem Yt(T:Txt K mg t):aM P w K mg base (mZ P w) 2 t.Dz t.KQ ["self","a","b"] (zx (Ys t P w K mg base)):=by
 refine Uc T.aV4 aS2 ?_ ?_
 ·intro ds Q Ex h
  obtain⟨m,a,b,rfl,hm,ha,hb,qx,q⟩:=h<;>rfl
 ·intro aE A outer s H E hr
  refine⟨_,(az (cj (bG (eJ (cI hr)) (bv 2) (ae ak) (bC _)) (aB (Uh T.XX rfl (by rfl) (af (ae To) ao))) cF)
   (az (cj (bG (eJ (cI hr)) (bv 1) (ae ak) (bC _)) (aB (aO ak)) cF)
   (aB (aO (g7 (P:=P) (w:=w) (K:=K) (mg:=mg) (base:=base) (n:=1) (bv 0) (hr.mono (by decide)) (af (ae (aA dR (br (i6 (K:=K) (bv 0)) (bv 1) (λ_ _=>rfl)) (br (i6 (K:=K) (bv 0)) (bv 2) (λ_ _=>rfl)))) ao)))))),λds Q Ex h=>?_⟩
  obtain⟨m,a,b,rfl,hm,ha,hb,qx,q⟩:=h
  refine ay λU hU=>?_
  walk_at"l3"
  split
  ·rename_i h0
   exact⟨by decide,qx (by omega)⟩
  ·rename_i h0
   have b0:b≠0:=by omega
   refine hU _ ?_
   clear hU U
   refine ay λU hU=>?_
   walk_at"l3"
   split
   ·rename_i h1
    have a0:a=0:=by omega
    subst a0
    exact q b0 0 ha (dM m b (bB m hm))
   ·rename_i h1
    have a0:a≠0:=by omega
    refine hU _ ?_
    clear hU U
    have hF:=bO hm
    obtain⟨r,e,De,hr2⟩:=Vh hm (show 1<=a by omega) ha (show 1<=b by omega) hb
    have qr:=q b0 r De hr2
    obtain⟨k,n⟩:=m
    cases k with
    | true =>
     walk_at"l3"
     have ll:(eC (fl (true,n))).length=aa (true,n):=(zJ _ _).trans hF.len
     have n0:=gR (lg (true,n) a-lg (true,n) b) (show(aa (true,n):Int)-1≠0 by have:=hF.lo;omega)
     have n1:=jC (lg (true,n) a-lg (true,n) b) (show(0:Int)<(aa (true,n):Int)-1 by have:=hF.lo;omega)
     refine⟨_,_,_,AM K,rfl,⟨T.fv,_,_,_,T.tI,AN T,T.Ah⟩,by decide,_,_,_,_,rfl,T.fv,T.qh,rfl,_,me (by omega) (by rw[ll];omega),_,_,_,_,rfl,T.fv,T.qh,rfl,_,me (by omega) (by rw[ll];omega),?_⟩
     refine⟨_,_,_,_,aa (true,n),fl (true,n),r,rfl,T.fv,T.qi,T.tH,rfl,rfl,hF.lo,?_,qr⟩
     have hk:((lg (true,n) a-lg (true,n) b)%((aa (true,n):Int)-1)).toNat<(fl (true,n)).length:=by have:=hF.len;omega
     show(fl (true,n))[((lg (true,n) a-lg (true,n) b)%((aa (true,n):Int)-1)).toNat]?=some (r:Int)
     rw[<-e]
     unfold pw
     rw[aL,aJ hk];rfl
    | false =>
     walk_at"l3"
     have ll:(eC (fl (false,n))).length=aa (false,n):=(zJ _ _).trans hF.len
     have n0:=gR (lg (false,n) a-lg (false,n) b) (show(aa (false,n):Int)-1≠0 by have:=hF.lo;omega)
     have n1:=jC (lg (false,n) a-lg (false,n) b) (show(0:Int)<(aa (false,n):Int)-1 by have:=hF.lo;omega)
     refine⟨_,_,_,AM K,rfl,⟨T.fL,_,_,_,T.tM,AN T,T.Ah⟩,by decide,_,_,_,_,rfl,T.fL,T.tJ,rfl,_,me (by omega) (by rw[ll];omega),_,_,_,_,rfl,T.fL,T.tJ,rfl,_,me (by omega) (by rw[ll];omega),?_⟩
     refine⟨_,_,_,_,aa (false,n),fl (false,n),r,rfl,T.fL,T.tL,T.tK,rfl,rfl,hF.lo,?_,qr⟩
     have hk:((lg (false,n) a-lg (false,n) b)%((aa (false,n):Int)-1)).toNat<(fl (false,n)).length:=by have:=hF.len;omega
     show(fl (false,n))[((lg (false,n) a-lg (false,n) b)%((aa (false,n):Int)-1)).toNat]?=some (r:Int)
     rw[<-e]
     unfold pw
     rw[aL,aJ hk];rfl
theorem Yu(T:Txt K mg t)(m:Bool × Nat):CL P w K mg base 2 "over" (if m.1 then t.aK else t.aN) (Ys t P w K mg base):=by
 obtain⟨k,n⟩:=m
 cases k with
 | true=>exact⟨T.fv,_,_,_,T.Aq,Yt T,T.Xu⟩
 | false=>exact⟨T.fL,_,_,_,T.AE,Yt T,T.Xu⟩
noncomputable abbrev aZ1(t:km)(P:Program)(w:World)(K:Frag)(mg:Str->Option Value)(base:Heap):bh:=λds Q=>∃(m:Bool × Nat) (row:List Nat),ds=[fD t.aK t.aN m,.lst false (aj row)]/\m∈aw/\AllLt (aa m) row/\row.length<=63/\∀(L:Nat) (c:List Nat) (b:Nat->Nat) (o:Nat),BI (aa m) (gp m) (gm m) (cf row) row.length L (cf c) b o->o≠0->o<aa m->c.length=L+1->AllLt (aa m) c->Q (.tup [.int L,.lst true (aj c)])
theorem aZ2(T:Txt K mg t):aM P w K mg base aT 3 t.KR t.KS ["field","row"] (bq (aZ1 t P w K mg base)):=by
 refine bA T.Xv hV ?_ ?_
 ·intro ds Q h
  obtain⟨m,row,rfl,hm,hr,hl,q⟩:=h<;>rfl
 ·intro aE A outer s H E hr
  refine⟨_,(az (aI (i:=2) hV.nd rfl (ah rfl) ak)
   (az (aI (i:=3) hV.nd rfl (ah rfl) (eI (cX ak dy)))
   (az (aI (i:=4) hV.nd rfl (ah rfl) (eI (cX ak dy)))
   (az (aI (i:=5) hV.nd rfl (ah rfl) ak)
   (az (aI (i:=6) hV.nd rfl (ah rfl) ak)
   (az (e7 dB rfl (iX rfl T.fY (af (ae (ck (de) (by rfl) T.df da (af (bv 1) ao))) ao)) (dm (i:=7) hV.nd rfl (ah rfl))
    (az (aI (i:=8) hV.nd rfl (ah rfl) (aZ ((Yo T).mono (by decide)) hr rfl T.Xr T.LL.kp T.Xs aR (af (bv 0) (af (bv 1) (af (bv 3) (af (bv 7) ao))))))
    (aB (cj (bG (eJ (cI hr)) (bv 8) (ae ak) (bC _)) (aB (oU (i:=6) hV.nd rfl (ah rfl) (ae ak) G7)) (az (aI (i:=9) hV.nd rfl (ah rfl) (aZ ((aT8 T).mono (by decide)) hr rfl T.ef3 T.Xt.kp T.ef4 aR (af (bv 0) (af (bv 3) (af (ae (aA cu (ae (aA fV (ae (eI (cX ak dy))) (bv 6))) (ae (g7 (P:=P) (w:=w) (K:=K) (mg:=mg) (base:=base) (n:=1) (bv 0) (hr.mono (by decide)) (af (ae (Vi (P:=P) (w:=w) (K:=K) (mg:=mg) (base:=base) (n:=2) (bv 0) (hr.mono (by decide)) (af (bv 8) (af (bv 5) ao)))) (af (bv 4) ao)))))) ao)))))
     (az (cj (bG rV (ae (aA fV (ae ak) (bv 2))) (bv 7) (bC _)) (az (aI (i:=2) hV.nd rfl (ah rfl) (aA dR (ae (aA cu (bv 7) (ae ak))) (bv 2)))
      (az (aI (i:=4) hV.nd rfl (ah rfl) (em 3))
      (az (aI (i:=5) hV.nd rfl (ah rfl) (em 8))
      (aB (aI (i:=6) hV.nd rfl (ah rfl) ak))))) (aB (oU (i:=6) hV.nd rfl (ah rfl) (ae ak) G7)))
     (aB (aI (i:=3) hV.nd rfl (ah rfl) (em 9)))))))))
   (aB (aO (zh (cX (dF (bv 2)) (cX (aZ ((L8 T).mono (by decide)) hr rfl T.LM T.DD.kp T.LN aR (af (bv 3) (af (ae (aA cu (bv 2) (ae ak))) ao))) dy))))))))))),λds Q h=>?_⟩
  obtain⟨m,row,rfl,hm,hr,hl,q⟩:=h
  have m0:=bB m hm
  have cZ:=(bO hm).lo
  have R:=rg hm
  have hs:=bQ hm hr
  refine ay λU hU=>?_
  walk_at"l3"
  refine hU _ ?_
  clear hU U
  refine ay λU hU=>?_
  walk_at"l3"
  refine⟨by decide,hU _ ?_⟩
  clear hU U
  refine ay λU hU=>?_
  walk_at"l3"
  refine⟨by decide,hU _ ?_⟩
  clear hU U
  refine ay λU hU=>?_
  walk_at"l3"
  refine hU _ ?_
  clear hU U
  refine ay λU hU=>?_
  walk_at"l3"
  refine hU _ ?_
  clear hU U
  refine ay λU hU=>?_
  walk_at"l3"
  refine⟨⟨by omega,by omega⟩,?_⟩
  refine fj.mk (λn δ=>∃(L k o:Nat) (c old:List Nat) (o1 o2 o3:Option D),δ=[some (fD t.aK t.aN m),some (D.lst false (aj row)),some (D.int L),some (D.lst true (aj c)),some (D.lst true (aj old)),some (D.int o),some (D.int k),o1,o2,o3]/\BI (aa m) (gp m) (gm m) (cf row) n L (cf c) (fb k (cf old)) o/\o≠0/\o<aa m/\AllLt (aa m) c/\AllLt (aa m) old/\c.length<=L+1/\k<=n+1/\old.length<=64) ⟨0,1,1,[1],[1],none,none,none,rfl,BI.start hm _,by decide,cZ,?_,?_,by decide,by decide,by decide⟩ ?_ ?_
  ·intro x hx
   rw[iH]at hx;omega
  ·intro x hx
   rw[iH]at hx;omega
  ·rintro n d δ hd ⟨L,k,o,c,old,o1,o2,o3,rfl,I,o0,ol,hc,ho,dJ,hk,L9⟩
   obtain⟨hn,rfl⟩:=Vz hd
   have ln:=I.ln
   rw[show(0:Int)+(n:Int)=((n:Nat):Int) by omega]
   clear hd
   refine ay λU hU=>?_
   walk_at"l3"
   refine⟨m,row,c,n,rfl,hm,hr,hc,by omega,by omega,by omega,rfl,hU _ ?_⟩
   clear hU
   rw[C4 hm row c (by omega)]
   have dl:=vK R (cf row) (cf c) n
   generalize hd:ds (gp m) (gm m) (cf row) (cf c) n=d at dl
   walk_at"l3"
   split
   ·rename_i h0
    have d0:d=0:=by omega
    have J:=I.same R (hd.trans d0)
    rw[VN]at J
    exact⟨L,k+1,o,c,old,_,_,_,⟨rfl,rfl,rfl,rfl,rfl,rfl,rfl,rfl⟩,J,o0,ol,hc,ho,dJ,by omega,L9⟩
   ·rename_i h0
    have d0:d≠0:=by omega
    clear hU
    refine ay λU hU=>?_
    walk_at"l3"
    obtain⟨C,ns,xs,sp,e1,e2,e3,e4⟩:=Yr (P:=P) (w:=w) (base:=base) T hm
    refine⟨by decide,⟨by omega,by omega,by rw[gD];omega⟩,C,ns,xs,sp,e1,e2,e3,_,_,_,_,vA _ _ m,Yu T m,Vj m _ (by decide),m,d,o,by rw[vA],hm,dl,ol,λz=>absurd z o0,λ_ f hf zU=>?_⟩
    refine e4 _ _ _ hf ho (by omega) ⟨by rw[e8,jb],?_⟩
    have er:aC (aV k 0)=aj (aV k 0):=by
     rw[cG,oo];unfold aC;rw[oo];rfl
    have hB:AllLt (aa m) (aV k 0++old.map (gm m f)):=λx hx=>by
     rcases bW.mp hx with hx | hx
     ·rw[List.eq_of_mem_replicate hx];omega
     ·obtain⟨y,_,rfl⟩:=cH.mp hx
      exact cw hm _ _
    rw[gD,er]
    dsimp only
    rw[mh,dz,dz,ib,bE]
    refine⟨⟨by omega,kJ _,kJ _⟩,m,c,aV k 0++old.map (gm m f),by rw[nu],hm,hc,hB,by omega,by rw[eG,ib,bE];omega,e8 _,hU _ ?_⟩
    clear hU
    have Yv:∀j,gp m (cf (fH (kK (bg m) c (aV k 0++old.map (gm m f)))) j) (gm m f (fb k (cf old) j))=cf c j:=λj=>by
     have:=cD5 hm hc hB j
     rw[cU2,show cf (old.map (gm m f))=λi=>gm m f (cf old i) from funext (VM hm f old),cS5 hm]at this
     rw[CV];exact this
    have mO:AllLt (aa m) (fH (kK (bg m) c (aV k 0++old.map (gm m f)))):=λx hx=>cC7 hm hc hB x (Vo hx)
    have J:=I.dZ3 R hs hf (by rw[hd];exact d0) (by rw[hd];exact zU) (bQ hm mO) Yv
    have AR:=cj2 λj hj=>(CV _ j).symm.trans (J.cz j hj)
    generalize fH (kK (bg m) c (aV k 0++old.map (gm m f)))=c' at Yv mO J AR ⊢
    rw[hd]at J
    refine ay λU hU=>?_
    walk_at"l3"
    have fin:∀(L' k' o':Nat) (xE:List Nat) (co fo:Option D),BI (aa m) (gp m) (gm m) (cf row) (n+1) L' (cf c') (fb k' (cf xE)) o'->o'≠0->o'<aa m->AllLt (aa m) xE->c'.length<=L'+1->k'<=n+1+1->xE.length<=64->U [some (fD t.aK t.aN m),some (D.lst false (aj row)),some (D.int L'),co,some (D.lst true (aj xE)),some (D.int o'),some (D.int k'),some (D.int n),fo,some (D.lst true (aj c'))]:=by
     intro L' k' o' xE co fo j1 j2 j3 j4 j5 j6 j7
     refine hU _ ?_
     walk_at"l3"
     exact⟨L',k',o',c',xE,_,_,_,⟨rfl,rfl,rfl,rfl,rfl,rfl,rfl,rfl⟩,j1,j2,j3,mO,j4,j5,j6,j7⟩
    refine⟨ik.ok (.inl ⟨by decide,by decide⟩),?_⟩
    split
    ·rename_i h2
     have h2:2*L<=n:=by omega
     rw[if_pos h2,if_pos h2,show max L (n+1-L)=n+1-L by omega]at J
     rw[show max L (n+1-L)=n+1-L by omega]at AR
     clear hU
     refine ay λU hU=>?_
     walk_at"l3"
     rw[show(n:Int)+1-(L:Int)=((n+1-L:Nat):Int) by omega]
     refine hU _ ?_
     clear hU
     refine ay λU hU=>?_
     walk_at"l3"
     refine hU _ ?_
     clear hU
     refine ay λU hU=>?_
     walk_at"l3"
     refine hU _ ?_
     clear hU
     walk_at"l3"
     exact fin _ 1 d c none none J d0 dl hc AR (by omega) (by omega)
    ·rename_i h2
     have h2:¬ 2*L<=n:=by omega
     rw[if_neg h2,if_neg h2,show max L (n+1-L)=L by omega,VN]at J
     rw[show max L (n+1-L)=L by omega]at AR
     exact fin L (k+1) o old _ _ J o0 ol ho AR (by omega) L9
  ·rintro δ ⟨L,k,o,c,old,o1,o2,o3,rfl,I,o0,ol,hc,ho,dJ,hk,L9⟩
   refine hU _ ?_
   walk_at"l3"
   rw[bE,eH,gD]at I hk
   have ln:=I.ln
   rw[show(L:Int)+1=((L+1:Nat):Int) by omega]
   refine⟨_,_,rfl,by rw[bE];omega,by omega,by omega,?_⟩
   rw[L7]
   refine⟨e8 _,by decide,q L _ (fb k (cf old)) o ?_ o0 ol (vH dJ) (zS hm hc _)⟩
   rw[Ig]
   exact I
noncomputable abbrev aX3(cb cp:Addr):bh:=λds Q=>∃(m:Bool × Nat) (l:List Nat) (n:Nat),ds=[fD cb cp m,.lst false (aj l),.int n]/\m∈aw/\AllLt (aa m) l/\n<=1000/\Q (.lst true (aj ((aS n).filter λq=>decide (aG m (eS m (-(q:Int))) l=0))))
theorem aX4(T:Txt K mg t):aM P w K mg base aT 3 t.KU t.KW ["field","finder","length"] (bq (aX3 t.aK t.aN)):=by
 refine bA T.Xw aV0 ?_ ?_
 ·intro ds Q h
  obtain⟨m,l,n,rfl,hm,hl,hn,q⟩:=h<;>rfl
 ·intro aE A outer s H E hr
  refine⟨_,(aB (aO (fc [("field",0),("finder",1)] ["place"] rfl (iX rfl T.fY (af (bv 2) ao)) (λ_ _ _ _=>(dm (i:=2) (show(["field","finder","place"]:List Str).Nodup by decide +kernel) rfl (ah (lookup_relabel_local rfl)) (by decide) (bw (lookup_relabel_local rfl)))) (λ_ _ _ _=>(G5 (bG (eJ (cI hr)) (ae (aZ ((Yj T).mono (by decide)) hr rfl T.Xk T.LJ.kp T.Xl aR (af (bv 0) (af (bv 1) (af (ae (g7 (P:=P) (w:=w) (K:=K) (mg:=mg) (base:=base) (n:=1) (bv 0) (hr.mono (by decide)) (af (ae (TY (bv 2))) ao))) ao))))) (ae ak) (bC _)))) (λ_ _ _ _=>(dF (bv 2))) rfl ⟨rfl,⟨rfl,trivial⟩⟩ (λ_=>by repeat' (first | exact trivial | refine⟨.inl rfl,?_⟩ | refine⟨.inr (.inl rfl),?_⟩ | refine⟨.inr (.inr ⟨_,rfl⟩),?_⟩)) (λ_=>⟨⟨rfl,.inl rfl,.inl rfl,_,rfl,rfl⟩,⟨⟨rfl,.inl rfl,.inl rfl,_,rfl,rfl⟩,trivial⟩⟩) rfl (by decide +kernel)))),λds Q h=>?_⟩
  obtain⟨m,l,n,rfl,hm,hl,hn,q⟩:=h
  have m0:=bB m hm
  walk_at"l3"
  refine⟨⟨by omega,by omega⟩,?_⟩
  refine Ii (aS n) (λ(i:Nat)=>D.int (i:Int)) (λ(i:Nat)=>D.int (i:Int)) (λq=>decide (aG m (eS m (-(q:Int))) l=0)) (vE _ rfl) jq (λp hp=>?_) (.inr λ_ _ _=>rfl) (by rw[eH,sL];omega) ?_
  ·walk_at"l3"
   exact DH T hm ⟨m,l,_,rfl,hm,hl,i7 hm _,rfl,rfl,by rw[i3];exact decide_eq_decide.mpr (by omega),λ_=>trivial⟩
  ·rw[cG]at q
   exact q
noncomputable def DP:Option (List Nat)->D
 | some l=>.lst true (aj l)
 | none=>.ax
noncomputable abbrev aP5(t:km)(P:Program)(w:World)(K:Frag)(mg:Str->Option Value)(base:Heap):bh:=λds Q=>∃(m:Bool × Nat) (bN us:List Nat) (n:Nat),ds=[fD t.aK t.aN m,.lst false (aj bN),.lst false (aj us),.int n]/\m∈aw/\AllLt (aa m) us/\bN.length<=us.length/\us.length<=63/\n<=1000/\(∀p∈bN,p<=64)/\∀(L:Nat) (c:List Nat) (b:Nat->Nat) (o:Nat),BI (aa m) (gp m) (gm m) (cf ((aS (us.length-bN.length)).map λ(i:Nat)=>jS m us (dH m bN) (bN.length+i))) (us.length-bN.length) L (cf c) b o->c.length=L+1->AllLt (aa m) c->Q (DP (nR m bN (us.length-bN.length) n L c))
theorem aP6(T:Txt K mg t):aM P w K mg base aT 4 t.KY t.KZ ["field","lost","sums","length"] (bq (aP5 t P w K mg base)):=by
 refine bA T.Xx Ae ?_ ?_
 ·intro ds Q h
  obtain⟨m,bN,us,n,rfl,hm,BR,hlu,eu3,hn,hp,q⟩:=h<;>rfl
 ·intro aE A outer s H E hr
  refine⟨_,(az (aI (i:=4) Ae.nd rfl (bw rfl) (aZ ((aP3 T).mono (by decide)) hr rfl T.ee7 T.Xq.kp T.ee8 aR (af (bv 0) (af (bv 1) ao))))
   (az (C9 (i:=5) Ae.nd rfl (ah rfl) [("field",0),("sums",2),("known",4)] ["i"] rfl (uF rfl T.fY (af (ae (ck (de) (by rfl) T.df da (af (bv 1) ao))) (af (ae (ck (de) (by rfl) T.df da (af (bv 2) ao))) ao))) (λ_ _ _ _=>(dm (i:=3) (show(["field","sums","known","i"]:List Str).Nodup by decide +kernel) rfl (ah (lookup_relabel_local rfl)) (by decide) (bw (lookup_relabel_local rfl)))) (λ_ _ _ _=>eR) (λ_ _ _ _=>(aZ ((Yo T).mono (by decide)) hr rfl T.Xr T.LL.kp T.Xs aR (af (bv 0) (af (bv 1) (af (bv 2) (af (bv 3) ao)))))) rfl ⟨rfl,⟨rfl,⟨rfl,trivial⟩⟩⟩ (λ_=>by repeat' (first | exact trivial | refine⟨.inl rfl,?_⟩ | refine⟨.inr (.inl rfl),?_⟩ | refine⟨.inr (.inr ⟨_,rfl⟩),?_⟩)) (λ_=>⟨⟨rfl,.inl rfl,.inl rfl,_,rfl,rfl⟩,⟨⟨rfl,.inl rfl,.inl rfl,_,rfl,rfl⟩,⟨⟨rfl,.inl rfl,.inl rfl,_,rfl,rfl⟩,trivial⟩⟩⟩) rfl (by decide +kernel))
   (az (aI (i:=6) Ae.nd rfl (ah rfl) (aZ ((aZ2 T).mono (by decide)) hr rfl T.eg0 T.Xv.kp T.eg1 aR (af (bv 0) (af (bv 5) ao))))
   (az (cj (bG rW (ae (aA fV (ae ak) (br (bv 6) (ae ak) (λ_ _=>rfl)))) (ae (ck (de) (by rfl) T.df da (af (bv 5) ao))) (bC _)) (aB (aO gu)) cF)
   (az (aI (i:=7) Ae.nd rfl (ah rfl) (aZ ((aX4 T).mono (by decide)) hr rfl T.eg2 T.Xw.kp T.eg3 aR (af (bv 0) (af (br (bv 6) (ae ak) (λ_ _=>rfl)) (af (bv 3) ao)))))
   (az (cj (PW.pt (B3 (bG (jQ (cI hr)) (ae (ck (de) (by rfl) T.df da (af (bv 7) ao))) (br (bv 6) (ae ak) (λ_ _=>rfl)) (bC _)) (FD (jN (ae (ck (cX8 rfl) (by rfl) T.ej9 cT2 (af (ae (fc [("lost",1)] ["place"] rfl (nh (bv 7)) (λ_ _ _ _=>(dm (i:=1) (show(["lost","place"]:List Str).Nodup by decide +kernel) rfl (ah (lookup_relabel_local rfl)) (by decide) (bw (lookup_relabel_local rfl)))) (λ_ _ _ _=>eR) (λ_ _ _ _=>(qZ Uq (bv 1) (bv 0) (by with_unfolding_all rfl))) rfl ⟨rfl,trivial⟩ (λ_=>by repeat' (first | exact trivial | refine⟨.inl rfl,?_⟩ | refine⟨.inr (.inl rfl),?_⟩ | refine⟨.inr (.inr ⟨_,rfl⟩),?_⟩)) (λ_=>⟨⟨rfl,.inl rfl,.inl rfl,_,rfl,rfl⟩,trivial⟩) rfl (by decide +kernel))) ao))))))) (aB (aO gu)) cF)
   (aB (aO (em 7))))))))),λds Q h=>?_⟩
  obtain⟨m,bN,us,n,rfl,hm,BR,hlu,eu3,hn,hp,q⟩:=h
  refine ay λU hU=>?_
  walk_at"l3"
  refine⟨m,bN,rfl,hm,by omega,hU _ ?_⟩
  clear hU U
  have fl:=IU hm bN
  refine ay λU hU=>?_
  walk_at"l3"
  refine⟨(bN.length:Int),_,⟨rfl,rfl⟩,⟨by omega,by omega,by omega,by omega⟩,?_⟩
  refine gw (aS (us.length-bN.length)) (λ(i:Nat)=>D.int ((bN.length:Int)+(i:Int))) (λi=>D.int ((jS m us (dH m bN) (bN.length+i):Nat):Int)) ?_ (λa b h=>by injection h with h;omega) (λi hi=>?_) (.inr λ_ _=>rfl) (by rw[eH,sL];omega) ?_
  ·rw[oW,show((us.length:Int)-(bN.length:Int)).toNat=us.length-bN.length by omega]
  ·have hi:=dA.mp hi
   walk_at"l3"
   refine⟨m,us,dH m bN,bN.length+i,rfl,hm,BR,(vP hm _).1,by omega,by omega,by omega,rfl⟩
  have er:((aS (us.length-bN.length)).map λi=>D.int ((jS m us (dH m bN) (bN.length+i):Nat):Int))=aj ((aS (us.length-bN.length)).map λ(i:Nat)=>jS m us (dH m bN) (bN.length+i)):=by rw[cG,dh];rfl
  rw[er]
  have ll:((aS (us.length-bN.length)).map λ(i:Nat)=>jS m us (dH m bN) (bN.length+i)).length=us.length-bN.length:=by rw[bE,eH]
  have la:AllLt (aa m) ((aS (us.length-bN.length)).map λ(i:Nat)=>jS m us (dH m bN) (bN.length+i)):=λa ha=>by
   obtain⟨i,_,rfl⟩:=cH.mp ha
   exact Ia hm _ _
  generalize ((aS (us.length-bN.length)).map λ(i:Nat)=>jS m us (dH m bN) (bN.length+i))=left at ll la q ⊢
  refine hU _ ?_
  clear hU U
  refine ay λU hU=>?_
  walk_at"l3"
  refine⟨m,left,rfl,hm,la,by omega,λL c b o I o0 ol lc hc=>⟨by rw[m4];simp only[eN,oi,pB,e8,jA],hU _ ?_⟩⟩
  rw[ll]at I
  have iL:=I.ln
  have q:=q L c b o I lc hc
  clear hU U
  refine ay λU hU=>?_
  walk_at"l3"
  refine⟨_,rfl,ik.ok (.inl ⟨by omega,by omega⟩),?_⟩
  rw[ll]
  unfold nR at q
  by_cases h2:us.length-bN.length<2*L
  ·rw[if_pos (by omega)]
   rw[if_pos h2]at q
   exact q
  rw[if_neg (by omega)]
  rw[if_neg h2]at q
  refine hU _ ?_
  clear hU U
  refine ay λU hU=>?_
  walk_at"l3"
  refine⟨_,rfl,m,c,n,by rw[vF],hm,hc,hn,by rw[e8,jb],hU _ ?_⟩
  clear hU U
  change Q (DP (if(fJ m c n).length≠L\/(∃p∈fJ m c n,p∈bN)then none else some (fJ m c n)))at q
  rw[show((aS n).filter λ(q:Nat)=>decide (aG m (eS m (-(q:Int))) c=0))=fJ m c n from rfl]
  have fln:(fJ m c n).length<=1000:=eM (dk4 ..) (by rw[eH];exact hn)
  generalize fJ m c n=fd at q fln ⊢
  refine ay λU hU=>?_
  walk_at"l3"
  refine⟨_,rfl,rfl,?_⟩
  rw[i3]
  by_cases h3:fd.length=L
  ·rw[if_neg (by rw[decide_eq_true (by omega)];decide)]
   refine gw fd (λ(i:Nat)=>D.int (i:Int)) (λp=>D.bl (bN.contains p)) (by rw[cG,oW]) jq (λp hp=>?_) (.inr λ_ _=>rfl) (by rw[sL];omega) ?_
   ·walk_at"l3"
    exact⟨_,ch6 bN,by rw[VT]⟩
   ·refine⟨fd.map λp=>bN.contains p,by unfold se;rw[dh];rfl,?_⟩
    rw[List.any_map,show(id ∘ λp=>bN.contains p)=λp=>bN.contains p from rfl]
    by_cases h4:∃p∈fd,p∈bN
    ·rw[if_pos (Bf.mpr (h4.imp λp hp=>⟨hp.1,t9.mpr hp.2⟩))]
     rw[if_pos (.inr h4)]at q
     exact q
    ·rw[if_neg λz:(fd.any λp=>bN.contains p)=true=>h4 ((Bf.mp z).imp λp hp=>⟨hp.1,t9.mp hp.2⟩)]
     rw[if_neg λz=>z.elim (λz=>z h3) h4]at q
     refine hU _ ?_
     walk_at"l3"
     exact q
  ·rw[if_pos (by rw[decide_eq_false (by omega)];rfl)]
   rw[if_pos (.inl h3)]at q
   exact q
noncomputable abbrev aZ3:bh:=λds Q=>∃T:List (List Nat),ds=[.lst false (bD false T)]/\T.length<=1000/\(∀r∈T,r.length<=1000)/\Q (.int (bt T:Nat))
theorem Yw(T:Txt K mg t):aM P w K mg base aT 1 t.K0 t.K1 ["table"] (bq (aZ3 )):=by
 refine bA T.LO aX7 ?_ ?_
 ·intro ds Q h
  obtain⟨G,rfl,hG,hr,q⟩:=h<;>rfl
 ·intro aE A outer s H E hr
  refine⟨_,(aB (aO (zf (bG (jQ (cI hr)) (bv 0) (ae (eI dy)) (bC _)) (ck (de) (by rfl) T.df da (af (br (bv 0) (ae ak) (λ_ _=>rfl)) ao)) ak))),λds Q h=>?_⟩
  obtain⟨G,rfl,hG,hr,q⟩:=h
  walk_at"l3"
  refine⟨by decide,⟨cD1 4 _ _ _,rfl⟩,?_⟩
  rw[show(D.lst true ([]:List D))=D.lst true (bD true []) from rfl,cM2]
  cases G with
  | nil=>rw[if_neg (by simp)];exact q
  | cons r G =>
   rw[if_pos (by simp)]
   refine⟨.lst false (aj r),Ih false (T:=r::G) (i:=0) (Nat.succ_pos _),?_⟩
   show Q (D.int ((aj r).length:Nat))
   rw[dz];exact q
noncomputable abbrev aT9:bh:=λds Q=>∃(T:List (List Nat)) (j:Nat),ds=[.lst false (bD false T),.int j]/\T.length<=1000/\(∀r∈T,j<r.length)/\Q (match jy T j with | some i=>.int (i:Nat) | none=>.ax)
theorem aU0(T:Txt K mg t):aM P w K mg base aT 1 t.K2 t.K3 ["rows","place"] (bq (aT9 )):=by
 refine bA T.XA WL ?_ ?_
 ·intro ds Q h
  obtain⟨G,j,rfl,hG,hr,q⟩:=h<;>rfl
 ·intro aE A outer s H E hr
  refine⟨_,(az (e7 dB rfl (nt rfl T.nY (af (bv 0) ao)) (gi (i1:=2) (i2:=3) rfl WL.nd rfl (ah rfl) rfl (ah rfl))
    (aB (cj (bG (jQ (cI hr)) (br (bv 3) (bv 1) (λ_ _=>rfl)) (ae ak) (bC _)) (aB (aO (em 2))) cF)))
   (aB (aO gu))),λds Q h=>?_⟩
  obtain⟨G,j,rfl,hG,hr,q⟩:=h
  refine ay λU hU=>?_
  walk_at"l3"
  refine fj.mk (λi δ=>∃o1 o2,δ=[some (D.lst false (bD false G)),some (D.int j),o1,o2]/\∀k,k<i->(G.getD k []).getD j 0=0) ⟨_,_,rfl,λk hk=>absurd hk (ym k)⟩ ?_ ?_
  ·rintro i d δ hd ⟨o1,o2,rfl,hz⟩
   obtain⟨hi,rfl⟩:=cr4 hd
   have hj:=hr _ (dv hi)
   have eg:G.getD i []=G[i]:=by rw[aL,aJ hi];rfl
   walk_at"l3"
   refine⟨.int (G[i].getD j 0:Nat),by rw[nF (by omega) (by omega),gD],rfl,?_⟩
   rw[i3]
   by_cases h0:G[i].getD j 0=0
   ·rw[if_neg (by rw[h0];decide)]
    refine⟨_,_,⟨rfl,rfl⟩,λk hk=>?_⟩
    by_cases e:k=i
    ·rw[e,eg];exact h0
    ·exact hz k (by omega)
   ·rw[if_pos (by rw[decide_eq_false (by omega)];rfl)]
    have ef:jy G j=some i:=by
     unfold jy
     rw[dk1]
     refine⟨hi,by simpa using h0,λk hk=>?_⟩
     have:=hz k hk
     rw[aL (l:=G),aJ (by omega)]at this
     simpa using this
    rw[ef]at q
    exact q
  ·rintro δ ⟨o1,o2,rfl,hz⟩
   refine hU _ ?_
   walk_at"l3"
   have ef:jy G j=none:=by
    unfold jy
    rw[dk2]
    intro r cW
    obtain⟨i,hi,rfl⟩:=ie cW
    have:=hz i (by rw[kI,nH];exact hi)
    rw[aL (l:=G),aJ hi]at this
    simpa using this
   rw[ef]at q
   exact q
noncomputable abbrev Yx(K:Frag):bh:=λds Q=>∃(C:Addr) (p a:Nat) (xs ys:List Nat),ds=[sW C p,.lst false (aj xs),.int a,.lst false (aj ys)]/\dQ K C/\cq K C "products"/\p∈jt/\a<aa (true,p)/\(∀y∈ys,y<aa (true,p))/\xs.length<=1000/\Q (.lst true (aj (dZ (λx y=>bg (true,p) x (gm (true,p) a y)) xs ys)))
theorem aE5(T:Txt K mg t):aM P w K mg base aT 1 t.K4 t.K5 ["self","row","a","other"] (bq (Yx K)):=by
 refine bA T.aG2 WM ?_ ?_
 ·intro ds Q h
  obtain⟨C,p,a,xs,ys,rfl,hC,hn,hp,ha,hy,hl,q⟩:=h<;>rfl
 ·intro aE A outer s H E hr
  refine⟨_,(az (aI (i:=4) WM.nd rfl (bw rfl) (dF (br (i6 (K:=K) (bv 0)) (bv 2) (λ_ _=>rfl))))
   (aB (aO (fc [("by_a",4)] ["x","y"] rfl (nr rfl T.mq (af (bv 1) (af (bv 3) ao))) (λ_ _ _ _=>(gi (i1:=1) (i2:=2) rfl (show(["by_a","x","y"]:List Str).Nodup by decide +kernel) rfl (ah (lookup_relabel_local rfl)) rfl (ah (lookup_relabel_local rfl)) (by decide) (by decide) (bw (lookup_relabel_local rfl)) (bw (lookup_relabel_local rfl)))) (λ_ _ _ _=>eR) (λ_ _ _ _=>(aA rP (bv 1) (br (bv 0) (bv 2) (λ_ _=>rfl)))) rfl ⟨rfl,trivial⟩ (λ_=>by repeat' (first | exact trivial | refine⟨.inl rfl,?_⟩ | refine⟨.inr (.inl rfl),?_⟩ | refine⟨.inr (.inr ⟨_,rfl⟩),?_⟩)) (λ_=>⟨⟨rfl,.inl rfl,.inl rfl,_,rfl,rfl⟩,trivial⟩) rfl (by decide +kernel))))),λds Q h=>?_⟩
  obtain⟨C,p,a,xs,ys,rfl,hC,hn,hp,ha,hy,hl,q⟩:=h
  refine ay λU hU=>?_
  walk_at"l3"
  refine⟨C,_,_,_,rfl,hC,hn,rfl,_,CI hp ha,?_⟩
  refine⟨by rw[gr,lZ];rfl,hU _ ?_⟩
  clear hU U
  walk_at"l3"
  refine⟨_,_,rfl,rfl,HZ (λx y=>bg (true,p) x (gm (true,p) a y)) (λx hx y DM=>?_) (by omega) q⟩
  walk_at"l3"
  refine⟨_,CH hp ha (hy y DM),?_⟩
  show n8 (x:Int) ((gm (true,p) a y:Nat):Int)=_
  rw[kq];rfl
noncomputable abbrev Yy(K:Frag):bh:=λds Q=>∃(C:Addr) (p a:Nat) (xs ys:List Nat),ds=[pV C p,.lst false (aj xs),.int a,.lst false (aj ys)]/\dQ K C/\cq K C "prime"/\0<p/\a<64/\(∀y∈ys,y<64)/\xs.length<=1000/\Q (.lst true (aj (dZ (λx y=>bg (false,p) x (gm (false,p) a y)) xs ys)))
theorem aB9(T:Txt K mg t):aM P w K mg base aT 1 t.K6 t.K7 ["self","row","a","other"] (bq (Yy K)):=by
 refine bA T.aD2 WN ?_ ?_
 ·intro ds Q h
  obtain⟨C,p,a,xs,ys,rfl,hC,hn,hp,ha,hy,hl,q⟩:=h<;>rfl
 ·intro aE A outer s H E hr
  refine⟨_,(az (aI (i:=4) WN.nd rfl (bw rfl) (dF (i6 (K:=K) (bv 0))))
   (aB (aO (fc [("prime",4),("a",2)] ["x","y"] rfl (nr rfl T.mq (af (bv 1) (af (bv 3) ao))) (λ_ _ _ _=>(gi (i1:=2) (i2:=3) rfl (show(["prime","a","x","y"]:List Str).Nodup by decide +kernel) rfl (ah (lookup_relabel_local rfl)) rfl (ah (lookup_relabel_local rfl)) (by decide) (by decide) (bw (lookup_relabel_local rfl)) (bw (lookup_relabel_local rfl)))) (λ_ _ _ _=>eR) (λ_ _ _ _=>(aA cP (ae (aA dR (bv 2) (ae (aA fV (bv 1) (bv 3))))) (bv 0))) rfl ⟨rfl,⟨rfl,trivial⟩⟩ (λ_=>by repeat' (first | exact trivial | refine⟨.inl rfl,?_⟩ | refine⟨.inr (.inl rfl),?_⟩ | refine⟨.inr (.inr ⟨_,rfl⟩),?_⟩)) (λ_=>⟨⟨rfl,.inl rfl,.inl rfl,_,rfl,rfl⟩,⟨⟨rfl,.inl rfl,.inl rfl,_,rfl,rfl⟩,trivial⟩⟩) rfl (by decide +kernel))))),λds Q h=>?_⟩
  obtain⟨C,p,a,xs,ys,rfl,hC,hn,hp,ha,hy,hl,q⟩:=h
  refine ay λU hU=>?_
  walk_at"l3"
  refine⟨C,_,_,.int p,rfl,hC,hn,rfl,rfl,hU _ ?_⟩
  clear hU U
  walk_at"l3"
  refine⟨_,_,rfl,rfl,HZ (λx y=>bg (false,p) x (gm (false,p) a y)) (λx hx y DM=>?_) (by omega) q⟩
  have h2:=hy y DM
  walk_at"l3"
  refine⟨ik.ok (.inr ⟨by omega,by omega⟩),by omega,?_⟩
  have e:((x:Int)-((a*y%p:Nat):Int))%(p:Int)=((x:Int)-(a:Int)*y)%p:=by
   rw[mJ,yk,Int.sub_emod,Int.emod_emod,<- Int.sub_emod]
  show _=(((((x:Int)-((a*y%p:Nat):Int))%(p:Int)).toNat:Nat):Int)
  rw[e,qH (gR _ (by omega))]
theorem b02(T:Txt K mg t){m:Bool × Nat}(hm:m∈aw):∃C ns zs sp,fD t.aK t.aN m=.obj C ns zs/\nz P w K mg base 1 "lessened" C sp/\("lessened":Str) ∉ ns/\∀(xs ys:List Nat) (a:Nat) (Q:D->Prop),a<aa m->(∀y∈ys,y<aa m)->xs.length<=1000->Q (.lst true (aj (dZ (λx y=>bg m x (gm m a y)) xs ys)))->sp [.obj C ns zs,.lst false (aj xs),.int a,.lst false (aj ys)] Q:=by
 have hF:=bO hm
 obtain⟨k,n⟩:=m
 cases k with
 | true=>exact⟨_,_,_,Yx K,rfl,⟨T.fv,_,_,_,T.Ao,aE5 T,T.aG3⟩,by decide,λxs ys a Q ha hy hl q=>⟨_,n,a,xs,ys,rfl,T.fv,T.nX,vz hm,ha,hy,hl,q⟩⟩
 | false =>
  have jU:n<=64:=hF.hi
  have l2:2<=n:=hF.lo
  exact⟨_,_,_,Yy K,rfl,⟨T.fL,_,_,_,T.AB,aB9 T,T.aD3⟩,by decide,λxs ys a Q ha hy hl q=>⟨_,n,a,xs,ys,rfl,T.fL,T.kR,by omega,cT (show a<n from ha) jU,λy h=>cT (show y<n from hy y h) jU,hl,q⟩⟩
noncomputable abbrev a05(cb cp:Addr):bh:=λds Q=>∃(m:Bool × Nat) (T:List (List Nat)) (l:List Nat) (j:Nat),ds=[fD cb cp m,.lst false (bD false T),.lst false (aj l),.int j]/\m∈aw/\T.length<=1000/\AllLt (aa m) l/\(∀r∈T,j<r.length/\r.length<=1000/\AllLt (aa m) r)/\Q (.lst true (bD true (T.map λr=>dZ (λx y=>bg m x (gm m (r.getD j 0) y)) r l)))
theorem Yz(T:Txt K mg t):aM P w K mg base aT 2 t.K8 t.K9 ["field","rows","lead_row","place"] (bq (a05 t.aK t.aN)):=by
 refine bA T.LP aZ9 ?_ ?_
 ·intro ds Q h
  obtain⟨m,G,l,j,rfl,hm,hG,hl,hr,q⟩:=h<;>rfl
 ·intro aE A outer s H E hr
  refine⟨_,(aB (aO (fc [("lead_row",2),("field",0),("place",3)] ["row"] rfl (nh (bv 1)) (λ_ _ _ _=>(dm (i:=3) (show(["lead_row","field","place","row"]:List Str).Nodup by decide +kernel) rfl (ah (lookup_relabel_local rfl)) (by decide) (bw (lookup_relabel_local rfl)))) (λ_ _ _ _=>eR) (λ_ _ _ _=>(g7 (P:=P) (w:=w) (K:=K) (mg:=mg) (base:=base) (n:=1) (bv 1) (hr.mono (by decide)) (af (bv 3) (af (br (bv 3) (bv 2) (λ_ _=>rfl)) (af (bv 0) ao))))) rfl ⟨rfl,⟨rfl,⟨rfl,trivial⟩⟩⟩ (λ_=>by repeat' (first | exact trivial | refine⟨.inl rfl,?_⟩ | refine⟨.inr (.inl rfl),?_⟩ | refine⟨.inr (.inr ⟨_,rfl⟩),?_⟩)) (λ_=>⟨⟨rfl,.inl rfl,.inl rfl,_,rfl,rfl⟩,⟨⟨rfl,.inl rfl,.inl rfl,_,rfl,rfl⟩,⟨⟨rfl,.inl rfl,.inl rfl,_,rfl,rfl⟩,trivial⟩⟩⟩) rfl (by decide +kernel)))),λds Q h=>?_⟩
  obtain⟨m,G,l,j,rfl,hm,hG,hl,hr,q⟩:=h
  walk_at"l3"
  refine gw G (λr=>D.lst false (aj r)) (λr=>D.lst true (aj (dZ (λx y=>bg m x (gm m (r.getD j 0) y)) r l))) (by rw[jx];rfl) (λa b h=>VC a b h) (λr cW=>?_) (.inr λr _=>e8 _) (by rw[sL];omega) ?_
  ·obtain⟨h1,h2,h3⟩:=hr r cW
   obtain⟨C,ns,zs,sp,e1,e2,e3,e4⟩:=b02 (P:=P) (w:=w) (base:=base) T hm
   walk_at"l3"
   refine⟨C,ns,zs,sp,e1,e2,e3,.int (r.getD j 0:Nat),by rw[nF (by omega) (by omega),gD],e4 _ _ _ _ (h3.getD (by have:=(bO hm).lo;omega) j) hl h2 ⟨rfl,rfl⟩⟩
  ·rw[bD,dh]at q
   exact q
noncomputable abbrev a06(t:km)(P:Program)(w:World)(K:Frag)(mg:Str->Option Value)(base:Heap):bh:=λds Q=>∃(m:Bool × Nat) (G:List (List Nat)),ds=[fD t.aK t.aN m,.lst false (bD false G)]/\m∈aw/\G.length<=900/\RT (aa m) (bt G) G/\bt G<=900/\Q (.lst true (bD true (cY m G)))
theorem a07(T:Txt K mg t):aM P w K mg base aT 3 t.La t.Lb ["field","table"] (bq (a06 t P w K mg base)):=by
 refine bA T.XD qg ?_ ?_
 ·intro ds Q h
  obtain⟨m,G,rfl,hm,hG,hR,hw,q⟩:=h<;>rfl
 ·intro aE A outer s H E hr
  refine⟨_,(az (aI (i:=2) qg.nd rfl (ah rfl) (eI dy))
   (az (aI (i:=3) qg.nd rfl (ah rfl) (dF (bv 1)))
   (az (e7 dB rfl (iX rfl T.fY (af (ae (aZ ((Yw T).mono (by decide)) hr rfl T.Xy T.LO.kp T.Xz aR (af (bv 1) ao))) ao)) (dm (i:=4) qg.nd rfl (ah rfl))
    (G0 3 (az (aI (i:=5) qg.nd rfl (ah rfl) (aZ ((aU0 T).mono (by decide)) hr rfl T.eg6 T.XA.kp T.eg7 aR (af (bv 3) (af (bv 4) ao))))
    (aB (cj (bG TJ (bv 5) (ae gu) (bC _)) (az (aI (i:=6) qg.nd rfl (ah rfl) (g7 (P:=P) (w:=w) (K:=K) (mg:=mg) (base:=base) (n:=1) (bv 0) (hr.mono (by decide)) (af (ae (Vi (P:=P) (w:=w) (K:=K) (mg:=mg) (base:=base) (n:=2) (bv 0) (hr.mono (by decide)) (af (ae ak) (af (br (br (bv 3) (bv 5) (λ_ _=>rfl)) (bv 4) (λ_ _=>rfl)) ao)))) (af (br (bv 3) (bv 5) (λ_ _=>rfl)) ao))))
     (az (aI (i:=3) qg.nd rfl (ah rfl) (aZ ((Yz T).mono (by decide)) hr rfl T.XB T.LP.kp T.XC aR (af (bv 0) (af (ae (aA cu (ae (Hw (bv 3) Hk (Hl (bv 5)))) (ae (Hw (bv 3) (Hl (ae (aA cu (bv 5) (ae ak)))) Hk)))) (af (bv 6) (af (bv 4) ao))))))
     (aB (aI (i:=2) qg.nd rfl (ah rfl) (cT8 (aZ ((Yz T).mono (by decide)) hr rfl T.XB T.LP.kp T.XC aR (af (bv 0) (af (bv 2) (af (bv 6) (af (bv 4) ao))))) (eI (cX (em 6) dy))))))) cF)))))
   (aB (aO (em 2)))))),λds Q h=>?_⟩
  obtain⟨m,G,rfl,hm,hG,hR,hw,q⟩:=h
  have cZ:=(bO hm).lo
  refine ay λU hU=>?_
  walk_at"l3"
  refine⟨by decide,hU _ ?_⟩
  clear hU U
  refine ay λU hU=>?_
  walk_at"l3"
  refine hU _ ?_
  clear hU U
  refine ay λU hU=>?_
  walk_at"l3"
  refine⟨G,rfl,by omega,λr cW=>?_,?_⟩
  ·rw[(hR r cW).1];omega
  refine⟨_,rfl,⟨by omega,by omega⟩,?_⟩
  refine vh (λk δ=>∃(o:Bool) (o1 o2 o3:Option D),δ=[some (fD t.aK t.aN m),some (D.lst false (bD false G)),some (D.lst true (bD true (i8 m G k).1)),some (D.lst o (bD o (i8 m G k).2)),o1,o2,o3]) ⟨false,none,none,none,rfl⟩ ?_ ?_
  ·rintro k δ hk ⟨o,o1,o2,o3,rfl⟩
   have I:=zX hm hR k
   rw[Ij]
   generalize i8 m G k=s at I ⊢
   simp only[gN,oR,jE,jD,ud,ub,ue,exists_eq_left',fh,jx]
   clear hU
   have il:=I.l
   refine ay λU hU=>?_
   walk_at"l3"
   refine⟨s.2,k,rfl,by omega,λr cW=>by rw[(I.b r cW).1];omega,?_⟩
   cases e:jy s.2 k with
   | none =>
    rw[show g9 m s k=s by unfold g9;rw[e]]at hU
    refine hU _ ?_
    walk_at"l3"
    exact⟨false,_,_,_,⟨rfl,rfl⟩,rfl,rfl,rfl⟩
   | some i =>
    obtain⟨hi,h1,h2⟩:=C6 e
    have er:g9 m s k=(gA m s.1 (dW m s.2 i k) k++[dW m s.2 i k],gA m (s.2.take i++s.2.drop (i+1)) (dW m s.2 i k) k):=by unfold g9;rw[e]
    rw[er]at hU
    refine hU _ ?_
    clear hU
    walk_at"l3"
    obtain⟨C,ns,xs,sp,e1,e2,e3,e4⟩:=Yr (P:=P) (w:=w) (base:=base) T hm
    refine ay λU hU=>?_
    walk_at"l3"
    obtain⟨lw,lr⟩:=I.b _ (dv hi)
    have bk:=lr.getD (show 0<aa m by omega) k
    refine⟨C,ns,xs,sp,e1,e2,e3,_,_,_,_,vA _ _ m,Yu T m,Vj m _ (by decide),.lst false (aj s.2[i]),Ih false hi,?_⟩
    dsimp only
    refine⟨.int (s.2[i].getD k 0:Nat),by rw[nF (by omega) (by omega),gD],m,1,s.2[i].getD k 0,by rw[vA];rfl,hm,cZ,bk,λz=>absurd z h1,λ_ f hf zU=>⟨rfl,.lst false (aj s.2[i]),Ih false hi,?_⟩⟩
    have ef:zV m (s.2[i].getD k 0)=f:=VR hm hf zU
    rw[vF]
    refine e4 _ _ _ hf lr (by omega) ⟨by rw[e8,jb],hU _ ?_⟩
    have el:s.2[i].map (gm m f)=dW m s.2 i k:=by unfold dW;rw[h2,ef]
    rw[el]
    have ll:(dW m s.2 i k).length=bt G:=by rw[<-el,bE];exact lw
    have la:AllLt (aa m) (dW m s.2 i k):=λx hx=>by
     rw[<-el]at hx
     obtain⟨y,_,rfl⟩:=cH.mp hx
     exact cw hm _ _
    generalize dW m s.2 i k=ld at ll la ⊢
    clear hU
    refine ay λU hU=>?_
    walk_at"l3"
    have Ma:∀r∈s.2.take i++s.2.drop (i+1),r.length=bt G/\AllLt (aa m) r:=λr cW=>by
     rcases bW.mp cW with h | h
     ·exact I.b r (ya h)
     ·exact I.b r (Bg h)
    have DQ:∀X:List (List Nat),(D.lst true (bD true X)).fr=true:=λX=>by rw[gh,VO];rfl
    rw[Uo,show((i:Int)+1)=((i+1:Nat):Int) by omega,co1,VP,jx]
    refine⟨by rw[jz,tV];omega,m,_,ld,k,rfl,hm,by rw[eG,jz,tV];omega,la,λr cW=>⟨by rw[(Ma r cW).1];exact hk,by rw[(Ma r cW).1];omega,(Ma r cW).2⟩,DQ _,hU _ ?_⟩
    clear hU
    walk_at"l3"
    refine⟨m,s.1,ld,k,rfl,hm,by omega,la,λr cW=>⟨by rw[(I.a r cW).1];exact hk,by rw[(I.a r cW).1];omega,(I.a r cW).2⟩,DQ _,by decide,_,_,rfl,rfl,?_,true,_,_,_,VP true _ [ld],⟨rfl,rfl⟩,rfl,rfl,rfl⟩
    rw[nH,bE]
    show s.1.length+1<=_
    omega
  ·rintro δ ⟨o,o1,o2,o3,rfl⟩
   refine hU _ ?_
   walk_at"l3"
   exact q
noncomputable abbrev cr2:bh:=λds Q=>∃T:List (List Nat),ds=[.lst false (bD false T)]/\T.length<=1000/\(∀r∈T,r.length<=1000/\∃x∈r,x≠0)/\Q (.lst true (aj (T.map dN)))
theorem co3(T:Txt K mg t):aM P w K mg base aT 1 t.Lc t.Ld ["rows"] (bq (cr2 )):=by
 refine bA T.XE cp5 ?_ ?_
 ·intro ds Q h
  obtain⟨G,rfl,hG,hr,q⟩:=h<;>rfl
 ·intro aE A outer s H E hr
  refine⟨_,(aB (aO (fc [] ["row"] rfl (nh (bv 0)) (λ_ _ _ _=>(dm (i:=0) (show(["row"]:List Str).Nodup by decide +kernel) rfl (ah (lookup_relabel_local rfl)) (by decide) (bw (lookup_relabel_local rfl)))) (λ_ _ _ _=>eR) (λ_ _ _ _=>(dF (br (ae (fc [] ["place","x"] rfl (nt rfl T.nY (af (bv 0) ao)) (λ_ _ _ _=>(gi (i1:=0) (i2:=1) rfl (show(["place","x"]:List Str).Nodup by decide +kernel) rfl (ah (lookup_relabel_local rfl)) rfl (ah (lookup_relabel_local rfl)) (by decide) (by decide) (bw (lookup_relabel_local rfl)) (bw (lookup_relabel_local rfl)))) (λ_ _ _ _=>(G5 (bG (jQ (cI hr)) (bv 1) (ae ak) (bC _)))) (λ_ _ _ _=>(dF (bv 0))) rfl trivial (λ_=>by repeat' (first | exact trivial | refine⟨.inl rfl,?_⟩ | refine⟨.inr (.inl rfl),?_⟩ | refine⟨.inr (.inr ⟨_,rfl⟩),?_⟩)) (λ_=>trivial) rfl (by decide +kernel))) (ae ak) (λ_ _=>rfl)))) rfl trivial (λ_=>by repeat' (first | exact trivial | refine⟨.inl rfl,?_⟩ | refine⟨.inr (.inl rfl),?_⟩ | refine⟨.inr (.inr ⟨_,rfl⟩),?_⟩)) (λ_=>trivial) rfl (by decide +kernel)))),λds Q h=>?_⟩
  obtain⟨G,rfl,hG,hr,q⟩:=h
  walk_at"l3"
  refine gw G (λr=>D.lst false (aj r)) (λr=>D.int (dN r:Nat)) (by rw[jx];rfl) (λa b h=>VC a b h) (λr cW=>?_) (.inr λr _=>rfl) (by rw[sL];omega) ?_
  ·obtain⟨h1,x,hx,h3⟩:=hr r cW
   walk_at"l3"
   refine Ii (aS r.length) (λ(i:Nat)=>D.tup [.int (i:Int),.int ((r.getD i 0:Nat):Int)]) (λ(i:Nat)=>D.int (i:Int)) (λi=>r.getD i 0 != 0) (cq9 r) (λa b h=>by injection h with h;simp at h;omega) (λi hi=>?_) (.inr λ_ _ _=>rfl) (by rw[eH,sL];omega) ?_
   ·walk_at"l3"
    refine⟨?_,λ_=>trivial⟩
    by_cases h0:r.getD i 0=0
    ·rw[h0];rfl
    ·rw[decide_eq_false (by omega),bne_iff_ne.mpr h0];rfl
   ·refine⟨.int (dN r:Nat),L3.Ul (k:=0) ?_,rfl,rfl⟩
    rw[cm,cc1 ⟨x,hx,h3⟩];rfl
  ·rw[cG,dh]at q
   exact q
noncomputable abbrev aZ4:bh:=λds Q=>∃(G:List (List Nat)) (u:List Nat),ds=[.lst false (bD false G),.lst false (aj u)]/\G.length<=1000/\(∀r∈G,r.length<=1000)/\Q (.lst true (bD true (bM G u)))
theorem aZ5(T:Txt K mg t):aM P w K mg base aT 1 t.Le t.Lf ["table","due"] (bq (aZ4 )):=by
 refine bA T.XF aX8 ?_ ?_
 ·intro ds Q h
  obtain⟨G,u,rfl,hG,hr,q⟩:=h<;>rfl
 ·intro aE A outer s H E hr
  refine⟨_,(aB (aO (fc [] ["row","x"] rfl (nr rfl T.mq (af (bv 0) (af (bv 1) ao))) (λ_ _ _ _=>(gi (i1:=0) (i2:=1) rfl (show(["row","x"]:List Str).Nodup by decide +kernel) rfl (ah (lookup_relabel_local rfl)) rfl (ah (lookup_relabel_local rfl)) (by decide) (by decide) (bw (lookup_relabel_local rfl)) (bw (lookup_relabel_local rfl)))) (λ_ _ _ _=>eR) (λ_ _ _ _=>(aA cu (bv 0) (cP5 (af (bv 1) ao)))) rfl trivial (λ_=>by repeat' (first | exact trivial | refine⟨.inl rfl,?_⟩ | refine⟨.inr (.inl rfl),?_⟩ | refine⟨.inr (.inr ⟨_,rfl⟩),?_⟩)) (λ_=>trivial) rfl (by decide +kernel)))),λds Q h=>?_⟩
  obtain⟨G,u,rfl,hG,hr,q⟩:=h
  walk_at"l3"
  refine⟨_,_,rfl,rfl,?_⟩
  refine CJ (G.zip u) (λz=>D.tup [.lst false (aj z.1),.int ((z.2:Nat):Int)]) (λz=>D.lst true (aj (z.1++[z.2]))) (cr5 G u) (λa b h=>?_) (λz hz=>?_) CK (.inr λz _=>e8 _) (by rw[t8,sL];omega) ?_
  ·injection h with h
   simp only[uf,D.lst.injEq,D.int.injEq,and_true,true_and]at h
   exact Bl (VB h.1) (by omega)
  ·have hl:=hr _ (qq hz).1
   walk_at"l3"
   exact⟨by decide,by omega,mh z.1 [z.2]⟩
  ·unfold bM bD at q
   rw[qE]at q
   rw[jB,qE]
   exact q
noncomputable def ql:Option (List Nat)->D
 | some l=>.lst true (aj l)
 | none=>.ax
noncomputable abbrev a71(t:km)(P:Program)(w:World)(K:Frag)(mg:Str->Option Value)(base:Heap):bh:=λds Q=>∃(m:Bool × Nat) (G:List (List Nat)) (u:List Nat),ds=[fD t.aK t.aN m,.lst false (bD false G),.lst false (aj u)]/\m∈aw/\0<G.length/\G.length<=900/\u.length=G.length/\RT (aa m) (bt G) G/\AllLt (aa m) u/\bt G<=800/\(∀r∈cY m (bM G u),∃x∈r,x≠0)/\Q (ql (p8 m G u))
theorem a72(T:Txt K mg t):aM P w K mg base aT 4 t.Lg t.Lh ["field","table","due"] (bq (a71 t P w K mg base)):=by
 refine bA T.XG xq ?_ ?_
 ·intro ds Q h
  obtain⟨m,G,u,rfl,hm,YA,hG,hu,hR,YB,hw,hn,q⟩:=h<;>rfl
 ·intro aE A outer s H E hr
  refine⟨_,(az (aI (i:=3) xq.nd rfl (ah rfl) (aZ ((Yw T).mono (by decide)) hr rfl T.Xy T.LO.kp T.Xz aR (af (bv 1) ao)))
   (az (aI (i:=4) xq.nd rfl (ah rfl) (aZ ((a07 T).mono (by decide)) hr rfl T.eh2 T.XD.kp T.eh3 aR (af (bv 0) (af (ae (aZ ((aZ5 T).mono (by decide)) hr rfl T.eh6 T.XF.kp T.eh7 aR (af (bv 1) (af (bv 2) ao)))) ao))))
   (az (aI (i:=5) xq.nd rfl (ah rfl) (aZ ((co3 T).mono (by decide)) hr rfl T.eh4 T.XE.kp T.eh5 aR (af (bv 4) ao)))
   (G0 5 (G0 4 (az (cj (bG Uq (bv 3) (bv 5) (by with_unfolding_all rfl)) (aB (aO gu)) cF)
   (az (aI (i:=6) xq.nd rfl (ah rfl) (aA fV (ae (eI (cX ak dy))) (bv 3)))
   (az (e7 dB rfl (nr rfl T.mq (af (bv 5) (af (bv 4) ao))) (gi (i1:=7) (i2:=8) rfl xq.nd rfl (ah rfl) rfl (ah rfl))
    (aB (sE (i:=6) rfl (by first | exact ah rfl | exact bw (ah rfl)) (dF (br (bv 8) (bv 3) (λ_ _=>rfl))) (bv 7))))
   (aB (aO (em 6))))))))))),λds Q h=>?_⟩
  obtain⟨m,G,u,rfl,hm,YA,hG,hu,hR,YB,hw,hn,q⟩:=h
  have cZ:=(bO hm).lo
  refine ay λU hU=>?_
  walk_at"l3"
  refine⟨G,rfl,by omega,λr cW=>by rw[(hR r cW).1];omega,hU _ ?_⟩
  clear hU U
  refine ay λU hU=>?_
  walk_at"l3"
  refine⟨G,u,rfl,by omega,λr cW=>by rw[(hR r cW).1];omega,?_⟩
  obtain⟨w1,w2,w3⟩:=Dh YA hu hR YB
  have w4:=w3
  rw[<-w1]at w4
  have I:=zX hm w4 (bt (bM G u))
  have il:(cY m (bM G u)).length<=900:=by
   show(i8 m (bM G u) (bt (bM G u))).1.length<=900
   have:=I.l
   omega
  have ia:RT (aa m) (bt G+1) (cY m (bM G u)):=by rw[<-w1];exact I.a
  have DQ:∀X:List (List Nat),(D.lst true (bD true X)).fr=true:=λX=>by rw[gh,VO];rfl
  refine⟨m,bM G u,by rw[fh,jx],hm,by omega,w4,by omega,by rw[DQ,jb],hU _ ?_⟩
  clear hU U
  unfold p8 at q
  generalize cY m (bM G u)=R at il ia hn q ⊢
  refine ay λU hU=>?_
  walk_at"l3"
  refine⟨R,rfl,by omega,λr cW=>⟨by rw[(ia r cW).1];omega,hn r cW⟩,e8 _,hU _ ?_⟩
  clear hU U
  refine⟨_,rfl,_,rfl,?_⟩
  rw[vF]
  simp only[jE,jD,fh,jx]
  refine ay λU hU=>?_
  walk_at"l3"
  refine⟨_,rfl,?_⟩
  have mc:=VT (bt G) (R.map dN)
  split
  ·rename_i h
   rw[decide_eq_true h]at mc
   rw[if_pos mc.symm]at q
   exact q
  rename_i h
  rw[decide_eq_false h]at mc
  rw[if_neg (by rw[<-mc];decide)]at q
  refine hU _ ?_
  clear hU U
  refine ay λU hU=>?_
  walk_at"l3"
  have er:aC (aV (bt G) 0)=aj (aV (bt G) 0):=by
   rw[cG,oo];unfold aC;rw[oo];rfl
  rw[gD,er]
  refine⟨by decide,⟨by omega,by omega,by omega⟩,hU _ ?_⟩
  clear hU U
  refine ay λU hU=>?_
  walk_at"l3"
  refine⟨_,_,rfl,rfl,?_⟩
  refine fj.mk (λk δ=>∃o3 o4,δ=[some (fD t.aK t.aN m),some (D.lst false (bD false G)),some (D.lst false (aj u)),some (D.int (bt G)),some (D.lst false (bD false R)),some (D.lst false (aj (R.map dN))),some (D.lst true (aj ((((R.map dN).zip R).take k).foldl (λx z=>x.set z.1 (z.2.getD (bt G) 0)) (aV (bt G) 0)))),o3,o4]) ⟨_,_,rfl⟩ ?_ ?_
  ·rintro k d δ hd ⟨o3,o4,rfl⟩
   obtain⟨hk,rfl⟩:=cD6 hd
   clear hd
   obtain⟨lw,la⟩:=ia _ (dv hk)
   have xl:=VU (λz:Nat × List Nat=>z.1) (λz=>z.2.getD (bt G) 0) (((R.map dN).zip R).take k) (aV (bt G) 0)
   rw[ib]at xl
   have hld:dN R[k]<bt G:=by
    obtain⟨x,hx,h0⟩:=hn _ (dv hk)
    have h1:dN R[k]<R[k].length:=dk0 ⟨x,hx,by simpa using h0⟩
    have h2:dN R[k]≠bt G:=λz=>by
     have:(R.map dN).contains (bt G)=true:=t9.mpr (cH.mpr ⟨R[k],dv hk,z⟩)
     rw[<-mc]at this;cases this
    omega
   walk_at"l3"
   refine⟨.int (R[k].getD (bt G) 0:Nat),by rw[nF (by omega) (by omega),gD],?_⟩
   refine⟨rfl,_,dN R[k],rfl,?_,_,_,?_,rfl,rfl⟩
   ·rw[zQ (by omega) (by rw[dz,xl];omega)];rfl
   ·rw[CT,mI,Bp]
    have ez:((R.map dN).zip R)[k]?=some (dN R[k],R[k]):=by
     rw[jB,mK,cm,aJ hk];rfl
    rw[ez];rfl
  ·rintro δ ⟨o3,o4,rfl⟩
   refine hU _ ?_
   walk_at"l3"
   rw[show((R.map dN).zip R).take (dq (aj (R.map dN)) (bD false R)).length=(R.map dN).zip R from x6 (by unfold dq;rw[t8,jY,dz,nH];exact bI _)]
   exact q
noncomputable abbrev aZ6(t:km)(P:Program)(w:World)(K:Frag)(mg:Str->Option Value)(base:Heap):bh:=λds Q=>∃(m:Bool × Nat) (b:Nat) (ps us:List Nat),ds=[fD t.aK t.aN m,.int b,.lst false (aj ps),.lst false (aj us)]/\m∈aw/\(∀p∈ps,p<=64)/\ps.length<=64/\us.length<=64/\(ps≠[]->0<us.length)/\b<=64/\AllLt (aa m) us/\Q (ql (iE m b ps us))
theorem aZ7(T:Txt K mg t):aM P w K mg base aT 5 t.Li t.Lj ["field","first","places","sums"] (bq (aZ6 t P w K mg base)):=by
 refine bA T.XH WO ?_ ?_
 ·intro ds Q h
  obtain⟨m,b,ps,us,rfl,hm,hp,bL,hul,bx,hb,hu,q⟩:=h<;>rfl
 ·intro aE A outer s H E hr
  refine⟨_,(az (cj (bG (eJ (cI hr)) (bv 2) (ae (eI dy)) (bC _)) (aB (aO (zf (jN (ae (ck (Hf rfl) (by rfl) T.LR Gz (af (ae (fc [] ["x"] rfl (nh (bv 3)) (λ_ _ _ _=>(dm (i:=0) (show(["x"]:List Str).Nodup by decide +kernel) rfl (ah (lookup_relabel_local rfl)) (by decide) (bw (lookup_relabel_local rfl)))) (λ_ _ _ _=>eR) (λ_ _ _ _=>(qZ (eJ (cI hr)) (bv 0) (ae ak) (bC _))) rfl trivial (λ_=>by repeat' (first | exact trivial | refine⟨.inl rfl,?_⟩ | refine⟨.inr (.inl rfl),?_⟩ | refine⟨.inr (.inr ⟨_,rfl⟩),?_⟩)) (λ_=>trivial) rfl (by decide +kernel))) ao)))) (eI dy) gu))) cF)
   (az (C9 (i:=4) WO.nd rfl (ah rfl) [("places",2),("field",0),("first",1)] ["i"] rfl (iX rfl T.fY (af (ae (ck (de) (by rfl) T.df da (af (bv 3) ao))) ao)) (λ_ _ _ _=>(dm (i:=3) (show(["places","field","first","i"]:List Str).Nodup by decide +kernel) rfl (bw rfl) (by decide) (ah rfl))) (λ_ _ _ _=>eR) (by exact λ_ _ _ _=>(fc [("field",1),("first",2),("i",3)] ["place"] rfl (nh (bv 0)) (λ_ _ _ _=>(dm (i:=3) (show(["field","first","i","place"]:List Str).Nodup by decide +kernel) rfl (ah (lookup_relabel_local rfl)) (by decide) (bw (lookup_relabel_local rfl)))) (λ_ _ _ _=>eR) (λ_ _ _ _=>(g7 (P:=P) (w:=w) (K:=K) (mg:=mg) (base:=base) (n:=1) (bv 0) (hr.mono (by decide)) (af (ae (aA fV (ae (aA cu (bv 1) (bv 2))) (bv 3))) ao))) rfl ⟨rfl,⟨rfl,⟨rfl,trivial⟩⟩⟩ (λ_=>by repeat' (first | exact trivial | refine⟨.inl rfl,?_⟩ | refine⟨.inr (.inl rfl),?_⟩ | refine⟨.inr (.inr ⟨_,rfl⟩),?_⟩)) (λ_=>⟨⟨rfl,.inl rfl,.inl rfl,_,rfl,rfl⟩,⟨⟨rfl,.inl rfl,.inl rfl,_,rfl,rfl⟩,⟨⟨rfl,.inl rfl,.inl rfl,_,rfl,rfl⟩,trivial⟩⟩⟩) rfl (by decide +kernel))) rfl ⟨rfl,⟨rfl,⟨rfl,trivial⟩⟩⟩ (λ_=>by repeat' (first | exact trivial | refine⟨.inl rfl,?_⟩ | refine⟨.inr (.inl rfl),?_⟩ | refine⟨.inr (.inr ⟨_,rfl⟩),?_⟩)) (λ_=>⟨⟨rfl,.inl rfl,.inl rfl,_,rfl,rfl⟩,⟨⟨rfl,.inl rfl,.inl rfl,_,rfl,rfl⟩,⟨⟨rfl,.inl rfl,.inl rfl,_,rfl,rfl⟩,trivial⟩⟩⟩) rfl (by decide +kernel))
   (aB (aO (aZ ((a72 T).mono (by decide)) hr rfl T.eh8 T.XG.kp T.eh9 aR (af (bv 0) (af (bv 4) (af (bv 3) ao)))))))),λds Q h=>?_⟩
  obtain⟨m,b,ps,us,rfl,hm,hp,bL,hul,bx,hb,hu,q⟩:=h
  have m0:=bB m hm
  have cZ:=(bO hm).lo
  refine ay λU hU=>?_
  walk_at"l3"
  refine⟨by decide,rfl,?_⟩
  by_cases p0:ps=[]
  ·subst p0
   rw[if_pos (show bH (D.lst false (aj [])) (D.lst true [])=true from rfl)]
   refine gw us (λ(i:Nat)=>D.int (i:Int)) (λ(x:Nat)=>D.bl (x==0)) (sR _) jq (λx hx=>?_) (.inr λ_ _=>rfl) (by rw[sL];omega) ?_
   ·walk_at"l3"
    congr 1
    exact propext (by omega)
   dsimp only
   refine⟨us.map (·==0),by unfold se;rw[dh];rfl,?_⟩
   unfold iE at q
   rw[if_pos rfl]at q
   rw[kX]
   split
   ·rename_i h
    rw[if_pos (by simpa using h)]at q
    exact⟨by decide,q⟩
   ·rename_i h
    rw[if_neg (by simpa using h)]at q
    exact q
  ·have d0:bH (D.lst false (aj ps)) (D.lst true [])=false:=by
    rw[show([]:List D)=aj [] from rfl,zP]
    exact decide_eq_false p0
   rw[d0,if_neg (by decide)]
   refine hU _ ?_
   clear hU U
   refine ay λU hU=>?_
   walk_at"l3"
   refine⟨⟨by omega,by omega⟩,gw (aS us.length) (λ(i:Nat)=>D.int (i:Int)) (λ(i:Nat)=>D.lst true (aj (ps.map λ(p:Nat)=>eS m (((b:Int)+(i:Int))*(p:Int))))) (vE _ rfl) jq (λi hi=>?_) (.inr λ_ _=>e8 _) (by rw[eH,sL];omega) ?_⟩
   ·have hi:=dA.mp hi
    walk_at"l3"
    refine gw ps (λ(i:Nat)=>D.int (i:Int)) (λ(p:Nat)=>D.int ((eS m (((b:Int)+(i:Int))*(p:Int)):Nat):Int)) (sR _) jq (λp nj=>?_) (.inr λ_ _=>rfl) (by rw[sL];omega) ?_
    ·have:=hp p nj
     walk_at"l3"
     obtain⟨C,ns,xs,sp,e1,e2,e3,e4⟩:=DH (P:=P) (w:=w) (base:=base) T hm (n:=((b:Int)+(i:Int))*(p:Int)) (Q:=λr=>r=D.int ((eS m (((b:Int)+(i:Int))*(p:Int)):Nat):Int)) rfl
     exact⟨C,ns,xs,sp,e1,e2,e3,ik.ok (.inl ⟨by omega,by omega⟩),e4⟩
    ·rw[cG,dh];rfl
   have et:((aS us.length).map λ(i:Nat)=>D.lst true (aj (ps.map λ(p:Nat)=>eS m (((b:Int)+(i:Int))*(p:Int)))))=bD true (hJ m b ps us.length):=by
    unfold hJ bD
    rw[dh];rfl
   rw[et]
   simp only[jE,jD]
   refine hU _ ?_
   clear hU U et
   obtain⟨r1,r2⟩:=IM hm b ps us.length
   have u0:=bx p0
   have g0:hJ m b ps us.length≠[]:=λz=>by rw[z]at r2;simp at r2;omega
   have eW:bt (hJ m b ps us.length)=ps.length:=IF r1 g0
   rw[<-eW]at r1
   have rr:∀r∈cY m (bM (hJ m b ps us.length) us),∃x∈r,x≠0:=by
    obtain⟨w1,w2,w3⟩:=Dh (by omega) r2.symm r1 hu
    rw[<-w1]at w3
    obtain⟨⟨Hd,I⟩,iR,_,_⟩:=IB hm w3
    intro r cW
    obtain⟨i,hi,rfl⟩:=ie cW
    have:=(I.Dg hm iR hi).2
    rwa [aL,aJ hi]at this
   unfold iE at q
   rw[if_neg p0]at q
   walk_at"l3"
   exact⟨m,_,us,rfl,hm,by omega,by omega,r2.symm,r1,hu,by omega,rr,(by cases p8 m (hJ m b ps us.length) us with | none=>rfl | some l=>exact e8 l),q⟩
theorem YC(m:Bool × Nat)(p x:Nat):∀{ps xs l:List Nat},xs.length=ps.length->dr m l (ps++[p]) (xs++[x])=(dr m l ps xs).set p (bg m (cf (dr m l ps xs) p) x)
 | [],[],l,_=>by simp only[mC,dr]
 | _::ps,_::xs,l,h=>by
  simp only[qF,dr]
  exact YC m p x (by simpa using h)
theorem YD{m:Bool × Nat}(hm:m∈aw):∀{ps xs l:List Nat},AllLt (aa m) l->AllLt (aa m) xs->AllLt (aa m) (dr m l ps xs)/\(dr m l ps xs).length=l.length
 | [],_,l,h,_=>by unfold dr;exact⟨h,rfl⟩
 | _::_,[],l,h,_=>by unfold dr;exact⟨h,rfl⟩
 | p::ps,x::xs,l,hl,hx=>by
  rw[dr]
  have:=YD hm (ps:=ps) (xs:=xs) (l:=l.set p (bg m (cf l p) x)) (λa ha=>by
   rcases yf ha with h1 | rfl
   ·exact hl a h1
   ·exact(eK hm (bQ hm hl p) (hx x gP)).2.1) λa ha=>hx a (eE _ ha)
  rw[mB]at this
  exact this
noncomputable abbrev aX5(cb cp:Addr):bh:=λds Q=>∃(m:Bool × Nat) (l ps xs:List Nat),ds=[fD cb cp m,.lst false (aj l),.lst false (aj ps),.lst false (aj xs)]/\m∈aw/\AllLt (aa m) l/\AllLt (aa m) xs/\xs.length=ps.length/\(∀p∈ps,p<l.length)/\l.length<=1000/\ps.length<=1000/\Q (.lst true (aj (dr m l ps xs)))
theorem aX6(T:Txt K mg t):aM P w K mg base aT 2 t.Lk t.Ll ["field","word","places","signs"] (bq (aX5 t.aK t.aN)):=by
 refine bA T.XI Je ?_ ?_
 ·intro ds Q h
  obtain⟨m,l,ps,xs,rfl,hm,hl,hx,B9,hp,AQ,LV,q⟩:=h<;>rfl
 ·intro aE A outer s H E hr
  refine⟨_,(az (aI (i:=4) Je.nd rfl (ah rfl) (zw (Cc) (by rfl) T.AI y0 (af (bv 1) ao)))
   (az (e7 dB rfl (nr rfl T.mq (af (bv 2) (af (bv 3) ao))) (gi (i1:=5) (i2:=6) rfl Je.nd rfl (ah rfl) rfl (ah rfl))
    (aB (sE (i:=4) rfl (by first | exact ah rfl | exact bw (ah rfl)) (g7 (P:=P) (w:=w) (K:=K) (mg:=mg) (base:=base) (n:=1) (bv 0) (hr.mono (by decide)) (af (br (bv 4) (bv 5) (λ_ _=>rfl)) (af (bv 6) ao))) (bv 5))))
   (aB (aO (em 4))))),λds Q h=>?_⟩
  obtain⟨m,l,ps,xs,rfl,hm,hl,hx,B9,hp,AQ,LV,q⟩:=h
  refine ay λU hU=>?_
  walk_at"l3"
  refine hU _ ?_
  clear hU U
  refine ay λU hU=>?_
  walk_at"l3"
  refine⟨_,_,rfl,rfl,?_⟩
  refine fj.mk (λj δ=>∃o3 o4,δ=[some (fD t.aK t.aN m),some (D.lst false (aj l)),some (D.lst false (aj ps)),some (D.lst false (aj xs)),some (D.lst true (aj (dr m l (ps.take j) (xs.take j)))),o3,o4]) ⟨_,_,rfl⟩ ?_ ?_
  ·rintro j d δ hd ⟨o3,o4,rfl⟩
   obtain⟨h1,h2,rfl⟩:=Wj hd
   clear hd
   walk_at"l3"
   obtain⟨C,ns,zs,sp,e1,e2,e3,e4⟩:=L5 (P:=P) (w:=w) (base:=base) T (bB m hm)
   obtain⟨b1,b2⟩:=YD hm (ps:=ps.take j) (xs:=xs.take j) hl λa ha=>hx a (ya ha)
   have YE:=hp _ (dv h1)
   rw[<-b2]at YE
   refine⟨C,ns,zs,sp,e1,e2,e3,.int ((dr m l (ps.take j) (xs.take j)).getD ps[j] 0:Nat),by rw[nF (by omega) (by omega),gD],?_⟩
   refine e4 _ _ _ ⟨rfl,_,_,rfl,zQ (by omega) (by rw[dz,gD];exact YE),_,_,?_,rfl,rfl⟩
   rw[(eK hm (b1.getD (by have:=(bO hm).lo;omega) _) (hx _ (dv h2))).1,gD,CT,mI,mI,aJ h1,aJ h2]
   exact congrArg aj (YC m _ _ (by rw[jz,jz];omega)).symm
  ·rintro δ ⟨o3,o4,rfl⟩
   rw[Wk,x6 (by omega),x6 (by omega)]
   refine hU _ ?_
   walk_at"l3"
   exact q
noncomputable abbrev aP8(t:km)(P:Program)(w:World)(K:Frag)(mg:Str->Option Value)(base:Heap):bh:=λds Q=>∃(m:Bool × Nat) (b e:Nat) (y:List (Option Nat)),ds=[fD t.aK t.aN m,.int b,.int e,.lst false (bZ y)]/\m∈aw/\(∀a,some a∈y->a<aa m)/\y.length+1<=aa m/\e<=63/\b<=64/\∀r:Option (List Nat),(∀w,r=some w↔Nr m b e y w)->Q (ql r)
theorem aP9(T:Txt K mg t):aM P w K mg base aT 6 t.Lm t.Ln ["field","first","extra","word"] (bq (aP8 t P w K mg base)):=by
 refine bA T.XJ tG ?_ ?_
 ·intro ds Q h
  obtain⟨m,b,e,y,rfl,hm,hy,hn,he,hb,q⟩:=h<;>rfl
 ·intro aE A outer s H E hr
  refine⟨_,(az (aI (i:=4) tG.nd rfl (ah rfl) (aZ ((aR8 T).mono (by decide)) hr rfl T.ec7 T.Xi.kp T.ec8 aR (af (bv 3) ao)))
   (az (cj (bG rW (ae (ck (de) (by rfl) T.df da (af (bv 4) ao))) (bv 2) (bC _)) (aB (aO gu)) cF)
   (az (aI (i:=5) tG.nd rfl (ah rfl) (aZ ((aG5 T).mono (by decide)) hr rfl T.ec9 T.Xj.kp T.ed0 aR (af (bv 3) ao)))
   (az (aI (i:=6) tG.nd rfl (ah rfl) (aZ ((aX2 T).mono (by decide)) hr rfl T.ed9 T.Xm.kp T.ee0 aR (af (bv 0) (af (bv 1) (af (bv 2) (af (bv 5) ao))))))
   (az (aI (i:=7) tG.nd rfl (ah rfl) (aZ ((aP6 T).mono (by decide)) hr rfl T.eg4 T.Xx.kp T.eg5 aR (af (bv 0) (af (bv 4) (af (bv 6) (af (ae (ck (de) (by rfl) T.df da (af (bv 3) ao))) ao))))))
   (az (cj (bG uI (bv 7) (ae gu) (bC _)) (aB (aO gu)) cF)
   (az (aI (i:=8) tG.nd rfl (ah rfl) (aA cu (bv 4) (bv 7)))
   (az (aI (i:=9) tG.nd rfl (ah rfl) (aZ ((aZ7 T).mono (by decide)) hr rfl T.ei0 T.XH.kp T.ei1 aR (af (bv 0) (af (bv 1) (af (bv 8) (af (bv 6) ao))))))
   (aB (aO (zf (bG uI (bv 9) (ae gu) (bC _)) gu (aZ ((aX6 T).mono (by decide)) hr rfl T.ei2 T.XI.kp T.ei3 aR (af (bv 0) (af (bv 5) (af (bv 8) (af (bv 9) ao)))))))))))))))),λds Q h=>?_⟩
  obtain⟨m,b,e,y,rfl,hm,hy,hn,he,hb,q⟩:=h
  have xD:=(bO hm).hi
  have YF:=p9 y
  have ll:(aX y).length<=y.length:=eM (dk4 ..) (by rw[eH];exact bI _)
  have kl:=vR hm hy
  have kn:=qe y
  have YG:∀l:List Nat,((bZ y).all D.pl||(D.lst true (aj l)).fr)=true:=λl=>by rw[e8,jb]
  refine ay λU hU=>?_
  walk_at"l3"
  refine⟨y,by rw[tF],by omega,YG _,hU _ ?_⟩
  clear hU U
  refine ay λU hU=>?_
  walk_at"l3"
  by_cases h1:e<(L3.aX y).length
  ·rw[if_pos (by omega)]
   exact q none λw=>⟨λz=>(by cases z),λz=>by have:=z.fK;omega⟩
  rw[if_neg (by omega)]
  refine hU _ ?_
  clear hU U
  refine ay λU hU=>?_
  walk_at"l3"
  refine⟨y,by rw[tF],by omega,YG _,hU _ ?_⟩
  clear hU U
  refine ay λU hU=>?_
  walk_at"l3"
  refine⟨m,bU y,b,e,rfl,hm,kl,by omega,e8 _,hU _ ?_⟩
  clear hU U
  rw[show((aS e).map λ(i:Nat)=>aG m (eS m ((b:Int)+(i:Int))) (bU y))=eV m b e (bU y) from rfl]
  have rl:(eV m b e (bU y)).length=e:=z6 ..
  have ra:=IW hm (b:=b) (e:=e) kl
  refine ay λU hU=>?_
  walk_at"l3"
  have AS:∀o:Option (List Nat),(DP o).fr=true:=λo=>by
   cases o with
   | none=>rfl
   | some l=>exact e8 l
  refine⟨m,L3.aX y,eV m b e (bU y),y.length,by rw[Dm],hm,ra,by omega,by omega,by omega,λp hp=>by have:=YF.2 p hp;omega,λL c bb o I lc hc=>⟨AS _,hU _ ?_⟩⟩
  clear hU U
  rw[rl]at I ⊢
  have q:=q (Dk m b e y L c) λw=>cQ4 hm hy hn (by rw[IY];exact I) lc hc
  unfold Dk at q
  rw[if_neg h1]at q
  have DR:∀fd,nR m (L3.aX y) (e-(L3.aX y).length) y.length L c=some fd->∀p∈fd,p<y.length:=λfd hf p hp=>by
   unfold nR at hf
   split at hf
   ·cases hf
   ·split at hf
    ·cases hf
    ·cases hf
     exact(vQ.mp hp).1
  have DS:∀fd,nR m (L3.aX y) (e-(L3.aX y).length) y.length L c=some fd->(L3.aX y).length+fd.length<=e:=λfd hf=>by
   unfold nR at hf
   split at hf
   ·cases hf
   ·split at hf
    ·cases hf
    ·rename_i h2 h3
     cases hf
     have:(fJ m c y.length).length=L:=Ft λz=>h3 (.inl z)
     omega
  generalize nR m (L3.aX y) (e-(L3.aX y).length) y.length L c=wo at q DR DS ⊢
  refine ay λU hU=>?_
  walk_at"l3"
  cases wo with
  | none=>exact q
  | some fd =>
   have DR:=DR fd rfl
   have DS:=DS fd rfl
   change Q (ql ((iE m b (L3.aX y++fd) (eV m b e (bU y))).map (dr m (bU y) (L3.aX y++fd))))at q
   rw[if_neg (by exact eF),show DP (some fd)=D.lst true (aj fd) from rfl]
   refine hU _ ?_
   clear hU U
   refine ay λU hU=>?_
   walk_at"l3"
   refine⟨by show _<=16777216;omega,hU _ ?_⟩
   clear hU U
   have pl:(L3.aX y++fd).length<=e:=by rw[eG];exact DS
   have pp:∀p∈L3.aX y++fd,p<y.length:=λp hp=>by
    rcases bW.mp hp with h | h
    ·exact YF.2 p h
    ·exact DR p h
   have p0:L3.aX y++fd≠[]->0<(eV m b e (bU y)).length:=λz=>by
    have:=Fm.mpr z
    omega
   generalize L3.aX y++fd=ps at q pl pp p0 ⊢
   refine ay λU hU=>?_
   walk_at"l3"
   have AS:(ql (iE m b ps (eV m b e (bU y)))).fr=true:=by cases iE m b ps (eV m b e (bU y))with | none=>rfl | some l=>exact e8 l
   refine⟨m,b,ps,eV m b e (bU y),rfl,hm,λp hp=>by have:=pp p hp;omega,by omega,by omega,p0,hb,ra,AS,hU _ ?_⟩
   clear hU U
   cases sg:iE m b ps (eV m b e (bU y))with
   | none =>
    rw[sg]at q
    walk_at"l3"
    exact q
   | some X =>
    rw[sg]at q
    obtain⟨x1,x2,x3⟩:=IQ hm p0 ra sg
    rw[show ql (some X)=D.lst true (aj X) from rfl]
    walk_at"l3"
    exact⟨m,bU y,ps,X,rfl,hm,kl,x2,x1,λp hp=>by have:=pp p hp;omega,by omega,by omega,e8 _,q⟩
theorem cn9{y:List (Option Nat)}{w:List Nat}:(dq (bZ y) (aj w)).map D.sh=(jB y w).map λp=>D.tup [fX p.1,D.int (p.2:Int)]:=by
 rw[zy,tF,sR]
 unfold dq bZ
 rw[jB,yc,qE]
theorem cn3(a b:Option Nat × Nat)(h:D.tup [fX a.1,D.int (a.2:Int)]=D.tup [fX b.1,D.int (b.2:Int)]):a=b:=by
 injection h with h
 injection h with h1 h2
 injection h2 with h2 _
 injection h2 with h2
 exact Bl (WC _ _ h1) (by omega)
theorem CM{y:List (Option Nat)}{w:List Nat}:((fK y w:Nat):Int)=((jB y w).map λp=>((z8 p.1 p.2:Nat):Int)).sum:=by
 unfold fK
 generalize jB y w=l
 induction l with
 | nil=>rfl
 | cons a l ih=>rw[dP,yj,dP,yj,qG,ih]
noncomputable abbrev aZ8:bh:=λds Q=>∃(y:List (Option Nat)) (w:List Nat),ds=[.lst false (bZ y),.lst false (aj w)]/\y.length<=1000/\Q (.int (fK y w:Nat))
theorem YH(T:Txt K mg t):aM P w K mg base aT 1 t.Lo t.Lp ["_law_row","_law_word_here"] (bq (aZ8 )):=by
 refine bA T.LQ aX9 ?_ ?_
 ·intro ds Q h
  obtain⟨y,w,rfl,hy,q⟩:=h<;>rfl
 ·intro aE A outer s H E hr
  refine⟨_,(aB (aO (ck (Ua rfl) (by rfl) T.XW SV (af (ae (fc [] ["_law_sign","_law_due"] rfl (nr rfl T.mq (af (bv 0) (af (bv 1) ao))) (λ_ _ _ _=>(gi (i1:=0) (i2:=1) rfl (show(["_law_sign","_law_due"]:List Str).Nodup by decide +kernel) rfl (ah (lookup_relabel_local rfl)) rfl (ah (lookup_relabel_local rfl)) (by decide) (by decide) (bw (lookup_relabel_local rfl)) (bw (lookup_relabel_local rfl)))) (λ_ _ _ _=>eR) (λ_ _ _ _=>(zf (bG uI (bv 0) (ae gu) (bC _)) ak (aA fV (ae ak) (ae (zw cO3 (by rfl) T.XU SW (af (ae (qZ (jQ (cI hr)) (bv 0) (bv 1) (bC _))) ao)))))) rfl trivial (λ_=>by repeat' (first | exact trivial | refine⟨.inl rfl,?_⟩ | refine⟨.inr (.inl rfl),?_⟩ | refine⟨.inr (.inr ⟨_,rfl⟩),?_⟩)) (λ_=>trivial) rfl (by decide +kernel))) ao)))),λds Q h=>?_⟩
  obtain⟨y,w,rfl,hy,q⟩:=h
  walk_at"l3"
  refine⟨_,_,rfl,rfl,CJ (jB y w) (λp=>D.tup [fX p.1,D.int (p.2:Int)]) (λp=>D.int (z8 p.1 p.2:Nat)) cn9 cn3 (λp hp=>?_) CK (.inr λ_ _=>rfl) (by rw[sL,t8];omega) ?_⟩
  ·obtain⟨a,b⟩:=p
   cases a with
   | none =>
    walk_at"l3"
    rw[if_pos (by exact rfl)];rfl
   | some a =>
    walk_at"l3"
    rw[if_neg (by exact eF),show bH (fX (some a)) (D.int (b:Int))=decide ((a:Int)=(b:Int)) from i3 _ _]
    refine⟨rfl,da5 5 (by decide) (by split<;>decide) (by decide),?_⟩
    show _=(((if a≠b then 2 else 0:Nat):Nat):Int)
    by_cases c:a=b
    ·rw[decide_eq_true (by omega),if_neg (by decide),if_neg (λz=>z c)];rfl
    ·rw[decide_eq_false (by omega),if_pos (by decide),if_pos c];rfl
  ·refine⟨(jB y w).map λp=>((z8 p.1 p.2:Nat):Int),by unfold aC;rw[dh];rfl,?_⟩
   rw[CM]at q
   exact q
noncomputable abbrev aQ0:bh:=λds Q=>∃(ns:List Int) (m:Bool × Nat) (c:List Nat),ds=[.fz (aC ns),cS m,.int (aa m),.lst false (aj c)]/\m∈aw/\c.length<=64/\AllLt (aa m) c/\∀y:List (Option Nat),y.length=c.length->(∀a,some a∈y->a<aa m)->Q (.lst true (bZ y))
theorem aQ1(T:Txt K mg t):aM P w K mg base aT 2 t.Lq t.Lr ["_law_script","_law_told_here","_law_many_here","_law_word_here"] (bq (aQ0 )):=by
 refine bA T.XO Jf ?_ ?_
 ·intro ds Q h
  obtain⟨ns,m,c,rfl,hm,hc,js,q⟩:=h<;>rfl
 ·intro aE A outer s H E hr
  refine⟨_,(az (aI (i:=4) Jf.nd rfl (ah rfl) (eI dy))
   (az (e7 dB rfl (cT7 rfl T.mq (bv 3) (aZ ((X8 T).mono (by decide)) hr rfl T.Xd T.LH.kp T.Xe aR (af (ae (aZ ((gO T).mono (by decide)) hr rfl T.gL T.gC.kp T.gM aR (af (bv 0) (af (ae ak) ao)))) (af (ae (aA cu (bv 2) (ae ak))) (af (ae (ck (de) (by rfl) T.df da (af (bv 3) ao))) ao))))) (gi (i1:=5) (i2:=6) rfl Jf.nd rfl (ah rfl) rfl (ah rfl))
    (aB (cj (bG (eJ (cI hr)) (bv 6) (bv 2) (bC _)) (aB (sA (i:=4) rfl (by first | exact ah rfl | exact bw (ah rfl)) gu)) (aB (sA (i:=4) rfl (by first | exact ah rfl | exact bw (ah rfl)) (aZ ((DN T).mono (by decide)) hr rfl T.DB T.Ai.kp T.DC aR (af (bv 1) (af (bv 5) (af (bv 6) ao)))))))))
   (aB (aO (em 4))))),λds Q h=>?_⟩
  obtain⟨ns,m,c,rfl,hm,hc,js,q⟩:=h
  have cZ:=(bO hm).lo
  have xD:=(bO hm).hi
  have m0:=bB m hm
  refine ay λU hU=>?_
  walk_at"l3"
  refine⟨by decide,hU _ ?_⟩
  clear hU U
  refine ay λU hU=>?_
  walk_at"l3"
  refine⟨ns,7,rfl,by decide,_,aa m+1,c.length,rfl,by omega,by omega,hc,λdg ld hd=>⟨rfl,_,_,rfl,rfl,?_⟩⟩
  rw[sR,<- cG]
  refine fj.mk (λj δ=>∃(y:List (Option Nat)) (o1 o2:Option D),(y.length=j/\∀a,some a∈y->a<aa m)/\δ=[some (D.fz (aC ns)),some (cS m),some (D.int (aa m)),some (D.lst false (aj c)),some (D.lst true (bZ y)),o1,o2]) ⟨[],_,_,⟨rfl,λa ha=>by cases ha⟩,rfl⟩ ?_ ?_
  ·rintro j d δ ot ⟨y,o1,o2,⟨y1,y2⟩,rfl⟩
   obtain⟨h1,h2,rfl⟩:=Wj ot
   clear ot hU
   have e2:=hd _ (dv h2)
   have e1:=js _ (dv h1)
   have yl:=Dm y
   have ap:∀v:Option Nat,(∀a,v=some a->a<aa m)->bZ y++[fX v]=bZ (y++[v])/\(y++[v]).length=j+1/\∀a,some a∈y++[v]->a<aa m:=λv hv=>by
    refine⟨by unfold bZ;rw[jW];rfl,by rw[eG,y1];rfl,λa ha=>?_⟩
    rcases bW.mp ha with h | h
    ·exact y2 a h
    ·exact hv a (iH.mp h).symm
   walk_at"l3"
   split
   ·obtain⟨a1,a2,a3⟩:=ap none λa ha=>by cases ha
    exact⟨⟨_,rfl⟩,by omega,_,_,_,⟨a2,a3⟩,a1,rfl,rfl⟩
   ·obtain⟨a1,a2,a3⟩:=ap (some (gp m c[j] dg[j])) λa ha=>by cases ha;exact nE hm e1 (by omega)
    exact⟨⟨_,rfl⟩,m,_,_,rfl,m0,by omega,_,_,_,⟨a2,a3⟩,a1,rfl,rfl⟩
  ·rintro δ ⟨y,o1,o2,⟨y1,y2⟩,rfl⟩
   refine hU _ ?_
   walk_at"l3"
   refine q y ?_ y2
   rw[y1,Wk];omega
noncomputable abbrev aU1:bh:=λds Q=>∃i:Int,ds=[.int i]/\Q (.bl true)
theorem aU2(T:Txt K mg t):aM P w K mg base aT 1 t.Ls t.Lu ["_law_x"] (bq (aU1 )):=by
 refine bA T.XQ aS3 ?_ ?_
 ·intro ds Q h
  obtain⟨i,rfl,q⟩:=h<;>rfl
 ·intro aE A outer s H E hr
  refine⟨_,(aB (aO (B4 (ae (Hi (by rfl) T.LS (by rfl) T.XU SW (bv 0))) (BE (c73 (ae (Hi (by rfl) T.LS (by rfl) T.ek0 cM7 (bv 0)))))))),λds Q h=>?_⟩
  obtain⟨i,rfl,q⟩:=h
  walk_at"l3"
  exact q
noncomputable abbrev aU3:bh:=λds Q=>∃(l:List Nat) (n:Nat),ds=[.lst false (aj l),.int n]/\(∀a∈l,a<n)/\l.length<=1000/\Q (.bl true)
theorem aU4(T:Txt K mg t):aM P w K mg base aT 2 t.Lv t.Lw ["_law_found","_law_many_here"] (bq (aU3 )):=by
 refine bA T.XR aS4 ?_ ?_
 ·intro ds Q h
  obtain⟨l,n,rfl,ha,hl,q⟩:=h<;>rfl
 ·intro aE A outer s H E hr
  refine⟨_,(az (cj (ze (jN (ae (Hi (by rfl) T.LS (by rfl) T.AI y0 (bv 0))))) (aB (aO jM)) cF)
   (aB (aO (ck (Hf rfl) (by rfl) T.LR Gz (af (ae (fc [("_law_many_here",1)] ["_law_x"] rfl (nh (bv 0)) (λ_ _ _ _=>(dm (i:=1) (show(["_law_many_here","_law_x"]:List Str).Nodup by decide +kernel) rfl (ah (lookup_relabel_local rfl)) (by decide) (bw (lookup_relabel_local rfl)))) (λ_ _ _ _=>eR) (λ_ _ _ _=>(B4 (ae (aZ ((aU2 T).mono (by decide)) hr rfl T.aV5 T.XQ.kp T.aV6 aR (af (bv 1) ao))) (BE (Hb rV zo (ae ak) (bv 1) (bv 0))))) rfl ⟨rfl,trivial⟩ (λ_=>by repeat' (first | exact trivial | refine⟨.inl rfl,?_⟩ | refine⟨.inr (.inl rfl),?_⟩ | refine⟨.inr (.inr ⟨_,rfl⟩),?_⟩)) (λ_=>⟨⟨rfl,.inl rfl,.inl rfl,_,rfl,rfl⟩,trivial⟩) rfl (by decide +kernel))) ao))))),λds Q h=>?_⟩
  obtain⟨l,n,rfl,ha,hl,q⟩:=h
  refine ay λU hU=>?_
  walk_at"l3"
  refine hU _ ?_
  clear hU U
  walk_at"l3"
  refine gw l (λ(i:Nat)=>D.int (i:Int)) (λ_=>D.bl true) (sR l) jq (λi hi=>?_) (.inr λ_ _=>rfl) (by rw[sL];omega) ?_
  ·walk_at"l3"
   have:=ha i hi
   refine⟨i,rfl,true,rfl,?_⟩
   rw[if_pos rfl,if_pos (by omega)]
   omega
  ·refine⟨l.map λ_=>true,by unfold se;rw[dh];rfl,?_⟩
   have e:(l.map λ_=>true).all id=true:=by simp
   rw[e];exact q
noncomputable abbrev aG8:bh:=λds Q=>∃(m:Bool × Nat) (n e f k:Nat) (c:List Nat),ds=[cS m,.int (aa m),.lst false (aC (fl m)),.tup [.int n,.int e,.int f,.int k],.lst false (aj c)]/\m∈aw/\e<=64/\f<=64/\c.length<=64/\AllLt (aa m) c/\(∀i,i<e->aG m (eS m ((f:Int)+(i:Int))) c=0)/\Q (.bl true)
theorem aG9(T:Txt K mg t):aM P w K mg base aT 2 t.Lx t.Ly ["_law_told_here","_law_many_here","_law_powers_here","_law_numbers_here","_law_word_here"] (bq (aG8 )):=by
 refine bA T.XS Af ?_ ?_
 ·intro ds Q h
  obtain⟨m,n,e,f,k,c,rfl,hm,he,hf,hc,js,hz,q⟩:=h<;>rfl
 ·intro aE A outer s H E hr
  refine⟨_,(az (e7 dB rfl (iX rfl T.fY (af (br (bv 3) (ae ak) (λ_ _=>rfl)) ao)) (dm (i:=5) Af.nd rfl (ah rfl))
    (az (aI (i:=6) Af.nd rfl (ah rfl) ak)
    (az (e7 dB rfl (nt rfl T.nY (af (bv 4) ao)) (gi (i1:=7) (i2:=8) rfl Af.nd rfl (ah rfl) rfl (ah rfl))
     (aB (aI (i:=6) Af.nd rfl (ah rfl) (aZ ((DN T).mono (by decide)) hr rfl T.DB T.Ai.kp T.DC aR (af (bv 0) (af (bv 6) (af (ae (aZ ((LZ T).mono (by decide)) hr rfl T.LD T.DA.kp T.LF aR (af (bv 0) (af (bv 8) (af (br (bv 2) (ae (aA cP (ae (aA fV (ae (aA cu (br (bv 3) (ae ak) (λ_ _=>rfl)) (bv 5))) (bv 7))) (ae (aA dR (bv 1) (ae ak))))) (λ_ _=>rfl)) ao))))) ao)))))))
    (aB (cj (bG (jQ (cI hr)) (bv 6) (ae ak) (bC _)) (aB (aO jM)) cF)))))
   (aB (aO jM))),λds Q h=>?_⟩
  obtain⟨m,n,e,f,k,c,rfl,hm,he,hf,hc,js,hz,q⟩:=h
  have cZ:=(bO hm).lo
  have xD:=(bO hm).hi
  have m0:=bB m hm
  refine ay λU hU=>?_
  walk_at"l3"
  refine⟨_,rfl,_,rfl,⟨by omega,by omega⟩,?_⟩
  refine vh (λi δ=>∃o1 o2 o3 o4,δ=[some (cS m),some (D.int (aa m)),some (D.lst false (aC (fl m))),some (D.tup [D.int n,D.int e,D.int f,D.int k]),some (D.lst false (aj c)),o1,o2,o3,o4]) ⟨_,_,_,_,rfl⟩ ?_ ?_
  ·rintro i δ hi ⟨o1,o2,o3,o4,rfl⟩
   simp only[gN,jE,jD]
   clear hU
   refine ay λU hU=>?_
   walk_at"l3"
   refine hU _ ?_
   clear hU
   refine ay λU hU=>?_
   walk_at"l3"
   refine fj.mk (λj δ=>∃o3 o4,δ=[some (cS m),some (D.int (aa m)),some (D.lst false (aC (fl m))),some (D.tup [D.int n,D.int e,D.int f,D.int k]),some (D.lst false (aj c)),some (D.int i),some (D.int ((sm (gp m) j λp=>gm m (cf c p) (px m (eS m ((f:Int)+(i:Int))) p):Nat):Int)),o3,o4]) ⟨_,_,rfl⟩ ?_ ?_
   ·rintro j d δ hd ⟨o3,o4,rfl⟩
    obtain⟨h1,rfl⟩:=zR hd
    clear hd hU
    walk_at"l3"
    have n0:=gR (((f:Int)+(i:Int))*(j:Int)) (show(aa m:Int)-1≠0 by omega)
    refine⟨_,rfl,ik.ok (.inl ⟨by omega,by omega⟩),by omega,_,kh (d:=.int (eS m (((f:Int)+(i:Int))*(j:Int)):Nat)) n0 ?_,m,_,_,rfl,hm,js _ (dv _),i7 hm _,rfl,m,_,_,rfl,m0,rfl,_,_,?_,rfl,rfl⟩
    ·unfold aC;rw[cm,HP hm];rfl
    ·show _=D.int ((gp m (sm (gp m) j _) (gm m (cf c j) (px m (eS m ((f:Int)+(i:Int))) j)):Nat):Int)
     rw[vI hm,show cf c j=c[j] by unfold cf;rw[aL,aJ h1];rfl]
   ·rintro δ ⟨o3,o4,rfl⟩
    refine hU _ ?_
    clear hU
    rw[kI,dz,<- z5 hm _ js _ (bI _),hz i hi]
    walk_at"l3"
    rw[if_neg (by decide)]
    exact⟨_,_,_,_,rfl,rfl,rfl,rfl⟩
  ·rintro δ ⟨o1,o2,o3,o4,rfl⟩
   refine hU _ ?_
   walk_at"l3"
   exact q
theorem DT(n:Nat)(o:Bool)(y:List (Option Nat)):dG (n+1) (.lst o (bZ y))=true:=by
 show(bZ y).all (dG n)=true
 refine cU.mpr λd hd=>?_
 obtain⟨a,_,rfl⟩:=cH.mp hd
 cases a with
 | none=>exact sG n
 | some a=>exact pG n _
theorem YI:∀y:List (Option Nat),bH.fk (bZ y) (bZ y)=true
 | []=>rfl
 | a::y=>by
  show(bH (fX a) (fX a)&&bH.fk (bZ y) (bZ y))=true
  rw[YI y,jA]
  cases a with
  | none=>rfl
  | some a=>exact beq_self_eq_true _
theorem YJ(o o':Bool)(y:List (Option Nat)):bH (.lst o (bZ y)) (.lst o' (bZ y))=true:=YI y
theorem cS3(T:Txt K mg t)(hB:Bm mg base):aM P w K mg base aT 11 t.Lz t.LA ["_law_script"] (zB [t.kO,t.kP] (bq (T6 ))):=by
 refine US T.ej4 jT ?_ ?_
 ·intro ds Q h
  obtain⟨ns,rfl,hl,q⟩:=h<;>rfl
 ·intro aE A outer s H E hT hr
  refine⟨_,(az (aI (i:=1) jT.nd rfl (ah rfl) (aZ ((aW0 T).mono (by decide)) hr rfl T.aY0 T.WS.kp T.aY1 aR (af (ae (aZ ((gO T).mono (by decide)) hr rfl T.gL T.gC.kp T.gM aR (af (bv 0) (af (ae ak) ao)))) ao)))
   (az (aI (i:=2) jT.nd rfl (ah rfl) (cE8 hT ((aT3 T hB).mono (by decide)) hr rfl T.aV2 T.W6.kp T.aV3 aR (af (bv 1) ao)))
   (az (aI (i:=3) jT.nd rfl (ah rfl) (aZ ((aW4 T).mono (by decide)) hr rfl T.aY2 T.W7.kp T.aY3 aR (af (bv 1) ao)))
   (az (aI (i:=4) jT.nd rfl (ah rfl) (aZ ((aR3 T).mono (by decide)) hr rfl T.aS5 T.W8.kp T.aS6 aR (af (bv 1) (af (bv 3) ao))))
   (az (aI (i:=5) jT.nd rfl (ah rfl) (aZ ((aO9 T).mono (by decide)) hr rfl T.aQ3 T.W9.kp T.aQ4 aR (af (bv 0) (af (bv 3) (af (ae (qZ (eJ (cI hr)) (ae (aA cP (ae (aZ ((gO T).mono (by decide)) hr rfl T.gL T.gC.kp T.gM aR (af (bv 0) (af (ae ak) ao)))) (ae ak))) (ae ak) (bC _))) ao)))))
   (az (aI (i:=6) jT.nd rfl (ah rfl) (aZ ((aX0 T).mono (by decide)) hr rfl T.aY6 T.Xg.kp T.aY7 aR (af (bv 0) (af (bv 1) (af (bv 3) (af (bv 4) (af (bv 5) ao)))))))
   (az (aI (i:=7) jT.nd rfl (ah rfl) (aZ ((aR6 T).mono (by decide)) hr rfl T.aS7 T.Xh.kp T.aS8 aR (af (bv 0) (af (bv 1) (af (bv 3) (af (bv 6) (af (br (bv 5) (ae ak) (λ_ _=>rfl)) ao)))))))
   (az (cj (bG (eJ (cI hr)) (ae (aA cP (ae (aA jl (ae (aZ ((gO T).mono (by decide)) hr rfl T.gL T.gC.kp T.gM aR (af (bv 0) (af (ae ak) ao)))) (ae ak))) (ae ak))) (ae ak) (bC _)) (aB (aI (i:=7) jT.nd rfl (ah rfl) (aZ ((aQ1 T).mono (by decide)) hr rfl T.aQ7 T.XO.kp T.aQ8 aR (af (bv 0) (af (bv 1) (af (bv 3) (af (bv 6) ao))))))) cF)
   (az (aI (i:=8) jT.nd rfl (ah rfl) (zw (Cc) (by rfl) T.AI y0 (af (bv 7) ao)))
   (az (aI (i:=9) jT.nd rfl (ah rfl) (aZ ((aP9 T).mono (by decide)) hr rfl T.ei4 T.XJ.kp T.ei5 aR (af (bv 2) (af (br (bv 5) (ae ak) (λ_ _=>rfl)) (af (br (bv 5) (ae ak) (λ_ _=>rfl)) (af (bv 8) ao))))))
   (az (cj (bG (jQ (cI hr)) (bv 8) (bv 7) (bC _)) (aB (aO jM)) cF)
   (az (aI (i:=10) jT.nd rfl (ah rfl) (aZ ((YH T).mono (by decide)) hr rfl T.XM T.LQ.kp T.XN aR (af (bv 7) (af (bv 6) ao))))
   (az (cj (bG uI (bv 9) (ae gu) (bC _)) (aB (aO (qZ rW (bv 10) (br (bv 5) (ae ak) (λ_ _=>rfl)) (bC _)))) cF)
   (az (cj (PW.pt (B3 (ze (jN (ae (aZ ((aU4 T).mono (by decide)) hr rfl T.aV7 T.XR.kp T.aV8 aR (af (bv 9) (af (bv 3) ao)))))) (B3 (bG (jQ (cI hr)) (ae (ck (de) (by rfl) T.df da (af (bv 9) ao))) (ae (ck (de) (by rfl) T.df da (af (bv 7) ao))) (bC _)) (FD (bG (eJ (cI hr)) (bv 10) (ae (aA cu (br (bv 5) (ae ak) (λ_ _=>rfl)) (ae ak))) (bC _)))))) (aB (aO jM)) cF)
   (az (cj (PW.pt (B3 (bG rW (ae (aZ ((YH T).mono (by decide)) hr rfl T.XM T.LQ.kp T.XN aR (af (bv 7) (af (bv 9) ao)))) (br (bv 5) (ae ak) (λ_ _=>rfl)) (bC _)) (FD (ze (jN (ae (aZ ((aG9 T).mono (by decide)) hr rfl T.aI3 T.XS.kp T.aI4 aR (af (bv 1) (af (bv 3) (af (bv 4) (af (bv 5) (af (bv 9) ao)))))))))))) (aB (aO jM)) cF)
   (az (cj (PW.pt (zd (bG rV (bv 10) (br (bv 5) (ae ak) (λ_ _=>rfl)) (bC _)) (yE (bG (jQ (cI hr)) (bv 9) (bv 6) (bC _))))) (aB (aO jM)) cF)
   (az (sA (i:=9) rfl (by first | exact ah rfl | exact bw (ah rfl)) ak)
   (aB (aO (qZ (eJ (cI hr)) (bv 8) (bv 7) (bC _))))))))))))))))))))),λds Q h=>?_⟩
  obtain⟨ns,rfl,hl,q⟩:=h
  refine ay λU hU=>?_
  walk_at"l3"
  refine⟨ns,0,rfl,by decide,_,rfl,λm hm hm3=>⟨by rfl,hU _ ?_⟩⟩
  clear hU U
  have hF:=bO hm
  have cZ:=hF.lo
  have xD:=hF.hi
  have hbl:=cC4 m hm
  have m0:=bB m hm
  refine ay λU hU=>?_
  walk_at"l3"
  refine⟨m,rfl,hm,hU _ ?_⟩
  clear hU U
  refine ay λU hU=>?_
  walk_at"l3"
  refine⟨m,rfl,by omega,by omega,hU _ ?_⟩
  clear hU U
  refine ay λU hU=>?_
  walk_at"l3"
  refine⟨m,rfl,hm,hU _ ?_⟩
  clear hU U
  refine ay λU hU=>?_
  walk_at"l3"
  refine⟨ns,5,rfl,by decide,by decide,?_⟩
  refine⟨ns,aa m,decide (ns.getD (om 5) 0%3=0),rfl,hm3,by omega,λn e f k n2 nM e1 en e39 fM xF wh=>?_⟩
  refine hU _ ?_
  clear hU U
  refine ay λU hU=>?_
  walk_at"l3"
  refine⟨ns,m,n,e,f,k,rfl,hm,nM,en,fM,xF,λc lc hc cz=>⟨e8 _,hU _ ?_⟩⟩
  clear hU U
  refine ay λU hU=>?_
  walk_at"l3"
  refine⟨_,rfl,ns,m,c,k,rfl,hm,by omega,by omega,hc,xF,λy ly hy=>?_⟩
  have YK:∀z:List (Option Nat),(D.lst true (bZ z)).fr=true:=λz=>by
   rw[gh,mG]
   refine cU.mpr λd hd=>?_
   obtain⟨a,_,rfl⟩:=cH.mp hd
   cases a<;>rfl
  refine⟨YK _,hU _ ?_⟩
  clear hU U
  refine ay λU hU=>?_
  walk_at"l3"
  have AS:∀o:Option (List Nat),(ql o).fr=true:=λo=>by
   cases o with
   | none=>rfl
   | some l=>exact e8 l
  have st:∀y:List (Option Nat),y.length=c.length->(∀a,some a∈y->a<aa m)->U [some (D.fz (aC ns)),some (cS m),some (fD t.aK t.aN m),some (D.int (aa m)),some (D.lst true (aC (fl m))),some (D.tup [D.int n,D.int e,D.int f,D.int k]),some (D.lst true (aj c)),some (D.lst true (bZ y)),none,none,none]:=by
   clear ly hy y
   intro y ly hy
   refine hU _ ?_
   clear hU U
   refine ay λU hU=>?_
   walk_at"l3"
   refine⟨cL0 _,hU _ ?_⟩
   clear hU U
   refine ay λU hU=>?_
   walk_at"l3"
   refine⟨_,rfl,_,rfl,m,f,e,y,by rw[tF,kF,kF],hm,hy,by omega,by omega,by omega,λr hr=>⟨by rw[AS,jb],hU _ ?_⟩⟩
   clear hU U
   refine ay λU hU=>?_
   walk_at"l3"
   refine⟨⟨DT 5 true _,DT 5 true _⟩,?_⟩
   rw[YJ,if_neg (by decide)]
   refine hU _ ?_
   clear hU U
   refine ay λU hU=>?_
   walk_at"l3"
   refine⟨y,c,by rw[tF],by omega,rfl,hU _ ?_⟩
   clear hU U
   refine ay λU hU=>?_
   walk_at"l3"
   have fz:∀w,Nr m f e y w↔w.length=y.length/\AllLt (aa m) w/\(∀i,i<e->aG m (eS m ((f:Int)+(i:Int))) w=0)/\fK y w<=e:=λw =>
    ⟨λh=>⟨h.ln,h.lt,h.z,by rw[Ja h.ln];exact h.fK⟩,λh=>⟨h.1,h.2.1,h.2.2.1,by rw[<-Ja h.1];exact h.2.2.2⟩⟩
   cases r with
   | none =>
    rw[if_pos (by exact rfl)]
    refine⟨_,rfl,?_⟩
    dsimp only
    rw[decide_eq_true]
    ·exact q
    ·have:¬ fK y c<=e:=λh=>absurd ((hr c).mpr ((fz c).mpr ⟨ly.symm,hc,cz,h⟩)) (by simp)
     omega
   | some w1 =>
    have N1:=(hr w1).mp rfl
    have uq:=cJ5 hm (by omega) N1 (v:=c) ly.symm hc cz
    have F1:=((fz w1).mp N1).2.2.2
    have lw1:=N1.ln
    rw[if_neg (by exact eF),show ql (some w1)=D.lst true (aj w1) from rfl]
    refine hU _ ?_
    clear hU U
    refine ay λU hU=>?_
    walk_at"l3"
    refine⟨w1,aa m,rfl,N1.lt,by omega,rfl,true,rfl,?_⟩
    rw[if_neg (by decide),Dm,lw1,decide_eq_true rfl,if_neg (by decide)]
    refine⟨_,rfl,?_⟩
    dsimp only
    have ne:¬ fK y c=e+1:=λh=>by
     have:=uq (by omega)
     rw[this]at F1
     omega
    rw[if_neg (by omega)]
    refine hU _ ?_
    clear hU U
    refine ay λU hU=>?_
    walk_at"l3"
    refine⟨y,w1,by rw[tF],by omega,rfl,_,rfl,?_⟩
    dsimp only
    rw[if_neg (by omega)]
    refine⟨m,n,e,f,k,w1,rfl,hm,by omega,by omega,by omega,N1.lt,N1.z,rfl,true,rfl,?_⟩
    rw[if_neg (by decide)]
    refine hU _ ?_
    clear hU U
    refine ay λU hU=>?_
    walk_at"l3"
    refine⟨_,rfl,?_⟩
    dsimp only
    rw[show(if(fK y c:Int)<=(e:Int)then if(!decide (w1=c))=true then Q (D.bl false)else U _ else U _)=U _ by
     by_cases h:fK y c<=e
     ·rw[if_pos (by omega),decide_eq_true (uq (by omega)),if_neg (by decide)]
     ·rw[if_neg (by omega)]]
    refine hU _ ?_
    clear hU U
    refine ay λU hU=>?_
    walk_at"l3"
    refine⟨⟨_,rfl⟩,by omega,hU _ ?_⟩
    clear hU U
    walk_at"l3"
    refine⟨⟨DT 5 true _,DT 5 true _⟩,?_⟩
    rw[YJ]
    exact q
  clear hU
  refine⟨ns,5,rfl,by decide,?_⟩
  refine⟨jk (by decide) (by decide),by decide,?_⟩
  split
  ·exact⟨ns,m,c,rfl,hm,by omega,hc,λy ly hy=>⟨YK _,st y ly hy⟩⟩
  ·exact st y ly hy
end
set_option maxHeartbeats 0 in
theorem all_mk{l:PySem.W.OpenLaw}{w:World}{K:Frag}{h:Heap}{mg:Str->Option Value}{fa:Addr}{ts:List Addr}(X:K.In h)(G:h.Ns mainGlobals mg)(hfa:mg "law"=some (.ref fa))
  {od0 an0:Option Addr} {sl0:Array (Option Value)} {oc0 kV0 dc0 pm0 YL ct0:Value} {f0:Addr}
  {od1 an1:Option Addr} {sl1:Array (Option Value)} {oc1 kV1 dc1 pm1 YM ct1:Value} {f1:Addr}
  {od2 an2:Option Addr} {sl2:Array (Option Value)} {oc2 kV2 dc2 pm2 YN ct2:Value} {f2:Addr}
  {od3 an3:Option Addr} {sl3:Array (Option Value)} {oc3 kV3 dc3 pm3 YO ct3:Value} {f3:Addr}
  {od4 an4:Option Addr} {sl4:Array (Option Value)} {oc4 kV4 dc4 pm4 YQ ct4:Value} {f4:Addr}
  {od5 an5:Option Addr} {sl5:Array (Option Value)} {oc5 kV5 dc5 pm5 YR ct5:Value} {f5:Addr}
  {od6 an6:Option Addr} {sl6:Array (Option Value)} {oc6 kV6 dc6 pm6 YS ct6:Value} {f6:Addr}
  {od7 an7:Option Addr} {sl7:Array (Option Value)} {oc7 kV7 dc7 pm7 ct7:Value} {f7:Addr}
  {AU kO:Addr} {aJ4:Option Addr} {aJ5:Array (Option Value)} {YT:Array Value} {aJ6:Value}
  {od8 an8:Option Addr} {sl8:Array (Option Value)} {oc8 kV8 dc8 pm8 YU ct8:Value} {f8:Addr}
  {od9 an9:Option Addr} {sl9:Array (Option Value)} {oc9 kV9 dc9 pm9 YV ct9:Value} {f9:Addr}
  {eG5 eG6:Option Addr} {eG7:Array (Option Value)} {eG8 eG9 eH0 eH1 YW eH2:Value} {DU:Addr}
  {eH3 eH4:Option Addr} {eH5:Array (Option Value)} {eH6 eH7 eH8 eH9 YX eI0:Value} {DV:Addr}
  {eI1 eI2:Option Addr} {eI3:Array (Option Value)} {eI4 eI5 eI6 eI7 YY eI8:Value} {lU:Addr}
  {eI9 eJ0:Option Addr} {eJ1:Array (Option Value)} {eJ2 eJ3 eJ4 eJ5 eJ6:Value} {xG:Addr}
  {AV kP:Addr} {aN1:Option Addr} {aN2:Array (Option Value)} {YZ:Array Value} {aN3:Value}
  {eK0 eK1:Option Addr} {eK2:Array (Option Value)} {eK3 eK4 eK5 eK6 Y0 eK7:Value} {DW:Addr}
  {eK8 eK9:Option Addr} {eL0:Array (Option Value)} {eL1 eL2 eL3 eL4 Y1 eL5:Value} {DX:Addr}
  {eL6 eL7:Option Addr} {eL8:Array (Option Value)} {eL9 eM0 eM1 eM2 Y2 eM3:Value} {DY:Addr}
  {eM4 eM5:Option Addr} {eM6:Array (Option Value)} {eM7 eM8 eM9 eN0 Y3 eN1:Value} {DZ:Addr}
  {eN2 eN3:Option Addr} {eN4:Array (Option Value)} {eN5 eN6 eN7 eN8 Y4 eN9:Value} {D0:Addr}
  {eO0 eO1:Option Addr} {eO2:Array (Option Value)} {eO3 eO4 eO5 eO6 Y5 eO7:Value} {D1:Addr}
  {eO8 eO9:Option Addr} {eP0:Array (Option Value)} {eP1 eP2 eP3 eP4 Y6 eP5:Value} {D2:Addr}
  {eP6 eP7:Option Addr} {eP8:Array (Option Value)} {eP9 eQ0 eQ1 eQ2 Y7 eQ3:Value} {D3:Addr}
  {eQ4 eQ5:Option Addr} {eQ6:Array (Option Value)} {eQ7 eQ8 eQ9 eR0 Y8 eR1:Value} {D4:Addr}
  {eR2 eR3:Option Addr} {eR4:Array (Option Value)} {eR5 eR6 eR7 eR8 Y9 eR9:Value} {D6:Addr}
  {eS0 eS1:Option Addr} {eS2:Array (Option Value)} {eS3 eS4 eS5 eS6 Za eS7:Value} {uG:Addr}
  {eS8 eS9:Option Addr} {eT0:Array (Option Value)} {eT1 eT2 eT3 eT4 Zb eT5:Value} {D7:Addr}
  {eT6 eT7:Option Addr} {eT8:Array (Option Value)} {eT9 eU0 eU1 eU2 Zc eU3:Value} {D8:Addr}
  {eU4 eU5:Option Addr} {eU6:Array (Option Value)} {eU7 eU8 eU9 eV0 Zd eV1:Value} {D9:Addr}
  {eV2 eV3:Option Addr} {eV4:Array (Option Value)} {eV5 eV6 eV7 eV8 Ze eV9:Value} {Ea:Addr}
  {eW0 eW1:Option Addr} {eW2:Array (Option Value)} {eW3 eW4 eW5 eW6 Zf eW7:Value} {xH:Addr}
  {eW8 eW9:Option Addr} {eX0:Array (Option Value)} {eX1 eX2 eX3 eX4 Zg eX5:Value} {xI:Addr}
  {eX6 eX7:Option Addr} {eX8:Array (Option Value)} {eX9 eY0 eY1 eY2 Zh eY3:Value} {xJ:Addr}
  {eY4 eY5:Option Addr} {eY6:Array (Option Value)} {eY7 eY8 eY9 eZ0 Zi eZ1:Value} {xK:Addr}
  {eZ2 eZ3:Option Addr} {eZ4:Array (Option Value)} {eZ5 eZ6 eZ7 eZ8 Zj eZ9:Value} {Eb:Addr}
  {e00 e01:Option Addr} {e02:Array (Option Value)} {e03 e04 e05 e06 Zk e07:Value} {Ec:Addr}
  {e08 e09:Option Addr} {e10:Array (Option Value)} {e11 e12 e13 e14 Zl e15:Value} {Ee:Addr}
  {e16 e17:Option Addr} {e18:Array (Option Value)} {e19 e20 e21 e22 Zm e23:Value} {Ef:Addr}
  {e24 e25:Option Addr} {e26:Array (Option Value)} {e27 e28 e29 e30 Zn e31:Value} {xM:Addr}
  {e32 e33:Option Addr} {e34:Array (Option Value)} {e35 e36 e37 e38 Zo e40:Value} {xN:Addr}
  {e41 e42:Option Addr} {e43:Array (Option Value)} {e44 e45 e46 e47 Zp e48:Value} {Eg:Addr}
  {e49 e50:Option Addr} {e51:Array (Option Value)} {e52 e53 e54 e55 Zq e56:Value} {xO:Addr}
  {e57 e58:Option Addr} {e59:Array (Option Value)} {e60 e61 e62 e63 Zr e64:Value} {xP:Addr}
  {e65 e66:Option Addr} {e67:Array (Option Value)} {e68 e69 e70 e71 Zs e72:Value} {Eh:Addr}
  {e73 e74:Option Addr} {e75:Array (Option Value)} {e76 e77 e78 e79 Zt e80:Value} {Ei:Addr}
  {e81 e82:Option Addr} {e83:Array (Option Value)} {e84 e85 e86 e87 Zu e88:Value} {Ej:Addr}
  {e89 e90:Option Addr} {e91:Array (Option Value)} {e92 e93 e94 e95 Zv e96:Value} {xQ:Addr}
  {e97 e98:Option Addr} {e99:Array (Option Value)} {fa0 fa1 fa2 fa3 Zw fa4:Value} {xR:Addr}
  {fa5 fa6:Option Addr} {fa7:Array (Option Value)} {fa8 fa9 fb0 fb1 Zx fb2:Value} {qm:Addr}
  {fb3 fb4:Option Addr} {fb5:Array (Option Value)} {fb6 fb7 fb8 fb9 Zy fc0:Value} {Ek:Addr}
  {fc1 fc2:Option Addr} {fc3:Array (Option Value)} {fc4 fc5 fc6 fc7 Zz fc8:Value} {El:Addr}
  {fc9 fd0:Option Addr} {fd1:Array (Option Value)} {fd2 fd3 fd4 fd5 ZA fd6:Value} {Em:Addr}
  {fd7 fd8:Option Addr} {fd9:Array (Option Value)} {fe0 fe1 fe2 fe3 ZC fe4:Value} {Eo:Addr}
  {fe5 fe6:Option Addr} {fe7:Array (Option Value)} {fe8 fe9 ff0 ff1 ZD ff2:Value} {Ep:Addr}
  {ff3 ff4:Option Addr} {ff5:Array (Option Value)} {ff6 ff7 ff8 ff9 ZE fg0:Value} {xS:Addr}
  {fg1 fg2:Option Addr} {fg3:Array (Option Value)} {fg4 fg5 fg6 fg7 ZF fg8:Value} {xT:Addr}
  {fg9 fh0:Option Addr} {fh1:Array (Option Value)} {fh2 fh3 fh4 fh5 ZG fh6:Value} {Er:Addr}
  {fh7 fh8:Option Addr} {fh9:Array (Option Value)} {fi0 fi1 fi2 fi3 ZH fi4:Value} {Es:Addr}
  {fi5 fi6:Option Addr} {fi7:Array (Option Value)} {fi8 fi9 fj0 fj1 ZI fj2:Value} {Et:Addr}
  {fj3 fj4:Option Addr} {fj5:Array (Option Value)} {fj6 fj7 fj8 fj9 ZJ fk0:Value} {Eu:Addr}
  {fk1 fk2:Option Addr} {fk3:Array (Option Value)} {fk4 fk5 fk6 fk7 ZK fk8:Value} {Ew:Addr}
  {fk9 fl0:Option Addr} {fl1:Array (Option Value)} {fl2 fl3 fl4 fl5 ZL fl6:Value} {Ey:Addr}
  {fl7 fl8:Option Addr} {fl9:Array (Option Value)} {fm0 fm1 fm2 fm3 ZM fm4:Value} {Ez:Addr}
  {fm5 fm6:Option Addr} {fm7:Array (Option Value)} {fm8 fm9 fn0 fn1 ZN fn2:Value} {EA:Addr}
  {fn3 fn4:Option Addr} {fn5:Array (Option Value)} {fn6 fn7 fn8 fn9 ZO fo0:Value} {EB:Addr}
  {fo1 fo2:Option Addr} {fo3:Array (Option Value)} {fo4 fo5 fo6 fo7 ZP fo8:Value} {EC:Addr}
  {fo9 fp0:Option Addr} {fp1:Array (Option Value)} {fp2 fp3 fp4 fp5 ZQ fp6:Value} {ED:Addr}
  {fp7 fp8:Option Addr} {fp9:Array (Option Value)} {fq0 fq1 fq2 fq3 ZR fq4:Value} {EE:Addr}
  {fq5 fq6:Option Addr} {fq7:Array (Option Value)} {fq8 fq9 fr2 fr4 ZS fr6:Value} {EF:Addr}
  {fr7 ZT:Option Addr} {fr8:Array (Option Value)} {fr9 ZU ZV ZW Mb ZX:Value} {Mc:Addr}
  {aK hW kQ aN:Addr}
  (AJ:nsIn K mainGlobals "BitField"=some (some (.ref aK)))
  (AK:nsIn K mainGlobals "ByNought"=some (some (.ref hW)))
  (xC:nsIn K mainGlobals "Field"=some (some (.ref kQ)))
  (AL:nsIn K mainGlobals "PrimeField"=some (some (.ref aN)))
  (a0:nsIn K mainGlobals "_law_told"=some (some (.ref f0)))
  (l0:K.lookup f0=some ⟨oc0,od0,.func (fnOf "_law_told" "_law_told" (bf vS) (aW vS) (av vS) .none kV0 dc0 pm0 an0 YL ct0),sl0⟩)
  (c0:codeIn K YL "_law_told"=true)
  (k0:keepIn K (.ref f0)=true)
  (a1:nsIn K mainGlobals "powers_of"=some (some (.ref f1)))
  (l1:K.lookup f1=some ⟨oc1,od1,.func (fnOf "powers_of" "powers_of" (bf vT) (aW vT) (av vT) .none kV1 dc1 pm1 an1 YM ct1),sl1⟩)
  (c1:codeIn K YM "powers_of"=true)
  (k1:keepIn K (.ref f1)=true)
  (a2:nsIn K mainGlobals "step_powers"=some (some (.ref f2)))
  (l2:K.lookup f2=some ⟨oc2,od2,.func (fnOf "step_powers" "step_powers" (bf vU) (aW vU) (av vU) .none kV2 dc2 pm2 an2 YN ct2),sl2⟩)
  (c2:codeIn K YN "step_powers"=true)
  (k2:keepIn K (.ref f2)=true)
  (a3:nsIn K mainGlobals "logs_of"=some (some (.ref f3)))
  (l3:K.lookup f3=some ⟨oc3,od3,.func (fnOf "logs_of" "logs_of" (bf vV) (aW vV) (av vV) .none kV3 dc3 pm3 an3 YO ct3),sl3⟩)
  (c3:codeIn K YO "logs_of"=true)
  (k3:keepIn K (.ref f3)=true)
  (a4:findIn K (.ref kQ) "step_power"=some (some (.ref f4)))
  (l4:K.lookup f4=some ⟨oc4,od4,.func (fnOf "step_power" "Field.step_power" (bf vW) (aW vW) (av vW) .none kV4 dc4 pm4 an4 YQ ct4),sl4⟩)
  (c4:codeIn K YQ "Field.step_power"=true)
  (k4:keepIn K (.ref f4)=true)
  (a5:findIn K (.ref kQ) "__init__"=some (some (.ref f5)))
  (l5:K.lookup f5=some ⟨oc5,od5,.func (fnOf "__init__" "Field.__init__" (bf vX) (aW vX) (av vX) .none kV5 dc5 pm5 an5 YR ct5),sl5⟩)
  (c5:codeIn K YR "Field.__init__"=true)
  (k5:keepIn K (.ref f5)=true)
  (a6:nsIn K mainGlobals "makes_prime_field"=some (some (.ref f6)))
  (l6:K.lookup f6=some ⟨oc6,od6,.func (fnOf "makes_prime_field" "makes_prime_field" (bf vY) (aW vY) (av vY) .none kV6 dc6 pm6 an6 YS ct6),sl6⟩)
  (c6:codeIn K YS "makes_prime_field"=true)
  (k6:keepIn K (.ref f6)=true)
  (a7:findIn K (.ref aN) "__init__"=some (some (.ref f7)))
  (l7:K.lookup f7=some ⟨oc7,od7,.func (fnOf "__init__" "PrimeField.__init__" (bf nS) (aW nS) (av nS) .none kV7 dc7 pm7 an7 (.ref AU) ct7),sl7⟩)
  (c7:codeIn K (.ref AU) "PrimeField.__init__"=true)
  (k7:keepIn K (.ref f7)=true)
  (ZY:K.lookup AU=some ⟨aJ6,aJ4,.fields YT,aJ5⟩)
  (ZZ:YT[11]?=some (.ref kO))
  (Md:codeHdIn K AU kO=true)
  (a8:nsIn K mainGlobals "product_rows"=some (some (.ref f8)))
  (l8:K.lookup f8=some ⟨oc8,od8,.func (fnOf "product_rows" "product_rows" (bf vZ) (aW vZ) (av vZ) .none kV8 dc8 pm8 an8 YU ct8),sl8⟩)
  (c8:codeIn K YU "product_rows"=true)
  (k8:keepIn K (.ref f8)=true)
  (a9:nsIn K mainGlobals "bits_divided"=some (some (.ref f9)))
  (l9:K.lookup f9=some ⟨oc9,od9,.func (fnOf "bits_divided" "bits_divided" (bf v3) (aW v3) (av v3) .none kV9 dc9 pm9 an9 YV ct9),sl9⟩)
  (c9:codeIn K YV "bits_divided"=true)
  (k9:keepIn K (.ref f9)=true)
  (Me:nsIn K mainGlobals "stands_alone"=some (some (.ref DU)))
  (Mg:K.lookup DU=some ⟨eG8,eG5,.func (fnOf "stands_alone" "stands_alone" (bf v9) (aW v9) (av v9) .none eG9 eH0 eH1 eG6 YW eH2),eG7⟩)
  (Mh:codeIn K YW "stands_alone"=true)
  (Mi:keepIn K (.ref DU)=true)
  (Mj:nsIn K mainGlobals "makes_bit_field"=some (some (.ref DV)))
  (Ml:K.lookup DV=some ⟨eH6,eH3,.func (fnOf "makes_bit_field" "makes_bit_field" (bf wa) (aW wa) (av wa) .none eH7 eH8 eH9 eH4 YX eI0),eH5⟩)
  (Mm:codeIn K YX "makes_bit_field"=true)
  (Mn:keepIn K (.ref DV)=true)
  (Mo:nsIn K mainGlobals "bits_times"=some (some (.ref lU)))
  (Mp:K.lookup lU=some ⟨eI4,eI1,.func (fnOf "bits_times" "bits_times" (bf wb) (aW wb) (av wb) .none eI5 eI6 eI7 eI2 YY eI8),eI3⟩)
  (Mq:codeIn K YY "bits_times"=true)
  (Mr:keepIn K (.ref lU)=true)
  (Z0:findIn K (.ref aK) "__init__"=some (some (.ref xG)))
  (Ms:K.lookup xG=some ⟨eJ2,eI9,.func (fnOf "__init__" "BitField.__init__" (bf nU) (aW nU) (av nU) .none eJ3 eJ4 eJ5 eJ0 (.ref AV) eJ6),eJ1⟩)
  (Mt:codeIn K (.ref AV) "BitField.__init__"=true)
  (Mu:keepIn K (.ref xG)=true)
  (Z1:K.lookup AV=some ⟨aN3,aN1,.fields YZ,aN2⟩)
  (Z2:YZ[11]?=some (.ref kP))
  (Mv:codeHdIn K AV kP=true)
  (Mw:nsIn K mainGlobals "_law_field"=some (some (.ref DW)))
  (Mx:K.lookup DW=some ⟨eK3,eK0,.func (fnOf "_law_field" "_law_field" (bf wc) (aW wc) (av wc) .none eK4 eK5 eK6 eK1 Y0 eK7),eK2⟩)
  (Mz:codeIn K Y0 "_law_field"=true)
  (MA:keepIn K (.ref DW)=true)
  (MB:nsIn K mainGlobals "_law_many"=some (some (.ref DX)))
  (MC:K.lookup DX=some ⟨eL1,eK8,.func (fnOf "_law_many" "_law_many" (bf we) (aW we) (av we) .none eL2 eL3 eL4 eK9 Y1 eL5),eL0⟩)
  (MD:codeIn K Y1 "_law_many"=true)
  (ME:keepIn K (.ref DX)=true)
  (MF:nsIn K mainGlobals "_law_times"=some (some (.ref DY)))
  (MG:K.lookup DY=some ⟨eL9,eL6,.func (fnOf "_law_times" "_law_times" (bf wg) (aW wg) (av wg) .none eM0 eM1 eM2 eL7 Y2 eM3),eL8⟩)
  (MH:codeIn K Y2 "_law_times"=true)
  (MI:keepIn K (.ref DY)=true)
  (MJ:nsIn K mainGlobals "_law_powers"=some (some (.ref DZ)))
  (MK:K.lookup DZ=some ⟨eM7,eM4,.func (fnOf "_law_powers" "_law_powers" (bf wk) (aW wk) (av wk) .none eM8 eM9 eN0 eM5 Y3 eN1),eM6⟩)
  (ML:codeIn K Y3 "_law_powers"=true)
  (MM:keepIn K (.ref DZ)=true)
  (MN:nsIn K mainGlobals "_law_cell"=some (some (.ref D0)))
  (MP:K.lookup D0=some ⟨eN5,eN2,.func (fnOf "_law_cell" "_law_cell" (bf wm) (aW wm) (av wm) .none eN6 eN7 eN8 eN3 Y4 eN9),eN4⟩)
  (MQ:codeIn K Y4 "_law_cell"=true)
  (MR:keepIn K (.ref D0)=true)
  (MS:nsIn K mainGlobals "_law_numbers"=some (some (.ref D1)))
  (MT:K.lookup D1=some ⟨eO3,eO0,.func (fnOf "_law_numbers" "_law_numbers" (bf wq) (aW wq) (av wq) .none eO4 eO5 eO6 eO1 Y5 eO7),eO2⟩)
  (MU:codeIn K Y5 "_law_numbers"=true)
  (MV:keepIn K (.ref D1)=true)
  (MW:nsIn K mainGlobals "_law_cut"=some (some (.ref D2)))
  (MX:K.lookup D2=some ⟨eP1,eO8,.func (fnOf "_law_cut" "_law_cut" (bf wt) (aW wt) (av wt) .none eP2 eP3 eP4 eO9 Y6 eP5),eP0⟩)
  (MY:codeIn K Y6 "_law_cut"=true)
  (MZ:keepIn K (.ref D2)=true)
  (M0:nsIn K mainGlobals "_law_plus"=some (some (.ref D3)))
  (M1:K.lookup D3=some ⟨eP9,eP6,.func (fnOf "_law_plus" "_law_plus" (bf wu) (aW wu) (av wu) .none eQ0 eQ1 eQ2 eP7 Y7 eQ3),eP8⟩)
  (M3:codeIn K Y7 "_law_plus"=true)
  (M4:keepIn K (.ref D3)=true)
  (M5:nsIn K mainGlobals "_law_product"=some (some (.ref D4)))
  (M6:K.lookup D4=some ⟨eQ7,eQ4,.func (fnOf "_law_product" "_law_product" (bf wz) (aW wz) (av wz) .none eQ8 eQ9 eR0 eQ5 Y8 eR1),eQ6⟩)
  (M7:codeIn K Y8 "_law_product"=true)
  (M8:keepIn K (.ref D4)=true)
  (M9:nsIn K mainGlobals "_law_digits"=some (some (.ref D6)))
  (Na:K.lookup D6=some ⟨eR5,eR2,.func (fnOf "_law_digits" "_law_digits" (bf wA) (aW wA) (av wA) .none eR6 eR7 eR8 eR3 Y9 eR9),eR4⟩)
  (Nb:codeIn K Y9 "_law_digits"=true)
  (Nc:keepIn K (.ref D6)=true)
  (Nd:nsIn K mainGlobals "_law_less"=some (some (.ref uG)))
  (Nf:K.lookup uG=some ⟨eS3,eS0,.func (fnOf "_law_less" "_law_less" (bf wB) (aW wB) (av wB) .none eS4 eS5 eS6 eS1 Za eS7),eS2⟩)
  (Ng:codeIn K Za "_law_less"=true)
  (xF:keepIn K (.ref uG)=true)
  (Nh:nsIn K mainGlobals "_law_word"=some (some (.ref D7)))
  (Ni:K.lookup D7=some ⟨eT1,eS8,.func (fnOf "_law_word" "_law_word" (bf wC) (aW wC) (av wC) .none eT2 eT3 eT4 eS9 Zb eT5),eT0⟩)
  (Nj:codeIn K Zb "_law_word"=true)
  (Nk:keepIn K (.ref D7)=true)
  (Nl:nsIn K mainGlobals "_law_spoilt"=some (some (.ref D8)))
  (Nm:K.lookup D8=some ⟨eT9,eT6,.func (fnOf "_law_spoilt" "_law_spoilt" (bf wD) (aW wD) (av wD) .none eU0 eU1 eU2 eT7 Zc eU3),eT8⟩)
  (Nn:codeIn K Zc "_law_spoilt"=true)
  (Np:keepIn K (.ref D8)=true)
  (Nq:nsIn K mainGlobals "lost_places"=some (some (.ref D9)))
  (Nt:K.lookup D9=some ⟨eU7,eU4,.func (fnOf "lost_places" "lost_places" (bf wF) (aW wF) (av wF) .none eU8 eU9 eV0 eU5 Zd eV1),eU6⟩)
  (Nu:codeIn K Zd "lost_places"=true)
  (Nv:keepIn K (.ref D9)=true)
  (Nw:nsIn K mainGlobals "noughts_for_lost"=some (some (.ref Ea)))
  (Nx:K.lookup Ea=some ⟨eV5,eV2,.func (fnOf "noughts_for_lost" "noughts_for_lost" (bf wG) (aW wG) (av wG) .none eV6 eV7 eV8 eV3 Ze eV9),eV4⟩)
  (Ny:codeIn K Ze "noughts_for_lost"=true)
  (Nz:keepIn K (.ref Ea)=true)
  (Z3:findIn K (.ref aK) "plus"=some (some (.ref xH)))
  (NA:K.lookup xH=some ⟨eW3,eW0,.func (fnOf "plus" "BitField.plus" (bf wH) (aW wH) (av wH) .none eW4 eW5 eW6 eW1 Zf eW7),eW2⟩)
  (NB:codeIn K Zf "BitField.plus"=true)
  (EG:keepIn K (.ref xH)=true)
  (Z4:findIn K (.ref aN) "plus"=some (some (.ref xI)))
  (NC:K.lookup xI=some ⟨eX1,eW8,.func (fnOf "plus" "PrimeField.plus" (bf wI) (aW wI) (av wI) .none eX2 eX3 eX4 eW9 Zg eX5),eX0⟩)
  (ND:codeIn K Zg "PrimeField.plus"=true)
  (EH:keepIn K (.ref xI)=true)
  (Z5:findIn K (.ref aK) "times"=some (some (.ref xJ)))
  (NF:K.lookup xJ=some ⟨eX9,eX6,.func (fnOf "times" "BitField.times" (bf wJ) (aW wJ) (av wJ) .none eY0 eY1 eY2 eX7 Zh eY3),eX8⟩)
  (NG:codeIn K Zh "BitField.times"=true)
  (EI:keepIn K (.ref xJ)=true)
  (Z6:findIn K (.ref aN) "times"=some (some (.ref xK)))
  (NH:K.lookup xK=some ⟨eY7,eY4,.func (fnOf "times" "PrimeField.times" (bf wK) (aW wK) (av wK) .none eY8 eY9 eZ0 eY5 Zi eZ1),eY6⟩)
  (NI:codeIn K Zi "PrimeField.times"=true)
  (EJ:keepIn K (.ref xK)=true)
  (NJ:nsIn K mainGlobals "value_at"=some (some (.ref Eb)))
  (NK:K.lookup Eb=some ⟨eZ5,eZ2,.func (fnOf "value_at" "value_at" (bf wL) (aW wL) (av wL) .none eZ6 eZ7 eZ8 eZ3 Zj eZ9),eZ4⟩)
  (NL:codeIn K Zj "value_at"=true)
  (NM:keepIn K (.ref Eb)=true)
  (NN:nsIn K mainGlobals "root_sums"=some (some (.ref Ec)))
  (NO:K.lookup Ec=some ⟨e03,e00,.func (fnOf "root_sums" "root_sums" (bf wM) (aW wM) (av wM) .none e04 e05 e06 e01 Zk e07),e02⟩)
  (NP:codeIn K Zk "root_sums"=true)
  (NQ:keepIn K (.ref Ec)=true)
  (NR:nsIn K mainGlobals "trimmed"=some (some (.ref Ee)))
  (NS:K.lookup Ee=some ⟨e11,e08,.func (fnOf "trimmed" "trimmed" (bf wN) (aW wN) (av wN) .none e12 e13 e14 e09 Zl e15),e10⟩)
  (NT:codeIn K Zl "trimmed"=true)
  (NU:keepIn K (.ref Ee)=true)
  (NV:nsIn K mainGlobals "poly_times"=some (some (.ref Ef)))
  (NW:K.lookup Ef=some ⟨e19,e16,.func (fnOf "poly_times" "poly_times" (bf wO) (aW wO) (av wO) .none e20 e21 e22 e17 Zm e23),e18⟩)
  (NX:codeIn K Zm "poly_times"=true)
  (NY:keepIn K (.ref Ef)=true)
  (Z7:findIn K (.ref aK) "minus"=some (some (.ref xM)))
  (NZ:K.lookup xM=some ⟨e27,e24,.func (fnOf "minus" "BitField.minus" (bf wQ) (aW wQ) (av wQ) .none e28 e29 e30 e25 Zn e31),e26⟩)
  (N0:codeIn K Zn "BitField.minus"=true)
  (EK:keepIn K (.ref xM)=true)
  (Z8:findIn K (.ref aN) "minus"=some (some (.ref xN)))
  (N2:K.lookup xN=some ⟨e35,e32,.func (fnOf "minus" "PrimeField.minus" (bf wR) (aW wR) (av wR) .none e36 e37 e38 e33 Zo e40),e34⟩)
  (N3:codeIn K Zo "PrimeField.minus"=true)
  (EL:keepIn K (.ref xN)=true)
  (N4:nsIn K mainGlobals "place_finder"=some (some (.ref Eg)))
  (N5:K.lookup Eg=some ⟨e44,e41,.func (fnOf "place_finder" "place_finder" (bf wU) (aW wU) (av wU) .none e45 e46 e47 e42 Zp e48),e43⟩)
  (N6:codeIn K Zp "place_finder"=true)
  (N7:keepIn K (.ref Eg)=true)
  (Z9:findIn K (.ref aK) "dot"=some (some (.ref xO)))
  (N8:K.lookup xO=some ⟨e52,e49,.func (fnOf "dot" "BitField.dot" (bf wV) (aW wV) (av wV) .none e53 e54 e55 e50 Zq e56),e51⟩)
  (N9:codeIn K Zq "BitField.dot"=true)
  (EM:keepIn K (.ref xO)=true)
  (γ:findIn K (.ref aN) "dot"=some (some (.ref xP)))
  (Oa:K.lookup xP=some ⟨e60,e57,.func (fnOf "dot" "PrimeField.dot" (bf wW) (aW wW) (av wW) .none e61 e62 e63 e58 Zr e64),e59⟩)
  (Ob:codeIn K Zr "PrimeField.dot"=true)
  (EN:keepIn K (.ref xP)=true)
  (Oc:nsIn K mainGlobals "off_at"=some (some (.ref Eh)))
  (Od:K.lookup Eh=some ⟨e68,e65,.func (fnOf "off_at" "off_at" (bf wX) (aW wX) (av wX) .none e69 e70 e71 e66 Zs e72),e67⟩)
  (Oe:codeIn K Zs "off_at"=true)
  (Of:keepIn K (.ref Eh)=true)
  (Og:nsIn K mainGlobals "filled"=some (some (.ref Ei)))
  (Oh:K.lookup Ei=some ⟨e76,e73,.func (fnOf "filled" "filled" (bf wY) (aW wY) (av wY) .none e77 e78 e79 e74 Zt e80),e75⟩)
  (Oi:codeIn K Zt "filled"=true)
  (Oj:keepIn K (.ref Ei)=true)
  (Ol:nsIn K mainGlobals "poly_minus"=some (some (.ref Ej)))
  (Om:K.lookup Ej=some ⟨e84,e81,.func (fnOf "poly_minus" "poly_minus" (bf wZ) (aW wZ) (av wZ) .none e85 e86 e87 e82 Zu e88),e83⟩)
  (Oo:codeIn K Zu "poly_minus"=true)
  (Oq:keepIn K (.ref Ej)=true)
  (ε:findIn K (.ref aK) "scaled"=some (some (.ref xQ)))
  (Ot:K.lookup xQ=some ⟨e92,e89,.func (fnOf "scaled" "BitField.scaled" (bf w5) (aW w5) (av w5) .none e93 e94 e95 e90 Zv e96),e91⟩)
  (Ou:codeIn K Zv "BitField.scaled"=true)
  (EO:keepIn K (.ref xQ)=true)
  (ζ:findIn K (.ref aN) "scaled"=some (some (.ref xR)))
  (Ov:K.lookup xR=some ⟨fa0,e97,.func (fnOf "scaled" "PrimeField.scaled" (bf w6) (aW w6) (av w6) .none fa1 fa2 fa3 e98 Zw fa4),e99⟩)
  (Ow:codeIn K Zw "PrimeField.scaled"=true)
  (ER:keepIn K (.ref xR)=true)
  (η:findIn K (.ref kQ) "over"=some (some (.ref qm)))
  (Ox:K.lookup qm=some ⟨fa8,fa5,.func (fnOf "over" "Field.over" (bf w9) (aW w9) (av w9) .none fa9 fb0 fb1 fa6 Zx fb2),fa7⟩)
  (Oy:codeIn K Zx "Field.over"=true)
  (AW:keepIn K (.ref qm)=true)
  (Oz:nsIn K mainGlobals "shortest"=some (some (.ref Ek)))
  (OA:K.lookup Ek=some ⟨fb6,fb3,.func (fnOf "shortest" "shortest" (bf xa) (aW xa) (av xa) .none fb7 fb8 fb9 fb4 Zy fc0),fb5⟩)
  (OB:codeIn K Zy "shortest"=true)
  (OC:keepIn K (.ref Ek)=true)
  (OD:nsIn K mainGlobals "places_in"=some (some (.ref El)))
  (OE:K.lookup El=some ⟨fc4,fc1,.func (fnOf "places_in" "places_in" (bf xb) (aW xb) (av xb) .none fc5 fc6 fc7 fc2 Zz fc8),fc3⟩)
  (OF:codeIn K Zz "places_in"=true)
  (OG:keepIn K (.ref El)=true)
  (OH:nsIn K mainGlobals "wrong_places"=some (some (.ref Em)))
  (OI:K.lookup Em=some ⟨fd2,fc9,.func (fnOf "wrong_places" "wrong_places" (bf xf) (aW xf) (av xf) .none fd3 fd4 fd5 fd0 ZA fd6),fd1⟩)
  (OJ:codeIn K ZA "wrong_places"=true)
  (OK:keepIn K (.ref Em)=true)
  (OL:nsIn K mainGlobals "width_of"=some (some (.ref Eo)))
  (OM:K.lookup Eo=some ⟨fe0,fd7,.func (fnOf "width_of" "width_of" (bf xg) (aW xg) (av xg) .none fe1 fe2 fe3 fd8 ZC fe4),fd9⟩)
  (ON:codeIn K ZC "width_of"=true)
  (OO:keepIn K (.ref Eo)=true)
  (OP:nsIn K mainGlobals "first_with"=some (some (.ref Ep)))
  (OQ:K.lookup Ep=some ⟨fe8,fe5,.func (fnOf "first_with" "first_with" (bf xh) (aW xh) (av xh) .none fe9 ff0 ff1 fe6 ZD ff2),fe7⟩)
  (OR:codeIn K ZD "first_with"=true)
  (OS:keepIn K (.ref Ep)=true)
  (θ:findIn K (.ref aK) "lessened"=some (some (.ref xS)))
  (OT:K.lookup xS=some ⟨ff6,ff3,.func (fnOf "lessened" "BitField.lessened" (bf xi) (aW xi) (av xi) .none ff7 ff8 ff9 ff4 ZE fg0),ff5⟩)
  (OU:codeIn K ZE "BitField.lessened"=true)
  (ES:keepIn K (.ref xS)=true)
  (ι:findIn K (.ref aN) "lessened"=some (some (.ref xT)))
  (OV:K.lookup xT=some ⟨fg4,fg1,.func (fnOf "lessened" "PrimeField.lessened" (bf xj) (aW xj) (av xj) .none fg5 fg6 fg7 fg2 ZF fg8),fg3⟩)
  (OW:codeIn K ZF "PrimeField.lessened"=true)
  (ET:keepIn K (.ref xT)=true)
  (OX:nsIn K mainGlobals "cleared"=some (some (.ref Er)))
  (OY:K.lookup Er=some ⟨fh2,fg9,.func (fnOf "cleared" "cleared" (bf xk) (aW xk) (av xk) .none fh3 fh4 fh5 fh0 ZG fh6),fh1⟩)
  (OZ:codeIn K ZG "cleared"=true)
  (O0:keepIn K (.ref Er)=true)
  (O1:nsIn K mainGlobals "reduced"=some (some (.ref Es)))
  (O2:K.lookup Es=some ⟨fi0,fh7,.func (fnOf "reduced" "reduced" (bf xm) (aW xm) (av xm) .none fi1 fi2 fi3 fh8 ZH fi4),fh9⟩)
  (O3:codeIn K ZH "reduced"=true)
  (O4:keepIn K (.ref Es)=true)
  (O5:nsIn K mainGlobals "leads"=some (some (.ref Et)))
  (O6:K.lookup Et=some ⟨fi8,fi5,.func (fnOf "leads" "leads" (bf xn) (aW xn) (av xn) .none fi9 fj0 fj1 fi6 ZI fj2),fi7⟩)
  (O7:codeIn K ZI "leads"=true)
  (O8:keepIn K (.ref Et)=true)
  (O9:nsIn K mainGlobals "with_due"=some (some (.ref Eu)))
  (Pa:K.lookup Eu=some ⟨fj6,fj3,.func (fnOf "with_due" "with_due" (bf xo) (aW xo) (av xo) .none fj7 fj8 fj9 fj4 ZJ fk0),fj5⟩)
  (Pb:codeIn K ZJ "with_due"=true)
  (Pc:keepIn K (.ref Eu)=true)
  (Pd:nsIn K mainGlobals "solved"=some (some (.ref Ew)))
  (Pe:K.lookup Ew=some ⟨fk4,fk1,.func (fnOf "solved" "solved" (bf xp) (aW xp) (av xp) .none fk5 fk6 fk7 fk2 ZK fk8),fk3⟩)
  (Pf:codeIn K ZK "solved"=true)
  (Pg:keepIn K (.ref Ew)=true)
  (Ph:nsIn K mainGlobals "signs_at"=some (some (.ref Ey)))
  (Pj:K.lookup Ey=some ⟨fl2,fk9,.func (fnOf "signs_at" "signs_at" (bf xt) (aW xt) (av xt) .none fl3 fl4 fl5 fl0 ZL fl6),fl1⟩)
  (Pk:codeIn K ZL "signs_at"=true)
  (Pl:keepIn K (.ref Ey)=true)
  (Pm:nsIn K mainGlobals "taken_off"=some (some (.ref Ez)))
  (Pn:K.lookup Ez=some ⟨fm0,fl7,.func (fnOf "taken_off" "taken_off" (bf xu) (aW xu) (av xu) .none fm1 fm2 fm3 fl8 ZM fm4),fl9⟩)
  (Po:codeIn K ZM "taken_off"=true)
  (Pp:keepIn K (.ref Ez)=true)
  (Pq:nsIn K mainGlobals "root_nearest"=some (some (.ref EA)))
  (Pr:K.lookup EA=some ⟨fm8,fm5,.func (fnOf "root_nearest" "root_nearest" (bf xv) (aW xv) (av xv) .none fm9 fn0 fn1 fm6 ZN fn2),fm7⟩)
  (Pt:codeIn K ZN "root_nearest"=true)
  (Pu:keepIn K (.ref EA)=true)
  (Pw:nsIn K mainGlobals "_law_far"=some (some (.ref EB)))
  (Px:K.lookup EB=some ⟨fn6,fn3,.func (fnOf "_law_far" "_law_far" (bf xw) (aW xw) (av xw) .none fn7 fn8 fn9 fn4 ZO fo0),fn5⟩)
  (Py:codeIn K ZO "_law_far"=true)
  (Pz:keepIn K (.ref EB)=true)
  (PB:nsIn K mainGlobals "_law_any_row"=some (some (.ref EC)))
  (jU:K.lookup EC=some ⟨fo4,fo1,.func (fnOf "_law_any_row" "_law_any_row" (bf xx) (aW xx) (av xx) .none fo5 fo6 fo7 fo2 ZP fo8),fo3⟩)
  (PC:codeIn K ZP "_law_any_row"=true)
  (PD:keepIn K (.ref EC)=true)
  (PF:nsIn K mainGlobals "_law_whole"=some (some (.ref ED)))
  (PH:K.lookup ED=some ⟨fp2,fo9,.func (fnOf "_law_whole" "_law_whole" (bf xy) (aW xy) (av xy) .none fp3 fp4 fp5 fp0 ZQ fp6),fp1⟩)
  (PJ:codeIn K ZQ "_law_whole"=true)
  (PK:keepIn K (.ref ED)=true)
  (PL:nsIn K mainGlobals "_law_signs"=some (some (.ref EE)))
  (PM:K.lookup EE=some ⟨fq0,fp7,.func (fnOf "_law_signs" "_law_signs" (bf xA) (aW xA) (av xA) .none fq1 fq2 fq3 fp8 ZR fq4),fp9⟩)
  (PN:codeIn K ZR "_law_signs"=true)
  (PQ:keepIn K (.ref EE)=true)
  (PR:nsIn K mainGlobals "_law_sums_nought"=some (some (.ref EF)))
  (PU:K.lookup EF=some ⟨fq8,fq5,.func (fnOf "_law_sums_nought" "_law_sums_nought" (bf xB) (aW xB) (av xB) .none fq9 fr2 fr4 fq6 ZS fr6),fq7⟩)
  (PV:codeIn K ZS "_law_sums_nought"=true)
  (PX:keepIn K (.ref EF)=true)
  (EU:nsIn K mainGlobals "law"=some (some (.ref Mc)))
  (PY:K.lookup Mc=some ⟨fr9,fr7,.func (fnOf "law" "law" (bf nW) (aW nW) (av nW) .none ZU ZV ZW ZT Mb ZX),fr8⟩)
  (PZ:codeIn K Mb "law"=true)
  (P0:keepIn K (.ref Mc)=true)
  (EV:PySem.W.plainGet K aK Str.empty=true)
  (EW:PySem.W.hasDictIn K aK=true)
  (EX:PySem.W.plainOver K aK=true)
  (EY:findIn K (.ref aK) "__setattr__"=some (some (.builtin "object.__setattr__")))
  (Aj:PySem.W.makesIn K aK=true)
  (P1:findIn K (.ref aK) "__init__"=some (some (.ref xG)))
  (P2:isFn K (.ref xG)=true)
  (P4:keepIn K (.ref aK)=true)
  (P5:findIn K (.ref aK) "__class__"=some (some (.builtin "object.__class__")))
  (P6:specialIn K (.builtin "object.__class__") "__get__"=some (some (.builtin "getset_descriptor.__get__")))
  (P7:takesIn K (.builtin "object.__class__")=some true)
  (P8:mroIn K aK (.type "object")=some true)
  (Ak:findIn K (.ref aK) "bits"=some none)
  (qh:findIn K (.ref aK) "logs"=some none)
  (tH:findIn K (.ref aK) "many"=some none)
  (qi:findIn K (.ref aK) "powers"=some none)
  (DE:findIn K (.ref aK) "prime"=some none)
  (nX:findIn K (.ref aK) "products"=some none)
  (Al:findIn K (.ref aK) "step"=some none)
  (Am:findIn K (.ref aK) "wide"=some none)
  (An:findIn K (.ref aK) "dot"=some (some (.ref xO)))
  (P9:isFn K (.ref xO)=true)
  (Ao:findIn K (.ref aK) "lessened"=some (some (.ref xS)))
  (Qa:isFn K (.ref xS)=true)
  (Ap:findIn K (.ref aK) "minus"=some (some (.ref xM)))
  (Qb:isFn K (.ref xM)=true)
  (Aq:findIn K (.ref aK) "over"=some (some (.ref qm)))
  (Qc:isFn K (.ref qm)=true)
  (Ar:findIn K (.ref aK) "plus"=some (some (.ref xH)))
  (Qe:isFn K (.ref xH)=true)
  (As:findIn K (.ref aK) "scaled"=some (some (.ref xQ)))
  (Qf:isFn K (.ref xQ)=true)
  (tI:findIn K (.ref aK) "step_power"=some (some (.ref f4)))
  (Qg:isFn K (.ref f4)=true)
  (Au:findIn K (.ref aK) "times"=some (some (.ref xJ)))
  (Qh:isFn K (.ref xJ)=true)
  (EZ:PySem.W.plainGet K aN Str.empty=true)
  (E1:PySem.W.hasDictIn K aN=true)
  (E2:PySem.W.plainOver K aN=true)
  (E3:findIn K (.ref aN) "__setattr__"=some (some (.builtin "object.__setattr__")))
  (Av:PySem.W.makesIn K aN=true)
  (Qi:findIn K (.ref aN) "__init__"=some (some (.ref f7)))
  (Qj:isFn K (.ref f7)=true)
  (Qk:keepIn K (.ref aN)=true)
  (Ql:findIn K (.ref aN) "__class__"=some (some (.builtin "object.__class__")))
  (Qm:specialIn K (.builtin "object.__class__") "__get__"=some (some (.builtin "getset_descriptor.__get__")))
  (Qn:takesIn K (.builtin "object.__class__")=some true)
  (Qo:mroIn K aN (.type "object")=some true)
  (DF:findIn K (.ref aN) "bits"=some none)
  (tJ:findIn K (.ref aN) "logs"=some none)
  (tK:findIn K (.ref aN) "many"=some none)
  (tL:findIn K (.ref aN) "powers"=some none)
  (kR:findIn K (.ref aN) "prime"=some none)
  (DG:findIn K (.ref aN) "products"=some none)
  (Aw:findIn K (.ref aN) "step"=some none)
  (Az:findIn K (.ref aN) "wide"=some none)
  (AA:findIn K (.ref aN) "dot"=some (some (.ref xP)))
  (Qp:isFn K (.ref xP)=true)
  (AB:findIn K (.ref aN) "lessened"=some (some (.ref xT)))
  (Qq:isFn K (.ref xT)=true)
  (AD:findIn K (.ref aN) "minus"=some (some (.ref xN)))
  (Qr:isFn K (.ref xN)=true)
  (AE:findIn K (.ref aN) "over"=some (some (.ref qm)))
  (Qs:isFn K (.ref qm)=true)
  (AF:findIn K (.ref aN) "plus"=some (some (.ref xI)))
  (Qt:isFn K (.ref xI)=true)
  (AG:findIn K (.ref aN) "scaled"=some (some (.ref xR)))
  (Qu:isFn K (.ref xR)=true)
  (tM:findIn K (.ref aN) "step_power"=some (some (.ref f4)))
  (Qv:isFn K (.ref f4)=true)
  (AH:findIn K (.ref aN) "times"=some (some (.ref xK)))
  (Qw:isFn K (.ref xK)=true)
  (Qx:specialIn K (.ref kQ) "__getattribute__"=some (some (.builtin "type.__getattribute__")))
  (Qy:PySem.W.readsIn K kQ (.type "type")=true)
  (Qz:PySem.W.findCls K (.ref kQ) (.type "type") "__init__"=some (.val (.ref f5)))
  (QB:nsIn K mainGlobals "all"=some none)
  (QC:nsIn K mainGlobals "any"=some none)
  (QD:nsIn K mainGlobals "bool"=some none)
  (QE:nsIn K mainGlobals "enumerate"=some none)
  (QF:nsIn K mainGlobals "int"=some none)
  (QG:nsIn K mainGlobals "isinstance"=some none)
  (QH:nsIn K mainGlobals "len"=some none)
  (QI:nsIn K mainGlobals "list"=some none)
  (QJ:nsIn K mainGlobals "max"=some none)
  (QK:nsIn K mainGlobals "min"=some none)
  (QL:nsIn K mainGlobals "range"=some none)
  (QM:nsIn K mainGlobals "reversed"=some none)
  (QN:nsIn K mainGlobals "sum"=some none)
  (QO:nsIn K mainGlobals "zip"=some none)
  (QP:(PySem.W.clsIn K hW).isSome=true)
  (μ:PySem.W.typeIn K (.ref hW)=some (.type "type"))
  (QQ:PySem.W.excIn K hW [.type "ValueError",.type "Exception",.type "BaseException",.type "object"] "ValueError.__new__"=true)
  (QR:findIn K (.ref hW) "__getattribute__"=some (some (.builtin "BaseException.__getattribute__")))
  (QS:findIn K (.ref hW) "__getattr__"=some none)
  (QT:findIn K (.ref hW) "__class__"=some (some (.builtin "object.__class__")))
  (QU:specialIn K (.builtin "object.__class__") "__get__"=some (some (.builtin "getset_descriptor.__get__")))
  (QV:takesIn K (.builtin "object.__class__")=some true)
  (QW:mroIn K hW (.type "object")=some true)
  (QX:mroIn K hW (.type "BaseException")=some true)
  (nl:K.all (λp=>Hm p.2)=true)
  (sub:∀P∈[kO,kP],P∈ts) :
  ∃fd:FuncData,(∀(s:Shared) (v:Value),BindsTo s fd ⟨[v],[]⟩ [("_law_script",v)])/\∀base:Heap,K.In base->base.Ns mainGlobals mg->Bm mg base->aM l.prog w K mg base aT 11 fa fd ["_law_script"] (Cn ts K):=by
 have e:=hfa.symm.trans (mg_of X G EU)
 cases e
 have F0:=bu (st:=vS) l0 c0 k0
 have b0:=F0.binds (ps:=["_law_cell_here"]) λ_ _ _ _ _ _=>hE (λ_=>rfl)
 have F1:=bu (st:=vT) l1 c1 k1
 have b1:=F1.binds (ps:=["a","product"]) λ_ _ _ _ _ _=>gj (λ_ _=>rfl)
 have F2:=bu (st:=vU) l2 c2 k2
 have b2:=F2.binds (ps:=["many","product"]) λ_ _ _ _ _ _=>gj (λ_ _=>rfl)
 have F3:=bu (st:=vV) l3 c3 k3
 have b3:=F3.binds (ps:=["powers"]) λ_ _ _ _ _ _=>hE (λ_=>rfl)
 have F4:=bu (st:=vW) l4 c4 k4
 have b4:=F4.binds (ps:=["self","n"]) λ_ _ _ _ _ _=>gj (λ_ _=>rfl)
 have F5:=bu (st:=vX) l5 c5 k5
 have b5:=F5.binds (ps:=["self","many","product"]) λ_ _ _ _ _ _=>eU (λ_ _ _=>rfl)
 have F6:=bu (st:=vY) l6 c6 k6
 have b6:=F6.binds (ps:=["prime"]) λ_ _ _ _ _ _=>hE (λ_=>rfl)
 have F7:=bu (st:=nS) l7 c7 k7
 have b7:=F7.binds (ps:=["self","prime"]) λ_ _ _ _ _ _=>gj (λ_ _=>rfl)
 have F8:=bu (st:=vZ) l8 c8 k8
 have b8:=F8.binds (ps:=["powers","logs"]) λ_ _ _ _ _ _=>gj (λ_ _=>rfl)
 have F9:=bu (st:=v3) l9 c9 k9
 have b9:=F9.binds (ps:=["a","b"]) λ_ _ _ _ _ _=>gj (λ_ _=>rfl)
 have ν:=bu (st:=v9) Mg Mh Mi
 have b10:=ν.binds (ps:=["a"]) λ_ _ _ _ _ _=>hE (λ_=>rfl)
 have ξ:=bu (st:=wa) Ml Mm Mn
 have b11:=ξ.binds (ps:=["bits"]) λ_ _ _ _ _ _=>hE (λ_=>rfl)
 have ο:=bu (st:=wb) Mp Mq Mr
 have b12:=ο.binds (ps:=["a","b"]) λ_ _ _ _ _ _=>gj (λ_ _=>rfl)
 have π:=bu (st:=nU) Ms Mt Mu
 have b13:=π.binds (ps:=["self","bits"]) λ_ _ _ _ _ _=>gj (λ_ _=>rfl)
 have ρ:=bu (st:=wc) Mx Mz MA
 have b14:=ρ.binds (ps:=["_law_told_here"]) λ_ _ _ _ _ _=>hE (λ_=>rfl)
 have τ:=bu (st:=we) MC MD ME
 have b15:=τ.binds (ps:=["_law_told_here"]) λ_ _ _ _ _ _=>hE (λ_=>rfl)
 have υ:=bu (st:=wg) MG MH MI
 have b16:=υ.binds (ps:=["_law_told_here","_law_a","_law_b"]) λ_ _ _ _ _ _=>eU (λ_ _ _=>rfl)
 have χ:=bu (st:=wk) MK ML MM
 have b17:=χ.binds (ps:=["_law_told_here","_law_many_here"]) λ_ _ _ _ _ _=>gj (λ_ _=>rfl)
 have ω:=bu (st:=wm) MP MQ MR
 have b18:=ω.binds (ps:=["_law_script","_law_k"]) λ_ _ _ _ _ _=>gj (λ_ _=>rfl)
 have Γ:=bu (st:=wq) MT MU MV
 have b19:=Γ.binds (ps:=["_law_script","_law_many_here","_law_whole_here"]) λ_ _ _ _ _ _=>eU (λ_ _ _=>rfl)
 have Δ:=bu (st:=wt) MX MY MZ
 have b20:=Δ.binds (ps:=["_law_row"]) λ_ _ _ _ _ _=>hE (λ_=>rfl)
 have Θ:=bu (st:=wu) M1 M3 M4
 have b21:=Θ.binds (ps:=["_law_told_here","_law_a","_law_b"]) λ_ _ _ _ _ _=>eU (λ_ _ _=>rfl)
 have Λ:=bu (st:=wz) M6 M7 M8
 have b22:=Λ.binds (ps:=["_law_told_here","_law_a","_law_b"]) λ_ _ _ _ _ _=>eU (λ_ _ _=>rfl)
 have Ξ:=bu (st:=wA) Na Nb Nc
 have b23:=Ξ.binds (ps:=["_law_cell_here","_law_base","_law_count"]) λ_ _ _ _ _ _=>eU (λ_ _ _=>rfl)
 have Φ:=bu (st:=wB) Nf Ng xF
 have b24:=Φ.binds (ps:=["_law_told_here","_law_a","_law_b"]) λ_ _ _ _ _ _=>eU (λ_ _ _=>rfl)
 have Ψ:=bu (st:=wC) Ni Nj Nk
 have b25:=Ψ.binds (ps:=["_law_script","_law_told_here","_law_many_here","_law_powers_here","_law_numbers_here"]) λ_ _ _ _ _ _=>IH (λ_ _ _ _ _=>rfl)
 have Ω:=bu (st:=wD) Nm Nn Np
 have b26:=Ω.binds (ps:=["_law_script","_law_told_here","_law_many_here","_law_word_here","_law_count"]) λ_ _ _ _ _ _=>IH (λ_ _ _ _ _=>rfl)
 have F27:=bu (st:=wF) Nt Nu Nv
 have b27:=F27.binds (ps:=["signs"]) λ_ _ _ _ _ _=>hE (λ_=>rfl)
 have F28:=bu (st:=wG) Nx Ny Nz
 have b28:=F28.binds (ps:=["signs"]) λ_ _ _ _ _ _=>hE (λ_=>rfl)
 have F29:=bu (st:=wH) NA NB EG
 have b29:=F29.binds (ps:=["self","a","b"]) λ_ _ _ _ _ _=>eU (λ_ _ _=>rfl)
 have F30:=bu (st:=wI) NC ND EH
 have b30:=F30.binds (ps:=["self","a","b"]) λ_ _ _ _ _ _=>eU (λ_ _ _=>rfl)
 have F31:=bu (st:=wJ) NF NG EI
 have b31:=F31.binds (ps:=["self","a","b"]) λ_ _ _ _ _ _=>eU (λ_ _ _=>rfl)
 have F32:=bu (st:=wK) NH NI EJ
 have b32:=F32.binds (ps:=["self","a","b"]) λ_ _ _ _ _ _=>eU (λ_ _ _=>rfl)
 have F33:=bu (st:=wL) NK NL NM
 have b33:=F33.binds (ps:=["field","a","x"]) λ_ _ _ _ _ _=>eU (λ_ _ _=>rfl)
 have F34:=bu (st:=wM) NO NP NQ
 have b34:=F34.binds (ps:=["field","first","extra","word"]) λ_ _ _ _ _ _=>kM (λ_ _ _ _=>rfl)
 have F35:=bu (st:=wN) NS NT NU
 have b35:=F35.binds (ps:=["a"]) λ_ _ _ _ _ _=>hE (λ_=>rfl)
 have F36:=bu (st:=wO) NW NX NY
 have b36:=F36.binds (ps:=["field","a","b"]) λ_ _ _ _ _ _=>eU (λ_ _ _=>rfl)
 have F37:=bu (st:=wQ) NZ N0 EK
 have b37:=F37.binds (ps:=["self","a","b"]) λ_ _ _ _ _ _=>eU (λ_ _ _=>rfl)
 have F38:=bu (st:=wR) N2 N3 EL
 have b38:=F38.binds (ps:=["self","a","b"]) λ_ _ _ _ _ _=>eU (λ_ _ _=>rfl)
 have F39:=bu (st:=wU) N5 N6 N7
 have b39:=F39.binds (ps:=["field","places"]) λ_ _ _ _ _ _=>gj (λ_ _=>rfl)
 have F40:=bu (st:=wV) N8 N9 EM
 have b40:=F40.binds (ps:=["self","xs","ys"]) λ_ _ _ _ _ _=>eU (λ_ _ _=>rfl)
 have F41:=bu (st:=wW) Oa Ob EN
 have b41:=F41.binds (ps:=["self","xs","ys"]) λ_ _ _ _ _ _=>eU (λ_ _ _=>rfl)
 have F42:=bu (st:=wX) Od Oe Of
 have b42:=F42.binds (ps:=["field","row","c","place"]) λ_ _ _ _ _ _=>kM (λ_ _ _ _=>rfl)
 have F43:=bu (st:=wY) Oh Oi Oj
 have b43:=F43.binds (ps:=["a","length"]) λ_ _ _ _ _ _=>gj (λ_ _=>rfl)
 have F44:=bu (st:=wZ) Om Oo Oq
 have b44:=F44.binds (ps:=["field","a","b"]) λ_ _ _ _ _ _=>eU (λ_ _ _=>rfl)
 have F45:=bu (st:=w5) Ot Ou EO
 have b45:=F45.binds (ps:=["self","a","row"]) λ_ _ _ _ _ _=>eU (λ_ _ _=>rfl)
 have F46:=bu (st:=w6) Ov Ow ER
 have b46:=F46.binds (ps:=["self","a","row"]) λ_ _ _ _ _ _=>eU (λ_ _ _=>rfl)
 have F47:=bu (st:=w9) Ox Oy AW
 have b47:=F47.binds (ps:=["self","a","b"]) λ_ _ _ _ _ _=>eU (λ_ _ _=>rfl)
 have F48:=bu (st:=xa) OA OB OC
 have b48:=F48.binds (ps:=["field","row"]) λ_ _ _ _ _ _=>gj (λ_ _=>rfl)
 have F49:=bu (st:=xb) OE OF OG
 have b49:=F49.binds (ps:=["field","finder","length"]) λ_ _ _ _ _ _=>eU (λ_ _ _=>rfl)
 have F50:=bu (st:=xf) OI OJ OK
 have b50:=F50.binds (ps:=["field","lost","sums","length"]) λ_ _ _ _ _ _=>kM (λ_ _ _ _=>rfl)
 have F51:=bu (st:=xg) OM ON OO
 have b51:=F51.binds (ps:=["table"]) λ_ _ _ _ _ _=>hE (λ_=>rfl)
 have F52:=bu (st:=xh) OQ OR OS
 have b52:=F52.binds (ps:=["rows","place"]) λ_ _ _ _ _ _=>gj (λ_ _=>rfl)
 have F53:=bu (st:=xi) OT OU ES
 have b53:=F53.binds (ps:=["self","row","a","other"]) λ_ _ _ _ _ _=>kM (λ_ _ _ _=>rfl)
 have F54:=bu (st:=xj) OV OW ET
 have b54:=F54.binds (ps:=["self","row","a","other"]) λ_ _ _ _ _ _=>kM (λ_ _ _ _=>rfl)
 have F55:=bu (st:=xk) OY OZ O0
 have b55:=F55.binds (ps:=["field","rows","lead_row","place"]) λ_ _ _ _ _ _=>kM (λ_ _ _ _=>rfl)
 have F56:=bu (st:=xm) O2 O3 O4
 have b56:=F56.binds (ps:=["field","table"]) λ_ _ _ _ _ _=>gj (λ_ _=>rfl)
 have F57:=bu (st:=xn) O6 O7 O8
 have b57:=F57.binds (ps:=["rows"]) λ_ _ _ _ _ _=>hE (λ_=>rfl)
 have F58:=bu (st:=xo) Pa Pb Pc
 have b58:=F58.binds (ps:=["table","due"]) λ_ _ _ _ _ _=>gj (λ_ _=>rfl)
 have F59:=bu (st:=xp) Pe Pf Pg
 have b59:=F59.binds (ps:=["field","table","due"]) λ_ _ _ _ _ _=>eU (λ_ _ _=>rfl)
 have F60:=bu (st:=xt) Pj Pk Pl
 have b60:=F60.binds (ps:=["field","first","places","sums"]) λ_ _ _ _ _ _=>kM (λ_ _ _ _=>rfl)
 have F61:=bu (st:=xu) Pn Po Pp
 have b61:=F61.binds (ps:=["field","word","places","signs"]) λ_ _ _ _ _ _=>kM (λ_ _ _ _=>rfl)
 have F62:=bu (st:=xv) Pr Pt Pu
 have b62:=F62.binds (ps:=["field","first","extra","word"]) λ_ _ _ _ _ _=>kM (λ_ _ _ _=>rfl)
 have F63:=bu (st:=xw) Px Py Pz
 have b63:=F63.binds (ps:=["_law_row","_law_word_here"]) λ_ _ _ _ _ _=>gj (λ_ _=>rfl)
 have F64:=bu (st:=xx) jU PC PD
 have b64:=F64.binds (ps:=["_law_script","_law_told_here","_law_many_here","_law_word_here"]) λ_ _ _ _ _ _=>kM (λ_ _ _ _=>rfl)
 have F65:=bu (st:=xy) PH PJ PK
 have b65:=F65.binds (ps:=["_law_x"]) λ_ _ _ _ _ _=>hE (λ_=>rfl)
 have F66:=bu (st:=xA) PM PN PQ
 have b66:=F66.binds (ps:=["_law_found","_law_many_here"]) λ_ _ _ _ _ _=>gj (λ_ _=>rfl)
 have F67:=bu (st:=xB) PU PV PX
 have b67:=F67.binds (ps:=["_law_told_here","_law_many_here","_law_powers_here","_law_numbers_here","_law_word_here"]) λ_ _ _ _ _ _=>IH (λ_ _ _ _ _=>rfl)
 have F68:=bu (st:=nW) PY PZ P0
 have b68:=F68.binds (ps:=["_law_script"]) λ_ _ _ _ _ _=>hE (λ_=>rfl)
 have T:Txt K mg ⟨f0,_,f1,_,f2,_,f3,_,f4,_,f5,_,f6,_,f7,_,f8,_,f9,_,DU,_,DV,_,lU,_,xG,_,DW,_,DX,_,DY,_,DZ,_,D0,_,D1,_,D2,_,D3,_,D4,_,D6,_,uG,_,D7,_,D8,_,D9,_,Ea,_,xH,_,xI,_,xJ,_,xK,_,Eb,_,Ec,_,Ee,_,Ef,_,xM,_,xN,_,Eg,_,xO,_,xP,_,Eh,_,Ei,_,Ej,_,xQ,_,xR,_,qm,_,Ek,_,El,_,Em,_,Eo,_,Ep,_,xS,_,xT,_,Er,_,Es,_,Et,_,Eu,_,Ew,_,Ey,_,Ez,_,EA,_,EB,_,EC,_,ED,_,EE,_,EF,_,fa,_,AU,kO,AV,kP,aK,hW,kQ,aN⟩:=⟨F0,mg_of X G a0,b0,F1,mg_of X G a1,b1,F2,mg_of X G a2,b2,F3,mg_of X G a3,b3,F4,b4,F5,b5,F6,mg_of X G a6,b6,F7,b7,F8,mg_of X G a8,b8,F9,mg_of X G a9,b9,ν,mg_of X G Me,b10,ξ,mg_of X G Mj,b11,ο,mg_of X G Mo,b12,π,b13,ρ,mg_of X G Mw,b14,τ,mg_of X G MB,b15,υ,mg_of X G MF,b16,χ,mg_of X G MJ,b17,ω,mg_of X G MN,b18,Γ,mg_of X G MS,b19,Δ,mg_of X G MW,b20,Θ,mg_of X G M0,b21,Λ,mg_of X G M5,b22,Ξ,mg_of X G M9,b23,Φ,mg_of X G Nd,b24,Ψ,mg_of X G Nh,b25,Ω,mg_of X G Nl,b26,F27,mg_of X G Nq,b27,F28,mg_of X G Nw,b28,F29,b29,F30,b30,F31,b31,F32,b32,F33,mg_of X G NJ,b33,F34,mg_of X G NN,b34,F35,mg_of X G NR,b35,F36,mg_of X G NV,b36,F37,b37,F38,b38,F39,mg_of X G N4,b39,F40,b40,F41,b41,F42,mg_of X G Oc,b42,F43,mg_of X G Og,b43,F44,mg_of X G Ol,b44,F45,b45,F46,b46,F47,b47,F48,mg_of X G Oz,b48,F49,mg_of X G OD,b49,F50,mg_of X G OH,b50,F51,mg_of X G OL,b51,F52,mg_of X G OP,b52,F53,b53,F54,b54,F55,mg_of X G OX,b55,F56,mg_of X G O1,b56,F57,mg_of X G O5,b57,F58,mg_of X G O9,b58,F59,mg_of X G Pd,b59,F60,mg_of X G Ph,b60,F61,mg_of X G Pm,b61,F62,mg_of X G Pq,b62,F63,mg_of X G Pw,b63,F64,mg_of X G PB,b64,F65,mg_of X G PF,b65,F66,mg_of X G PL,b66,F67,mg_of X G PR,b67,F68,mg_of X G EU,b68,rfl,Md,rfl,Mv,⟨EV,EW,EX,EY⟩,⟨Aj,P1,P2,P4⟩,⟨⟨EV,EW,EX,EY⟩,P5,P6,P7,P8⟩,Ak,qh,tH,qi,DE,nX,Al,Am,⟨An,P9,EM⟩,⟨Ao,Qa,ES⟩,⟨Ap,Qb,EK⟩,⟨Aq,Qc,AW⟩,⟨Ar,Qe,EG⟩,⟨As,Qf,EO⟩,⟨tI,Qg,k4⟩,⟨Au,Qh,EI⟩,⟨EZ,E1,E2,E3⟩,⟨Av,Qi,Qj,Qk⟩,⟨⟨EZ,E1,E2,E3⟩,Ql,Qm,Qn,Qo⟩,DF,tJ,tK,tL,kR,DG,Aw,Az,⟨AA,Qp,EN⟩,⟨AB,Qq,ET⟩,⟨AD,Qr,EL⟩,⟨AE,Qs,AW⟩,⟨AF,Qt,EH⟩,⟨AG,Qu,ER⟩,⟨tM,Qv,k4⟩,⟨AH,Qw,EJ⟩,⟨Qx,Qy,Qz,k5⟩,mg_none_of X G QB,mg_none_of X G QC,mg_none_of X G QD,mg_none_of X G QE,mg_none_of X G QF,mg_none_of X G QG,mg_none_of X G QH,mg_none_of X G QI,mg_none_of X G QJ,mg_none_of X G QK,mg_none_of X G QL,mg_none_of X G QM,mg_none_of X G QN,mg_none_of X G QO,mg_of X G AJ,mg_of X G AK,mg_of X G xC,mg_of X G AL,cQ6 (mg_of X G AK) QQ,⟨QP,QR,QS,QT,QU,QV,QW,QX⟩⟩
 exact⟨fnOf "law" "law" (bf nW) (aW nW) (av nW) .none ZU ZV ZW ZT Mb ZX,λs v=>.of_eq rfl,λbase _ _ hB=>(cS3 T hB).imp λvs H Q E h=>let z:=co2 nl h;⟨λP hP=>z.1 P (sub P hP),z.2⟩⟩
theorem aJ7{K:Frag}{h:Heap}{c f k P:Addr}{od an:Option Addr}{sl:Array (Option Value)}{oc kV dc pm ct kt:Value}{ko:Option Addr}{ks:Array (Option Value)}{kf:Array Value}(X:K.In h)(a:nsIn K mainGlobals "PrimeField"=some (some (.ref c)))(b:findIn K (.ref c) "__init__"=some (some (.ref f)))
  (l:K.lookup f=some ⟨oc,od,.func (fnOf "__init__" "PrimeField.__init__" (bf nS) (aW nS) (av nS) .none kV dc pm an (.ref k) ct),sl⟩) (lk:K.lookup k=some ⟨kt,ko,.fields kf,ks⟩) (lp:kf[11]?=some (.ref P)) (n:K.lookup P=none) (e:codeHdIn K k P=true):K.lookup P=none/\∃c,CodeHd h c P:=⟨n,k,PySem.W.codeHd_of_K X e⟩
theorem aN4{K:Frag}{h:Heap}{c f k P:Addr}{od an:Option Addr}{sl:Array (Option Value)}{oc kV dc pm ct kt:Value}{ko:Option Addr}{ks:Array (Option Value)}{kf:Array Value}(X:K.In h)(a:nsIn K mainGlobals "BitField"=some (some (.ref c)))(b:findIn K (.ref c) "__init__"=some (some (.ref f)))
  (l:K.lookup f=some ⟨oc,od,.func (fnOf "__init__" "BitField.__init__" (bf nU) (aW nU) (av nU) .none kV dc pm an (.ref k) ct),sl⟩) (lk:K.lookup k=some ⟨kt,ko,.fields kf,ks⟩) (lp:kf[11]?=some (.ref P)) (n:K.lookup P=none) (e:codeHdIn K k P=true):K.lookup P=none/\∃c,CodeHd h c P:=⟨n,k,PySem.W.codeHd_of_K X e⟩
theorem walk{l:PySem.W.OpenLaw}{q:Program}{loose:List Str}{XP:(Str->Option Value)->Heap->Prop}{YP:World->Heap->Prop}{d:DefRec}{K:Params->Frag}{ts:List Addr}(hn:l.most=some 63)(yU:d.params.defaults=[])
  (hY:∀(w:World) (h:Heap),YP w h->(K w.params).In h/\∀P∈ts,h.get? P=some (PySem.W.tabObj #[]))
  (hC:∀(w:World) (h:Heap),(K w.params).In h->∀P∈ts,(K w.params).lookup P=none/\∃c,CodeHd h c P)
  (F:∀(w:World) (mg:Str->Option Value) (fa:Addr) (h:Heap),(K w.params).In h->h.Ns mainGlobals mg->mg d.name=some (.ref fa) ->
   ∃fd:FuncData,(∀(s:Shared) (u:Value),BindsTo s fd ⟨[u],[]⟩ [("_law_script",u)])/\∀base:Heap,(K w.params).In base->base.Ns mainGlobals mg->Bm mg base->aM l.prog w (K w.params) mg base aT 11 fa fd ["_law_script"] (Cn ts (K w.params))) :
  PySem.W.WalkO q loose XP YP l.row.toRowW d [] (λf vs=>PySem.call f vs) :=
 L2.dQ8 (n:=63) (k:=11) (x:="_law_script") (CX:=λ_=>aT) (sp:=λw=>Cn ts (K w.params)) hn (by decide) yU ⟨rfl,by decide,by decide⟩ hY hC F (λ_ _ a ns hl hO hS=>⟨a,ns,rfl,hO,hS,hl,λ_=>rfl⟩) λ_ _ _ _ _ z=>z
end HK26
set_option genInjectivity false in
set_option genSizeOf false in
structure PySem.W.Fast:Prop where
 (tw8524714714029299712 tw17064405857203932192 tw7530856195503588416 tw12693541033661528128 tw8747920837307017312 tw9917597623756405856 tw8941558649750632576 tw780791728044678304 tw14919926505446640928 tw13321284226105810208 tw5688809887655458144 tw5824538651251474816 tw644160225198152128 tw16205435193775023584 tw14833526146700270080 tw2719841179374151168 tw1085809732778811936 tw13284517650064209536 tw12257298498206107296 tw13554553915834011392 tw7921577355472856864 tw10758916506083434304 tw11682007064142823264 tw1467761743597953920 tw8979717876626925504 tw9805098875167608865 tw2709872632451152961 tw14795515702500285537 tw1472937510313283713 tw8362428823797555361 tw7313520026907986145 tw3245074512389970177 tw7284876964079126849 tw6028817624158754113 tw3315067071211592033 tw12287733086007157089 tw8830234840563534209 tw13583573832849953185 tw13796603955928356289 tw13605091897768613345:True)
 (tw10522277386075129345 tw17862879959362272769 tw1890649734069832257 tw1782992109683592801 tw17800294348336263809 tw7753117280393922209 tw12782187758951048897 tw2630469916829122241 tw10012624751556726625 tw16408695119080362849 tw17110798196312192897 tw16284930018775156770 tw11342372094707372098 tw11550138073028001858 tw16248101241923868930 tw10411557137273648482 tw310708854822472258 tw10176540686637344418 tw2419577623240187618 tw10193319708212768514 tw3345984972883612450 tw10133220107229775714 tw809324630320432002 tw3708934886552129442 tw13245516884671155138 tw7738740005174516706 tw715819204406037474 tw16087202607980824579 tw13719123590733831267 tw13640918717433012387 tw14643752496802622659 tw2836504552557363459 tw15050942114895579395 tw4292003019318415619 tw15898304229718491427 tw11014303815116127779 tw5194005763173669443 tw9346997739717516867 tw6659413269005248131 tw14625359762889180835:True)
 (tw12639131489431610019 tw18361431540908209859 tw12603877962141703907 tw18090071071367221987 tw15833047231294196483 tw11570462808730018595 tw11890216568944110403 tw11582618616782120771 tw7674377894819145571 tw10439387899242803107 tw3709391631256730563 tw16644408150329925603 tw18246097242627549188 tw5762111513462436900 tw14465069132282885156 tw3518190884654307396 tw17895591970343915780 tw4988158484709198084 tw16183002600120578308 tw18305581650183652708 tw1406084889420455492 tw13697472748819467876 tw11681463263783780996 tw12137091550512715396 tw8151541945677178500 tw8476307682977618596 tw7291997194085575396 tw9189262031002275620 tw3540967764748388164 tw15345327046295834436 tw15067537401484454756 tw5226764766092405636 tw351925903619863460 tw11739676176438683556 tw13487683974159795140 tw15585322861901372356 tw13550066570479704069 tw4166605545730056261 tw12930927746125727909 tw3407303413300773029:True)
 (tw16005407129486699749 tw3497301783415986437 tw5205885761681077509 tw522018402918481221 tw9161172897747927525 tw16469091335693682181 tw5144060551210406437 tw8730134325849973317 tw16180910786245409413 tw5930021414796416773 tw13091798107644480325 tw1414725225170256805 tw8090993995530796965 tw15515452469639818213 tw4751899280596188166 tw7730577376355077126 tw9044949798075143238 tw16906042264960718918 tw8865314472860926054 tw4059198774362351750 tw17483821722225429638 tw13699363496692797638 tw5238636970900960486 tw15196522742083888390 tw3582101070805626150 tw10779053446571369798 tw12979942604176658854 tw7333686500095567398 tw9574566061349461542 tw17355308522349038182 tw8112881356742956678 tw1805787924899085958 tw9759846351496737414 tw9024672499580277446 tw14163306216458396358 tw16582577619595420454 tw17541475388755106662 tw11219409982106861414 tw17351858007467448198 tw16517055743849846662:True)
 (tw12236155791744000934 tw2363885786790173670 tw15131163687017359399 tw14284674243351725095 tw1664763691713103943 tw13683279446270169159 tw8857782078112218247 tw179471094669377799 tw7263774496916033799 tw5674356753909578247 tw526684120073965095 tw17599449741653359143 tw2684144624517098119 tw8136979614867663591 tw4083817765374180071 tw8332705560440563495 tw3994778222834486151 tw13390579393715369992 tw11868975147894282312 tw6073007344274882632 tw591059442203655304 tw11405639803006877864 tw4835072957196749992 tw8519503477351465224 tw12086332713932578056 tw12909266500917353832 tw2752405556492923240 tw3172858692124117384 tw5691754862353191304 tw14182255482679901576 tw9367111469176211880 tw4452152609675037096 tw1237098829042766248 tw577293257443304872 tw13220164547165138408 tw5713404058817279464 tw9828910242398408200 tw1118712088949108232 tw15048848434629263880 tw10943452619612733960:True)
 (tw6983130237357532712 tw15528225470278998664 tw8746400209156515464 tw5978268859017776776 tw2402773741186200232 tw9644719086167864040 tw14830654254711395048 tw13514318792481706760 tw1190585332740692808 tw7397196472491827048 tw14776504093913309096 tw14149442335651437512 tw11051346256198312904 tw7963928015576444872 tw2275552136072941512 tw4183222235380417545 tw2347614247817837609 tw11206511009121199209 tw16122281087960034441 tw3110428527120267465 tw3592424387489909961 tw6106627912818915593 tw47472907383358761 tw7470974984272030025 tw2920116171614532937 tw5726331350762251625 tw10585583180694803849 tw10442217695889449385 tw2896579279811156457 tw18105103039764538889 tw14699703274177813033 tw15013020404665535049 tw16390805532599837353 tw7948086698436127401 tw7039648694774007561 tw928361916428132169 tw9338417527525556041 tw2067762804004156329 tw8508864237037384649 tw4185913446159915114:True)
 (tw6566569418939086986 tw2064940052370773258 tw13331658004377688330 tw4620035890498561290 tw13806090432396334378 tw1624310752013936938 tw11301282720833678794 tw7787506458281246218 tw17757431926060686954 tw10889092149077496458 tw6435716196786838186 tw3548375361251192490 tw7871209385735669418 tw11483431811515842250 tw1628707693532102378 tw685593422065166122 tw16061280809034017674 tw12411724640415475626 tw16517739684794799115 tw4272009756503290923 tw14757560560835904619 tw10962079110509167755 tw7745136593510361227 tw12584321902905487531 tw1006360438017771723 tw11538765366381976939 tw11068955988742780299 tw1747323041942776235 tw10379647004461729227 tw1901707372956928555 tw16640427628734595723 tw2267020344514054827 tw1924284404224884395 tw2994344268136729291 tw16394081549477843691 tw17000613996531882795 tw5273334703176269611 tw5044335480319218507 tw6146613938214672235 tw2812437766876737419:True)
 (tw18046313508201120651 tw2058652084537646987 tw17777181619604619179 tw2989195859385413547 tw15602440161008647180 tw7577143030790818860 tw329855965722217580 tw8053820984961376556 tw13217778500763543852 tw15095189478218928556 tw16143476851637235116 tw16452054287433031116 tw7935761951779346060 tw13037148323654361836 tw8835340373542911788 tw9905466200576267052 tw13429099201795636076 tw14561491837047255948 tw15056819797340843948 tw11694690854607817741 tw9984717291260901421 tw10805888373258917965 tw371782458134432877 tw17449467647686355181 tw4845816559115996493 tw3158433606598418765 tw10902016403820138829 tw9476072953789811053 tw7580715689267797389 tw10124182938766679437 tw14528059787884077453 tw893435946432495053 tw16274904450213057101 tw16964143454273579597 tw6430710833327355469 tw1048475946635454029 tw3111673485719010925 tw7561013150208681645 tw10334355228337248973 tw14437906257966965453:True)
 (tw16949525973741765389 tw15418304340389104429 tw2749501458311014189 tw16905661073638497133 tw5307722713769573325 tw15351363067513574381 tw6974711032648409069 tw2561337576815441901 tw892346571137795053 tw7318970322541516846 tw5416457044894236718 tw2858074415447470126 tw13056294788263199822 tw3778516171840411758 tw8407260558481054830 tw4105728643091363982 tw13924541598783113454 tw3414502065766652302 tw5370739222702463406 tw11233939409285065134 tw787538463319945678 tw15637640695151152654 tw7380594659007114798 tw4539812277006722606 tw306959965957497422 tw9432379641739654766 tw4405545939201553006 tw2108822474129811342 tw66396073703332782 tw1770605355166173134 tw5069132496196551662 tw5907303443434459118 tw402164407595019311 tw10767928520451940431 tw4146953765397819471 tw7143131584657292399 tw8496501154740753551 tw11279097891172956335 tw13082158725697695951 tw1129089675522066735:True)
 (tw1665916750855865679 tw5190725185291293007 tw15617488905720273231 tw18242368294631888271 tw102887048348293519 tw1472542365495965103 tw11101658719870130639 tw2173686715562081935 tw419158423037717167 tw14035312696344230575 tw1418985198759673519 tw2604806780330711823 tw15610588560334335823 tw12596587106658669391 tw17713840692840665999 tw2730849802913423247 tw2163574838129074127 tw2967464915216587759 tw2148612026661326896 tw11324278477617696944 tw3522596930146252016 tw13107046887936417008 tw2151870606702112016 tw17226125108399149360 tw9566644175704037680 tw17340072970601121104 tw5501580577250560368 tw12245748771718554000 tw4262850489758617040 tw3883418943298653648 tw9669370294289855952 tw10773391228516877808 tw4183696656143533552 tw4345055673398925872 tw12389498002374224432 tw4688081090914318000 tw3298034787223025328 tw8352541146921033488 tw1339033943027984208 tw18093157207637186384:True)
 (tw16397584205743315856 tw6567969407197228976 tw461149438693617584 tw5935690435658761168 tw1828031620871170065 tw16450811244248215569 tw15103880085545567313 tw5779865830221685905 tw716147032579445937 tw8373505182235849905 tw6039048463478504689 tw1288161956767547633 tw2982035853544738065 tw18438031717459852561 tw8046435044492576081 tw3583211138844047729 tw2762752433629281649 tw9225367064271959441 tw7975836341335893489 tw3761587193284129265 tw14138913944246890001 tw6476896473494376977 tw8079776878576194065 tw9965849192121758225 tw10856947967893135025 tw10551542424716685009 tw9162987175838039793 tw6237886314568351505 tw2781591577429207857 tw421277003022282577 tw9256245050510981969 tw3632261353329049425 tw11398980093308107633 tw16296310298994625489 tw12920096890656491538 tw378567152834137106 tw5405889512661778482 tw8257101414353347634 tw12444839925696958610 tw4569870121391530130:True)
 (tw11323194010958589074 tw604056520387134738 tw6224844569588654418 tw3568026663637385586 tw2390696797223324082 tw11654210454039368114 tw3177403881163806162 tw16861754202239068626 tw10400494636942493170 tw6062786955621448210 tw8987673568652186130 tw11121509054570832466 tw9227714297514702450 tw4890529372102527666 tw7052457765356067538 tw8805426737709142898 tw3370052991587049362 tw13795326063025775538 tw7014768303051184179 tw12277137582574430291 tw16902606113122673779 tw4835153642117559539 tw8536292909295477203 tw17991272341122887123 tw17511280347121060339 tw9178686392670541299 tw277197051551097363 tw5004102636235572915 tw15784486019672578803 tw319462070542015251 tw3497947613288143763 tw10403518865385276339 tw6209622674063487923 tw2176426072677271539 tw12881335232946461748 tw3399122514166843508 tw10890399636238780532 tw2098344548157769876 tw16194394509338440916 tw10234099422257153268:True)
 (tw7174627238582251796 tw2280331216263565876 tw15485501741189959252 tw8287180985450992308 tw5004500522882940596 tw7259249600104127220 tw425318712619579156 tw6629760038126091028 tw6822407785588926260 tw11832842160304645940 tw856780920859105204 tw880355814529055668 tw1459310038406598612 tw9334370754221889589 tw13223859937377495125 tw12751843785722464437 tw2330556355430692021 tw6358941684553705813 tw4298328250059009397 tw7235033422003845525 tw4964895159543471573 tw14879783732940494293 tw16781248569552347669 tw10934471101534349877 tw9420067738615936597 tw5687391623829852885 tw5844301445831235285 tw14009059360637563733 tw12215801955782772565 tw11401100332762147733 tw9790822501464360885 tw13367915773771118517 tw15711933347144417237 tw14320824380889522133 tw16464563669298037782 tw14258730934241054838 tw1078863652376352918 tw8143776480188604566 tw17379717674176820374 tw9367288984193938582:True)
 (tw16501291841206946006 tw10745812315854401814 tw11105034008199398710 tw2075306343359099222 tw15159177825449239894 tw7444822238148356502 tw18230577690979295702 tw4262379259097819638 tw11645236003390180854 tw16875784536111772214 tw5486207490954809942 tw17961755942337048150 tw8923240381272226454 tw6440032573951779542 tw4443410462381207286 tw18369023525318306550 tw17504085012928772886 tw11095003143039118102 tw13503438092607918934 tw13002128735993000790 tw16830791144923205494 tw9942573414324310934 tw9881406123050115127 tw18402708013479905335 tw3275920143594868823 tw6720254875854494839 tw17632863946972101847 tw17608143960719539447 tw2615586356610918743 tw14694087370522530199 tw8808984615115938199 tw8801444490349956567 tw15240262954078651927 tw108504164021784119 tw8450438748043518551 tw11616272182787690071 tw12450761761793649271 tw13558393029139707511 tw14480401789334944375 tw3600019008135704215:True)
 (tw17279859682379552439 tw13091936351277264663 tw15469048002151303959 tw14153937364730487575 tw2011651831978127159 tw11069106029351525239 tw14330724888745520023 tw14849445952940963735 tw7269340634531025944 tw17821532658114105400 tw1172467107084312632 tw3493467833266280664 tw4923543992471408856 tw8564224434974888216 tw14020762349062493496 tw7405274505109259704 tw5444127993045021112 tw670385793632617944 tw6168707242480372248 tw11009486231422286360 tw17699190157419811448 tw4115472893661715064 tw6666041610892804792 tw7589815709001468632 tw81204828593438488 tw15190758073389600536 tw14920798718674464536 tw10908920398151189304 tw3632819164848424760 tw12967976172091200344 tw430947609341887352 tw2382322188359924825 tw7436567451903023225 tw12512176685706252441 tw11643828696571328665 tw1370286911205788825 tw10809376916387985657 tw3503306079565414809 tw1727585435164971417 tw4594078061715915257:True)
 (tw3540830689604831737 tw6592902175225520665 tw1405448300264364601 tw15399941255136710265 tw12877952491149008505 tw7966270036483090041 tw2112865890968462009 tw908023988626592601 tw8261901750532622201 tw15168213873829726105 tw18018932310646900665 tw14529150763651662809 tw8432867774175825881 tw1291351637723706361 tw18356247188587804665 tw2977359623257259001 tw3086699339445000218 tw9477759228752025626 tw8101945398749485114 tw7716657839660006490 tw1056630269901473914 tw14049842657876488346 tw1726650275351875770 tw1810627071787969754 tw8003201158835796218 tw15673430556611876090 tw11498081126784147738 tw9042420994893099290 tw2369914858352841082 tw2358976254498747770 tw3718684577419815322 tw5074326708380387770 tw12370775814243176954 tw9593560345661103706 tw161275384147139194 tw8412771339141762714 tw9631744652328063674 tw6467984928917997306 tw3490644130393343802 tw17248083837487303482:True)
 (tw4232952897370955610 tw13939663841807090554 tw11874588936176334714 tw15426614600823888858 tw6078612641799622683 tw4896203686059838491 tw14717695073146177595 tw12092349430093778011 tw11703256173844269179 tw9236175307486232731 tw963912564066803899 tw1552570291400954107 tw16756565602584715547 tw10386091826285367611 tw10945626328419453243 tw13690104258364740955 tw5925664535086014811 tw18170870757011039579 tw4858135009817916795 tw13928075336937825723 tw18084193935520162267 tw7573896186416949723 tw6730806943837931067 tw13711855060724031131 tw16494049163443221339 tw15554307837740881851 tw13679213783896416219 tw14161768262599738363 tw9827129244938624028 tw15790305786371498012 tw1279169151851785244 tw15268756805257499708 tw13395040163287578684 tw6550188074935229532 tw2380972068482504796 tw8451674395215130780 tw10317250910484505820 tw10908632066014457052 tw17576982614408276220 tw205403701440958748:True)
 (tw15098180515547219324 tw10178005256754015644 tw7352124136070395292 tw6130359820481676700 tw7812026215882844572 tw1238854925149968892 tw16739401356476219964 tw12777049176820080220 tw15129038581921220220 tw2953411471691397756 tw5365468140476431228 tw9273090433987595164 tw6289056401611287452 tw2154579691413663708 tw13766250756276371452 tw6709843558590354557 tw9839109421474398333 tw300534321678177437 tw14229715174333642941 tw11901856380760894685 tw2613634020452960509 tw11013336337016596733 tw2319867669280802045 tw6836591664622295293 tw8877895405907089693 tw7770103540718450973 tw16096549738529406269 tw18070395417253083453 tw6308539133441385821 tw8091748767300028829 tw10683595595384412637 tw14843531957740183133 tw12948298099825451645 tw17037647473638337181 tw12823956104387699389 tw13075928773541313213 tw15698672582157071133 tw4815068785104397117 tw7395659445052298045 tw2275718629967470461:True)
 (tw2166710516064947101 tw17810314611098135453 tw16472943416776519581 tw8983164013056729021 tw202382631607179294 tw8776290193179581534 tw2787249387617590366 tw1176671872046686462 tw12910737017579343134 tw2332774391475042590 tw8425352392535237950 tw18014009625575533982 tw4769897384727142974 tw17722639977985772126 tw209363883951274590 tw5254461741086300830 tw14085989309688835742 tw1083201149717771998 tw8493895887251429118 tw15539809670634112798 tw16919399659170893630 tw9840800679692055422 tw8235414162236682238 tw10823645269786988639 tw3072589319776948351 tw18003294963662624063 tw17831766675677845823 tw11692438144756862271 tw15972436577099201887 tw5832831295436153183 tw12138563889732320607 tw7755555415668615551 tw1621206966692772287 tw17953335138034564607 tw836199267700578879 tw16282141153411391167 tw753522750168883903 tw17689151463402073791 tw8040448913958241087 tw3590893409075075903:True)
 (tw1606851012703197023 tw18250231985163557727 tw3239890908085111679 tw6110384973927319455 tw1049111593936883615 tw1231722303077885887 tw8217874067466574783 tw7496541698851366847 tw15729888607830503391 tw10631469551196683107:True)
open PySem PySem.W PyProof.Rows
set_option maxRecDepth 100000 in
set_option maxHeartbeats 0 in
theorem PySem.Challenge.cw_mendfield_k26_whole_root_nearest_holds : PySem.Challenge.rw_mendfield_k26_whole_root_nearest.Holds := by
 w_on;o_law;k_head;(case hw=>w_witness2)
 k_fill
 refine HK26.walk (l:=PySem.Challenge.rw_mendfield_k26_whole_root_nearest) rfl rfl (λw h Y=>⟨PySem.W.km_in_of Y,PySem.W.km_tabs_of Y⟩) ?C ?F
 case C =>
  intro w h hX
  repeat' (first | exact List.forall_mem_nil _ | refine List.forall_mem_cons.mpr ⟨?_,?_⟩)
  all_goals first | (refine' HK26.aJ7 hX ?a ?b ?l ?lk ?lp ?n ?e;(case a=>k_is);(case b=>k_is);(case l=>k_is);(case lk=>k_is);(case lp=>first | rfl | with_unfolding_all rfl);(case n=>kernel_rfl);(case e=>kernel_rfl)) | (refine' HK26.aN4 hX ?a ?b ?l ?lk ?lp ?n ?e;(case a=>k_is);(case b=>k_is);(case l=>k_is);(case lk=>k_is);(case lp=>first | rfl | with_unfolding_all rfl);(case n=>kernel_rfl);(case e=>kernel_rfl))
 case F =>
  intro w mg fa h KX G yV
  refine' HK26.all_mk KX G yV ?AJ ?AK ?xC ?AL ?a0 ?l0 ?c0 ?k0 ?a1 ?l1 ?c1 ?k1 ?a2 ?l2 ?c2 ?k2 ?a3 ?l3 ?c3 ?k3 ?a4 ?l4 ?c4 ?k4 ?a5 ?l5 ?c5 ?k5 ?a6 ?l6 ?c6 ?k6 ?a7 ?l7 ?c7 ?k7 ?ZY ?ZZ ?Md ?a8 ?l8 ?c8 ?k8 ?a9 ?l9 ?c9 ?k9 ?Me ?Mg ?Mh ?Mi ?Mj ?Ml ?Mm ?Mn ?Mo ?Mp ?Mq ?Mr ?Z0 ?Ms ?Mt ?Mu ?Z1 ?Z2 ?Mv ?Mw ?Mx ?Mz ?MA ?MB ?MC ?MD ?ME ?MF ?MG ?MH ?MI ?MJ ?MK ?ML ?MM ?MN ?MP ?MQ ?MR ?MS ?MT ?MU ?MV ?MW ?MX ?MY ?MZ ?M0 ?M1 ?M3 ?M4 ?M5 ?M6 ?M7 ?M8 ?M9 ?Na ?Nb ?Nc ?Nd ?Nf ?Ng ?xF ?Nh ?Ni ?Nj ?Nk ?Nl ?Nm ?Nn ?Np ?Nq ?Nt ?Nu ?Nv ?Nw ?Nx ?Ny ?Nz ?Z3 ?NA ?NB ?EG ?Z4 ?NC ?ND ?EH ?Z5 ?NF ?NG ?EI ?Z6 ?NH ?NI ?EJ ?NJ ?NK ?NL ?NM ?NN ?NO ?NP ?NQ ?NR ?NS ?NT ?NU ?NV ?NW ?NX ?NY ?Z7 ?NZ ?N0 ?EK ?Z8 ?N2 ?N3 ?EL ?N4 ?N5 ?N6 ?N7 ?Z9 ?N8 ?N9 ?EM ?γ ?Oa ?Ob ?EN ?Oc ?Od ?Oe ?Of ?Og ?Oh ?Oi ?Oj ?Ol ?Om ?Oo ?Oq ?ε ?Ot ?Ou ?EO ?ζ ?Ov ?Ow ?ER ?η ?Ox ?Oy ?AW ?Oz ?OA ?OB ?OC ?OD ?OE ?OF ?OG ?OH ?OI ?OJ ?OK ?OL ?OM ?ON ?OO ?OP ?OQ ?OR ?OS ?θ ?OT ?OU ?ES ?ι ?OV ?OW ?ET ?OX ?OY ?OZ ?O0 ?O1 ?O2 ?O3 ?O4 ?O5 ?O6 ?O7 ?O8 ?O9 ?Pa ?Pb ?Pc ?Pd ?Pe ?Pf ?Pg ?Ph ?Pj ?Pk ?Pl ?Pm ?Pn ?Po ?Pp ?Pq ?Pr ?Pt ?Pu ?Pw ?Px ?Py ?Pz ?PB ?jU ?PC ?PD ?PF ?PH ?PJ ?PK ?PL ?PM ?PN ?PQ ?PR ?PU ?PV ?PX ?EU ?PY ?PZ ?P0 ?EV ?EW ?EX ?EY ?Aj ?P1 ?P2 ?P4 ?P5 ?P6 ?P7 ?P8 ?Ak ?qh ?tH ?qi ?DE ?nX ?Al ?Am ?An ?P9 ?Ao ?Qa ?Ap ?Qb ?Aq ?Qc ?Ar ?Qe ?As ?Qf ?tI ?Qg ?Au ?Qh ?EZ ?E1 ?E2 ?E3 ?Av ?Qi ?Qj ?Qk ?Ql ?Qm ?Qn ?Qo ?DF ?tJ ?tK ?tL ?kR ?DG ?Aw ?Az ?AA ?Qp ?AB ?Qq ?AD ?Qr ?AE ?Qs ?AF ?Qt ?AG ?Qu ?tM ?Qv ?AH ?Qw ?Qx ?Qy ?Qz ?QB ?QC ?QD ?QE ?QF ?QG ?QH ?QI ?QJ ?QK ?QL ?QM ?QN ?QO ?QP ?μ ?QQ ?QR ?QS ?QT ?QU ?QV ?QW ?QX ?nl ?sub
  (case AJ=>k_is)
  (case AK=>k_is)
  (case xC=>k_is)
  (case AL=>k_is)
  (case a0=>k_is)
  (case l0=>k_is)
  (case c0=>k_is)
  (case k0=>k_is)
  (case a1=>k_is)
  (case l1=>k_is)
  (case c1=>k_is)
  (case k1=>k_is)
  (case a2=>k_is)
  (case l2=>k_is)
  (case c2=>k_is)
  (case k2=>k_is)
  (case a3=>k_is)
  (case l3=>k_is)
  (case c3=>k_is)
  (case k3=>k_is)
  (case a4=>k_is)
  (case l4=>k_is)
  (case c4=>k_is)
  (case k4=>k_is)
  (case a5=>k_is)
  (case l5=>k_is)
  (case c5=>k_is)
  (case k5=>k_is)
  (case a6=>k_is)
  (case l6=>k_is)
  (case c6=>k_is)
  (case k6=>k_is)
  (case a7=>k_is)
  (case l7=>k_is)
  (case c7=>k_is)
  (case k7=>k_is)
  (case ZY=>k_is)
  (case ZZ=>first | rfl | with_unfolding_all rfl)
  (case Md=>kernel_rfl)
  (case a8=>k_is)
  (case l8=>k_is)
  (case c8=>k_is)
  (case k8=>k_is)
  (case a9=>k_is)
  (case l9=>k_is)
  (case c9=>k_is)
  (case k9=>k_is)
  (case Me=>k_is)
  (case Mg=>k_is)
  (case Mh=>k_is)
  (case Mi=>k_is)
  (case Mj=>k_is)
  (case Ml=>k_is)
  (case Mm=>k_is)
  (case Mn=>k_is)
  (case Mo=>k_is)
  (case Mp=>k_is)
  (case Mq=>k_is)
  (case Mr=>k_is)
  (case Z0=>k_is)
  (case Ms=>k_is)
  (case Mt=>k_is)
  (case Mu=>k_is)
  (case Z1=>k_is)
  (case Z2=>first | rfl | with_unfolding_all rfl)
  (case Mv=>kernel_rfl)
  (case Mw=>k_is)
  (case Mx=>k_is)
  (case Mz=>k_is)
  (case MA=>k_is)
  (case MB=>k_is)
  (case MC=>k_is)
  (case MD=>k_is)
  (case ME=>k_is)
  (case MF=>k_is)
  (case MG=>k_is)
  (case MH=>k_is)
  (case MI=>k_is)
  (case MJ=>k_is)
  (case MK=>k_is)
  (case ML=>k_is)
  (case MM=>k_is)
  (case MN=>k_is)
  (case MP=>k_is)
  (case MQ=>k_is)
  (case MR=>k_is)
  (case MS=>k_is)
  (case MT=>k_is)
  (case MU=>k_is)
  (case MV=>k_is)
  (case MW=>k_is)
  (case MX=>k_is)
  (case MY=>k_is)
  (case MZ=>k_is)
  (case M0=>k_is)
  (case M1=>k_is)
  (case M3=>k_is)
  (case M4=>k_is)
  (case M5=>k_is)
  (case M6=>k_is)
  (case M7=>k_is)
  (case M8=>k_is)
  (case M9=>k_is)
  (case Na=>k_is)
  (case Nb=>k_is)
  (case Nc=>k_is)
  (case Nd=>k_is)
  (case Nf=>k_is)
  (case Ng=>k_is)
  (case xF=>k_is)
  (case Nh=>k_is)
  (case Ni=>k_is)
  (case Nj=>k_is)
  (case Nk=>k_is)
  (case Nl=>k_is)
  (case Nm=>k_is)
  (case Nn=>k_is)
  (case Np=>k_is)
  (case Nq=>k_is)
  (case Nt=>k_is)
  (case Nu=>k_is)
  (case Nv=>k_is)
  (case Nw=>k_is)
  (case Nx=>k_is)
  (case Ny=>k_is)
  (case Nz=>k_is)
  (case Z3=>k_is)
  (case NA=>k_is)
  (case NB=>k_is)
  (case EG=>k_is)
  (case Z4=>k_is)
  (case NC=>k_is)
  (case ND=>k_is)
  (case EH=>k_is)
  (case Z5=>k_is)
  (case NF=>k_is)
  (case NG=>k_is)
  (case EI=>k_is)
  (case Z6=>k_is)
  (case NH=>k_is)
  (case NI=>k_is)
  (case EJ=>k_is)
  (case NJ=>k_is)
  (case NK=>k_is)
  (case NL=>k_is)
  (case NM=>k_is)
  (case NN=>k_is)
  (case NO=>k_is)
  (case NP=>k_is)
  (case NQ=>k_is)
  (case NR=>k_is)
  (case NS=>k_is)
  (case NT=>k_is)
  (case NU=>k_is)
  (case NV=>k_is)
  (case NW=>k_is)
  (case NX=>k_is)
  (case NY=>k_is)
  (case Z7=>k_is)
  (case NZ=>k_is)
  (case N0=>k_is)
  (case EK=>k_is)
  (case Z8=>k_is)
  (case N2=>k_is)
  (case N3=>k_is)
  (case EL=>k_is)
  (case N4=>k_is)
  (case N5=>k_is)
  (case N6=>k_is)
  (case N7=>k_is)
  (case Z9=>k_is)
  (case N8=>k_is)
  (case N9=>k_is)
  (case EM=>k_is)
  (case γ=>k_is)
  (case Oa=>k_is)
  (case Ob=>k_is)
  (case EN=>k_is)
  (case Oc=>k_is)
  (case Od=>k_is)
  (case Oe=>k_is)
  (case Of=>k_is)
  (case Og=>k_is)
  (case Oh=>k_is)
  (case Oi=>k_is)
  (case Oj=>k_is)
  (case Ol=>k_is)
  (case Om=>k_is)
  (case Oo=>k_is)
  (case Oq=>k_is)
  (case ε=>k_is)
  (case Ot=>k_is)
  (case Ou=>k_is)
  (case EO=>k_is)
  (case ζ=>k_is)
  (case Ov=>k_is)
  (case Ow=>k_is)
  (case ER=>k_is)
  (case η=>k_is)
  (case Ox=>k_is)
  (case Oy=>k_is)
  (case AW=>k_is)
  (case Oz=>k_is)
  (case OA=>k_is)
  (case OB=>k_is)
  (case OC=>k_is)
  (case OD=>k_is)
  (case OE=>k_is)
  (case OF=>k_is)
  (case OG=>k_is)
  (case OH=>k_is)
  (case OI=>k_is)
  (case OJ=>k_is)
  (case OK=>k_is)
  (case OL=>k_is)
  (case OM=>k_is)
  (case ON=>k_is)
  (case OO=>k_is)
  (case OP=>k_is)
  (case OQ=>k_is)
  (case OR=>k_is)
  (case OS=>k_is)
  (case θ=>k_is)
  (case OT=>k_is)
  (case OU=>k_is)
  (case ES=>k_is)
  (case ι=>k_is)
  (case OV=>k_is)
  (case OW=>k_is)
  (case ET=>k_is)
  (case OX=>k_is)
  (case OY=>k_is)
  (case OZ=>k_is)
  (case O0=>k_is)
  (case O1=>k_is)
  (case O2=>k_is)
  (case O3=>k_is)
  (case O4=>k_is)
  (case O5=>k_is)
  (case O6=>k_is)
  (case O7=>k_is)
  (case O8=>k_is)
  (case O9=>k_is)
  (case Pa=>k_is)
  (case Pb=>k_is)
  (case Pc=>k_is)
  (case Pd=>k_is)
  (case Pe=>k_is)
  (case Pf=>k_is)
  (case Pg=>k_is)
  (case Ph=>k_is)
  (case Pj=>k_is)
  (case Pk=>k_is)
  (case Pl=>k_is)
  (case Pm=>k_is)
  (case Pn=>k_is)
  (case Po=>k_is)
  (case Pp=>k_is)
  (case Pq=>k_is)
  (case Pr=>k_is)
  (case Pt=>k_is)
  (case Pu=>k_is)
  (case Pw=>k_is)
  (case Px=>k_is)
  (case Py=>k_is)
  (case Pz=>k_is)
  (case PB=>k_is)
  (case jU=>k_is)
  (case PC=>k_is)
  (case PD=>k_is)
  (case PF=>k_is)
  (case PH=>k_is)
  (case PJ=>k_is)
  (case PK=>k_is)
  (case PL=>k_is)
  (case PM=>k_is)
  (case PN=>k_is)
  (case PQ=>k_is)
  (case PR=>k_is)
  (case PU=>k_is)
  (case PV=>k_is)
  (case PX=>k_is)
  (case EU=>k_is)
  (case PY=>k_is)
  (case PZ=>k_is)
  (case P0=>k_is)
  (case EV=>k_is)
  (case EW=>k_is)
  (case EX=>k_is)
  (case EY=>k_is)
  (case Aj=>k_is)
  (case P1=>k_is)
  (case P2=>k_is)
  (case P4=>k_is)
  (case P5=>k_is)
  (case P6=>k_is)
  (case P7=>k_is)
  (case P8=>k_is)
  (case Ak=>k_is)
  (case qh=>k_is)
  (case tH=>k_is)
  (case qi=>k_is)
  (case DE=>k_is)
  (case nX=>k_is)
  (case Al=>k_is)
  (case Am=>k_is)
  (case An=>k_is)
  (case P9=>k_is)
  (case Ao=>k_is)
  (case Qa=>k_is)
  (case Ap=>k_is)
  (case Qb=>k_is)
  (case Aq=>k_is)
  (case Qc=>k_is)
  (case Ar=>k_is)
  (case Qe=>k_is)
  (case As=>k_is)
  (case Qf=>k_is)
  (case tI=>k_is)
  (case Qg=>k_is)
  (case Au=>k_is)
  (case Qh=>k_is)
  (case EZ=>k_is)
  (case E1=>k_is)
  (case E2=>k_is)
  (case E3=>k_is)
  (case Av=>k_is)
  (case Qi=>k_is)
  (case Qj=>k_is)
  (case Qk=>k_is)
  (case Ql=>k_is)
  (case Qm=>k_is)
  (case Qn=>k_is)
  (case Qo=>k_is)
  (case DF=>k_is)
  (case tJ=>k_is)
  (case tK=>k_is)
  (case tL=>k_is)
  (case kR=>k_is)
  (case DG=>k_is)
  (case Aw=>k_is)
  (case Az=>k_is)
  (case AA=>k_is)
  (case Qp=>k_is)
  (case AB=>k_is)
  (case Qq=>k_is)
  (case AD=>k_is)
  (case Qr=>k_is)
  (case AE=>k_is)
  (case Qs=>k_is)
  (case AF=>k_is)
  (case Qt=>k_is)
  (case AG=>k_is)
  (case Qu=>k_is)
  (case tM=>k_is)
  (case Qv=>k_is)
  (case AH=>k_is)
  (case Qw=>k_is)
  (case Qx=>k_is)
  (case Qy=>k_is)
  (case Qz=>k_is)
  (case QB=>k_is)
  (case QC=>k_is)
  (case QD=>k_is)
  (case QE=>k_is)
  (case QF=>k_is)
  (case QG=>k_is)
  (case QH=>k_is)
  (case QI=>k_is)
  (case QJ=>k_is)
  (case QK=>k_is)
  (case QL=>k_is)
  (case QM=>k_is)
  (case QN=>k_is)
  (case QO=>k_is)
  (case QP=>first | k_is | rfl | decide)
  (case μ=>k_is)
  (case QQ=>k_exc)
  (case QR=>k_is)
  (case QS=>k_is)
  (case QT=>k_is)
  (case QU=>k_is)
  (case QV=>k_is)
  (case QW=>k_is)
  (case QX=>k_is)
  (case nl=>first | k_is | rfl | decide)
  (case sub=>decide)
