import PyProof.Rows.All
import Wide.All
import OpenK.AllK
import Wide.FinOn
import Lean
import PyProof.EqAt
import PyProof.EqKinds
import PyProof.TupleCall
import PyProof.NeKinds
import PyProof.Rows.Range3
import PyProof.FitsBits
import PyProof.StationsW
import PyProof.NsDelKeeps
import PyProof.Rows.CatchOwn
import KE.KTryMore
import PyProof.ExcArgsOwn
import PyProof.ExcAttrAll.ValueError
import OpenK.KOwn
import PyProof.ZipIter
import PyProof.WalksEnum
import PyProof.EnumMake
import KE.KIntText
import PyProof.Conv_int
import PyProof.StrWalks
import PyProof.StrLawsFirst
import KE.KLam
import KE.KNestM
import KE.KRevIter
import PyProof.ListRange
import PyProof.Rows.SortWalk
import PyProof.Rows.SetFrom
import PyProof.FactsAll.set
import PyProof.Rows.SeqMore
import PyProof.FString
import PySem.Challenge.RW_mendfield_k27_nearest_turned
open Array renaming length_toList→ue,append_assoc→Bi,getElem?_toList→QX,getElem?_eq_some_iff→Q2,toList_append→dh1,getElem?_eq_getElem→di1
open Bool renaming and_eq_true→dY,false_ne_true→fN,or_true→iE,and_true→jE,true_and→mJ,or_false→qH,false_and→uf,eq_iff_iff→uo,false_eq_true→uB,not_false→yJ,not_true→yK,true_or→yL,false_or→yM
open Classical renaming byContradiction→dg1
open Decidable renaming byContradiction→di4
open False renaming elim→fL
open ForInStep renaming yield→Fj
open Int renaming emod_nonneg→fU,toNat_natCast→gB,emod_lt_of_pos→iD,natAbs_natCast→iF,natCast_emod→mO,toNat→mP,toNat_of_nonneg→oF,natCast_add→uz,zero_add→yw,emod_eq_of_lt→yC,natCast_mul→yD,add_mul→Fy,natCast_nonneg→QV,zero_emod→Rj,sub_eq_add_neg→Rt,mul_comm→Ru,fdiv_eq_ediv_of_nonneg→df5,emod_add_mul_ediv→di5
open List renaming getD_eq_getElem?_getD→aI,getElem?_eq_getElem→aL,range→aO,replicate→aT,length_map→bu,getElem?_map→bX,mem_cons→bY,mem_map→bZ,mem_append→cw,all_eq_true→cU,length_range→cZ,map_map→da,mem_range→de,size_toArray→dw,getElem_mem→dP,zipWith→dZ,mem_cons_of_mem→eI,length_cons→eJ,map_cons→eK,all_cons→eL,mem_append_right→fA,length_append→fB,append_assoc→fC,lookup_cons→gi,getElem?_eq_none→gj,mem_append_left→gO,getElem_of_mem→gP,mem_cons_self→hV,length_replicate→hW,not_mem_nil→ib,getElem?_eq_some_iff→iB,nodup_cons→iC,length_take→jA,mem_singleton→jB,map_append→jC,getElem?_range→jD,length_zipWith→jY,map_nil→kS,all_map→kU,set_cons_zero→kW,set_cons_succ→kX,lookup→mD,length_set→mE,nil_append→mF,cons.inj→mK,take_add_one→mL,map_congr_left→mM,getElem?_zipWith→mQ,append_nil→ou,take_length→oA,perm_append_comm→oB,all_nil→oE,length_reverse→oG,map_replicate→oH,mem_filter→qE,of_mem_zip→qG,replicate_succ→qJ,foldl_cons→qK,cons_append→qO,getElem?_replicate→uh,length_drop→ui,flatten_cons→uk,map_zipWith→uu,getElem?_mapIdx→uv,contains_iff_mem→uA,nodup_range→uC,getElem?_cons_zero→uD,getElem?_cons_succ→uE,cons.injEq→uG,getElem?_set_ne→yj,getElem?_append_right→ym,getElem?_append_left→yn,mem_of_getElem?→yo,take_of_length_le→yq,mem_replicate→yr,mem_of_mem_take→yt,ext_getElem?→yv,mem_or_eq_of_mem_set→yy,length_nil→yI,filterMap_cons→Bh,length→Bk,length_singleton→Bo,any_eq_true→Bv,mem_of_mem_drop→Bw,getElem?_take→Bz,zipWith_map→BA,zip→BB,getElem?_reverse→BD,length_zip→BE,foldl_append→BG,reverse_cons→BJ,append_eq_nil_iff→Fp,append_inj→Fq,length_pos_iff→Ft,map→Fu,mem_map_of_mem→Fv,getElem_inj→QT,getElem?_set_self→QU,nodup_append→Q5,Sublist.refl→Q6,set_set→Q7,map_drop→Q8,map_take→Q9,drop_eq_nil_of_le→Ra,sum_cons→Rh,zipWith_cons_cons→Ri,map_reverse→Rk,mem_reverse→Rl,drop_eq_getElem_cons→Rm,map_set→Rn,range_succ→Rq,reverse_reverse→Rx,filter_cons_of_pos→Ry,pairwise_map→Rz,Pairwise.imp_of_mem→RA,mem_filterMap→df4,set_eq_of_length_le→dg3,eq_nil_iff_forall_not_mem→dg4,filter_eq_self→dg5,range_succ_eq_map→dg7,mem_of_find?_eq_some→dg8,dropLast_cons_of_ne_nil→dg9,getElem_zipWith→dh0,zip_cons_cons→dh2,reverse_append→dh3,sublist_cons_self→dh4,getElem?_append→dh6,findIdx_lt_length_of_exists→dh7,findIdx?_eq_some_iff_getElem→dh8,findIdx?_eq_none_iff→dh9,filter_cons_of_neg→di3,length_filter_le→di6
open Nat renaming le_refl→bJ,lt_of_lt_of_le→cT,le_trans→eH,ne_of_lt→eY,lt_irrefl→fw,zero_le→jz,shiftLeft_eq→jX,xor_zero→kT,mul_comm→mG,testBit_xor→mH,lt_of_le_of_lt→mI,zero_xor→oy,pow_succ→qL,xor_assoc→qM,lt_or_ge→qP,mul_assoc→um,min_self→uq,mod_lt→uw,ne_of_gt→yk,two_pow_pos→yp,min_eq_left→yu,not_lt→yx,mul_mod→yz,mod_eq_of_lt→yA,mod_add_mod→yB,not_lt_zero→yE,succ.inj→yF,le_of_lt→Bg,le_of_eq→Bj,add_comm→Bp,pow_le_pow_right→Bq,eq_of_testBit_eq→Br,testBit_zero→Bt,xor_self→Bu,zero_add→BC,sub_self→BF,le_of_succ_le→BH,lt_succ_self→Fd,testBit_lt_two_pow→Ff,testBit_succ→Fg,strongRecOn→Fh,add_assoc→Fs,one_shiftLeft→FA,lt_trans→QY,xor_comm→QZ,testBit_and→Q0,sub_zero→Q4,lt_succ_of_lt→Rb,mod_mod→Rc,le_max_left→Ro,add_sub_cancel_left→Rp,testBit_eq_decide_div_mod_eq→df7,shiftLeft_xor_distrib→df8,mul_lt_mul_right→df9,testBit_shiftLeft→dg0,shiftRight_eq_div_pow→dg2,exists_eq_add_of_le→dh5
open Ne renaming symm→fg
open Option renaming some.inj→cN,getD_none→qI,getD_some→qN,map_eq_some_iff→ur,some.injEq→uF,map_some→yG,map_none→yH,isSome_iff_exists→df6,toList_some→dg6
open Or renaming inl→ai,inr→bx
open Prod renaming ext→Fw
open PyProof renaming Rows.callWith_type1→qF
open PySem renaming Heap.lt_size→bI,PassesOwn.never→eo,Heap.get?_push_of_some→eF,Value.ref→ff,Heap.get?_push_size→fO,Builtin.bitAnd→om,Builtin.bitXor→oo,Heap.size_push→oq,Heap.get?_update_other→ow,Value.int→qC,Value.none→qD,Value.type→ud,Obj.mapSeq→uj,Heap.get?_update_self→Bl,Value.bool→Fc,SeqAt.EqAt→Fe,Obj.data_mapFields→Fl,Value.type.inj→Fm,Builtin.Str.strSliceIndices→Fo,NameKind.cell→Fx,Builtin.List.listExtendWith→Fz,Builtin.List.listTooLong→QW,Obj.isFreed_of_fields→Q1,Heap.MadeExcOf→Q3,Calls.Name_function_global→df3,Builtin.List.listLengthHint→di0,Builtin.List.listSameRef→di2
open Std renaming Commutative→Rv,Associative→Rw
open Sum renaming inl→ua,inr→ub
open True renaming intro→ug
set_option Elab.async false
set_option linter.all false
set_option maxRecDepth 100000
local macro_rules | `(tactic| omega)=>`(tactic| lia)
namespace L2
open PySem PySem.Spec PyProof.Rows
noncomputable abbrev Key:=Sum Int Str
noncomputable def RB:Key->Value->Bool
 | .inl k,v=>Value.isInt k v
 | .inr x,v=>Value.isStrOf x v
noncomputable def c91(w:World):Key->Int
 | .inl k=>hashInt k
 | .inr x=>hashStr w x
theorem mR:∀{k:Key} {v:Value},RB k v=true->(∃i t,k=ua i/\v=qC i t)\/(∃x t,k=ub x/\v=Value.str x t)
 | .inl i,v,h=>by
  obtain⟨t,e⟩:=Value.isInt_shape (k:=i) (v:=v) h
  exact .inl ⟨i,t,rfl,e⟩
 | .inr x,v,h=>by
  obtain⟨t,e⟩:=Value.isStrOf_shape (x:=x) (v:=v) h
  exact .inr ⟨x,t,rfl,e⟩
theorem cU2(a b:Int):decide ((ua a:Key)=ua b)=(a==b):=by
 by_cases e:a=b
 ·subst e;simp
 ·have h:¬ (ua a:Key)=ua b:=λq=>e (Sum.inl.inj q)
  rw[decide_eq_false h]
  exact(beq_eq_false_iff_ne.mpr e).symm
theorem cO6(a b:Str):decide ((ub a:Key)=ub b)=decide (a=b):=by
 by_cases e:a=b
 ·subst e;simp
 ·have h:¬ (ub a:Key)=ub b:=λq=>e (Sum.inr.inj q)
  rw[decide_eq_false h,decide_eq_false e]
theorem cN4(a:Int)(b:Str):decide ((ua a:Key)=ub b)=false:=decide_eq_false (λq=>nomatch q)
theorem cU4(a:Str)(b:Int):decide ((ub a:Key)=ua b)=false:=decide_eq_false (λq=>nomatch q)
noncomputable def RC(prog:Program)(w:World):PySem.KeyKind prog w Key where
 is:=RB
 hash:=c91 w
 inj:=λv a b ha hb=>by
  rcases mR ha with⟨i,t,rfl,rfl⟩ | ⟨x,t,rfl,rfl⟩
  ·rcases mR hb with⟨j,u,rfl,e⟩ | ⟨y,u,rfl,e⟩
   ·injection e with e1 _;rw[e1]
   ·exact nomatch e
  ·rcases mR hb with⟨j,u,rfl,e⟩ | ⟨y,u,rfl,e⟩
   ·exact nomatch e
   ·injection e with e1 _;rw[e1]
 byValue:=λk v h=>by
  rcases mR h with⟨i,t,rfl,rfl⟩ | ⟨x,t,rfl,rfl⟩<;>rfl
 pyHash:=λhv h=>by
  rcases mR hv with⟨i,t,rfl,rfl⟩ | ⟨x,t,rfl,rfl⟩
  ·exact wpAny_pyHash_int h
  ·exact wpAny_pyHash_str h
 eqBool:=λhu hv h=>by
  rcases mR hu with⟨i,t,rfl,rfl⟩ | ⟨x,t,rfl,rfl⟩
  ·rcases mR hv with⟨j,u,rfl,rfl⟩ | ⟨y,u,rfl,rfl⟩
   ·rw[cU2]at h;exact wpAny_eqBool_int h
   ·rw[cN4]at h;exact SeqAt.EqAt.int_str i t y u _ _ _ _ h
  ·rcases mR hv with⟨j,u,rfl,rfl⟩ | ⟨y,u,rfl,rfl⟩
   ·rw[cU4]at h;exact SeqAt.EqAt.str_int x t j u _ _ _ _ h
   ·rw[cO6]at h;exact wpAny_eqBool_str h
 «strs»:=λk x t v h=>by
  rcases mR h with⟨i,u,rfl,e⟩ | ⟨y,u,rfl,e⟩
  ·exact nomatch e
  ·injection e with e1 _
   subst e1
   cases v<;>rfl
end L2
namespace L2
open PySem PySem.Spec PyProof.Rows
inductive V where
 | aw | bl (b:Bool) | int (i:Int) | str (x:Str) | BK (b:Array UInt8) | qQ (b:UInt64) | ref (a:Addr) | ty (n:String)
 deriving DecidableEq
noncomputable def RelV:V->Value->Prop
 | .aw,u=>u=qD
 | .bl b,u=>u=Fc b
 | .int i,u=>∃t,u=qC i t
 | .str x,u=>∃t,u=Value.str x t
 | .BK b,u=>∃t,u=Value.bytes b t
 | .qQ b,u=>∃t,u=Value.float b t
 | .ref a,u=>u=ff a
 | .ty n,u=>u=ud n
noncomputable abbrev Vals:List V->List Value->Prop:=Paired RelV
theorem Vals.length{xs:List V}{us:List Value}(r:Vals xs us):xs.length=us.length:=Paired.length r
theorem Vals.get:∀{xs:List V} {us:List Value} {i:Nat} {x:V},Vals xs us->xs[i]?=some x->∃u,us[i]?=some u/\RelV x u
 | _,_,_,_,.nil,e=>by simp at e
 | _,_,0,_,.cons r _,e=>by simp at e;subst e;exact⟨_,rfl,r⟩
 | _,_,i+1,x,.cons _ t,e=>by
  obtain⟨u,h1,h2⟩:=Vals.get (i:=i) (x:=x) t (by simpa using e)
  exact⟨u,by simpa using h1,h2⟩
theorem Vals.set{x:V}{u:Value}(r:RelV x u):∀{xs:List V} {us:List Value} (i:Nat),Vals xs us->Vals (xs.set i x) (us.set i u)
 | _,_,_,.nil=>.nil
 | _,_,0,.cons _ t=>.cons r t
 | _,_,i+1,.cons q t=>.cons q (Vals.set r i t)
theorem Vals.append:∀{xs ys:List V} {us ws:List Value},Vals xs us->Vals ys ws->Vals (xs++ys) (us++ws)
 | _,_,_,_,.nil,s=>s
 | _,_,_,_,.cons r t,s=>.cons r (Vals.append t s)
theorem Vals.take:∀{xs:List V} {us:List Value} (n:Nat),Vals xs us->Vals (xs.take n) (us.take n)
 | _,_,0,_=>.nil
 | _,_,_+1,.nil=>.nil
 | _,_,n+1,.cons r t=>.cons r (Vals.take n t)
theorem Vals.drop:∀{xs:List V} {us:List Value} (n:Nat),Vals xs us->Vals (xs.drop n) (us.drop n)
 | _,_,0,r=>r
 | _,_,_+1,.nil=>.nil
 | _,_,n+1,.cons _ t=>Vals.drop n t
noncomputable def kY:Option V->Option Value->Prop
 | some v,some u=>RelV v u
 | none,none=>True
 | _,_=>False
noncomputable def KV{κ:Type}:List (κ × V)->List (κ × Value)->Prop:=Paired λ(p:κ × V) (q:κ × Value)=>p.1=q.1/\RelV p.2 q.2
noncomputable def kV:Key->V
 | .inl i=>.int i
 | .inr x=>.str x
inductive HO where
 | lst (xs:List V)
 | tup (xs:List V)
 | dK (dD:List (Key × V)) | dT (dD:List (List Key × V))
 | set (S:Int->Bool) (n:Nat)
 | ins (C dx:Addr) (fs:List (Str × V))
 | own (x:Addr)
 | xd (fs:List (Str × V))
 | met (f x:Addr)
 | yN (lo hi:Int)
 | ck (o:Obj) (u:HO)
 | dy (ps:Array Value)
 | ext (φ:Heap->Prop)
noncomputable abbrev Hp:=Addr->Option HO
noncomputable def upd(H:Hp)(a:Addr)(o:HO):Hp:=λb=>if b=a then some o else H b
theorem cy{H:Hp}{a:Addr}{o:HO}:upd H a o a=some o:=by unfold upd;rw[if_pos rfl]
theorem bc{H:Hp}{a b:Addr}{o:HO}(h:b≠a):upd H a o b=H b:=by unfold upd;rw[if_neg h]
theorem fh{H:Hp}{a b:Addr}{o:HO}(h:H a=some o)(h':H b=none):a≠b:=by
 intro e;subst e;rw[h]at h';cases h'
section
variable(P:Program)(w:World)
noncomputable def dQ(H:Hp)(h:Heap)(a:Addr):HO->Prop
 | .lst xs=>xs.length<=sizeLine/\∃(its:List Value) (n:Nat),Vals xs its/\h.get? a=some { cls:=.type "list",data:=.seq its.toArray n }
 | .tup xs=>xs.length<=sizeLine/\∃its:List Value,Vals xs its/\IsTup h a its.toArray
 | .dK dD=>dD.length<=sizeLine/\(a==sysModules)=false/\∃vs,KV dD vs/\h.DictOf (RC P w) a vs
 | .dT dD=>dD.length<=sizeLine/\(a==sysModules)=false/\∃xs:List (List Key × Addr × Value),
   Paired (λ(p:List Key × V) (q:List Key × Addr × Value)=>p.1=q.1/\H q.2.1=some (.tup (p.1.map kV))/\RelV p.2 q.2.2) dD xs /\
   ∃o es ep,h.get? a=some o/\o.ExactDict/\o.data=.dict es ep/\es.toList=xs.map (entryOfKey (tupleKind (RC P w)))/\(xs.map (·.1)).Nodup
 | .set S n=>h.SetOf (intKind P w) a S n
 | .ins C dx fs=>H dx=some (.own a)/\fs.length<=1000/\dx≠a/\h.get? a=some (PySem.W.instObj C dx) /\
   ∃mA,h.Ns1 dx mA/\(∀f,kY (fs.lookup f) (mA f))/\PySem.Within mA (fs.map (·.1))
 | .own _=>∃o,h.get? a=some o
 | .xd fs=>∃mA,h.Ns1 a mA/\∀f,kY (fs.lookup f) (mA f)
 | .yN lo hi=>∃t u v,h.get? a=some { cls:=.type "range",data:=.fields #[.int lo t,.int hi u,.int 1 v] }
 | .ck o u=>h.get? a=some o/\dQ H h a u
 | .dy ps=>h.get? a=some { cls:=.none,data:=.fields ps }/\TriplesOk ps.toList/\∀pos cv,codeAmong pos ps.toList=some cv->∃c φ,cv=.ref c/\H c=some (.ext φ)/\∀h',φ h'->∃q,h'.CodeRec (.ref c) q
 | .met f x=>h.get? a=some (PySem.W.methodObj (.ref f) (.ref x))
 | .ext φ=>φ h/\(∃o,h.get? a=some o)/\∀h1 h2:Heap,φ h1->(∀b o,(b=a\/H b=some (.own a))->h1.get? b=some o->h2.get? b=some o)->φ h2
noncomputable def cJ(H:Hp)(h:Heap):Prop:=∀a o,H a=some o->dQ P w H h a o
end
section
variable{P:Program}{w:World}{H H':Hp}{h h':Heap}{a:Addr}{o:HO}
theorem dQ.lt(x:dQ P w H h a o):a<h.objs.size:=by
 cases o with
 | lst xs=>obtain⟨_,_,_,_,e⟩:=x;exact bI e
 | tup xs=>obtain⟨_,_,_,p⟩:=x;exact p.lt
 | dK dD=>obtain⟨_,_,_,_,o,_,_,e,_⟩:=x;exact bI e
 | dT dD=>obtain⟨_,_,_,_,o,_,_,e,_⟩:=x;exact bI e
 | set S n=>obtain⟨o,_,_,_,e,_⟩:=x;exact bI e
 | ins C dx fs=>obtain⟨_,_,_,e,_⟩:=x;exact bI e
 | own y=>obtain⟨_,e⟩:=x;exact bI e
 | xd fs=>obtain⟨_,⟨_,_,_,e,_⟩,_⟩:=x;exact bI e
 | yN lo hi=>obtain⟨_,_,_,e⟩:=x;exact bI e
 | ck ob u=>obtain⟨e,_⟩:=x;exact bI e
 | dy ps=>exact bI (show h.get? a=some _ from x.1)
 | met f y=>exact bI (show h.get? a=some _ from x)
 | ext φ=>obtain⟨_,⟨_,e⟩,_⟩:=x;exact bI e
theorem Paired.FC{α β:Type}{F G:α->β->Prop}:∀{l₁:List α} {l₂:List β},Paired F l₁ l₂->(∀a b,F a b->G a b)->Paired G l₁ l₂
 | _,_,.nil,_=>.nil
 | _,_,.cons r t,f=>.cons (f _ _ r) (Paired.FC t f)
theorem dQ.jZ(x:dQ P w H h a o)(k:∀b u,(b=a\/H b=some (.own a))->h.get? b=some u->h'.get? b=some u)
  (ho:∀b,H b=some (.own a)->H' b=some (.own a)) (ht:∀b xs,H b=some (.tup xs)->H' b=some (.tup xs)) (hx:∀b φ,H b=some (.ext φ)->H' b=some (.ext φ)):dQ P w H' h' a o:=by
 induction o with
 | lst xs=>obtain⟨z,its,n,r,e⟩:=x;exact⟨z,its,n,r,k _ _ (.inl rfl) e⟩
 | tup xs=>obtain⟨z,its,r,ob,e,c⟩:=x;exact⟨z,its,r,ob,k _ _ (.inl rfl) e,c⟩
 | dK dD=>obtain⟨z,y,vs,r,ob,es,ep,e,c⟩:=x;exact⟨z,y,vs,r,ob,es,ep,k _ _ (.inl rfl) e,c⟩
 | dT dD =>
  obtain⟨z,y,xs,r,ob,es,ep,e,c⟩:=x
  exact⟨z,y,xs,Paired.FC r λp q z=>⟨z.1,ht _ _ z.2.1,z.2.2⟩,ob,es,ep,k _ _ (.inl rfl) e,c⟩
 | set S n=>obtain⟨ob,es,ep,t,e,c⟩:=x;exact⟨ob,es,ep,t,k _ _ (.inl rfl) e,c⟩
 | ins C dx fs =>
  obtain⟨d,z,ne,e,mA,⟨od,es,ep,e2,c⟩,r⟩:=x
  exact⟨ho _ d,z,ne,k _ _ (.inl rfl) e,mA,⟨od,es,ep,k _ _ (.inr d) e2,c⟩,r⟩
 | own y=>obtain⟨ob,e⟩:=x;exact⟨ob,k _ _ (.inl rfl) e⟩
 | xd fs=>obtain⟨mA,⟨od,es,ep,e,c⟩,r⟩:=x;exact⟨mA,⟨od,es,ep,k _ _ (.inl rfl) e,c⟩,r⟩
 | yN lo hi=>obtain⟨t,u,v,e⟩:=x;exact⟨t,u,v,k _ _ (.inl rfl) e⟩
 | ck ob u ih=>obtain⟨e,q⟩:=x;exact⟨k _ _ (.inl rfl) e,ih q⟩
 | dy ps =>
  obtain⟨e,t,c⟩:=x
  refine⟨k a _ (.inl rfl) e,t,λpos cv q=>?_⟩
  obtain⟨d,φ,e1,e2,e3⟩:=c pos cv q
  exact⟨d,φ,e1,hx _ _ e2,e3⟩
 | met f y =>
  have e:h.get? a=some (PySem.W.methodObj (.ref f) (.ref y)):=x
  show h'.get? a=some (PySem.W.methodObj (.ref f) (.ref y))
  exact k a _ (.inl rfl) e
 | ext φ=>obtain⟨p,⟨o,e⟩,st⟩:=x;exact⟨st _ _ p λb o hb q=>k _ _ hb q,⟨o,k _ _ (.inl rfl) e⟩,λh1 h2 p1 kk=>st h1 h2 p1 λb o hb q=>kk b o (hb.imp id (ho b)) q⟩
theorem cJ.lt(x:cJ P w H h)(e:H a=some o):a<h.objs.size:=(x a o e).lt
theorem cJ.fresh(x:cJ P w H h)(e:h.objs.size<=a):H a=none:=by
 cases q:H a with
 | none=>rfl
 | some u=>exact absurd (cT (x.lt q) e) (fw _)
theorem cJ.kept(x:cJ P w H h)(k:∀b u,h.get? b=some u->h'.get? b=some u):cJ P w H h':=λa o e =>
 (x a o e).jZ (λb u _ q=>k b u q) (λ_ q=>q) (λ_ _ q=>q) λ_ _ q=>q
theorem cJ.laid(x:cJ P w H h)(k:∀b u,h.get? b=some u->h'.get? b=some u)(hp:h.objs.size<=a)(new:dQ P w (upd H a o) h' a o):cJ P w (upd H a o) h':=λb u e=>by
 have hn:=x.fresh hp
 by_cases hb:b=a
 ·subst hb;rw[cy]at e;cases e;exact new
 ·rw[bc hb]at e
  exact(x b u e).jZ (λc v _ q=>k c v q) (λc q=>by rw[bc (fh q hn)];exact q) (λc xs q=>by rw[bc (fh q hn)];exact q) λc xs q=>by rw[bc (fh q hn)];exact q
end
noncomputable def Rd(H:Hp)(a:Addr)(u:HO):Prop:=H a=some u\/∃o,H a=some (.ck o u)
theorem Rd.ok{P:Program}{w:World}{H:Hp}{h:Heap}{a:Addr}{u:HO}(r:Rd H a u)(x:cJ P w H h):dQ P w H h a u:=by
 rcases r with r | ⟨o,r⟩
 ·exact x a u r
 ·obtain⟨_,q⟩:=x a _ r
  exact q
noncomputable def BL:Option HO->Prop
 | some (.lst _)=>True
 | some (.dK _)=>True
 | some (.dT _)=>True
 | some (.set _ _)=>True
 | some (.ins _ _ _)=>True
 | _=>False
section
variable{P:Program}{w:World}{H:Hp}{h h':Heap}{x e:Addr}{o':HO}
theorem cJ.write(ok:cJ P w H h)(mu:BL (H x))(he:e=x\/H e=some (.own x))(k:∀b u,b≠e->h.get? b=some u->h'.get? b=some u)(uH:∃u,h'.get? e=some u)
  (new:dQ P w (upd H x o') h' x o'):cJ P w (upd H x o') h':=λb u q=>by
 have RD:∀c y,H c=some (.own y)->c≠x:=λc y r z=>by subst z;rw[r]at mu;exact mu
 have dj2:∀c xs,H c=some (.tup xs)->c≠x:=λc xs r z=>by subst z;rw[r]at mu;exact mu
 by_cases hb:b=x
 ·subst hb;rw[cy]at q;cases q;exact new
 ·rw[bc hb]at q
  by_cases qR:b=e
  ·have q':H b=some (.own x):=by
    rcases he with z | z
    ·exact absurd (qR.trans z) hb
    ·rw[qR];exact z
   rw[q]at q';cases q'
   obtain⟨v,hv⟩:=uH
   exact⟨v,by rw[qR];exact hv⟩
  ·refine(ok b u q).jZ (λc v hc r=>k c v ?_ r) (λc r=>by rw[bc (RD c b r)];exact r) (λc xs r=>by rw[bc (dj2 c xs r)];exact r) λc φ r=>by rw[bc (λz=>by rw[z]at r;rw[r]at mu;exact mu)];exact r
   rcases hc with rfl | hc
   ·exact qR
   ·rintro rfl
    rcases he with z | z
    ·exact RD c b hc z
    ·rw[hc]at z;cases z;exact hb rfl
end
structure Un(fs ex:List Addr)(H H':Hp)(h h':Heap):Prop where
 keep:∀b o,h.get? b=some o->H b=none->b ∉ fs->b ∉ ex->h'.get? b=some o
 slot:∀b o,h.get? b=some o->H b=none->b∈fs->b ∉ ex->∃sl,h'.get? b=some { o with slots:=sl }
 free:∀b o,h.get? b=some o->H b=none->b ∉ ex->H' b=none
 there:∀b o,h.get? b=some o->b ∉ ex->∃o',h'.get? b=some o'
 jF:∀b xs,H b=some (.tup xs)->H' b=some (.tup xs)
 je:∀b o u,H b=some (.ck o u)->H' b=some (.ck o u)
 ie:∀b ps,H b=some (.dy ps)->∃more,H' b=some (.dy (ps++more))
section
variable{fs fs' ex ex':List Addr}{H H1 H2:Hp}{h h1 h2 h':Heap}{a x e:Addr}{o:HO}
theorem Un.any(u:Un fs ex H H1 h h1){b:Addr}{ob:Obj}(q:h.get? b=some ob)(n:H b=none)(hx:b ∉ ex):∃sl,h1.get? b=some { ob with slots:=sl }:=by
 by_cases hb:b∈fs
 ·exact u.slot b ob q n hb hx
 ·exact⟨ob.slots,u.keep b ob q n hb hx⟩
theorem Un.kept(k:∀b u,h.get? b=some u->h'.get? b=some u):Un fs ex H H h h' :=
 ⟨λb ob q _ _ _=>k b ob q,λb ob q _ _ _=>⟨ob.slots,k b ob q⟩,λ_ _ _ n _=>n,λb ob q _=>⟨ob,k b ob q⟩,λ_ _ q=>q,λ_ _ _ q=>q,λ_ ps q=>⟨#[],by rw[q];simp⟩⟩
theorem Un.refl:Un fs ex H H h h:=Un.kept λ_ _ q=>q
theorem Un.laid(k:∀b u,h.get? b=some u->h'.get? b=some u)(hp:h.objs.size<=a)(hn:H a=none):Un fs ex H (upd H a o) h h' where
 keep:=λb u q _ _ _=>k b u q
 slot:=λb u q _ _ _=>⟨u.slots,k b u q⟩
 free:=λb u q n _=>by rw[bc (eY (cT (bI q) hp))];exact n
 there:=λb u q _=>⟨u,k b u q⟩
 jF:=λb xs q=>by rw[bc (fh q hn)];exact q
 je:=λb u xs q=>by rw[bc (fh q hn)];exact q
 ie:=λb ps q=>⟨#[],by rw[bc (fh q hn),q];simp⟩
theorem Un.write(mu:BL (H x))(he:e=x\/H e=some (.own x))(k:∀b u,b≠e->h.get? b=some u->h'.get? b=some u)(uH:∃u,h'.get? e=some u):Un fs ex H (upd H x o) h h':=by
 have hx:∀b,H b=none->b≠x:=λb n z=>by subst z;rw[n]at mu;exact mu
 have hb:∀b,H b=none->b≠e:=λb n z=>by
  subst z
  rcases he with r | r
  ·exact hx b n r
  ·rw[n]at r;cases r
 have hm:∀b u,H b=some u->¬ BL (some u)->b≠x:=λb u q nm z=>by subst z;rw[q]at mu;exact nm mu
 refine⟨λb u q n _ _=>k b u (hb b n) q,λb u q n _ _=>⟨u.slots,k b u (hb b n) q⟩,λb u q n _=>by rw[bc (hx b n)];exact n,λb u q _=>?_,
  λb xs q=>by rw[bc (hm b _ q λz=>z)];exact q,λb u xs q=>by rw[bc (hm b _ q λz=>z)];exact q,λb ps q=>⟨#[],by rw[bc (hm b _ q λz=>z),q];simp⟩⟩
 by_cases qR:b=e
 ·subst qR;exact uH
 ·exact⟨u,k b u qR q⟩
end
noncomputable def BM(h:Heap)(H:Hp):List Addr:=(aO h.objs.size).filter λa=>(H a).isSome
noncomputable def kZ(h:Heap)(H:Hp):Heap:=PySem.W.hideAll h (BM h H)
theorem cb5(h:Heap)(H:Hp):(kZ h H).objs.size=h.objs.size:=PySem.W.hideAll_size _ _
theorem cm3{h:Heap}{H:Hp}{b:Addr}{o:Obj}(e:h.get? b=some o)(n:H b=none):(kZ h H).get? b=some o :=
 PySem.W.hideAll_get _ e λhm=>by
  have q:(H b).isSome=true:=(qE.mp hm).2
  rw[n]at q;simp at q
theorem cF4{h:Heap}{H:Hp}{b:Addr}{o:Obj}(e:(kZ h H).get? b=some o):h.get? b=some o/\H b=none:=by
 have e':h.get? b=some o:=PySem.W.of_hideAll (BM h H) e
 refine⟨e',?_⟩
 cases q:H b with
 | none=>rfl
 | some x =>
  have hm:b∈BM h H:=qE.mpr ⟨de.mpr (bI e'),by simp[q]⟩
  have z:(kZ h H).get? b=none:=PySem.W.hideAll_none (BM h H) hm
  rw[z]at e;cases e
end L2
namespace L2
open PySem PySem.Spec PyProof.Rows
structure Mod(K:PySem.W.Frag)(mg:Str->Option Value)(base:Heap):Prop where
 mS:K.In base
 glob:base.Ns mainGlobals mg
 blt:∃mb,base.Ns builtinsNs mb/\∀x:Str,x≠"__name__"->mb x=bootBuiltins x
 nolimit:base.NoLimit
structure Cx where
 prog:Program
 w:World
 K:PySem.W.Frag
 mg:Str->Option Value
 base:Heap
 A:Around
 N:List Str
 cK:Shared
 j8:Hp
 env:Env
 outer:List Env
 stack:List Env
 ex:List Addr
 fn:Str->Bool
 calm:Bool
 pn:List (Addr × Obj)
 xe:Value->Shared->Prop
noncomputable def eA(l:List Env):List Addr:=l.filterMap (·.frame)
noncomputable abbrev Cx.fs(X:Cx):List Addr:=eA X.outer
noncomputable def lh(sc:Scope)(x:Str):Prop:=sc.names.lookup x=some .local\/sc.names.lookup x=some .cell\/sc.names.lookup x=some .free
noncomputable def Loc(sc:Scope)(x:Str):Prop:=sc.names.lookup x=some .local\/sc.names.lookup x=some .cell
noncomputable def c75(env:Env)(h:Heap)(m:Str->Option Value)(x:Str)(u:Value):Prop :=
 (env.kindOf x=some .local/\m x=some u)\/((env.kindOf x=some .cell\/env.kindOf x=some .free)/\∃c,env.cells.lookup x=some c/\h.IsCell c (some u))
structure Cx.Ok(X:Cx):Prop where
 mod:Mod X.K X.mg X.base
 kind:X.env.scope.kind=.function
 glob:X.env.globals=mainGlobals
 blt:X.env.builtins=builtinsNs
 above:X.cK.heap.objs.size<=X.env.locals
 inj:∀x y c,X.env.cells.lookup x=some c->X.env.cells.lookup y=some c->x=y
 has:∀x,(X.env.kindOf x=some .cell\/X.env.kindOf x=some .free)->∃c,X.env.cells.lookup x=some c
 qS:∀x c,X.fn x=true->X.env.cells.lookup x=some c->X.cK.heap.objs.size<=c
 hd:X.calm=true->X.A.handled=none
 frames:X.A.frames=some X.stack
 yO:X.stack=X.outer\/(X.stack=X.env::X.outer/\X.env.frame=some X.env.locals)
 yP:∀b∈X.ex,b≠X.env.locals/\∀x c,X.env.cells.lookup x=some c->c≠b
 bs:∀b o,X.base.get? b=some o->X.cK.heap.get? b=some o/\X.j8 b=none
 jG:X.base.objs.size<=X.cK.heap.objs.size
 uI:∀b o,X.base.get? b=some o->b ∉ X.ex
 uJ:∀b∈X.ex,b ∉ X.fs
 gC:X.cK.heap.FunFrames X.base X.outer
 jH:∀b∈X.fs,X.j8 b=none
structure Inv(X:Cx)(pins:List (Addr × Obj))(σ:List (Option V))(H:Hp)(s:Shared):Prop where
 ok:X.Ok
 os:s.os=X.cK.os
 bare:AllBare s.gens
 base:Un X.fs X.ex X.j8 H X.cK.heap s.heap
 loc:∃m,s.heap.Ns X.env.locals m/\∀(i:Nat) (x:Str) (v:V),X.N[i]?=some x->σ[i]?=some (some v)->lh X.env.scope x->∃u,RelV v u/\c75 X.env s.heap m x u
 cell:∀x c,X.env.cells.lookup x=some c->∃v,s.heap.IsCell c v
 free:H X.env.locals=none
 jf:∀x c,X.env.cells.lookup x=some c->H c=none
 pin:∀p∈X.pn++pins,s.heap.get? p.1=some p.2/\H p.1=none/\p.1≠X.env.locals/\p.1 ∉ X.fs/\∀v,p.2.data≠.cell v
 aG:cJ X.prog X.w H s.heap
 len:σ.length=X.N.length
section
variable{X:Cx}{pins:List (Addr × Obj)}{σ:List (Option V)}{H H':Hp}{s:Shared}{h':Heap}
theorem Cx.Ok.dj8(ok:X.Ok){b:Addr}{o:Obj}(e:X.base.get? b=some o):b ∉ X.fs:=λhb=>by
 have:=(ok.gC.mem hb).1
 rw[e]at this;cases this
theorem Inv.bs(I:Inv X pins σ H s):∀b o,X.base.get? b=some o->s.heap.get? b=some o/\H b=none:=λb o e =>
 ⟨I.base.keep b o (I.ok.bs b o e).1 (I.ok.bs b o e).2 (I.ok.dj8 e) (I.ok.uI b o e),I.base.free b o (I.ok.bs b o e).1 (I.ok.bs b o e).2 (I.ok.uI b o e)⟩
theorem Inv.bk(I:Inv X pins σ H s):∀b o,X.base.get? b=some o->s.heap.get? b=some o:=λb o e=>(I.bs b o e).1
theorem Inv.mod(I:Inv X pins σ H s):Mod X.K X.mg X.base:=I.ok.mod
theorem Inv.df(I:Inv X pins σ H s):X.K.In s.heap:=I.ok.mod.mS.keeps I.bk
theorem Inv.lt(I:Inv X pins σ H s):X.env.locals<s.heap.objs.size:=let⟨_,hn,_⟩:=I.loc;hn.lt
theorem Inv.sz(I:Inv X pins σ H s):X.cK.heap.objs.size<=s.heap.objs.size:=eH I.ok.above (Bg I.lt)
theorem Inv.RE(I:Inv X pins σ H s){a:Addr}(h:s.heap.objs.size<=a):a ∉ X.fs:=λhb=>by
 obtain⟨_,o,ho,_⟩:=I.ok.gC.mem hb
 exact absurd (cT (bI ho) (eH I.sz h)) (fw _)
theorem Inv.oI(I:Inv X pins σ H s):∀x c,X.env.cells.lookup x=some c->c≠X.env.locals:=λx c e z=>by
 obtain⟨v,o,ho,hd⟩:=I.cell x c e
 obtain⟨m,⟨o',es,ep,j9,yQ,_⟩,_⟩:=I.loc
 rw[z,j9]at ho;cases ho;rw[yQ]at hd;cases hd
theorem Inv.gC(I:Inv X pins σ H s):s.heap.FunFrames X.base X.outer:=by
 have all:∀(l:List Env),(∀b∈eA l,b∈X.fs)->X.cK.heap.FunFrames X.base l->s.heap.FunFrames X.base l:=by
  intro l
  induction l with
  | nil=>intro _ _;trivial
  | cons env r ih =>
   intro hs hl
   obtain⟨hk,⟨L,o,hf,hn,ho,hd⟩,hr⟩:=hl
   have hL:L∈X.fs:=hs L (by unfold eA;rw[Bh,hf];exact hV)
   obtain⟨sl,e⟩:=I.base.slot L o ho (I.ok.jH L hL) hL λz=>I.ok.uJ L z hL
   exact⟨hk,⟨L,_,hf,hn,e,hd⟩,ih (λb hb=>hs b (by unfold eA;rw[Bh,hf];exact eI _ hb)) hr⟩
 exact all X.outer (λ_ hb=>hb) I.ok.gC
theorem Inv.stack(I:Inv X pins σ H s):s.heap.FunFrames X.base X.stack:=by
 rcases I.ok.yO with e | ⟨e,hf⟩
 ·rw[e];exact I.gC
 ·rw[e]
  obtain⟨m,hn,_⟩:=I.loc
  refine .cons (by rw[I.ok.kind];decide) hf hn ?_ I.gC
  exact Heap.get?_none_of_le (eH I.ok.jG I.ok.above)
theorem Inv.BN(I:Inv X pins σ H s):∀b∈eA X.stack,b∈X.env.locals::X.fs:=λb hb=>by
 rcases I.ok.yO with e | ⟨e,hf⟩
 ·rw[e]at hb;exact eI _ hb
 ·rw[e]at hb
  unfold eA at hb
  rw[Bh,hf]at hb
  exact hb
theorem Inv.FD(I:Inv X pins σ H s):∀b∈eA X.stack,H b=none:=λb hb=>by
 rcases bY.mp (I.BN b hb)with e | hb
 ·rw[e];exact I.free
 ·obtain⟨_,o,ho,_⟩:=I.ok.gC.mem hb
  exact I.base.free b o ho (I.ok.jH b hb) λz=>I.ok.uJ b z hb
theorem Inv.step{g':Array GenState}{t':Nat}{d':Drawn}{ch:List Addr}(I:Inv X pins σ H s)
  (lj:∀b∈ch,(b∈X.ex\/X.cK.heap.objs.size<=b)/\b≠X.env.locals/\(∀x c,X.env.cells.lookup x=some c->c≠b)/\∀p∈X.pn++pins,p.1≠b)
  (keep:∀b o,b≠X.env.locals->b ∉ X.fs->b ∉ ch->s.heap.get? b=some o->H b=none->h'.get? b=some o)
  (slot:∀b o,b≠X.env.locals->b∈X.fs->b ∉ ch->s.heap.get? b=some o->H b=none->∃sl,h'.get? b=some { o with slots:=sl }) (free:∀b o,b ∉ ch->s.heap.get? b=some o->H b=none->H' b=none)
  (there:∀b o,b ∉ ch->s.heap.get? b=some o->∃o',h'.get? b=some o')
  (jF:∀b xs,H b=some (.tup xs)->H' b=some (.tup xs)) (je:∀b o u,H b=some (.ck o u)->H' b=some (.ck o u)) (ie:∀b ps,H b=some (.dy ps)->∃more,H' b=some (.dy (ps++more)))
  (ns:∀m,s.heap.Ns X.env.locals m->h'.Ns X.env.locals m) (aG:cJ X.prog X.w H' h') (hg:AllBare g') :
  Inv X pins σ H' { s with heap:=h',gens:=g',drawn:=d',toks:=t' }:=by
 have BO:∀b o,X.cK.heap.get? b=some o->b≠X.env.locals:=λb o e=>eY (cT (bI e) I.ok.above)
 have uK:∀b o,X.cK.heap.get? b=some o->b ∉ X.ex->b ∉ ch:=λb o e hx hb=>by
  rcases(lj b hb).1 with z | z
  ·exact hx z
  ·exact absurd (cT (bI e) z) (fw _)
 have cellK:∀x c,X.env.cells.lookup x=some c->∀v,s.heap.IsCell c v->h'.IsCell c v:=λx c e v ⟨o,ho,hd⟩=>by
  have yR:c ∉ ch:=λz=>(lj c z).2.2.1 x c e rfl
  by_cases hc:c∈X.fs
  ·obtain⟨sl,q⟩:=slot c o (I.oI x c e) hc yR ho (I.jf x c e)
   exact⟨_,q,hd⟩
  ·exact⟨o,keep c o (I.oI x c e) hc yR ho (I.jf x c e),hd⟩
 refine⟨I.ok,I.os,hg,⟨λb o e n hb hx=>?_,λb o e n hb hx=>?_,λb o e n hx=>?_,λb o e hx=>?_,λb xs e=>jF b xs (I.base.jF b xs e),λb o xs e=>je b o xs (I.base.je b o xs e),λb ps e=>?_⟩,?_,λx c e=>?_,?_,λx c e=>?_,λp hp=>?_,aG,I.len⟩
 ·exact keep b o (BO b o e) hb (uK b o e hx) (I.base.keep b o e n hb hx) (I.base.free b o e n hx)
 ·obtain⟨sl,e1⟩:=I.base.slot b o e n hb hx
  obtain⟨sl',e2⟩:=slot b _ (BO b o e) hb (uK b o e hx) e1 (I.base.free b o e n hx)
  exact⟨sl',e2⟩
 ·obtain⟨o',e1⟩:=I.base.there b o e hx
  exact free b o' (uK b o e hx) e1 (I.base.free b o e n hx)
 ·obtain⟨o',e1⟩:=I.base.there b o e hx
  exact there b o' (uK b o e hx) e1
 ·obtain⟨m1,e1⟩:=I.base.ie b ps e
  obtain⟨m2,e2⟩:=ie b _ e1
  exact⟨m1++m2,by rw[e2,Bi]⟩
 ·obtain⟨m,hn,hl⟩:=I.loc
  refine⟨m,ns m hn,λi x v e1 e2 e3=>?_⟩
  obtain⟨u,r,l⟩:=hl i x v e1 e2 e3
  refine⟨u,r,?_⟩
  rcases l with l | ⟨k,c,e,z⟩
  ·exact .inl l
  ·exact .inr ⟨k,c,e,cellK x c e _ z⟩
 ·obtain⟨v,z⟩:=I.cell x c e
  exact⟨v,cellK x c e v z⟩
 ·obtain⟨m,⟨o,_,_,ho,_⟩,_⟩:=I.loc
  exact free _ o (λz=>(lj _ z).2.1 rfl) ho I.free
 ·obtain⟨v,o,ho,hd⟩:=I.cell x c e
  exact free c o (λz=>(lj c z).2.2.1 x c e rfl) ho (I.jf x c e)
 ·obtain⟨e,n,ne,nf,d⟩:=I.pin p hp
  have yR:p.1 ∉ ch:=λz=>(lj p.1 z).2.2.2 p hp rfl
  exact⟨keep p.1 p.2 ne nf yR e n,free p.1 p.2 yR e n,ne,nf,d⟩
theorem Inv.un{t':Nat}(I:Inv X pins σ H s)(u:Un X.fs [] H H' s.heap h')(aG:cJ X.prog X.w H' h'):Inv X pins σ H' { s with heap:=h',toks:=t' }:=by
 obtain⟨m,⟨o,es,ep,ho,r⟩,_⟩:=id I.loc
 obtain⟨sl,hL⟩:=u.any ho I.free (by simp)
 exact I.step (g':=s.gens) (d':=s.drawn) (ch:=[]) (λ_ z=>nomatch z) (λb o _ hb _ e n=>u.keep b o e n hb (by simp)) (λb o _ hb _ e n=>u.slot b o e n hb (by simp)) (λb o _ e n=>u.free b o e n (by simp)) (λb o _ e=>u.there b o e (by simp)) u.jF u.je u.ie (λm' hm=>by
  obtain⟨o',FE,FF,j9,r'⟩:=hm
  rw[ho]at j9;cases j9
  exact⟨_,FE,FF,hL,r'⟩) aG I.bare
theorem Inv.call{g':Array GenState}{t':Nat}{d':Drawn}{ch:List Addr}(I:Inv X pins σ H s)(u:Un (eA X.stack) ch H H' s.heap h')(aG:cJ X.prog X.w H' h')(hg:AllBare g')
  (lj:∀b∈ch,(b∈X.ex\/X.cK.heap.objs.size<=b)/\b≠X.env.locals/\(∀x c,X.env.cells.lookup x=some c->c≠b)/\∀p∈X.pn++pins,p.1≠b) :
  Inv X pins σ H' { s with heap:=h',gens:=g',drawn:=d',toks:=t' }:=by
 obtain⟨m,⟨o,es,ep,ho,r⟩,_⟩:=id I.loc
 obtain⟨sl,hL⟩:=u.any ho I.free λz=>(lj _ z).2.1 rfl
 exact I.step (ch:=ch) lj (λb o hL hb hc e n=>u.keep b o e n (λz=>(bY.mp (I.BN b z)).elim hL hb) hc) (λb o _ _ hc e n=>u.any e n hc) (λb o hc e n=>u.free b o e n hc) (λb o hc e=>u.there b o e hc) u.jF u.je u.ie (λm' hm=>by
  obtain⟨o',FE,FF,j9,r'⟩:=hm
  rw[ho]at j9;cases j9
  exact⟨_,FE,FF,hL,r'⟩) aG hg
theorem Inv.turned{t':Nat}{it:Addr}(I:Inv X pins σ H s)(k:∀b o,b≠it->s.heap.get? b=some o->h'.get? b=some o)(hn:H it=none)(hL:it≠X.env.locals)
  (h1:it∈X.ex\/X.cK.heap.objs.size<=it) (h2:∀x c,X.env.cells.lookup x=some c->c≠it) (h3:∀p∈X.pn++pins,p.1≠it):Inv X pins σ H { s with heap:=h',toks:=t' }:=by
 have oJ:∀b u,H b=some u->b≠it:=λb u e z=>by rw[z,hn]at e;cases e
 refine I.step (g':=s.gens) (d':=s.drawn) (ch:=[it]) (λb hb=>?_) (λb o _ _ hc e _=>k b o (λz=>hc (by simp[z])) e) (λb o _ _ hc e _=>⟨o.slots,k b o (λz=>hc (by simp[z])) e⟩) (λ_ _ _ _ n=>n)
  (λb o hc e=>⟨o,k b o (λz=>hc (by simp[z])) e⟩) (λ_ _ e=>e) (λ_ _ _ e=>e) (λb ps e=>⟨#[],by rw[e];simp⟩) (λm hm=>?_) (λb u e=>?_) I.bare
 ·have e:b=it:=by simpa using hb
  subst e
  exact⟨h1,hL,h2,h3⟩
 ·obtain⟨o,es,ep,ho,r⟩:=hm
  exact⟨o,es,ep,k _ o (fg hL) ho,r⟩
 ·refine(I.aG b u e).jZ (λc v hc q=>k c v ?_ q) (λ_ q=>q) (λ_ _ q=>q) λ_ _ q=>q
  rcases hc with z | z
  ·rw[z];exact oJ b u e
  ·exact oJ c _ z
theorem Inv.tok(I:Inv X pins σ H s)(t:Nat):Inv X pins σ H { s with toks:=t }:=I.un (h':=s.heap) (t':=t) Un.refl I.aG
theorem Inv.kept{t':Nat}(I:Inv X pins σ H s)(k:∀b u,s.heap.get? b=some u->h'.get? b=some u):Inv X pins σ H { s with heap:=h',toks:=t' }:=I.un (Un.kept k) (I.aG.kept k)
theorem Inv.laid{a:Addr}{o:HO}{t':Nat}(I:Inv X pins σ H s)(k:∀b u,s.heap.get? b=some u->h'.get? b=some u)(hp:s.heap.objs.size<=a)(new:dQ X.prog X.w (upd H a o) h' a o) :
  Inv X pins σ (upd H a o) { s with heap:=h',toks:=t' }:=I.un (Un.laid k hp (I.aG.fresh hp)) (I.aG.laid k hp new)
theorem Inv.write{x e:Addr}{o:HO}{t':Nat}(I:Inv X pins σ H s)(mu:BL (H x))(he:e=x\/H e=some (.own x))(k:∀b u,b≠e->s.heap.get? b=some u->h'.get? b=some u)(uH:∃u,h'.get? e=some u)
  (new:dQ X.prog X.w (upd H x o) h' x o):Inv X pins σ (upd H x o) { s with heap:=h',toks:=t' }:=I.un (Un.write mu he k uH) (I.aG.write mu he k uH new)
theorem Inv.weak{aF:List (Option V)}(I:Inv X pins σ H s)(hl:aF.length=σ.length)(w:∀(i:Nat) v,aF[i]?=some (some v)->σ[i]?=some (some v)):Inv X pins aF H s :=
 ⟨I.ok,I.os,I.bare,I.base,let⟨m,hn,yS⟩:=I.loc;⟨m,hn,λi x v e1 e2 e3=>yS i x v e1 (w i v e2) e3⟩,I.cell,I.free,I.jf,I.pin,I.aG,hl.trans I.len⟩
theorem Inv.RF{FG:List (Addr × Obj)}(I:Inv X pins σ H s)(h:∀p∈FG,s.heap.get? p.1=some p.2/\H p.1=none/\p.1≠X.env.locals/\p.1 ∉ X.fs/\∀v,p.2.data≠.cell v):Inv X FG σ H s :=
 ⟨I.ok,I.os,I.bare,I.base,I.loc,I.cell,I.free,I.jf,λp hp=>(cw.mp hp).elim (λz=>I.pin p (gO _ z)) (h p),I.aG,I.len⟩
theorem RG{N:List Str}(hN:N.Nodup){i j:Nat}{x:Str}(a:N[i]?=some x)(b:N[j]?=some x):i=j:=by
 obtain⟨h1,e1⟩:=iB.mp a
 obtain⟨h2,e2⟩:=iB.mp b
 exact(QT hN).mp (e1.trans e2.symm)
theorem b76{M:Model}{A:Around}{E:Value->Shared->Prop}{i:Nat}{x:Str}{v:V}{u:Value}{Q:Unit->Shared->Prop}(I:Inv X pins σ H s)(hN:X.N.Nodup)(hi:X.N[i]?=some x)(hx:Loc X.env.scope x)(r:RelV v u)
  (h:∀s',Inv X pins (σ.set i (some v)) H s'->(∃a,Heap.SameBut a s.heap s'.heap/\(a=X.env.locals\/X.env.cells.lookup x=some a))->Q () s') (hf:X.fn x=true\/X.env.scope.names.lookup x=some .local:=by first | exact .inl rfl | exact .inr rfl | assumption):wpAny M A (storeName X.env x u) Q E s:=by
 obtain⟨m,hn,hl⟩:=id I.loc
 have dk1:(X.env.scope.kind==.class||(X.env.scope.kind==.module&&X.env.locals != X.env.globals))=false:=by rw[I.ok.kind];rfl
 have RH:i<σ.length:=by rw[I.len];exact(iB.mp hi).1
 have oI:=I.oI
 have tracked:∀{a:Addr} {h':Heap},(∃o,s.heap.get? a=some o/\H a=none)->Heap.SameBut a s.heap h'->cJ X.prog X.w H h':=λ{a h'} ha hs b ob e=>by
  obtain⟨_,_,RI⟩:=ha
  refine(I.aG b ob e).jZ (λc w' hc q=>(hs.2 c ?_).trans q) (λ_ q=>q) (λ_ _ q=>q) λ_ _ q=>q
  rintro rfl
  rcases hc with rfl | hc
  ·rw[RI]at e;cases e
  ·rw[RI]at hc;cases hc
 rcases hx with hk | hk
 ·refine wpAny_storeName_local hk hn (λh' hn' hs=>?_) dk1
  obtain⟨oL,_,_,hoL,_⟩:=id hn
  refine h _ ⟨I.ok,I.os,I.bare,⟨λb o e n hb hx=>?_,λb o e n hb hx=>?_,I.base.free,λb o e hx=>?_,I.base.jF,I.base.je,I.base.ie⟩,⟨_,hn',λj y v' e1 e2 e3=>?_⟩,λy c e=>?_,I.free,I.jf,λp hp=>?_,tracked ⟨oL,hoL,I.free⟩ hs,by simpa using I.len⟩ ⟨_,hs,.inl rfl⟩
  ·exact(hs.2 b (eY (cT (bI e) I.ok.above))).trans (I.base.keep b o e n hb hx)
  ·obtain⟨sl,e1⟩:=I.base.slot b o e n hb hx
   exact⟨sl,(hs.2 b (eY (cT (bI e) I.ok.above))).trans e1⟩
  ·obtain⟨o',e1⟩:=I.base.there b o e hx
   exact⟨o',(hs.2 b (eY (cT (bI e) I.ok.above))).trans e1⟩
  ·by_cases hj:j=i
   ·subst hj
    rw[hi]at e1;cases e1
    rw[QU RH]at e2
    cases e2
    exact⟨u,r,.inl ⟨hk,by simp⟩⟩
   ·rw[yj (fg hj)]at e2
    obtain⟨u',r',q⟩:=hl j y v' e1 e2 e3
    refine⟨u',r',?_⟩
    rcases q with⟨k,e⟩ | ⟨k,c,e,z⟩
    ·refine .inl ⟨k,?_⟩
     have:y≠x:=λe=>hj (RG hN e1 (e ▸ hi))
     simp[this,e]
    ·exact .inr ⟨k,c,e,z.sameBut hs (oI y c e)⟩
  ·obtain⟨w',z⟩:=I.cell y c e
   exact⟨w',z.sameBut hs (oI y c e)⟩
  ·obtain⟨e,n,ne,nf,d⟩:=I.pin p hp
   exact⟨(hs.2 p.1 ne).trans e,n,ne,nf,d⟩
 ·have yT:X.fn x=true:=by
   rcases hf with z | z
   ·exact z
   ·rw[z]at hk;cases hk
  obtain⟨c,hc⟩:=I.ok.has x (.inl hk)
  obtain⟨w',z⟩:=I.cell x c hc
  refine wpAny_storeName_cell I.ok.kind hk hc z (λh' mT hs=>?_)
  obtain⟨oc,iG,dk4⟩:=id z
  refine h { s with heap:=h' } ⟨I.ok,I.os,I.bare,⟨λb o e n hb hx=>?_,λb o e n hb hx=>?_,I.base.free,λb o e hx=>?_,I.base.jF,I.base.je,I.base.ie⟩,⟨m,hn.sameBut hs (fg (oI x c hc)),λj y v' e1 e2 e3=>?_⟩,λy c' e=>?_,I.free,I.jf,λp hp=>?_,tracked ⟨oc,iG,I.jf x c hc⟩ hs,by simpa using I.len⟩ ⟨c,hs,.inr hc⟩
  ·exact(hs.2 b (eY (cT (bI e) (I.ok.qS x c yT hc)))).trans (I.base.keep b o e n hb hx)
  ·obtain⟨sl,e1⟩:=I.base.slot b o e n hb hx
   exact⟨sl,(hs.2 b (eY (cT (bI e) (I.ok.qS x c yT hc)))).trans e1⟩
  ·obtain⟨o',e1⟩:=I.base.there b o e hx
   exact⟨o',(hs.2 b (eY (cT (bI e) (I.ok.qS x c yT hc)))).trans e1⟩
  ·by_cases hj:j=i
   ·subst hj
    rw[hi]at e1;cases e1
    rw[QU RH]at e2
    cases e2
    exact⟨u,r,.inr ⟨.inl hk,c,hc,mT⟩⟩
   ·rw[yj (fg hj)]at e2
    obtain⟨u',r',q⟩:=hl j y v' e1 e2 e3
    refine⟨u',r',?_⟩
    rcases q with q | ⟨k,c',e,z'⟩
    ·exact .inl q
    ·refine .inr ⟨k,c',e,z'.sameBut hs ?_⟩
     rintro rfl
     exact hj (RG hN e1 (I.ok.inj _ _ _ e hc ▸ hi))
  ·by_cases RJ:c'=c
   ·subst RJ;exact⟨_,mT⟩
   ·obtain⟨w2,z2⟩:=I.cell y c' e
    exact⟨w2,z2.sameBut hs RJ⟩
  ·obtain⟨e,n,ne,nf,d⟩:=I.pin p hp
   refine⟨(hs.2 p.1 ?_).trans e,n,ne,nf,d⟩
   intro q
   rw[q,iG]at e
   have q':oc=p.2:=cN e
   exact d w' (by rw[<-q'];exact dk4)
theorem FH{M:Model}{A:Around}{E:Value->Shared->Prop}{i:Nat}{x:Str}{v:V}{u:Value}{Q:Unit->Shared->Prop}(I:Inv X pins σ H s)(hN:X.N.Nodup)(hi:X.N[i]?=some x)(hx:Loc X.env.scope x)(r:RelV v u)
  (h:∀s',Inv X pins (σ.set i (some v)) H s'->Q () s') (hf:X.fn x=true\/X.env.scope.names.lookup x=some .local:=by first | exact .inl rfl | exact .inr rfl | assumption):wpAny M A (storeName X.env x u) Q E s :=
 b76 I hN hi hx r (λs' I' _=>h s' I') hf
theorem Inv.dk5{s':Shared}{ch:List Addr}(I:Inv X pins σ H s)(ho:s'.os=s.os)(u:Un (eA X.stack) ch H H' s.heap s'.heap)(aG:cJ X.prog X.w H' s'.heap)(hg:AllBare s'.gens)
  (lj:∀b∈ch,(b∈X.ex\/X.cK.heap.objs.size<=b)/\b≠X.env.locals/\(∀x c,X.env.cells.lookup x=some c->c≠b)/\∀p∈X.pn++pins,p.1≠b):Inv X pins σ H' s':=by
 obtain⟨h',g',d',t',o'⟩:=s'
 have e:o'=s.os:=ho
 subst e
 exact I.call (g':=g') (t':=t') (d':=d') u aG hg lj
end
noncomputable abbrev XK:=Value->Option Addr->Hp->Prop
noncomputable abbrev St:=List (Option V)
noncomputable abbrev VK:=V->Hp->Prop
noncomputable abbrev TE:=St->Hp->VK->Prop
noncomputable abbrev TT:=St->Hp->(Bool->Hp->Prop)->Prop
noncomputable abbrev TA:=St->Hp->(List V->Hp->Prop)->Prop
structure Ends where
 nx:St->Hp->Prop
 rt:VK
 bk:St->Hp->Prop:=λ_ _=>False
 ct:St->Hp->Prop:=λ_ _=>False
noncomputable abbrev TS:=Ends->St->Hp->Prop
noncomputable def EP(X:Cx)(pins:List (Addr × Obj))(σ:St)(Q:VK)(u:Value)(s':Shared):Prop:=∃v H',Inv X pins σ H' s'/\RelV v u/\Q v H'
noncomputable def TP(X:Cx)(pins:List (Addr × Obj))(σ:St)(Q:Bool->Hp->Prop)(b:Bool)(s':Shared):Prop:=∃H',Inv X pins σ H' s'/\Q b H'
noncomputable def AP(X:Cx)(pins:List (Addr × Obj))(σ:St)(Q:List V->Hp->Prop)(us:List Value)(s':Shared):Prop:=∃vs H',Inv X pins σ H' s'/\Vals vs us/\Q vs H'
noncomputable def SP(X:Cx)(pins:List (Addr × Obj))(D:Ends)(f:Flow)(s':Shared):Prop :=
 match f with
 | .next=>∃aF H',Inv X pins aF H' s'/\D.nx aF H'
 | .brk=>∃aF H',Inv X pins aF H' s'/\D.bk aF H'
 | .cont=>∃aF H',Inv X pins aF H' s'/\D.ct aF H'
 | .ret u=>∃v aF H',Inv X pins aF H' s'/\RelV v u/\D.rt v H'
noncomputable def PE(X:Cx)(e:Expr)(t:TE):Prop :=
 ∀(pins:List (Addr × Obj)) (s:Shared) (σ:St) (H:Hp) (Q:VK),Inv X pins σ H s->t σ H Q->wpAny (model X.prog X.w) X.A (eval e X.env) (EP X pins σ Q) X.xe s
noncomputable def PT(X:Cx)(e:Expr)(t:TT):Prop :=
 ∀(pins:List (Addr × Obj)) (s:Shared) (σ:St) (H:Hp) (Q:Bool->Hp->Prop),Inv X pins σ H s->t σ H Q->wpAny (model X.prog X.w) X.A (isTrue e X.env (eval e X.env)) (TP X pins σ Q) X.xe s
noncomputable def PW(X:Cx)(e:Expr)(t:TT):Prop :=
 ∀(whole:Sem Value) (pins:List (Addr × Obj)) (s:Shared) (σ:St) (H:Hp) (Q:Bool->Hp->Prop),Inv X pins σ H s->t σ H Q->wpAny (model X.prog X.w) X.A (isTrue e X.env whole) (TP X pins σ Q) X.xe s
theorem PW.pt{X:Cx}{e:Expr}{t:TT}(h:PW X e t):PT X e t:=h _
noncomputable def PA(X:Cx)(es:List Expr)(t:TA):Prop :=
 ∀(pos:Pos) (pins:List (Addr × Obj)) (s:Shared) (σ:St) (H:Hp) (Q:List V->Hp->Prop),Inv X pins σ H s->t σ H Q->wpAny (model X.prog X.w) X.A (spliced (backTo pos (starEach es X.env))) (AP X pins σ Q) X.xe s
noncomputable def PS(X:Cx)(st:Stmt)(t:TS):Prop :=
 ∀(pins:List (Addr × Obj)) (s:Shared) (σ:St) (H:Hp) (D:Ends),Inv X pins σ H s->t D σ H->wpAny (model X.prog X.w) X.A (exec st X.env) (SP X pins D) X.xe s
noncomputable def PSs(X:Cx)(st:List Stmt)(t:TS):Prop :=
 ∀(pins:List (Addr × Obj)) (s:Shared) (σ:St) (H:Hp) (D:Ends),Inv X pins σ H s->t D σ H->wpAny (model X.prog X.w) X.A (execs st X.env) (SP X pins D) X.xe s
theorem aP{α:Type}{t:Sem α}{Q Q':α->Shared->Prop}{M:Model}{A:Around}{E:Value->Shared->Prop}{s:Shared}(h:wpAny M A t Q E s)(hQ:∀a s,Q a s->Q' a s):wpAny M A t Q' E s:=wpAny_mono h hQ λ_ _ x=>x
end L2
namespace L2
open PySem PySem.Spec PyProof.Rows
section
variable{X:Cx}
noncomputable def RK(i:Nat):TE:=λσ H Q=>∃v,σ[i]?=some (some v)/\Q v H
noncomputable def tC(v:V):TE:=λ_ H Q=>Q v H
theorem qT{i:Nat}{x:Str}{pos:Pos}(hN:X.N[i]?=some x)(hv:lh X.env.scope x)(hd:(x==("__debug__":Str))=false:=by decide)(cO:(x==("__classdict__":Str))=false:=by decide):PE X (.Name x pos) (RK i):=by
 intro pins s σ H Q I h
 obtain⟨v,e,h⟩:=h
 obtain⟨m,hn,hl⟩:=I.loc
 obtain⟨u,r,l⟩:=hl i x v hN e hv
 have fin:EP X pins σ Q u s:=⟨v,H,I,r,h⟩
 rcases l with⟨hk,hm⟩ | ⟨hk,c,hc,BP⟩
 ·exact wpAny_Name (wpAny_loadName_local I.ok.kind hk hn hm fin) hd
 ·rcases hk with hk | hk
  ·exact wpAny_Name (wpAny_loadName_cell I.ok.kind hk hc BP fin) hd
  ·exact wpAny_Name (wpAny_loadName_free I.ok.kind hk hc BP fin cO) hd
theorem yU{i j pos}:PE X (.Constant (.int i) j pos) (tC (.int i)):=λ_ _ _ H _ I h=>wpAny_Constant_int ⟨.int i,H,I.tok _,⟨_,rfl⟩,h⟩
theorem cV2{b j pos}:PE X (.Constant (.bool b) j pos) (tC (.bl b)):=λ_ _ _ H _ I h=>Constant_bool ⟨.bl b,H,I,rfl,h⟩
theorem cL8{j pos}:PE X (.Constant .none j pos) (tC .aw):=λ_ _ _ H _ I h=>Constant_none ⟨.aw,H,I,rfl,h⟩
theorem cM4{x j pos}:PE X (.Constant (.str x) j pos) (tC (.str x)):=λ_ _ _ H _ I h=>Calls.Constant_str ⟨.str x,H,I.tok _,⟨_,rfl⟩,h⟩
noncomputable def Gl(X:Cx)(x:Str):Prop:=X.env.kindOf x=some .globalImplicit
theorem BQ{E:Value->Shared->Prop}{pins:List (Addr × Obj)}{s:Shared}{σ:St}{H:Hp}{x:Str}{u:Value}{pos:Pos}{Q:Value->Shared->Prop}(I:Inv X pins σ H s)(hg:Gl X x)(hm:X.mg x=some u)(h:Q u s)
  (hd:(x==("__debug__":Str))=false:=by decide):wpAny (model X.prog X.w) X.A (eval (.Name x pos) X.env) Q E s :=
 df3 I.ok.kind hg (Calls.loadGlobal_global (by rw[I.ok.glob];exact I.mod.glob.keeps I.bk) hm h) hd
theorem lC{E:Value->Shared->Prop}{pins:List (Addr × Obj)}{s:Shared}{σ:St}{H:Hp}{x:Str}{u:Value}{pos:Pos}{Q:Value->Shared->Prop}(I:Inv X pins σ H s)(hg:Gl X x)(hm:X.mg x=none)(hv:bootBuiltins x=some u)(h:Q u s)
  (hn:x≠"__name__":=by decide) (hd:(x==("__debug__":Str))=false:=by decide):wpAny (model X.prog X.w) X.A (eval (.Name x pos) X.env) Q E s:=by
 obtain⟨mb,h1,h2⟩:=I.mod.blt
 exact df3 I.ok.kind hg (Calls.loadGlobal_builtin (by rw[I.ok.glob];exact I.mod.glob.keeps I.bk) hm (by rw[I.ok.blt];exact h1.keeps I.bk) ((h2 x hn).trans hv) h) hd
theorem cG3{x:Str}{v:V}{u:Value}{pos:Pos}(hg:Gl X x)(hm:X.mg x=none)(hv:bootBuiltins x=some u)(r:RelV v u)(hn:x≠"__name__":=by decide)(hd:(x==("__debug__":Str))=false:=by decide):PE X (.Name x pos) (tC v) :=
 λ_ _ _ H _ I h=>lC I hg hm hv ⟨v,H,I,r,h⟩ hn hd
variable{a b:Expr}{ta tb:TE}{pos:Pos}
noncomputable def tB(t:TE):TT:=λσ H Q=>t σ H λx H1=>∃c,x=.bl c/\Q c H1
theorem FI{e:Expr}{t:TE}(h:PE X e t)(he:∀whole,isTrue e X.env whole=(do let v<-whole;standAt e.pos;holding [v] (truthy v)):=by intro _;rfl):PT X e (tB t):=by
 intro pins s σ H Q I hw
 refine isTrue_plain (aP (h pins s σ H _ I hw) λv s1 ⟨x,H1,I1,r1,q1⟩=>?_) (he _)
 obtain⟨d,rfl,q⟩:=q1
 cases r1
 exact wpAny_truthy_bool ⟨H1,I1,q⟩
variable{tA BR:TT}{rest:List Expr}
noncomputable def c99(t u:TT):TT:=λσ H Q=>t σ H λc H1=>if c=true then u σ H1 Q else Q false H1
noncomputable def tOr(t u:TT):TT:=λσ H Q=>t σ H λc H1=>if c=true then Q true H1 else u σ H1 Q
noncomputable def c88(t:TT):TT:=λσ H Q=>t σ H λc H1=>Q (!c) H1
theorem BS(ha:PT X a tA):PW X (.BoolOp .And [a] pos) tA:=by
 intro wh pins s σ H Q I h
 refine isTrue_and (aP (ha pins s σ H Q I h) λc s1 e=>?_)
 cases c with
 | true=>exact isTrue_and_nil e
 | false=>exact e
theorem BU(ha:PT X a tA):PW X (.BoolOp .Or [a] pos) tA:=by
 intro wh pins s σ H Q I h
 refine isTrue_or (aP (ha pins s σ H Q I h) λc s1 e=>?_)
 cases c with
 | false=>exact isTrue_or_nil e
 | true=>exact e
theorem cU0(ha:PT X a tA)(hb:PW X (.BoolOp .And (b::rest) pos) BR):PW X (.BoolOp .And (a::b::rest) pos) (c99 tA BR):=by
 intro wh pins s σ H Q I h
 refine isTrue_and (aP (ha pins s σ H _ I h) λc s1 ⟨H1,I1,q1⟩=>?_)
 cases c with
 | true=>exact hb wh pins s1 σ H1 Q I1 q1
 | false=>exact⟨H1,I1,q1⟩
theorem cW1(ha:PT X a tA)(hb:PW X (.BoolOp .Or (b::rest) pos) BR):PW X (.BoolOp .Or (a::b::rest) pos) (tOr tA BR):=by
 intro wh pins s σ H Q I h
 refine isTrue_or (aP (ha pins s σ H _ I h) λc s1 ⟨H1,I1,q1⟩=>?_)
 cases c with
 | true=>exact⟨H1,I1,q1⟩
 | false=>exact hb wh pins s1 σ H1 Q I1 q1
theorem FJ(ha:PT X a tA):PT X (.UnaryOp .Not a pos) (c88 tA):=by
 intro pins s σ H Q I h
 exact isTrue_not (ha pins s σ H (λc H1=>Q (!c) H1) I h)
noncomputable def c01(ta tb:TE):TE:=λσ H Q=>ta σ H λx H1=>∃c,x=.bl c/\if c=true then tb σ H1 Q else Q (.bl false) H1
noncomputable def cZ7(ta:TE):TE:=λσ H Q=>ta σ H λx H1=>∃c,x=.bl c/\Q (.bl (!c)) H1
theorem yV{op}{t:TE}(h:PE X a t):PE X (.BoolOp op [a] pos) t:=λpins s σ H Q I hw=>BoolOp_one (h pins s σ H Q I hw)
theorem cP5(ha:PE X a ta)(hb:PE X (.BoolOp .And (b::rest) pos) tb):PE X (.BoolOp .And (a::b::rest) pos) (c01 ta tb):=by
 intro pins s σ H Q I h
 refine BoolOp_and (aP (ha pins s σ H _ I h) λv s1 ⟨x,H1,I1,r1,q1⟩=>?_)
 obtain⟨c,rfl,q1⟩:=q1
 cases r1
 refine wpAny_truthy_bool ?_
 cases c with
 | true=>exact hb pins s1 σ H1 Q I1 q1
 | false=>exact⟨.bl false,H1,I1,rfl,q1⟩
theorem cS2(ha:PE X a ta):PE X (.UnaryOp .Not a pos) (cZ7 ta):=by
 intro pins s σ H Q I h
 refine UnaryOp_ (aP (ha pins s σ H _ I h) λv s1 ⟨x,H1,I1,r1,q1⟩=>?_)
 obtain⟨c,rfl,q1⟩:=q1
 cases r1
 exact not_of (wpAny_truthy_bool ⟨.bl (!c),H1,I1,rfl,q1⟩)
noncomputable def tIf(t:TT)(ta tb:TE):TE:=λσ H Q=>t σ H λc H1=>if c=true then ta σ H1 Q else tb σ H1 Q
theorem cj7{c:Expr}(hc:PT X c tA)(ha:PE X a ta)(hb:PE X b tb):PE X (.IfExp c a b pos) (tIf tA ta tb):=by
 intro pins s σ H Q I h
 refine wpAny_IfExp (aP (hc pins s σ H _ I h) λd s1 ⟨H1,I1,q1⟩=>?_)
 cases d with
 | true=>exact ha pins s1 σ H1 Q I1 q1
 | false=>exact hb pins s1 σ H1 Q I1 q1
end
end L2
namespace L2
open PySem PySem.Spec PyProof.Rows
noncomputable def bK(K:PySem.W.Frag)(H:Hp)(a:Addr)(xs:List V):Prop :=
 Rd H a (.lst xs) \/
  ∃(o:Obj) (its:Array Value) (n:Nat),K.lookup a=some o/\o.cls=.type "list"/\o.dict=none/\o.data=.seq its n/\its.size<=sizeLine/\Vals xs its.toList
noncomputable def gQ(K:PySem.W.Frag)(H:Hp)(a:Addr)(xs:List V):Prop :=
 Rd H a (.tup xs) \/
  ∃(o:Obj) (its:Array Value) (n:Nat),K.lookup a=some o/\o.cls=.type "tuple"/\o.data=.seq its n/\its.size<=sizeLine/\Vals xs its.toList
noncomputable def c81:Value->Option V
 | .none=>some .aw
 | .bool b=>some (.bl b)
 | .int i _=>some (.int i)
 | .str x _=>some (.str x)
 | .bytes b _=>some (.BK b)
 | .float b _=>some (.qQ b)
 | .ref a=>some (.ref a)
 | .type n=>some (.ty n)
 | _=>none
theorem RelV.abs{x:V}{u:Value}(r:RelV x u):c81 u=some x:=by
 cases x with
 | aw=>cases r;rfl
 | bl _=>cases r;rfl
 | int _=>obtain⟨t,rfl⟩:=r;rfl
 | str _=>obtain⟨t,rfl⟩:=r;rfl
 | BK _=>obtain⟨t,rfl⟩:=r;rfl
 | qQ _=>obtain⟨t,rfl⟩:=r;rfl
 | ref _=>cases r;rfl
 | ty _=>cases r;rfl
theorem RelV.inj{x y:V}{u:Value}(r:RelV x u)(q:RelV y u):x=y:=cN (r.abs.symm.trans q.abs)
theorem Vals.inj:∀{xs ys:List V} {us:List Value},Vals xs us->Vals ys us->xs=ys
 | _,_,_,.nil,.nil=>rfl
 | _,_,_,.cons r t,.cons r' t'=>by rw[r.inj r',Vals.inj t t']
section
variable{X:Cx}{pins:List (Addr × Obj)}{σ:St}{H:Hp}{s:Shared}{a:Addr}{xs ys:List V}
theorem bK.of{K:PySem.W.Frag}(h:H a=some (.lst xs)):bK K H a xs:=.inl (.inl h)
theorem gQ.of{K:PySem.W.Frag}(h:H a=some (.tup xs)):gQ K H a xs:=.inl (.inl h)
theorem Inv.list(I:Inv X pins σ H s)(h:bK X.K H a xs):∃its:List Value,Vals xs its/\PlainL s.heap a its.toArray/\xs.length<=sizeLine:=by
 rcases h with h | ⟨o,its,n,hk,hc,hd,hs,hz,r⟩
 ·obtain⟨z,its,n,r,e⟩:=h.ok I.aG
  exact⟨its,r,⟨_,n,e,rfl,rfl,rfl⟩,z⟩
 ·refine⟨its.toList,r,⟨o,n,I.df a o hk,hc,hd,by simpa using hs⟩,?_⟩
  have e:=r.length
  simp only[ue]at e
  omega
theorem Inv.tuple(I:Inv X pins σ H s)(h:gQ X.K H a xs):∃its:List Value,Vals xs its/\IsTup s.heap a its.toArray/\xs.length<=sizeLine:=by
 rcases h with h | ⟨o,its,n,hk,hc,hs,hz,r⟩
 ·obtain⟨z,its,r,p⟩:=h.ok I.aG
  exact⟨its,r,p,z⟩
 ·refine⟨its.toList,r,⟨o,I.df a o hk,hc,n,by simpa using hs⟩,?_⟩
  have e:=r.length
  simp only[ue]at e
  omega
theorem Inv.yW(I:Inv X pins σ H s)(h:bK X.K H a xs)(h':bK X.K H a ys):xs=ys:=by
 obtain⟨its,r,⟨o,n,e,_,_,d⟩,_⟩:=I.list h
 obtain⟨its',r',⟨o',n',e',_,_,d'⟩,_⟩:=I.list h'
 rw[e]at e';cases e'
 rw[d]at d'
 injection d' with d1 _
 have:its=its':=by simpa using congrArg Array.toList d1
 subst this
 exact r.inj r'
end
noncomputable abbrev Cx.jI(X:Cx)(E:Value->Shared->Prop):Cx:={ X with xe:=E }
noncomputable abbrev Cx.gD(X:Cx):Cx:=X.jI λ_ _=>False
theorem Cx.Ok.jI{X:Cx}(ok:X.Ok)(E:Value->Shared->Prop):(X.jI E).Ok :=
 ⟨ok.mod,ok.kind,ok.glob,ok.blt,ok.above,ok.inj,ok.has,ok.qS,ok.hd,ok.frames,ok.yO,ok.yP,ok.bs,ok.jG,ok.uI,ok.uJ,ok.gC,ok.jH⟩
theorem Cx.Ok.lD{X:Cx}{E:Value->Shared->Prop}(ok:(X.jI E).Ok):X.Ok :=
 ⟨ok.mod,ok.kind,ok.glob,ok.blt,ok.above,ok.inj,ok.has,ok.qS,ok.hd,ok.frames,ok.yO,ok.yP,ok.bs,ok.jG,ok.uI,ok.uJ,ok.gC,ok.jH⟩
section
variable{X:Cx}{pins:List (Addr × Obj)}{σ:St}{H:Hp}{s:Shared}{E:Value->Shared->Prop}
theorem Inv.jI(I:Inv X pins σ H s)(E:Value->Shared->Prop):Inv (X.jI E) pins σ H s:=⟨I.ok.jI E,I.os,I.bare,I.base,I.loc,I.cell,I.free,I.jf,I.pin,I.aG,I.len⟩
theorem Inv.lD(I:Inv (X.jI E) pins σ H s):Inv X pins σ H s:=⟨I.ok.lD,I.os,I.bare,I.base,I.loc,I.cell,I.free,I.jf,I.pin,I.aG,I.len⟩
theorem SP.lD{D:Ends}{f:Flow}{s':Shared}(h:SP (X.jI E) pins D f s'):SP X pins D f s':=by
 cases f with
 | next=>obtain⟨aF,H',I,q⟩:=h;exact⟨aF,H',I.lD,q⟩
 | brk=>obtain⟨aF,H',I,q⟩:=h;exact⟨aF,H',I.lD,q⟩
 | cont=>obtain⟨aF,H',I,q⟩:=h;exact⟨aF,H',I.lD,q⟩
 | ret u=>obtain⟨v,aF,H',I,r,q⟩:=h;exact⟨v,aF,H',I.lD,r,q⟩
theorem PE.gD{e:Expr}{t:TE}(h:PE X.gD e t):PE X e t:=λpins s σ H Q I hw =>
 wpAny_mono (h pins s σ H Q (I.jI _) hw) (λ_ _ ⟨v,H',I',r,q⟩=>⟨v,H',I'.lD,r,q⟩) λ_ _ z=>fL z
theorem PSs.gD{st:List Stmt}{t:TS}(h:PSs X.gD st t):PSs X st t:=λpins s σ H D I hw =>
 wpAny_mono (h pins s σ H D (I.jI _) hw) (λ_ _ q=>q.lD) λ_ _ z=>fL z
end
section
variable{X:Cx}{st:Stmt}{rest:List Stmt}{t u:TS}{e:Expr}{te:TE}{pos:Pos}
noncomputable def cX0:TS:=λD σ H=>D.nx σ H
noncomputable def c80(t u:TS):TS:=λD σ H=>t { D with nx:=u D } σ H
theorem FK:PSs X [] cX0:=λ_ _ σ H _ I h=>wpAny_execs_nil ⟨σ,H,I,h⟩
theorem ka(h1:PS X st t)(h2:PSs X rest u):PSs X (st::rest) (c80 t u):=by
 intro pins s σ H D I h
 refine wpAny_execs_cons (aP (h1 pins s σ H { D with nx:=u D } I h) λf s1 q=>?_)
 cases f with
 | next =>
  obtain⟨aF,H',I',q⟩:=q
  exact h2 pins s1 aF H' D I' q
 | ret v=>exact q
 | brk=>exact q
 | cont=>exact q
theorem uL(h1:PS X st t):PSs X [st] t:=by
 intro pins s σ H D I h
 refine wpAny_execs_cons (aP (h1 pins s σ H D I h) λf s1 q=>?_)
 cases f with
 | next=>exact wpAny_execs_nil q
 | ret v=>exact q
 | brk=>exact q
 | cont=>exact q
theorem Inv.quiet{pins:List (Addr × Obj)}{σ:St}{H:Hp}{s:Shared}(I:Inv X pins σ H s):interactive X.env=false:=by simp[interactive,I.ok.kind]
noncomputable def cV1(te:TE):TS:=λD σ H=>te σ H λ_ H1=>D.nx σ H1
theorem BV(he:PE X e te)(hs:swapsWith e none pos.line X.env=pure false:=by rfl):PS X (.Expr e pos) (cV1 te):=by
 intro pins s σ H D I h
 exact wpAny_Expr_any (aP (he pins s σ H _ I h) λv s1 ⟨x,H1,I1,r1,q1⟩=>⟨σ,H1,I1,q1⟩) I.quiet hs
noncomputable def da1(te:TE):TS:=λD σ H=>te σ H D.rt
theorem cP1(he:PE X e te):PS X (.Return (some e) pos) (da1 te):=by
 intro pins s σ H D I h
 exact wpAny_Return_some (aP (he pins s σ H _ I h) λv s1 ⟨x,H1,I1,r1,q1⟩=>⟨x,σ,H1,I1,r1,q1⟩)
noncomputable def c84(c:TT)(t u:TS):TS:=λD σ H=>c σ H λb H1=>if b=true then t D σ H1 else u D σ H1
theorem FL{c:Expr}{a b:List Stmt}{tc:TT}(hc:PT X c tc)(ha:PSs X a t)(hb:PSs X b u):PS X (.If c a b pos) (c84 tc t u):=by
 intro pins s σ H D I h
 refine wpAny_If (aP (hc pins s σ H _ I h) λd s1 ⟨H1,I1,q1⟩=>?_)
 cases d with
 | true=>exact ha pins s1 σ H1 D I1 q1
 | false=>exact hb pins s1 σ H1 D I1 q1
noncomputable def cT7:TS:=λ_ _ _=>False
theorem RL:PS X st cT7:=λ_ _ _ _ _ _ h=>h.elim
end
noncomputable abbrev TG:=V->St->Hp->(St->Hp->Prop)->Prop
noncomputable abbrev qU:=List V->St->Hp->(St->Hp->Prop)->Prop
noncomputable def PG(X:Cx)(target:Expr)(t:TG):Prop :=
 ∀(pins:List (Addr × Obj)) (s:Shared) (σ:St) (H:Hp) (v:V) (u:Value) (Q:St->Hp->Prop),Inv X pins σ H s->RelV v u->t v σ H Q ->
  wpAny (model X.prog X.w) X.A (assign target X.env u) (λ_ s'=>∃aF H',Inv X pins aF H' s'/\Q aF H') X.xe s
noncomputable def BW(X:Cx)(ts:List Expr)(t:qU):Prop :=
 ∀(pins:List (Addr × Obj)) (s:Shared) (σ:St) (H:Hp) (vs:List V) (us:List Value) (Q:St->Hp->Prop),Inv X pins σ H s->Vals vs us->t vs σ H Q ->
  wpAny (model X.prog X.w) X.A (assignInOrder ((assignEach ts X.env).map (·.2)) us) (λ_ s'=>∃aF H',Inv X pins aF H' s'/\Q aF H') X.xe s
noncomputable abbrev FN:=V->V->V->Hp->(Hp->Prop)->Prop
noncomputable def RM(X:Cx)(t:FN):Prop :=
 ∀(pins:List (Addr × Obj)) (s:Shared) (σ:St) (H:Hp) (o i v:V) (ov iv u:Value) (Q:Hp->Prop),Inv X pins σ H s->RelV o ov->RelV i iv->RelV v u->t o i v H Q ->
  wpAny (model X.prog X.w) X.A (setItem ov iv u) (λ_ s'=>∃H',Inv X pins σ H' s'/\Q H') X.xe s
noncomputable abbrev FP:=V->V->Hp->VK->Prop
noncomputable def PIp(X:Cx)(op:Operator)(t:FP):Prop :=
 ∀(pins:List (Addr × Obj)) (s:Shared) (σ:St) (H:Hp) (x y:V) (v u:Value) (Q:VK),Inv X pins σ H s->RelV x v->RelV y u->t x y H Q ->
  wpAny (model X.prog X.w) X.A (inplaceOp op v u) (EP X pins σ Q) X.xe s
section
variable{X:Cx}{pos:Pos}
noncomputable def BX(i:Nat):TG:=λv σ H Q=>Q (σ.set i (some v)) H
theorem BY{i:Nat}{x:Str}(hN:X.N.Nodup)(hi:X.N[i]?=some x)(hx:Loc X.env.scope x)(hf:X.fn x=true\/X.env.scope.names.lookup x=some .local:=by first | exact .inl rfl | exact .inr rfl | assumption):PG X (.Name x pos) (BX i):=by
 intro pins s σ H v u Q I r h
 exact wpAny_assign_Name (FH I hN hi hx r (λs' I'=>⟨_,H,I',h⟩) hf)
noncomputable def c79:qU:=λvs σ H Q=>vs=[]/\Q σ H
noncomputable def cZ5(t:TG)(u:qU):qU:=λvs σ H Q=>∃v r,vs=v::r/\t v σ H λaF H'=>u r aF H' Q
theorem cK0:BW X [] c79:=by
 intro pins s σ H vs us Q I r h
 obtain⟨e,h⟩:=h
 subst e
 cases r
 exact assignInOrder_nil ⟨σ,H,I,h⟩
theorem RN{e:Expr}{es:List Expr}{t:TG}{u:qU}(h1:PG X e t)(h2:BW X es u)
  (hs:(assignEach (e::es) X.env).map (·.2)=assign e X.env::(assignEach es X.env).map (·.2):=by rfl):BW X (e::es) (cZ5 t u):=by
 intro pins s σ H vs us Q I r h
 obtain⟨v,vr,e1,h⟩:=h
 subst e1
 cases r with
 | cons r rr =>
  rw[hs]
  refine assignInOrder_cons (aP (h1 pins s σ H _ _ _ I r h) λ_ s1 ⟨gE,H1,I1,q1⟩=>?_)
  exact h2 pins s1 gE H1 _ _ Q I1 rr q1
noncomputable def c90(K:PySem.W.Frag)(n:Nat)(t:qU):TG:=λv σ H Q=>∃a xs,v=.ref a/\gQ K H a xs/\xs.length=n/\t xs σ H Q
theorem cR3{es:List Expr}{k:Nat}{t:qU}{n:Nat}(hc:X.calm=true)(h:BW X es t)
  (hn:(assignEach es X.env).length=n:=by rfl) (dg:(assignEach es X.env).findIdx? (·.1)=none:=by rfl):PG X (.Tuple es k pos) (c90 X.K n t):=by
 intro pins s σ H v u Q I r hw
 obtain⟨a,xs,e1,hq,hl,hw⟩:=hw
 subst e1
 cases r
 obtain⟨its,rv,ht,hz⟩:=I.tuple hq
 refine assign_Tuple_tuple (I.ok.hd hc) ht (by simp[hn,<- hl,rv.length]) dg λh' hx=>?_
 have I1:Inv X pins σ H { s with heap:=h' }:=I.kept (t':=s.toks) λb o e=>hx b o (eY (bI e)) e
 exact h pins _ σ H xs _ Q I1 (by simpa using rv) hw
noncomputable def c77(to ti:TE)(t:FN):TG:=λv σ H Q=>to σ H λo H1=>ti σ H1 λi H2=>t o i v H2 λH3=>Q σ H3
theorem cO5{o i:Expr}{to ti:TE}{t:FN}(ho:PE X o to)(hi:PE X i ti)(hs:RM X t)
  (ha:∀v,assign (.Subscript o i pos) X.env v=(do
   let ov<-holding [v] (eval o X.env)
   let iv<-holding [v,ov] (eval i X.env)
   standAt pos
   holding [v,ov,iv] (setItem ov iv v)
   release [v,ov,iv] []):=by intro _;rfl):PG X (.Subscript o i pos) (c77 to ti t):=by
 intro pins s σ H v u Q I r h
 rw[ha]
 refine wpAny_bind (wpAny_holding (aP (ho pins s σ H _ I h) λov s1 ⟨x,H1,I1,r1,q1⟩=>?_))
 refine wpAny_bind (wpAny_holding (aP (hi pins s1 σ H1 _ I1 q1) λiv s2 ⟨y,H2,I2,r2,q2⟩=>?_))
 refine wpAny_bind (wpAny_standAt (wpAny_bind (wpAny_holding (aP (hs pins s2 σ H2 x y v ov iv u _ I2 r1 r2 r q2) λ_ s3 ⟨H3,I3,q3⟩=>?_))))
 exact wpAny_release ⟨σ,H3,I3,q3⟩
noncomputable def FQ(te:TE)(g:TG):TS:=λD σ H=>te σ H λx H1=>g x σ H1 D.nx
theorem cR4{tg e:Expr}{te:TE}{g:TG}(he:PE X e te)(hg:PG X tg g)(hs:swapsWithSole [tg] e pos.line X.env=pure false:=by rfl)(hw:swappedStores [tg] e X.env=pure none:=by rfl)
  (h1:(assignEach [tg] X.env).map (·.2)=[assign tg X.env]:=by rfl):PS X (.Assign [tg] e pos) (FQ te g):=by
 intro pins s σ H D I h
 refine wpAny_Assign_stores (aP (he pins s σ H _ I h) λv s1 ⟨x,H1,I1,r1,q1⟩=>?_) hs hw
 rw[h1]
 exact aP (hg pins s1 σ H1 x v _ I1 r1 q1) λ_ s2 q=>q
theorem RO{i:Nat}{x:Str}{e:Expr}{te:TE}{pos':Pos}(hN:X.N.Nodup)(hi:X.N[i]?=some x)(hx:Loc X.env.scope x)(he:PE X e te)(hs:swapsWith e (some (.Name x pos')) pos.line X.env=pure false:=by rfl)(hf:X.fn x=true\/X.env.scope.names.lookup x=some .local:=by first | exact .inl rfl | exact .inr rfl | assumption) :
  PS X (.Assign [.Name x pos'] e pos) (FQ te (BX i)):=by
 intro pins s σ H D I h
 refine wpAny_Assign_Name (aP (he pins s σ H _ I h) λv s1 ⟨y,H1,I1,r1,q1⟩=>?_) hs
 exact FH I1 hN hi hx r1 (λs2 I2=>⟨_,H1,I2,q1⟩) hf
noncomputable def da2(i:Nat)(te:TE)(ti:FP):TS:=λD σ H=>∃x,σ[i]?=some (some x)/\te σ H λy H1=>ti x y H1 λz H2=>D.nx (σ.set i (some z)) H2
theorem cP9{i:Nat}{x:Str}{e:Expr}{te:TE}{op:Operator}{ti:FP}{pos':Pos}(hN:X.N.Nodup)(hi:X.N[i]?=some x)(hx:Loc X.env.scope x)(he:PE X e te)(ho:PIp X op ti)(hf:X.fn x=true\/X.env.scope.names.lookup x=some .local:=by first | exact .inl rfl | exact .inr rfl | assumption) :
  PS X (.AugAssign (.Name x pos') op e pos) (da2 i te ti):=by
 intro pins s σ H D I h
 obtain⟨v,e1,h⟩:=h
 obtain⟨m,hn,hl⟩:=I.loc
 have vis:lh X.env.scope x:=by rcases hx with k | k;exact .inl k;exact .inr (.inl k)
 obtain⟨u,r,l⟩:=hl i x v hi e1 vis
 refine wpAny_AugAssign_Name ?_
 have go:wpAny (model X.prog X.w) X.A (eval e X.env) (λw kb=>wpAny (model X.prog X.w) X.A (inplaceOp op u w) (λr do1=>wpAny (model X.prog X.w) X.A (storeName X.env x r) (λ_=>SP X pins D .next) X.xe do1) X.xe kb) X.xe s:=by
  refine aP (he pins s σ H _ I h) λw s1 ⟨y,H1,I1,r1,q1⟩=>?_
  refine aP (ho pins s1 σ H1 v y u w _ I1 r r1 q1) λz s2 ⟨zv,H2,I2,r2,q2⟩=>?_
  exact FH I2 hN hi hx r2 (λs3 I3=>⟨_,H2,I3,q2⟩) hf
 rcases l with⟨hk,hm⟩ | ⟨hk,c,hc,BP⟩
 ·exact wpAny_loadName_local I.ok.kind hk hn hm go
 ·rcases hk with hk | hk
  ·exact wpAny_loadName_cell I.ok.kind hk hc BP go
  ·rcases hx with k | k
   ·have:X.env.scope.names.lookup x=some .free:=hk
    rw[k]at this;cases this
   ·have:X.env.scope.names.lookup x=some .free:=hk
    rw[k]at this;cases this
end
section
variable{X:Cx}{pos:Pos}
noncomputable def cS7(c:TT)(tb:TS):TS:=λD σ H=>∃W:Nat->St->Hp->Prop,(∃m,W m σ H)/\∀m σ H,W m σ H ->
 c σ H λb H1=>if b=true then ∃N:St->Hp->Prop,(∀aF H',N aF H'->∃m',m'<m/\W m' aF H')/\tb { D with nx:=N,ct:=N,bk:=D.nx } σ H1 else D.nx σ H1
theorem cm0{c:Expr}{body:List Stmt}{tc:TT}{tb:TS}(hp:PassesOwn (model X.prog X.w) X.A X.env X.xe)(hc:PT X c tc)(hb:PSs X body tb):PS X (.While c body [] pos) (cS7 tc tb):=by
 intro pins s σ H D I h
 obtain⟨W,⟨m0,w0⟩,turn⟩:=h
 refine wpAny_While (codeAny_whileLoop (λn s'=>∃aF H',Inv X pins aF H' s'/\W n aF H') ?_ m0 ⟨σ,H,I,w0⟩)
 rintro n s1 ⟨gE,H1,I1,w1⟩
 refine wpAny_passesOwn hp (aP (hc pins s1 gE H1 _ I1 (turn n gE H1 w1)) λb s2 ⟨H2,I2,q2⟩=>?_)
 cases b with
 | true =>
  obtain⟨N,hN,q2⟩:=q2
  rw[if_pos rfl]
  refine wpAny_passesOwn hp (aP (hb pins s2 gE H2 _ I2 q2) λf s3 q3=>?_)
  cases f with
  | next =>
   obtain⟨ke,H3,I3,n3⟩:=q3
   obtain⟨m',hm,w3⟩:=hN ke H3 n3
   exact⟨m',hm,ke,H3,I3,w3⟩
  | cont =>
   obtain⟨ke,H3,I3,n3⟩:=q3
   obtain⟨m',hm,w3⟩:=hN ke H3 n3
   exact⟨m',hm,ke,H3,I3,w3⟩
  | brk=>exact q3
  | ret v=>exact q3
 | false =>
  rw[if_neg fN]
  exact wpAny_execs_nil ⟨gE,H2,I2,q2⟩
end
structure It where
 go:Nat->Hp->Prop
 jg:Nat->Hp->V->Hp->Prop
 stop:Nat->Hp->Prop
noncomputable def iH(X:Cx)(pins:List (Addr × Obj))(H:Hp)(b:Addr):Prop :=
 H b=none/\b≠X.env.locals/\b ∉ X.fs/\(b∈X.ex\/X.cK.heap.objs.size<=b)/\(∀x c,X.env.cells.lookup x=some c->c≠b)/\∀p∈X.pn++pins,p.1≠b
theorem Inv.yX{X:Cx}{pins:List (Addr × Obj)}{σ:St}{H H':Hp}{s:Shared}{b:Addr}(I:Inv X pins σ H s)(hb:s.heap.objs.size<=b)(hn:H' b=none):iH X pins H' b:=by
 refine⟨hn,yk (cT I.lt hb),I.RE hb,.inr (eH I.sz hb),λx c e z=>?_,λp hp z=>?_⟩
 ·obtain⟨v,q⟩:=I.cell x c e
  exact absurd (cT q.lt (by rw[z];exact hb)) (fw _)
 ·exact absurd (cT (bI (I.pin p hp).1) (by rw[z];exact hb)) (fw _)
structure Turn(P:Program)(w:World)(K:PySem.W.Frag)(tg:Expr)(J:It)(fp:List Addr)(it:Addr)(tn:Nat->Heap->Prop):Prop where
 mem:it∈fp
 obj:∀i h,tn i h->∀b∈fp,∃o,h.get? b=some o/\∀v,o.data≠.cell v
 keep:∀i h h',tn i h->(∀b∈fp,∀o,h.get? b=some o->h'.get? b=some o)->tn i h'
 item:∀(X:Cx),X.prog=P->X.w=w->X.K=K->X.calm=true->∀(i:Nat) (pins:List (Addr × Obj)) (s:Shared) (σ:St) (H:Hp) (E:Value->Shared->Prop),Inv X pins σ H s->(∀b∈fp,iH X pins H b)->tn i s.heap->J.go i H ->
  wpAny (model P w) X.A (pyNext (.ref it)) (λr s1=>∃u,r=some u /\
   wpAny (model P w) X.A (letOwnedTupleGo tg (.ref it) u) (λ_ s2=>∃x H',Inv X pins σ H' s2/\RelV x u/\J.jg i H x H'/\tn (i+1) s2.heap/\∀b∈fp,H' b=none) E s1) E s
 done:∀(X:Cx),X.prog=P->X.w=w->X.K=K->X.calm=true->∀(i:Nat) (pins:List (Addr × Obj)) (s:Shared) (σ:St) (H:Hp) (E:Value->Shared->Prop),Inv X pins σ H s->(∀b∈fp,iH X pins H b)->tn i s.heap->J.stop i H ->
  wpAny (model P w) X.A (pyNext (.ref it)) (λr s1=>r=none/\Inv X pins σ H s1) E s
 self:∀(A:Around) (i:Nat) (s:Shared) (Q:Value->Shared->Prop) (E:Value->Shared->Prop),tn i s.heap->Q (.ref it) s->wpAny (model P w) A (pyIter (.ref it)) Q E s
noncomputable abbrev TI:=St->Hp->(It->Hp->Prop)->Prop
noncomputable def RP(X:Cx)(pins:List (Addr × Obj))(σ:St)(tg:Expr)(R:It->Hp->Prop)(FR:Value)(s2:Shared):Prop :=
 ∃(it:Addr) (fp:List Addr) (tn:Nat->Heap->Prop) (J:It) (H':Hp),FR=.ref it/\Inv X pins σ H' s2/\Turn X.prog X.w X.K tg J fp it tn/\tn 0 s2.heap/\(∀b∈fp,iH X pins H' b)/\R J H'
noncomputable def PI(X:Cx)(tg iter:Expr)(wi:TI):Prop :=
 ∀(pins:List (Addr × Obj)) (s:Shared) (σ:St) (H:Hp) (R:It->Hp->Prop),Inv X pins σ H s->wi σ H R ->
  wpAny (model X.prog X.w) X.A (eval iter X.env) (λv s1=>wpAny (model X.prog X.w) X.A (pyIter v) (RP X pins σ tg R) X.xe s1) X.xe s
theorem FT{M:Model}{A:Around}{E:Value->Shared->Prop}{s:Shared}{tg:Expr}{it:Addr}{u:Value}{o:Obj}{n:String}{vs:Array Value}{Q:Unit->Shared->Prop}(ho:s.heap.get? it=some o)(hc:o.cls=.type n)(hd:o.data=.fields vs)
  (hn:["enumerate","zip","dict_itemiterator","dict_reverseitemiterator","odict_iterator","itertools.zip_longest","itertools.pairwise"].contains n=false) (hQ:Q () s):wpAny M A (letOwnedTupleGo tg (.ref it) u) Q E s:=by
 unfold letOwnedTupleGo
 cases tg<;>first
  | exact wpAny_pure hQ
  | (cases u<;>first
    | exact wpAny_pure hQ
    | (refine wpAny_bind (wpAny_load ho ?_)
       rw[hc,hd]
       show wpAny M A (if(["enumerate","zip","dict_itemiterator","dict_reverseitemiterator","odict_iterator","itertools.zip_longest","itertools.pairwise"].contains n&&vs[0]?==some (rawInt _))=true then _ else _) Q E s
       rw[if_neg (by intro h;rw[hn,uf]at h;cases h)]
       exact wpAny_pure hQ))
noncomputable def FU(K:PySem.W.Frag)(a:Addr):It :=
 ⟨λi H=>∃xs x,bK K H a xs/\xs[i]?=some x,λi H x H'=>H'=H/\∀xs,bK K H a xs->xs[i]?=some x,λi H=>∃xs,bK K H a xs/\xs.length<=i⟩
noncomputable def yY(lo:Int)(n:Nat):It:=⟨λi _=>i<n,λi H x H'=>H'=H/\x=.int (lo+i),λi _=>n<=i⟩
theorem ca1{P:Program}{w:World}{K:PySem.W.Frag}{tg:Expr}(a it:Addr):Turn P w K tg (FU K a) [it] it (λi h=>h.IsListIter it a i) where
 mem:=by simp
 obj:=λi h st b hb=>by
  have e:b=it:=by simpa using hb
  subst e
  obtain⟨o,e,c,d⟩:=st
  exact⟨o,e,λv z=>by rw[d]at z;cases z⟩
 keep:=λi h h' st k=>st.at λo e=>k it (by simp) o e
 item:=by
  intro X hP hw hK hc i pins s σ H E I hf st hg
  subst hP hw hK
  obtain⟨xs,x,hq,hx⟩:=hg
  obtain⟨its,rv,p,hz⟩:=I.list hq
  obtain⟨u,hu,ru⟩:=rv.get hx
  obtain⟨f0,f1,f2,f3,f4,f5⟩:=hf it (by simp)
  refine wpAny_pyNext_list_item st p.isList (x:=u) (by simpa using hu) λh' jJ sb=>?_
  have I1:Inv X pins σ H { s with heap:=h' }:=I.turned (t':=s.toks) (λb o hb e=>(sb.2 b hb).trans e) f0 f1 f3 f4 f5
  obtain⟨o,e,c,d⟩:=id jJ
  exact⟨u,rfl,FT (s:={ s with heap:=h' }) e c d (by decide) ⟨x,H,I1,ru,⟨rfl,λys hy=>by rw[I.yW hy hq];exact hx⟩,jJ,λb hb=>(hf b hb).1⟩⟩
 done:=by
  intro X hP hw hK hc i pins s σ H E I hf st hg
  subst hP hw hK
  obtain⟨xs,hq,hx⟩:=hg
  obtain⟨its,rv,p,hz⟩:=I.list hq
  obtain⟨f0,f1,f2,f3,f4,f5⟩:=hf it (by simp)
  have hl:=rv.length
  exact wpAny_pyNext_list_end (I.ok.hd hc) st p.isList (by simp;omega) λh' eb=>⟨rfl,I.turned (t':=s.toks) (λb o hb e=>eb b o hb e) f0 f1 f3 f4 f5⟩
 self:=λ_ _ _ _ _ st h=>wpAny_pyIter_listiter st h
theorem bZ1{P:Program}{w:World}{K:PySem.W.Frag}{tg:Expr}(it:Addr)(lo:Int)(n:Nat):Turn P w K tg (yY lo n) [it] it (λi h=>IsRangeIter h it (lo+(i:Nat)*1) ((n:Int)-(i:Nat)) 1) where
 mem:=by simp
 obj:=λi h st b hb=>by
  have e:b=it:=by simpa using hb
  subst e
  exact⟨_,st,λv z=>by
   have z':Data.fields _=Data.cell v:=z
   cases z'⟩
 keep:=λi h h' st k=>k it (by simp) _ st
 item:=by
  intro X hP hw hK hc i pins s σ H E I hf st hg
  subst hP hw hK
  obtain⟨f0,f1,f2,f3,f4,f5⟩:=hf it (by simp)
  have W:=Walks.range (prog:=X.prog) (w:=X.w) (I.ok.hd hc) it lo 1 n
  refine W.item i s _ _ hg st λv h' tk hv jJ kk=>?_
  obtain⟨t,rfl⟩:=hv
  have I1:Inv X pins σ H { s with heap:=h',toks:=tk }:=I.turned (λb o hb e=>kk b o (by simpa using hb) e) f0 f1 f3 f4 f5
  refine⟨_,rfl,FT (s:={ s with heap:=h',toks:=tk }) (n:="range_iterator") jJ rfl rfl (by decide) ⟨.int (lo+i),H,I1,⟨t,?_⟩,⟨rfl,rfl⟩,jJ,λb hb=>(hf b hb).1⟩⟩
  rw[Int.mul_one]
 done:=by
  intro X hP hw hK hc i pins s σ H E I hf st hg
  subst hP hw hK
  obtain⟨f0,f1,f2,f3,f4,f5⟩:=hf it (by simp)
  exact wpAny_pyNext_range_end (I.ok.hd hc) st (by have:n<=i:=hg;omega) λh' eb=>⟨rfl,I.turned (t':=s.toks) (λb o hb e=>eb b o hb e) f0 f1 f3 f4 f5⟩
 self:=λ_ _ _ _ _ st h=>wpAny_pyIter_rangeiter st h
end L2
namespace L2
open PySem PySem.Spec PyProof.Rows
section
variable{X:Cx}{tg:Expr}
noncomputable def cZ0(K:PySem.W.Frag)(tl:TE):TI:=λσ H R=>tl σ H λx H1=>∃a,x=.ref a/\(∃xs,bK K H1 a xs)/\R (FU K a) H1
theorem RQ{l:Expr}{tl:TE}(hl:PE X l tl):PI X tg l (cZ0 X.K tl):=by
 intro pins s σ H R I h
 refine aP (hl pins s σ H _ I h) λv s1 ⟨x,H1,I1,r1,q1⟩=>?_
 obtain⟨a,e,⟨xs,hq⟩,q⟩:=q1
 subst e
 cases r1
 obtain⟨its,rv,p,hz⟩:=I1.list hq
 refine wpAny_pyIter_list p.isList ?_
 refine⟨s1.heap.objs.size,[s1.heap.objs.size],_,_,H1,rfl,I1.kept (t':=s1.toks) λb o e=>eF _ e,ca1 a _,⟨_,fO _ rfl,rfl,rfl⟩,λb hb=>?_,q⟩
 have e:b=s1.heap.objs.size:=by simpa using hb
 subst e
 exact I1.yX (bJ _) (I1.aG.fresh (bJ _))
theorem RU{pins:List (Addr × Obj)}{σ:St}{H:Hp}{s:Shared}{R:It->Hp->Prop}{E:Value->Shared->Prop}{lo hi:Int}{t u v:Tok}{tk:Nat}(I:Inv X pins σ H s)(h1:-(2 ^ 62)<=lo)(h2:lo<2 ^ 62)(h3:-(2 ^ 62)<=hi)(h4:hi<2 ^ 62)
  (q:R (yY lo (hi-lo).toNat) H):wpAny (model X.prog X.w) X.A (pyIter (.ref s.heap.objs.size)) (RP X pins σ tg R) E { s with heap:=s.heap.push { cls:=.type "range",data:=.fields #[.int lo t,.int hi u,.int 1 v] },toks:=tk }:=by
 refine wpAny_pyIter_range (IsRange.new ..) (small_one h1 h2 h3 h4) ?_
 have I1:Inv X pins σ H { s with heap:=s.heap.push { cls:=.type "range",data:=.fields #[.int lo t,.int hi u,.int 1 v] },toks:=tk }:=I.kept λb o e=>eF _ e
 refine⟨(s.heap.push { cls:=.type "range",data:=.fields #[.int lo t,.int hi u,.int 1 v] }).objs.size,[(s.heap.push { cls:=.type "range",data:=.fields #[.int lo t,.int hi u,.int 1 v] }).objs.size],_,_,H,rfl,
  I1.kept (t':=tk) λb o e=>eF _ e,bZ1 _ lo (hi-lo).toNat,?_,λb hb=>?_,q⟩
 ·have e1:lo+((0:Nat):Int)*1=lo:=by simp
  have e2:(((hi-lo).toNat:Nat):Int)-((0:Nat):Int)=Builtin.Range.rangeSize lo hi 1:=by rw[rangeSize_one];split<;>omega
  show IsRangeIter _ _ (lo+((0:Nat):Int)*1) ((((hi-lo).toNat:Nat):Int)-((0:Nat):Int)) 1
  rw[e1,e2]
  exact fO _ rfl
 ·have e:b=(s.heap.push { cls:=.type "range",data:=.fields #[.int lo t,.int hi u,.int 1 v] }).objs.size:=by simpa using hb
  subst e
  exact I1.yX (bJ _) (I1.aG.fresh (bJ _))
noncomputable def cW9(ta:TA):TI:=λσ H R=>ta σ H λvs H1=>∃j:Int,vs=[.int j]/\-(2 ^ 62)<=j/\j<2 ^ 62/\R (yY 0 j.toNat) H1
noncomputable def c04(ta:TA):TI:=λσ H R=>ta σ H λvs H1=>∃i j:Int,vs=[.int i,.int j]/\(-(2 ^ 62)<=i/\i<2 ^ 62/\-(2 ^ 62)<=j/\j<2 ^ 62)/\R (yY i (j-i).toNat) H1
theorem cb2{a:Expr}{ta:TA}{p pos:Pos}(hg:Gl X "range")(hm:X.mg "range"=none)(ha:PA X [a] ta)(hs:starEach [a] X.env=[(false,eval a X.env)]:=by rfl):PI X tg (.Call (.Name "range" p) [a] [] pos) (cW9 ta):=by
 intro pins s σ H R I h
 refine Call_ (lC I hg hm boot_range (qF (aP (ha pos pins s σ H _ I h) λus s1 ⟨vs,H1,I1,r1,q1⟩=>?_) hs rfl))
 obtain⟨j,e,q1,q2,q⟩:=q1
 subst e
 cases r1 with
 | cons r rr =>
  cases rr
  obtain⟨t,rfl⟩:=r
  exact call_range_1 (RU I1 (by omega) (by omega) q1 q2 (by simpa using q))
theorem ce8{a b:Expr}{ta:TA}{p pos:Pos}(hg:Gl X "range")(hm:X.mg "range"=none)(ha:PA X [a,b] ta)(hs:starEach [a,b] X.env=[(false,eval a X.env),(false,eval b X.env)]:=by rfl)(gk:starEach [b] X.env=[(false,eval b X.env)]:=by rfl) :
  PI X tg (.Call (.Name "range" p) [a,b] [] pos) (c04 ta):=by
 intro pins s σ H R I h
 refine Call_ (lC I hg hm boot_range (qF (aP (ha pos pins s σ H _ I h) λus s1 ⟨vs,H1,I1,r1,q1⟩=>?_) (by rw[hs,gk]) (by rw[gk];rfl)))
 obtain⟨i,j,e,⟨q1,q2,q3,q4⟩,q⟩:=q1
 subst e
 cases r1 with
 | cons r rr =>
  cases rr with
  | cons r' rr =>
   cases rr
   obtain⟨t,rfl⟩:=r
   obtain⟨t',rfl⟩:=r'
   exact call_range_2 (RU I1 q1 q2 q3 q4 q)
noncomputable def c85(wi:TI)(g:TG)(tb:TS):TS:=λD σ H=>wi σ H λJ H1=>∃W:Nat->Nat->St->Hp->Prop,(∃m,W 0 m σ H1)/\∀i m σ H,W i m σ H ->
 (J.stop i H/\D.nx σ H)\/(J.go i H/\∃N:St->Hp->Prop,(∀aF H',N aF H'->∃m',m'<m/\W (i+1) m' aF H')/\∀x H',J.jg i H x H'->g x σ H' λlF H2=>tb { D with nx:=N,ct:=N,bk:=D.nx } lF H2)
noncomputable def yZ(fp:List Addr)(h:Heap):List (Addr × Obj):=fp.filterMap λb=>(h.get? b).map λo=>(b,o)
theorem BZ{fp:List Addr}{h:Heap}{b:Addr}{o:Obj}(hb:b∈fp)(e:h.get? b=some o):(b,o)∈yZ fp h:=df4.mpr ⟨b,hb,by rw[e];rfl⟩
theorem b80{fp:List Addr}{h:Heap}{p:Addr × Obj}(hp:p∈yZ fp h):p.1∈fp/\h.get? p.1=some p.2:=by
 obtain⟨b,hb,e⟩:=df4.mp hp
 cases q:h.get? b with
 | none=>rw[q]at e;cases e
 | some o =>
  rw[q]at e
  have e':(b,o)=p:=cN e
  subst e'
  exact⟨hb,q⟩
theorem Inv.pinned{pins:List (Addr × Obj)}{σ:St}{H:Hp}{s:Shared}{fp:List Addr}(I:Inv X pins σ H s)(hf:∀b∈fp,iH X pins H b)(ho:∀b∈fp,∃o,s.heap.get? b=some o/\∀v,o.data≠.cell v):Inv X (pins++yZ fp s.heap) σ H s :=
 I.RF λp hp=>(cw.mp hp).elim (λz=>I.pin p (fA _ z)) λz=>by
  obtain⟨hb,e⟩:=b80 z
  obtain⟨f0,f1,f2,_⟩:=hf p.1 hb
  obtain⟨o,e',d⟩:=ho p.1 hb
  rw[e]at e';cases e'
  exact⟨e,f0,f1,f2,d⟩
theorem Inv.y0{pins pl:List (Addr × Obj)}{σ:St}{H:Hp}{s:Shared}(I:Inv X (pins++pl) σ H s):Inv X pins σ H s:=I.RF λp hp=>I.pin p (fA _ (gO _ hp))
theorem cP8{iter:Expr}{body:List Stmt}{wi:TI}{g:TG}{tb:TS}{pos:Pos}(hp:PassesOwn (model X.prog X.w) X.A X.env X.xe)(hc:X.calm=true)(hi:PI X tg iter wi)(hg:PG X tg g)(hb:PSs X body tb)
  (hs:∀x,foldedSetIterable iter X.env x=pure x:=by intro _;rfl):PS X (.For tg iter body [] pos) (c85 wi g tb):=by
 intro pins s σ H D I h
 refine wpAny_For (aP (hi pins s σ H _ I h) λv s1 h1=>aP h1 λFR s2 h2=>?_) hs
 obtain⟨it,fp,tn,J,H2,e,I2,T,jK,f2,W,⟨m0,w0⟩,turn⟩:=h2
 subst e
 have FV:∀{H':Hp},(∀b∈fp,H' b=none)->∀b∈fp,iH X pins H' b:=λhn b hb=>⟨hn b hb,(f2 b hb).2⟩
 refine codeAny_forLoop_any (λn s'=>∃i aF H',Inv X pins aF H' s'/\tn i s'.heap/\(∀b∈fp,H' b=none)/\W i n aF H') ?_ m0 ⟨0,σ,H2,I2,jK,λb hb=>(f2 b hb).1,w0⟩
 rintro n s3 ⟨i,ke,H3,I3,y6,RV,w3⟩
 rcases turn i n ke H3 w3 with⟨stop,qn⟩ | ⟨go,N,hN,step⟩
 ·refine wpAny_passesOwn hp (aP (T.done X rfl rfl rfl hc i pins s3 ke H3 X.xe I3 (FV RV) y6 stop) λr s4 ⟨hr,I4⟩=>?_)
  subst hr
  exact wpAny_execs_nil ⟨ke,H3,I4,qn⟩
 ·refine wpAny_passesOwn hp (aP (T.item X rfl rfl rfl hc i pins s3 ke H3 X.xe I3 (FV RV) y6 go) λr s4 ⟨u,hr,h4⟩=>?_)
  subst hr
  refine wpAny_passesOwn hp (aP h4 λ_ s5 ⟨x,H5,I5,r5,y5,qV,FW⟩=>?_)
  have FX:=I5.pinned (FV FW) (T.obj _ _ qV)
  refine wpAny_passesOwn hp (aP (hg _ s5 ke H5 x u _ FX r5 (step x H5 y5)) λ_ s6 ⟨FY,H6,I6,q6⟩=>?_)
  refine wpAny_passesOwn hp (aP (hb _ s6 FY H6 _ I6 q6) λf s7 q7=>?_)
  have again:∀{kg:St} {H7:Hp},Inv X (pins++yZ fp s5.heap) kg H7 s7->N kg H7->∃m,m<n/\∃i aF H',Inv X pins aF H' s7/\tn i s7.heap/\(∀b∈fp,H' b=none)/\W i m aF H':=λ{kg H7} I7 n7=>by
   obtain⟨m',hm,w7⟩:=hN kg H7 n7
   refine⟨m',hm,i+1,kg,H7,I7.y0,T.keep _ _ _ qV λb hb o e=>(I7.pin (b,o) (fA _ (fA _ (BZ hb e)))).1,λb hb=>?_,w7⟩
   obtain⟨o,e,d⟩:=T.obj _ _ qV b hb
   exact(I7.pin (b,o) (fA _ (fA _ (BZ hb e)))).2.1
  cases f with
  | next=>obtain⟨kg,H7,I7,n7⟩:=q7;exact again I7 n7
  | cont=>obtain⟨kg,H7,I7,n7⟩:=q7;exact again I7 n7
  | brk=>obtain⟨kg,H7,I7,q7⟩:=q7;exact⟨kg,H7,I7.y0,q7⟩
  | ret v=>obtain⟨x7,kg,H7,I7,r7,q7⟩:=q7;exact⟨x7,kg,H7,I7.y0,r7,q7⟩
end
end L2
namespace L2
open PySem PySem.Spec PyProof.Rows
noncomputable abbrev R2:=V->V->Hp->VK->Prop
noncomputable def cB(X:Cx)(f:Value->Value->Sem Value)(r:R2):Prop :=
 ∀(pins:List (Addr × Obj)) (s:Shared) (σ:St) (H:Hp) (x y:V) (v u:Value) (Q:VK),Inv X pins σ H s->RelV x v->RelV y u->r x y H Q ->
  wpAny (model X.prog X.w) X.A (f v u) (EP X pins σ Q) X.xe s
noncomputable def FZ(X:Cx)(f:Value->Sem Value)(r:V->Hp->VK->Prop):Prop :=
 ∀(pins:List (Addr × Obj)) (s:Shared) (σ:St) (H:Hp) (x:V) (v:Value) (Q:VK),Inv X pins σ H s->RelV x v->r x H Q ->
  wpAny (model X.prog X.w) X.A (f v) (EP X pins σ Q) X.xe s
noncomputable def gq(X:Cx)(f:Value)(r:List V->Hp->VK->Prop):Prop :=
 ∀(pins:List (Addr × Obj)) (s:Shared) (σ:St) (H:Hp) (xs:List V) (us:List Value) (Q:VK),Inv X pins σ H s->Vals xs us->r xs H Q ->
  wpAny (model X.prog X.w) X.A (call f us) (EP X pins σ Q) X.xe s
noncomputable def y7(r:R2)(ta tb:TE):TE:=λσ H Q=>ta σ H λx H1=>tb σ H1 λy H2=>r x y H2 Q
noncomputable def tUn(r:V->Hp->VK->Prop)(ta:TE):TE:=λσ H Q=>ta σ H λx H1=>r x H1 Q
noncomputable def rI(C:Int->Int->Prop)(g:Int->Int->V):R2:=λx y H Q=>∃i j,x=.int i/\y=.int j/\C i j/\Q (g i j) H
noncomputable def iJ(g:Int->Int->V):R2:=λx y H Q=>∃i j,x=.int i/\y=.int j/\Q (g i j) H
noncomputable def rU(g:Int->V):V->Hp->VK->Prop:=λx H Q=>∃i,x=.int i/\Q (g i) H
section
variable{X:Cx}{a b c:Expr}{ta tb tc:TE}{pos:Pos}
theorem Ga(ha:PE X a ta)(hb:PE X b tb){pins:List (Addr × Obj)}{s:Shared}{σ:St}{H:Hp}{R:V->V->Hp->Prop}(I:Inv X pins σ H s)
  (h:ta σ H λx H1=>tb σ H1 λy H2=>R x y H2) {Q:Value->Shared->Prop} {f:Value->Value->Sem Value}
  (hf:∀v u s2 x y H2,Inv X pins σ H2 s2->RelV x v->RelV y u->R x y H2->wpAny (model X.prog X.w) X.A (f v u) Q X.xe s2) :
  wpAny (model X.prog X.w) X.A (eval a X.env) (λv bF=>wpAny (model X.prog X.w) X.A (eval b X.env) (λu kb=>wpAny (model X.prog X.w) X.A (f v u) Q X.xe kb) X.xe bF) X.xe s:=by
 refine aP (ha pins s σ H _ I h) λv s1 ⟨x,H1,I1,r1,q1⟩=>?_
 refine aP (hb pins s1 σ H1 _ I1 q1) λu s2 ⟨y,H2,I2,r2,q2⟩=>?_
 exact hf v u s2 x y H2 I2 r1 r2 q2
theorem y8{op:Operator}{r:R2}(ho:cB X (binaryOp op) r)(ha:PE X a ta)(hb:PE X b tb):PE X (.BinOp a op b pos) (y7 r ta tb):=by
 intro pins s σ H Q I h
 exact wpAny_BinOp (Ga ha hb I h λv u s2 x y H2 I2 rx ry q=>ho pins s2 σ H2 x y v u Q I2 rx ry q)
theorem cZ1{op:UnaryOp}{r:V->Hp->VK->Prop}(ho:FZ X (unaryOp op) r)(ha:PE X a ta):PE X (.UnaryOp op a pos) (tUn r ta):=by
 intro pins s σ H Q I h
 exact UnaryOp_ (aP (ha pins s σ H _ I h) λv s1 ⟨x,H1,I1,r1,q1⟩=>ho pins s1 σ H1 x v Q I1 r1 q1)
theorem y9{f:Value->Value->Sem Value}{C:Int->Int->Prop}{g:Int->Int->Int}
  (rule:∀(i j:Int) (t u:Tok) (s:Shared) (Q:Value->Shared->Prop) (E:Value->Shared->Prop),C i j->Q (.int (g i j) s.toks) { s with toks:=s.toks+1 }->wpAny (model X.prog X.w) X.A (f (.int i t) (.int j u)) Q E s) :
  cB X f (rI C λi j=>.int (g i j)):=by
 intro pins s σ H x y v u Q I rx ry h
 obtain⟨i,j,rfl,rfl,hc,q⟩:=h
 obtain⟨t,rfl⟩:=rx
 obtain⟨t',rfl⟩:=ry
 exact rule i j t t' s _ _ hc ⟨.int (g i j),H,I.tok _,⟨_,rfl⟩,q⟩
theorem qW{f:Value->Value->Sem Value}{g:Int->Int->Int}
  (rule:∀(i j:Int) (t u:Tok) (s:Shared) (Q:Value->Shared->Prop) (E:Value->Shared->Prop),Q (.int (g i j) s.toks) { s with toks:=s.toks+1 }->wpAny (model X.prog X.w) X.A (f (.int i t) (.int j u)) Q E s) :
  cB X f (iJ λi j=>.int (g i j)):=by
 intro pins s σ H x y v u Q I rx ry h
 obtain⟨i,j,rfl,rfl,q⟩:=h
 obtain⟨t,rfl⟩:=rx
 obtain⟨t',rfl⟩:=ry
 exact rule i j t t' s _ _ ⟨.int (g i j),H,I.tok _,⟨_,rfl⟩,q⟩
theorem B0{f:Value->Value->Sem Value}{g:Int->Int->Bool}
  (rule:∀(i j:Int) (t u:Tok) (s:Shared) (Q:Value->Shared->Prop) (E:Value->Shared->Prop),Q (.bool (g i j)) s->wpAny (model X.prog X.w) X.A (f (.int i t) (.int j u)) Q E s) :
  cB X f (iJ λi j=>.bl (g i j)):=by
 intro pins s σ H x y v u Q I rx ry h
 obtain⟨i,j,rfl,rfl,q⟩:=h
 obtain⟨t,rfl⟩:=rx
 obtain⟨t',rfl⟩:=ry
 exact rule i j t t' s _ _ ⟨.bl (g i j),H,I,rfl,q⟩
noncomputable def ig(i j:Int):Prop:=(-(2 ^ 64)<i/\i<2 ^ 64)\/(-(2 ^ 64)<j/\j<2 ^ 64)
theorem ig.ok{i j:Int}(h:ig i j):IntMulOk i j:=by
 rcases h with⟨h1,h2⟩ | ⟨h1,h2⟩
 ·exact .of_left (intBits_le_64 h1 h2)
 ·exact .of_right (intBits_le_64 h1 h2)
theorem bZ0(k:Nat):(0:Int)<=2 ^ k:=by
 rw[two_pow_cast]
 exact QV _
theorem cO9:cB X (binaryOp .Add) (iJ λi j=>.int (i+j)):=qW λ_ _ _ _ _ _ _ q=>add_int q
theorem Gb:cB X (binaryOp .Sub) (iJ λi j=>.int (i-j)):=qW λ_ _ _ _ _ _ _ q=>sub_int q
theorem cR6:cB X (binaryOp .Mod) (rI (λ_ j=>0<j) λi j=>.int (i%j)):=y9 λi j _ _ _ _ _ hc q=>by
 have h1:(0:Int)<j:=hc
 exact mod_int' (by omega) (by rw[Int.fmod_eq_emod_of_nonneg i (by omega)];exact q)
theorem cS8:cB X (binaryOp .RShift) (rI (λ_ j=>0<=j) λi j=>.int (i/2 ^ j.toNat)):=y9 λi j _ _ _ _ _ hc q =>
 rshift_int hc (by rw[df5 i (bZ0 _)];exact q)
theorem cR2:cB X (binaryOp .BitAnd) (iJ λi j=>.int (om i j)):=qW λ_ _ _ _ _ _ _ q=>and_int q
theorem cQ0:cB X (binaryOp .BitXor) (iJ λi j=>.int (oo i j)):=qW λ_ _ _ _ _ _ _ q=>xor_int q
theorem cD7:cB X (inplaceOp .Add) (iJ λi j=>.int (i+j)):=qW λ_ _ _ _ _ _ _ q=>iadd_int q
theorem cI4:cB X (inplaceOp .Sub) (iJ λi j=>.int (i-j)):=qW λ_ _ _ _ _ _ _ q=>isub_int q
theorem cH7:cB X (inplaceOp .BitXor) (iJ λi j=>.int (oo i j)):=qW λ_ _ _ _ _ _ _ q=>ixor_int q
theorem unI{f:Value->Sem Value}{g:Int->Int}
  (rule:∀(i:Int) (t:Tok) (s:Shared) (Q:Value->Shared->Prop) (E:Value->Shared->Prop),Q (.int (g i) s.toks) { s with toks:=s.toks+1 }->wpAny (model X.prog X.w) X.A (f (.int i t)) Q E s) :
  FZ X f (rU λi=>.int (g i)):=by
 intro pins s σ H x v Q I rx h
 obtain⟨i,rfl,q⟩:=h
 obtain⟨t,rfl⟩:=rx
 exact rule i t s _ _ ⟨.int (g i),H,I.tok _,⟨_,rfl⟩,q⟩
theorem cM6:FZ X (unaryOp .USub) (rU λi=>.int (-i)):=unI λ_ _ _ _ _ q=>neg_int q
end
section
variable{X:Cx}{a b c:Expr}{ta tb tc:TE}{pos:Pos}
theorem RW{pins:List (Addr × Obj)}{σ:St}{H:Hp}{s:Shared}{Q:VK}{k k':Bool}(I:Inv X pins σ H s)(q:Q (.bl k) H)(e:k=k'):EP X pins σ Q (.bool k') s:=by
 subst e
 exact⟨.bl k,H,I,rfl,q⟩
theorem cY7:cB X (compareOp .Lt) (iJ λi j=>.bl (decide (i<j))):=B0 λ_ _ _ _ _ _ _ q=>lt_int q
theorem cX2:cB X (compareOp .LtE) (iJ λi j=>.bl (decide (i<=j))):=B0 λ_ _ _ _ _ _ _ q=>le_int q
theorem cV7:cB X (compareOp .Gt) (iJ λi j=>.bl (decide (j<i))):=B0 λ_ _ _ _ _ _ _ q=>gt_int q
theorem cY0:cB X (compareOp .GtE) (iJ λi j=>.bl (decide (j<=i))):=B0 λ_ _ _ _ _ _ _ q=>ge_int q
theorem cT3:cB X (compareOp .Is) (λx y H Q=>y=.aw/\Q (.bl (decide (x=.aw))) H):=by
 intro pins s σ H x y v u Q I rx ry h
 obtain⟨rfl,q⟩:=h
 cases ry
 refine is_none_gen (RW I q ?_)
 cases x<;>first
  | (cases rx;rfl)
  | (obtain⟨t,rfl⟩:=rx;rfl)
theorem cz5:cB X (compareOp .IsNot) (λx y H Q=>y=.aw/\Q (.bl (!decide (x=.aw))) H):=by
 intro pins s σ H x y v u Q I rx ry h
 obtain⟨rfl,q⟩:=h
 cases ry
 refine isnot_none_gen (RW I q ?_)
 cases x<;>first
  | (cases rx;rfl)
  | (obtain⟨t,rfl⟩:=rx;rfl)
theorem cB.or{f:Value->Value->Sem Value}{r r':R2}(h:cB X f r)(h':cB X f r'):cB X f (λx y H Q=>r x y H Q\/r' x y H Q):=by
 intro pins s σ H x y v u Q I rx ry q
 rcases q with q | q
 ·exact h pins s σ H x y v u Q I rx ry q
 ·exact h' pins s σ H x y v u Q I rx ry q
theorem bE(b:Expr){op:CmpOp}(h:op≠.In:=by decide)(h2:op≠.NotIn:=by decide):behindInMarks op b=false:=by
 have e1:(op==CmpOp.In)=false:=by cases op<;>first | rfl | exact absurd rfl h
 have e2:(op==CmpOp.NotIn)=false:=by cases op<;>first | rfl | exact absurd rfl h2
 cases b<;>simp[behindInMarks,e1,e2]
theorem cz4{op:CmpOp}{r:R2}(ho:cB X (compareOp op) r)(ha:PE X a ta)(hb:PE X b tb)(hm:behindInMarks op b=false):PE X (.Compare a [op] [b] pos) (y7 r ta tb):=by
 intro pins s σ H Q I h
 exact wpAny_Compare1 (Ga ha hb I h λv u s2 x y H2 I2 rx ry q=>ho pins s2 σ H2 x y v u Q I2 rx ry q) hm
noncomputable def RX(t:TE):TT:=λσ H Q=>t σ H λx H'=>∃k,x=.bl k/\Q k H'
theorem cB6{op:CmpOp}{r:R2}(ho:cB X (compareOp op) r)(ha:PE X a ta)(hb:PE X b tb)(hm:behindInMarks op b=false):PT X (.Compare a [op] [b] pos) (RX (y7 r ta tb)):=by
 intro pins s σ H Q I h
 refine wpAny_isTrue_Compare1 (aP (ha pins s σ H _ I h) λv s1 ⟨x,H1,I1,r1,q1⟩=>aP (hb pins s1 σ H1 _ I1 q1) λu s2 ⟨y,H2,I2,r2,q2⟩ =>
  aP (ho pins s2 σ H2 x y v u _ I2 r1 r2 q2) λc s3 ⟨z,H3,I3,r3,k,e,q3⟩=>?_) hm
 subst e
 cases r3
 exact wpAny_truthy_bool ⟨H3,I3,q3⟩
noncomputable def RY(r r':R2)(ta tb tc:TE):TE:=λσ H Q=>ta σ H λx H1=>tb σ H1 λy H2=>r x y H2 λz H3=>∃k,z=.bl k /\
 (if k=true then tc σ H3 λw' H4=>r' y w' H4 Q else Q (.bl false) H3)
theorem cp3{op qX:CmpOp}{r r':R2}(ho:cB X (compareOp op) r)(j9:cB X (compareOp qX) r')(ha:PE X a ta)(hb:PE X b tb)(hc:PE X c tc)
  (hm:lastMarks [op,qX] [b,c]=false:=by with_unfolding_all rfl):PE X (.Compare a [op,qX] [b,c] pos) (RY r r' ta tb tc):=by
 intro pins s σ H Q I h
 refine Compare_chain (aP (ha pins s σ H _ I h) λv s1 ⟨x,H1,I1,r1,q1⟩=>chain_link (aP (hb pins s1 σ H1 _ I1 q1) λu s2 ⟨y,H2,I2,r2,q2⟩ =>
  aP (ho pins s2 σ H2 x y v u _ I2 r1 r2 q2) λd s3 ⟨z,H3,I3,r3,k,e,q3⟩=>?_)) hm
 subst e
 cases r3
 refine wpAny_truthy_bool ?_
 cases k with
 | false=>exact ite_ff ⟨.bl false,H3,I3,rfl,q3⟩
 | true=>exact ite_tt (chain_last (aP (hc pins s3 σ H3 _ I3 q3) λw' s4 ⟨z',H4,I4,r4,q4⟩=>j9 pins s4 σ H4 y z' u w' Q I4 r2 r4 q4))
theorem uM:(sizeLine:Nat)<2 ^ 63:=by rw[sizeLine_eq];decide
theorem bY0:cB X (binaryOp .Add) (λx y H Q=>∃i j,x=.str i/\y=.str j/\i.length+j.length<=sizeLine/\Q (.str (i++j)) H):=by
 intro pins s σ H x y v u Q I rx ry h
 obtain⟨i,j,rfl,rfl,hz,q⟩:=h
 obtain⟨t,rfl⟩:=rx
 obtain⟨t',rfl⟩:=ry
 exact add_str (λt' tk=>⟨.str (i++j),H,I.tok _,⟨_,rfl⟩,q⟩) hz
theorem Gd{x:V}{us:List Value}(r:Vals [x] us):∃u,us=[u]/\RelV x u:=by
 cases r with
 | cons r1 r2=>cases r2;exact⟨_,rfl,r1⟩
theorem RZ{x y:V}{us:List Value}(r:Vals [x,y] us):∃u w',us=[u,w']/\RelV x u/\RelV y w':=by
 cases r with
 | cons r1 r2 =>
  cases r2 with
  | cons r3 r4=>cases r4;exact⟨_,_,rfl,r1,r3⟩
theorem cc3(hc:X.calm=true):gq X (.builtin "max") (λxs H Q=>∃i j,xs=[.int i,.int j]/\Q (.int (if j>i then j else i)) H):=by
 intro pins s σ H xs us Q I r h
 obtain⟨i,j,rfl,q⟩:=h
 obtain⟨u,w',rfl,⟨t,rfl⟩,⟨t',rfl⟩⟩:=RZ r
 refine max_two_ints (I.ok.hd hc) λh' tk k=>⟨_,H,I.kept k,?_,q⟩
 by_cases hj:j>i
 ·rw[if_pos hj,if_pos hj];exact⟨_,rfl⟩
 ·rw[if_neg hj,if_neg hj];exact⟨_,rfl⟩
theorem b88(hc:X.calm=true):gq X (.builtin "min") (λxs H Q=>∃i j,xs=[.int i,.int j]/\Q (.int (if j<i then j else i)) H):=by
 intro pins s σ H xs us Q I r h
 obtain⟨i,j,rfl,q⟩:=h
 obtain⟨u,w',rfl,⟨t,rfl⟩,⟨t',rfl⟩⟩:=RZ r
 refine min_two_ints (I.ok.hd hc) λh' tk k=>⟨_,H,I.kept k,?_,q⟩
 by_cases hj:j<i
 ·rw[if_pos hj,if_pos hj];exact⟨_,rfl⟩
 ·rw[if_neg hj,if_neg hj];exact⟨_,rfl⟩
end
end L2
namespace L2
open PySem PySem.Spec PyProof.Rows
structure qY(h:Heap)(x dx C:Addr)(mA:Str->Option Value):Prop where
 obj:h.get? x=some (PySem.W.instObj C dx)
 ns:h.Ns1 dx mA
 ne:dx≠x
theorem ci2{h:Heap}{dx:Addr}{mA:Str->Option Value}(n:h.Ns1 dx mA):∃od,h.get? dx=some od/\∀name,PySem.W.lookIn name od=some (mA name):=by
 obtain⟨o,es,ep,ho,hd,hk,_,hm⟩:=n
 refine⟨o,ho,λname=>?_⟩
 have e:=hm name
 unfold nsFind findBy at e
 rw[<-Array.find?_toList]at e
 unfold PySem.W.lookIn
 rw[hd]
 dsimp only
 split
 ·rename_i y q
  rw[q]at e
  exact congrArg some e
 ·rename_i q
  rw[q]at e
  have a:es.toList.any (·.refKey)=false:=by
   rw[List.any_eq_false]
   intro y hy
   obtain⟨z,t,ds0⟩:=hk y (Array.mem_toList_iff.mp hy)
   simp[DictEntry.refKey,ds0]
  have a':¬ es.toList.any (·.refKey)=true:=by rw[a];exact fN
  rw[if_neg a']
  exact congrArg some e
theorem qY.look{h:Heap}{x dx C:Addr}{mA:Str->Option Value}(I:qY h x dx C mA):∃od,PySem.W.InstAt h x (PySem.W.instObj C dx) C (some od)/\∀name,PySem.W.lookIn name od=some (mA name) :=
 let⟨od,ho,hl⟩:=ci2 I.ns
 ⟨od,⟨I.obj,rfl,rfl,ho⟩,hl⟩
section
variable{prog:Program}{w:World}{A:Around}{E:Value->Shared->Prop}{s:Shared}{K:PySem.W.Frag}{x dx C f:Addr}{mA:Str->Option Value}{name:Str}{v:Value}
theorem cB9{expr:Bool}{Q:Value->Shared->Prop}(X:K.In s.heap)(I:qY s.heap x dx C mA)(hg:PySem.W.plainGet K C name=true)(hh:PySem.W.hasDictIn K C=true)
  (ha:PySem.W.findIn K (.ref C) name=some none) (hv:mA name=some v) (hv':PySem.W.handedIn v=true) (h:Q v { s with toks:=s.toks+1 }) :
  wpAny (model prog w) A (getAttr (.ref x) name expr) Q E s:=by
 obtain⟨od,J,hl⟩:=I.look
 exact PySem.W.get_value X J (PySem.W.plainGet_of hg).1 (PySem.W.findObj_own hh ha rfl (by rw[hl,hv])) hv' h
theorem cm5{pl:Sem Bool}{Q:Value × List Value->Shared->Prop}(X:K.In s.heap)(I:qY s.heap x dx C mA)(hg:PySem.W.plainGet K C name=true)
  (hf:PySem.W.findIn K (.ref C) name=some (some (.ref f))) (ht:PySem.W.isFn K (.ref f)=true) (hv:mA name=none) (h:Q (.ref f,[.ref x]) s) :
  wpAny (model prog w) A (getMethod (.ref x) name pl) Q E s:=by
 obtain⟨od,J,hl⟩:=I.look
 exact PySem.W.method_fn X J (PySem.W.plainGet_of hg).1 (PySem.W.plainGet_of hg).2 hf (beq_iff_eq.mp ht) (by show(PySem.W.lookIn name od).map (·.isSome)=some false;rw[hl,hv];rfl) h
theorem cH1{ns:List Str}{Q:Unit->Shared->Prop}(X:K.In s.heap)(I:qY s.heap x dx C mA)
  (hs:PySem.W.findIn K (.ref C) "__setattr__"=some (some (.builtin "object.__setattr__"))) (hp:PySem.W.plainOver K C=true) (ht:PySem.W.takerIn K C name=some none) (hh:PySem.W.hasDictIn K C=true)
  (hw:PySem.Within mA ns) (lH:ns.length<=sizeLine)
  (h:∀h',qY h' x dx C (λy=>if y=name then some v else mA y)->Heap.SameBut dx s.heap h'->Q () { s with heap:=h',toks:=s.toks+2 }) :
  wpAny (model prog w) A (setAttr (.ref x) name v) Q E s:=by
 obtain⟨od,J,hl⟩:=I.look
 refine PySem.W.set_plain X J hs (PySem.W.osa_open (s:={ s with toks:=s.toks+1 }) (r:=none) X J hp ht λb=>?_)
 obtain⟨cd,hc,yQ⟩:=PySem.W.any_some hh
 have hx:s.heap.get? x=some ⟨.ref C,some dx,.plain,#[]⟩:=I.obj
 refine wpAny_bind (wpAny_pure (wpAny_bind (wpAny_bind (wpAny_loadPart hx (wpAny_bind (PySem.W.Looks.here (s:={ s with toks:=s.toks+1 }) (PySem.W.looks_clsIn X hc) ?_))))))
 rw[yQ]
 refine wpAny_pure (a:=some dx) (wpAny_bind (wpAny_pure (wpAny_bind ?_)))
 refine wpAny_nsSet1 (s:={ s with toks:=s.toks+1 }) I.ns λh' B3 gk=>?_
 obtain⟨oD,esD,epD,hoD,hdD,hcD⟩:=B3.count (PySem.Within.cons name v hw)
 refine wpAny_bind (wpAny_lookBehind hoD (by rw[hdD];exact pastItsLine_dict (eH hcD (by rw[eJ];omega))) ?_)
 exact wpAny_pure (h _ ⟨(gk.2 _ (fg I.ne)).trans I.obj,B3,I.ne⟩ gk)
theorem cq4{R:Result->Shared->Prop}{vs:List Value}{kw:List (Str × Value)}(X:K.In s.heap)(hm:PySem.W.makesIn K C=true)
  (hi:PySem.W.findIn K (.ref C) "__init__"=some (some (.ref f))) (hf:PySem.W.typeIn K (.ref f)=some (.type "function"))
  (h:codeAny (model prog w) (A.under (.builtin "type.__call__" ⟨.ref C::vs,kw⟩)) (.call (.ref f) ⟨.ref (s.heap.objs.size+1)::vs,kw⟩) (PySem.W.InitBack (s.heap.objs.size+1) R)
   { s with heap:=(s.heap.push PySem.W.emptyDict).push (PySem.W.instObj C s.heap.objs.size) }) :
  codeAny (model prog w) A (.call (.ref C) ⟨vs,kw⟩) R s:=by
 obtain⟨hh,g,d,t,os⟩:=s
 exact PySem.W.make_core (PySem.W.makes_of X hm) (PySem.W.looks_findIn X hi) (λself=>PySem.W.bind_fn X self hf) (.inl rfl) h
end
noncomputable def fP(f:Str)(v:V):List (Str × V)->List (Str × V)
 | []=>[(f,v)]
 | (g,x)::r=>if g=f then(g,v)::r else(g,x)::fP f v r
theorem R0(f g:Str)(v:V):∀fs:List (Str × V),(fP f v fs).lookup g=if g=f then some v else fs.lookup g
 | []=>by
  show mD g [(f,v)]=_
  by_cases h:g=f
  ·have hb:(g==f)=true:=beq_iff_eq.mpr h
   simp only[mD,hb,if_pos h]
  ·have hb:(g==f)=false:=beq_eq_false_iff_ne.mpr h
   simp only[mD,hb,if_neg h]
 | (k,x)::r=>by
  have ih:=R0 f g v r
  rw[show fP f v ((k,x)::r)=(if k=f then(k,v)::r else(k,x)::fP f v r) from rfl]
  by_cases hk:k=f
  ·rw[if_pos hk]
   by_cases h:g=k
   ·have hb:(g==k)=true:=beq_iff_eq.mpr h
    simp only[mD,hb,if_pos (h.trans hk)]
   ·have hb:(g==k)=false:=beq_eq_false_iff_ne.mpr h
    simp only[mD,hb,if_neg (λe:g=f=>h (e.trans hk.symm))]
  ·rw[if_neg hk]
   by_cases h:g=k
   ·have hb:(g==k)=true:=beq_iff_eq.mpr h
    simp only[mD,hb,if_neg (λe:g=f=>hk (h.symm.trans e))]
   ·have hb:(g==k)=false:=beq_eq_false_iff_ne.mpr h
    simp only[mD,hb]
    exact ih
theorem Ge(f:Str)(v:V):∀fs:List (Str × V),f∈(fP f v fs).map (·.1)/\∀g,g∈fs.map (·.1)->g∈(fP f v fs).map (·.1)
 | []=>⟨by simp[fP],λg h=>by simp at h⟩
 | (k,x)::r=>by
  obtain⟨i1,i2⟩:=Ge f v r
  rw[show fP f v ((k,x)::r)=(if k=f then(k,v)::r else(k,x)::fP f v r) from rfl]
  by_cases hk:k=f
  ·rw[if_pos hk]
   subst hk
   exact⟨by simp,λg h=>by simpa using h⟩
  ·rw[if_neg hk]
   refine⟨?_,λg h=>?_⟩
   ·rw[eK]
    exact eI _ i1
   ·rw[eK]at h ⊢
    rcases bY.mp h with e | e
    ·exact bY.mpr (.inl e)
    ·exact eI _ (i2 g e)
theorem R1(f:Str)(v:V):∀fs:List (Str × V),(fP f v fs).length<=fs.length+1
 | []=>by simp[fP]
 | (k,x)::r=>by
  have ih:=R1 f v r
  rw[show fP f v ((k,x)::r)=(if k=f then(k,v)::r else(k,x)::fP f v r) from rfl]
  by_cases hk:k=f
  ·rw[if_pos hk,eJ,eJ];omega
  ·rw[if_neg hk,eJ,eJ];omega
theorem kY.some_of{v:V}{o:Option Value}(r:kY (some v) o):∃u,o=some u/\RelV v u:=by
 cases o with
 | none=>exact(show False from r).elim
 | some u=>exact⟨u,rfl,r⟩
theorem kY.none_of{o:Option Value}(r:kY none o):o=none:=by
 cases o with
 | none=>rfl
 | some u=>exact(show False from r).elim
theorem ce2{v:V}{u:Value}(r:RelV v u):PySem.W.handedIn u=true:=by
 cases v with
 | aw=>cases(show u=qD from r);rfl
 | bl b=>cases(show u=Fc b from r);rfl
 | int i=>obtain⟨t,e⟩:=(show ∃t,u=qC i t from r);cases e;rfl
 | str x=>obtain⟨t,e⟩:=(show ∃t,u=Value.str x t from r);cases e;rfl
 | BK b=>obtain⟨t,e⟩:=(show ∃t,u=Value.bytes b t from r);cases e;rfl
 | qQ b=>obtain⟨t,e⟩:=(show ∃t,u=Value.float b t from r);cases e;rfl
 | ref a=>cases(show u=ff a from r);rfl
 | ty n=>cases(show u=ud n from r);rfl
section
variable{P:Program}{w:World}{H H':Hp}{h h':Heap}{a C dx:Addr}{fs fs':List (Str × V)}
theorem B4(aG:cJ P w H h)(e:H a=some (.ins C dx fs)):∃mA,qY h a dx C mA/\(∀f,kY (fs.lookup f) (mA f))/\PySem.Within mA (fs.map (·.1))/\fs.length<=1000/\H dx=some (.own a):=by
 obtain⟨d,z,ne,ob,mA,n,r,q⟩:=(show dQ P w H h a (.ins C dx fs) from aG a _ e)
 exact⟨mA,⟨ob,n,ne⟩,r,q,z,d⟩
end
structure dR(K:PySem.W.Frag)(C:Addr):Prop where
 pg:PySem.W.plainGet K C Str.empty=true
 hd:PySem.W.hasDictIn K C=true
 po:PySem.W.plainOver K C=true
 sa:PySem.W.findIn K (.ref C) "__setattr__"=some (some (.builtin "object.__setattr__"))
theorem dR.get{K:PySem.W.Frag}{C:Addr}(c:dR K C)(f:Str):PySem.W.plainGet K C f=true:=c.pg
noncomputable def cq(K:PySem.W.Frag)(C:Addr)(f:Str):Prop:=PySem.W.findIn K (.ref C) f=some none
theorem cq.dt0{K:PySem.W.Frag}{C:Addr}{f:Str}(n:cq K C f):PySem.W.takerIn K C f=some none:=by
 unfold PySem.W.takerIn
 rw[show PySem.W.findIn K (.ref C) f=some none from n]
 rfl
structure Meth(K:PySem.W.Frag)(C:Addr)(m:Str)(f:Addr):Prop where
 at_:PySem.W.findIn K (.ref C) m=some (some (.ref f))
 fn:PySem.W.isFn K (.ref f)=true
 kp:PySem.W.keepIn K (.ref f)=true
section
variable{X:Cx}{pins:List (Addr × Obj)}{σ:St}{H:Hp}{s:Shared}{a C dx:Addr}{fs:List (Str × V)}{f:Str}{v:V}{A:Around}{E:Value->Shared->Prop}
theorem bZ9{b:Bool}{Q:Value->Shared->Prop}(I:Inv X pins σ H s)(e:H a=some (.ins C dx fs))(c:dR X.K C)(n:cq X.K C f)(l:fs.lookup f=some v)
  (h:∀u s',Inv X pins σ H s'->RelV v u->Q u s'):wpAny (model X.prog X.w) A (getAttr (.ref a) f b) Q E s:=by
 obtain⟨mA,O,r,_,_,_⟩:=B4 I.aG e
 obtain⟨u,hu,ru⟩:=kY.some_of (v:=v) (o:=mA f) (by rw[<-l];exact r f)
 exact cB9 I.df O (c.get f) c.hd n hu (ce2 ru) (h u _ (I.tok _) ru)
theorem Gf{m:Str}{g:Addr}{pl:Sem Bool}{Q:Value × List Value->Shared->Prop}(I:Inv X pins σ H s)(e:H a=some (.ins C dx fs))(c:dR X.K C)(k:Meth X.K C m g)(l:fs.lookup m=none)
  (h:Q (.ref g,[.ref a]) s):wpAny (model X.prog X.w) A (getMethod (.ref a) m pl) Q E s:=by
 obtain⟨mA,O,r,_,_,_⟩:=B4 I.aG e
 have hn:mA m=none:=kY.none_of (by rw[<-l];exact r m)
 exact cm5 I.df O (c.get m) k.at_ k.fn hn h
theorem bX7{y:V}{u:Value}{Q:Unit->Shared->Prop}(I:Inv X pins σ H s)(e:H a=some (.ins C dx fs))(c:dR X.K C)(n:cq X.K C f)(hl:fs.length<1000)(ry:RelV y u)
  (h:∀s',Inv X pins σ (upd H a (.ins C dx (fP f y fs))) s'->Q () s'):wpAny (model X.prog X.w) A (setAttr (.ref a) f u) Q E s:=by
 obtain⟨mA,O,r,wi,_,ho⟩:=B4 I.aG e
 have hz:(fs.map (·.1)).length<=sizeLine:=by rw[bu,sizeLine_eq];omega
 refine cH1 I.df O c.sa c.po n.dt0 c.hd wi hz λh' O' sb=>h _ ?_
 have hd:∃o,h'.get? dx=some o:=let⟨o,_,_,e',_⟩:=O'.ns;⟨o,e'⟩
 refine I.write (x:=a) (e:=dx) (by rw[e];exact ug) (.inr ho) (λb q hb z=>(sb.2 b hb).trans z) hd ?_
 refine⟨by rw[bc O.ne];exact ho,?_,O.ne,O'.obj,_,O'.ns,λg=>?_,λg hg=>?_⟩
 ·have:=R1 f y fs;omega
 ·show kY ((fP f y fs).lookup g) (if g=f then some u else mA g)
  rw[R0]
  by_cases q:g=f
  ·rw[if_pos q,if_pos q];exact ry
  ·rw[if_neg q,if_neg q];exact r g
 ·by_cases q:g=f
  ·rw[q];exact(Ge f y fs).1
  ·refine(Ge f y fs).2 g (wi g λz=>hg ?_)
   show(if g=f then some u else mA g)=none
   rw[if_neg q];exact z
theorem Inv.made(I:Inv X pins σ H s):Inv X pins σ (upd (upd H s.heap.objs.size (.own (s.heap.objs.size+1))) (s.heap.objs.size+1) (.ins C s.heap.objs.size []))
  { s with heap:=(s.heap.push PySem.W.emptyDict).push (PySem.W.instObj C s.heap.objs.size) }:=by
 have e1:(s.heap.push PySem.W.emptyDict).get? s.heap.objs.size=some PySem.W.emptyDict:=fO s.heap rfl
 have e2:((s.heap.push PySem.W.emptyDict).push (PySem.W.instObj C s.heap.objs.size)).get? (s.heap.objs.size+1)=some (PySem.W.instObj C s.heap.objs.size):=by
  have:=fO (s.heap.push PySem.W.emptyDict) (o:=PySem.W.instObj C s.heap.objs.size) rfl
  rwa [oq]at this
 have e3:(s.heap.push PySem.W.emptyDict).Ns s.heap.objs.size (λ_=>none):=⟨PySem.W.emptyDict,#[],_,e1,rfl,(λe he=>absurd he (by simp)),λ_=>rfl⟩
 have I1:=I.laid (a:=s.heap.objs.size) (o:=.own (s.heap.objs.size+1)) (h':=s.heap.push PySem.W.emptyDict) (t':=s.toks) (λb u q=>eF _ q) (bJ _) ⟨_,e1⟩
 refine I1.laid (a:=s.heap.objs.size+1) (o:=.ins C s.heap.objs.size []) (t':=s.toks) (λb u q=>eF _ q) (Bj (oq _ _)) ?_
 have ne:s.heap.objs.size≠s.heap.objs.size+1:=eY (Fd _)
 refine⟨by rw[bc ne,cy],jz _,ne,e2,λ_=>none,(Heap.Ns1.of_empty e3).at λo q=>eF _ q,λ_=>ug,λy hy=>absurd rfl hy⟩
theorem cJ9{prog:Program}{w:World}{env:Env}{e:Expr}{f:Str}{pos:Pos}{s:Shared}{Q:Value->Shared->Prop}(hb:attributeBase e f env (eval e env)=eval e env)
  (h:wpAny (model prog w) A (eval e env) (λo bF=>wpAny (model prog w) A (getAttr o f true) Q E bF) E s):wpAny (model prog w) A (eval (.Attribute e f pos) env) Q E s :=
 Attribute_any_ h (by rw[arm_eval_Attribute,hb])
end
noncomputable def c78(K:PySem.W.Frag)(ta:TE)(f:Str):TE:=λσ H Q=>ta σ H λx H1=>∃a C dx fs v,x=.ref a/\H1 a=some (.ins C dx fs)/\dR K C/\cq K C f/\fs.lookup f=some v/\Q v H1
noncomputable def c73(K:PySem.W.Frag)(ta tv:TE)(f:Str):TS:=λD σ H=>tv σ H λy H1=>ta σ H1 λx H2=>∃a C dx fs,x=.ref a/\H2 a=some (.ins C dx fs)/\dR K C/\cq K C f/\fs.length<1000 /\
 D.nx σ (upd H2 a (.ins C dx (fP f y fs)))
section
variable{X:Cx}{o e value:Expr}{f:Str}{pos pos' qZ:Pos}{ta tv:TE}
theorem B5(he:PE X e ta)(hb:attributeBase e f X.env (eval e X.env)=eval e X.env):PE X (.Attribute e f pos) (c78 X.K ta f):=by
 intro pins s σ H Q I h
 refine cJ9 hb (aP (he pins s σ H _ I h) λu s1 ⟨x,H1,I1,rx,a,C,dx,fs,v,ex,ea,c,n,l,q⟩=>?_)
 subst ex
 obtain rfl:u=ff a:=rx
 exact bZ9 I1 ea c n l λu' s2 I2 ru=>⟨v,H1,I2,ru,q⟩
theorem oK(ha:PE X o ta)(hv:PE X value tv)(hs:swapsWith value (some (.Attribute o f pos')) pos.line X.env=pure false):PS X (.Assign [.Attribute o f pos'] value pos) (c73 X.K ta tv f):=by
 intro pins s σ H D I h
 refine plainObj_wpAny_Assign_Attribute (aP (hv pins s σ H _ I h) λu s1 ⟨y,H1,I1,ry,q⟩=>aP (ha pins s1 σ H1 _ I1 q) λov s2 ⟨x,H2,I2,rx,a,C,dx,fs,ex,ea,c,n,l,q2⟩=>?_) hs
 subst ex
 obtain rfl:ov=ff a:=rx
 exact bX7 I2 ea c n l ry λs3 I3=>⟨σ,_,I3,q2⟩
end
section
variable{X:Cx}{pins:List (Addr × Obj)}{σ:St}{H:Hp}{s:Shared}{A:Around}{E:Value->Shared->Prop}{Q:Value->Shared->Prop}{c:Value}{b:Bool}
inductive ij(K:PySem.W.Frag)(H:Hp):V->Value->Prop where
 | aw:ij K H .aw (.type "NoneType")
 | bl (x:Bool):ij K H (.bl x) (.type "bool")
 | int (i:Int):ij K H (.int i) (.type "int")
 | str (x:Str):ij K H (.str x) (.type "str")
 | qQ (x:UInt64):ij K H (.qQ x) (.type "float")
 | lst {a:Addr} {xs:List V} (e:H a=some (.lst xs)):ij K H (.ref a) (.type "list")
 | ck {a:Addr} {o:Obj} {xs:List V} (e:H a=some (.ck o (.lst xs))):ij K H (.ref a) (.type "list")
 | tup {a:Addr} {xs:List V} (e:H a=some (.tup xs)):ij K H (.ref a) (.type "tuple")
 | dK {a:Addr} {dD:List (Key × V)} (e:H a=some (.dK dD)):ij K H (.ref a) (.type "dict")
 | dT {a:Addr} {dD:List (List Key × V)} (e:H a=some (.dT dD)):ij K H (.ref a) (.type "dict")
 | ins {a C dx:Addr} {fs:List (Str × V)} (e:H a=some (.ins C dx fs)) (cl:dR K C) (ha:PySem.W.findIn K (.ref C) "__class__"=some (some (.builtin "object.__class__")))
   (hn:PySem.W.specialIn K (.builtin "object.__class__") "__get__"=some (some (.builtin "getset_descriptor.__get__"))) (Gg:PySem.W.takesIn K (.builtin "object.__class__")=some true)
   (hm:PySem.W.mroIn K C (.type "object")=some true):ij K H (.ref a) (.ref C)
theorem cc4{x:V}{u t:Value}(I:Inv X pins σ H s)(rx:RelV x u)(ty:ij X.K H x t)(e:PySem.W.kitOne X.K t c=some b)(h:∀tk,Q (.bool b) { s with toks:=tk }) :
  wpAny (model X.prog X.w) A (call (.builtin "isinstance") [u,c]) Q E s:=by
 cases ty with
 | aw=>cases(show u=qD from rx);exact PySem.W.kia_one PySem.W.kitx_none I.df ug e (λz=>nomatch z) h
 | bl y=>cases(show u=Fc y from rx);exact PySem.W.kia_one PySem.W.kitx_bool I.df ug e (λz=>nomatch z) h
 | int i=>obtain⟨t,q⟩:=(show ∃t,u=qC i t from rx);cases q;exact PySem.W.kia_one PySem.W.kitx_int I.df ug e (λz=>nomatch z) h
 | str y=>obtain⟨t,q⟩:=(show ∃t,u=Value.str y t from rx);cases q;exact PySem.W.kia_one PySem.W.kitx_str I.df ug e (λz=>nomatch z) h
 | qQ y=>obtain⟨t,q⟩:=(show ∃t,u=Value.float y t from rx);cases q;exact PySem.W.kia_one PySem.W.kitx_float I.df ug e (λz=>nomatch z) h
 | @lst a xs ea =>
  cases(show u=ff a from rx)
  obtain⟨_,_,n,_,h1⟩:=(show dQ X.prog X.w H s.heap a (.lst xs) from I.aG a _ ea)
  exact PySem.W.kia_one PySem.W.kitx_list I.df ⟨_,h1,rfl⟩ e (λz=>nomatch z) h
 | @ck a ob xs ea =>
  cases(show u=ff a from rx)
  obtain⟨_,_,_,n,_,h1⟩:=(show dQ X.prog X.w H s.heap a (.ck ob (.lst xs)) from I.aG a _ ea)
  exact PySem.W.kia_one PySem.W.kitx_list I.df ⟨_,h1,rfl⟩ e (λz=>nomatch z) h
 | @tup a xs ea =>
  cases(show u=ff a from rx)
  obtain⟨_,_,_,p⟩:=(show dQ X.prog X.w H s.heap a (.tup xs) from I.aG a _ ea)
  obtain⟨o,h1,h2,_⟩:=p
  exact PySem.W.kia_one PySem.W.kitx_tuple I.df ⟨o,h1,h2⟩ e (λz=>nomatch z) h
 | @dK a dD ea =>
  cases(show u=ff a from rx)
  obtain⟨_,_,vs,_,p⟩:=(show dQ X.prog X.w H s.heap a (.dK dD) from I.aG a _ ea)
  obtain⟨o,es,ep,h1,h2,_⟩:=p
  exact PySem.W.kia_one PySem.W.kitx_dict I.df ⟨o,h1,h2.1⟩ e (λz=>nomatch z) h
 | @dT a dD ea =>
  cases(show u=ff a from rx)
  obtain⟨_,_,xs,_,o,es,ep,h1,h2,_⟩:=(show dQ X.prog X.w H s.heap a (.dT dD) from I.aG a _ ea)
  exact PySem.W.kia_one PySem.W.kitx_dict I.df ⟨o,h1,h2.1⟩ e (λz=>nomatch z) h
 | @ins a C dx fs ea cl ha hn Gg hm =>
  cases(show u=ff a from rx)
  obtain⟨mA,O,_⟩:=B4 I.aG ea
  obtain⟨od,J,_⟩:=O.look
  exact PySem.W.kia_one (PySem.W.kitx_own (cl.get _) cl.hd ha hn Gg hm) I.df J e (λz=>nomatch z) h
end
end L2
namespace L2
open PySem PySem.Spec PyProof.Rows
structure cC(k:Nat)(A:Around):Prop where
 hd:A.handled=none
 dp:A.depth+3*k+5<recursionLimit
 un:A.units+16*k+200<cLine
theorem cC.mono{j k:Nat}{A:Around}(r:cC k A)(h:j<=k):cC j A:=⟨r.hd,by have:=r.dp;omega,by have:=r.un;omega⟩
theorem cC.deeper{k:Nat}{A:Around}(r:cC (k+1) A)(env:Env):cC k (A.deeper env) :=
 ⟨r.hd,by have:=r.dp;show A.depth+1+3*k+5<_;omega,by have:=r.un;show A.units+3+16*k+200<_;omega⟩
theorem bX0{A:Around}{C:Addr}{us:List Value}{kw:List (Str × Value)}:(A.under (.builtin "type.__call__" ⟨.ref C::us,kw⟩)).depth=A.depth+1:=by
 first | rfl | simp[Around.under,Code.weight,Code.isCreation,Code.isGuard,Code.isCaller,Code.frames,Code.isFrame,guardIds]
theorem bZ2{A:Around}{C:Addr}{us:List Value}{kw:List (Str × Value)}:(A.under (.builtin "type.__call__" ⟨.ref C::us,kw⟩)).units=A.units+1:=by
 first | rfl | simp[Around.under,Code.cUnits,Code.frames,Code.isFrame]
theorem cC.make{k:Nat}{A:Around}(r:cC (k+1) A)(C:Addr)(us:List Value)(kw:List (Str × Value)):cC k (A.under (.builtin "type.__call__" ⟨.ref C::us,kw⟩)) :=
 ⟨r.hd,by have:=r.dp;rw[bX0];omega,by have:=r.un;rw[bZ2];omega⟩
theorem cC.depth{k:Nat}{A:Around}(r:cC k A):A.depth<recursionLimit:=by have:=r.dp;omega
noncomputable def c97:TA:=λ_ H Q=>Q [] H
noncomputable def cW5(ta:TE)(tr:TA):TA:=λσ H Q=>ta σ H λx H1=>tr σ H1 λxs H2=>Q (x::xs) H2
section
variable{X:Cx}{e:Expr}{es:List Expr}{te:TE}{t:TA}{pos:Pos}
theorem jL:PA X [] c97:=λ_ _ _ _ H Q I h=>Calls.spliced_nil ⟨[],H,I,.nil,h⟩
theorem fV(ha:PE X e te)(hr:PA X es t)(hs:starEach (e::es) X.env=(false,eval e X.env)::starEach es X.env:=by rfl):PA X (e::es) (cW5 te t):=by
 intro pos pins s σ H Q I h
 rw[hs]
 show wpAny _ _ (spliced ((false,eval e X.env)::backTo pos (starEach es X.env))) _ _ s
 refine Calls.spliced_cons (aP (ha pins s σ H _ I h) λu s1 ⟨x,H1,I1,r1,q1⟩=>?_)
 exact aP (hr pos pins s1 σ H1 _ I1 q1) λus s2 ⟨xs,H2,I2,r2,q2⟩=>⟨x::xs,H2,I2,.cons r1 r2,q2⟩
noncomputable def c92(t:TA):TE:=λσ H Q=>t σ H λxs H1=>xs.length<=sizeLine/\∀p,H1 p=none->Q (.ref p) (upd H1 p (.tup xs))
noncomputable def c82(t:TA):TE:=λσ H Q=>t σ H λxs H1=>xs.length<=sizeLine/\∀p,H1 p=none->Q (.ref p) (upd H1 p (.lst xs))
theorem cN6{x1}(h:PA X es t):PE X (.Tuple es x1 pos) (c92 t):=by
 intro pins s σ H Q I hq
 refine wpAny_Tuple_spliced (aP (h pos pins s σ H _ I hq) λus s1 ⟨xs,H1,I1,r,z,q⟩=>⟨by rw[<-r.length];exact z,?_⟩)
 have hf:H1 s1.heap.objs.size=none:=I1.aG.fresh (bJ _)
 refine⟨.ref s1.heap.objs.size,upd H1 s1.heap.objs.size (.tup xs),I1.laid (t':=s1.toks) (λb u e=>eF _ e) (bJ _) ?_,rfl,q _ hf⟩
 exact⟨z,us,r,⟨_,fO _ rfl,rfl,_,rfl⟩⟩
theorem R3(h:PA X es t):PE X (.List es pos) (c82 t):=by
 intro pins s σ H Q I hq
 refine wpAny_List_spliced (aP (h pos pins s σ H _ I hq) λus s1 ⟨xs,H1,I1,r,z,q⟩=>⟨by rw[<-r.length];exact z,?_⟩)
 have hf:H1 s1.heap.objs.size=none:=I1.aG.fresh (bJ _)
 refine⟨.ref s1.heap.objs.size,upd H1 s1.heap.objs.size (.lst xs),I1.laid (t':=s1.toks) (λb u e=>eF _ e) (bJ _) ?_,rfl,q _ hf⟩
 exact⟨z,us,0,r,fO _ rfl⟩
end
noncomputable abbrev Sp:=List V->Hp->VK->XK->Prop
noncomputable abbrev eZ:=List Env->Hp->Shared->XK->Value->Shared->Prop
structure iK(P:Program)(w:World)(K:PySem.W.Frag)(mg:Str->Option Value)(base:Heap)(A:Around)(outer:List Env)(s:Shared)(H:Hp):Prop where
 frames:A.frames=some outer
 mod:Mod K mg base
 bs:∀b o,base.get? b=some o->s.heap.get? b=some o/\H b=none
 jG:base.objs.size<=s.heap.objs.size
 gC:s.heap.FunFrames base outer
 jH:∀b∈eA outer,H b=none
 aG:cJ P w H s.heap
 bare:AllBare s.gens
noncomputable def CE(outer:List Env)(P:Program)(w:World)(H:Hp)(s:Shared)(Q:VK)(u:Value)(s':Shared):Prop :=
 ∃v H',s'.os=s.os/\AllBare s'.gens/\Un (eA outer) [] H H' s.heap s'.heap/\cJ P w H' s'.heap/\RelV v u/\Q v H'
noncomputable def CR(CX:eZ)(outer:List Env)(P:Program)(w:World)(H:Hp)(s:Shared)(Q:VK)(E:XK)(r:Result)(s':Shared):Prop :=
 match r with
 | .ok (.ret u)=>CE outer P w H s Q u s'
 | .ok _=>False
 | .error e=>CX outer H s E e s'
structure aN(P:Program)(w:World)(K:PySem.W.Frag)(mg:Str->Option Value)(base:Heap)(CX:eZ)(k:Nat)(f:Addr)(fd:FuncData)(ps:List Str)(sp:Sp):Prop where
 len:∀vs H Q E,sp vs H Q E->vs.length=ps.length
 run:∀(A:Around) (outer:List Env) (s:Shared) (H:Hp) (args:Args) (us:List Value) (vs:List V) (Q:VK) (E:XK),cC k A->iK P w K mg base A outer s H->BindsTo s fd args (ps.zip us)->Vals vs us->sp vs H Q E ->
  codeAny (model P w) A (.call (.ref f) args) (CR CX outer P w H s Q E) s
theorem aN.mono{P:Program}{w:World}{K:PySem.W.Frag}{mg:Str->Option Value}{base:Heap}{CX:eZ}{j k:Nat}{f:Addr}{fd:FuncData}{ps:List Str}{sp:Sp}(F:aN P w K mg base CX j f fd ps sp)(h:j<=k) :
  aN P w K mg base CX k f fd ps sp:=⟨F.len,λA outer s H args us vs Q E hr=>F.run A outer s H args us vs Q E (hr.mono h)⟩
theorem aN.imp{P:Program}{w:World}{K:PySem.W.Frag}{mg:Str->Option Value}{base:Heap}{CX:eZ}{k:Nat}{f:Addr}{fd:FuncData}{ps:List Str}{sp R4:Sp}(F:aN P w K mg base CX k f fd ps sp)
  (h:∀vs H Q E,R4 vs H Q E->sp vs H Q E):aN P w K mg base CX k f fd ps R4 :=
 ⟨λvs H Q E q=>F.len vs H Q E (h _ _ _ _ q),λA outer s H args us vs Q E hr he hb hv hs=>F.run A outer s H args us vs Q E hr he hb hv (h _ _ _ _ hs)⟩
theorem iK.make{P:Program}{w:World}{K:PySem.W.Frag}{mg:Str->Option Value}{base:Heap}{A:Around}{outer:List Env}{s:Shared}{H:Hp}(e:iK P w K mg base A outer s H)(C:Addr)(us:List Value)(kw:List (Str × Value)) :
  iK P w K mg base (A.under (.builtin "type.__call__" ⟨.ref C::us,kw⟩)) outer s H:=⟨by first | exact e.frames | (simpa[Around.under,Code.envs,Code.isFrame,pushEnvs]using e.frames),e.mod,e.bs,e.jG,e.gC,e.jH,e.aG,e.bare⟩
section
variable{X:Cx}{pins:List (Addr × Obj)}{σ:St}{H:Hp}{s s':Shared}
theorem Inv.za(I:Inv X pins σ H s):iK X.prog X.w X.K X.mg X.base X.A X.stack s H :=
 ⟨I.ok.frames,I.ok.mod,I.bs,eH I.ok.jG I.sz,I.stack,I.FD,I.aG,I.bare⟩
theorem Inv.after{Q:VK}{u:Value}(I:Inv X pins σ H s)(h:CE X.stack X.prog X.w H s Q u s'):EP X pins σ Q u s':=by
 obtain⟨v,H',os,bare,un,aG,r,q⟩:=h
 obtain⟨hh,g,d,t,os'⟩:=s'
 obtain rfl:os'=s.os:=os
 exact⟨v,H',I.call (h':=hh) (g':=g) (d':=d) (t':=t) (ch:=[]) un aG bare (λb z=>absurd z (by simp)),r,q⟩
end
noncomputable def c05(sp:Sp)(fE:List V)(E:XK)(t:TA):TE:=λσ H Q=>t σ H λvs H1=>sp (vs++fE) H1 Q E
noncomputable def cX3(C:Addr)(m:Str)(sp:Sp)(fE:List V)(E:XK)(ta:TE)(t:TA):TE:=λσ H Q=>ta σ H λx H1=>∃a dx fs,x=.ref a/\H1 a=some (.ins C dx fs)/\fs.lookup m=none /\
 t σ H1 λvs H2=>sp (x::(vs++fE)) H2 Q E
noncomputable def cY9(C:Addr)(sp:Sp)(fE:List V)(E:XK)(t:TA):TE:=λσ H Q=>t σ H λvs H1=>∀x dx,H1 x=none->H1 dx=none->dx≠x ->
 sp (.ref x::(vs++fE)) (upd (upd H1 dx (.own x)) x (.ins C dx [])) (λv H2=>v=.aw/\Q (.ref x) H2) E
noncomputable def Binds(K:PySem.W.Frag)(fd:FuncData)(ps:List Str)(ds:List Value):Prop :=
 ∀(s:Shared) (us:List Value),K.In s.heap->(us++ds).length=ps.length->BindsTo s fd ⟨us,[]⟩ (ps.zip (us++ds))
theorem Binds.all{K:PySem.W.Frag}{fd:FuncData}{ps:List Str}(h:∀us:List Value,us.length=ps.length->bindArgs fd ⟨us,[]⟩=pure (ps.zip us)):Binds K fd ps []:=λs us _ hl=>by
 rw[ou]at hl ⊢
 exact .of_eq (h us hl)
noncomputable def lJ(CX:eZ)(X:Cx)(E:XK):Prop:=∀(pins:List (Addr × Obj)) (σ:St) (H:Hp) (s:Shared) (e:Value) (s':Shared),Inv X pins σ H s->CX X.stack H s E e s'->X.xe e s'
section
variable{X:Cx}{CX:eZ}{k:Nat}{f C:Addr}{fd:FuncData}{ps:List Str}{sp:Sp}{fE:List V}{ds:List Value}{E:XK}{x m:Str}{p pos apos:Pos}{e o:Expr}{es:List Expr}{ta:TE}{t:TA}
theorem B6{pins:List (Addr × Obj)}{σ:St}{H:Hp}{s:Shared}{Q:VK}{us:List Value}{vs:List V}(F:aN X.prog X.w X.K X.mg X.base CX k f fd ps sp)(hr:cC k X.A)(hb:Binds X.K fd ps ds)(hd:Vals fE ds)(hx:lJ CX X E)
  (I:Inv X pins σ H s) (r:Vals vs us) (h:sp (vs++fE) H Q E):wpAny (model X.prog X.w) X.A (call (.ref f) us) (EP X pins σ Q) X.xe s:=by
 have r2:Vals (vs++fE) (us++ds):=r.append hd
 have hl:(us++ds).length=ps.length:=by rw[<-r2.length];exact F.len _ _ _ _ h
 refine wpAny_call (codeAny_mono (F.run X.A X.stack s H ⟨us,[]⟩ (us++ds) (vs++fE) Q E hr I.za (hb s us I.df hl) r2 h) λr s' hq=>?_)
 cases r with
 | error e=>exact hx pins σ H s e s' I hq
 | ok fl =>
  cases fl with
  | ret u=>exact I.after hq
  | next=>exact fL hq
  | brk=>exact fL hq
  | cont=>exact fL hq
theorem q5(F:aN X.prog X.w X.K X.mg X.base CX k f fd ps sp)(hr:cC k X.A)(hg:Gl X x)(hm:X.mg x=some (.ref f))(hk:PySem.W.keepIn X.K (.ref f)=true)(hb:Binds X.K fd ps ds)(hd:Vals fE ds)(hx:lJ CX X E)
  (ha:PA X (e::es) t) (e7:(x==("__debug__":Str))=false:=by decide) (he:starEach (e::es) X.env=(false,eval e X.env)::starEach es X.env:=by rfl) (bG:(backTo pos (starEach es X.env)).any (·.1)=false:=by rfl) :
  PE X (.Call (.Name x p) (e::es) [] pos) (c05 sp fE E t):=by
 intro pins s σ H Q I h
 refine wpAny_Call_Name_kw (BQ I hg hm ?_ e7)
 refine PySem.W.callWith_K (h₀:=X.base) I.ok.mod.mS hk (aP (ha pos pins s σ H _ I h) λus s1 ⟨vs,H1,I1,r,q⟩=>⟨I1.df,?_⟩) he bG
 exact B6 F hr hb hd hx I1 r q
theorem cH0{pl:Sem Bool}(he:PE X o ta)(c:dR X.K C)(hm:Meth X.K C m f)(F:aN X.prog X.w X.K X.mg X.base CX k f fd ps sp)(hr:cC k X.A)(hb:Binds X.K fd ps ds)(hd:Vals fE ds)(hx:lJ CX X E)(ha:PA X (e::es) t)
  (dg:starEach (e::es) X.env=(false,eval e X.env)::starEach es X.env:=by rfl) (bG:(backTo pos (starEach es X.env)).any (·.1)=false:=by rfl)
  (ht:eval (.Call (.Attribute o m apos) (e::es) [] pos) X.env=(do
   let ov<-eval o X.env
   standAt apos.atName
   let (f,first)<-holding [ov] (getMethod ov m pl)
   callWith pos f first (backTo pos (starEach (e::es) X.env)) (backToKw pos (keywordEach [] X.env))):=by rfl) :
  PE X (.Call (.Attribute o m apos) (e::es) [] pos) (cX3 C m sp fE E ta t):=by
 intro pins s σ H Q I h
 refine PySem.W.methodCall_KW (pl:=pl) (aP (he pins s σ H _ I h) λu s1 ⟨x,H1,I1,rx,a,dx,fs,ex,ea,l,q⟩=>?_) ht
 subst ex
 obtain rfl:u=ff a:=rx
 refine Gf I1 ea c hm l ?_
 refine PySem.W.callWith_K (first:=[.ref a]) (h₀:=X.base) I.ok.mod.mS hm.kp (aP (ha pos pins s1 σ H1 _ I1 q) λus s2 ⟨vs,H2,I2,r,q2⟩=>⟨I2.df,?_⟩) dg bG
 exact B6 (us:=.ref a::us) (vs:=.ref a::vs) F hr hb hd hx I2 (.cons rfl r) q2
structure Mk(K:PySem.W.Frag)(C f:Addr):Prop where
 makes:PySem.W.makesIn K C=true
 init:PySem.W.findIn K (.ref C) "__init__"=some (some (.ref f))
 fn:PySem.W.isFn K (.ref f)=true
 kp:PySem.W.keepIn K (.ref C)=true
theorem ci9{pins:List (Addr × Obj)}{σ:St}{H:Hp}{s:Shared}{Q:VK}{us:List Value}{vs:List V}(M:Mk X.K C f)(F:aN X.prog X.w X.K X.mg X.base CX k f fd ps sp)(hr:cC (k+1) X.A)(hb:Binds X.K fd ps ds)(hd:Vals fE ds)
  (hx:lJ CX X E) (I:Inv X pins σ H s) (r:Vals vs us)
  (h:∀x dx,H x=none->H dx=none->dx≠x->sp (.ref x::(vs++fE)) (upd (upd H dx (.own x)) x (.ins C dx [])) (λv H2=>v=.aw/\Q (.ref x) H2) E) :
  wpAny (model X.prog X.w) X.A (call (.ref C) us) (EP X pins σ Q) X.xe s:=by
 have hq:=h (s.heap.objs.size+1) s.heap.objs.size (I.aG.fresh (Nat.le_succ _)) (I.aG.fresh (bJ _)) (eY (Fd _))
 have I2:=Inv.made (C:=C) I
 have r2:Vals (V.ref (s.heap.objs.size+1)::(vs++fE)) (ff (s.heap.objs.size+1)::(us++ds)):=.cons rfl (r.append hd)
 have hl:(ff (s.heap.objs.size+1)::us++ds).length=ps.length:=by
  have e:=r2.length
  rw[F.len _ _ _ _ hq]at e
  exact e.symm
 refine wpAny_call (cq4 (f:=f) I.df M.makes M.init (beq_iff_eq.mp M.fn) (codeAny_mono (F.run _ X.stack _ _ ⟨ff (s.heap.objs.size+1)::us,[]⟩ (ff (s.heap.objs.size+1)::(us++ds)) _ _ E (hr.make C us [])
  (I2.za.make C us []) (hb _ (ff (s.heap.objs.size+1)::us) I2.df hl) r2 hq) λr s' mU=>?_))
 cases r with
 | error e=>exact hx pins σ _ _ e s' I2 mU
 | ok fl =>
  cases fl with
  | ret u =>
   obtain⟨v,H',I3,rv,ev,q3⟩:=I2.after mU
   subst ev
   exact⟨rv,⟨V.ref (s.heap.objs.size+1),H',I3,rfl,q3⟩⟩
  | next=>exact fL mU
  | brk=>exact fL mU
  | cont=>exact fL mU
theorem cA5(M:Mk X.K C f)(F:aN X.prog X.w X.K X.mg X.base CX k f fd ps sp)(hr:cC (k+1) X.A)(hg:Gl X x)(hm:X.mg x=some (.ref C))(hb:Binds X.K fd ps ds)(hd:Vals fE ds)(hx:lJ CX X E)
  (ha:PA X (e::es) t) (e7:(x==("__debug__":Str))=false:=by decide) (he:starEach (e::es) X.env=(false,eval e X.env)::starEach es X.env:=by rfl) (bG:(backTo pos (starEach es X.env)).any (·.1)=false:=by rfl) :
  PE X (.Call (.Name x p) (e::es) [] pos) (cY9 C sp fE E t):=by
 intro pins s σ H Q I h
 refine wpAny_Call_Name_kw (BQ I hg hm ?_ e7)
 refine PySem.W.callWith_K (h₀:=X.base) I.ok.mod.mS M.kp (aP (ha pos pins s σ H _ I h) λus s1 ⟨vs,H1,I1,r,q⟩=>⟨I1.df,?_⟩) he bG
 exact ci9 M F hr hb hd hx I1 r q
end
section
variable{X:Cx}{CX:eZ}{k:Nat}{f C:Addr}{fd:FuncData}{ps ks:List Str}{sp:Sp}{E:XK}{x m:Str}{p pos apos fu0:Pos}{e o:Expr}{es:List Expr}{kws:List Keyword}{te ta:TE}{t tk:TA}{nm:Option Str}
variable{g:List Value->List Value->List Value}{gV:List V->List V->List V}
end
structure bf(N P:List Str)(sc:Scope):Prop where
 kind:sc.kind=.function
 co:sc.isCoroutine=false
 gen:sc.isGenerator=false
 nd:N.Nodup
 pre:N.take P.length=P
 par:∀x∈P,sc.names.lookup x=some .local\/sc.names.lookup x=some .cell
 dv1:∀y∈sc.names,y.2≠.free
theorem R5{kindOf:Str->Option NameKind}{x:Str}:∀{binds:List (Str × Value)} {m:Str->Option Value},(∀v,(x,v) ∉ binds)->bindL kindOf binds m x=m x
 | [],_,_=>rfl
 | (n,v)::r,m,h=>by
  unfold bindL
  rw[R5 λw hw=>h w (eI _ hw)]
  split
  ·have:x≠n:=by rintro rfl;exact h v hV
   simp[this]
  ·rfl
theorem R6{kindOf:Str->Option NameKind}{x:Str}:∀{binds:List (Str × Value)} {m:Str->Option Value},(∀v,(x,v) ∉ binds)->bindC kindOf binds m x=m x
 | [],_,_=>rfl
 | (n,v)::r,m,h=>by
  unfold bindC
  rw[R6 λw hw=>h w (eI _ hw)]
  split
  ·rfl
  ·have:x≠n:=by rintro rfl;exact h v hV
   simp[this]
theorem R7{kindOf:Str->Option NameKind}{x:Str}{v:Value}:∀{P:List Str} {vs:List Value} {i:Nat} {m:Str->Option Value},P.Nodup->P[i]?=some x->vs[i]?=some v->kindOf x=some .local ->
  bindL kindOf (P.zip vs) m x=some v
 | [],_,_,_,_,h,_,_=>by simp at h
 | _::_,[],_,_,_,_,h,_=>by simp at h
 | p::P,w::vs,0,m,nd,h1,h2,hk=>by
  simp at h1 h2;subst h1;subst h2
  show bindL kindOf ((p,w)::P.zip vs) m p=_
  unfold bindL
  rw[R5 λv hv=>(iC.mp nd).1 (qG hv).1,if_pos hk]
  simp
 | p::P,w::vs,i+1,m,nd,h1,h2,hk=>by
  show bindL kindOf ((p,w)::P.zip vs) m x=_
  unfold bindL
  exact R7 (i:=i) (iC.mp nd).2 (by simpa using h1) (by simpa using h2) hk
theorem R8{kindOf:Str->Option NameKind}{x:Str}{v:Value}:∀{P:List Str} {vs:List Value} {i:Nat} {m:Str->Option Value},P.Nodup->P[i]?=some x->vs[i]?=some v->kindOf x≠some .local ->
  bindC kindOf (P.zip vs) m x=some v
 | [],_,_,_,_,h,_,_=>by simp at h
 | _::_,[],_,_,_,_,h,_=>by simp at h
 | p::P,w::vs,0,m,nd,h1,h2,hk=>by
  simp at h1 h2;subst h1;subst h2
  show bindC kindOf ((p,w)::P.zip vs) m p=_
  unfold bindC
  rw[R6 λv hv=>(iC.mp nd).1 (qG hv).1,if_neg hk]
  simp
 | p::P,w::vs,i+1,m,nd,h1,h2,hk=>by
  show bindC kindOf ((p,w)::P.zip vs) m x=_
  unfold bindC
  exact R8 (i:=i) (iC.mp nd).2 (by simpa using h1) (by simpa using h2) hk
noncomputable def start(N:List Str)(vs:List V):St:=vs.map some++aT (N.length-vs.length) none
noncomputable def iM(CX:eZ)(P:Program)(w:World)(K:PySem.W.Frag)(mg:Str->Option Value)(base:Heap)(N:List Str)(qual:Str)(scope:Scope)(f:Addr)(cd:Value)(A:Around)(outer:List Env)(s:Shared)(H:Hp)(E:XK):Cx where
 prog:=P
 w:=w
 K:=K
 mg:=mg
 base:=base
 A:=A.deeper (envOfC qual scope s.heap.objs.size f cd)
 N:=N
 cK:=s
 j8:=H
 env:=envOfC qual scope s.heap.objs.size f cd
 outer:=outer
 stack:=envOfC qual scope s.heap.objs.size f cd::outer
 ex:=[]
 calm:=true
 fn:=λ_=>true
 pn:=[]
 xe:=λe s'=>wpAny (model P w) (A.deeper (envOfC qual scope s.heap.objs.size f cd)) (leaving (envOfC qual scope s.heap.objs.size f cd) e) (λ_ q8=>CX outer H s E e q8) (λe' q8=>CX outer H s E e' q8) s'
theorem R9{sc:Scope}{n:Nat}{x:Str}(h:sc.names.lookup x=some .cell):∃c,(cellsFrom n sc.names []).lookup x=some c:=by
 have q:=PySem.W.cellsFrom_some sc.names n [] (.inl h)
 exact df6.mp q
theorem b87{CX:eZ}{P:Program}{w:World}{K:PySem.W.Frag}{mg:Str->Option Value}{base:Heap}{N ps:List Str}{qual:Str}{scope:Scope}{f:Addr}{cd:Value}{A:Around}{outer:List Env}{s s1:Shared}{H:Hp}{E:XK}{us:List Value}{vs:List V}
  (S:bf N ps scope) (hd:A.handled=none) (e0:iK P w K mg base A outer s H) (hl:vs.length=ps.length) (r:Vals vs us)
  (x:InCallC s s.heap.objs.size (bindL (envOfC qual scope s.heap.objs.size f cd).kindOf (ps.zip us) λ_=>none) (cellsFrom (s.heap.objs.size+1) scope.names []) (bindC (envOfC qual scope s.heap.objs.size f cd).kindOf (ps.zip us) λ_=>none) s1) :
  Inv (iM CX P w K mg base N qual scope f cd A outer s H E) [] (start N vs) H s1:=by
 have bG:ps.length<=N.length:=by have:=congrArg Bk S.pre;rw[jA]at this;omega
 obtain⟨h1,tk,rfl,hk⟩:=x.done
 have zb:∀b:Addr,b ∉ (iM CX P w K mg base N qual scope f cd A outer s H E).ex:=λb z=>absurd (show b∈([]:List Addr) from z) (by simp)
 refine⟨⟨e0.mod,S.kind,rfl,rfl,bJ _,λy z c h1 h2=>?_,λy hy=>?_,λy c _ h=>?_,λ_=>hd,Around.frames_deeper e0.frames,.inr ⟨rfl,rfl⟩,λb z=>absurd z (zb b),e0.bs,e0.jG,λb _ _=>zb b,λb z=>absurd z (zb b),e0.gC,e0.jH⟩,
  rfl,e0.bare,Un.kept hk,⟨_,x.toInCall.ns,λi y v h1 h2 h3=>?_⟩,λy c h=>⟨_,x.cell y c h⟩,e0.aG.fresh (bJ _),λy c h=>?_,λp hp=>absurd (show p∈([]:List (Addr × Obj)) from hp) (by simp),e0.aG.kept hk,?_⟩
 ·exact name_of_addr x.apart (PySem.mem_of_lookup h1) (PySem.mem_of_lookup h2)
 ·have hy:scope.names.lookup y=some .cell\/scope.names.lookup y=some .free:=hy
  rcases hy with hy | hy
  ·exact R9 hy
  ·exact absurd rfl (S.dv1 _ (PySem.mem_of_lookup hy))
 ·exact Bg (x.above y c (PySem.mem_of_lookup h))
 ·have hi:i<vs.length:=by
   unfold start at h2
   by_cases hi:i<vs.length
   ·exact hi
   ·rw[ym (by simpa using hi)]at h2
    rw[uh]at h2
    split at h2<;>cases h2
  have ha:vs[i]?=some v:=by
   unfold start at h2
   rw[yn (by simpa using hi),bX]at h2
   cases e:vs[i]? with
   | none=>rw[e]at h2;cases h2
   | some a=>rw[e]at h2;cases h2;rfl
  obtain⟨u,hu,rv⟩:=r.get ha
  have hp:ps[i]?=some y:=by
   rw[<-S.pre,List.getElem?_take_of_lt (by omega)];exact h1
  have Sa:ps.Nodup:=by rw[<-S.pre];exact S.nd.sublist (List.take_sublist _ _)
  refine⟨u,rv,?_⟩
  rcases S.par y (yo hp)with k | k
  ·exact .inl ⟨k,R7 Sa hp hu k⟩
  ·obtain⟨c,e⟩:=R9 (n:=s.heap.objs.size+1) k
   refine .inr ⟨.inl k,c,e,?_⟩
   have q:=x.cell y c e
   rw[R8 Sa hp hu (by show scope.names.lookup y≠_;rw[k];decide)]at q
   exact q
 ·exact e0.aG.fresh (Bg (x.above y c (PySem.mem_of_lookup h)))
 ·unfold start
  show _=N.length
  rw[fB,bu,hW]
  omega
theorem Gh{CX:eZ}{P:Program}{w:World}{K:PySem.W.Frag}{mg:Str->Option Value}{base:Heap}{k:Nat}{f:Addr}{name qual:Str}{params:Arguments}{body:List Stmt}{scope:Scope}{dV kV doc pm aE ct oc:Value}{an od:Option Addr}
  {lK:Array (Option Value)} {N ps:List Str} {sp:Sp} (lk:K.lookup f=some ⟨oc,od,.func (PySem.W.fnOf name qual params body scope dV kV doc pm an aE ct),lK⟩) (cO:PySem.W.codeIn K aE qual=true) (S:bf N ps scope)
  (len:∀vs H Q E,sp vs H Q E->vs.length=ps.length)
  (ik:∀(A:Around) (outer:List Env) (s:Shared) (H:Hp) (vs:List V) (Q:VK) (E:XK),cC k (A.deeper (envOfC qual scope s.heap.objs.size f aE))->sp vs H Q E ->
   ∃t,PSs (iM CX P w K mg base N qual scope f aE A outer s H E) body t/\t { nx:=λ_ H'=>Q .aw H',rt:=Q } (start N vs) H) :
  aN P w K mg base CX (k+1) f (PySem.W.fnOf name qual params body scope dV kV doc pm an aE ct) ps sp:=by
 refine⟨len,λA outer s H args us vs Q E hr e0 hb r iN=>?_⟩
 have hl:=len _ _ _ _ iN
 have KX:K.In s.heap:=e0.mod.mS.keeps λb o e=>(e0.bs b o e).1
 have lim:s.heap.NoLimit:=e0.mod.nolimit.keeps λb o e=>(e0.bs b o e).1
 have iO:∀y∈ps.zip us,scope.names.lookup y.1=some .local\/(scope.names.lookup y.1=some .cell/\((cellsFrom (s.heap.objs.size+1) scope.names []).lookup y.1).isSome=true):=λ⟨n,v⟩ hy=>by
  rcases S.par n (qG hy).1 with q | q
  ·exact .inl q
  ·exact .inr ⟨q,PySem.W.cellsFrom_some _ _ _ (.inl q)⟩
 refine codeAny_call_function hr.depth (KX _ _ lk) rfl S.co S.gen rfl (PySem.W.codeRec_of KX cO) (hb _ _ _ _ ?_)
 refine wpAny_newFunctionEnv_cells S.kind iO λenv he s1 x=>?_
 subst he
 refine⟨lim.keeps x.toInCall.keep,codeAny_func ?_⟩
 obtain⟨t,ht,hq⟩:=ik A outer s H vs Q E (hr.deeper _) iN
 have I:Inv (iM CX P w K mg base N qual scope f aE A outer s H E) [] (start N vs) H s1:=b87 S hr.hd e0 hl r x
 refine wpAny_mono (ht [] s1 (start N vs) H _ I hq) (λfl s' hs=>?_) λe s' hs=>hs
 have fin:∀{aF:St} {H':Hp} {v:V} {u:Value},Inv (iM CX P w K mg base N qual scope f aE A outer s H E) [] aF H' s'->RelV v u->Q v H'->CE outer P w H s Q u s' :=
  λ{aF H' v u} J rv q=>⟨v,H',J.os,J.bare,J.base,J.aG,rv,q⟩
 cases fl with
 | ret u =>
  obtain⟨v,aF,H',J,rv,q⟩:=hs
  exact fin J rv q
 | next =>
  obtain⟨aF,H',J,q⟩:=hs
  exact fin (v:=V.aw) (u:=qD) J rfl q
 | brk =>
  obtain⟨_,_,_,q⟩:=hs
  exact fL q
 | cont =>
  obtain⟨_,_,_,q⟩:=hs
  exact fL q
end L2
namespace L2
open PySem PySem.Spec PyProof.Rows
section
variable{X:Cx}{x:Str}{p pos:Pos}{e:Expr}{es:List Expr}{t:TA}{id T:String}{r:List V->Hp->VK->Prop}
noncomputable def Gi(r:List V->Hp->VK->Prop)(t:TA):TE:=λσ H Q=>t σ H λvs H1=>r vs H1 Q
theorem Sb(hc:gq X (.builtin id) r)(hg:Gl X x)(hm:X.mg x=none)(hv:bootBuiltins x=some (.builtin id))(ha:PA X (e::es) t)(hn:x≠"__name__":=by decide)(e7:(x==("__debug__":Str))=false:=by decide)
  (he:starEach (e::es) X.env=(false,eval e X.env)::starEach es X.env:=by rfl) (bG:(backTo pos (starEach es X.env)).any (·.1)=false:=by rfl):PE X (.Call (.Name x p) (e::es) [] pos) (Gi r t):=by
 intro pins s σ H Q I h
 refine wpAny_Call_Name_kw (lC I hg hm hv ?_ hn e7)
 exact PyProof.Rows.callWith_builtin1 (aP (ha pos pins s σ H _ I h) λus s1 ⟨vs,H1,I1,r1,q1⟩=>hc pins s1 σ H1 vs us Q I1 r1 q1) he bG
theorem b68(hc:gq X (.type T) r)(hg:Gl X x)(hm:X.mg x=none)(hv:bootBuiltins x=some (.type T))(ha:PA X (e::es) t)(hn:x≠"__name__":=by decide)(e7:(x==("__debug__":Str))=false:=by decide)
  (he:starEach (e::es) X.env=(false,eval e X.env)::starEach es X.env:=by rfl) (bG:(backTo pos (starEach es X.env)).any (·.1)=false:=by rfl):PE X (.Call (.Name x p) (e::es) [] pos) (Gi r t):=by
 intro pins s σ H Q I h
 refine wpAny_Call_Name_kw (lC I hg hm hv ?_ hn e7)
 exact qF (aP (ha pos pins s σ H _ I h) λus s1 ⟨vs,H1,I1,r1,q1⟩=>hc pins s1 σ H1 vs us Q I1 r1 q1) he bG
end
end L2
namespace HT
open PySem PyProof.Rows
section
open PySem.SeqAt
open PySem.AutoSeq1 (wpAny_loadPart')
open PySem.MeetsSeq PySem.MeetsSeq2 PySem.MeetsSeq3
end
section
variable{prog:Program}{w:World}{A:Around}{E:Value->Shared->Prop}{s:Shared}
noncomputable def cV(n d:Nat):Option Int->Nat
 | none=>d
 | some v=>if v<0 then(v+(n:Int)).toNat else min v.toNat n
theorem Gj(n d k:Nat):cV n d (some (k:Int))=min k n:=by
 show(if(k:Int)<0 then((k:Int)+(n:Int)).toNat else min (k:Int).toNat n)=min k n
 rw[if_neg (by omega),gB]
end
end HT
namespace L2
open PySem PySem.Spec PyProof.Rows
noncomputable abbrev TO:=St->Hp->(Option Int->Hp->Prop)->Prop
noncomputable def PO(X:Cx)(e:Option Expr)(t:TO):Prop :=
 ∀(pins:List (Addr × Obj)) (s:Shared) (σ:St) (H:Hp) (Q:Option Int->Hp->Prop),Inv X pins σ H s->t σ H Q ->
  wpAny (model X.prog X.w) X.A (evalPart e X.env) (λu s'=>∃o H',Inv X pins σ H' s'/\IsPart u o/\Q o H') X.xe s
noncomputable def cB2:TO:=λ_ H Q=>Q none H
noncomputable def cV5(t:TE):TO:=λσ H Q=>t σ H λx H1=>∃i,x=.int i/\Q (some i) H1
theorem bX6{ns:List Int}:∀{us:List Value},Vals (ns.map V.int) us->IntsAre us ns:=by
 induction ns with
 | nil=>intro us r;rw[kS]at r;cases r;exact .nil
 | cons n ns ih =>
  intro us r
  rw[eK]at r
  cases r with
  | cons r1 r2 =>
   obtain⟨t,e⟩:=r1
   subst e
   exact .cons n t (ih r2)
section
variable{X:Cx}{e:Expr}{te:TE}{lo hi:Option Expr}{tl th:TO}{pos p2:Pos}
theorem cF3:PO X none cB2:=by
 intro pins s σ H Q I h
 rw[evalPart_none]
 exact wpAny_pure ⟨none,H,I,.none,h⟩
theorem cH8(h:PE X e te):PO X (some e) (cV5 te):=by
 intro pins s σ H Q I hw
 rw[evalPart_some]
 refine aP (h pins s σ H _ I hw) λu s1 ⟨x,H1,I1,r1,q1⟩=>?_
 obtain⟨i,rfl,q⟩:=q1
 obtain⟨t,rfl⟩:=r1
 exact⟨some i,H1,I1,.int i t,q⟩
noncomputable def q9(X:Cx)(r:V->Option Int->Option Int->Hp->VK->Prop):Prop :=
 ∀(pins:List (Addr × Obj)) (s:Shared) (σ:St) (H:Hp) (x:V) (v vl vu:Value) (lo hi:Option Int) (sl:Addr) (Q:VK),Inv X pins σ H s->RelV x v->s.heap.IsSliceOf sl vl vu .none->IsPart vl lo->IsPart vu hi->r x lo hi H Q ->
  ∃T id,typeLookup (.type T) "__getitem__"=pure (some (.builtin id))/\s.TypeIs v T/\wpAny (model X.prog X.w) X.A (getItem v (.ref sl)) (EP X pins σ Q) X.xe s
theorem q9.or{r r':V->Option Int->Option Int->Hp->VK->Prop}(h:q9 X r)(h':q9 X r'):q9 X (λx lo hi H Q=>r x lo hi H Q\/r' x lo hi H Q):=by
 intro pins s σ H x v vl vu lo hi sl Q I rx hs pl pu q
 rcases q with q | q
 ·exact h pins s σ H x v vl vu lo hi sl Q I rx hs pl pu q
 ·exact h' pins s σ H x v vl vu lo hi sl Q I rx hs pl pu q
noncomputable def tSl(r:V->Option Int->Option Int->Hp->VK->Prop)(te:TE)(tl th:TO):TE:=λσ H Q=>te σ H λx H1=>tl σ H1 λl H2=>th σ H2 λu H3=>r x l u H3 Q
theorem cp5{r:V->Option Int->Option Int->Hp->VK->Prop}(hr:q9 X r)(he:PE X e te)(hl:PO X lo tl)(hu:PO X hi th):PE X (.Subscript e (.Slice lo hi none p2) pos) (tSl r te tl th):=by
 intro pins s σ H Q I h
 refine Subscript_ (aP (he pins s σ H _ I h) λv s1 ⟨x,H1,I1,r1,q1⟩=>?_)
 refine wpAny_Slice (aP (hl pins s1 σ H1 _ I1 q1) λvl s2 ⟨l,H2,I2,pl,q2⟩=>aP (hu pins s2 σ H2 _ I2 q2) λvu s3 ⟨u,H3,I3,pu,q3⟩=>?_)
 rw[evalPart_none]
 refine wpAny_pure ?_
 have I4:Inv X pins σ H3 { s3 with heap:=s3.heap.push { cls:=.type "slice",data:=.fields #[vl,vu,.none] } }:=I3.kept (t':=s3.toks) λb ob q=>eF _ q
 obtain⟨T,id,hT,ht,hg⟩:=hr pins { s3 with heap:=s3.heap.push { cls:=.type "slice",data:=.fields #[vl,vu,.none] } } σ H3 x v vl vu l u s3.heap.objs.size Q I4 r1 (Heap.IsSliceOf.new ..) pl pu q3
 show wpAny (model X.prog X.w) X.A (subscriptTail e (.Slice lo hi none p2) v (.ref s3.heap.objs.size)) (EP X pins σ Q) X.xe { s3 with heap:=s3.heap.push { cls:=.type "slice",data:=.fields #[vl,vu,.none] } }
 exact tail_any (ops:=[.ref s3.heap.objs.size,v]) ht hT hg (by with_unfolding_all rfl)
noncomputable def uN(xs:List V)(lo hi:Option Int):List V:=(xs.drop (HT.cV xs.length 0 lo)).take (HT.cV xs.length xs.length hi-HT.cV xs.length 0 lo)
theorem bN1(xs:List V)(lo hi:Option Int):(uN xs lo hi).length<=xs.length:=by
 unfold uN
 rw[jA,ui]
 omega
end
end L2
namespace L2
open PySem PySem.Spec PyProof.Rows
noncomputable def iq(n:Nat)(i:Int):Option Nat:=if 0<=i then(if i<n then some i.toNat else none)else if -(n:Int)<=i then some (i+n).toNat else none
noncomputable def eB{α:Type}(xs:List α)(i:Int):Option α:=(iq xs.length i).bind λj=>xs[j]?
theorem Sd{n:Nat}{i:Int}{j:Nat}(h:iq n i=some j):seqIndex? i n=some j/\j<n/\-(n:Int)<=i/\i<n:=by
 unfold iq at h
 by_cases h0:0<=i
 ·rw[if_pos h0]at h
  by_cases h1:i<n
  ·rw[if_pos h1]at h
   have e:i.toNat=j:=cN h
   exact⟨by rw[seqIndex_of h0 h1,e],by omega,by omega,h1⟩
  ·rw[if_neg h1]at h;cases h
 ·rw[if_neg h0]at h
  by_cases h1:-(n:Int)<=i
  ·rw[if_pos h1]at h
   have e:(i+n).toNat=j:=cN h
   exact⟨by rw[seqIndex_neg (by omega) h1,e],by omega,h1,by omega⟩
  ·rw[if_neg h1]at h;cases h
theorem jM{α:Type}{xs:List α}{i:Int}{v:α}(h:eB xs i=some v):∃j,seqIndex? i xs.length=some j/\xs[j]?=some v/\j<xs.length/\-(xs.length:Int)<=i/\i<xs.length:=by
 unfold eB at h
 cases e:iq xs.length i with
 | none=>rw[e]at h;cases h
 | some j =>
  rw[e]at h
  obtain⟨h1,h2,h3,h4⟩:=Sd e
  exact⟨j,h1,h,h2,h3,h4⟩
noncomputable def Se(b:Expr):Prop:=∀o i,subscripted b false o i=operate [o,i] (getItem o i)
noncomputable def mV(X:Cx)(r:R2):Prop :=
 ∀(value slice:Expr) (pins:List (Addr × Obj)) (s:Shared) (σ:St) (H:Hp) (x y:V) (v u:Value) (Q:VK),Inv X pins σ H s->RelV x v->RelV y u->r x y H Q ->
  subscripted slice false v u=operate [v,u] (getItem v u)->wpAny (model X.prog X.w) X.A (subscriptTail value slice v u) (EP X pins σ Q) X.xe s
noncomputable def B7(X:Cx)(id:String)(r:V->List V->Hp->VK->Prop):Prop :=
 ∀(pins:List (Addr × Obj)) (s:Shared) (σ:St) (H:Hp) (x:V) (xs:List V) (v:Value) (us:List Value) (Q:VK),Inv X pins σ H s->RelV x v->Vals xs us->r x xs H Q ->
  wpAny (model X.prog X.w) X.A (call (.builtin id) (v::us)) (EP X pins σ Q) X.xe s
section
variable{X:Cx}{a b:Expr}{ta tb:TE}{pos:Pos}
theorem mV.or{r r':R2}(h:mV X r)(h':mV X r'):mV X (λx y H Q=>r x y H Q\/r' x y H Q):=by
 intro value slice pins s σ H x y v u Q I rx ry q hs
 rcases q with q | q
 ·exact h value slice pins s σ H x y v u Q I rx ry q hs
 ·exact h' value slice pins s σ H x y v u Q I rx ry q hs
theorem c00{r:R2}(hr:mV X r)(ha:PE X a ta)(hb:PE X b tb)(hs:Se b):PE X (.Subscript a b pos) (y7 r ta tb):=by
 intro pins s σ H Q I h
 exact Subscript_ (Ga ha hb I h λv u s2 x y H2 I2 rx ry q=>hr a b pins s2 σ H2 x y v u Q I2 rx ry q (hs _ _))
noncomputable def Sf(K:PySem.W.Frag):R2:=λx y H Q=>∃p xs i v,x=.ref p/\y=.int i/\bK K H p xs/\eB xs i=some v/\Q v H
noncomputable def Sg(K:PySem.W.Frag):R2:=λx y H Q=>∃p xs i v,x=.ref p/\y=.int i/\gQ K H p xs/\eB xs i=some v/\Q v H
noncomputable def Sh:R2:=λx y H Q=>∃z i c,x=.str z/\y=.int i/\z.length<=sizeLine/\eB z.cps.toList i=some c/\Q (.str ⟨#[c]⟩) H
theorem dw3:mV X (Sf X.K):=by
 intro value slice pins s σ H x y v u Q I rx ry h hs
 obtain⟨p,xs,i,z,rfl,rfl,hq,he,q⟩:=h
 cases rx
 obtain⟨t,rfl⟩:=ry
 obtain⟨its,r,pl,hz⟩:=I.list hq
 obtain⟨j,h1,h2,h3,h4,h5⟩:=jM he
 obtain⟨w,ew,fW⟩:=r.get h2
 have hl:=r.length
 have hn:=uM
 have fin:EP X pins σ Q w s:=⟨z,H,I,fW,q⟩
 by_cases h0:0<=i
 ·have hj:i.toNat=j:=by
   rw[seqIndex_of h0 h5]at h1
   exact cN h1
  exact item_listR pl.isList h0 (by omega) (by rw[hj];simpa using ew) fin hs
 ·have hj:(i+(its.toArray.size:Int)).toNat=j:=by
   rw[seqIndex_neg (by omega) h4]at h1
   rw[dw,<- hl]
   exact cN h1
  exact subscriptTail_builtinR (x:=w) pl.isList.typeIs slot_list_getitem.lookup
   (wpAny_getItem_list_neg (Q:=λr s'=>r=w/\EP X pins σ Q r s') pl.isList (by omega) (by rw[dw]<;>omega) (by omega) (by rw[hj];simpa using ew) ⟨rfl,fin⟩) hs
theorem dw4:mV X (Sg X.K):=by
 intro value slice pins s σ H x y v u Q I rx ry h hs
 obtain⟨p,xs,i,z,rfl,rfl,hq,he,q⟩:=h
 cases rx
 obtain⟨t,rfl⟩:=ry
 obtain⟨its,r,pl,hz⟩:=I.tuple hq
 obtain⟨j,h1,h2,h3,h4,h5⟩:=jM he
 obtain⟨w,ew,fW⟩:=r.get h2
 have hl:=r.length
 have hn:=uM
 have fin:EP X pins σ Q w s:=⟨z,H,I,fW,q⟩
 exact subscriptTail_builtinR (x:=w) pl.typeIs slot_tuple_getitem.lookup
  (getItem_tuple (j:=j) (Q:=λr s'=>r=w/\EP X pins σ Q r s') pl (by omega) (by omega) (by rw[dw,<- hl];exact h1) (by simpa using ew) ⟨rfl,fin⟩) hs
theorem cT6:mV X Sh:=by
 intro value slice pins s σ H x y v u Q I rx ry h hs
 obtain⟨z,i,c,rfl,rfl,hz,he,q⟩:=h
 obtain⟨t,rfl⟩:=rx
 obtain⟨t',rfl⟩:=ry
 obtain⟨j,h1,h2,h3,h4,h5⟩:=jM he
 have hl:z.cps.toList.length=z.length:=by simp[Str.length]
 rw[hl]at h1 h4 h5
 have hn:=uM
 exact tail_any (typeIs_str s z t) slot_str_getitem.lookup (getItem_str (c:=c) (by
  have e1:decide (i < -(2 ^ 63:Int))=false:=decide_eq_false (by omega)
  have e2:decide (i ≥ 2 ^ 63)=false:=decide_eq_false (by omega)
  rw[e1,e2,qH]) (by rw[h1];simpa using h2) ⟨.str ⟨#[c]⟩,H,I.tok _,⟨_,rfl⟩,q⟩) hs
noncomputable def rIx(K:PySem.W.Frag):R2:=λx y H Q=>Sf K x y H Q\/Sg K x y H Q\/Sh x y H Q
theorem cS5:mV X (rIx X.K):=dw3.or (dw4.or cT6)
theorem bZ4(its:List Value)(n j:Nat)(u:Value):uj (·.setIfInBounds j u) { cls:=.type "list",data:=.seq its.toArray n }={ cls:=.type "list",data:=.seq (its.set j u).toArray n }:=by
 simp[uj]
theorem Inv.lst{pins:List (Addr × Obj)}{σ:St}{H:Hp}{s:Shared}{p:Addr}{xs:List V}(I:Inv X pins σ H s)(h:H p=some (.lst xs)) :
  ∃(its:List Value) (n:Nat),Vals xs its/\s.heap.get? p=some { cls:=.type "list",data:=.seq its.toArray n }/\xs.length<=sizeLine:=by
 obtain⟨z,its,n,r,e⟩:=I.aG p _ h
 exact⟨its,n,r,e,z⟩
theorem Inv.dw9{pins:List (Addr × Obj)}{σ:St}{H:Hp}{s:Shared}{p:Addr}{xs ys:List V}{its its':List Value}{n n':Nat}{f:Obj->Obj}(I:Inv X pins σ H s)(h:H p=some (.lst xs))
  (ho:s.heap.get? p=some { cls:=.type "list",data:=.seq its.toArray n }) (hf:f { cls:=.type "list",data:=.seq its.toArray n }={ cls:=.type "list",data:=.seq its'.toArray n' }) (r:Vals ys its') (hz:ys.length<=sizeLine) (t:Nat) :
  Inv X pins σ (upd H p (.lst ys)) { s with heap:=s.heap.update p f,toks:=t }:=by
 have e:(s.heap.update p f).get? p=some { cls:=.type "list",data:=.seq its'.toArray n' }:=by
  rw[Bl f ho (by rw[hf]<;>rfl),hf]
 refine I.write (x:=p) (e:=p) (by rw[h];trivial) (.inl rfl) (λb u hb q=>(ow _ _ (fg hb)).trans q) ⟨_,e⟩ ?_
 exact⟨hz,its',n',r,e⟩
noncomputable def cX6:V->V->V->Hp->(Hp->Prop)->Prop:=λo i v H Q=>∃p xs k j,o=.ref p/\i=.int k/\H p=some (.lst xs)/\iq xs.length k=some j/\Q (upd H p (.lst (xs.set j v)))
theorem cp7:RM X cX6:=by
 intro pins s σ H o i v ov iv u Q I ro ri rv h
 obtain⟨p,xs,k,j,rfl,rfl,hp,hj,q⟩:=h
 cases ro
 obtain⟨t,rfl⟩:=ri
 obtain⟨its,n,r,ho,hz⟩:=I.lst hp
 obtain⟨h1,h2,h3,h4⟩:=Sd hj
 have hl:=r.length
 have hn:=uM
 have I':Inv X pins σ (upd H p (.lst (xs.set j v))) { s with heap:=s.heap.update p (uj (·.setIfInBounds j u)) } :=
  I.dw9 hp ho (bZ4 its n j u) (r.set rv j) (by rw[mE];exact hz) s.toks
 by_cases h0:0<=k
 ·have hk:k.toNat=j:=by
   rw[seqIndex_of h0 h4]at h1
   exact cN h1
  exact PySem.W.ki_setAt ho h0 (by omega) (by rw[dw,<- hl];exact h4) (by rw[hk];exact⟨_,I',q⟩)
 ·have hk:(k+(its.toArray.size:Int)).toNat=j:=by
   rw[seqIndex_neg (by omega) h3]at h1
   rw[dw,<- hl]
   exact cN h1
  exact PySem.W.ki_setBack ho (by omega) (by rw[dw,<- hl];exact h3) (by omega) (by rw[hk];exact⟨_,I',q⟩)
theorem Gk(lo hi:Option Int)(n:Nat):(sliceBounds lo hi none n).1=((HT.cV n 0 lo:Nat):Int)/\(sliceBounds lo hi none n).2.1=((HT.cV n n hi:Nat):Int)/\(sliceBounds lo hi none n).2.2=1:=by
 refine⟨?_,?_,rfl⟩
 ·cases lo with
  | none=>simp[sliceBounds,HT.cV]
  | some i =>
   simp only[sliceBounds,HT.cV,qI,show(1:Int)>0 by decide,if_true]
   by_cases h:i<0
   ·simp only[h,if_true]<;>omega
   ·simp only[h,if_false]<;>omega
 ·cases hi with
  | none=>simp[sliceBounds,HT.cV]
  | some i =>
   simp only[sliceBounds,HT.cV,qI,show(1:Int)>0 by decide,if_true]
   by_cases h:i<0
   ·simp only[h,if_true]<;>omega
   ·simp only[h,if_false]<;>omega
theorem bE1(its:List Value)(lo hi:Option Int):slicePick its.toArray lo hi none=((its.drop (HT.cV its.length 0 lo)).take (HT.cV its.length its.length hi-HT.cV its.length 0 lo)).toArray:=by
 obtain⟨h1,h2,h3⟩:=Gk lo hi its.toArray.size
 unfold slicePick
 rw[h1,h2,h3]
 simp only[sliceRange_one,pick_run,dw]<;>rfl
noncomputable def c89(K:PySem.W.Frag):V->Option Int->Option Int->Hp->VK->Prop:=λx lo hi H Q=>∃a xs,x=.ref a/\bK K H a xs/\∀p,H p=none->Q (.ref p) (upd H p (.lst (uN xs lo hi)))
theorem dx4:q9 X (c89 X.K):=by
 intro pins s σ H x v vl vu lo hi sl Q I rx hs pl pu h
 obtain⟨a,xs,rfl,hx,q⟩:=h
 cases rx
 obtain⟨its,r,ht,hz⟩:=I.list hx
 have hlen:=r.length
 refine⟨"list",_,slot_list_getitem.lookup,ht.isList.typeIs,?_⟩
 refine wpAny_getItem_list_slice ht.isList hs pl pu .none (by simp) ?_ (by rw[dw]<;>omega)
 rw[bE1,<- hlen]
 refine⟨.ref s.heap.objs.size,_,I.laid (t':=s.toks) (o:=.lst (uN xs lo hi)) (λb ob q=>eF _ q) (bJ _) ?_,rfl,q _ (I.aG.fresh (bJ _))⟩
 exact⟨eH (bN1 xs lo hi) hz,_,0,(r.drop (HT.cV xs.length 0 lo)).take (HT.cV xs.length xs.length hi-HT.cV xs.length 0 lo),fO _ rfl⟩
noncomputable def mW:V->Bool
 | .aw=>true
 | .bl _=>true
 | .int _=>true
 | .str _=>true
 | _=>false
noncomputable def lL:V->V->Bool
 | .aw,.aw=>true
 | .bl a,.bl b=>a==b
 | .bl a,.int b=>(if a then 1 else 0)==b
 | .int a,.bl b=>a==(if b then 1 else 0)
 | .int a,.int b=>a==b
 | .str a,.str b=>a==b
 | _,_=>false
theorem cM0{A:Around}{s:Shared}{y x:V}{u v:Value}(ry:RelV y u)(rx:RelV x v)(fy:mW y=true)(fx:mW x=true):Fe A s u v (lL y x):=by
 cases y with
 | aw =>
  cases ry
  cases x with
  | aw=>cases rx;exact SeqAt.EqAt.same _
  | bl b=>cases rx;exact SeqAt.EqAt.none_bool b
  | int b=>obtain⟨t,rfl⟩:=rx;exact SeqAt.EqAt.none_int b t
  | str b=>obtain⟨t,rfl⟩:=rx;exact SeqAt.EqAt.none_str b t
  | _=>exact absurd (show false=true from fx) fN
 | bl a =>
  cases ry
  cases x with
  | aw=>cases rx;exact SeqAt.EqAt.bool_none a
  | bl b=>cases rx;exact SeqAt.EqAt.bool_bool a b
  | int b=>obtain⟨t,rfl⟩:=rx;exact SeqAt.EqAt.bool_int a b t
  | str b=>obtain⟨t,rfl⟩:=rx;exact SeqAt.EqAt.bool_str a b t
  | _=>exact absurd (show false=true from fx) fN
 | int a =>
  obtain⟨t',rfl⟩:=ry
  cases x with
  | aw=>cases rx;exact SeqAt.EqAt.int_none a t'
  | bl b=>cases rx;exact SeqAt.EqAt.int_bool a t' b
  | int b=>obtain⟨t,rfl⟩:=rx;exact SeqAt.EqAt.int_int a t' b t
  | str b=>obtain⟨t,rfl⟩:=rx;exact SeqAt.EqAt.int_str a t' b t
  | _=>exact absurd (show false=true from fx) fN
 | str a =>
  obtain⟨t',rfl⟩:=ry
  cases x with
  | aw=>cases rx;exact SeqAt.EqAt.str_none a t'
  | bl b=>cases rx;exact SeqAt.EqAt.str_bool a t' b
  | int b=>obtain⟨t,rfl⟩:=rx;exact SeqAt.EqAt.str_int a t' b t
  | str b=>obtain⟨t,rfl⟩:=rx;exact SeqAt.EqAt.str_str a t' b t
  | _=>exact absurd (show false=true from fx) fN
 | _=>exact absurd (show false=true from fy) fN
noncomputable def mX(x:V)(u:Value):Bool:=match u with
 | .none=>lL .aw x
 | .bool b=>lL (.bl b) x
 | .int i _=>lL (.int i) x
 | .str z _=>lL (.str z) x
 | _=>false
theorem Si{x y:V}{u:Value}(r:RelV y u)(f:mW y=true):mX x u=lL y x:=by
 cases y with
 | aw=>cases r;rfl
 | bl b=>cases r;rfl
 | int i=>obtain⟨t,rfl⟩:=r;rfl
 | str z=>obtain⟨t,rfl⟩:=r;rfl
 | _=>exact absurd (show false=true from f) fN
theorem Gm{x:V}:∀{xs:List V} {us:List Value},Vals xs us->xs.all mW=true->us.any (mX x)=xs.any λy=>lL y x
 | _,_,.nil,_=>rfl
 | y::xs,u::us,.cons r t,f=>by
  rw[eL,dY]at f
  rw[List.any_cons,List.any_cons,Si r f.1,Gm t f.2]
theorem Gp{A:Around}{s:Shared}{x:V}{v:Value}(rx:RelV x v)(fx:mW x=true):∀{xs:List V} {us:List Value},Vals xs us->xs.all mW=true->∀u∈us,Fe A s u v (mX x u)
 | _,_,.nil,_=>λu hu=>by cases hu
 | y::xs,u::us,.cons r t,f=>λu' hu=>by
  rw[eL,dY]at f
  rcases bY.mp hu with rfl | hu
  ·rw[Si r f.1];exact cM0 r rx f.1 fx
  ·exact Gp rx fx t f.2 u' hu
noncomputable def zc(x:V)(xs:List V):Bool:=xs.any λy=>lL y x
noncomputable def rIn(K:PySem.W.Frag)(neg:Bool):R2:=λx y H Q=>∃p xs,y=.ref p/\(bK K H p xs\/gQ K H p xs)/\mW x=true/\xs.all mW=true/\Q (.bl (if neg then !zc x xs else zc x xs)) H
theorem b74:cB X (compareOp .In) (rIn X.K false):=by
 intro pins s σ H x y v u Q I rx ry h
 obtain⟨p,xs,rfl,hq,fx,fs,q⟩:=h
 cases ry
 rcases hq with hq | hq
 ·obtain⟨its,r,pl,hz⟩:=I.list hq
  refine SeqAt.in_listAt (mX x) pl.isList (λw hw=>Gp rx fx r fs w (by simpa using hw)) ⟨.bl _,H,I,rfl,?_⟩
  rw[show its.toArray.any (mX x)=its.any (mX x) by simp,Gm r fs]
  exact q
 ·obtain⟨its,r,pl,hz⟩:=I.tuple hq
  refine SeqAt.in_tupleAt (mX x) pl (λw hw=>Gp rx fx r fs w (by simpa using hw)) ⟨.bl _,H,I,rfl,?_⟩
  rw[show its.toArray.any (mX x)=its.any (mX x) by simp,Gm r fs]
  exact q
theorem dx8:gq X (.builtin "len") (λxs H Q=>∃p ys,xs=[.ref p]/\(bK X.K H p ys\/gQ X.K H p ys)/\Q (.int ys.length) H):=by
 intro pins s σ H xs us Q I r h
 obtain⟨p,ys,rfl,hq,q⟩:=h
 obtain⟨u,rfl,rx⟩:=Gd r
 cases rx
 have hn:=uM
 rcases hq with hq | hq
 ·obtain⟨its,r',pl,hz⟩:=I.list hq
  have hlen:=r'.length
  exact Calls.call_len_list pl.isList (by simp only[dw]<;>omega) ⟨.int ys.length,H,I.tok _,⟨s.toks+1,by rw[dw,hlen]⟩,q⟩
 ·obtain⟨its,r',pl,hz⟩:=I.tuple hq
  have hlen:=r'.length
  exact len_tuple pl (by simp only[dw]<;>omega) ⟨.int ys.length,H,I.tok _,⟨s.toks+1,by rw[dw,hlen]⟩,q⟩
theorem bJ8:gq X (.builtin "len") (λxs H Q=>∃z,xs=[.str z]/\z.length<=sizeLine/\Q (.int z.length) H):=by
 intro pins s σ H xs us Q I r h
 obtain⟨z,rfl,hz,q⟩:=h
 obtain⟨u,rfl,t,rfl⟩:=Gd r
 have hn:=uM
 exact len_str (by omega) ⟨.int z.length,H,I.tok _,⟨_,rfl⟩,q⟩
theorem gq.or{f:Value}{r r':List V->Hp->VK->Prop}(h:gq X f r)(h':gq X f r'):gq X f (λxs H Q=>r xs H Q\/r' xs H Q):=by
 intro pins s σ H xs us Q I rs q
 rcases q with q | q
 ·exact h pins s σ H xs us Q I rs q
 ·exact h' pins s σ H xs us Q I rs q
theorem bK9:gq X (.type "list") (λxs H Q=>∃p ys,xs=[.ref p]/\(bK X.K H p ys\/gQ X.K H p ys)/\∀l,H l=none->Q (.ref l) (upd H l (.lst ys))):=by
 intro pins s σ H xs us Q I r h
 obtain⟨p,ys,rfl,hq,q⟩:=h
 obtain⟨u,rfl,rx⟩:=Gd r
 cases rx
 have fin:∀(its:List Value),Vals ys its->ys.length<=sizeLine->∀(h':Heap) (c':Nat),(∀b o',s.heap.get? b=some o'->h'.get? b=some o') ->
   h'.get? s.heap.objs.size=some { cls:=.type "list",dict:=none,data:=.seq its.toArray c',slots:=#[] }->EP X pins σ Q (.ref s.heap.objs.size) { s with heap:=h' }:=λits r' hz h' c' kp e =>
  ⟨.ref s.heap.objs.size,_,I.laid (t':=s.toks) kp (bJ _) (show dQ X.prog X.w _ h' _ (.lst ys) from⟨hz,its,c',r',e⟩),rfl,q _ (I.aG.fresh (bJ _))⟩
 rcases hq with hq | hq
 ·obtain⟨its,r',pl,hz⟩:=I.list hq
  have hlen:=r'.length
  obtain⟨o,ho,hc,n,hd⟩:=pl.isList
  exact call_list_seq p (.inl rfl) ho hc hd (λh' c' kp e=>fin its r' hz h' c' kp e) (by simp only[dw]<;>omega)
 ·obtain⟨its,r',pl,hz⟩:=I.tuple hq
  have hlen:=r'.length
  obtain⟨o,ho,hc,n,hd⟩:=pl
  exact call_list_seq p (.inr rfl) ho hc hd (λh' c' kp e=>fin its r' hz h' c' kp e) (by simp only[dw]<;>omega)
noncomputable def Gq(K:PySem.W.Frag)(T:String)(x:V)(H:Hp):Prop:=match x with
 | .str _=>T="str"
 | .int _=>T="int"
 | .ref p=>(T="list"/\∃xs,bK K H p xs)\/(T="tuple"/\∃o,K.lookup p=some o/\o.cls=.type "tuple"/\o.dict=none) \/
   (T="dict"/\((∃dD,H p=some (.dK dD))\/∃dD,H p=some (.dT dD)))\/(T="set"/\∃S n,H p=some (.set S n))
 | _=>False
theorem Sj{pins:List (Addr × Obj)}{σ:St}{H:Hp}{s:Shared}{T:String}{x:V}{v:Value}(I:Inv X pins σ H s)(r:RelV x v)(ty:Gq X.K T x H) :
  s.TypeIs v T/\∀a,v=.ref a->∃ob,s.heap.get? a=some ob/\ob.dict=none:=by
 cases x with
 | str z =>
  obtain⟨t,rfl⟩:=r
  cases(show T="str" from ty)
  exact⟨typeIs_str s z t,λ_ e=>nomatch e⟩
 | int i =>
  obtain⟨t,rfl⟩:=r
  cases(show T="int" from ty)
  exact⟨typeIs_int s i t,λ_ e=>nomatch e⟩
 | ref p =>
  cases r
  rcases ty with⟨rfl,xs,hq⟩ | ⟨rfl,o,hk,hc,hd⟩ | ⟨rfl,hk⟩ | ⟨rfl,S,n,hk⟩
  ·obtain⟨its,_,pl,_⟩:=I.list hq
   refine⟨pl.isList.typeIs,λa e=>?_⟩
   cases e
   obtain⟨o,n,e,c,hd,_⟩:=pl
   exact⟨o,e,hd⟩
  ·refine⟨⟨o,I.df p o hk,hc⟩,λa e=>?_⟩
   cases e
   exact⟨o,I.df _ o hk,hd⟩
  ·have z:∃o,s.heap.get? p=some o/\o.ExactDict:=by
    rcases hk with⟨dD,hk⟩ | ⟨dD,hk⟩
    ·obtain⟨_,_,_,_,o,_,_,e,ex,_⟩:=I.aG p _ hk
     exact⟨o,e,ex⟩
    ·obtain⟨_,_,_,_,o,_,_,e,ex,_⟩:=I.aG p _ hk
     exact⟨o,e,ex⟩
   obtain⟨o,e,ex⟩:=z
   refine⟨⟨o,e,ex.1⟩,λa e2=>?_⟩
   cases e2
   exact⟨o,e,ex.2.1⟩
  ·obtain⟨o,_,_,_,e,ex,_⟩:=I.aG p _ hk
   refine⟨⟨o,e,ex.1⟩,λa e2=>?_⟩
   cases e2
   exact⟨o,e,ex.2.1⟩
 | _=>exact fL ty
noncomputable def Sk(K:PySem.W.Frag)(T:String)(r:V->List V->Hp->VK->Prop)(to:TE):TE:=λσ H Q=>to σ H λx H1=>Gq K T x H1/\r x [] H1 Q
noncomputable def tBM(K:PySem.W.Frag)(T:String)(r:V->List V->Hp->VK->Prop)(to:TE)(t:TA):TE:=λσ H Q=>to σ H λx H1=>Gq K T x H1/\t σ H1 λxs H2=>r x xs H2 Q
variable{o e:Expr}{es:List Expr}{to:TE}{t:TA}{name:Str}{apos cg:Pos}{T id:String}{r:V->List V->Hp->VK->Prop}
theorem Sl(pa:PlainAttrs T)(slot:Slot T name id)(Gr:typeOf (.builtin id)=pure (.type "method_descriptor"))(hm:B7 X id r)(ho:PE X o to)
  (kh:attributeBase o name X.env (eval o X.env)=eval o X.env:=by rfl) (ki:(apos.endLine==cg.line)=true:=by rfl):PE X (.Call (.Attribute o name apos) [] [] cg) (Sk X.K T r to):=by
 intro pins s σ H Q I h
 refine wpAny_Call_method0_late kh ki (aP (ho pins s σ H _ I h) λv s1 ⟨x,H1,I1,r1,ty,q1⟩=>?_)
 obtain⟨h1,h2⟩:=Sj I1 r1 ty
 exact⟨T,id,pa,slot,Gr,h1,h2,Calls.callWith_builtin rfl (PySem.evalArgs_none (hm pins s1 σ H1 x [] v [] Q I1 r1 .nil q1))⟩
theorem cY6(pa:PlainAttrs T)(slot:Slot T name id)(Gr:typeOf (.builtin id)=pure (.type "method_descriptor"))(hm:B7 X id r)(ho:PE X o to)(ha:PA X (e::es) t)
  (kh:attributeBase o name X.env (eval o X.env)=eval o X.env:=by rfl)
  (Gs:((backTo cg (starEach (e::es) X.env)).all (λx=>!x.1)&&(backToKw cg (keywordEach [] X.env)).all (λx=>x.1.isSome)
   && decide ((e::es).length+([]:List Keyword).length+(if([]:List Keyword).isEmpty then 0 else 1)<30))=true:=by rfl)
  (ki:(apos.endLine==cg.line)=true:=by rfl) (hs:starEach (e::es) X.env=(false,eval e X.env)::starEach es X.env:=by rfl) (Gu:(backTo cg (starEach es X.env)).any (·.1)=false:=by rfl) :
  PE X (.Call (.Attribute o name apos) (e::es) [] cg) (tBM X.K T r to t):=by
 intro pins s σ H Q I h
 refine wpAny_Call_method_late kh Gs ki rfl (aP (ho pins s σ H _ I h) λv s1 ⟨x,H1,I1,r1,ty,q1⟩=>?_)
 obtain⟨h1,h2⟩:=Sj I1 r1 ty
 refine⟨T,id,pa,slot,Gr,h1,h2,?_⟩
 have hA:=ha cg pins s1 σ H1 _ I1 q1
 rw[hs]at hA ⊢
 refine Calls.callWith_builtin (by show(false||(backTo cg (starEach es X.env)).any (·.1))=false;rw[Gu]<;>rfl) (Calls.evalArgs_plain ?_)
 exact aP hA λus s2 ⟨vs,H2,I2,r2,q2⟩=>hm pins s2 σ H2 x vs v us Q I2 r1 r2 q2
/- xs.append(e),list.index on a fu2 tuple .. are B7 facts of 06m -/
end
end L2
namespace L2
open PySem PySem.Spec PyProof.Rows
noncomputable def Sm(X:Cx)(id:String)(r:V->List V->Hp->VK->Prop):Prop :=
 ∀(pins:List (Addr × Obj)) (s:Shared) (σ:St) (H:Hp) (x:V) (xs:List V) (v:Value) (us:List Value) (Q:VK),Inv X pins σ H s->RelV x v->Vals xs us->r x xs H Q ->
  wpAny (model X.prog X.w) X.A (call (.builtin id) (v::us)) (EP X pins σ Q) X.xe s
theorem Vals.one:∀{x:V} {us:List Value},Vals [x] us->∃u,us=[u]/\RelV x u
 | _,_,.cons r .nil=>⟨_,rfl,r⟩
theorem Vals.two:∀{x y:V} {us:List Value},Vals [x,y] us->∃u v,us=[u,v]/\RelV x u/\RelV y v
 | _,_,_,.cons r (.cons q .nil)=>⟨_,_,rfl,r,q⟩
theorem Vals.zero:∀{us:List Value},Vals [] us->us=[]
 | _,.nil=>rfl
theorem Vals.dropLast{xs:List V}{us:List Value}(h:Vals xs us):Vals xs.dropLast us.dropLast:=by
 induction h with
 | nil=>exact .nil
 | cons r t ih =>
  cases t with
  | nil=>exact .nil
  | cons q t'=>exact .cons r ih
theorem Vals.rep{xs:List V}{us:List Value}(h:Vals xs us):∀k:Nat,Vals (aT k xs).flatten (aT k us).flatten
 | 0=>.nil
 | k+1=>by
  rw[qJ,qJ,uk,uk]
  exact Vals.append h (Vals.rep h k)
theorem bY9{α:Type}(l:List α):l.eraseIdx (l.length-1)=l.dropLast:=by
 induction l with
 | nil=>rfl
 | cons a r ih =>
  cases r with
  | nil=>rfl
  | cons b r =>
   have e:(a::b::r).length-1=((b::r).length-1)+1:=by
    have h1:(a::b::r).length=r.length+2:=rfl
    have h2:(b::r).length=r.length+1:=rfl
    omega
   rw[e,List.eraseIdx_cons_succ,ih]
   all_goals rfl
theorem Sn(its:List Value):∀(k:Nat) (acc:List Value),
  List.foldl (λx1 x2=>x1++x2) acc.toArray (aT k its.toArray)=(acc++(aT k its).flatten).toArray
 | 0,acc=>by simp
 | k+1,acc=>by
  have e:acc.toArray++its.toArray=(acc++its).toArray:=by simp
  have e2:(acc++its)++(aT k its).flatten=acc++(aT (k+1) its).flatten:=by
   rw[qJ,uk,fC]
  rw[<-e2,<- Sn its k (acc++its),<- e,qJ,qK]
section
variable{X:Cx}{pins:List (Addr × Obj)}{σ:St}{H:Hp}{s:Shared}{l b:Addr}{xs ys zs:List V}
theorem Inv.So{its its':List Value}{n:Nat}{f:Array Value->Array Value}{t':Nat}(I:Inv X pins σ H s)(hH:H l=some (.lst xs))
  (e:s.heap.get? l=some { cls:=.type "list",data:=.seq its.toArray n }) (hf:f its.toArray=its'.toArray) (hv:Vals ys its') (hz:ys.length<=sizeLine) :
  Inv X pins σ (upd H l (.lst ys)) { s with heap:=s.heap.update l (uj f),toks:=t' }:=by
 have q:=PySem.IsL.update e f
 rw[hf]at q
 refine I.write (x:=l) (e:=l) (by rw[hH];exact trivial) (.inl rfl) (λb' u hb hu=>(ow s.heap (uj f) (fg hb)).trans hu) ⟨_,q⟩ ?_
 exact⟨hz,its',_,hv,q⟩
theorem Inv.Sq{its:List Value}{t':Nat}(I:Inv X pins σ H s)(hv:Vals ys its)(hz:ys.length<=sizeLine) :
  Inv X pins σ (upd H s.heap.objs.size (.lst ys)) { s with heap:=s.heap.push { cls:=.type "list",data:=.seq its.toArray },toks:=t' } :=
 I.laid (λ_ _ q=>eF _ q) (bJ _) ⟨hz,its,0,hv,fO _ rfl⟩
theorem Inv.fresh(I:Inv X pins σ H s):H s.heap.objs.size=none:=I.aG.fresh (bJ _)
theorem Inv.zd(I:Inv X pins σ H s)(hH:H l=some (.lst xs)):xs.length<=sizeLine/\∃(its:List Value) (n:Nat),Vals xs its/\xs.length=its.length/\s.heap.get? l=some { cls:=.type "list",data:=.seq its.toArray n }:=by
 obtain⟨z,its,n,r,e⟩:=I.aG l _ hH
 exact⟨z,its,n,r,r.length,e⟩
theorem cn9{n:Nat}(h:n<=sizeLine):QW n=false:=by
 unfold QW
 exact decide_eq_false (by omega)
end
section
variable{X:Cx}
noncomputable def cD2:V->List V->Hp->VK->Prop:=λx vs H Q=>∃l xs y,x=.ref l/\vs=[y]/\H l=some (.lst xs)/\xs.length<sizeLine/\Q .aw (upd H l (.lst (xs++[y])))
theorem Sr:Sm X "list.append" cD2:=by
 intro pins s σ H x vs v us Q I rx rv h
 obtain⟨l,xs,y,rfl,rfl,hH,hz,q⟩:=h
 cases rx
 obtain⟨u,rfl,ru⟩:=rv.one
 obtain⟨z,its,n,r,hl,e⟩:=I.zd hH
 refine call_meets F.slot_list_append ⟨_,e,rfl⟩ F.entry_list_append (F.args_list_append_2 _ _) (PySem.list_append l its.toArray n u (by rw[dw];omega)) ⟨e,?_⟩
 refine⟨.aw,_,I.So (its':=its++[u]) hH e (by simp) (r.append (.cons ru .nil)) ?_,rfl,q⟩
 rw[fB,Bo]
 omega
noncomputable def c86:V->List V->Hp->VK->Prop:=λx vs H Q=>∃l xs y,x=.ref l/\vs=[]/\H l=some (.lst xs)/\xs[xs.length-1]?=some y/\Q y (upd H l (.lst xs.dropLast))
theorem cN7:Sm X "list.pop" c86:=by
 intro pins s σ H x vs v us Q I rx rv h
 obtain⟨l,xs,y,rfl,rfl,hH,hy,q⟩:=h
 cases rx
 have B8:=rv.zero
 subst B8
 obtain⟨z,its,n,r,hl,e⟩:=I.zd hH
 obtain⟨u,hu,ru⟩:=r.get hy
 have Gv:its.toArray[its.toArray.size-1]?=some u:=by
  show its.toArray[its.length-1]?=some u
  rw[<-QX,<- hl]
  exact hu
 refine call_meets F.slot_list_pop ⟨_,e,rfl⟩ F.entry_list_pop (F.args_list_pop_1 _) (MeetsSeq.list_pop_last l its.toArray n u Gv (by rw[dw];omega)) ⟨e,?_⟩
 refine⟨y,_,I.So (its':=its.dropLast) hH e ?_ r.dropLast ?_,ru,q⟩
 ·show its.toArray.eraseIdxIfInBounds (its.toArray.size-1)=its.dropLast.toArray
  rw[dw,List.eraseIdxIfInBounds_toArray,bY9]
 ·rw[List.length_dropLast]
  omega
noncomputable def c94:R2:=λx y H Q=>∃l b xs zs,x=.ref l/\y=.ref b/\H l=some (.lst xs)/\H b=some (.lst zs)/\xs.length+zs.length<=sizeLine/\∀p,H p=none->Q (.ref p) (upd H p (.lst (xs++zs)))
theorem Ss:cB X (binaryOp .Add) c94:=by
 intro pins s σ H x y v u Q I rx ry h
 obtain⟨l,b,xs,zs,rfl,rfl,hH,hB,hz,q⟩:=h
 cases rx
 cases ry
 obtain⟨z,its,n,r,hl,e⟩:=I.zd hH
 obtain⟨z2,Su,n2,r2,uO,e2⟩:=I.zd hB
 refine PySem.P.add_list e e2 ?_ (by rw[dw,dw];omega)
 have ea:its.toArray++Su.toArray=(its++Su).toArray:=by simp
 rw[ea]
 exact⟨.ref _,_,I.Sq (t':=s.toks) (r.append r2) (by rw[fB];omega),rfl,q _ I.fresh⟩
noncomputable def c93:R2:=λx y H Q=>∃l k xs,x=.ref l/\y=.int k/\H l=some (.lst xs)/\-(2 ^ 63)<=k/\k<2 ^ 63/\xs.length*k.toNat<=sizeLine /\
 ∀p,H p=none->Q (.ref p) (upd H p (.lst (aT k.toNat xs).flatten))
theorem cG8{α:Type}(xs:List α)(k:Nat):(aT k xs).flatten.length=k*xs.length:=by
 induction k with
 | zero=>simp
 | succ k ih=>rw[qJ,uk,fB,ih,Nat.succ_mul,Bp]
theorem cU1:cB X (binaryOp .Mult) c93:=by
 intro pins s σ H x y v u Q I rx ry h
 obtain⟨l,k,xs,rfl,rfl,hH,h1,h2,hz,q⟩:=h
 cases rx
 obtain⟨t,rfl⟩:=ry
 obtain⟨z,its,n,r,hl,e⟩:=I.zd hH
 have hlen:its.toArray.size*k.toNat<=sizeLine:=by rw[dw,<- hl];exact hz
 have dz2:¬ its.toArray.size*k.toNat>(2 ^ 63-1)/8:=by
  have:(sizeLine:Nat)<=(2 ^ 63-1)/8:=by decide
  omega
 have dz3:¬ (!Builtin.List.listFitsIndex k)=true:=by
  rw[fitsIndex_both h1 h2]
  exact fN
 have dz4:¬ QW (its.toArray.size*k.toNat)=true:=by
  rw[cn9 hlen]
  exact fN
 have dz5:List.foldl (λx1 x2=>x1++x2) #[] (aT (if its.toArray.isEmpty=true then 0 else k.toNat) its.toArray)=(aT k.toNat its).flatten.toArray:=by
  have f0:∀m:Nat,List.foldl (λx1 x2=>x1++x2) #[] (aT m its.toArray)=(aT m its).flatten.toArray:=λm=>by
   have:=Sn its m []
   rw[mF]at this
   exact this
  rw[f0]
  cases its with
  | nil=>simp
  | cons a r'=>rw[if_neg (by simp)]
 refine wpAny_binaryOp_repeat_ref (T:="list") (U:="int") (by decide) ⟨_,e,rfl⟩ (λs'=>typeIs_int s' k t) noFill_list_mul F.fills_int_mul F.slot_int_rmul repeat_list F.slot_int_index.lookup
  (call_meets F.slot_int_rmul (typeIs_int s k t) F.entry_int_rmul (F.args_int_rmul_2 _ _) (int___rmul___int_list k t l its.toArray n)
   ⟨e,rfl,⟨_,e,rfl⟩,call_meets F.slot_list_mul ⟨_,e,rfl⟩ F.entry_list_mul (F.args_list_mul_2 _ _) (AutoListH.list___mul___list_int_3 l its.toArray n k t dz3 dz2 dz4) ⟨e,?_⟩⟩)
 rw[dz5]
 exact⟨.ref _,_,I.Sq (t':=s.toks) (r.rep k.toNat) (by rw[cG8,mG];exact hz),rfl,q _ I.fresh⟩
end
section
variable{prog:Program}{w:World}{A:Around}{E:Value->Shared->Prop}{s:Shared}
end
section
variable{X:Cx}
end
end L2
namespace Att
open PySem PySem.W PySem.Calls PyProof.Rows
theorem bw5{P:Params}{h:Heap}:∀(ns:List Int) (vs:List Value),WellAll P h vs (ns.map WData.int)->IntsAre vs ns:=by
 intro ns
 induction ns with
 | nil =>
  intro vs w
  rw[kS]at w
  cases w
  exact .nil
 | cons n ns ih =>
  intro vs w
  rw[eK]at w
  cases w with
  | cons a b =>
   cases a
   exact .cons _ _ (ih _ b)
theorem cc6{l:OpenLaw}{n:Nat}(hn:l.most=some n){P:Params}{h:Heap}{args:List WData}{vals:List Value}
  (B9:l.row.toRowW.claim.pre args=true) (Gw:WellAll P h vals args) :
  ∃a vs ns,vals=[ff a]/\args=[WData.list (ns.map WData.int)]/\h.get? a=some { cls:=.type "list",data:=.seq vs.toArray }/\IntsAre vs ns/\ns.length<=n:=by
 have ze:WShape.hasAll [] args [.list .int]=true:=(pre_splitW B9).1
 have hc:l.pre.holds [] { args:=args }=true:=(pre_splitW B9).2
 obtain⟨d,r,rfl,h1,h2⟩:=hasAllW_cons ze
 obtain rfl:=hasAllW_nil h2
 obtain⟨xs,rfl,h3⟩:=hasW_list h1
 obtain⟨ns,rfl⟩:=items_int h3
 have hlen:ns.length<=n:=by
  unfold OpenLaw.pre at hc
  have h4:(WTm.not (.lt (.lit (.int (n:Int))) (.len (.arg 0)))).holds [] { args:=[.list (ns.map .int)] }=true:=by
   have h4:=(holds_andW hc).1
   rw[hn]at h4
   exact h4
  have h5:=condW_of h4 (w_not (w_lt w_lit (w_len_list (w_arg rfl))))
  rw[bu]at h5
  refine Nat.le_of_not_lt λq=>?_
  have q':(n:Int)<((ns.length:Nat):Int):=by omega
  first
   | (rw[decide_eq_true q']at h5;exact absurd h5 (by decide))
   | (simp at h5;omega)
 cases Gw with
 | cons w1 w2 =>
  cases w2
  cases w1 with
  | list ho dz8=>exact⟨_,_,ns,rfl,rfl,ho,bw5 ns _ dz8,hlen⟩
theorem cg1(l:OpenLaw)(args:List WData):l.row.toRowW.claim.post args (.bool true) args=true :=
 postW_of (r:=l.row.toRowW) (X:=(true==true))
  (show WShape.has [] (.bool true) .bool=true by first | rfl | decide | simp[WShape.has,WShape.arms,WShape.armsAll])
  (show(WTm.eq .res (.lit (.bool true))).value [] { args:=args,res:=some (.bool true),after:=args }=some (.bool (true==true)) from w_eq_bool (w_res rfl) w_lit) rfl
theorem dA0{l:OpenLaw}{n:Nat}{q:Program}{loose:List Str}{XP:(Str->Option Value)->Heap->Prop}{YP:World->Heap->Prop}{d:DefRec}
  (hn:l.most=some n) (zf:d.params.defaults=[])
  (call:∀(w:World) (cK bF:Shared) (mg mb:Str->Option Value) (fa:Addr) (o:Obj) (pm cd doc:Value) (a:Addr) (vs:List Value) (ns:List Int),
   Ground q loose [] XP w cK mg mb bF.heap->YP w bF.heap ->
   bF.heap.get? fa=some o->o.data=.func (docDef d.name d.params d.body d.scope pm cd doc)->bF.heap.CodeRec cd d.name->mg d.name=some (.ref fa) ->
   bF.heap.get? a=some { cls:=.type "list",data:=.seq vs.toArray }->IntsAre vs ns->ns.length<=n->bF.gens=#[] ->
   codeAny (model l.prog w) callerA (.call (.ref fa) ⟨[.ref a],[]⟩) (λr s'=>r=.ok (.ret (.bool true))/\OldK bF.heap s'.heap/\s'.os=bF.os/\AllBare s'.gens) bF) :
  WalkO q loose XP YP l.row.toRowW d [] (λf vs=>PySem.call f vs):=by
 intro w cK bF mg mb G Y fa o pm cd doc dV kV ho hd cO hD zh hg args vals as B9 fu3 hrd Gw dh
 obtain rfl:dV=.none:=Dflts.none hD zf
 obtain rfl:kV=.none:=Dflts.noKw hD
 obtain⟨a,vs,ns,rfl,rfl,Gx,hints,hlen⟩:=cc6 hn B9 Gw
 refine enter_call (codeAny_mono (call w cK bF mg mb fa o pm cd doc a vs ns G Y ho (fd_plain hd) cO zh Gx hints hlen hg) λr s' hq=>?_)
 obtain⟨rfl,h2,h3,h4⟩:=hq
 exact⟨.inl ⟨.bool true,.bool true,[],rfl,λ_=>rfl,.bool true,cg1 l _,λ_=>⟨List.Pairwise.nil,λ_ hm=>(nomatch hm)⟩⟩,h2,h3,h4⟩
section
variable{prog:Program}{w:World}{A:Around}{E:Value->Shared->Prop}{s:Shared}{K:Frag}
end
end Att
namespace L2
open PySem PySem.Spec PyProof.Rows
theorem Sv:∀{vs:List Value} {ns:List Int},IntsAre vs ns->Vals (ns.map V.int) vs
 | _,_,.nil=>.nil
 | _,_,.cons n t h=>.cons ⟨t,rfl⟩ (Sv h)
end L2
namespace L2
open PySem PySem.Spec PyProof.Rows
end L2
/- THE fu6 fu7 (shape;LID,My.* are fu9):
   My.kj: a structure of Sw addresses fv0 fv1 fv2 names (classes,fv3);My.Txt K t: a structure (Prop) of Sw equations over K;
   My.fv4:{K} {implicit addresses ..} (e1:nsIn K mainGlobals "law"=some (some (.ref f))) (e2:K.lookup f=some ⟨oc,od,.func (fnOf "law" "law" params body scope dV kV doc pm an aE ct),sl⟩) (e3:codeIn K aE "law"=true) ..:∃t,My.Txt K t
(Sw tactic k_is has no namespace: write k_is) -/
namespace L2
open PySem PySem.Spec PyProof.Rows
noncomputable def gF(s:Stmt)(j:Nat):Stmt:=match s with
 | .ClassDef _ _ _ body _ _ _ _ _ _ _=>body.getD j (.Pass ⟨0,0,0,0⟩)
 | _=>.Pass ⟨0,0,0,0⟩
noncomputable def bg(s:Stmt):Arguments:=match s with
 | .FunctionDef _ a _ _ _ _ _ _ _ _=>a
 | _=>{ posonlyargs:=[],args:=[],vararg:=none,kwonlyargs:=[],kw_defaults:=[],kwarg:=none,defaults:=[] }
noncomputable def aX(s:Stmt):List Stmt:=match s with
 | .FunctionDef _ _ b _ _ _ _ _ _ _=>b
 | _=>[]
noncomputable def ax(s:Stmt):Scope:=match s with
 | .FunctionDef _ _ _ _ _ _ sc _ _ _=>sc
 | _=>{ kind:=.function,names:=[],isGenerator:=false,isCoroutine:=false }
noncomputable abbrev aS:eZ:=λ_ _ _ _ _ _=>False
noncomputable abbrev E0:XK:=λ_ _ _=>False
theorem aW{X:Cx}:lJ aS X E0:=λ_ _ _ _ _ _ _ h=>h.elim
structure aY(K:PySem.W.Frag)(x qual:Str)(st:Stmt)(f:Addr)(fd:FuncData):Prop where
 ex:∃(oc:Value) (od:Option Addr) (kV doc pm:Value) (an:Option Addr) (aE ct:Value) (lK:Array (Option Value)),
  fd=PySem.W.fnOf x qual (bg st) (aX st) (ax st) .none kV doc pm an aE ct/\K.lookup f=some ⟨oc,od,.func fd,lK⟩/\PySem.W.codeIn K aE qual=true
 kp:PySem.W.keepIn K (.ref f)=true
section
variable{P:Program}{w:World}{K:PySem.W.Frag}{mg:Str->Option Value}{base:Heap}
theorem aY.ok{x qual:Str}{st:Stmt}{f:Addr}{fd:FuncData}{N ps:List Str}{k:Nat}{sp:Sp}(F:aY K x qual st f fd)(S:bf N ps (ax st))(len:∀vs H Q E,sp vs H Q E->vs.length=ps.length)
  (ik:∀(aE:Value) (A:Around) (outer:List Env) (s:Shared) (H:Hp) (vs:List V) (Q:VK) (E:XK),cC k (A.deeper (envOfC qual (ax st) s.heap.objs.size f aE))->sp vs H Q E ->
   ∃t,PSs (iM aS P w K mg base N qual (ax st) f aE A outer s H E).gD (aX st) t/\t { nx:=λ_ H'=>Q .aw H',rt:=Q } (start N vs) H):aN P w K mg base aS (k+1) f fd ps sp:=by
 obtain⟨oc,od,kV,doc,pm,an,aE,ct,lK,rfl,lk,cO⟩:=F.ex
 refine Gh lk cO S len λA outer s H vs Q E hr iN=>?_
 obtain⟨t,h,q⟩:=ik aE A outer s H vs Q E hr iN
 exact⟨t,h.gD,q⟩
theorem aY.binds{x qual:Str}{st:Stmt}{f:Addr}{fd:FuncData}{ps:List Str}(F:aY K x qual st f fd)
  (h:∀(kV doc pm:Value) (an:Option Addr) (aE ct:Value) (us:List Value),us.length=ps.length->bindArgs (PySem.W.fnOf x qual (bg st) (aX st) (ax st) .none kV doc pm an aE ct) ⟨us,[]⟩=pure (ps.zip us)):Binds K fd ps []:=by
 obtain⟨oc,od,kV,doc,pm,an,aE,ct,lK,rfl,lk,cO⟩:=F.ex
 exact .all (h kV doc pm an aE ct)
theorem bw{x qual:Str}{st:Stmt}{f:Addr}{oc:Value}{od an:Option Addr}{lK:Array (Option Value)}{kV doc pm aE ct:Value}(l:K.lookup f=some ⟨oc,od,.func (PySem.W.fnOf x qual (bg st) (aX st) (ax st) .none kV doc pm an aE ct),lK⟩)
  (c:PySem.W.codeIn K aE qual=true) (k:PySem.W.keepIn K (.ref f)=true):aY K x qual st f (PySem.W.fnOf x qual (bg st) (aX st) (ax st) .none kV doc pm an aE ct):=⟨⟨oc,od,kV,doc,pm,an,aE,ct,lK,rfl,l,c⟩,k⟩
end
section
variable{X:Cx}
theorem pv(i:Nat){x:Str}{pos:Pos}(hN:X.N[i]?=some x:=by rfl)(hv:lh X.env.scope x:=by first | exact ai rfl | exact bx (ai rfl) | exact bx (bx rfl))(hd:(x==("__debug__":Str))=false:=by decide)
  (cO:(x==("__classdict__":Str))=false:=by decide):PE X (.Name x pos) (RK i):=qT hN hv hd cO
end
theorem lM{A B:Prop}(h:B):if false=true then A else B:=by
 rw[if_neg fN]
 exact h
theorem oM{A B:Prop}(h:A):if true=true then A else B:=by
 rw[if_pos rfl]
 exact h
end L2
namespace Mf
noncomputable def bl(n:Nat):Nat:=if n=0 then 0 else n.log2+1
theorem eM{n m:Nat}:bl n<=m↔n<2 ^ m:=by
 unfold bl
 by_cases h:n=0
 ·simp[h,yp]
 ·rw[if_neg h]
  rw[<-Nat.log2_lt h]
  omega
theorem Gy{n m:Nat}:m<bl n↔2 ^ m<=n:=by
 have:=@eM n m
 omega
theorem iP(n:Nat):n<2 ^ bl n:=eM.mp (bJ _)
theorem Sx{n:Nat}(h:n≠0):2 ^ (bl n-1)<=n:=by
 have:0<bl n:=by unfold bl;rw[if_neg h];omega
 exact Gy.mp (by omega)
theorem gR{n:Nat}(h:n≠0):0<bl n:=by
 unfold bl;rw[if_neg h];omega
theorem mY:bl 0=0:=rfl
theorem uP{n:Nat}(h:n≠0):n.testBit (bl n-1)=true:=by
 have h1:=Sx h
 have h2:=iP n
 have hp:=gR h
 have e:bl n=(bl n-1)+1:=by omega
 rw[e,qL]at h2
 rw[df7]
 have:n/2 ^ (bl n-1)=1:=by
  apply Nat.div_eq_of_lt_le
  ·omega
  ·omega
 rw[this];rfl
theorem bX3{x n:Nat}(h:∀i,n<=i->x.testBit i=false):x<2 ^ n:=by
 apply Nat.lt_pow_two_of_testBit
 intro i hi
 exact h i hi
theorem Sy{x y n:Nat}(hx:x<2 ^ (n+1))(hy:y<2 ^ (n+1))(tx:x.testBit n=true)(ty:y.testBit n=true):x ^^^ y<2 ^ n:=by
 apply bX3
 intro i hi
 rw[mH]
 by_cases e:i=n
 ·rw[e,tx,ty];rfl
 ·have fi:n+1<=i:=by omega
  have p:2 ^ (n+1)<=2 ^ i:=Bq (by decide) fi
  rw[Ff (cT hx p),Ff (cT hy p)]
  rfl
theorem Sz(x y z:Nat):(x ^^^ y) ^^^ (z ^^^ y)=x ^^^ z:=by
 apply Br;intro i;simp only[mH]
 cases x.testBit i<;>cases y.testBit i<;>cases z.testBit i<;>rfl
theorem SA(x y z t:Nat):(x ^^^ y) ^^^ (z ^^^ t)=(x ^^^ z) ^^^ (y ^^^ t):=by
 apply Br;intro i;simp only[mH]
 cases x.testBit i<;>cases y.testBit i<;>cases z.testBit i<;>cases t.testBit i<;>rfl
noncomputable def P(a b:Nat):Nat->Nat
 | 0=>0
 | k+1=>P a b k ^^^ (if b.testBit k then a <<< k else 0)
noncomputable def cl(a b:Nat):Nat:=P a b (bl b)
theorem SD{a b k:Nat}(h:b<2 ^ k):∀j,P a b (k+j)=P a b k
 | 0=>rfl
 | j+1=>by
  show P a b (k+j) ^^^ (if b.testBit (k+j)then a <<< (k+j)else 0)=_
  rw[SD h j]
  have p:2 ^ k<=2 ^ (k+j):=Bq (by decide) (by omega)
  rw[Ff (cT h p)]
  simp
theorem uQ{a b k:Nat}(h:b<2 ^ k):P a b k=cl a b:=by
 have h1:=eM.mpr h
 have e:k=bl b+(k-bl b):=by omega
 rw[e,SD (iP b)]
 rfl
theorem SE(a a' b:Nat):∀k,P (a ^^^ a') b k=P a b k ^^^ P a' b k
 | 0=>(kT 0).symm
 | k+1=>by
  show P (a ^^^ a') b k ^^^ _=(P a b k ^^^ _) ^^^ (P a' b k ^^^ _)
  rw[SE a a' b k]
  by_cases t:b.testBit k=true
  ·rw[if_pos t,if_pos t,if_pos t,df8]
   ac_rfl
  ·rw[if_neg t,if_neg t,if_neg t]
   simp
theorem SF(a b b':Nat):∀k,P a (b ^^^ b') k=P a b k ^^^ P a b' k
 | 0=>(kT 0).symm
 | k+1=>by
  show P a (b ^^^ b') k ^^^ _=(P a b k ^^^ _) ^^^ (P a b' k ^^^ _)
  rw[SF a b b' k,mH]
  cases b.testBit k<;>cases b'.testBit k<;>simp
  ·ac_rfl
  ·ac_rfl
  ·exact(Sz _ _ _).symm
theorem oN(a a' b:Nat):cl (a ^^^ a') b=cl a b ^^^ cl a' b:=SE a a' b _
theorem uR{x y n:Nat}(hx:x<2 ^ n)(hy:y<2 ^ n):x ^^^ y<2 ^ n:=Nat.xor_lt_two_pow hx hy
theorem bI2(a b b':Nat):cl a (b ^^^ b')=cl a b ^^^ cl a b':=by
 let k:=bl b+bl b'
 have h1:b<2 ^ k:=eM.mp (by omega)
 have h2:b'<2 ^ k:=eM.mp (by omega)
 rw[<-uQ (uR h1 h2),<- uQ h1,<- uQ h2,SF]
theorem cC4(a:Nat):cl a 0=0:=rfl
theorem SG(b:Nat):∀k,P 0 b k=0
 | 0=>rfl
 | k+1=>by
  show P 0 b k ^^^ _=0
  rw[SG b k];simp
theorem oO(b:Nat):cl 0 b=0:=SG b _
theorem bK1(b k:Nat):(b/2).testBit k=b.testBit (k+1):=by
 rw[Fg]
theorem SH(a b:Nat):∀k,P a b (k+1)=(if b%2=1 then a else 0) ^^^ P (2*a) (b/2) k
 | 0=>by
  show 0 ^^^ _=_ ^^^ 0
  rw[oy,kT,Bt]
  simp
 | k+1=>by
  show P a b (k+1) ^^^ _=_ ^^^ (P (2*a) (b/2) k ^^^ _)
  rw[SH a b k,bK1,qM]
  have e:a <<< (k+1)=(2*a) <<< k:=by
   rw[jX,jX,qL]
   rw[mG 2 a,um,mG 2]
  rw[e]
theorem SI{b k:Nat}(h:b<2 ^ (k+1)):b/2<2 ^ k:=by
 rw[qL]at h;omega
theorem SJ(a b:Nat):cl a b=(if b%2=1 then a else 0) ^^^ cl (2*a) (b/2):=by
 have h:b<2 ^ (bl b+1):=QY (iP b) (by rw[qL];have:=yp (bl b);omega)
 rw[<-uQ h,SH,uQ (SI h)]
theorem SK(a b:Nat):∀k,P (2*a) b k=2*P a b k
 | 0=>rfl
 | k+1=>by
  show P (2*a) b k ^^^ _=2*(P a b k ^^^ _)
  rw[SK a b k]
  have d:∀x y:Nat,2*(x ^^^ y)=2*x ^^^ 2*y:=by
   intro x y
   have h:=@df8 1 x y
   rw[jX,jX,jX,Nat.pow_one]at h
   rw[mG 2 (x ^^^ y),mG 2 x,mG 2 y]
   exact h
  rw[d]
  by_cases t:b.testBit k=true
  ·rw[if_pos t,if_pos t,jX,jX,um]
  ·rw[if_neg t,if_neg t]
theorem Gz(a b:Nat):cl (2*a) b=2*cl a b:=SK a b _
theorem zi(a c t:Nat)(ht:t<2):cl a (2*c+t)=2*cl a c ^^^ (if t=1 then a else 0):=by
 rw[SJ,Gz,QZ]
 have e1:(2*c+t)/2=c:=by omega
 have e2:(2*c+t)%2=t:=by omega
 rw[e1,e2]
theorem cR5(a c:Nat):cl a (2*c)=2*cl a c:=by
 have h:=zi a c 0 (by decide)
 simpa using h
theorem SM(c t:Nat)(ht:t<2):2*c ^^^ t=2*c+t:=by
 apply Br
 intro i
 cases i with
 | zero =>
  rw[mH,Bt,Bt,Bt]
  have:t=0\/t=1:=by omega
  rcases this with h | h<;>subst h<;>simp<;>omega
 | succ i =>
  rw[mH,Fg,Fg,Fg]
  have e1:2*c/2=c:=by omega
  have e2:t/2=0:=by omega
  have e3:(2*c+t)/2=c:=by omega
  rw[e1,e2,e3];simp
theorem GA:∀b:Nat,cl 1 b=b:=by
 intro b
 induction b using Fh with
 | ind b ih =>
  by_cases h:b=0
  ·subst h;rfl
  ·have e:b=2*(b/2)+b%2:=by omega
   rw[e,zi 1 (b/2) (b%2) (by omega),ih (b/2) (by omega)]
   have:b%2=0\/b%2=1:=by omega
   rcases this with h | h
   ·rw[h];simp
   ·rw[h];rw[if_pos rfl];exact SM _ _ (by decide)
theorem zj:∀b a:Nat,cl a b=cl b a:=by
 intro b
 induction b using Fh with
 | ind b ih =>
  intro a
  by_cases h:b=0
  ·subst h;rw[oO];rfl
  ·have e:b=2*(b/2)+b%2:=by omega
   have lt:b%2<2:=by omega
   have e':cl b a=cl (2*(b/2) ^^^ b%2) a:=by rw[SM _ _ lt,<- e]
   rw[e',oN,Gz,<- ih (b/2) (by omega) a]
   have e'':cl a b=cl a (2*(b/2)+b%2):=by rw[<-e]
   rw[e'',zi _ _ _ lt]
   have:b%2=0\/b%2=1:=by omega
   rcases this with h | h
   ·rw[h,oO];rfl
   ·rw[h,GA];rfl
theorem GB{a m:Nat}(h:a<2 ^ m)(b:Nat):∀k,P a b (k+1)<2 ^ (m+k)
 | 0=>by
  show 0 ^^^ _<_
  rw[oy,Nat.add_zero]
  by_cases t:b.testBit 0=true
  ·rw[if_pos t];simpa using h
  ·rw[if_neg t];exact yp m
 | k+1=>by
  show P a b (k+1) ^^^ _<_
  have i:=GB h b k
  have p:2 ^ (m+k)<=2 ^ (m+(k+1)):=Bq (by decide) (by omega)
  apply uR (cT i p)
  by_cases t:b.testBit (k+1)=true
  ·rw[if_pos t,jX,Nat.pow_add 2 m]
   exact(df9 (yp _)).mpr h
  ·rw[if_neg t];exact yp _
theorem cW0{a b m n:Nat}(h:a<2 ^ m)(h':b<2 ^ (n+1)):cl a b<2 ^ (m+n):=by
 rw[<-uQ h'];exact GB h b n
theorem cV6{a b:Nat}(ha:a≠0)(hb:b≠0):2 ^ (bl a-1+(bl b-1))<=cl a b:=by
 have e:bl b=(bl b-1)+1:=by have:=gR hb;omega
 have ta:=uP ha
 have tb:=uP hb
 apply Nat.ge_two_pow_of_testBit
 unfold cl
 rw[e]
 show(P a b (bl b-1) ^^^ _).testBit _=true
 have e2:bl b-1+1-1=bl b-1:=by omega
 rw[e2,mH,if_pos tb]
 have f:(P a b (bl b-1)).testBit (bl a-1+(bl b-1))=false:=by
  cases q:bl b-1 with
  | zero=>show Nat.testBit 0 _=false;exact Nat.zero_testBit _
  | succ k =>
   apply Ff
   have l:=GB (iP a) b k
   have p:=gR ha
   have e3:bl a-1+(k+1)=bl a+k:=by omega
   rw[e3];exact l
 rw[f,dg0]
 have e4:bl a-1+(bl b-1)-(bl b-1)=bl a-1:=by omega
 rw[e4,ta]
 simp
theorem SN{a b:Nat}(ha:a≠0)(hb:b≠0):bl (cl a b)=bl a+bl b-1:=by
 have p1:=gR ha
 have p2:=gR hb
 have h1:bl (cl a b)<=bl a+(bl b-1):=eM.mpr (cW0 (iP a) (by
  have e:bl b-1+1=bl b:=by omega
  rw[e];exact iP b))
 have h2:=Gy.mpr (cV6 ha hb)
 omega
theorem SO(s b:Nat):cl (2 ^ s) b=b <<< s:=by
 induction s with
 | zero=>rw[Nat.pow_zero,GA];rfl
 | succ s ih =>
  rw[qL,mG,Gz,ih,jX,jX,qL]
  rw[<-um,mG 2,um,mG 2,<- um,um]
theorem cj8{a q b r s:Nat}(h:a=cl q b ^^^ r):a=cl (q ^^^ 2 ^ s) b ^^^ (r ^^^ b <<< s):=by
 rw[oN,SO,h,Sz]
theorem SQ{b r:Nat}(hb:b≠0)(h:bl b<=bl r):bl (r ^^^ b <<< (bl r-bl b))<bl r:=by
 have p:=gR hb
 have hr:r≠0:=by
  intro z;rw[z,mY]at h;omega
 have:r ^^^ b <<< (bl r-bl b)<2 ^ (bl r-1):=by
  apply Sy
  ·have e:bl r-1+1=bl r:=by omega
   rw[e];exact iP r
  ·have e:bl r-1+1=bl b+(bl r-bl b):=by omega
   rw[e,jX,Nat.pow_add]
   exact(df9 (yp _)).mpr (iP b)
  ·exact uP hr
  ·rw[dg0]
   have e:bl r-1-(bl r-bl b)=bl b-1:=by omega
   rw[e,uP hb]
   simp;omega
 have:=eM.mpr this
 omega
theorem bX9{x y z:Nat}(h:x ^^^ y=z):x=z ^^^ y:=by
 rw[<-h,qM,Bu,kT]
theorem GC{x y:Nat}(h:x ^^^ y=0):x=y:=by
 have:=bX9 h
 rwa [oy]at this
theorem bX1{b q r q' r':Nat}(h:cl q b ^^^ r=cl q' b ^^^ r')(hr:bl r<bl b)(cW:bl r'<bl b):q=q'/\r=r':=by
 have hb:b≠0:=by intro z;rw[z,mY]at hr;omega
 have e:cl (q ^^^ q') b=r ^^^ r':=by
  rw[oN]
  have z:(cl q b ^^^ r) ^^^ (cl q' b ^^^ r')=0:=by rw[h,Bu]
  rw[SA]at z
  exact GC z
 have lt:bl (r ^^^ r')<bl b:=by
  have h1:r<2 ^ (bl b-1):=eM.mp (by omega)
  have h2:r'<2 ^ (bl b-1):=eM.mp (by omega)
  have:=eM.mpr (uR h1 h2)
  have:=gR hb
  omega
 have z:q ^^^ q'=0:=by
  apply dg1
  intro hq
  have h1:=SN hq hb
  have h2:=gR hq
  rw[e]at h1
  omega
 have zq:=GC z
 subst zq
 rw[z,oO]at e
 exact⟨rfl,GC e.symm⟩
end Mf
namespace Mf
open PySem PySem.Builtin.Int
theorem cB5(x y:Nat):(x ^^^ y)+2*(x &&& y)=x+y:=by
 induction x using Fh generalizing y with
 | ind x ih =>
  by_cases h:x=0
  ·subst h;simp
  ·have h1:=ih (x/2) (by omega) (y/2)
   have e1:(x ^^^ y)/2=x/2 ^^^ y/2:=Nat.xor_div_two
   have e2:(x &&& y)/2=x/2 &&& y/2:=Nat.and_div_two
   have t:∀n:Nat,n%2=if n.testBit 0=true then 1 else 0:=by
    intro n
    rw[Bt]
    by_cases h:n%2=1
    ·simp[h]
    ·simp[h];omega
   have m1:(x ^^^ y)%2=(x%2+y%2)%2:=by
    rw[t (x ^^^ y),t x,t y,mH]
    cases x.testBit 0<;>cases y.testBit 0<;>rfl
   have m2:(x &&& y)%2=x%2*(y%2):=by
    rw[t (x &&& y),t x,t y,Q0]
    cases x.testBit 0<;>cases y.testBit 0<;>rfl
   have d1:=Nat.div_add_mod (x ^^^ y) 2
   have d2:=Nat.div_add_mod (x &&& y) 2
   rw[e1]at d1
   rw[e2]at d2
   have hx:x%2=0\/x%2=1:=by omega
   have hy:y%2=0\/y%2=1:=by omega
   rcases hx with hx | hx<;>rcases hy with hy | hy<;>rw[hx,hy]at m1 m2<;>omega
theorem SR{x y:Int}(hx:0<=x)(hy:0<=y):om x y=((x.toNat &&& y.toNat:Nat):Int):=by
 unfold om
 rw[decide_eq_true hx,decide_eq_true hy]
theorem cq3{x y:Int}(hx:0<=x)(hy:0<=y):Builtin.bitOr x y=((x.toNat ||| y.toNat:Nat):Int):=by
 unfold Builtin.bitOr om Builtin.bitNot
 rw[decide_eq_false (by omega),decide_eq_false (by omega)]
 show-(-((((- (-x-1)-1).toNat ||| (-(-y-1)-1).toNat:Nat):Int))-1)-1=_
 have e1:(- (-x-1)-1).toNat=x.toNat:=by omega
 have e2:(- (-y-1)-1).toNat=y.toNat:=by omega
 rw[e1,e2]
 omega
theorem cR7(x y:Nat):(x ||| y)=(x ^^^ y)+(x &&& y):=by
 have d:(x ^^^ y) &&& (x &&& y)=0:=by
  apply Br;intro i
  simp only[mH,Q0,Nat.zero_testBit]
  cases x.testBit i<;>cases y.testBit i<;>rfl
 have e:(x ||| y)=(x ^^^ y) ^^^ (x &&& y):=by
  apply Br;intro i
  simp only[mH,Q0,Nat.testBit_or]
  cases x.testBit i<;>cases y.testBit i<;>rfl
 have h:=cB5 (x ^^^ y) (x &&& y)
 rw[d]at h
 rw[e];omega
theorem ch3{x y:Int}(hx:0<=x)(hy:0<=y):oo x y=((x.toNat ^^^ y.toNat:Nat):Int):=by
 unfold oo
 rw[cq3 hx hy,SR hx hy,cR7]
 omega
theorem km(x y:Nat):oo (x:Int) (y:Int)=((x ^^^ y:Nat):Int):=by
 rw[ch3 (by omega) (by omega)];rfl
theorem SS(x y:Nat):om (x:Int) (y:Int)=((x &&& y:Nat):Int):=by
 rw[SR (by omega) (by omega)];rfl
theorem uS(x k:Nat):(x:Int)*2 ^ ((k:Int)).toNat=((x <<< k:Nat):Int):=by
 rw[jX]
 simp
theorem cH6(x k:Nat):(x:Int)/2 ^ ((k:Int)).toNat=((x >>> k:Nat):Int):=by
 rw[dg2]
 simp
theorem cJ8(x k:Nat):((x >>> k) &&& 1=1)↔x.testBit k=true:=by
 rw[df7,dg2]
 have:(x/2 ^ k) &&& 1=(x/2 ^ k)%2:=Nat.and_two_pow_sub_one_eq_mod _ 1
 rw[this]
 simp
end Mf
namespace Mf
end Mf
namespace Mf
theorem SU(a b:Nat):∀c,cl (cl a b) c=cl a (cl b c):=by
 intro c
 induction c using Fh with
 | ind c ih =>
  by_cases h:c=0
  ·subst h;rfl
  ·have e:c=2*(c/2)+c%2:=by omega
   have lt:c%2<2:=by omega
   have i:=ih (c/2) (by omega)
   rw[e,zi _ _ _ lt,zi _ _ _ lt,i,bI2,cR5]
   have:c%2=0\/c%2=1:=by omega
   rcases this with h | h
   ·rw[h];rfl
   ·rw[h];rfl
noncomputable def uT:Nat->Nat->Nat->Nat
 | 0,a,_=>a
 | n+1,a,b=>if bl a<bl b then a else uT n (a ^^^ b <<< (bl a-bl b)) b
noncomputable def md(a b:Nat):Nat:=uT (bl a+1) a b
theorem SV{b:Nat}(hb:b≠0):∀n a,bl a<n->(∃q,a=cl q b ^^^ uT n a b)/\bl (uT n a b)<bl b
 | 0,_,h=>absurd h (by omega)
 | n+1,a,h=>by
  unfold uT
  by_cases l:bl a<bl b
  ·rw[if_pos l]
   exact⟨⟨0,by rw[oO,oy]⟩,l⟩
  ·rw[if_neg l]
   have less:=SQ hb (show bl b<=bl a by omega)
   obtain⟨⟨q,e⟩,l2⟩:=SV hb n (a ^^^ b <<< (bl a-bl b)) (by omega)
   refine⟨⟨q ^^^ 2 ^ (bl a-bl b),?_⟩,l2⟩
   rw[oN,SO]
   have e2:a=(a ^^^ b <<< (bl a-bl b)) ^^^ b <<< (bl a-bl b):=by rw[qM,Bu,kT]
   rw[e]at e2
   refine e2.trans ?_
   generalize uT n _ b=r
   rw[qM,QZ r,<- qM]
theorem zk{b:Nat}(hb:b≠0)(a:Nat):(∃q,a=cl q b ^^^ md a b)/\bl (md a b)<bl b:=SV hb _ a (by omega)
theorem zo{a b q r:Nat}(h:a=cl q b ^^^ r)(hr:bl r<bl b):md a b=r:=by
 have hb:b≠0:=by intro z;rw[z,mY]at hr;omega
 obtain⟨⟨q',e⟩,l⟩:=zk hb a
 exact(bX1 (e.symm.trans h) l hr).2
theorem cW3(q:Nat){b:Nat}(hb:b≠0):md (cl q b) b=0 :=
 zo (q:=q) (by rw[kT]) (by rw[mY];exact gR hb)
end Mf
namespace Mf
theorem cF9(y:Nat):bl (y/2)=bl y-1:=by
 by_cases h:y=0
 ·subst h;rfl
 ·have p:=gR h
  have h1:bl (y/2)<=bl y-1:=eM.mpr (SI (by
   have e:bl y-1+1=bl y:=by omega
   rw[e];exact iP y))
  have h2:bl y<=bl (y/2)+1:=eM.mpr (by
   have:=iP (y/2)
   rw[qL];omega)
  omega
theorem cN8(x:Nat):bl (2*x)<=bl x+1:=eM.mpr (by
 have:=iP x
 rw[qL];omega)
theorem GD{x y:Nat}(h:x<=y):bl x<=bl y:=eM.mpr (mI h (iP y))
end Mf
namespace Mf
noncomputable def al(a:Nat):Bool:=decide (2<=a)&&(aO (2 ^ ((bl a-1)/2+1)-2)).all λi=>md a (2+i) != 0
theorem co3{a:Nat}(h:a<2):al a=false:=by
 unfold al;rw[decide_eq_false (by omega)];rfl
theorem cD8{a:Nat}(h:2<=a)(k:∀i,i<2 ^ ((bl a-1)/2+1)-2->md a (2+i)≠0):al a=true:=by
 unfold al
 rw[decide_eq_true h,mJ,cU]
 intro i hi
 have:=k i (de.mp hi)
 simpa using this
theorem cr0{a i:Nat}(k:i<2 ^ ((bl a-1)/2+1)-2)(z:md a (2+i)=0):al a=false:=by
 unfold al
 rw[Bool.and_eq_false_iff]
 right
 rw[List.all_eq_false]
 exact⟨i,de.mpr k,by simp[z]⟩
theorem cq5{a:Nat}(h:2<=a){b:Nat}(hb:b<2 ^ ((bl a-1)/2+1)):b<a/\2*bl b<=bl a+1:=by
 have h2:2<=bl a:=by
  have:=Gy.mpr (show 2 ^ 1<=a by omega)
  omega
 have l:=eM.mpr hb
 refine⟨cT hb (eH (Bq (by decide) ?_) (Sx (by omega))),by omega⟩
 omega
end Mf
namespace L2
open PySem PySem.Spec PyProof.Rows Mf
theorem di:bootBuiltins "len"=some (.builtin "len"):=by decide +kernel
theorem bF2:bootBuiltins "isinstance"=some (.builtin "isinstance"):=by decide +kernel
theorem cM9:bootBuiltins "max"=some (.builtin "max"):=by decide +kernel
theorem GF:bootBuiltins "min"=some (.builtin "min"):=by decide +kernel
theorem GG:bootBuiltins "all"=some (.builtin "all"):=by decide +kernel
theorem cN2:bootBuiltins "any"=some (.builtin "any"):=by decide +kernel
theorem cL2:bootBuiltins "sum"=some (.builtin "sum"):=by decide +kernel
theorem cO4:bootBuiltins "int"=some (.type "int"):=by decide +kernel
theorem cE3:bootBuiltins "bool"=some (.type "bool"):=by decide +kernel
theorem rf:bootBuiltins "list"=some (.type "list"):=by decide +kernel
section
variable{X:Cx}{a b o:Expr}{ta tb to:TE}{pos apos cg:Pos}
theorem SW(i:Int):Builtin.Int.intBits i=bl i.natAbs:=by
 unfold Builtin.Int.intBits bl
 by_cases h:i=0
 ·subst h;rfl
 ·have h':¬ i.natAbs=0:=by omega
  rw[if_neg h',if_neg (by simpa using h)]
noncomputable def SX:V->List V->Hp->VK->Prop:=λx vs H Q=>∃i,x=.int i/\vs=[]/\Q (.int (bl i.natAbs:Nat)) H
theorem ca4:B7 X "int.bit_length" SX:=by
 intro pins s σ H x xs v us Q I rx rs h
 obtain⟨i,rfl,rfl,q⟩:=h
 obtain⟨t,rfl⟩:=rx
 cases rs
 refine call_int_bit_length ?_
 rw[SW]
 exact⟨.int _,H,I.tok _,⟨_,rfl⟩,q⟩
theorem GH(ho:PE X o to)(kh:attributeBase o "bit_length" X.env (eval o X.env)=eval o X.env:=by rfl)(ki:(apos.endLine==cg.line)=true:=by rfl) :
  PE X (.Call (.Attribute o "bit_length" apos) [] [] cg) (Sk X.K "int" SX to) :=
 Sl PySem.F.plainAttrs_int PySem.F.slot_int_bit_length PySem.F.type_int_bit_length ca4 ho kh ki
noncomputable def SY(i j:Int):Prop:=0<=j/\((bl i.natAbs:Nat):Int)+j<=134217728
theorem S0:cB X (binaryOp .LShift) (rI SY λi j=>.int (i*2 ^ j.toNat)):=y9 λi j _ _ _ _ _ hc q =>
 lshift_int hc.1 (by rw[SW];exact Int.le_trans hc.2 (by decide)) q
theorem cX7{x:Str}{n:String}(hg:Gl X x)(hm:X.mg x=none)(hv:bootBuiltins x=some (.type n))(hn:x≠"__name__":=by decide)(hd:(x==("__debug__":Str))=false:=by decide):PE X (.Name x pos) (tC (.ty n)) :=
 cG3 hg hm hv rfl hn hd
noncomputable def c95(K:PySem.W.Frag):List V->Hp->VK->Prop:=λxs H Q=>∃x n t b,xs=[x,.ty n]/\ij K H x t/\PySem.W.kitOne K t (.type n)=some b/\Q (.bl b) H
theorem bw0:gq X (.builtin "isinstance") (c95 X.K):=by
 intro pins s σ H xs us Q I r h
 obtain⟨x,n,t,b,rfl,ty,e,q⟩:=h
 obtain⟨u,v,rfl,ru,rv⟩:=r.two
 cases(show v=ud n from rv)
 exact cc4 I ru ty e λtk=>⟨.bl b,H,I.tok _,rfl,q⟩
end
theorem cI3(b i:Nat):decide (V.int (om ((b:Int)/2 ^ ((0:Int)+(i:Int)).toNat) 1)=V.int 1)=b.testBit i:=by
 have e:((0:Int)+(i:Int)).toNat=((i:Int)).toNat:=by omega
 rw[e,cH6,show(1:Int)=((1:Nat):Int) from rfl,SS,uo,decide_eq_true_iff,<- cJ8]
 constructor
 ·intro h;injection h with h;omega
 ·intro h;rw[h]
theorem cp2{a b i:Nat}(h:b.testBit i=true):oo ((P a b i:Nat):Int) ((a:Int)*2 ^ ((0:Int)+(i:Int)).toNat)=((P a b (i+1):Nat):Int):=by
 have e:((0:Int)+(i:Int)).toNat=((i:Int)).toNat:=by omega
 rw[e,uS,km]
 show _=((P a b i ^^^ (if b.testBit i then a <<< i else 0):Nat):Int)
 rw[if_pos h]
theorem bY5{a b i:Nat}(h:¬ b.testBit i=true):P a b (i+1)=P a b i:=by
 show P a b i ^^^ (if b.testBit i then a <<< i else 0)=_
 rw[if_neg h,kT]
theorem dI{i j:Int}:decide (V.int i=V.int j)=true↔i=j:=by
 rw[decide_eq_true_iff]
 exact⟨λh=>by injection h,λh=>by rw[h]⟩
end L2
namespace L2
open PySem PySem.Spec PyProof.Rows
section
variable{X:Cx}
end
end L2
namespace L2
open PySem PySem.Spec PyProof.Rows
noncomputable def Ca(X:Cx)(scope:Scope)(N:List Str)(cl:List (Str × Addr))(C:Addr)(s:Shared)(H:Hp)(fp:List Addr):Cx where
 prog:=X.prog
 w:=X.w
 K:=X.K
 mg:=X.mg
 base:=X.base
 A:=X.A
 N:=N
 cK:=s
 j8:=H
 env:=compEnvC scope cl C X.env
 outer:=X.stack
 stack:=X.stack
 ex:=fp
 fn:=λ_=>false
 calm:=X.calm
 pn:=[]
 xe:=λ_ _=>False
noncomputable def mZ(X:Cx)(scope:Scope)(cl:List (Str × Addr)):List (Str × Nat)->Prop
 | []=>True
 | (y,i)::r=>(X.N[i]?=some y/\(X.env.scope.names.lookup y=some .cell\/X.env.scope.names.lookup y=some .free)/\((relabel scope X.env).names.lookup y=some .cell\/(relabel scope X.env).names.lookup y=some .free)/\∃c,cl.lookup y=some c/\X.env.cells.lookup y=some c)/\mZ X scope cl r
theorem mZ.at{X:Cx}{scope:Scope}{cl:List (Str × Addr)}:∀{aD:List (Str × Nat)},mZ X scope cl aD->∀p∈aD,X.N[p.2]?=some p.1/\(X.env.scope.names.lookup p.1=some .cell\/X.env.scope.names.lookup p.1=some .free)/\((relabel scope X.env).names.lookup p.1=some .cell\/(relabel scope X.env).names.lookup p.1=some .free)/\∃c,cl.lookup p.1=some c/\X.env.cells.lookup p.1=some c
 | [],_,p,hp=>absurd hp (by simp)
 | (y,i)::r,h,p,hp=>by
  rcases bY.mp hp with e | e
  ·subst e;exact h.1
  ·exact mZ.at h.2 p e
noncomputable def m3(Y:Cx)(ifs:List Expr)(t:TT):Prop :=
 ∀(pins:List (Addr × Obj)) (s:Shared) (σ:St) (H:Hp) (Q:Bool->Hp->Prop),Inv Y pins σ H s->t σ H Q ->
  wpAny (model Y.prog Y.w) Y.A (forIn ifs true λc r=>if r=true then do let ok<-isTrue c Y.env (eval c Y.env);pure (Fj ok)else pure (Fj r)) (TP Y pins σ Q) Y.xe s
noncomputable def c87:TT:=λ_ H Q=>Q true H
theorem cI2{Y:Cx}:m3 Y [] c87:=λ_ _ _ H _ I h=>wpAny_tests_nil ⟨H,I,h⟩
theorem cJ4{Y:Cx}{c:Expr}{t:TT}(h:PT Y c t):m3 Y [c] t:=λpins s σ H Q I q=>wpAny_tests_one (h pins s σ H Q I q)
section
variable{X:Cx}{elt iter:Expr}{x:Str}{px pos:Pos}{ifs:List Expr}{scope:Scope}{cl:List (Str × Addr)}{aD:List (Str × Nat)}{wi:TI}{tt:TT}{te:TE}
end
section
variable{prog:Program}{w:World}{A:Around}{R:Result->Shared->Prop}{s:Shared}
theorem bM2{elt target iter:Expr}{ifs:List Expr}{scope:Scope}{pos:Pos}{it acc:Value}{env:Env}(Iv:Nat->Shared->Prop)
  (turn:∀n s,Iv n s->wpAny (model prog w) A (pyNext it) (λr s1=>match r with
   | none=>R (.ok .next) s1
   | some v=>wpAny (model prog w) A (letOwnedTupleGo target it v) (λ_ t1=>wpAny (model prog w) A (assign target env v) (λ_ s2 =>
     wpAny (model prog w) A (forIn ifs true λc r=>if r=true then do let ok<-isTrue c env (eval c env);pure (Fj ok)else pure (Fj r)) (λok s3 =>
      if ok=true then wpAny (model prog w) A (eval elt env) (λy s4=>wpAny (model prog w) A (call (.builtin "list.append") [acc,y]) (λ_ s5=>∃m,m<n/\Iv m s5) (λ_ _=>False) s4) (λ_ _=>False) s3
      else ∃m,m<n/\Iv m s3) (λ_ _=>False) s2) (λ_ _=>False) t1) (λ_ _=>False) s1) (λ_ _=>False) s)
  (n:Nat) (h:Iv n s):codeAny (model prog w) A (.compLoop (.ListComp elt [⟨target,iter,ifs,0⟩] scope pos) 0 it acc env) R s:=by
 refine codeAny_loop rfl Iv (λn s hI=>?_) n h
 change wpAny _ A (Sem.onRaise (compTurn (.ListComp elt [⟨target,iter,ifs,0⟩] scope pos) 0 it acc env) λx=>do noteFrame x env;theTreesLotGoes x) _ _ s
 refine wpAny_noted (wpAny_mono (E:=λ_ _=>False) ?_ (λ_ _ q=>q) λ_ _ z=>z.elim)
 rw[compTurn_list]
 refine wpAny_bind (wpAny_standAt (wpAny_bind (aP (turn n s hI) λr s1 h1=>?_)))
 cases r with
 | none=>exact wpAny_pure h1
 | some v =>
  refine wpAny_bind (aP h1 λ_ t1 k1=>wpAny_bind (aP k1 λ_ s2 h2=>wpAny_bind (aP h2 λok s3 h3=>?_)))
  cases ok with
  | false=>exact wpAny_pure ⟨rfl,h3⟩
  | true=>exact wpAny_bind (wpAny_bind (aP h3 λy s4 h4=>wpAny_bind (aP h4 λ_ s5 h5=>wpAny_pure (wpAny_pure ⟨rfl,h5⟩))))
end
section
variable{X:Cx}{elt iter:Expr}{x:Str}{px pos:Pos}{ifs:List Expr}{scope:Scope}{cl:List (Str × Addr)}{aD:List (Str × Nat)}{wi:TI}{tt:TT}{te:TE}
end
end L2
namespace L2
open PySem PySem.Spec PyProof.Rows
section
variable{X:Cx}
theorem S1{bs:List Bool}{us:List Value}(r:Vals (bs.map V.bl) us):bs.length=us.length/\∀(i:Nat) (v:Value),us[i]?=some v->∃b,bs[i]?=some b/\v=.bool b:=by
 have l:=r.length
 rw[bu]at l
 refine⟨l,λi v e=>?_⟩
 have hi:i<us.length:=(iB.mp e).1
 have hb:i<bs.length:=by omega
 obtain⟨u,e2,q⟩:=r.get (i:=i) (x:=V.bl bs[i]) (by rw[bX,aL hb];rfl)
 rw[e]at e2
 cases e2
 exact⟨bs[i],aL hb,q⟩
theorem GI{s:Shared}{h':Heap}{o:Obj}(hk:∀b x,b ∉ [s.heap.objs.size]->(s.heap.push o).get? b=some x->h'.get? b=some x)(b:Addr)(x:Obj)(e:s.heap.get? b=some x):h'.get? b=some x :=
 hk b x (λhm=>fw _ (by have:=bI e;rw[jB.mp hm]at this;exact this)) (eF _ e)
theorem cq6(bs:List Bool):((aO bs.length).all λi=>(bs[i]?).getD true)=bs.all id:=by
 rw[uo,cU,cU]
 constructor
 ·intro h b hb
  obtain⟨i,hi,rfl⟩:=gP hb
  have:=h i (de.mpr hi)
  rwa [aL hi]at this
 ·intro h i hi
  have fi:=de.mp hi
  rw[aL fi]
  exact h _ (dP fi)
theorem cp4(bs:List Bool):((aO bs.length).any λi=>(bs[i]?).getD false)=bs.any id:=by
 rw[uo,Bv,Bv]
 constructor
 ·rintro⟨i,hi,h⟩
  have fi:=de.mp hi
  rw[aL fi]at h
  exact⟨_,dP fi,h⟩
 ·rintro⟨b,hb,h⟩
  obtain⟨i,hi,rfl⟩:=gP hb
  exact⟨i,de.mpr hi,by rw[aL hi];exact h⟩
theorem ck6(hc:X.calm=true):gq X (.builtin "all") (λxs H Q=>∃(p:Addr) (bs:List Bool),xs=[.ref p]/\bK X.K H p (bs.map V.bl)/\Q (.bl (bs.all id)) H):=by
 intro pins s σ H xs us Q I r h
 obtain⟨p,bs,rfl,hS,q⟩:=h
 obtain⟨u,rfl,ru⟩:=r.one
 cases ru
 obtain⟨its,rv,pl,hz⟩:=I.list hS
 obtain⟨hlen,GJ⟩:=S1 rv
 have hl:=pl.isList
 have fX:p<s.heap.objs.size:=by obtain⟨_,e,_⟩:=hl;exact bI e
 refine call_all_walk (wpAny_pyIter_list hl ?_)
 refine⟨s.heap.objs.size,[s.heap.objs.size,p],[s.heap.objs.size],its.toArray.size,_,_,λi=>(bs[i]?).getD true,rfl,Walks.list (A:=X.A.in1) (I.ok.hd hc) _ p (eY fX) its.toArray,
  ⟨⟨_,fO _ rfl,rfl,rfl⟩,hl.push _⟩,λi v s' Q' E' hP hQ=>?_,λh' tk hk=>?_⟩
 ·obtain⟨b,e,rfl⟩:=GJ i v (by simpa using hP)
  simp only[e,qN]at hQ
  exact wpAny_truthy_bool hQ
 ·have e:((aO its.toArray.size).all λi=>(bs[i]?).getD true)=bs.all id:=by
   rw[dw,<- hlen];exact cq6 bs
  rw[e]
  exact⟨.bl _,H,I.kept (h':=h') (t':=tk) (GI hk),rfl,q⟩
theorem cr2(hc:X.calm=true):gq X (.builtin "any") (λxs H Q=>∃(p:Addr) (bs:List Bool),xs=[.ref p]/\bK X.K H p (bs.map V.bl)/\Q (.bl (bs.any id)) H):=by
 intro pins s σ H xs us Q I r h
 obtain⟨p,bs,rfl,hS,q⟩:=h
 obtain⟨u,rfl,ru⟩:=r.one
 cases ru
 obtain⟨its,rv,pl,hz⟩:=I.list hS
 obtain⟨hlen,GJ⟩:=S1 rv
 have hl:=pl.isList
 have fX:p<s.heap.objs.size:=by obtain⟨_,e,_⟩:=hl;exact bI e
 refine call_any_walk (wpAny_pyIter_list hl ?_)
 refine⟨s.heap.objs.size,[s.heap.objs.size,p],[s.heap.objs.size],its.toArray.size,_,_,λi=>(bs[i]?).getD false,rfl,Walks.list (A:=X.A.in1) (I.ok.hd hc) _ p (eY fX) its.toArray,
  ⟨⟨_,fO _ rfl,rfl,rfl⟩,hl.push _⟩,λi v s' Q' E' hP hQ=>?_,λh' tk hk=>?_⟩
 ·obtain⟨b,e,rfl⟩:=GJ i v (by simpa using hP)
  simp only[e,qN]at hQ
  exact wpAny_truthy_bool hQ
 ·have e:((aO its.toArray.size).any λi=>(bs[i]?).getD false)=bs.any id:=by
   rw[dw,<- hlen];exact cp4 bs
  rw[e]
  exact⟨.bl _,H,I.kept (h':=h') (t':=tk) (GI hk),rfl,q⟩
end
noncomputable def m4(X:Cx):List (Str × Addr)->Prop
 | []=>True
 | (y,c)::r=>X.env.cells.lookup y=some c/\m4 X r
theorem m4.all{X:Cx}:∀{cl:List (Str × Addr)},m4 X cl->∀y c,cl.lookup y=some c->X.env.cells.lookup y=some c
 | [],_,y,c,h=>by simp at h
 | (z,d)::r,h,y,c,e=>by
  rw[gi]at e
  cases q:y==z with
  | true =>
   rw[q]at e
   cases e
   rw[eq_of_beq q]
   exact h.1
  | false =>
   rw[q]at e
   exact m4.all h.2 y c e
noncomputable def m5(cl:List (Str × Addr)):List (Str × NameKind)->Prop
 | []=>True
 | (y,k)::r=>(k=.local\/k=.globalImplicit\/∃c,cl.lookup y=some c)/\m5 cl r
theorem m5.all{cl:List (Str × Addr)}:∀{ns:List (Str × NameKind)},m5 cl ns->∀y,(ns.lookup y=some .cell\/ns.lookup y=some .free)->∃c,cl.lookup y=some c
 | [],_,y,h=>by simp at h
 | (z,k)::r,h,y,e=>by
  rw[gi]at e
  cases q:y==z with
  | true =>
   rw[q]at e
   rw[eq_of_beq q]
   rcases h.1 with g | g | g
   ·rw[g]at e;rcases e with e | e<;>cases e
   ·rw[g]at e;rcases e with e | e<;>cases e
   ·exact g
  | false =>
   rw[q]at e
   exact m5.all h.2 y e
section
variable{X:Cx}{elt iter:Expr}{x:Str}{px pos:Pos}{ifs:List Expr}{scope:Scope}{cl:List (Str × Addr)}{wi:TI}{tt:TT}{te:TE}
end
end L2
namespace L2
open PySem PySem.Spec PyProof.Rows Mf
end L2
namespace L2
end L2
namespace L2
open PySem PySem.Spec PyProof.Rows
noncomputable def gS(aD:List (Str × Nat))(n:Nat)(σ:L2.St):St:=(aD.map λp=>(σ[p.2]?).getD none)++aT n none
noncomputable def S2(J:It)(aD:List (Str × Nat))(n:Nat)(g:TG)(tt:TT)(te:TE)(σ:L2.St)(H1:Hp)(Q:VK):Prop:=∀D,H1 D=none->∃W:Nat->Nat->List V->Hp->Prop,(∃m,W 0 m [] (upd H1 D (.lst []))) /\
 ∀i m acc H2,W i m acc H2->H2 D=some (.lst acc)/\((J.stop i H2/\Q (.ref D) H2)\/(J.go i H2/\∀x H3,J.jg i H2 x H3->H3 D=some (.lst acc)/\g x (gS aD n σ) H3 λgE H4 =>
  (gE.length=(gS aD n σ).length/\∀j,j<aD.length->gE[j]?=(gS aD n σ)[j]?)/\tt gE H4 λb H5=>H5 D=some (.lst acc) /\
  if b=true then te gE H5 λy H6=>H6 D=some (.lst acc)/\acc.length<sizeLine/\∃m',m'<m/\W (i+1) m' (acc++[y]) (upd H6 D (.lst (acc++[y])))else ∃m',m'<m/\W (i+1) m' acc H5))
noncomputable def Cb(wi:TI)(aD:List (Str × Nat))(n:Nat)(g:TG)(tt:TT)(te:TE):TE:=λσ H Q=>wi σ H λJ H1=>S2 J aD n g tt te σ H1 Q
section
variable{X:Cx}{elt iter tg:Expr}{pos:Pos}{ifs:List Expr}{scope:Scope}{cl:List (Str × Addr)}{wi:TI}{tt:TT}{te:TE}{g:TG}
end
end L2
namespace L2
open PySem PySem.Spec PyProof.Rows
section
variable{X:Cx}{tg:Expr}
end
end L2
namespace L2
open PySem PySem.Spec PyProof.Rows
noncomputable def GK(h:Heap)(a T:Addr)(cls fl:Value):Prop :=
 ∃oe vs oT ts,h.get? a=some oe/\oe.cls=cls/\oe.dict=none/\oe.data=.fields vs/\vs[1]?=some (.ref T)/\T≠a/\h.get? T=some oT/\oT.data=.fields ts/\ts[3]?=some fl
noncomputable abbrev rh(h:Heap)(a T:Addr)(cls:Value):Prop:=GK h a T cls .none
theorem bA0(o:Obj)(f:Array Value->Array Value):(o.mapFields f).dict=o.dict:=by
 obtain⟨c,d,dt,sl⟩:=o
 cases dt<;>rfl
section
variable{M:Model}{A:Around}{E:Value->Shared->Prop}{s:Shared}{base:Heap}{env:Env}{outer:List Env}{L a T:Addr}{cls:Value}{oe:Obj}{vs:Array Value}{Q:Unit->Shared->Prop}
structure Ent(fs:List Addr)(h h':Heap)(a T:Addr)(oe:Obj)(L:Addr):Prop where
 new:h.get? T=none
 ne:T≠a
 keep:∀b o,b≠a->b ∉ fs->h.get? b=some o->h'.get? b=some o
 slot:∀b o,b≠a->h.get? b=some o->∃sl,h'.get? b=some { o with slots:=sl }
 exc:h'.get? a=some (oe.mapFields λz=>z.setIfInBounds 1 (.ref T))
 ent:∃oT ts,h'.get? T=some oT/\oT.data=.fields ts/\ts[3]?=some (rawInt L)
theorem S3{head:Value}{dE7:Bool}(eN:A.frames=some (env::outer))(hl:s.heap.FunFrames base (env::outer))(hf:env.frame=some L)(he:s.heap.get? a=some oe)(hd:oe.data=.fields vs)(lH:1<vs.size)
  (na:a ∉ (env::outer).filterMap (·.frame)) (k:∀h' T',Ent ((env::outer).filterMap (·.frame)) s.heap h' a T' oe L->Q () { s with heap:=h' }) :
  wpAny M A (do let x<-frameOf env;let pl<-entryPlaceOf L dE7;let b<-EntryCells.newEntry head x .none (rawInt L) .none pl;setField (.ref a) 1 b) Q E s:=by
 refine wpAny_bind (wpAny_frameOf_fun eN hl hf λg1 so=>wpAny_bind (wpAny_entryPlaceOf λpl ip=>?_))
 unfold EntryCells.newEntry newFields
 have e1:g1.get? a=some oe:=(so.2.1 a na).trans he
 refine wpAny_bind (wpAny_newObj_type ?_ (ip.sizeOk5 _ _ _ _ _))
 generalize S4:({ cls:=.type "traceback",dict:=none,data:=.fields ([head,ff L,.none,rawInt L,.none]++(if pl.isEmpty then aT 6 qD else pl)).toArray }:Obj)=te
 have e2:(g1.push te).get? a=some oe:=eF te e1
 have hda:te.data=.fields ([head,ff L,.none,rawInt L,.none]++(if pl.isEmpty then aT 6 qD else pl)).toArray:=by rw[<-S4]
 have nf:te.isFreed=false:=by rw[<-S4];rfl
 refine wpAny_setField e2 hd lH ?_
 have d3:=Fl hd λz=>z.setIfInBounds 1 (ff g1.objs.size)
 have nT:g1.objs.size≠a:=yk (bI e1)
 refine k _ g1.objs.size ⟨?_,nT,λb o hb hz q=>?_,λb o hb q=>?_,Bl _ e2 (Q1 d3),⟨te,_,?_,hda,?_⟩⟩
 ·cases q:s.heap.get? g1.objs.size with
  | none=>rfl
  | some o=>obtain⟨sl,z⟩:=so.2.2 _ _ q;exact absurd (bI z) (fw _)
 ·rw[ow _ _ (fg hb)]
  exact eF te ((so.2.1 b hz).trans q)
 ·obtain⟨sl,z⟩:=so.2.2 b o q
  refine⟨sl,?_⟩
  rw[ow _ _ (fg hb)]
  exact eF te z
 ·rw[ow _ _ (fg nT)]
  exact fO g1 nf
 ·first | (simp;done) | (rcases ip with rfl | ⟨_,_,_,_,_,_,_,rfl⟩<;>simp)
structure S5(fs Z:List Addr)(h h':Heap)(a T:Addr)(cls:Value):Prop where
 new:h.get? T=none
 keep:∀b o,b ∉ Z->b ∉ fs->h.get? b=some o->h'.get? b=some o
 slot:∀b o,b ∉ Z->h.get? b=some o->∃sl,h'.get? b=some { o with slots:=sl }
 zr:rh h' a T cls
theorem S6{fl:Value}(tr:GK s.heap a T cls fl)(k:∀h',(∀b o,b≠T->s.heap.get? b=some o->h'.get? b=some o)->rh h' a T cls->Q () { s with heap:=h' }):wpAny M A (setFlight (.ref a) none) Q E s:=by
 obtain⟨oe,vs,oT,ts,h1,h2,h3,h4,h5,h6,h7,h8,h9⟩:=tr
 have sz:3<ts.size:=(Q2.mp h9).1
 unfold setFlight
 refine wpAny_bind (wpAny_field h1 h4 h5 ?_)
 rw[if_pos (by simp)]
 refine wpAny_setField h7 h8 sz (k _ (λb o hb q=>(ow _ _ (fg hb)).trans q) ?_)
 have d:=Fl h8 λz=>z.setIfInBounds 3 ((none:Option Addr).elim qD λf=>rawInt f)
 exact⟨oe,vs,_,_,(ow _ _ h6).trans h1,h2,h3,h4,h5,h6,Bl _ h7 (Q1 d),d,by simp[sz]⟩
theorem Ent.fin{fs:List Addr}{h h':Heap}{a T L:Addr}{oe:Obj}{vs:Array Value}(e:Ent fs h h' a T oe L)(hd:oe.data=.fields vs)(lH:1<vs.size)(hdi:oe.dict=none):GK h' a T oe.cls (rawInt L):=by
 obtain⟨oT,ts,e1,e2,e3⟩:=e.ent
 exact⟨_,_,oT,ts,e.exc,Obj.cls_mapFields _ _,by rw[bA0];exact hdi,Fl hd _,by simp[lH],e.ne,e1,e2,e3⟩
theorem bM6(eN:A.frames=some (env::outer))(hl:s.heap.FunFrames base (env::outer))(hf:env.frame=some L)(na:a ∉ (env::outer).filterMap (·.frame))(tr:rh s.heap a T cls)
  (k:∀h' T',S5 ((env::outer).filterMap (·.frame)) [a,T] s.heap h' a T' cls->Q () { s with heap:=h' }):wpAny M A (noteFrame (.ref a) env) (λ_ kb=>wpAny M A (setFlight (.ref a) none) Q E kb) E s:=by
 obtain⟨oe,vs,oT,ts,h1,h2,h3,h4,h5,h6,h7,h8,h9⟩:=tr
 have s1:1<vs.size:=(Q2.mp h5).1
 have s3:3<ts.size:=(Q2.mp h9).1
 unfold noteFrame
 simp only[hf]
 refine wpAny_bind (wpAny_field h1 h4 h5 ?_)
 rw[if_pos (by simp)]
 refine wpAny_bind (wpAny_field h7 h8 h9 ?_)
 rw[if_neg (by simp[rawInt])]
 refine wpAny_bind (wpAny_setField h7 h8 s3 ?_)
 generalize hg:s.heap.update T (Obj.mapFields λz=>z.setIfInBounds 3 qD)=g
 have rj:∀b,b≠T->g.get? b=s.heap.get? b:=λb hb=>by rw[<-hg];exact ow _ _ (fg hb)
 have bT:∀b o,s.heap.get? b=some o->(∀ws,o.data≠.fields ws)->b≠T:=λb o q hn z=>by subst z;rw[h7]at q;cases q;exact hn ts h8
 have gT:∃oT',g.get? T=some oT':=⟨_,by rw[<-hg];exact Bl _ h7 (Q1 (Fl h8 _))⟩
 refine S3 (s:={ s with heap:=g }) eN (hl.of_keeps λb o q hn=>⟨o,(rj b (bT b o q hn)).trans q,rfl⟩) hf ((rj a (fg h6)).trans h1) h4 s1 na λh' T' en=>?_
 have nT':T'≠T:=λz=>by subst z;obtain⟨o,q⟩:=gT;rw[en.new]at q;cases q
 refine S6 (s:={ s with heap:=h' }) (h2 ▸ en.fin h4 s1 h3) λGL kp GN=>?_
 refine k GL T' ⟨(rj T' nT').symm.trans en.new,λb o hz hb q=>?_,λb o hz q=>?_,GN⟩
 ·have z1:b≠a:=λz=>hz (by simp[z])
  have z2:b≠T:=λz=>hz (by simp[z])
  have z3:b≠T':=λz=>by have:=en.new;rw[<-z,rj b z2,q]at this;cases this
  exact kp b o z3 (en.keep b o z1 hb ((rj b z2).trans q))
 ·have z1:b≠a:=λz=>hz (by simp[z])
  have z2:b≠T:=λz=>hz (by simp[z])
  have z3:b≠T':=λz=>by have:=en.new;rw[<-z,rj b z2,q]at this;cases this
  obtain⟨sl,r⟩:=en.slot b o z1 ((rj b z2).trans q)
  exact⟨sl,kp b _ z3 r⟩
theorem bM8{h1:Heap}{args:List Value}(eN:A.frames=some (env::outer))(hl:s.heap.FunFrames base (env::outer))(hf:env.frame=some L)(hx:Q3 s.heap h1 a cls args)
  (k:∀h' T',S5 ((env::outer).filterMap (·.frame)) [] s.heap h' a T' cls->Q () { s with heap:=h' }):wpAny M A (noteFrame (.ref a) env) (λ_ kb=>wpAny M A (setFlight (.ref a) none) Q E kb) E { s with heap:=h1 }:=by
 obtain⟨t,e1,_,_⟩:=hx.there
 have na:a ∉ (env::outer).filterMap (·.frame):=λhb=>by obtain⟨_,o,ho,_⟩:=hl.mem hb;rw[hx.new]at ho;cases ho
 unfold noteFrame
 simp only[hf]
 refine wpAny_bind (wpAny_field (s:={ s with heap:=h1 }) e1 rfl (x:=.none) (by rfl) ?_)
 rw[if_neg (by decide)]
 refine S3 (s:={ s with heap:=h1 }) eN (hl.of_keeps λb o q _=>⟨o,hx.keeps b o q,rfl⟩) hf e1 rfl (by simp) na λh' T' en=>?_
 refine S6 (s:={ s with heap:=h' }) (en.fin rfl (by simp) rfl) λGL kp GN=>?_
 have ba:∀b o,s.heap.get? b=some o->b≠a:=λb o q z=>by rw[z,hx.new]at q;cases q
 have bT:∀b o,s.heap.get? b=some o->b≠T':=λb o q z=>by have:=hx.keeps b o q;rw[z,en.new]at this;cases this
 refine k GL T' ⟨?_,λb o _ hb q=>kp b o (bT b o q) (en.keep b o (ba b o q) hb (hx.keeps b o q)),λb o _ q=>?_,GN⟩
 ·cases q:s.heap.get? T' with
  | none=>rfl
  | some o=>exact absurd rfl (bT T' o q)
 ·obtain⟨sl,r⟩:=en.slot b o (ba b o q) (hx.keeps b o q)
  exact⟨sl,kp b _ (bT b o q) r⟩
end
end L2
namespace L2
open PySem PySem.Spec PyProof.Rows
theorem dQ.there{P:Program}{w:World}{H:Hp}{h:Heap}{a:Addr}{o:HO}(x:dQ P w H h a o):∃u,h.get? a=some u:=by
 cases o with
 | lst xs=>obtain⟨_,_,_,_,e⟩:=x;exact⟨_,e⟩
 | tup xs=>obtain⟨_,_,_,o,e,_⟩:=x;exact⟨o,e⟩
 | dK dD=>obtain⟨_,_,_,_,o,_,_,e,_⟩:=x;exact⟨_,e⟩
 | dT dD=>obtain⟨_,_,_,_,o,_,_,e,_⟩:=x;exact⟨_,e⟩
 | set S n=>obtain⟨o,_,_,_,e,_⟩:=x;exact⟨_,e⟩
 | ins C dx fs=>obtain⟨_,_,_,e,_⟩:=x;exact⟨_,e⟩
 | own y=>exact x
 | xd fs=>obtain⟨_,⟨_,_,_,e,_⟩,_⟩:=x;exact⟨_,e⟩
 | yN lo hi=>obtain⟨_,_,_,e⟩:=x;exact⟨_,e⟩
 | ck ob u=>obtain⟨e,_⟩:=x;exact⟨_,e⟩
 | dy ps=>exact⟨_,show h.get? a=some _ from x.1⟩
 | met f y=>exact⟨_,show h.get? a=some _ from x⟩
 | ext φ=>obtain⟨_,e,_⟩:=x;exact e
theorem cJ.none{P:Program}{w:World}{H:Hp}{h:Heap}{a:Addr}(x:cJ P w H h)(e:h.get? a=.none):H a=.none:=by
 cases q:H a with
 | none=>rfl
 | some u=>obtain⟨o,z⟩:=(x a u q).there;rw[e]at z;cases z
structure Apart(X:Cx)(pins:List (Addr × Obj))(H:Hp)(b:Addr):Prop where
 old:X.cK.heap.get? b=none
 free:H b=none
 loc:b≠X.env.locals
 cell:∀x c,X.env.cells.lookup x=some c->c≠b
 pin:∀p∈X.pn++pins,p.1≠b
 fr:b ∉ eA X.stack
section
variable{X:Cx}{pins:List (Addr × Obj)}{σ:St}{H H':Hp}{s:Shared}{a T b:Addr}{cls:Value}{M:Model}{Q:Unit->Shared->Prop}{E:Value->Shared->Prop}{h':Heap}
theorem Inv.old(I:Inv X pins σ H s)(hex:X.ex=[])(e:s.heap.get? b=none):X.cK.heap.get? b=none:=by
 cases q:X.cK.heap.get? b with
 | none=>rfl
 | some o=>obtain⟨o',z⟩:=I.base.there b o q (by rw[hex];simp);rw[e]at z;cases z
theorem S7(I:Inv X pins σ H s)(dg:X.stack=X.env::X.outer)(hex:X.ex=[])(hf:X.env.frame=some X.env.locals)(Z:List Addr)(hZ:∀b∈Z,X.cK.heap.get? b=none/\H b=none)
  (keep:∀b o,b ∉ Z->b ∉ eA X.stack->s.heap.get? b=some o->h'.get? b=some o) (slots:∀b o,b ∉ Z->s.heap.get? b=some o->∃sl,h'.get? b=some { o with slots:=sl }) :
  Un (eA X.outer) [] X.j8 H X.cK.heap h'/\cJ X.prog X.w H h':=by
 have GO:∀b o,X.cK.heap.get? b=some o->b ∉ Z:=λb o e z=>by rw[(hZ b z).1]at e;cases e
 have sub:∀b,b∈eA X.stack->b=X.env.locals\/b∈eA X.outer:=λb hb=>by
  rw[dg]at hb
  unfold eA at hb
  rw[Bh,hf]at hb
  exact bY.mp hb
 have sup:∀b,b∈eA X.outer->b∈eA X.stack:=λb hb=>by
  rw[dg]
  unfold eA
  rw[Bh,hf]
  exact eI _ hb
 have BO:∀b o,X.cK.heap.get? b=some o->b≠X.env.locals:=λb o e=>eY (cT (bI e) I.ok.above)
 have nx:∀b:Addr,b ∉ X.ex:=λb=>by rw[hex];simp
 refine⟨⟨λb o e n hb _=>?_,λb o e n hb _=>?_,λb o e n _=>I.base.free b o e n (nx b),λb o e _=>?_,I.base.jF,I.base.je,I.base.ie⟩,λb ob e=>?_⟩
 ·exact keep b o (GO b o e) (λz=>(sub b z).elim (BO b o e) hb) (I.base.keep b o e n hb (nx b))
 ·obtain⟨sl,e1⟩:=I.base.slot b o e n hb (nx b)
  exact(slots b _ (GO b o e) e1).imp λsl h=>h
 ·obtain⟨o',e1⟩:=I.base.there b o e (nx b)
  exact(slots b o' (GO b o e) e1).elim λsl q=>⟨_,q⟩
 ·refine(I.aG b ob e).jZ (λc u hc q=>keep c u (λz=>?_) (λz=>?_) q) (λ_ q=>q) (λ_ _ q=>q) λ_ _ q=>q
  ·have n:=(hZ c z).2
   rcases hc with rfl | hc
   ·rw[n]at e;cases e
   ·rw[n]at hc;cases hc
  ·have n:=I.FD c z
   rcases hc with rfl | hc
   ·rw[n]at e;cases e
   ·rw[n]at hc;cases hc
structure S8(X:Cx)(H:Hp)(h':Heap)(a T:Addr)(cls:Value):Prop where
 un:Un (eA X.outer) [] X.j8 H X.cK.heap h'
 aG:cJ X.prog X.w H h'
 zr:rh h' a T cls
 a0:X.cK.heap.get? a=none
 a1:H a=none
 t0:X.cK.heap.get? T=none
 t1:H T=none
theorem cf1(I:Inv X pins σ H s)(dg:X.stack=X.env::X.outer)(hex:X.ex=[])(hf:X.env.frame=some X.env.locals)(tr:rh s.heap a T cls)(pa:Apart X pins H a)(pT:Apart X pins H T)
  (hQ:∀h' T',S8 X H h' a T' cls->Q () { s with heap:=h' }):wpAny M X.A (leaving X.env (.ref a)) Q E s:=by
 have hZ:∀b∈[a,T],X.cK.heap.get? b=none/\H b=none:=λb hb=>by
  rcases bY.mp hb with rfl | hb
  ·exact⟨pa.old,pa.free⟩
  ·rw[jB.mp hb];exact⟨pT.old,pT.free⟩
 have na:a ∉ (X.env::X.outer).filterMap (·.frame):=by have:=pa.fr;rw[dg]at this;exact this
 refine wpAny_bind (bM6 (base:=X.base) (by rw[I.ok.frames,dg]) (dg ▸ I.stack) hf na tr λh' T' st=>?_)
 have kp:∀b o,b ∉ [a,T]->b ∉ eA X.stack->s.heap.get? b=some o->h'.get? b=some o:=λb o hz hb q=>st.keep b o hz (by rw[dg]at hb;exact hb) q
 obtain⟨un,aG⟩:=S7 (h':=h') I dg hex hf [a,T] hZ kp st.slot
 exact hQ h' T' ⟨un,aG,st.zr,pa.old,pa.free,I.old hex st.new,I.aG.none st.new⟩
theorem ch4{h1:Heap}{args:List Value}(I:Inv X pins σ H s)(dg:X.stack=X.env::X.outer)(hex:X.ex=[])(hf:X.env.frame=some X.env.locals)(hx:Q3 s.heap h1 a cls args)
  (hQ:∀h' T',S8 X H h' a T' cls->Q () { s with heap:=h' }):wpAny M X.A (leaving X.env (.ref a)) Q E { s with heap:=h1 }:=by
 refine wpAny_bind (bM8 (base:=X.base) (by rw[I.ok.frames,dg]) (dg ▸ I.stack) hf hx λh' T' st=>?_)
 have kp:∀b o,b ∉ ([]:List Addr)->b ∉ eA X.stack->s.heap.get? b=some o->h'.get? b=some o:=λb o hz hb q=>st.keep b o hz (by rw[dg]at hb;exact hb) q
 obtain⟨un,aG⟩:=S7 (h':=h') I dg hex hf [] (λb hb=>absurd hb (by simp)) kp st.slot
 exact hQ h' T' ⟨un,aG,st.zr,I.old hex hx.new,I.aG.none hx.new,I.old hex st.new,I.aG.none st.new⟩
end
noncomputable def m6(P:Program)(w:World):eZ:=λouter H s E e s'=>∃a T cls H',e=.ref a/\s'.os=s.os/\AllBare s'.gens/\Un (eA outer) [] H H' s.heap s'.heap/\cJ P w H' s'.heap/\rh s'.heap a T cls /\
 s.heap.get? a=none/\H' a=none/\s.heap.get? T=none/\H' T=none/\E cls none H'
section
variable{X:Cx}{pins:List (Addr × Obj)}{σ:St}{H H':Hp}{s:Shared}{a T b:Addr}{cls:Value}{M:Model}{Q:Unit->Shared->Prop}{E:Value->Shared->Prop}{h':Heap}
end
end L2
namespace L2
open PySem PySem.W PySem.Spec PySem.Calls PyProof.Rows
section
variable{prog:Program}{w:World}{A:Around}{E:Value->Shared->Prop}{s:Shared}{K:Frag}{x D:Addr}{ox:Obj}{odo:Option Obj}
end
end L2
namespace L2
open PySem PySem.W PySem.Spec PySem.Calls PyProof.Rows
section
variable{prog:Program}{w:World}{A:Around}{E:Value->Shared->Prop}{s:Shared}{K:Frag}{x D:Addr}{ox:Obj}{odo:Option Obj}
structure dF7(K:Frag)(C:Addr):Prop where
 cls:(clsIn K C).isSome=true
 ga:findIn K (.ref C) "__getattribute__"=some (some (.builtin "BaseException.__getattribute__"))
 gt:findIn K (.ref C) "__getattr__"=some none
 ca:findIn K (.ref C) "__class__"=some (some (.builtin "object.__class__"))
 hn:specialIn K (.builtin "object.__class__") "__get__"=some (some (.builtin "getset_descriptor.__get__"))
 tk:takesIn K (.builtin "object.__class__")=some true
 mo:mroIn K C (.type "object")=some true
 mb:mroIn K C (.type "BaseException")=some true
end
end L2
namespace L2
open PySem PySem.Spec PyProof.Rows
section
variable{X:Cx}{pins:List (Addr × Obj)}{σ:St}{H:Hp}{s:Shared}{h':Heap}{its:List Addr}{T:Addr}{o:HO}{t':Nat}
theorem Inv.Cc(I:Inv X pins σ H s)(k:∀b o,b ∉ its->s.heap.get? b=some o->h'.get? b=some o)(hf:∀b∈its,iH X pins H b):Inv X pins σ H { s with heap:=h',toks:=t' }:=by
 have oJ:∀b u,H b=some u->b ∉ its:=λb u e z=>by have:=(hf b z).1;rw[this]at e;cases e
 refine I.step (g':=s.gens) (d':=s.drawn) (ch:=its) (λb hb=>?_) (λb o _ _ hc e _=>k b o hc e) (λb o _ _ hc e _=>⟨o.slots,k b o hc e⟩) (λ_ _ _ _ n=>n)
  (λb o hc e=>⟨o,k b o hc e⟩) (λ_ _ e=>e) (λ_ _ _ e=>e) (λb ps e=>⟨#[],by rw[e];simp⟩) (λm hm=>?_) (λb u e=>?_) I.bare
 ·obtain⟨_,h1,_,h2,h3,h4⟩:=hf b hb
  exact⟨h2,h1,h3,h4⟩
 ·obtain⟨o,es,ep,ho,r⟩:=hm
  exact⟨o,es,ep,k _ o (λz=>(hf _ z).2.1 rfl) ho,r⟩
 ·refine(I.aG b u e).jZ (λc v hc q=>k c v ?_ q) (λ_ q=>q) (λ_ _ q=>q) λ_ _ q=>q
  rcases hc with z | z
  ·rw[z];exact oJ b u e
  ·exact oJ c _ z
theorem Inv.S9(I:Inv X pins σ H s)(k:∀b o,b ∉ its->s.heap.get? b=some o->h'.get? b=some o)(hf:∀b∈its,iH X pins H b)(hT:s.heap.objs.size<=T)(new:dQ X.prog X.w (upd H T o) h' T o) :
  Inv X pins σ (upd H T o) { s with heap:=h',toks:=t' }:=by
 have oJ:∀b u,H b=some u->b ∉ its:=λb u e z=>by have:=(hf b z).1;rw[this]at e;cases e
 have fT:H T=none:=I.aG.fresh hT
 have neT:∀b u,H b=some u->b≠T:=λb u e z=>by rw[z,fT]at e;cases e
 have neS:∀b u,s.heap.get? b=some u->b≠T:=λb u e z=>absurd (cT (bI e) hT) (by rw[z];exact fw _)
 refine I.step (g':=s.gens) (d':=s.drawn) (ch:=its) (λb hb=>?_) (λb o _ _ hc e _=>k b o hc e) (λb o _ _ hc e _=>⟨o.slots,k b o hc e⟩) (λb u _ e n=>by rw[bc (neS b u e)];exact n)
  (λb o hc e=>⟨o,k b o hc e⟩) (λb _ e=>by rw[bc (neT b _ e)];exact e) (λb _ _ e=>by rw[bc (neT b _ e)];exact e) (λb ps e=>⟨#[],by rw[bc (neT b _ e),e];simp⟩) (λm hm=>?_) (λb u e=>?_) I.bare
 ·obtain⟨_,h1,_,h2,h3,h4⟩:=hf b hb
  exact⟨h2,h1,h3,h4⟩
 ·obtain⟨o,es,ep,ho,r⟩:=hm
  exact⟨o,es,ep,k _ o (λz=>(hf _ z).2.1 rfl) ho,r⟩
 ·by_cases hb:b=T
  ·subst hb;rw[cy]at e;cases e;exact new
  ·rw[bc hb]at e
   refine(I.aG b u e).jZ (λc v hc q=>k c v ?_ q) (λc q=>by rw[bc (neT c _ q)];exact q) (λc _ q=>by rw[bc (neT c _ q)];exact q) λc _ q=>by rw[bc (neT c _ q)];exact q
   rcases hc with z | z
   ·rw[z];exact oJ b u e
   ·exact oJ c _ z
noncomputable def GP(K:PySem.W.Frag)(a b:Addr):It :=
 ⟨λi H=>∃xs ys x y,bK K H a xs/\bK K H b ys/\xs[i]?=some x/\ys[i]?=some y,
  λi H v H'=>∃T x y,v=.ref T/\H T=none/\H'=upd H T (.tup [x,y])/\(∀xs,bK K H a xs->xs[i]?=some x)/\∀ys,bK K H b ys->ys[i]?=some y,
  λi H=>∃xs ys,bK K H a xs/\bK K H b ys/\(xs.length<=i\/ys.length<=i)⟩
theorem oQ{K:PySem.W.Frag}{a c:Addr}{xs:List V}(hk:X.K=K)(I:Inv X pins σ H s)(h:bK K H a xs)(hf:iH X pins H c)(ho:∃o,s.heap.get? c=some o/\o.cls≠.type "list"):a≠c:=by
 subst hk
 obtain⟨its,rv,p,hz⟩:=I.list h
 obtain⟨o,e,d⟩:=ho
 obtain⟨o',e',c',_⟩:=p.isList
 intro z
 subst z
 rw[e]at e';cases e'
 exact d c'
theorem cq1{P:Program}{w:World}{K:PySem.W.Frag}{elts:List Expr}{k:Nat}{pos:Pos}(a b z TI TO i1 i2:Addr)(D5:[z,TI,TO,i1,i2].Nodup) :
  Turn P w K (.Tuple elts k pos) (GP K a b) [z,TI,TO,i1,i2] z (λi h=>IsZip h z TI TO .none/\IsPair h TI (.ref i1) (.ref i2)/\(∃u v,IsPair h TO u v)/\h.IsListIter i1 a i/\h.IsListIter i2 b i):=by
 have ap:∀(X:Cx) (pins:List (Addr × Obj)) (s:Shared) (σ:St) (H:Hp) (i:Nat) (xs ys:List V),X.K=K->Inv X pins σ H s->(∀b∈[z,TI,TO,i1,i2],iH X pins H b)->IsZip s.heap z TI TO .none->(∃u v,IsPair s.heap TO u v)->s.heap.IsListIter i1 a i->s.heap.IsListIter i2 b i ->
   bK K H a xs->bK K H b ys->ZipApart z TI TO i1 i2 a b:=by
  intro X pins s σ H i xs ys hK I hf hz iQ h1 h2 hx hy
  simp only[iC,bY,not_or,ib,not_false_eq_true,and_true]at D5
  obtain⟨⟨d1,d2,d3,d4⟩,⟨d5,d6,d7⟩,⟨d8,d9⟩,d10,_⟩:=D5
  have oz:∃o,s.heap.get? z=some o/\o.cls≠.type "list":=⟨_,hz,by intro q;exact absurd (Fm q) (by decide)⟩
  have Ta:∃o,s.heap.get? TO=some o/\o.cls≠.type "list":=by obtain⟨u,v,e⟩:=iQ;exact⟨_,e,by intro q;exact absurd (Fm q) (by decide)⟩
  have o1:∃o,s.heap.get? i1=some o/\o.cls≠.type "list":=by obtain⟨o,e,c,d⟩:=h1;exact⟨_,e,by rw[c];intro q;exact absurd (Fm q) (by decide)⟩
  have o2:∃o,s.heap.get? i2=some o/\o.cls≠.type "list":=by obtain⟨o,e,c,d⟩:=h2;exact⟨_,e,by rw[c];intro q;exact absurd (Fm q) (by decide)⟩
  exact⟨fg d1,fg d2,fg d3,fg d4,d5,d6,d7,d8,d9,d10,
   oQ hK I hx (hf z (by simp)) oz,oQ hK I hx (hf TO (by simp)) Ta,oQ hK I hx (hf i1 (by simp)) o1,oQ hK I hx (hf i2 (by simp)) o2,
   oQ hK I hy (hf z (by simp)) oz,oQ hK I hy (hf TO (by simp)) Ta,oQ hK I hy (hf i1 (by simp)) o1,oQ hK I hy (hf i2 (by simp)) o2⟩
 refine⟨by simp,λi h st c hc=>?_,λi h h' st kk=>?_,?_,?_,λ_ _ _ _ _ st h=>wpAny_pyIter_zip st.1 h⟩
 ·obtain⟨hz,kq,⟨u,v,iQ⟩,⟨o1,e1,c1,d1⟩,⟨o2,e2,c2,d2⟩⟩:=st
  simp only[bY,ib,or_false]at hc
  rcases hc with rfl | rfl | rfl | rfl | rfl
  ·exact⟨_,hz,λv q=>by cases q⟩
  ·exact⟨_,kq,λv q=>by cases q⟩
  ·exact⟨_,iQ,λv q=>by cases q⟩
  ·exact⟨_,e1,λv q=>by rw[d1]at q;cases q⟩
  ·exact⟨_,e2,λv q=>by rw[d2]at q;cases q⟩
 ·obtain⟨hz,kq,⟨u,v,iQ⟩,h1,h2⟩:=st
  exact⟨kk _ (by simp) _ hz,kk _ (by simp) _ kq,⟨u,v,kk _ (by simp) _ iQ⟩,h1.at λo e=>kk _ (by simp) o e,h2.at λo e=>kk _ (by simp) o e⟩
 ·intro X hP hw hK hc i pins s σ H E I hf st hg
  obtain⟨xs,ys,x,y,hx,hy,ex,ey⟩:=hg
  obtain⟨hz,kq,⟨u,v,iQ⟩,h1,h2⟩:=st
  have D:=ap X pins s σ H i xs ys hK I hf hz ⟨u,v,iQ⟩ h1 h2 hx hy
  subst hP hw hK
  obtain⟨as,ra,pa,_⟩:=I.list hx
  obtain⟨bs,rb,pb,_⟩:=I.list hy
  obtain⟨ux,GQ,rx⟩:=ra.get ex
  obtain⟨uy,euy,ry⟩:=rb.get ey
  refine wpAny_pyNext_zip_item D hz kq iQ h1 h2 pa.isList pb.isList (x:=ux) (y:=uy) (by simpa using GQ) (by simpa using euy) λh' z' TO' jN jh T' sz kk=>?_
  have fT:H s.heap.objs.size=none:=I.aG.fresh (bJ _)
  have I1:Inv X pins σ (upd H s.heap.objs.size (.tup [x,y])) { s with heap:=h',toks:=s.toks }:=I.S9 (its:=[z,TO,i1,i2]) (λc o hc e=>kk c o (λq=>hc (by simp[q])) (λq=>hc (by simp[q])) (λq=>hc (by simp[q])) (λq=>hc (by simp[q])) e)
   (λc hc=>hf c (by simp only[bY,ib,or_false]at hc ⊢;rcases hc with rfl | rfl | rfl | rfl<;>simp)) (bJ _) ⟨by show 2<=sizeLine;decide,[ux,uy],.cons rx (.cons ry .nil),⟨_,T',rfl,_,rfl⟩⟩
  have nT:∀c∈[z,TI,TO,i1,i2],c≠s.heap.objs.size:=λc hc q=>by
   have:∃o,s.heap.get? c=some o:=by
    simp only[bY,ib,or_false]at hc
    rcases hc with rfl | rfl | rfl | rfl | rfl
    ·exact⟨_,hz⟩
    ·exact⟨_,kq⟩
    ·exact⟨_,iQ⟩
    ·obtain⟨o,e,_⟩:=h1;exact⟨o,e⟩
    ·obtain⟨o,e,_⟩:=h2;exact⟨o,e⟩
   obtain⟨o,e⟩:=this
   exact absurd (bI e) (by rw[q];exact fw _)
  refine⟨_,rfl,wpAny_letOwnedTupleGo_zip z' λGR GS sb=>?_⟩
  have GU:∀c∈[z],iH X pins (upd H s.heap.objs.size (.tup [x,y])) c:=λc hc=>by
   have e:c=z:=by simpa using hc
   subst e
   obtain⟨f0,fr⟩:=hf c (by simp)
   exact⟨by rw[bc (nT c (by simp))];exact f0,fr⟩
  have I2:=Inv.Cc (h':=GR) (its:=[z]) (t':=s.toks) I1 (λc o hc e=>sb.extBut _ _ (λq=>hc (by simp[q])) e) GU
  refine⟨.ref s.heap.objs.size,_,I2,rfl,⟨_,x,y,rfl,fT,rfl,λxs' dj=>by rw[I.yW dj hx];exact ex,λTc Gv=>by rw[I.yW Gv hy];exact ey⟩,⟨GS,sb.extBut _ _ D.TIz (kk _ _ D.TIz D.TITO D.TIi1 D.TIi2 kq),⟨ux,uy,sb.extBut _ _ D.TOz TO'⟩,jN.extBut sb.extBut D.i1z,jh.extBut sb.extBut D.i2z⟩,λc hc=>?_⟩
  rw[bc (nT c hc)]
  exact(hf c hc).1
 ·intro X hP hw hK hc i pins s σ H E I hf st hg
  obtain⟨xs,ys,hx,hy,hl⟩:=hg
  obtain⟨hz,kq,⟨u,v,iQ⟩,h1,h2⟩:=st
  have D:=ap X pins s σ H i xs ys hK I hf hz ⟨u,v,iQ⟩ h1 h2 hx hy
  subst hP hw hK
  obtain⟨as,ra,pa,_⟩:=I.list hx
  obtain⟨bs,rb,pb,_⟩:=I.list hy
  have la:=ra.length
  have lb:=rb.length
  refine wpAny_pyNext_zip_end (I.ok.hd hc) D hz kq iQ h1 h2 pa.isList pb.isList (hl.imp (λq=>by simp;omega) λq=>by simp;omega) λh' kk=>⟨rfl,?_⟩
  exact I.Cc (its:=[z,TO,i1,i2]) (t':=s.toks) (λc o hc e=>kk c o (λq=>hc (by simp[q])) (λq=>hc (by simp[q])) (λq=>hc (by simp[q])) (λq=>hc (by simp[q])) e)
   (λc hc=>hf c (by simp only[bY,ib,or_false]at hc ⊢;rcases hc with rfl | rfl | rfl | rfl<;>simp))
noncomputable def GV(K:PySem.W.Frag)(a:Addr):It :=
 ⟨λi H=>∃xs x,bK K H a xs/\xs[i]?=some x,
  λi H v H'=>∃T x,v=.ref T/\H T=none/\H'=upd H T (.tup [.int i,x])/\∀xs,bK K H a xs->xs[i]?=some x,
  λi H=>∃xs,bK K H a xs/\xs.length<=i⟩
theorem cf9{P:Program}{w:World}{K:PySem.W.Frag}{elts:List Expr}{k:Nat}{pos:Pos}(a z it:Addr)(m8:z≠it) :
  Turn P w K (.Tuple elts k pos) (GV K a) [z,it] z (λi h=>(∃old,IsEnum h z it i old)/\h.IsListIter it a i):=by
 refine⟨by simp,λi h st c hc=>?_,λi h h' st kk=>?_,?_,?_,λ_ _ _ _ _ st h=>by obtain⟨⟨old,e⟩,_⟩:=st;exact wpAny_pyIter_enum e h⟩
 ·obtain⟨⟨old,hz⟩,⟨o1,e1,c1,d1⟩⟩:=st
  simp only[bY,ib,or_false]at hc
  rcases hc with rfl | rfl
  ·exact⟨_,hz,λv q=>by cases q⟩
  ·exact⟨_,e1,λv q=>by rw[d1]at q;cases q⟩
 ·obtain⟨⟨old,hz⟩,h1⟩:=st
  exact⟨⟨old,kk _ (by simp) _ hz⟩,h1.at λo e=>kk _ (by simp) o e⟩
 ·intro X hP hw hK hc i pins s σ H E I hf st hg
  subst hP hw hK
  obtain⟨xs,x,hx,ex⟩:=hg
  obtain⟨⟨old,hz⟩,h1⟩:=st
  obtain⟨as,ra,pa,_⟩:=I.list hx
  obtain⟨ux,GQ,rx⟩:=ra.get ex
  refine wpAny_pyNext_enum_item hz h1 pa.isList (x:=ux) (by simpa using GQ) m8 λh' z' jN T' sz kk=>?_
  have fT:H s.heap.objs.size=none:=I.aG.fresh (bJ _)
  have I1:Inv X pins σ (upd H s.heap.objs.size (.tup [.int i,x])) { s with heap:=h',toks:=s.toks+1 }:=I.S9 (its:=[z,it]) (λc o hc e=>kk c o (λq=>hc (by simp[q])) (λq=>hc (by simp[q])) e)
   (λc hc=>hf c hc) (bJ _) ⟨by show 2<=sizeLine;decide,[.int i s.toks,ux],.cons ⟨_,rfl⟩ (.cons rx .nil),⟨_,T',rfl,_,rfl⟩⟩
  have nT:∀c∈[z,it],c≠s.heap.objs.size:=λc hc q=>by
   have:∃o,s.heap.get? c=some o:=by
    simp only[bY,ib,or_false]at hc
    rcases hc with rfl | rfl
    ·exact⟨_,hz⟩
    ·obtain⟨o,e,_⟩:=h1;exact⟨o,e⟩
   obtain⟨o,e⟩:=this
   exact absurd (bI e) (by rw[q];exact fw _)
  refine⟨_,rfl,wpAny_letOwnedTupleGo_enum z' λGR GS sb=>?_⟩
  have GU:∀c∈[z],iH X pins (upd H s.heap.objs.size (.tup [.int i,x])) c:=λc hc=>by
   have e:c=z:=by simpa using hc
   subst e
   obtain⟨f0,fr⟩:=hf c (by simp)
   exact⟨by rw[bc (nT c (by simp))];exact f0,fr⟩
  have I2:=Inv.Cc (h':=GR) (its:=[z]) (t':=s.toks+1) I1 (λc o hc e=>sb.extBut _ _ (λq=>hc (by simp[q])) e) GU
  refine⟨.ref s.heap.objs.size,_,I2,rfl,⟨_,x,rfl,fT,rfl,λxs' dj=>by rw[I.yW dj hx];exact ex⟩,⟨⟨ux,by simpa using GS⟩,jN.extBut sb.extBut (fg m8)⟩,λc hc=>?_⟩
  rw[bc (nT c hc)]
  exact(hf c hc).1
 ·intro X hP hw hK hc i pins s σ H E I hf st hg
  subst hP hw hK
  obtain⟨xs,hx,hl⟩:=hg
  obtain⟨⟨old,hz⟩,h1⟩:=st
  obtain⟨as,ra,pa,_⟩:=I.list hx
  have la:=ra.length
  refine wpAny_pyNext_enum_end (I.ok.hd hc) hz h1 pa.isList (by simp;omega) λh' kk=>⟨rfl,?_⟩
  exact I.Cc (its:=[it]) (t':=s.toks) (λc o hc e=>kk c o (λq=>hc (by simp[q])) e) (λc hc=>hf c (by simp at hc ⊢;simp[hc]))
end
section
variable{X:Cx}{a b:Expr}{ta:TA}{p pos qZ:Pos}{elts:List Expr}{x1:Nat}
noncomputable def c98(K:PySem.W.Frag)(ta:TA):TI:=λσ H R=>ta σ H λvs H1=>∃a b,vs=[.ref a,.ref b]/\(∃xs,bK K H1 a xs)/\(∃ys,bK K H1 b ys)/\R (GP K a b) H1
theorem cj4:bootBuiltins "zip"=some (.type "zip"):=by decide +kernel
theorem cT1(hg:Gl X "zip")(hm:X.mg "zip"=none)(ha:PA X [a,b] ta)(hs:starEach [a,b] X.env=[(false,eval a X.env),(false,eval b X.env)]:=by rfl)(gk:starEach [b] X.env=[(false,eval b X.env)]:=by rfl) :
  PI X (.Tuple elts x1 qZ) (.Call (.Name "zip" p) [a,b] [] pos) (c98 X.K ta):=by
 intro pins s σ H R I h
 refine Call_ (lC I hg hm cj4 (qF (aP (ha pos pins s σ H _ I h) λus s1 ⟨vs,H1,I1,r1,q1⟩=>?_) (by rw[hs,gk]) (by rw[gk];rfl)))
 obtain⟨a,b,e,⟨xs,hx⟩,⟨ys,hy⟩,q⟩:=q1
 subst e
 cases r1 with
 | cons r rr =>
  cases rr with
  | cons r2 rr =>
   cases rr
   cases r
   cases r2
   obtain⟨as,ra,pa,_⟩:=I1.list hx
   obtain⟨bs,rb,pb,_⟩:=I1.list hy
   refine call_zip_2 pa.isList pb.isList λh' hz kq iQ h1 h2 sz kk=>wpAny_pyIter_zip hz ?_
   refine⟨_,[s1.heap.objs.size+4,s1.heap.objs.size+2,s1.heap.objs.size+3,s1.heap.objs.size,s1.heap.objs.size+1],_,_,H1,rfl,I1.kept (t':=s1.toks) kk,cq1 a b _ _ _ _ _ (by simp),⟨hz,kq,⟨_,_,iQ⟩,h1,h2⟩,λc hc=>?_,q⟩
   have hle:s1.heap.objs.size<=c:=by
    simp only[bY,ib,or_false]at hc
    rcases hc with rfl | rfl | rfl | rfl | rfl<;>omega
   exact I1.yX hle (I1.aG.fresh hle)
noncomputable def cV9(K:PySem.W.Frag)(ta:TA):TI:=λσ H R=>ta σ H λvs H1=>∃a,vs=[.ref a]/\(∃xs,bK K H1 a xs)/\R (GV K a) H1
theorem bz8:bootBuiltins "enumerate"=some (.type "enumerate"):=by decide +kernel
theorem cI9(hg:Gl X "enumerate")(hm:X.mg "enumerate"=none)(ha:PA X [a] ta)(hs:starEach [a] X.env=[(false,eval a X.env)]:=by rfl) :
  PI X (.Tuple elts x1 qZ) (.Call (.Name "enumerate" p) [a] [] pos) (cV9 X.K ta):=by
 intro pins s σ H R I h
 refine Call_ (lC I hg hm bz8 (qF (aP (ha pos pins s σ H _ I h) λus s1 ⟨vs,H1,I1,r1,q1⟩=>?_) hs rfl))
 obtain⟨a,e,⟨xs,hx⟩,q⟩:=q1
 subst e
 cases r1 with
 | cons r rr =>
  cases rr
  cases r
  obtain⟨as,ra,pa,_⟩:=I1.list hx
  refine call_enumerate_list pa.isList λh' hz h1 sz kk=>wpAny_pyIter_enum hz ?_
  refine⟨_,[s1.heap.objs.size+1,s1.heap.objs.size],_,_,H1,rfl,I1.kept (t':=s1.toks) kk,cf9 a (s1.heap.objs.size+1) s1.heap.objs.size (Nat.succ_ne_self _),⟨⟨_,hz⟩,h1⟩,λc hc=>?_,q⟩
  have hle:s1.heap.objs.size<=c:=by
   simp only[bY,ib,or_false]at hc
   rcases hc with rfl | rfl<;>omega
  exact I1.yX hle (I1.aG.fresh hle)
end
end L2
namespace L2
open PySem PySem.Spec PyProof.Rows PySem.W PySem.Calls
section
variable{X:Cx}
noncomputable def uU{α:Type}(xs:List α)(lo hi:Option Int):List α:=(xs.drop (HT.cV xs.length 0 lo)).take (HT.cV xs.length xs.length hi-HT.cV xs.length 0 lo)
theorem b82(x:Str)(lo hi:Option Int):Txt.slice x lo hi=⟨(uU x.cps.toList lo hi).toArray⟩:=by
 have hx:x.length=x.cps.size:=rfl
 have e:(Fo lo hi 1 x.length).filterMap (x.cps[·]?)=uU x.cps.toList lo hi:=by
  obtain⟨h1,h2,h3⟩:=Gk lo hi x.length
  have e0:Fo lo hi 1 x.length=sliceRange (sliceBounds lo hi none x.length).1 (sliceBounds lo hi none x.length).2.1 1:=by
   cases lo<;>cases hi<;>rfl
  rw[e0,h1,h2]
  simp only[sliceRange_one,pick_run]
  unfold uU
  rw[hx,ue]
 unfold Txt.slice
 split
 ·rename_i h
  have hl:(Fo lo hi 1 x.length).length=x.length:=by
   rw[dY]at h;exact eq_of_beq h.2
  have hs:(uU x.cps.toList lo hi)=x.cps.toList:=by
   have e2:HT.cV x.cps.toList.length x.cps.toList.length hi-HT.cV x.cps.toList.length 0 lo=x.length:=by
    obtain⟨h1,h2,h3⟩:=Gk lo hi x.length
    have e0:Fo lo hi 1 x.length=sliceRange (sliceBounds lo hi none x.length).1 (sliceBounds lo hi none x.length).2.1 1:=by
     cases lo<;>cases hi<;>rfl
    rw[e0,h1,h2]at hl
    simp only[sliceRange_one,bu,cZ]at hl
    rw[ue,<- hx]
    omega
   unfold uU
   have le:HT.cV x.cps.toList.length x.cps.toList.length hi<=x.cps.toList.length:=by
    cases hi with
    | none=>simp[HT.cV]
    | some i=>simp only[HT.cV];split<;>omega
   have le2:HT.cV x.cps.toList.length 0 lo<=x.cps.toList.length:=by
    cases lo with
    | none=>simp[HT.cV]
    | some i=>simp only[HT.cV];split<;>omega
   rw[ue,<- hx]at e2 le le2 ⊢
   have z:HT.cV x.length 0 lo=0:=by omega
   have z2:HT.cV x.length x.length hi=x.length:=by omega
   rw[z,z2,List.drop_zero,Q4,hx,<- ue,oA]
  rw[hs]
 ·rw[e]
theorem cL4:q9 X (λx lo hi H Q=>∃z,x=.str z/\z.length<=sizeLine/\Q (.str ⟨(uU z.cps.toList lo hi).toArray⟩) H):=by
 intro pins s σ H x v vl vu lo hi sl Q I rx hs pl pu h
 obtain⟨z,rfl,hz,q⟩:=h
 obtain⟨t,rfl⟩:=rx
 refine⟨"str",_,F.slot_str_getitem.lookup,typeIs_str _ _ _,?_⟩
 have fin:∀(l u:Option (Int × Tok)),l.map (·.1)=lo->u.map (·.1)=hi->partValue l=vl->partValue u=vu->wpAny (model X.prog X.w) X.A (getItem (.str z t) (.ref sl)) (EP X pins σ Q) X.xe s:=by
  intro l u h1 h2 h3 h4
  obtain⟨o,e1,e2,e3⟩:=hs
  refine wpAny_getItem_str_slice (l:=l) (u:=u) (st:=none) ⟨o,e1,e2,by rw[e3,h3,h4];rfl⟩ rfl ?_
  have e:Txt.slice z lo hi=(if(((none:Option (Int × Tok)).map (·.1)).getD 1==1&&(slicePicked z l u none).length==z.length)=true then z else⟨((slicePicked z l u none).filterMap (z.cps[·]?)).toArray⟩):=by
   unfold Txt.slice slicePicked;rw[h1,h2];rfl
  refine post_val_or_str ⟨?_,λt' k=>?_⟩
  ·rw[<-e];exact eH (Txt.slice_le z _ _) hz
  ·rw[<-e,b82];exact⟨.str _,H,I.tok _,⟨_,rfl⟩,q⟩
 cases pl with
 | none =>
  cases pu with
  | none=>exact fin none none rfl rfl rfl rfl
  | int j tj=>exact fin none (some (j,tj)) rfl rfl rfl rfl
 | int i ti =>
  cases pu with
  | none=>exact fin (some (i,ti)) none rfl rfl rfl rfl
  | int j tj=>exact fin (some (i,ti)) (some (j,tj)) rfl rfl rfl rfl
end
end L2
namespace L3
open PySem L2
noncomputable def iS:HO->Bool
 | .dy _=>false
 | _=>true
structure ag(H H':Hp):Prop where
 get:∀b o,H b=some o->(h:iS o=true:=by rfl)->H' b=some o
 tb:∀b ps,H b=some (.dy ps)->∃more,H' b=some (.dy (ps++more))
noncomputable instance {H H':Hp}:CoeFun (ag H H') λ_=>∀b o,H b=some o->(h:iS o=true:=by rfl)->H' b=some o:=⟨λs=>@ag.get _ _ s⟩
theorem GW{o:HO}(h:iS o=false):∃ps,o=.dy ps:=by
 cases o with
 | dy ps=>exact⟨ps,rfl⟩
 | _=>cases h
theorem ag.of{H H':Hp}(h:∀b o,H b=some o->H' b=some o):ag H H':=⟨λb o e _=>h b o e,λb ps e=>⟨#[],by rw[h b _ e];simp⟩⟩
theorem ag.refl(H:Hp):ag H H:=.of λ_ _ h=>h
theorem ag.trans{H H1 H2:Hp}(a:ag H H1)(b:ag H1 H2):ag H H2 :=
 ⟨λc o h n=>b.get c o (a.get c o h n) n,λc ps h=>by
  obtain⟨m1,e1⟩:=a.tb c ps h
  obtain⟨m2,e2⟩:=b.tb c _ e1
  exact⟨m1++m2,by rw[e2,Bi]⟩⟩
theorem ag.any{H H':Hp}(e:ag H H'){l:Addr}{o:HO}(h:H l=some o):∃o',H' l=some o':=by
 cases n:iS o with
 | true=>exact⟨o,e.get l o h n⟩
 | false =>
  obtain⟨ps,rfl⟩:=GW n
  obtain⟨m,q⟩:=e.tb l ps h
  exact⟨_,q⟩
theorem ag.free{H H':Hp}(e:ag H H'){l:Addr}(h:H' l=Option.none):H l=Option.none:=by
 cases q:H l with
 | none=>rfl
 | some o =>
  obtain⟨o',z⟩:=e.any q
  rw[z]at h
  cases h
inductive uV where
 | ext (φ:Addr->Heap->Prop)
 | lam (of oc:Obj) (c k:Addr)
noncomputable instance:Coe (Addr->Heap->Prop) uV:=⟨.ext⟩
noncomputable def GX(H:Hp)(k:Addr):Prop:=∃ψ,H k=some (.ext ψ)/\∀h,ψ h->∃q,h.CodeRec (.ref k) q
noncomputable def ji(of oc:Obj)(c p:Addr):Heap->Prop:=λh=>h.get? p=some of/\h.get? c=some oc
structure jO(H:Hp)(p:Addr)(of oc:Obj)(c k:Addr):Prop where
 fn:H p=some (.ext (ji of oc c p))
 cell:H c=some (.own p)
 GY:GX H k
noncomputable def rk(H:Hp)(p:Addr):uV->Prop
 | .ext φ=>H p=some (.ext (φ p))
 | .lam of oc c k=>jO H p of oc c k
theorem rk.mono{H H':Hp}{p:Addr}:∀{z:uV},rk H p z->(∀a o,H a=some o->(∀ws,o≠.lst ws)->iS o=true->H' a=some o)->rk H' p z
 | .ext φ,x,k=>k _ _ x (λws q=>by cases q) rfl
 | .lam of oc c k',x,k=>⟨k _ _ x.fn (λws q=>by cases q) rfl,k _ _ x.cell (λws q=>by cases q) rfl,let⟨ψ,e,h⟩:=x.GY;⟨ψ,k _ _ e (λws q=>by cases q) rfl,h⟩⟩
inductive D where
 | aw | bl (b:Bool) | int (i:Int) | str (x:Str)
 | lst (o:Bool) (xs:List D)
 | tup (xs:List D)
 | obj (C:Addr) (ns:List Str) (xs:List D)
 | fz (xs:List D)
 | bL (z:uV)
 deriving Inhabited
noncomputable def D.pl:D->Bool
 | .lst o xs=>!o&&zt xs
 | .tup xs=>zt xs
 | _=>true
where zt:List D->Bool
 | []=>true
 | d::ds=>d.pl&&zt ds
noncomputable def D.fr:D->Bool
 | .lst o xs=>o&&zu xs
 | .tup xs=>zu xs
 | .obj _ _ _=>false
 | .fz _=>false
 | _=>true
where zu:List D->Bool
 | []=>true
 | d::ds=>d.fr&&zu ds
noncomputable def D.sh:D->D
 | .lst _ xs=>.lst false (zw xs)
 | .tup xs=>.tup (zw xs)
 | d=>d
where zw:List D->List D
 | []=>[]
 | d::ds=>d.sh::zw ds
theorem Td(ds:List D):D.pl.zt ds=ds.all D.pl:=by induction ds with | nil=>rfl | cons d ds ih=>simp[D.pl.zt,ih]
theorem Te(ds:List D):D.fr.zu ds=ds.all D.fr:=by induction ds with | nil=>rfl | cons d ds ih=>simp[D.fr.zu,ih]
theorem Tf(ds:List D):D.sh.zw ds=ds.map D.sh:=by induction ds with | nil=>rfl | cons d ds ih=>simp[D.sh.zw,ih]
theorem gG(o:Bool)(xs:List D):(D.lst o xs).pl=(!o&&xs.all D.pl):=by simp[D.pl,Td]
theorem kr(xs:List D):(D.tup xs).pl=xs.all D.pl:=by simp[D.pl,Td]
theorem fY(o:Bool)(xs:List D):(D.lst o xs).fr=(o&&xs.all D.fr):=by simp[D.fr,Te]
theorem m9(xs:List D):(D.tup xs).fr=xs.all D.fr:=by simp[D.fr,Te]
theorem fj(o:Bool)(xs:List D):(D.lst o xs).sh=.lst false (xs.map D.sh):=by simp[D.sh,Tf]
theorem ku(xs:List D):(D.tup xs).sh=.tup (xs.map D.sh):=by simp[D.sh,Tf]
inductive R(F H:Hp):List D->List V->List Addr->Prop
 | nil:R F H [] [] []
 | aw {ds vs B}:R F H ds vs B->R F H (.aw::ds) (.aw::vs) B
 | bl {b ds vs B}:R F H ds vs B->R F H (.bl b::ds) (.bl b::vs) B
 | int {i ds vs B}:R F H ds vs B->R F H (.int i::ds) (.int i::vs) B
 | str {x ds vs B}:R F H ds vs B->R F H (.str x::ds) (.str x::vs) B
 | shr {p ws xs ds vs B}:F p=some (.lst ws)->R F H xs ws []->R F H ds vs B->R F H (.lst false xs::ds) (.ref p::vs) B
 | own {p ws xs A ds vs B}:H p=some (.lst ws)->F p=none->R F H xs ws A->R F H ds vs B->R F H (.lst true xs::ds) (.ref p::vs) (p::(A++B))
 | tup {p ws xs A ds vs B}:H p=some (.tup ws)->R F H xs ws A->R F H ds vs B->R F H (.tup xs::ds) (.ref p::vs) (A++B)
 | obj {p C dx ns ws xs ds vs B}:H p=some (.ins C dx (ns.zip ws))->ns.length=ws.length->R F H xs ws []->R F H ds vs B->R F H (.obj C ns xs::ds) (.ref p::vs) B
 | fz {p o ws xs ds vs B}:F p=some (.ck o (.lst ws))->R F H xs ws []->R F H ds vs B->R F H (.fz xs::ds) (.ref p::vs) B
 | bL {p z ds vs B}:rk H p z->R F H ds vs B->R F H (.bL z::ds) (.ref p::vs) B
inductive S(F H:Hp):List D->List V->Prop
 | nil:S F H [] []
 | aw {ds vs}:S F H ds vs->S F H (.aw::ds) (.aw::vs)
 | bl {b ds vs}:S F H ds vs->S F H (.bl b::ds) (.bl b::vs)
 | int {i ds vs}:S F H ds vs->S F H (.int i::ds) (.int i::vs)
 | str {x ds vs}:S F H ds vs->S F H (.str x::ds) (.str x::vs)
 | shr {p ws xs ds vs}:F p=some (.lst ws)->R F H xs ws []->S F H ds vs->S F H (.lst false xs::ds) (.ref p::vs)
 | own {p ws xs ds vs}:H p=some (.lst ws)->S F H xs ws->S F H ds vs->S F H (.lst true xs::ds) (.ref p::vs)
 | tup {p ws xs ds vs}:H p=some (.tup ws)->S F H xs ws->S F H ds vs->S F H (.tup xs::ds) (.ref p::vs)
 | obj {p C dx ns ws xs ds vs}:H p=some (.ins C dx (ns.zip ws))->ns.length=ws.length->R F H xs ws []->S F H ds vs->S F H (.obj C ns xs::ds) (.ref p::vs)
 | fz {p o ws xs ds vs}:F p=some (.ck o (.lst ws))->R F H xs ws []->S F H ds vs->S F H (.fz xs::ds) (.ref p::vs)
 | bL {p z ds vs}:rk H p z->S F H ds vs->S F H (.bL z::ds) (.ref p::vs)
section
variable{F F' H H':Hp}{d:D}{ds es:List D}{v:V}{vs ws:List V}{A B:List Addr}
theorem R.length(r:R F H ds vs A):ds.length=vs.length:=by
 induction r<;>simp_all
theorem S.length(r:S F H ds vs):ds.length=vs.length:=by
 induction r<;>simp_all
theorem R.cons(r:R F H [d] [v] A)(q:R F H ds vs B):R F H (d::ds) (v::vs) (A++B):=by
 cases r with
 | aw r=>cases r;exact .aw q
 | bl r=>cases r;exact .bl q
 | int r=>cases r;exact .int q
 | str r=>cases r;exact .str q
 | shr h x r=>cases r;exact .shr h x q
 | own h f x r=>cases r;simpa using R.own h f x q
 | tup h x r=>cases r;simpa using R.tup h x q
 | obj h l x r=>cases r;exact .obj h l x q
 | fz h x r=>cases r;exact .fz h x q
 | bL h r=>cases r;exact .bL h q
theorem R.cP(r:R F H (d::ds) vs A):∃v cE A1 A2,vs=v::cE/\A=A1++A2/\R F H [d] [v] A1/\R F H ds cE A2:=by
 cases r with
 | aw r=>exact⟨_,_,[],_,rfl,rfl,.aw .nil,r⟩
 | bl r=>exact⟨_,_,[],_,rfl,rfl,.bl .nil,r⟩
 | int r=>exact⟨_,_,[],_,rfl,rfl,.int .nil,r⟩
 | str r=>exact⟨_,_,[],_,rfl,rfl,.str .nil,r⟩
 | shr h x r=>exact⟨_,_,[],_,rfl,rfl,.shr h x .nil,r⟩
 | @own p _ _ A1 _ _ B1 h f x r=>exact⟨_,_,p::A1,B1,rfl,rfl,by simpa using R.own h f x .nil,r⟩
 | @tup p _ _ A1 _ _ B1 h x r=>exact⟨_,_,A1,B1,rfl,rfl,by simpa using R.tup h x .nil,r⟩
 | obj h l x r=>exact⟨_,_,[],_,rfl,rfl,.obj h l x .nil,r⟩
 | fz h x r=>exact⟨_,_,[],_,rfl,rfl,.fz h x .nil,r⟩
 | bL h r=>exact⟨_,_,[],_,rfl,rfl,.bL h .nil,r⟩
theorem S.cons(r:S F H [d] [v])(q:S F H ds vs):S F H (d::ds) (v::vs):=by
 cases r with
 | aw r=>exact .aw q
 | bl r=>exact .bl q
 | int r=>exact .int q
 | str r=>exact .str q
 | shr h x r=>exact .shr h x q
 | own h x r=>exact .own h x q
 | tup h x r=>exact .tup h x q
 | obj h l x r=>exact .obj h l x q
 | fz h x r=>exact .fz h x q
 | bL h r=>exact .bL h q
theorem S.cP(r:S F H (d::ds) vs):∃v cE,vs=v::cE/\S F H [d] [v]/\S F H ds cE:=by
 cases r with
 | aw r=>exact⟨_,_,rfl,.aw .nil,r⟩
 | bl r=>exact⟨_,_,rfl,.bl .nil,r⟩
 | int r=>exact⟨_,_,rfl,.int .nil,r⟩
 | str r=>exact⟨_,_,rfl,.str .nil,r⟩
 | shr h x r=>exact⟨_,_,rfl,.shr h x .nil,r⟩
 | own h x r=>exact⟨_,_,rfl,.own h x .nil,r⟩
 | tup h x r=>exact⟨_,_,rfl,.tup h x .nil,r⟩
 | obj h l x r=>exact⟨_,_,rfl,.obj h l x .nil,r⟩
 | fz h x r=>exact⟨_,_,rfl,.fz h x .nil,r⟩
 | bL h r=>exact⟨_,_,rfl,.bL h .nil,r⟩
theorem R.append:∀{ds:List D} {vs:List V} {A:List Addr},R F H ds vs A->R F H es ws B->R F H (ds++es) (vs++ws) (A++B)
 | [],_,_,r,q=>by cases r;exact q
 | d::ds,_,_,r,q=>by
  obtain⟨v,cE,A1,A2,rfl,rfl,h1,h2⟩:=r.cP
  simpa using h1.cons (R.append h2 q)
theorem S.append:∀{ds:List D} {vs:List V},S F H ds vs->S F H es ws->S F H (ds++es) (vs++ws)
 | [],_,r,q=>by cases r;exact q
 | d::ds,_,r,q=>by
  obtain⟨v,cE,rfl,h1,h2⟩:=r.cP
  exact h1.cons (S.append h2 q)
theorem R.split:∀{ds:List D} {vs:List V} {A:List Addr},R F H (ds++es) vs A->∃v1 v2 A1 A2,vs=v1++v2/\A=A1++A2/\R F H ds v1 A1/\R F H es v2 A2
 | [],vs,A,r=>⟨[],vs,[],A,rfl,rfl,.nil,r⟩
 | d::ds,_,_,r=>by
  obtain⟨v,cE,A1,A2,rfl,rfl,h1,h2⟩:=R.cP (ds:=ds++es) r
  obtain⟨v1,v2,B1,B2,rfl,rfl,h3,h4⟩:=R.split (ds:=ds) h2
  exact⟨v::v1,v2,A1++B1,B2,rfl,by simp,h1.cons h3,h4⟩
theorem R.get:∀{ds:List D} {vs:List V} {A:List Addr} {i:Nat},R F H ds vs A->ds[i]?=some d->∃v A1,vs[i]?=some v/\R F H [d] [v] A1/\A1 ⊆ A
 | [],_,_,_,_,e=>by simp at e
 | d'::ds,_,_,i,r,e=>by
  obtain⟨v,cE,A1,A2,rfl,rfl,h1,h2⟩:=r.cP
  cases i with
  | zero=>simp at e;subst e;exact⟨v,A1,rfl,h1,by simp⟩
  | succ i =>
   obtain⟨w,B1,e2,q,sb⟩:=R.get (ds:=ds) (i:=i) h2 (by simpa using e)
   exact⟨w,B1,by simpa using e2,q,λx hx=>fA _ (sb hx)⟩
theorem S.get:∀{ds:List D} {vs:List V} {i:Nat},S F H ds vs->ds[i]?=some d->∃v,vs[i]?=some v/\S F H [d] [v]
 | [],_,_,_,e=>by simp at e
 | d'::ds,_,i,r,e=>by
  obtain⟨v,cE,rfl,h1,h2⟩:=r.cP
  cases i with
  | zero=>simp at e;subst e;exact⟨v,rfl,h1⟩
  | succ i =>
   obtain⟨w,e2,q⟩:=S.get (ds:=ds) (i:=i) h2 (by simpa using e)
   exact⟨w,by simpa using e2,q⟩
theorem S.get':∀{ds:List D} {vs:List V} {i:Nat},S F H ds vs->vs[i]?=some v->∃d,ds[i]?=some d/\S F H [d] [v]
 | [],_,_,r,e=>by cases r;simp at e
 | d'::ds,_,i,r,e=>by
  obtain⟨v,cE,rfl,h1,h2⟩:=r.cP
  cases i with
  | zero=>simp at e;subst e;exact⟨d',rfl,h1⟩
  | succ i =>
   obtain⟨w,e2,q⟩:=S.get' (ds:=ds) (i:=i) h2 (by simpa using e)
   exact⟨w,by simpa using e2,q⟩
theorem S.take:∀{ds:List D} {vs:List V} (n:Nat),S F H ds vs->S F H (ds.take n) (vs.take n)
 | _,_,0,r=>by simpa using S.nil
 | [],_,n+1,r=>by cases r;exact .nil
 | d::ds,_,n+1,r=>by
  obtain⟨v,cE,rfl,h1,h2⟩:=r.cP
  exact h1.cons (S.take n h2)
theorem S.drop:∀{ds:List D} {vs:List V} (n:Nat),S F H ds vs->S F H (ds.drop n) (vs.drop n)
 | _,_,0,r=>by simpa using r
 | [],_,n+1,r=>by cases r;exact .nil
 | d::ds,_,n+1,r=>by
  obtain⟨v,cE,rfl,h1,h2⟩:=r.cP
  exact S.drop n h2
theorem gr{p:Addr}{o:HO}(h:Rd F p o)(s:ag F F')(n:iS o=true:=by rfl):Rd F' p o:=by
 rcases h with h | ⟨u,h⟩
 ·exact .inl (s.get _ _ h n)
 ·exact .inr ⟨u,s _ _ h⟩
theorem R.s(r:R F H ds vs A):S F H ds vs:=by
 induction r with
 | nil=>exact .nil
 | aw _ ih=>exact .aw ih
 | bl _ ih=>exact .bl ih
 | int _ ih=>exact .int ih
 | str _ ih=>exact .str ih
 | shr h x _ _ ih=>exact .shr h x ih
 | own h f _ _ i1 i2=>exact .own h i1 i2
 | tup h _ _ i1 i2=>exact .tup h i1 i2
 | obj h l x _ _ ih=>exact .obj h l x ih
 | fz h x _ _ ih=>exact .fz h x ih
 | bL h _ ih=>exact .bL h ih
structure gU(W:List Addr)(H H':Hp):Prop where
 get:∀a o,H a=some o->a ∉ W->(h:iS o=true:=by rfl)->H' a=some o
noncomputable instance {W:List Addr} {H H':Hp}:CoeFun (gU W H H') λ_=>∀a o,H a=some o->a ∉ W->(h:iS o=true:=by rfl)->H' a=some o:=⟨λs=>@gU.get _ _ _ s⟩
noncomputable def iT(W:List Addr)(H:Hp):Prop:=∀a∈W,∃ws,H a=some (.lst ws)
theorem R.keep{W:List Addr}(hf:ag F F')(hb:gU W H H')(hl:iT W H)(r:R F H ds vs A)(hn:∀a∈A,F' a=none)(hd:∀a∈A,a ∉ W):R F' H' ds vs A:=by
 induction r with
 | nil=>exact .nil
 | aw _ ih=>exact .aw (ih hn hd)
 | bl _ ih=>exact .bl (ih hn hd)
 | int _ ih=>exact .int (ih hn hd)
 | str _ ih=>exact .str (ih hn hd)
 | shr h x _ i1 ih=>exact .shr (hf _ _ h) (i1 (by simp) (by simp)) (ih hn hd)
 | own h f _ _ i1 i2 =>
  refine .own (hb _ _ h (hd _ (by simp))) (hn _ (by simp)) (i1 (λa ha=>hn a ?_) λa ha=>hd a ?_) (i2 (λa ha=>hn a ?_) λa ha=>hd a ?_)<;>simp[ha]
 | @tup p ws _ _ _ _ _ h _ _ i1 i2 =>
  refine .tup (hb _ _ h λz=>?_) (i1 (λa ha=>hn a ?_) λa ha=>hd a ?_) (i2 (λa ha=>hn a ?_) λa ha=>hd a ?_)<;>try simp[ha]
  obtain⟨q,e⟩:=hl _ z
  rw[h]at e;cases e
 | obj h l x _ i1 ih =>
  refine .obj (hb _ _ h λz=>?_) l (i1 (by simp) (by simp)) (ih hn hd)
  obtain⟨q,e⟩:=hl _ z
  rw[h]at e;cases e
 | fz h x _ i1 ih=>exact .fz (hf _ _ h) (i1 (by simp) (by simp)) (ih hn hd)
 | bL h _ ih =>
  exact .bL (h.mono λa o e n t=>hb.get a o e (λz=>by
   obtain⟨q,e'⟩:=hl _ z
   rw[e]at e';cases e';exact n _ rfl) t) (ih hn hd)
theorem gU.same(h:ag H H'):gU [] H H':=⟨λa o e _ n=>h.get a o e n⟩
theorem iT.nil:iT [] H:=λa h=>absurd h (by simp)
theorem R.grow(hf:ag F F')(hb:ag H H')(r:R F H ds vs A)(hn:∀a∈A,F' a=none):R F' H' ds vs A :=
 r.keep hf (gU.same hb) iT.nil hn (by simp)
theorem R.shared(hf:ag F F')(hb:ag H H')(r:R F H ds vs []):R F' H' ds vs []:=r.grow hf hb (by simp)
theorem S.mono(hf:ag F F')(hb:ag H H')(r:S F H ds vs):S F' H' ds vs:=by
 induction r with
 | nil=>exact .nil
 | aw _ ih=>exact .aw ih
 | bl _ ih=>exact .bl ih
 | int _ ih=>exact .int ih
 | str _ ih=>exact .str ih
 | shr h x _ ih=>exact .shr (hf _ _ h) (x.shared hf hb) ih
 | own h _ _ i1 i2=>exact .own (hb _ _ h) i1 i2
 | tup h _ _ i1 i2=>exact .tup (hb _ _ h) i1 i2
 | obj h l x _ ih=>exact .obj (hb _ _ h) l (x.shared hf hb) ih
 | fz h x _ ih=>exact .fz (hf _ _ h) (x.shared hf hb) ih
 | bL h _ ih=>exact .bL (h.mono λa o e _ t=>hb.get a o e t) ih
theorem S.r(s:S F H ds vs)(p:ds.all D.pl=true):R F H ds vs []:=by
 induction s with
 | nil=>exact .nil
 | aw _ ih=>exact .aw (ih (by simpa[D.pl]using p))
 | bl _ ih=>exact .bl (ih (by simpa[D.pl]using p))
 | int _ ih=>exact .int (ih (by simpa[D.pl]using p))
 | str _ ih=>exact .str (ih (by simpa[D.pl]using p))
 | shr h x _ ih=>exact .shr h x (ih (by simp[gG]at p;simpa using p.2))
 | own h _ _ i1 i2=>simp[gG]at p
 | tup h _ _ i1 i2 =>
  rw[eL,kr,dY]at p
  simpa using R.tup h (i1 p.1) (i2 p.2)
 | obj h l x _ ih=>exact .obj h l x (ih (by simpa[D.pl]using p))
 | fz h x _ ih=>exact .fz h x (ih (by simpa[D.pl]using p))
 | bL h _ ih=>exact .bL h (ih (by simpa[D.pl]using p))
theorem R.pl(r:R F H ds vs []):ds.all D.pl=true:=by
 generalize e:([]:List Addr)=A at r
 induction r with
 | nil=>rfl
 | aw _ ih=>simp[D.pl];simpa using ih e
 | bl _ ih=>simp[D.pl];simpa using ih e
 | int _ ih=>simp[D.pl];simpa using ih e
 | str _ ih=>simp[D.pl];simpa using ih e
 | shr h x _ i1 ih=>simp only[eL,gG,i1 rfl,ih e];rfl
 | own h f _ _ i1 i2=>cases e
 | tup h _ _ i1 i2 =>
  obtain⟨e1,e2⟩:=Fp.mp e.symm
  simp only[eL,kr,i1 e1.symm,i2 e2.symm];rfl
 | obj h l x _ i1 ih=>simp[D.pl];simpa using ih e
 | fz h x _ i1 ih=>simp[D.pl];simpa using ih e
 | bL h _ ih=>simp[D.pl];simpa using ih e
theorem D.Cd:∀{d:D},d.pl=true->d.sh=d
 | .aw,_=>rfl
 | .bl _,_=>rfl
 | .int _,_=>rfl
 | .str _,_=>rfl
 | .obj _ _ _,_=>rfl
 | .fz _,_=>rfl
 | .bL _,_=>rfl
 | .lst o xs,h=>by
  rw[gG,dY]at h
  have:∀(l:List D),(∀x∈l,x∈xs)->l.all D.pl=true->l.map D.sh=l:=by
   intro l hl hp
   induction l with
   | nil=>rfl
   | cons x l ih =>
    simp only[eL,dY]at hp
    have hx:x∈xs:=hl x (by simp)
    rw[eK,D.Cd hp.1,ih (λy hy=>hl y (by simp[hy])) hp.2]
  rw[fj,this xs (λ_ h=>h) h.2]
  cases o<;>simp_all
 | .tup xs,h=>by
  rw[kr]at h
  have:∀(l:List D),(∀x∈l,x∈xs)->l.all D.pl=true->l.map D.sh=l:=by
   intro l hl hp
   induction l with
   | nil=>rfl
   | cons x l ih =>
    simp only[eL,dY]at hp
    have hx:x∈xs:=hl x (by simp)
    rw[eK,D.Cd hp.1,ih (λy hy=>hl y (by simp[hy])) hp.2]
  rw[ku,this xs (λ_ h=>h) h]
termination_by d=>sizeOf d
theorem lN{l:List D}(h:l.all D.pl=true):l.map D.sh=l:=by
 induction l with
 | nil=>rfl
 | cons x l ih =>
  simp only[eL,dY]at h
  rw[eK,D.Cd h.1,ih h.2]
theorem S.frozen(e:ag F H)(s:S F H ds vs):R H H (ds.map D.sh) vs []:=by
 induction s with
 | nil=>exact .nil
 | aw _ ih=>exact .aw ih
 | bl _ ih=>exact .bl ih
 | int _ ih=>exact .int ih
 | str _ ih=>exact .str ih
 | shr h x _ ih =>
  rw[eK,fj,lN x.pl]
  exact .shr (e _ _ h) (x.shared e (ag.refl _)) ih
 | own h _ _ i1 i2=>rw[eK,fj];exact .shr h i1 i2
 | tup h _ _ i1 i2=>rw[eK,ku];simpa using R.tup h i1 i2
 | obj h l x _ ih=>exact .obj h l (x.shared e (ag.refl _)) ih
 | fz h x _ ih=>exact .fz (e _ _ h) (x.shared e (ag.refl _)) ih
 | bL h _ ih=>exact .bL h ih
noncomputable def ck(F H:Hp)(A:List Addr):Hp:=λa=>if a∈A then H a else F a
theorem lQ(e:ag F H):ag F (ck F H A):=⟨λa o h n=>by unfold ck;split;exact e.get _ _ h n;exact h,λa ps h=>by unfold ck;split;exact e.tb _ _ h;exact⟨#[],by rw[h];simp⟩⟩
theorem Tg(e:ag F H):ag (ck F H A) H:=⟨λa o h n=>by unfold ck at h;split at h;exact h;exact e.get _ _ h n,λa ps h=>by unfold ck at h;split at h;exact⟨#[],by rw[h];simp⟩;exact e.tb _ _ h⟩
theorem Ce{a:Addr}(h:a ∉ A):ck F H A a=F a:=by unfold ck;rw[if_neg h]
theorem cM2{a:Addr}(h:a∈A):ck F H A a=H a:=by unfold ck;rw[if_pos h]
theorem R.ck(e:ag F H)(r:R F H ds vs A):∀A',A ⊆ A'->R (L3.ck F H A') H (ds.map D.sh) vs []:=by
 induction r with
 | nil=>exact λ_ _=>.nil
 | aw _ ih=>exact λA' h=>.aw (ih A' h)
 | bl _ ih=>exact λA' h=>.bl (ih A' h)
 | int _ ih=>exact λA' h=>.int (ih A' h)
 | str _ ih=>exact λA' h=>.str (ih A' h)
 | shr h x _ i1 ih =>
  intro A' hA
  rw[eK,fj,lN x.pl]
  exact .shr (lQ e _ _ h) (x.shared (lQ e) (ag.refl _)) (ih A' hA)
 | own h f _ _ i1 i2 =>
  intro A' hA
  rw[eK,fj]
  exact .shr ((cM2 (hA (by simp))).trans h) (i1 A' λa ha=>hA (by simp[ha])) (i2 A' λa ha=>hA (by simp[ha]))
 | tup h _ _ i1 i2 =>
  intro A' hA
  rw[eK,ku]
  simpa using R.tup h (i1 A' λa ha=>hA (by simp[ha])) (i2 A' λa ha=>hA (by simp[ha]))
 | obj h l x _ i1 ih=>exact λA' hA=>.obj h l (x.shared (lQ e) (ag.refl _)) (ih A' hA)
 | fz h x _ i1 ih=>exact λA' hA=>.fz (lQ e _ _ h) (x.shared (lQ e) (ag.refl _)) (ih A' hA)
 | bL h _ ih=>exact λA' hA=>.bL h (ih A' hA)
theorem R.lists(r:R F H ds vs A):∀a∈A,(∃ws,H a=some (.lst ws))/\F a=none:=by
 induction r with
 | nil=>simp
 | aw _ ih=>exact ih
 | bl _ ih=>exact ih
 | int _ ih=>exact ih
 | str _ ih=>exact ih
 | shr h x _ i1 ih=>exact ih
 | own h f _ _ i1 i2 =>
  intro a ha
  rcases bY.mp ha with rfl | ha
  ·exact⟨⟨_,h⟩,f⟩
  ·exact(cw.mp ha).elim (i1 a) (i2 a)
 | tup h _ _ i1 i2=>exact λa ha=>(cw.mp ha).elim (i1 a) (i2 a)
 | obj h l x _ i1 ih=>exact ih
 | fz h x _ i1 ih=>exact ih
 | bL h _ ih=>exact ih
theorem R.GZ(r:R F H ds vs A)(hd:ds.all D.fr=true)(e:ag F' F):R F' H ds vs A:=by
 induction r with
 | nil=>exact .nil
 | aw _ ih=>exact .aw (ih (by simpa[D.fr]using hd))
 | bl _ ih=>exact .bl (ih (by simpa[D.fr]using hd))
 | int _ ih=>exact .int (ih (by simpa[D.fr]using hd))
 | str _ ih=>exact .str (ih (by simpa[D.fr]using hd))
 | shr h x _ i1 ih=>simp[fY]at hd
 | own h f _ _ i1 i2 =>
  rw[eL,fY,dY,mJ]at hd
  exact .own h (e.free f) (i1 hd.1) (i2 hd.2)
 | tup h _ _ i1 i2 =>
  rw[eL,m9,dY]at hd
  exact .tup h (i1 hd.1) (i2 hd.2)
 | obj h l x _ i1 ih=>simp[D.fr]at hd
 | fz h x _ i1 ih=>simp[D.fr]at hd
 | bL h _ ih=>exact .bL h (ih (by simpa[D.fr]using hd))
theorem R.inj(r:R F H ds vs A):∀{B:List Addr},R F H ds vs B->A=B:=by
 induction r with
 | nil=>intro B q;cases q;rfl
 | aw _ ih=>intro B q;cases q with | aw q=>exact ih q
 | bl _ ih=>intro B q;cases q with | bl q=>exact ih q
 | int _ ih=>intro B q;cases q with | int q=>exact ih q
 | str _ ih=>intro B q;cases q with | str q=>exact ih q
 | shr h x _ i1 ih=>intro B q;cases q with | shr _ _ q=>exact ih q
 | own h f _ _ i1 i2 =>
  intro B q
  cases q with
  | own h' f' x' q =>
   rw[h]at h';cases h'
   rw[i1 x',i2 q]
 | tup h _ _ i1 i2 =>
  intro B q
  cases q with
  | tup h' x' q =>
   rw[h]at h';cases h'
   rw[i1 x',i2 q]
 | obj h l x _ i1 ih=>intro B q;cases q with | obj _ _ _ q=>exact ih q
 | fz h x _ i1 ih=>intro B q;cases q with | fz _ _ q=>exact ih q
 | bL h _ ih=>intro B q;cases q with | bL _ q=>exact ih q
theorem R.perm{ps qs:List (D × V)}(hp:ps.Perm qs):∀{A:List Addr},R F H (ps.map (·.1)) (ps.map (·.2)) A->∃A',R F H (qs.map (·.1)) (qs.map (·.2)) A'/\A.Perm A':=by
 induction hp with
 | nil=>exact λr=>⟨_,r,.refl _⟩
 | cons x _ ih =>
  intro A r
  obtain⟨v,cE,A1,A2,e,rfl,h1,h2⟩:=R.cP r
  obtain⟨rfl,rfl⟩:=mK e
  obtain⟨A',r',p⟩:=ih h2
  exact⟨A1++A',h1.cons r',p.append_left _⟩
 | swap x y l =>
  intro A r
  obtain⟨v,cE,A1,A2,e,rfl,h1,h2⟩:=R.cP r
  obtain⟨rfl,rfl⟩:=mK e
  obtain⟨v2,Th,B1,B2,e,rfl,h3,h4⟩:=R.cP h2
  obtain⟨rfl,rfl⟩:=mK e
  exact⟨B1++(A1++B2),h3.cons (h1.cons h4),by rw[<-fC,<- fC];exact oB.append_right _⟩
 | trans _ _ i1 i2 =>
  intro A r
  obtain⟨A',r',p⟩:=i1 r
  obtain⟨A2,r2,p2⟩:=i2 r'
  exact⟨A2,r2,p.trans p2⟩
noncomputable def Full(F H:Hp):Prop:=∀a o,H a=some o->(∀ws,o≠.lst ws)->F a=some o
theorem Full.refl(H:Hp):Full H H:=λ_ _ h _=>h
theorem R.full(hF:Full F H)(hs:ag F H')(r:R F H ds vs A)(e:A=[]):R F H' ds vs []:=by
 induction r with
 | nil=>exact .nil
 | aw _ ih=>exact .aw (ih e)
 | bl _ ih=>exact .bl (ih e)
 | int _ ih=>exact .int (ih e)
 | str _ ih=>exact .str (ih e)
 | shr h x _ i1 ih=>exact .shr h (i1 rfl) (ih e)
 | own h f _ _ i1 i2=>cases e
 | tup h _ _ i1 i2 =>
  obtain⟨e1,e2⟩:=Fp.mp e
  exact R.tup (A:=[]) (B:=[]) (hs _ _ (hF _ _ h (by intro ws z;cases z))) (i1 e1) (i2 e2)
 | obj h l x _ i1 ih=>exact .obj (hs _ _ (hF _ _ h (by intro ws z;cases z))) l (i1 rfl) (ih e)
 | fz h x _ i1 ih=>exact .fz h (i1 rfl) (ih e)
 | bL h _ ih=>exact .bL (h.mono λa o e n t=>hs.get a o (hF a o e n) t) (ih e)
open Classical in
noncomputable def snap(F H:Hp):Hp:=λa=>if(∃o,H a=some o/\∀ws,o≠.lst ws)then H a else F a
theorem rm:Full (snap F H) H:=λa o h n=>by unfold snap;rw[if_pos ⟨o,h,n⟩];exact h
theorem oR(e:ag F H):ag F (snap F H):=⟨λa o h n=>by
 unfold snap;split
 ·exact e.get a o h n
 ·exact h,λa ps h=>by
 unfold snap;split
 ·exact e.tb a ps h
 ·exact⟨#[],by rw[h];simp⟩⟩
theorem cj5(e:ag F H):ag (snap F H) H:=⟨λa o h n=>by
 unfold snap at h;split at h
 ·exact h
 ·exact e.get a o h n,λa ps h=>by
 unfold snap at h;split at h
 ·exact⟨#[],by rw[h];simp⟩
 ·exact e.tb a ps h⟩
theorem b06(e:ag F H){a:Addr}{ws:List V}(h:snap F H a=some (.lst ws)):F a=some (.lst ws):=by
 unfold snap at h;split at h
 ·rename_i z
  obtain⟨o,h1,h2⟩:=z
  rw[h]at h1;exact absurd (cN h1).symm (h2 ws)
 ·exact h
theorem b99{a:Addr}{ws:List V}(h:H a=some (.lst ws))(n:F a=none):snap F H a=none:=by
 unfold snap;split
 ·rename_i z
  obtain⟨o,h1,h2⟩:=z
  rw[h]at h1;exact absurd (cN h1).symm (h2 ws)
 ·exact n
end
end L3
namespace L3
open PySem L2
noncomputable abbrev Dl:=List (Option D)
inductive RS(F H:Hp):Dl->St->List Addr->Prop
 | nil:RS F H [] [] []
 | aw {δ σ o C}:RS F H δ σ C->RS F H (none::δ) (o::σ) C
 | gH {d v A δ σ C}:R F H [d] [v] A->RS F H δ σ C->RS F H (some d::δ) (some v::σ) (A++C)
theorem gW{A B:List Addr}:(A++B).Nodup↔A.Nodup/\B.Nodup/\∀a∈A,a ∉ B:=by
 rw[Q5]
 constructor
 ·rintro⟨h1,h2,h3⟩;exact⟨h1,h2,λa ha hb=>h3 a ha a hb rfl⟩
 ·rintro⟨h1,h2,h3⟩;exact⟨h1,h2,λa ha b hb e=>h3 a ha (e ▸ hb)⟩
section
variable{F F' H H':Hp}{d:D}{v:V}{δ:Dl}{σ:St}{A C:List Addr}{i:Nat}
theorem RS.length(r:RS F H δ σ C):δ.length=σ.length:=by induction r<;>simp_all
theorem RS.pick:∀{δ:Dl} {σ:St} {C:List Addr} {i:Nat},RS F H δ σ C->δ[i]?=some (some d)->∃v A C',σ[i]?=some (some v)/\R F H [d] [v] A/\RS F H (δ.set i none) σ C'/\C.Perm (A++C')
 | _,_,_,_,.nil,e=>by simp at e
 | _,_,_,i,.aw r,e=>by
  cases i with
  | zero=>simp at e
  | succ i =>
   obtain⟨v,A,C',e1,h1,h2,p⟩:=RS.pick r (by simpa using e)
   exact⟨v,A,C',by simpa using e1,h1,.aw h2,p⟩
 | _,_,_,i,.gH (A:=A0) (C:=C0) h r,e=>by
  cases i with
  | zero =>
   simp at e;subst e
   exact⟨_,A0,C0,rfl,h,.aw r,.refl _⟩
  | succ i =>
   obtain⟨v,A,C',e1,h1,h2,p⟩:=RS.pick r (by simpa using e)
   refine⟨v,A,A0++C',by simpa using e1,h1,.gH h h2,(p.append_left A0).trans ?_⟩
   rw[<-fC,<- fC]
   exact oB.append_right _
theorem RS.fill:∀{δ:Dl} {σ:St} {C:List Addr} {i:Nat},RS F H δ σ C->δ[i]?=some none->σ[i]?=some (some v)->R F H [d] [v] A->∃C',RS F H (δ.set i (some d)) σ C'/\C'.Perm (A++C)
 | _,_,_,_,.nil,e,_,_=>by simp at e
 | _,_,_,i,.aw r,e,e2,h=>by
  cases i with
  | zero=>simp at e2;subst e2;exact⟨_,.gH h r,.refl _⟩
  | succ i =>
   obtain⟨C',h1,p⟩:=RS.fill r (by simpa using e) (by simpa using e2) h
   exact⟨C',.aw h1,p⟩
 | _,_,_,i,.gH (A:=A0) (C:=C0) h0 r,e,e2,h=>by
  cases i with
  | zero=>simp at e
  | succ i =>
   obtain⟨C',h1,p⟩:=RS.fill r (by simpa using e) (by simpa using e2) h
   refine⟨A0++C',.gH h0 h1,(p.append_left A0).trans ?_⟩
   rw[<-fC,<- fC]
   exact oB.append_right _
theorem RS.drop:∀{δ:Dl} {σ:St} {C:List Addr} (i:Nat),RS F H δ σ C->∃C',RS F H (δ.set i none) σ C'/\C'.Sublist C
 | _,_,_,_,.nil=>⟨_,.nil,.refl _⟩
 | _,_,_,i,.aw r=>by
  cases i with
  | zero=>exact⟨_,.aw r,.refl _⟩
  | succ i=>obtain⟨C',h,s⟩:=RS.drop i r;exact⟨C',.aw h,s⟩
 | _,_,_,i,.gH (A:=A0) h0 r=>by
  cases i with
  | zero=>exact⟨_,.aw r,List.sublist_append_right _ _⟩
  | succ i=>obtain⟨C',h,s⟩:=RS.drop i r;exact⟨_,.gH h0 h,(Q6 A0).append s⟩
theorem RS.zx:∀{δ:Dl} {σ:St} {C:List Addr} {i:Nat} (o:Option V),RS F H δ σ C->(δ[i]?=some none\/δ[i]?=none)->RS F H δ (σ.set i o) C
 | _,_,_,_,_,.nil,_=>.nil
 | _,_,_,i,_,.aw r,e=>by
  cases i with
  | zero=>exact .aw r
  | succ i=>exact .aw (RS.zx _ r (by simpa using e))
 | _,_,_,i,_,.gH h0 r,e=>by
  cases i with
  | zero=>simp at e
  | succ i=>exact .gH h0 (RS.zx _ r (by simpa using e))
theorem RS.keep{W:List Addr}(hf:ag F F')(hb:gU W H H')(hl:iT W H)(r:RS F H δ σ C)(hn:∀a∈C,F' a=none)(hd:∀a∈C,a ∉ W):RS F' H' δ σ C:=by
 induction r with
 | nil=>exact .nil
 | aw _ ih=>exact .aw (ih hn hd)
 | gH h _ ih=>exact .gH (h.keep hf hb hl (λa ha=>hn a (by simp[ha])) λa ha=>hd a (by simp[ha])) (ih (λa ha=>hn a (by simp[ha])) λa ha=>hd a (by simp[ha]))
theorem RS.lists(r:RS F H δ σ C):∀a∈C,(∃ws,H a=some (.lst ws))/\F a=none:=by
 induction r with
 | nil=>simp
 | aw _ ih=>exact ih
 | gH h _ ih=>exact λa ha=>(cw.mp ha).elim (h.lists a) (ih a)
end
structure Bs where
 H0:Hp
 F0:Hp
structure au(B:Bs)(F H:Hp)(σ:St)(δ:Dl)(ts:List (D × V)):Prop where
 ext:ag F H
 b1:ag B.H0 H
 b2:ag B.F0 F
 b3:∀a ws,F a=some (.lst ws)->B.F0 a=some (.lst ws)\/B.H0 a=none
 own:∃A C,R F H (ts.map (·.1)) (ts.map (·.2)) A/\RS F H δ σ C/\(A++C).Nodup/\∀a∈A++C,B.H0 a=none
section
variable{B:Bs}{F F' H H':Hp}{d:D}{v:V}{δ:Dl}{σ:St}{ts ps:List (D × V)}{A C W:List Addr}{i:Nat}{p:Addr}{xs ys:List D}{vs ws:List V}
theorem au.look(c:au B F H σ δ ts)(e:δ[i]?=some (some d)):∃v,σ[i]?=some (some v)/\S F H [d] [v]:=by
 obtain⟨A,C,r,s,nd,fr⟩:=c.own
 obtain⟨v,A',C',e1,h1,h2,p⟩:=s.pick e
 exact⟨v,e1,h1.s⟩
theorem au.len(c:au B F H σ δ ts):δ.length=σ.length:=let⟨_,_,_,s,_⟩:=c.own;s.length
theorem au.grow(c:au B F H σ δ ts)(h:ag H H'):au B F H' σ δ ts:=by
 obtain⟨A,C,r,s,nd,fr⟩:=c.own
 exact⟨c.ext.trans h,c.b1.trans h,c.b2,c.b3,A,C,r.grow (ag.refl _) h λa ha=>(r.lists a ha).2,s.keep (ag.refl _) (gU.same h) iT.nil (λa ha=>(s.lists a ha).2) (by simp),nd,fr⟩
theorem au.pop(c:au B F H σ δ ((d,v)::ts)):au B F H σ δ ts:=by
 obtain⟨A,C,r,s,nd,fr⟩:=c.own
 obtain⟨w,cE,A1,A2,e,rfl,h1,h2⟩:=R.cP r
 obtain⟨rfl,rfl⟩:=mK e
 refine⟨c.ext,c.b1,c.b2,c.b3,A2,C,h2,s,?_,λa ha=>fr a (by simp at ha ⊢;exact .inr ha)⟩
 rw[fC]at nd
 exact(gW.mp nd).2.1
theorem au.top(c:au B F H σ δ ((d,v)::ts)):S F H [d] [v]:=by
 obtain⟨A,C,r,s,nd,fr⟩:=c.own
 obtain⟨w,cE,A1,A2,e,rfl,h1,h2⟩:=R.cP r
 obtain⟨rfl,rfl⟩:=mK e
 exact h1.s
theorem au.pushS(c:au B F H σ δ ts)(s:S F H [d] [v])(pl:d.pl=true):au B F H σ δ ((d,v)::ts):=by
 obtain⟨A,C,r,q,nd,fr⟩:=c.own
 exact⟨c.ext,c.b1,c.b2,c.b3,A,C,(s.r (by simp[pl])).cons r,q,nd,fr⟩
theorem ag.upd{o:HO}(h:H p=none):ag H (upd H p o):=.of λb u e=>by rw[bc (fh e h)];exact e
theorem au.pack(c:au B F H σ δ (ps++ts))(hs:ag H H')(k:∀A1,R F H' (ps.map (·.1)) (ps.map (·.2)) A1->A1.Nodup->∃A',R F H' [d] [v] A'/\A'.Nodup/\∀a∈A',a∈A1\/H a=none):au B F H' σ δ ((d,v)::ts):=by
 obtain⟨A,C,r,s,nd,fr⟩:=c.own
 rw[jC,jC]at r
 obtain⟨v1,v2,A1,A2,e,rfl,h1,h2⟩:=R.split r
 have l1:(ps.map (·.2)).length=v1.length:=by rw[<-h1.length];simp
 obtain⟨rfl,rfl⟩:=Fq e l1
 rw[fC]at nd fr
 obtain⟨n1,n2,n3⟩:=gW.mp nd
 have g1:=h1.grow (ag.refl F) hs λa ha=>(h1.lists a ha).2
 have g2:=h2.grow (ag.refl F) hs λa ha=>(h2.lists a ha).2
 have gs:=s.keep (ag.refl F) (gU.same hs) iT.nil (λa ha=>(s.lists a ha).2) (by simp)
 obtain⟨A',r',rn,sub⟩:=k A1 g1 n1
 refine⟨c.ext.trans hs,c.b1.trans hs,c.b2,c.b3,A'++A2,C,r'.cons g2,gs,?_,?_⟩
 ·rw[fC]
  refine gW.mpr ⟨rn,n2,λa ha hb=>?_⟩
  rcases sub a ha with z | z
  ·exact n3 a z hb
  ·rcases cw.mp hb with y | y
   ·obtain⟨⟨_,q⟩,_⟩:=h2.lists a y;rw[z]at q;cases q
   ·obtain⟨⟨_,q⟩,_⟩:=s.lists a y;rw[z]at q;cases q
 ·intro a ha
  rw[fC]at ha
  rcases cw.mp ha with y | y
  ·rcases sub a y with z | z
   ·exact fr a (by simp[z])
   ·exact c.b1.free z
  ·exact fr a (fA _ y)
theorem au.G0(c:au B F H σ δ ts)(hs:ag H H')(r:R F H' [d] [v] A)(nd:A.Nodup)(fr:∀a∈A,H a=none):au B F H' σ δ ((d,v)::ts) :=
 au.pack (ps:=[]) c hs λ_ _ _=>⟨A,r,nd,λa ha=>.inr (fr a ha)⟩
theorem au.nh(c:au B F H σ δ ts)(hp:H p=none)(s:S F H xs vs)(pl:xs.all D.pl=true):au B F (upd H p (.lst vs)) σ δ ((.lst true xs,.ref p)::ts) :=
 c.G0 (ag.upd hp) (A:=[p]) (by simpa using R.own cy (c.ext.free hp) ((s.r pl).shared (ag.refl _) (ag.upd hp)) .nil) (by simp) (by simp[hp])
theorem au.dH8(c:au B F H σ δ (ps++ts))(hp:H p=none):au B F (upd H p (.lst (ps.map (·.2)))) σ δ ((.lst true (ps.map (·.1)),.ref p)::ts):=by
 refine c.pack (ag.upd hp) λA1 r nd=>⟨p::A1,by simpa using R.own cy (c.ext.free hp) r .nil,iC.mpr ⟨λh=>?_,nd⟩,λa ha=>?_⟩
 ·obtain⟨A,C,r0,_,_,_⟩:=c.own
  rw[jC,jC]at r0
  obtain⟨v1,v2,B1,B2,e,rfl,h1,h2⟩:=R.split r0
  have l1:(ps.map (·.2)).length=v1.length:=by rw[<-h1.length];simp
  obtain⟨rfl,rfl⟩:=Fq e l1
  have g1:=h1.grow (ag.refl F) (ag.upd (o:=.lst (ps.map (·.2))) hp) λa ha=>(h1.lists a ha).2
  have:A1=B1:=R.inj r g1
  subst this
  obtain⟨⟨_,q⟩,_⟩:=h1.lists p h
  rw[hp]at q;cases q
 ·rcases bY.mp ha with rfl | h
  ·exact .inr hp
  ·exact .inl h
theorem au.dH9(c:au B F H σ δ (ps++ts))(hp:H p=none):au B F (upd H p (.tup (ps.map (·.2)))) σ δ ((.tup (ps.map (·.1)),.ref p)::ts) :=
 c.pack (ag.upd hp) λA1 r nd=>⟨A1,by simpa using R.tup (F:=F) cy r .nil,nd,λa ha=>.inl ha⟩
theorem au.perm(c:au B F H σ δ ps)(h:ps.Perm ts):au B F H σ δ ts:=by
 obtain⟨A,C,r,s,nd,fr⟩:=c.own
 obtain⟨A',r',p⟩:=r.perm h
 have pp:=p.append_right C
 exact⟨c.ext,c.b1,c.b2,c.b3,A',C,r',s,pp.nodup_iff.mp nd,λa ha=>fr a (pp.mem_iff.mpr ha)⟩
theorem au.move(c:au B F H σ δ ts)(e:δ[i]?=some (some d)):∃v,σ[i]?=some (some v)/\au B F H σ (δ.set i none) ((d,v)::ts):=by
 obtain⟨A,C,r,s,nd,fr⟩:=c.own
 obtain⟨v,A',C',e1,h1,h2,p⟩:=s.pick e
 have pp:(A++C).Perm ((A'++A)++C'):=by
  refine(p.append_left A).trans ?_
  rw[<-fC]
  exact oB.append_right _
 exact⟨v,e1,c.ext,c.b1,c.b2,c.b3,A'++A,C',h1.cons r,h2,pp.nodup_iff.mp nd,λa ha=>fr a (pp.mem_iff.mpr ha)⟩
theorem au.forget(c:au B F H σ δ ts)(i:Nat):au B F H σ (δ.set i none) ts:=by
 obtain⟨A,C,r,s,nd,fr⟩:=c.own
 obtain⟨C',h,sb⟩:=s.drop i
 exact⟨c.ext,c.b1,c.b2,c.b3,A,C',r,h,nd.sublist ((Q6 A).append sb),λa ha=>fr a (((Q6 A).append sb).subset ha)⟩
theorem au.fill(c:au B F H σ δ ((d,v)::ts))(e:δ[i]?=some none)(e2:σ[i]?=some (some v)):au B F H σ (δ.set i (some d)) ts:=by
 obtain⟨A,C,r,s,nd,fr⟩:=c.own
 obtain⟨w,cE,A1,A2,e',rfl,h1,h2⟩:=R.cP r
 obtain⟨rfl,rfl⟩:=mK e'
 obtain⟨C',s',p⟩:=s.fill e e2 h1
 have pp:((A1++A2)++C).Perm (A2++C'):=by
  refine((oB (l₁:=A1) (l₂:=A2)).append_right C).trans ?_
  rw[fC]
  exact(p.symm).append_left A2
 exact⟨c.ext,c.b1,c.b2,c.b3,A2,C',h2,s',pp.nodup_iff.mp nd,λa ha=>fr a (pp.mem_iff.mpr ha)⟩
theorem au.zx(c:au B F H σ δ ts)(o:Option V)(e:δ[i]?=some none\/δ[i]?=none):au B F H (σ.set i o) δ ts:=by
 obtain⟨A,C,r,s,nd,fr⟩:=c.own
 exact⟨c.ext,c.b1,c.b2,c.b3,A,C,r,s.zx o e,nd,fr⟩
theorem au.store(c:au B F H σ δ ((d,v)::ts))(i:Nat):au B F H (σ.set i (some v)) (δ.set i (some d)) ts:=by
 by_cases hi:i<δ.length
 ·have c1:=c.forget i
  have hs:i<σ.length:=by rw[<-c.len];exact hi
  have e:(δ.set i none)[i]?=some none:=by simp[hi]
  have c2:=(c1.zx (some v) (.inl e)).fill (i:=i) e (by simp[hs])
  rwa [Q7]at c2
 ·have hs:¬ i<σ.length:=by rw[<-c.len];exact hi
  rw[dg3 (by omega),dg3 (by omega)]
  exact c.pop
theorem au.mut(c:au B F H σ δ (ps++ts))(e:δ[i]?=some (some (.lst true xs)))(e2:σ[i]?=some (some (.ref p)))
  (k:∀ws A1 A2,H p=some (.lst ws)->R F H xs ws A1->R F H (ps.map (·.1)) (ps.map (·.2)) A2->(A1++A2).Nodup->∃A',R F H ys vs A'/\A'.Nodup/\∀a∈A',a∈A1++A2) :
  au B F (upd H p (.lst vs)) σ (δ.set i (some (.lst true ys))) ts:=by
 have hi:i<δ.length:=(iB.mp e).1
 obtain⟨v,e3,c1⟩:=c.move e
 rw[e2]at e3;cases e3
 obtain⟨A,C,r,s,nd,fr⟩:=c1.own
 have r':R F H (([.lst true xs]++ps.map (·.1))++ts.map (·.1)) ((.ref p::ps.map (·.2))++ts.map (·.2)) A:=by simpa using r
 obtain⟨v1,v2,A1,A2,e4,rfl,h1,h2⟩:=R.split r'
 have l1:(V.ref p::ps.map (·.2)).length=v1.length:=by rw[<-h1.length];simp
 obtain⟨rfl,rfl⟩:=Fq e4 l1
 cases h1 with
 | @own _ uW _ B1 _ _ B2 hH hF hx hr =>
  rw[fC]at nd fr
  obtain⟨n1,n2,n3⟩:=gW.mp nd
  obtain⟨m1,m2⟩:=iC.mp n1
  obtain⟨A',ra,nda,sub⟩:=k uW B1 B2 hH hx hr m2
  have pA:p ∉ A':=λz=>m1 (sub _ z)
  have pR:p ∉ A2++C:=λz=>n3 p (by simp) z
  have but:gU [p] H (upd H p (.lst vs)):=⟨λa o q z _=>by rw[bc (by simpa using z)];exact q⟩
  have hl:iT [p] H:=λa ha=>by rw[jB.mp ha];exact⟨_,hH⟩
  have g1:=ra.keep (ag.refl F) but hl (λa ha=>(ra.lists a ha).2) λa ha z=>pA (by rw[<-jB.mp z];exact ha)
  have g2:=h2.keep (ag.refl F) but hl (λa ha=>(h2.lists a ha).2) λa ha z=>pR (by rw[<-jB.mp z];exact gO _ ha)
  have gs:=s.keep (ag.refl F) but hl (λa ha=>(s.lists a ha).2) λa ha z=>pR (by rw[<-jB.mp z];exact fA _ ha)
  have fp:B.H0 p=none:=fr p (by simp)
  have b1:ag B.H0 (upd H p (.lst vs)):=⟨λa o q n=>by
   rw[bc (λz=>by rw[z,fp]at q;cases q)]
   exact c1.b1.get a o q n,λa ps q=>by
   rw[bc (λz=>by rw[z,fp]at q;cases q)]
   exact c1.b1.tb a ps q⟩
  have ext:ag F (upd H p (.lst vs)):=⟨λa o q n=>by
   rw[bc (λz=>by rw[z,hF]at q;cases q)]
   exact c1.ext.get a o q n,λa ps q=>by
   rw[bc (λz=>by rw[z,hF]at q;cases q)]
   exact c1.ext.tb a ps q⟩
  have c2:au B F (upd H p (.lst vs)) σ (δ.set i none) ((.lst true ys,.ref p)::ts):=by
   refine⟨ext,b1,c1.b2,c1.b3,(p::A')++A2,C,R.cons (by simpa using R.own cy hF g1 .nil) g2,gs,?_,?_⟩
   ·rw[fC]
    refine gW.mpr ⟨iC.mpr ⟨pA,nda⟩,n2,λa ha hb=>?_⟩
    rcases bY.mp ha with rfl | ha
    ·exact pR hb
    ·exact n3 a (eI _ (sub a ha)) hb
   ·intro a ha
    rw[fC]at ha
    rcases cw.mp ha with z | z
    ·rcases bY.mp z with rfl | z
     ·exact fp
     ·exact fr a (gO _ (eI _ (sub a z)))
    ·exact fr a (fA _ z)
  have c3:=c2.fill (i:=i) (by simp[hi]) e2
  rwa [Q7]at c3
theorem au.Ti(c:au B F H σ δ ((d,v)::ts)):∃F',ag F F'/\au B F' H σ δ ((d.sh,v)::ts):=by
 obtain⟨A,C,r,s,nd,fr⟩:=c.own
 obtain⟨w,cE,A1,A2,e',rfl,h1,h2⟩:=R.cP r
 obtain⟨rfl,rfl⟩:=mK e'
 rw[fC]at nd fr
 obtain⟨n1,n2,n3⟩:=gW.mp nd
 have out:∀a∈A2++C,ck F H A1 a=F a:=λa ha=>Ce λz=>n3 a z ha
 have b3:∀a o,ck F H A1 a=some (.lst o)->B.F0 a=some (.lst o)\/B.H0 a=none:=λa o q=>by
  by_cases z:a∈A1
  ·exact .inr (fr a (gO _ z))
  ·rw[Ce z]at q;exact c.b3 a o q
 refine⟨ck F H A1,lQ c.ext,Tg c.ext,c.b1,c.b2.trans (lQ c.ext),b3,A2,C,?_,?_,n2,λa ha=>fr a (fA _ ha)⟩
 ·have g1:=h1.ck c.ext A1 (λ_ h=>h)
  exact R.cons (A:=[]) g1 (h2.keep (lQ c.ext) (gU.same (ag.refl H)) iT.nil (λa ha=>by rw[out a (gO _ ha)];exact(h2.lists a ha).2) (by simp))
 ·exact s.keep (lQ c.ext) (gU.same (ag.refl H)) iT.nil (λa ha=>by rw[out a (fA _ ha)];exact(s.lists a ha).2) (by simp)
theorem au.freeze(c:au B F H σ δ ts)(e:δ[i]?=some (some d)):∃F',ag F F'/\au B F' H σ (δ.set i (some d.sh)) ts:=by
 have hi:i<δ.length:=(iB.mp e).1
 obtain⟨v,e2,c1⟩:=c.move e
 obtain⟨F',s,c2⟩:=c1.Ti
 refine⟨F',s,?_⟩
 have c3:=c2.fill (i:=i) (by simp[hi]) e2
 rwa [Q7]at c3
theorem au.rebase(c:au B F H σ δ ts):au ⟨B.H0,F⟩ F H σ δ ts:=⟨c.ext,c.b1,ag.refl _,λ_ _ q=>.inl q,c.own⟩
theorem au.dI1{F1:Hp}(c:au ⟨B.H0,F1⟩ F H σ δ ts)(h:ag B.F0 F1)(h3:∀a ws,F1 a=some (.lst ws)->B.F0 a=some (.lst ws)\/B.H0 a=none):au B F H σ δ ts :=
 ⟨c.ext,c.b1,h.trans c.b2,λa o q=>(c.b3 a o q).elim (h3 a o) .inr,c.own⟩
theorem au.call(c:au B F H σ δ ts)(hs:ag H H')(hf:ag F F')(he:ag F' H')(h3:∀a ws,F' a=some (.lst ws)->F a=some (.lst ws)\/H a=none)(r:R F' H' [d] [v] A)(nd:A.Nodup)(fr:∀a∈A,H a=none) :
  au B F' H' σ δ ((d,v)::ts):=by
 obtain⟨A0,C,r0,s,nd0,fr0⟩:=c.own
 have no:∀a,(∃ws,H a=some (.lst ws))/\F a=none->F' a=none:=λa zz=>by
  obtain⟨⟨ws,e⟩,n⟩:=zz
  cases q:F' a with
  | none=>rfl
  | some o =>
   have q2:H' a=some o:=by
    cases n:iS o with
    | true=>exact he.get a o q n
    | false =>
     obtain⟨ps,rfl⟩:=GW n
     obtain⟨m,z⟩:=he.tb a ps q
     rw[hs a _ e]at z
     cases z
   rw[hs a _ e]at q2
   cases q2
   rcases h3 a ws q with z | z
   ·rw[n]at z;cases z
   ·rw[e]at z;cases z
 refine⟨he,c.b1.trans hs,c.b2.trans hf,λa o q=>(h3 a o q).elim (c.b3 a o) λz=>.inr (c.b1.free z),A++A0,C,R.cons r (r0.grow hf hs λa ha=>no a (r0.lists a ha)),
  s.keep hf (gU.same hs) iT.nil (λa ha=>no a (s.lists a ha)) (by simp),?_,?_⟩
 ·rw[fC]
  refine gW.mpr ⟨nd,nd0,λa ha hb=>?_⟩
  have z:=fr a ha
  rcases cw.mp hb with y | y
  ·obtain⟨⟨_,q⟩,_⟩:=r0.lists a y;rw[z]at q;cases q
  ·obtain⟨⟨_,q⟩,_⟩:=s.lists a y;rw[z]at q;cases q
 ·intro a ha
  rw[fC]at ha
  rcases cw.mp ha with y | y
  ·exact c.b1.free (fr a y)
  ·exact fr0 a y
theorem au.inS(c:au B F H σ δ ((d,v)::ts)):au B F H (some v::σ) (some d::δ) ts:=by
 obtain⟨A,C,r,s,nd,fr⟩:=c.own
 obtain⟨w,cE,A1,A2,e',rfl,h1,h2⟩:=R.cP r
 obtain⟨rfl,rfl⟩:=mK e'
 have pp:((A1++A2)++C).Perm (A2++(A1++C)):=by
  rw[<-fC];exact oB.append_right C
 exact⟨c.ext,c.b1,c.b2,c.b3,A2,A1++C,h2,.gH h1 s,pp.nodup_iff.mp nd,λa ha=>fr a (pp.mem_iff.mpr ha)⟩
theorem au.dI5{w:V}(c:au B F H (some w::σ) (some d::δ) ts):au B F H σ δ ((d,w)::ts):=by
 obtain⟨A,C,r,s,nd,fr⟩:=c.own
 cases s with
 | @gH _ _ A1 _ _ C1 h1 s =>
  have pp:(A++(A1++C1)).Perm ((A1++A)++C1):=by
   rw[<-fC];exact oB.append_right C1
  exact⟨c.ext,c.b1,c.b2,c.b3,A1++A,C1,R.cons h1 r,s,pp.nodup_iff.mp nd,λa ha=>fr a (pp.mem_iff.mpr ha)⟩
theorem au.dI6(c:au B F H σ δ ((d,v)::(.lst true xs,.ref p)::ts))(hp:H p=some (.lst ws)):au B F (upd H p (.lst (ws++[v]))) σ δ ((.lst true (xs++[d]),.ref p)::ts):=by
 have c1:=(c.perm (List.Perm.swap _ _ _)).inS
 refine(au.mut (ps:=[(d,v)]) (i:=0) (ys:=xs++[d]) (vs:=ws++[v]) c1 rfl rfl λfk A1 A2 h r1 r2 nd=>?_).dI5
 rw[hp]at h;cases h
 exact⟨A1++A2,r1.append r2,nd,λa ha=>ha⟩
theorem au.app(c:au B F H σ δ ((d,v)::ts))(e:δ[i]?=some (some (.lst true xs)))(e2:σ[i]?=some (some (.ref p)))(hp:H p=some (.lst ws)) :
  au B F (upd H p (.lst (ws++[v]))) σ (δ.set i (some (.lst true (xs++[d])))) ts :=
 au.mut (ps:=[(d,v)]) c e e2 λfk A1 A2 h r1 r2 nd=>by
  rw[hp]at h;cases h
  exact⟨A1++A2,r1.append r2,nd,λa ha=>ha⟩
theorem R.Tj:∀{xs:List D} {ws:List V} {A1 A2:List Addr} (j:Nat),R F H xs ws A1->R F H [d] [v] A2->(A1++A2).Nodup->∃A',R F H (xs.set j d) (ws.set j v) A'/\A'.Nodup/\∀a∈A',a∈A1++A2
 | [],_,A1,A2,j,r,q,nd=>by cases r;exact⟨[],.nil,by simp,by simp⟩
 | x::xs,_,A1,A2,j,r,q,nd=>by
  obtain⟨w,fk,B1,B2,rfl,rfl,h1,h2⟩:=r.cP
  rw[fC]at nd
  obtain⟨n1,n2,n3⟩:=gW.mp nd
  cases j with
  | zero =>
   refine⟨A2++B2,q.cons h2,(oB (l₁:=B2) (l₂:=A2)).nodup_iff.mp n2,λa ha=>?_⟩
   simp only[cw]at ha ⊢
   rcases ha with z | z
   ·exact .inr z
   ·exact .inl (.inr z)
  | succ j =>
   obtain⟨A',r',rn,sub⟩:=R.Tj j h2 q n2
   refine⟨B1++A',h1.cons r',gW.mpr ⟨n1,rn,λa ha hb=>n3 a ha (sub a hb)⟩,λa ha=>?_⟩
   rcases cw.mp ha with z | z
   ·simp[z]
   ·have:=sub a z
    simp only[cw]at this ⊢
    rcases this with z | z
    ·exact .inl (.inr z)
    ·exact .inr z
theorem au.dI7(c:au B F H σ δ ((d,v)::ts))(e:δ[i]?=some (some (.lst true xs)))(e2:σ[i]?=some (some (.ref p)))(hp:H p=some (.lst ws))(j:Nat) :
  au B F (upd H p (.lst (ws.set j v))) σ (δ.set i (some (.lst true (xs.set j d)))) ts :=
 au.mut (ps:=[(d,v)]) c e e2 λfk A1 A2 h r1 r2 nd=>by
  rw[hp]at h;cases h
  exact r1.Tj j r2 nd
theorem au.ownAt(c:au B F H σ δ ts)(e:δ[i]?=some (some (.lst true xs))):∃p ws,σ[i]?=some (some (.ref p))/\H p=some (.lst ws)/\xs.length=ws.length:=by
 obtain⟨v,e1,s⟩:=c.look e
 cases s with
 | own h x _=>exact⟨_,_,e1,h,x.length⟩
theorem RS.start{ds:List D}{vs:List V}(r:R F H ds vs [])(n:Nat):RS F H (ds.map some++aT n none) (vs.map some++aT n none) []:=by
 have z:∀n,RS F H (aT n none) (aT n none) []:=λn=>by
  induction n with
  | zero=>exact .nil
  | succ n ih=>exact .aw ih
 have:∀(ds:List D) (vs:List V),R F H ds vs []->RS F H (ds.map some++aT n none) (vs.map some++aT n none) []:=by
  intro ds
  induction ds with
  | nil=>intro vs r;cases r;exact z n
  | cons d ds ih =>
   intro vs r
   obtain⟨v,cE,A1,A2,rfl,e,h1,h2⟩:=r.cP
   obtain⟨rfl,rfl⟩:=Fp.mp e.symm
   exact .gH (A:=[]) h1 (ih _ h2)
 exact this ds vs r
theorem au.start{ds:List D}{vs:List V}(e:ag F H)(r:R F H ds vs [])(n:Nat):au ⟨H,F⟩ F H (vs.map some++aT n none) (ds.map some++aT n none) [] :=
 ⟨e,ag.refl _,ag.refl _,λ_ _ q=>.inl q,[],[],.nil,RS.start r n,by simp,by simp⟩
theorem au.snap(c:au B F H σ δ ts):au B (L3.snap F H) H σ δ ts:=by
 obtain⟨A,C,r,s,nd,fr⟩:=c.own
 have no:∀a,(∃ws,H a=some (.lst ws))/\F a=none->L3.snap F H a=none:=λa ⟨⟨ws,e⟩,n⟩=>b99 e n
 exact⟨cj5 c.ext,c.b1,c.b2.trans (oR c.ext),λa ws q=>c.b3 a ws (b06 c.ext q),A,C,r.grow (oR c.ext) (ag.refl _) λa ha=>no a (r.lists a ha),
  s.keep (oR c.ext) (gU.same (ag.refl _)) iT.nil (λa ha=>no a (s.lists a ha)) (by simp),nd,fr⟩
end
end L3
namespace L3
open PySem L2 PySem.Spec PyProof.Rows
noncomputable abbrev aQ:=Dl->(D->Dl->Prop)->Prop
noncomputable abbrev fQ:=Dl->(Bool->Dl->Prop)->Prop
noncomputable abbrev cG:=Dl->(List D->Dl->Prop)->Prop
structure uX where
 nx:Dl->Prop
 rt:D->Prop
 bk:Dl->Prop:=λ_=>False
 ct:Dl->Prop:=λ_=>False
 xc:Addr->Dl->Prop:=λ_ _=>False
 xr:Addr->Dl->Prop:=λ_ _=>False
noncomputable abbrev cQ:=uX->Dl->Prop
noncomputable def lE(t:aQ):TE:=λσ H Q=>∃B F δ ts Qd,au B F H σ δ ts/\t δ Qd/\∀d ah v F' H',Qd d ah->ag F F'->ag H H'->au B F' H' σ ah ((d,v)::ts)->Q v H'
noncomputable def lB(t:aQ):TE:=λσ H Q=>∃B F δ ts Qd,au B F H σ δ ts/\t δ Qd/\∀d ah v F' H',Qd d ah->ag F F'->ag H H'->au B F' H' σ ah ts->S F' H' [d] [v]->Q v H'
noncomputable def lT(t:fQ):TT:=λσ H Q=>∃B F δ ts Qd,au B F H σ δ ts/\t δ Qd/\∀b ah F' H',Qd b ah->ag F F'->ag H H'->au B F' H' σ ah ts->Q b H'
noncomputable def lA(t:cG):TA:=λσ H Q=>∃B F δ ts Qd,au B F H σ δ ts/\t δ Qd/\∀ds ah vs F' H',Qd ds ah->ag F F'->ag H H'->au B F' H' σ ah ts->S F' H' ds vs->Q vs H'
noncomputable def lO(t:cG):TA:=λσ H Q=>∃B F δ ts Qd,au B F H σ δ ts/\t δ Qd/\∀(ps:List (D × V)) ah F' H',Qd (ps.map (·.1)) ah->ag F F'->ag H H'->au B F' H' σ ah (ps++ts)->Q (ps.map (·.2)) H'
noncomputable def XL(X:Cx)(B:Bs)(Dd:uX):Prop :=
 (∀C ah pins aF F' H' s' a T,Dd.xc C ah->au B F' H' aF ah []->Inv X pins aF H' s'->rh s'.heap a T (.ref C)->Apart X pins H' a->Apart X pins H' T->X.xe (.ref a) s') /\
 (∀C ah pins aF F' H' s' h' e vs,Dd.xr C ah->au B F' H' aF ah []->Inv X pins aF H' s'->Q3 s'.heap h' e (.ref C) vs->X.xe (.ref e) { s' with heap:=h' })
theorem XL.none{X:Cx}{B:Bs}{Dd:uX}(h1:∀C δ,¬ Dd.xc C δ)(h2:∀C δ,¬ Dd.xr C δ):XL X B Dd:=⟨λC δ _ _ _ _ _ _ _ h=>absurd h (h1 C δ),λC δ _ _ _ _ _ _ _ _ h=>absurd h (h2 C δ)⟩
noncomputable def lS(X:Cx)(t:cQ):TS:=λD σ H=>∃B F δ Dd,au B F H σ δ []/\t Dd δ/\(∀ah aF F' H',Dd.nx ah->au B F' H' aF ah []->D.nx aF H')/\(∀d v ah aF F' H',Dd.rt d->au B F' H' aF ah [(d,v)]->D.rt v H') /\
 (∀ah aF F' H',Dd.bk ah->au B F' H' aF ah []->D.bk aF H')/\(∀ah aF F' H',Dd.ct ah->au B F' H' aF ah []->D.ct aF H')/\XL X B Dd
section
variable{X:Cx}{e a b c:Expr}{es:List Expr}{pos:Pos}{st:Stmt}{zy:List Stmt}
theorem dz{t t':TE}(h:PE X e t)(m:∀σ H Q,t' σ H Q->t σ H Q):PE X e t':=λpins s σ H Q I q=>h pins s σ H Q I (m σ H Q q)
theorem G1{t t':TT}(h:PT X e t)(m:∀σ H Q,t' σ H Q->t σ H Q):PT X e t':=λpins s σ H Q I q=>h pins s σ H Q I (m σ H Q q)
theorem Tn{t t':TT}(h:PW X e t)(m:∀σ H Q,t' σ H Q->t σ H Q):PW X e t':=λwh pins s σ H Q I q=>h wh pins s σ H Q I (m σ H Q q)
theorem zA{t t':TA}(h:PA X es t)(m:∀σ H Q,t' σ H Q->t σ H Q):PA X es t':=λp pins s σ H Q I q=>h p pins s σ H Q I (m σ H Q q)
theorem lR{t t':TS}(h:PS X st t)(m:∀D σ H,t' D σ H->t D σ H):PS X st t':=λpins s σ H D I q=>h pins s σ H D I (m D σ H q)
theorem G2{t t':TS}(h:PSs X zy t)(m:∀D σ H,t' D σ H->t D σ H):PSs X zy t':=λpins s σ H D I q=>h pins s σ H D I (m D σ H q)
variable{t u ta tb tc:aQ}
theorem ae(h:PE X e (lE t)):PE X e (lB t):=dz h λσ H Q ⟨B,F,δ,ts,Qd,c,q,k⟩=>⟨B,F,δ,ts,Qd,c,q,λd ah v F' H' hd sf sh c'=>k d ah v F' H' hd sf sh c'.pop c'.top⟩
noncomputable def oS(t:aQ):aQ:=λδ Q=>t δ λd ah=>d.pl=true/\Q d ah
theorem dk(h:PE X e (lB t)):PE X e (lE (oS t)):=dz h λσ H Q ⟨B,F,δ,ts,Qd,c,q,k⟩=>⟨B,F,δ,ts,_,c,q,λd ah v F' H' hd sf sh c' s=>k d ah v F' H' hd.2 sf sh (c'.pushS s hd.1)⟩
noncomputable def ni(i:Nat):aQ:=λδ Q=>match δ[i]? with
 | some (some d)=>Q d δ
 | _=>False
noncomputable def nj(i:Nat):aQ:=λδ Q=>match δ[i]? with
 | some (some d)=>Q d (δ.set i none)
 | _=>False
theorem cF7{i:Nat}{δ:Dl}{Q:D->Dl->Prop}(h:ni i δ Q):∃d,δ[i]?=some (some d)/\Q d δ:=by
 unfold ni at h
 split at h
 ·rename_i d e;exact⟨d,e,h⟩
 ·exact h.elim
theorem co2{i:Nat}{δ:Dl}{Q:D->Dl->Prop}(h:nj i δ Q):∃d,δ[i]?=some (some d)/\Q d (δ.set i none):=by
 unfold nj at h
 split at h
 ·rename_i d e;exact⟨d,e,h⟩
 ·exact h.elim
noncomputable def dC(d:D):aQ:=λδ Q=>Q d δ
theorem bv(i:Nat){x:Str}(hN:X.N[i]?=some x:=by rfl)(hv:lh X.env.scope x:=by first | exact ai rfl | exact bx (ai rfl) | exact bx (bx rfl))(hd:(x==("__debug__":Str))=false:=by decide)
  (cO:(x==("__classdict__":Str))=false:=by decide):PE X (.Name x pos) (lB (ni i)):=dz (qT hN hv hd cO) λσ H Q ⟨B,F,δ,ts,Qd,c,q,k⟩=>by
 obtain⟨d,e,q⟩:=cF7 q
 obtain⟨v,e1,s⟩:=c.look e
 exact⟨v,e1,k d δ v F H q (ag.refl _) (ag.refl _) c s⟩
theorem em(i:Nat){x:Str}(hN:X.N[i]?=some x:=by rfl)(hv:lh X.env.scope x:=by first | exact ai rfl | exact bx (ai rfl) | exact bx (bx rfl))(hd:(x==("__debug__":Str))=false:=by decide)
  (cO:(x==("__classdict__":Str))=false:=by decide):PE X (.Name x pos) (lE (nj i)):=dz (qT hN hv hd cO) λσ H Q ⟨B,F,δ,ts,Qd,c,q,k⟩=>by
 obtain⟨d,e,q⟩:=co2 q
 obtain⟨v,e1,c'⟩:=c.move e
 exact⟨v,e1,k d _ v F H q (ag.refl _) (ag.refl _) c'⟩
theorem Cf{B:Bs}{F H:Hp}{σ:L2.St}{δ:Dl}{ts:List (D × V)}{Qd:D->Dl->Prop}{Q:VK}{d:D}{v:V}(c:au B F H σ δ ts)(q:Qd d δ)(s:S F H [d] [v])(p:d.pl=true)
  (k:∀d ah v F' H',Qd d ah->ag F F'->ag H H'->au B F' H' σ ah ((d,v)::ts)->Q v H'):Q v H:=k d δ v F H q (ag.refl _) (ag.refl _) (c.pushS s p)
theorem aj{i j}:PE X (.Constant (.int i) j pos) (lE (dC (.int i))):=dz yU λσ H Q ⟨B,F,δ,ts,Qd,c,q,k⟩=>Cf c q (.int .nil) rfl k
theorem oU{i j}:PE X (.Constant (.bool i) j pos) (lE (dC (.bl i))):=dz cV2 λσ H Q ⟨B,F,δ,ts,Qd,c,q,k⟩=>Cf c q (.bl .nil) rfl k
theorem fF{j}:PE X (.Constant .none j pos) (lE (dC .aw)):=dz cL8 λσ H Q ⟨B,F,δ,ts,Qd,c,q,k⟩=>Cf c q (.aw .nil) rfl k
theorem To{x j}:PE X (.Constant (.str x) j pos) (lE (dC (.str x))):=dz cM4 λσ H Q ⟨B,F,δ,ts,Qd,c,q,k⟩=>Cf c q (.str .nil) rfl k
noncomputable abbrev cL:=D->D->(D->Prop)->Prop
noncomputable def Cg(r:R2)(rd:cL):Prop:=∀{B:Bs} {F H:Hp} {σ:L2.St} {δ:Dl} {ts:List (D × V)} {x y:D} {v w:V} {Q:VK} {Qd:D->Prop},au B F H σ δ ts->S F H [x] [v]->S F H [y] [w]->rd x y Qd ->
 (∀d z H',Qd d->ag H H'->au B F H' σ δ ((d,z)::ts)->Q z H')->r v w H Q
noncomputable def bR(X:Cx)(f:Value->Value->Sem Value)(rd:cL):Prop:=∃r,cB X f r/\Cg r rd
theorem bR.or{f:Value->Value->Sem Value}{r1 r2:cL}(h1:bR X f r1)(h2:bR X f r2):bR X f λx y Q=>r1 x y Q\/r2 x y Q:=by
 obtain⟨q1,a1,b1⟩:=h1
 obtain⟨q2,a2,b2⟩:=h2
 refine⟨_,a1.or a2,λ{B F H σ δ ts x y v w Q Qd} c sx sy h k=>?_⟩
 rcases h with h | h
 ·exact .inl (b1 c sx sy h k)
 ·exact .inr (b2 c sx sy h k)
theorem bR.imp{f:Value->Value->Sem Value}{r1 r2:cL}(h1:bR X f r1)(h:∀x y Q,r2 x y Q->r1 x y Q):bR X f r2:=by
 obtain⟨q1,a1,b1⟩:=h1
 exact⟨q1,a1,λ{B F H σ δ ts x y v w Q Qd} c sx sy h2 k=>b1 c sx sy (h _ _ _ h2) k⟩
noncomputable def lU(rd:cL)(ta tb:aQ):aQ:=λδ Q=>ta δ λx aq=>tb aq λy aU=>rd x y λd=>Q d aU
theorem G3{r:R2}{rd:cL}(hl:Cg r rd):∀σ H Q,lE (lU rd ta tb) σ H Q->y7 r (lB ta) (lB tb) σ H Q:=λσ H Q ⟨B,F,δ,ts,Qd,c,q,k⟩ =>
 ⟨B,F,δ,ts,_,c,q,λx aq v F1 H1 q1 f1 h1 c1 s1=>⟨B,F1,aq,ts,_,c1,q1,λy aU w F2 H2 q2 f2 h2 c2 s2 =>
  hl c2 (s1.mono f2 h2) s2 q2 λd z H' hd hs c3=>k d aU z F2 H' hd (f1.trans f2) ((h1.trans h2).trans hs) c3⟩⟩
theorem ay{op:Operator}{rd:cL}(ho:bR X (binaryOp op) rd)(ha:PE X a (lB ta))(hb:PE X b (lB tb)):PE X (.BinOp a op b pos) (lE (lU rd ta tb)):=by
 obtain⟨r,h1,h2⟩:=ho
 exact dz (y8 h1 ha hb) (G3 h2)
theorem rp{op:CmpOp}{rd:cL}(ho:bR X (compareOp op) rd)(ha:PE X a (lB ta))(hb:PE X b (lB tb))(hm:behindInMarks op b=false):PE X (.Compare a [op] [b] pos) (lE (lU rd ta tb)):=by
 obtain⟨r,h1,h2⟩:=ho
 exact dz (cz4 h1 ha hb hm) (G3 h2)
noncomputable def dT(t:aQ):fQ:=λδ Q=>t δ λd ah=>∃k,d=.bl k/\Q k ah
theorem cl2{te:TE}(h:∀σ H Q,lE t σ H Q->te σ H Q):∀σ H Q,lT (dT t) σ H Q->RX te σ H Q:=λσ H Q zz=>by
 obtain⟨B,F,δ,ts,Qd,c,q,k⟩:=zz
 refine h σ H _ ⟨B,F,δ,ts,_,c,q,λd ah v F' H' hd sf sh c'=>?_⟩
 obtain⟨b,rfl,qb⟩:=hd
 have s:=c'.top
 cases s with
 | bl _=>exact⟨b,rfl,k b ah F' H' qb sf sh c'.pop⟩
theorem bN{op:CmpOp}{rd:cL}(ho:bR X (compareOp op) rd)(ha:PE X a (lB ta))(hb:PE X b (lB tb))(hm:behindInMarks op b=false):PT X (.Compare a [op] [b] pos) (lT (dT (lU rd ta tb))):=by
 obtain⟨r,h1,h2⟩:=ho
 exact G1 (cB6 h1 ha hb hm) (cl2 (G3 h2))
noncomputable def oV(r r':cL)(ta tb tc:aQ):aQ:=λδ Q=>ta δ λx aq=>tb aq λy aU=>r x y λd=>∃k,d=.bl k/\if k=true then tc aU λz ir=>r' y z λd'=>Q d' ir else Q (.bl false) aU
theorem jP(h:PE X e (lB t))(he:∀whole,isTrue e X.env whole=(do let v<-whole;standAt e.pos;holding [v] (truthy v)):=by intro _;rfl):PT X e (lT (dT t)) :=
 G1 (FI h he) λσ H Q ⟨B,F,δ,ts,Qd,c,q,k⟩=>⟨B,F,δ,ts,_,c,q,λd ah v F' H' hd sf sh c' s=>by
  obtain⟨b,rfl,qb⟩:=hd
  cases s with
  | bl _=>exact⟨b,rfl,k b ah F' H' qb sf sh c'⟩⟩
variable{tA tB:fQ}{rest:List Expr}
noncomputable def rq(t u:fQ):fQ:=λδ Q=>t δ λc aq=>if c=true then u aq Q else Q false aq
noncomputable def rz(t u:fQ):fQ:=λδ Q=>t δ λc aq=>if c=true then Q true aq else u aq Q
noncomputable def rA(t:fQ):fQ:=λδ Q=>t δ λc aq=>Q (!c) aq
theorem Ci(ha:PT X a (lT tA))(hb:PW X (.BoolOp .And (b::rest) pos) (lT tB)):PW X (.BoolOp .And (a::b::rest) pos) (lT (rq tA tB)) :=
 Tn (cU0 ha hb) λσ H Q ⟨B,F,δ,ts,Qd,c,q,k⟩=>⟨B,F,δ,ts,_,c,q,λb aq F1 H1 q1 f1 h1 c1=>by
  cases b with
  | true=>exact oM ⟨B,F1,aq,ts,Qd,c1,by simpa using q1,λb ah F' H' hd sf sh c'=>k b ah F' H' hd (f1.trans sf) (h1.trans sh) c'⟩
  | false=>exact lM (k false aq F1 H1 (by simpa using q1) f1 h1 c1)⟩
theorem Cj(ha:PT X a (lT tA))(hb:PW X (.BoolOp .Or (b::rest) pos) (lT tB)):PW X (.BoolOp .Or (a::b::rest) pos) (lT (rz tA tB)) :=
 Tn (cW1 ha hb) λσ H Q ⟨B,F,δ,ts,Qd,c,q,k⟩=>⟨B,F,δ,ts,_,c,q,λb aq F1 H1 q1 f1 h1 c1=>by
  cases b with
  | true=>exact oM (k true aq F1 H1 (by simpa using q1) f1 h1 c1)
  | false=>exact lM ⟨B,F1,aq,ts,Qd,c1,by simpa using q1,λb ah F' H' hd sf sh c'=>k b ah F' H' hd (f1.trans sf) (h1.trans sh) c'⟩⟩
theorem zB(ha:PT X a (lT tA)):PT X (.UnaryOp .Not a pos) (lT (rA tA)) :=
 G1 (FJ ha) λσ H Q ⟨B,F,δ,ts,Qd,c,q,k⟩=>⟨B,F,δ,ts,_,c,q,λb aq F1 H1 q1 f1 h1 c1=>k _ aq F1 H1 q1 f1 h1 c1⟩
noncomputable def rB(ta tb:aQ):aQ:=λδ Q=>ta δ λx aq=>∃c,x=.bl c/\if c=true then tb aq Q else Q (.bl false) aq
noncomputable def rC(ta:aQ):aQ:=λδ Q=>ta δ λx aq=>∃c,x=.bl c/\Q (.bl (!c)) aq
theorem zC(ha:PE X a (lB ta))(hb:PE X (.BoolOp .And (b::rest) pos) (lE tb)):PE X (.BoolOp .And (a::b::rest) pos) (lE (rB ta tb)) :=
 dz (cP5 ha hb) λσ H Q ⟨B,F,δ,ts,Qd,c,q,k⟩=>⟨B,F,δ,ts,_,c,q,λd aq v F1 H1 q1 f1 h1 c1 s1=>by
  obtain⟨b,rfl,qb⟩:=q1
  cases s1 with
  | bl _ =>
   refine⟨b,rfl,?_⟩
   cases b with
   | true=>exact oM ⟨B,F1,aq,ts,Qd,c1,by simpa using qb,λd ah v F' H' hd sf sh c'=>k d ah v F' H' hd (f1.trans sf) (h1.trans sh) c'⟩
   | false=>exact lM (k _ aq _ F1 H1 (by simpa using qb) f1 h1 (c1.pushS (.bl .nil) rfl))⟩
theorem cY5(ha:PE X a (lB ta)):PE X (.UnaryOp .Not a pos) (lE (rC ta)) :=
 dz (cS2 ha) λσ H Q ⟨B,F,δ,ts,Qd,c,q,k⟩=>⟨B,F,δ,ts,_,c,q,λd aq v F1 H1 q1 f1 h1 c1 s1=>by
  obtain⟨b,rfl,qb⟩:=q1
  cases s1 with
  | bl _=>exact⟨b,rfl,k _ aq _ F1 H1 qb f1 h1 (c1.pushS (.bl .nil) rfl)⟩⟩
noncomputable def rD(t:fQ)(ta tb:aQ):aQ:=λδ Q=>t δ λc aq=>if c=true then ta aq Q else tb aq Q
theorem Ck(hc:PT X c (lT tA))(ha:PE X a (lE ta))(hb:PE X b (lE tb)):PE X (.IfExp c a b pos) (lE (rD tA ta tb)) :=
 dz (cj7 hc ha hb) λσ H Q ⟨B,F,δ,ts,Qd,c,q,k⟩=>⟨B,F,δ,ts,_,c,q,λb aq F1 H1 q1 f1 h1 c1=>by
  cases b with
  | true=>exact oM ⟨B,F1,aq,ts,Qd,c1,by simpa using q1,λd ah v F' H' hd sf sh c'=>k d ah v F' H' hd (f1.trans sf) (h1.trans sh) c'⟩
  | false=>exact lM ⟨B,F1,aq,ts,Qd,c1,by simpa using q1,λd ah v F' H' hd sf sh c'=>k d ah v F' H' hd (f1.trans sf) (h1.trans sh) c'⟩⟩
noncomputable def oW:cG:=λδ Q=>Q [] δ
noncomputable def oX(t:aQ)(r:cG):cG:=λδ Q=>t δ λd aq=>r aq λds aU=>Q (d::ds) aU
theorem ao:PA X [] (lA oW):=zA jL λσ H Q ⟨B,F,δ,ts,Qd,c,q,k⟩=>k [] δ [] F H q (ag.refl _) (ag.refl _) c .nil
variable{tr:cG}
theorem af(ha:PE X e (lB t))(hr:PA X es (lA tr))(hs:starEach (e::es) X.env=(false,eval e X.env)::starEach es X.env:=by rfl):PA X (e::es) (lA (oX t tr)) :=
 zA (fV ha hr hs) λσ H Q ⟨B,F,δ,ts,Qd,c,q,k⟩=>⟨B,F,δ,ts,_,c,q,λd aq v F1 H1 q1 f1 h1 c1 s1=>⟨B,F1,aq,ts,_,c1,q1,λds aU vs F2 H2 q2 f2 h2 c2 s2 =>
  k (d::ds) aU (v::vs) F2 H2 q2 (f1.trans f2) (h1.trans h2) c2 ((s1.mono f2 h2).cons s2)⟩⟩
theorem dA:PA X [] (lO oW):=zA jL λσ H Q ⟨B,F,δ,ts,Qd,c,q,k⟩=>k [] δ F H q (ag.refl _) (ag.refl _) c
theorem cR(ha:PE X e (lE t))(hr:PA X es (lO tr))(hs:starEach (e::es) X.env=(false,eval e X.env)::starEach es X.env:=by rfl):PA X (e::es) (lO (oX t tr)) :=
 zA (fV ha hr hs) λσ H Q ⟨B,F,δ,ts,Qd,c,q,k⟩=>⟨B,F,δ,ts,_,c,q,λd aq v F1 H1 q1 f1 h1 c1=>⟨B,F1,aq,(d,v)::ts,_,c1,q1,λps aU F2 H2 q2 f2 h2 c2 =>
  k ((d,v)::ps) aU F2 H2 q2 (f1.trans f2) (h1.trans h2) (c2.perm (List.perm_middle))⟩⟩
noncomputable def oY(t:cG):aQ:=λδ Q=>t δ λds ah=>ds.length<=sizeLine/\Q (.lst true ds) ah
noncomputable def rE(t:cG):aQ:=λδ Q=>t δ λds ah=>ds.length<=sizeLine/\Q (.tup ds) ah
theorem eO(h:PA X es (lO tr)):PE X (.List es pos) (lE (oY tr)) :=
 dz (R3 h) λσ H Q ⟨B,F,δ,ts,Qd,c,q,k⟩=>⟨B,F,δ,ts,_,c,q,λps aq F1 H1 q1 f1 h1 c1=>⟨by simpa using q1.1,λp hp=>k _ aq _ F1 _ q1.2 f1 (h1.trans (ag.upd hp)) (c1.dH8 hp)⟩⟩
theorem uY{x1}(h:PA X es (lO tr)):PE X (.Tuple es x1 pos) (lE (rE tr)) :=
 dz (cN6 h) λσ H Q ⟨B,F,δ,ts,Qd,c,q,k⟩=>⟨B,F,δ,ts,_,c,q,λps aq F1 H1 q1 f1 h1 c1=>⟨by simpa using q1.1,λp hp=>k _ aq _ F1 _ q1.2 f1 (h1.trans (ag.upd hp)) (c1.dH9 hp)⟩⟩
end
end L3
namespace L3
open PySem L2 PySem.Spec PyProof.Rows
noncomputable abbrev bh:=List D->(D->Prop)->Prop
noncomputable def bt(sp:bh):Sp:=λvs H Q _=>∃F ds Qd,ag F H/\R F H ds vs []/\sp ds Qd/\∀d v F' H' A,Qd d->ag H H'->ag F F'->ag F' H'->(∀a ws,F' a=some (.lst ws)->F a=some (.lst ws)\/H a=none)->R F' H' [d] [v] A->A.Nodup->(∀a∈A,H a=none)->Q v H'
noncomputable def oZ(sp:bh)(t:cG):aQ:=λδ Q=>t δ λds ah=>sp (ds.map D.sh) λd=>(ds.all D.pl||d.fr)=true/\Q d ah
theorem Cm{B:Bs}{F H:Hp}{σ:L2.St}{δ:Dl}{ts:List (D × V)}{Qd:D->Prop}{Q:VK}{E:XK}{ds:List D}{vs:List V}{sp:bh}(c:au B F H σ δ ts)(s:S F H ds vs)(q:sp (ds.map D.sh) λd=>(ds.all D.pl||d.fr)=true/\Qd d)
  (k:∀d v F' H',Qd d->ag F F'->ag H H'->au B F' H' σ δ ((d,v)::ts)->Q v H'):bt sp vs H Q E:=by
 by_cases hp:ds.all D.pl=true
 ·rw[lN hp]at q
  exact⟨F,ds,_,c.ext,s.r hp,q,λd v F' H' A hd hs hf he h3 r nd fr=>k d v F' H' hd.2 hf hs (c.call hs hf he h3 r nd fr)⟩
 ·refine⟨H,ds.map D.sh,_,ag.refl _,s.frozen c.ext,q,λd v F' H' A hd hs hf he h3 r nd fr=>?_⟩
  have eN:d.fr=true:=by
   have:=hd.1
   rw[Bool.or_eq_true]at this
   exact this.resolve_left hp
  exact k d v F H' hd.2 (ag.refl _) hs (c.G0 hs (r.GZ (by simp[eN]) (c.ext.trans hf)) nd fr)
section
variable{X:Cx}{CX:eZ}{n:Nat}{f:Addr}{fd:FuncData}{ps:List Str}{sp:bh}{E:XK}{x:Str}{p pos:Pos}{e:Expr}{es:List Expr}{t:cG}
theorem bj(F:aN X.prog X.w X.K X.mg X.base CX n f fd ps (bt sp))(hr:cC n X.A)(hg:Gl X x)(hm:X.mg x=some (.ref f))(hk:PySem.W.keepIn X.K (.ref f)=true)(hb:Binds X.K fd ps [])(hx:lJ CX X E)
  (ha:PA X (e::es) (lA t)) (e7:(x==("__debug__":Str))=false:=by decide) (he:starEach (e::es) X.env=(false,eval e X.env)::starEach es X.env:=by rfl) (bG:(backTo pos (starEach es X.env)).any (·.1)=false:=by rfl) :
  PE X (.Call (.Name x p) (e::es) [] pos) (lE (oZ sp t)) :=
 dz (q5 F hr hg hm hk hb .nil hx ha e7 he bG) λσ H Q ⟨B,F,δ,ts,Qd,c,q,k⟩=>⟨B,F,δ,ts,_,c,q,λds aq vs F1 H1 q1 f1 h1 c1 s1=>by
  show bt sp (vs++[]) H1 Q E
  rw[ou]
  exact Cm c1 s1 q1 λd v F' H' hd hf hs c'=>k d aq v F' H' hd (f1.trans hf) (h1.trans hs) c'⟩
end
noncomputable def jQ(N:List Str)(ds:List D):Dl:=ds.map some++aT (N.length-ds.length) none
section
variable{P:Program}{w:World}{K:PySem.W.Frag}{mg:Str->Option Value}{base:Heap}
theorem bC{x qual:Str}{st:Stmt}{f:Addr}{fd:FuncData}{N ps:List Str}{k:Nat}{sp:bh}(F:aY K x qual st f fd)(S:bf N ps (ax st))(len:∀ds Q,sp ds Q->ds.length=ps.length)
  (ik:∀(aE:Value) (A:Around) (outer:List Env) (s:Shared) (H:Hp) (E:XK),cC k (A.deeper (envOfC qual (ax st) s.heap.objs.size f aE)) ->
   ∃t:cQ,PSs (iM aS P w K mg base N qual (ax st) f aE A outer s H E).gD (aX st) (lS (iM aS P w K mg base N qual (ax st) f aE A outer s H E).gD t)/\∀ds Q,sp ds Q->t { nx:=λ_=>Q .aw,rt:=Q } (jQ N ds)):aN P w K mg base aS (k+1) f fd ps (bt sp):=by
 refine F.ok S (λvs H Q E ⟨F,ds,Qd,e,r,h,_⟩=>by rw[<-r.length];exact len ds Qd h) λaE A outer s H vs Q E hr zz=>?_
 obtain⟨F,ds,Qd,e,r,h,k⟩:=zz
 obtain⟨t,ht,hq⟩:=ik aE A outer s H E hr
 have fin:∀d v ah aF F' H',Qd d->au ⟨H,F⟩ F' H' aF ah [(d,v)]->Q v H':=λd v ah aF F' H' hd c=>by
  obtain⟨A,C,r',s',nd,fr⟩:=c.own
  exact k d v F' H' A hd c.b1 c.b2 c.ext c.b3 r' (gW.mp nd).1 λa ha=>fr a (gO _ ha)
 have e1:L2.start N vs=vs.map some++aT (N.length-ds.length) none:=by unfold L2.start;rw[r.length]
 refine⟨_,ht,⟨H,F⟩,F,jQ N ds,_,?_,hq ds Qd h,λah aF F' H' hd c=>fin .aw .aw ah aF F' H' hd (c.pushS (.aw .nil) rfl),fin,λ_ _ _ _ z=>z.elim,λ_ _ _ _ z=>z.elim,XL.none (λ_ _ z=>z) λ_ _ z=>z⟩
 rw[e1]
 exact au.start e r _
end
section
variable{X:Cx}{e a b c:Expr}{es:List Expr}{pos:Pos}{st:Stmt}{zy rest:List Stmt}{t u:cQ}{te:aQ}{tt:fQ}
noncomputable def rF:cQ:=λD δ=>D.nx δ
noncomputable def Tp(t u:cQ):cQ:=λD δ=>t { D with nx:=u D } δ
theorem az{t u:cQ}{En:uX}{δ:Dl}(h:∀U:Dl->Prop,(∀ah,u En ah->U ah)->t { En with nx:=U } δ):Tp t u En δ:=h (u En) λ_ z=>z
theorem cH:PSs X [] (lS X rF):=G2 FK λD σ H ⟨B,F,δ,Dd,c,q,k1,_⟩=>k1 δ σ F H q c
theorem aA(h1:PS X st (lS X t))(h2:PSs X rest (lS X u)):PSs X (st::rest) (lS X (Tp t u)) :=
 G2 (ka h1 h2) λD σ H ⟨B,F,δ,Dd,c,q,k1,k2,k3,k4⟩=>⟨B,F,δ,{ Dd with nx:=u Dd },c,q,λah aF F' H' hq c'=>⟨B,F',ah,Dd,c',hq,k1,k2,k3,k4⟩,k2,k3,k4⟩
theorem aB(h1:PS X st (lS X t)):PSs X [st] (lS X t):=uL h1
noncomputable def o8(i:Nat)(t:cQ):cQ:=λD δ=>∃d,δ[i]?=some (some d)/\t D (δ.set i (some d.sh))
theorem G4(i:Nat)(h:PSs X zy (lS X t)):PSs X zy (lS X (o8 i t)):=G2 h λD σ H zz=>by
 obtain⟨B,F,δ,Dd,c,⟨d,e,q⟩,k⟩:=zz
 obtain⟨F',s,c'⟩:=c.freeze e
 exact⟨B,F',_,Dd,c',q,k⟩
noncomputable def o9(i:Nat)(t:aQ):cQ:=λD δ=>t δ λd ah=>D.nx (ah.set i (some d))
theorem aH{i:Nat}{x:Str}{pos':Pos}(hN:X.N.Nodup)(hi:X.N[i]?=some x)(hx:Loc X.env.scope x)(he:PE X e (lE te))(hs:swapsWith e (some (.Name x pos')) pos.line X.env=pure false:=by rfl)
  (hf:X.fn x=true\/X.env.scope.names.lookup x=some .local:=by first | exact .inl rfl | exact .inr rfl | assumption):PS X (.Assign [.Name x pos'] e pos) (lS X (o9 i te)) :=
 lR (RO hN hi hx he hs hf) λD σ H ⟨B,F,δ,Dd,c,q,k1,k2,k3,k4⟩=>⟨B,F,δ,[],_,c,q,λd ah v F' H' hd sf sh c'=>k1 _ _ F' H' hd (c'.store i)⟩
noncomputable def rG(t:aQ):cQ:=λD δ=>t δ λd _=>D.rt d
theorem aR(he:PE X e (lE te)):PS X (.Return (some e) pos) (lS X (rG te)) :=
 lR (cP1 he) λD σ H ⟨B,F,δ,Dd,c,q,k1,k2,k3,k4⟩=>⟨B,F,δ,[],_,c,q,λd ah v F' H' hd sf sh c'=>k2 d v ah σ F' H' hd c'⟩
noncomputable def rH(tc:fQ)(t u:cQ):cQ:=λD δ=>tc δ λb ah=>if b=true then t D ah else u D ah
theorem cm{l r:List Stmt}(hc:PT X c (lT tt))(ha:PSs X l (lS X t))(hb:PSs X r (lS X u)):PS X (.If c l r pos) (lS X (rH tt t u)) :=
 lR (FL hc ha hb) λD σ H ⟨B,F,δ,Dd,c,q,k⟩=>⟨B,F,δ,[],_,c,q,λb ah F' H' hq sf sh c'=>by
  cases b with
  | true=>exact oM ⟨B,F',ah,Dd,c',by simpa using hq,k⟩
  | false=>exact lM ⟨B,F',ah,Dd,c',by simpa using hq,k⟩⟩
noncomputable def rJ(i:Nat)(rd:cL)(t:aQ):cQ:=λD δ=>∃x,δ[i]?=some (some x)/\t δ λy aq=>rd x y λz=>D.nx (aq.set i (some z))
theorem pd{i:Nat}{x:Str}{op:Operator}{rd:cL}{pos':Pos}(hN:X.N.Nodup)(hi:X.N[i]?=some x)(hx:Loc X.env.scope x)(he:PE X e (lB te))(ho:bR X (inplaceOp op) rd)
  (hf:X.fn x=true\/X.env.scope.names.lookup x=some .local:=by first | exact .inl rfl | exact .inr rfl | assumption):PS X (.AugAssign (.Name x pos') op e pos) (lS X (rJ i rd te)):=by
 obtain⟨r,h1,h2⟩:=ho
 refine lR (cP9 hN hi hx he (ti:=r) h1 hf) λD σ H zz=>?_
 obtain⟨B,F,δ,Dd,c,⟨d0,e0,q⟩,k1,k2,k3,k4⟩:=zz
 obtain⟨v0,e1,s0⟩:=c.look e0
 exact⟨v0,e1,B,F,δ,[],_,c,q,λd ah v F' H' hd sf sh c' s=>h2 c' (s0.mono sf sh) s hd λz w H2 hz h3 c3=>k1 _ _ F' H2 hz (c3.store i)⟩
noncomputable def rK(tc:fQ)(tb:cQ):cQ:=λD δ=>∃W:Nat->Dl->Prop,(∃m,W m δ)/\∀m δ,W m δ->tc δ λb ah=>if b=true then tb { D with nx:=λah=>∃m',m'<m/\W m' ah,ct:=λah=>∃m',m'<m/\W m' ah,bk:=D.nx } ah else D.nx ah
theorem rL{body:List Stmt}(hp:PassesOwn (model X.prog X.w) X.A X.env X.xe)(hc:PT X c (lT tt))(hb:PSs X body (lS X t)):PS X (.While c body [] pos) (lS X (rK tt t)) :=
 lR (cm0 hp hc hb) λD σ H zz=>by
  obtain⟨B,F,δ,Dd,c,⟨W,⟨m0,w0⟩,hw⟩,k1,k2,k3,k4⟩:=zz
  refine⟨λm σ H=>∃F δ,au B F H σ δ []/\W m δ,⟨m0,F,δ,c,w0⟩,λm σ H ⟨F,δ,c,w⟩=>⟨B,F,δ,[],_,c,hw m δ w,λb ah F' H' hq sf sh c'=>?_⟩⟩
  cases b with
  | true =>
   refine oM ⟨λaF H'=>∃m',m'<m/\∃F δ,au B F H' aF δ []/\W m' δ,λaF H' z=>z,B,F',ah,{ Dd with nx:=λah=>∃m',m'<m/\W m' ah,ct:=λah=>∃m',m'<m/\W m' ah,bk:=Dd.nx },c',by simpa using hq,λaU lF F2 H2 ⟨m',hm,w2⟩ c2=>⟨m',hm,F2,aU,c2,w2⟩,k2,λaU lF F2 H2 z c2=>k1 aU lF F2 H2 z c2,λaU lF F2 H2 ⟨m',hm,w2⟩ c2=>⟨m',hm,F2,aU,c2,w2⟩,k4.2⟩
  | false=>exact lM (k1 ah σ F' H' (by simpa using hq) c')
end
structure JD(J:It)(F:Hp)(xs:List D):Prop where
 go:∀i H,ag F H->i<xs.length->J.go i H
 jg:∀i H x H',ag F H->i<xs.length->J.jg i H x H'->∃d,xs[i]?=some d/\ag H H'/\R F H' [d] [x] []
 stop:∀i H,ag F H->xs.length<=i->J.stop i H
noncomputable abbrev iU:=Dl->(Bool->List D->Dl->Prop)->Prop
noncomputable def lI(t:iU):TI:=λσ H Rr=>∃B F δ ts Qd,au B F H σ δ ts/\t δ Qd/\∀g xs ah J F' H',Qd g xs ah->ag F F'->ag H H'->au B F' H' σ ah ts->JD J H' (xs.map D.sh)->(g=true->xs.all D.pl=true/\JD J F' xs)->Rr J H'
noncomputable abbrev iu:=D->Dl->(Dl->Prop)->Prop
noncomputable def lG(m:Nat)(t:iu):TG:=λv σ H Q=>∃B F δ ts d Qd,au B F H σ δ ((d,v)::ts)/\t d δ Qd/\∀ah aF,Qd ah->aF.length=σ.length->(∀j,j<m->aF[j]?=σ[j]?)->au B F H aF ah ts->Q aF H
noncomputable def iV:D->Option (List D)
 | .lst _ xs=>some xs
 | .fz xs=>some xs
 | _=>none
section
variable{B:Bs}{F H F1:Hp}{σ:L2.St}{δ:Dl}{ts:List (D × V)}
end
section
variable{X:Cx}{e a b c tg l iter:Expr}{es:List Expr}{pos:Pos}{t u:cQ}{te:aQ}{tt:fQ}{ta:cG}{m:Nat}
theorem rM{w w':TI}(h:PI X tg iter w)(m:∀σ H Q,w' σ H Q->w σ H Q):PI X tg iter w':=λpins s σ H Q I q=>h pins s σ H Q I (m σ H Q q)
theorem Tq{w w':TG}(h:PG X tg w)(m:∀v σ H Q,w' v σ H Q->w v σ H Q):PG X tg w':=λpins s σ H v u Q I r q=>h pins s σ H v u Q I r (m v σ H Q q)
noncomputable def gN(i:Nat):iu:=λd δ Q=>Q (δ.set i (some d))
theorem dB{i:Nat}{x:Str}(hN:X.N.Nodup)(hi:X.N[i]?=some x)(hx:Loc X.env.scope x)(hm:m<=i:=by decide)(hf:X.fn x=true\/X.env.scope.names.lookup x=some .local:=by first | exact .inl rfl | exact .inr rfl | assumption):PG X (.Name x pos) (lG m (gN i)) :=
 Tq (BY hN hi hx hf) λv σ H Q ⟨B,F,δ,ts,d,Qd,c,q,k⟩=>k _ _ q (by simp) (λj hj=>by rw[yj (by omega)]) (c.store i)
theorem nk{K:PySem.W.Frag}{F H:Hp}{p:Addr}{xs:List D}{ws:List V}(hp:Rd F p (.lst ws))(r:R F H xs ws [])(hF:Full F H):JD (FU K p) F xs where
 go:=λi H' hs hi=>by
  have l:=r.length
  have fi:i<ws.length:=by omega
  exact⟨ws,ws[i],.inl (gr hp hs),aL fi⟩
 jg:=λi H' x H2 hs hi zz=>by
  obtain⟨e,y⟩:=zz
  subst e
  have hx:=y ws (.inl (gr hp hs))
  obtain⟨v,A1,e2,r1,sub⟩:=(r.full hF hs rfl).get (aL hi)
  rw[hx]at e2;cases e2
  have:A1=[]:=dg4.mpr λa ha=>by simpa using sub ha
  subst this
  exact⟨_,aL hi,ag.refl _,r1⟩
 stop:=λi H' hs hi=>⟨ws,.inl (gr hp hs),by have:=r.length;omega⟩
theorem Cn{F:Hp}(lo:Int)(n:Nat):JD (yY lo n) F ((aO n).map λ(k:Nat)=>D.int (lo+(k:Int))) where
 go:=λi H' hs hi=>by
  have fi:i<n:=by simpa using hi
  exact fi
 jg:=λi H' x H2 hs hi zz=>by
  obtain⟨e,y⟩:=zz
  subst e y
  have fi:i<n:=by simpa using hi
  exact⟨.int (lo+i),by simp[jD fi],ag.refl _,.int .nil⟩
 stop:=λi H' hs hi=>by
  have fi:n<=i:=by simpa using hi
  exact fi
noncomputable def rN(t:aQ):iU:=λδ Q=>t δ λd ah=>∃xs,iV d=some xs/\Q true (xs.map D.sh) ah
theorem c74(xs:List D){F H:Hp}{ws:List V}(r:R F H (xs.map D.sh) ws []):(xs.map D.sh).map D.sh=xs.map D.sh:=lN r.pl
theorem cY3(h:PE X l (lE te)):PI X tg l (lI (rN te)) :=
 rM (RQ h) λσ H Q ⟨B,F,δ,ts,Qd,c,q,k⟩=>⟨B,F,δ,ts,_,c,q,λd aq v F1 H1 hd f1 h1 c1=>by
  obtain⟨xs,e,hq⟩:=hd
  obtain⟨F2,f2,c2⟩:=c1.Ti
  have tp:=c2.top
  have c3:=c2.pop.snap
  have e2:=c2.ext
  have sn:=oR e2
  cases d with
  | lst o ys =>
   obtain rfl:=cN e
   rw[fj]at tp
   cases tp with
   | @shr p ws _ _ _ hp r _ =>
    have r3:=r.shared sn (ag.refl _)
    refine⟨p,rfl,⟨ws,bK.of (e2 _ _ hp)⟩,k true _ aq _ _ H1 hq ((f1.trans f2).trans sn) h1 c3 ?_ λ_=>⟨r.pl,nk (.inl (sn _ _ hp)) r3 rm⟩⟩
    rw[c74 _ r]
    exact nk (.inl (e2 _ _ hp)) (r.shared e2 (ag.refl _)) (Full.refl _)
  | fz ys =>
   obtain rfl:=cN e
   cases tp with
   | @fz p o ws _ _ _ hp r _ =>
    have r3:=r.shared sn (ag.refl _)
    have es:=lN r.pl
    rw[es]at hq
    refine⟨p,rfl,⟨ws,.inl (.inr ⟨o,e2 _ _ hp⟩)⟩,k true _ aq _ _ H1 hq ((f1.trans f2).trans sn) h1 c3 ?_ λ_=>⟨r.pl,nk (.inr ⟨o,sn _ _ hp⟩) r3 rm⟩⟩
    rw[es]
    exact nk (.inr ⟨o,e2 _ _ hp⟩) (r.shared e2 (ag.refl _)) (Full.refl _)
  | aw=>cases e
  | bl _=>cases e
  | int _=>cases e
  | str _=>cases e
  | tup _=>cases e
  | obj _ _ _=>cases e
  | bL _=>cases e⟩
noncomputable def rO(t:aQ):iU:=λδ Q=>t δ λd ah=>∃xs,iV d=some xs/\Q d.pl xs ah
theorem nq(h:PE X l (lB te)):PI X tg l (lI (rO te)) :=
 rM (RQ h) λσ H Q ⟨B,F,δ,ts,Qd,c,q,k⟩=>⟨B,F,δ,ts,_,c,q,λd aq v F1 H1 hd f1 h1 c1 s=>by
  obtain⟨xs,e,hq⟩:=hd
  have c3:=c1.snap
  have e2:=c1.ext
  have sn:=oR e2
  cases s with
  | @shr p ws ys _ _ hp r _ =>
   obtain rfl:=cN e
   refine⟨p,rfl,⟨ws,bK.of (e2 _ _ hp)⟩,k _ _ aq _ _ H1 hq (f1.trans sn) h1 c3 ?_ λ_=>⟨r.pl,nk (.inl (sn _ _ hp)) (r.shared sn (ag.refl _)) rm⟩⟩
   rw[lN r.pl]
   exact nk (.inl (e2 _ _ hp)) (r.shared e2 (ag.refl _)) (Full.refl _)
  | @own p ws ys _ _ hp r _ =>
   obtain rfl:=cN e
   refine⟨p,rfl,⟨ws,bK.of hp⟩,k _ _ aq _ _ H1 hq (f1.trans sn) h1 c3 (nk (.inl hp) (r.frozen e2) (Full.refl _)) λz=>by simp[gG]at z⟩
  | @fz p o ws ys _ _ hp r _ =>
   obtain rfl:=cN e
   refine⟨p,rfl,⟨ws,.inl (.inr ⟨o,e2 _ _ hp⟩)⟩,k _ _ aq _ _ H1 hq (f1.trans sn) h1 c3 ?_ λ_=>⟨r.pl,nk (.inr ⟨o,sn _ _ hp⟩) (r.shared sn (ag.refl _)) rm⟩⟩
   rw[lN r.pl]
   exact nk (.inr ⟨o,e2 _ _ hp⟩) (r.shared e2 (ag.refl _)) (Full.refl _)
  | aw _=>cases e
  | bl _=>cases e
  | int _=>cases e
  | str _=>cases e
  | tup _ _ _=>cases e
  | obj _ _ _ _=>cases e
  | bL _ _=>cases e⟩
theorem pe(f:Nat->Int)(l:List Nat):(l.map λk=>D.int (f k)).map D.sh=l.map λk=>D.int (f k):=by simp[D.sh]
theorem Tr(f:Nat->Int)(l:List Nat):(l.map λk=>D.int (f k)).all D.pl=true:=by simp[D.pl]
noncomputable def rP(t:cG):iU:=λδ Q=>t δ λds ah=>∃j:Int,ds=[.int j]/\(-(2 ^ 62)<=j/\j<2 ^ 62)/\Q true ((aO j.toNat).map λ(k:Nat)=>D.int (0+(k:Int))) ah
theorem jj{p:Pos}(hg:Gl X "range")(hm:X.mg "range"=none)(ha:PA X [a] (lA ta))(hs:starEach [a] X.env=[(false,eval a X.env)]:=by rfl):PI X tg (.Call (.Name "range" p) [a] [] pos) (lI (rP ta)) :=
 rM (cb2 hg hm ha hs) λσ H Q ⟨B,F,δ,ts,Qd,c,q,k⟩=>⟨B,F,δ,ts,_,c,q,λds aq vs F1 H1 hd f1 h1 c1 s=>by
  obtain⟨j,rfl,⟨b1,b2⟩,hq⟩:=hd
  cases s with
  | int s =>
   cases s
   refine⟨j,rfl,b1,b2,k true _ aq _ _ H1 hq f1 h1 c1 ?_ λ_=>⟨Tr _ _,Cn 0 _⟩⟩
   rw[pe]
   exact Cn 0 _⟩
noncomputable def rQ(t:cG):iU:=λδ Q=>t δ λds ah=>∃i j:Int,ds=[.int i,.int j]/\(-(2 ^ 62)<=i/\i<2 ^ 62/\-(2 ^ 62)<=j/\j<2 ^ 62)/\Q true ((aO (j-i).toNat).map λ(k:Nat)=>D.int (i+(k:Int))) ah
theorem uZ{p:Pos}(hg:Gl X "range")(hm:X.mg "range"=none)(ha:PA X [a,b] (lA ta))(hs:starEach [a,b] X.env=[(false,eval a X.env),(false,eval b X.env)]:=by rfl)(gk:starEach [b] X.env=[(false,eval b X.env)]:=by rfl) :
  PI X tg (.Call (.Name "range" p) [a,b] [] pos) (lI (rQ ta)) :=
 rM (ce8 hg hm ha hs gk) λσ H Q ⟨B,F,δ,ts,Qd,c,q,k⟩=>⟨B,F,δ,ts,_,c,q,λds aq vs F1 H1 hd f1 h1 c1 s=>by
  obtain⟨i,j,rfl,bd,hq⟩:=hd
  cases s with
  | int s =>
   cases s with
   | int s =>
    cases s
    refine⟨i,j,rfl,bd,k true _ aq _ _ H1 hq f1 h1 c1 ?_ λ_=>⟨Tr _ _,Cn i _⟩⟩
    rw[pe]
    exact Cn i _⟩
noncomputable def fG(xs:List D)(g:iu)(tb:cQ):cQ:=λEn aq=>∃Iv:Nat->Dl->Prop,Iv 0 aq /\
 (∀i d ah,xs[i]?=some d->Iv i ah->g d ah λaU=>tb { En with nx:=Iv (i+1),ct:=Iv (i+1),bk:=En.nx } aU)/\∀ah,Iv xs.length ah->En.nx ah
theorem fG.mk{xs:List D}{g:iu}{tb:cQ}{En:uX}{δ:Dl}(Iv:Nat->Dl->Prop)(h0:Iv 0 δ)(ht:∀i d ah,xs[i]?=some d->Iv i ah->g d ah λaU=>tb { En with nx:=Iv (i+1),ct:=Iv (i+1),bk:=En.nx } aU)
  (hf:∀ah,Iv xs.length ah->En.nx ah):fG xs g tb En δ:=⟨Iv,h0,ht,hf⟩
noncomputable def rR(ti:iU)(g:iu)(tb:cQ):cQ:=λEn δ=>ti δ λsh xs aq=>sh=true/\fG xs g tb En aq
theorem fR{ti:iU}{g:iu}{body:List Stmt}(hp:PassesOwn (model X.prog X.w) X.A X.env X.xe)(hc:X.calm=true)(hi:PI X tg iter (lI ti))(hg:PG X tg (lG 0 g))(hb:PSs X body (lS X t))
  (hs:∀x,foldedSetIterable iter X.env x=pure x:=by intro _;rfl):PS X (.For tg iter body [] pos) (lS X (rR ti g t)) :=
 lR (cP8 hp hc hi hg hb hs) λEn σ H ⟨B,F,δ,Dd,c,q,k1,k2,k3,k4⟩=>⟨B,F,δ,[],_,c,q,λsh xs aq J F1 H1 hq f1 h1 c1 _ jd=>by
  obtain⟨ze,Iv,i0,turn,fin⟩:=hq
  obtain⟨bG,jd⟩:=jd ze
  have un:∀{F' H':Hp} {aF:L2.St} {ah:Dl} {ts:List (D × V)},au ⟨B.H0,F1⟩ F' H' aF ah ts->au B F' H' aF ah ts:=λc'=>c'.dI1 c1.b2 c1.b3
  refine⟨λi m σ H=>m=xs.length-i/\i<=xs.length/\∃F δ,au ⟨B.H0,F1⟩ F H σ δ []/\Iv i δ,⟨_,rfl,jz _,F1,aq,c1.rebase,i0⟩,?_⟩
  rintro i m lF H2 ⟨rfl,hi,F2,aU,c2,iv⟩
  have s2:ag F1 H2:=c2.b2.trans c2.ext
  by_cases fX:i<xs.length
  ·refine .inr ⟨jd.go i H2 s2 fX,λaF H'=>∃F δ,au ⟨B.H0,F1⟩ F H' aF δ []/\Iv (i+1) δ,λaF H' z=>⟨xs.length-(i+1),by omega,rfl,fX,z⟩,λx H3 y=>?_⟩
   obtain⟨d,e,s3,r⟩:=jd.jg i H2 x H3 s2 fX y
   have c3:=(c2.grow s3).pushS (d:=d) (v:=x) ((r.s).mono c2.b2 (ag.refl _)) (by have:=r.pl;simpa using this)
   refine⟨⟨B.H0,F1⟩,F2,aU,[],d,_,c3,turn i d aU e iv,λah aF hq _ _ c4=>?_⟩
   exact⟨⟨B.H0,F1⟩,F2,ah,_,c4,hq,λjk nr F5 H5 h5 c5=>⟨F5,jk,c5,h5⟩,λd5 v5 jk nr F5 H5 h5 c5=>k2 d5 v5 jk nr F5 H5 h5 (un c5),λjk nr F5 H5 h5 c5=>k1 jk nr F5 H5 h5 (un c5),λjk nr F5 H5 h5 c5=>⟨F5,jk,c5,h5⟩,⟨λC jk pins nr F5 H5 s5 a T h5 c5=>k4.2.1 C jk pins nr F5 H5 s5 a T h5 (un c5),λC jk pins nr F5 H5 s5 h' e vs h5 c5=>k4.2.2 C jk pins nr F5 H5 s5 h' e vs h5 (un c5)⟩⟩
  ·have e:i=xs.length:=by omega
   subst e
   exact .inl ⟨jd.stop _ H2 s2 (bJ _),k1 aU lF F2 H2 (fin aU iv) (un c2)⟩⟩
end
end L3
namespace L3
open PySem L2 PySem.Spec PyProof.Rows
noncomputable def iW(δ:Dl)(q:Str × Nat):Option D:=(δ[q.2]?).getD none
noncomputable def iw(δ:Dl)(q:Str × Nat):Bool:=match iW δ q with
 | some d=>d.pl
 | none=>true
noncomputable def fS(aD:List (Str × Nat))(n:Nat)(δ:Dl):Dl:=(aD.map λq=>(iW δ q).map D.sh)++aT n none
noncomputable def rS(sh:Bool)(xs:List D)(aD:List (Str × Nat))(n:Nat)(g:iu)(tt:fQ)(te:aQ)(aq:Dl)(Q:D->Dl->Prop):Prop:=∃(p:D->Bool) (f:D->D),
 (∀x∈xs.map D.sh,g x (fS aD n aq) λaU=>tt aU λb ir=>b=p x/\(p x=true->te ir λd _=>d=f x)) /\
 ((sh&&aD.all (iw aq))=true\/∀x∈xs.map D.sh,p x=true->(f x).fr=true)/\xs.length<=sizeLine/\Q (.lst true (((xs.map D.sh).filter p).map f)) aq
noncomputable def pf(ti:iU)(aD:List (Str × Nat))(n:Nat)(g:iu)(tt:fQ)(te:aQ):aQ:=λδ Q=>ti δ λsh xs aq=>rS sh xs aD n g tt te aq Q
noncomputable def jR:fQ:=λδ Q=>Q true δ
theorem cq0{sh:Bool}{xs:List D}{aD:List (Str × Nat)}{n m:Nat}{te:aQ}{aq:Dl}{Q:D->Dl->Prop}(f:D->D)(hx:∀x∈xs.map D.sh,te ((fS aD n aq).set m (some x)) λd _=>d=f x)
  (eN:(sh&&aD.all (iw aq))=true\/∀x∈xs.map D.sh,(f x).fr=true) (hl:xs.length<=sizeLine) (hq:Q (.lst true ((xs.map D.sh).map f)) aq):rS sh xs aD n (gN m) jR te aq Q :=
 ⟨λ_=>true,f,λx h=>⟨rfl,λ_=>hx x h⟩,eN.imp id λh x hx _=>h x hx,hl,by rw[dg5.mpr (λ_ _=>rfl)];exact hq⟩
section
variable{B:Bs}{F H:Hp}{σ:L2.St}{δ:Dl}{ts:List (D × V)}
theorem Ts(c:au B F H σ δ ts)(n:Nat):∀(aD:List (Str × Nat)),aD.all (iw δ)=true->RS F H (fS aD n δ) (gS aD n σ) []
 | [],_=>by
  have z:∀n,RS F H (aT n none) (aT n none) []:=λn=>by
   induction n with
   | zero=>exact .nil
   | succ n ih=>exact .aw ih
  exact z n
 | q::r,h=>by
  rw[eL,dY]at h
  have ih:=Ts c n r h.2
  show RS F H ((iW δ q).map D.sh::fS r n δ) ((σ[q.2]?).getD none::gS r n σ) []
  cases e:iW δ q with
  | none=>exact .aw ih
  | some d =>
   have e2:δ[q.2]?=some (some d):=by
    unfold iW at e
    cases z:δ[q.2]? with
    | none=>rw[z]at e;cases e
    | some o=>rw[z]at e;exact congrArg some e
   have hp:d.pl=true:=by have:=h.1;unfold iw at this;rw[e]at this;exact this
   obtain⟨v,e3,s⟩:=c.look e2
   rw[e3]
   show RS F H (some d.sh::_) (some v::_) []
   rw[D.Cd hp]
   exact .gH (A:=[]) (s.r (by simp[hp])) ih
theorem Tt(c:au B F H σ δ ts)(n:Nat):∀(aD:List (Str × Nat)),RS H H (fS aD n δ) (gS aD n σ) []
 | []=>by
  have z:∀n,RS H H (aT n none) (aT n none) []:=λn=>by
   induction n with
   | zero=>exact .nil
   | succ n ih=>exact .aw ih
  exact z n
 | q::r=>by
  have ih:=Tt c n r
  show RS H H ((iW δ q).map D.sh::fS r n δ) ((σ[q.2]?).getD none::gS r n σ) []
  cases e:iW δ q with
  | none=>exact .aw ih
  | some d =>
   have e2:δ[q.2]?=some (some d):=by
    unfold iW at e
    cases z:δ[q.2]? with
    | none=>rw[z]at e;cases e
    | some o=>rw[z]at e;exact congrArg some e
   obtain⟨v,e3,s⟩:=c.look e2
   rw[e3]
   exact .gH (A:=[]) (s.frozen c.ext) ih
theorem Tu{α:Type}(xs:List α)(p:α->Bool)(i:Nat)(x:α)(h:xs[i]?=some x):(xs.take (i+1)).filter p=(xs.take i).filter p++(if p x=true then [x]else []):=by
 rw[mL,h,List.filter_append]
 simp only[dg6]
 by_cases hp:p x=true<;>simp[hp]
end
section
variable{X:Cx}{elt iter tg:Expr}{pos:Pos}{ifs:List Expr}{scope:Scope}{cl:List (Str × Addr)}{ti:iU}{tt:fQ}{te:aQ}{g:iu}
theorem Tv{B:Bs}{F1 H1:Hp}{σ:L2.St}{aq:Dl}{ts:List (D × V)}{J:It}{Qd:D->Dl->Prop}{Q:VK}{xs:List D}{sh:Bool}{aD:List (Str × Nat)}{n:Nat}(c1:au B F1 H1 σ aq ts)
  (rT:JD J H1 (xs.map D.sh)) (zD:sh=true->xs.all D.pl=true/\JD J F1 xs) (p:D->Bool) (f:D->D)
  (hx:∀x∈xs.map D.sh,g x (fS aD n aq) λaU=>tt aU λb ir=>b=p x/\(p x=true->te ir λd _=>d=f x))
  (eN:(sh&&aD.all (iw aq))=true\/∀x∈xs.map D.sh,p x=true->(f x).fr=true) (hlen:xs.length<=sizeLine) (hq:Qd (.lst true (((xs.map D.sh).filter p).map f)) aq)
  (k:∀d ah v F' H',Qd d ah->ag F1 F'->ag H1 H'->au B F' H' σ ah ((d,v)::ts)->Q v H'):S2 J aD n (lG aD.length g) (lT tt) (lE te) σ H1 Q:=by
 intro Dp hD
 have cD:au B F1 (upd H1 Dp (.lst [])) σ aq ((.lst true [],.ref Dp)::ts):=c1.nh hD .nil rfl
 refine⟨λi m acc H2=>m=xs.length-i/\i<=xs.length/\H2 Dp=some (.lst acc)/\ag H1 H2/\acc.length<=i/\∃F2,ag F1 F2 /\
  au B F2 H2 σ aq ((.lst true ((((xs.map D.sh).take i).filter p).map f),.ref Dp)::ts),⟨xs.length,rfl,jz _,cy,ag.upd hD,bJ _,F1,ag.refl _,by simpa using cD⟩,?_⟩
 rintro i m acc H2 ⟨rfl,hi,rV,zE,hal,F2,lV,c2⟩
 refine⟨rV,?_⟩
 by_cases fX:i<xs.length
 case neg =>
  have e:i=xs.length:=by omega
  subst e
  refine .inl ⟨rT.stop _ H2 zE (by simp),k _ aq _ F2 H2 ?_ lV zE c2⟩
  have:(xs.map D.sh).take xs.length=xs.map D.sh:=by rw[yq (by simp)]
  rw[this]
  exact hq
 case pos =>
  refine .inr ⟨rT.go i H2 zE (by simpa using fX),λx H3 y=>?_⟩
  obtain⟨d0,e0,G5,r0⟩:=rT.jg i H2 x H3 zE (by simpa using fX) y
  have Tw:d0∈xs.map D.sh:=yo e0
  have Tx:H3 Dp=some (.lst acc):=G5 _ _ rV
  have c3:=c2.grow G5
  have G6:=zE.trans G5
  refine⟨Tx,?_⟩
  have G7:=hx d0 Tw
  have turn:∀Fi,ag Fi H3->RS Fi H3 (fS aD n aq) (gS aD n σ) []->S Fi H3 [d0] [x]->d0.pl=true ->
    (∀d v F' H' A,d=f d0->p d0=true->ag H3 H'->ag Fi F'->ag F' H'->(∀a ws,F' a=some (.lst ws)->Fi a=some (.lst ws)\/H3 a=none)->R F' H' [d] [v] A->A.Nodup->(∀a∈A,H3 a=none) ->
     ∃F4,ag F2 F4/\au B F4 H' σ aq ((d,v)::(.lst true ((((xs.map D.sh).take i).filter p).map f),.ref Dp)::ts)) ->
    lG aD.length g x (gS aD n σ) H3 λgE H4 =>
     (gE.length=(gS aD n σ).length/\∀j,j<aD.length->gE[j]?=(gS aD n σ)[j]?)/\lT tt gE H4 λb H5=>H5 Dp=some (.lst acc) /\
     if b=true then lE te gE H5 λy H6=>H6 Dp=some (.lst acc)/\acc.length<sizeLine/\∃m',m'<xs.length-i /\
      (m'=xs.length-(i+1)/\i+1<=xs.length/\upd H6 Dp (.lst (acc++[y])) Dp=some (.lst (acc++[y]))/\ag H1 (upd H6 Dp (.lst (acc++[y])))/\(acc++[y]).length<=i+1/\∃F2,ag F1 F2 /\
       au B F2 (upd H6 Dp (.lst (acc++[y]))) σ aq ((.lst true ((((xs.map D.sh).take (i+1)).filter p).map f),.ref Dp)::ts))
     else ∃m',m'<xs.length-i/\(m'=xs.length-(i+1)/\i+1<=xs.length/\H5 Dp=some (.lst acc)/\ag H1 H5/\acc.length<=i+1/\∃F2,ag F1 F2 /\
       au B F2 H5 σ aq ((.lst true ((((xs.map D.sh).take (i+1)).filter p).map f),.ref Dp)::ts)):=by
   intro Fi hFi hRS hS bG back
   have ci:au ⟨H3,Fi⟩ Fi H3 (gS aD n σ) (fS aD n aq) []:=⟨hFi,ag.refl _,ag.refl _,λ_ _ q=>.inl q,[],[],.nil,hRS,by simp,by simp⟩
   refine⟨⟨H3,Fi⟩,Fi,fS aD n aq,[],d0,_,ci.pushS hS bG,G7,λah gE hq1 l1 k1 c4=>⟨⟨l1,k1⟩,⟨H3,Fi⟩,Fi,ah,[],_,c4,hq1,λb jk F5 H5 hb f5 h5 c5=>?_⟩⟩
   obtain⟨hb,ht⟩:=hb
   have Co:H5 Dp=some (.lst acc):=h5 _ _ Tx
   refine⟨Co,?_⟩
   by_cases hp:p d0=true
   ·rw[hb,hp]
    refine oM ⟨⟨H3,Fi⟩,F5,jk,[],_,c5,ht hp,λd δ6 v F6 H6 hd f6 h6 c6=>?_⟩
    have Tz:H6 Dp=some (.lst acc):=h6 _ _ Co
    obtain⟨A,C,r,s,nd,fr⟩:=c6.own
    obtain⟨F4,u3,c7⟩:=back d v F6 H6 A hd hp c6.b1 c6.b2 c6.ext c6.b3 r (gW.mp nd).1 λa ha=>fr a (gO _ ha)
    have c8:=c7.dI6 Tz
    refine⟨Tz,by omega,xs.length-(i+1),by omega,rfl,fX,cy,?_,by simpa using hal,F4,lV.trans u3,?_⟩
    ·have TB:=G6.trans c6.b1
     exact⟨λa o q n=>by rw[bc (fh q hD)];exact TB.get a o q n,λa ps q=>by rw[bc (fh q hD)];exact TB.tb a ps q⟩
    ·have e9:(((xs.map D.sh).take (i+1)).filter p).map f=(((xs.map D.sh).take i).filter p).map f++[d]:=by
      rw[Tu _ p i d0 e0,hp,hd];simp
     rw[e9]
     exact c8
   ·have u4:p d0=false:=by simpa using hp
    rw[hb,u4]
    refine lM ⟨xs.length-(i+1),by omega,rfl,fX,Co,G6.trans h5,by omega,F2,lV,?_⟩
    have e9:(((xs.map D.sh).take (i+1)).filter p).map f=(((xs.map D.sh).take i).filter p).map f:=by
     rw[Tu _ p i d0 e0,u4];simp
    rw[e9]
    exact c3.grow h5
  by_cases hA:(sh&&aD.all (iw aq))=true
  ·rw[dY]at hA
   obtain⟨bG,jd⟩:=zD hA.1
   have ze:=lN bG
   rw[ze]at e0
   obtain⟨d1,e1,_,r1⟩:=jd.jg i H2 x H3 (lV.trans c2.ext) fX y
   rw[e0]at e1;cases e1
   have dJ9:d0.pl=true:=by have:=r1.pl;simpa using this
   refine turn F2 c3.ext (Ts c3 n aD hA.2) ((r1.s).mono lV (ag.refl _)) dJ9 λd v F' H' A hd hp hs hf he h3 r nd fr=>⟨F',hf,c3.call hs hf he h3 r nd fr⟩
  ·have dK0:=eN.resolve_left hA
   refine turn H3 (ag.refl _) (Tt c3 n aD) ((r0.shared G6 (ag.refl _)).s) (by have:=r0.pl;simpa using this) λd v F' H' A hd hp hs hf he h3 r nd fr=>⟨F2,ag.refl _,?_⟩
   exact c3.G0 hs (r.GZ (by rw[hd];simp[dK0 d0 Tw hp]) (c3.ext.trans hf)) nd fr
theorem eQ{Y:Cx}:m3 Y [] (lT jR):=λ_ _ _ H _ I ⟨B,F,δ,ts,Qd,c,q,k⟩=>cI2 _ _ _ H _ I (k true δ F H q (ag.refl _) (ag.refl _) c)
theorem G8{Y:Cx}{c:Expr}(h:PT Y c (lT tt)):m3 Y [c] (lT tt):=cJ4 h
end
end L3
namespace L3
open PySem L2 PySem.Spec PyProof.Rows
section
variable{X:Cx}{F H:Hp}{v w:V}
noncomputable def l2(rd:cL):R2:=λv w H Q=>∃B F σ δ ts x y Qd,au B F H σ δ ts/\S F H [x] [v]/\S F H [y] [w]/\rd x y Qd/\∀d z H',Qd d->ag H H'->au B F H' σ δ ((d,z)::ts)->Q z H'
theorem bR.of{f:Value->Value->Sem Value}{rd:cL}(h:cB X f (l2 rd)):bR X f rd:=⟨_,h,λ{B F H σ δ ts x y v w Q Qd} c sx sy q k=>⟨B,F,σ,δ,ts,x,y,Qd,c,sx,sy,q,k⟩⟩
theorem zF{f:Value->Value->Sem Value}{C:Int->Int->Prop}{g:Int->Int->V}{gd:Int->Int->D}(ho:cB X f (rI C g))(hg:∀i j F H,S F H [gd i j] [g i j])(hp:∀i j,(gd i j).pl=true):bR X f λx y Q=>∃i j,x=.int i/\y=.int j/\C i j/\Q (gd i j) :=
 ⟨_,ho,λ{B F H σ δ ts x y v w Q Qd} c sx sy h k=>by
  obtain⟨i,j,rfl,rfl,hc,q⟩:=h
  cases sx;cases sy
  exact⟨i,j,rfl,rfl,hc,k _ _ _ q (ag.refl _) (c.pushS (hg i j F H) (hp i j))⟩⟩
theorem ky{f:Value->Value->Sem Value}{g:Int->Int->V}{gd:Int->Int->D}(ho:cB X f (iJ g))(hg:∀i j F H,S F H [gd i j] [g i j])(hp:∀i j,(gd i j).pl=true):bR X f λx y Q=>∃i j,x=.int i/\y=.int j/\Q (gd i j) :=
 ⟨_,ho,λ{B F H σ δ ts x y v w Q Qd} c sx sy h k=>by
  obtain⟨i,j,rfl,rfl,q⟩:=h
  cases sx;cases sy
  exact⟨i,j,rfl,rfl,k _ _ _ q (ag.refl _) (c.pushS (hg i j F H) (hp i j))⟩⟩
theorem iX{o:Bool}{xs:List D}(s:S F H [.lst o xs] [v])(e:ag F H):∃p ws,v=.ref p/\H p=some (.lst ws)/\S F H xs ws:=by
 cases s with
 | shr h r _=>exact⟨_,_,rfl,e _ _ h,r.s⟩
 | own h r _=>exact⟨_,_,rfl,h,r⟩
theorem kz{xs:List D}(s:S F H [.tup xs] [v]):∃p ws,v=.ref p/\H p=some (.tup ws)/\S F H xs ws:=by
 cases s with
 | tup h r _=>exact⟨_,_,rfl,h,r⟩
theorem kA{d:D}{xs:List D}(s:S F H [d] [v])(e:ag F H)(h:iV d=some xs):∃p ws,v=.ref p/\Rd H p (.lst ws)/\S F H xs ws:=by
 cases s with
 | shr h' r _=>cases h;exact⟨_,_,rfl,.inl (e _ _ h'),r.s⟩
 | own h' r _=>cases h;exact⟨_,_,rfl,.inl h',r⟩
 | fz h' r _=>cases h;exact⟨_,_,rfl,.inr ⟨_,e _ _ h'⟩,r.s⟩
 | aw _=>cases h
 | bl _=>cases h
 | int _=>cases h
 | str _=>cases h
 | tup _ _ _=>cases h
 | obj _ _ _ _=>cases h
 | bL _ _=>cases h
theorem S.rep{xs:List D}{ws:List V}(s:S F H xs ws):∀k:Nat,S F H (aT k xs).flatten (aT k ws).flatten
 | 0=>by simpa using S.nil
 | k+1=>by
  rw[qJ,qJ,uk,uk]
  exact s.append (S.rep s k)
noncomputable def pk:cL:=λx y Q=>match x,y with
 | .int i,.int j=>Q (.int (i+j))
 | .str a,.str b=>a.length+b.length<=sizeLine/\Q (.str (a++b))
 | .lst _ xs,.lst _ ys=>(xs.length+ys.length<=sizeLine/\xs.all D.pl=true/\ys.all D.pl=true)/\Q (.lst true (xs++ys))
 | _,_=>False
theorem cX1:bR X (binaryOp .Add) λx y Q=>∃o xs o' ys,x=.lst o xs/\y=.lst o' ys/\(xs.length+ys.length<=sizeLine/\xs.all D.pl=true/\ys.all D.pl=true)/\Q (.lst true (xs++ys)) :=
 ⟨_,Ss,λ{B F H σ δ ts x y v w Q Qd} c sx sy h k=>by
  obtain⟨o,xs,o',ys,rfl,rfl,⟨hz,h1,h2⟩,q⟩:=h
  obtain⟨p,ws,rfl,e1,s1⟩:=iX sx c.ext
  obtain⟨p',fk,rfl,e2,s2⟩:=iX sy c.ext
  refine⟨p,p',ws,fk,rfl,rfl,e1,e2,by rw[<-s1.length,<- s2.length];exact hz,λr hr=>?_⟩
  exact k _ _ _ q (ag.upd hr) (c.nh hr (s1.append s2) (by simp[h1,h2]))⟩
theorem dK2:bR X (binaryOp .Add) λx y Q=>∃i j,x=.str i/\y=.str j/\i.length+j.length<=sizeLine/\Q (.str (i++j)) :=
 ⟨_,bY0,λ{B F H σ δ ts x y v w Q Qd} c sx sy h k=>by
  obtain⟨i,j,rfl,rfl,hz,q⟩:=h
  cases sx;cases sy
  exact⟨i,j,rfl,rfl,hz,k _ _ _ q (ag.refl _) (c.pushS (.str .nil) rfl)⟩⟩
theorem cF:bR X (binaryOp .Add) pk:=((ky (gd:=λi j=>.int (i+j)) cO9 (λ_ _ _ _=>.int .nil) λ_ _=>rfl).or (dK2.or cX1)).imp λx y Q h=>by
 unfold pk at h
 split at h
 ·exact .inl ⟨_,_,rfl,rfl,h⟩
 ·exact .inr (.inl ⟨_,_,rfl,rfl,h.1,h.2⟩)
 ·exact .inr (.inr ⟨_,_,_,_,rfl,rfl,h.1,h.2⟩)
 ·exact h.elim
noncomputable def iI(C:Int->Int->Prop)(g:Int->Int->D):cL:=λx y Q=>match x,y with
 | .int i,.int j=>C i j/\Q (g i j)
 | _,_=>False
noncomputable def gu(g:Int->Int->D):cL:=λx y Q=>match x,y with
 | .int i,.int j=>Q (g i j)
 | _,_=>False
theorem Cp{f:Value->Value->Sem Value}{C:Int->Int->Prop}{g:Int->Int->D}(h:bR X f λx y Q=>∃i j,x=.int i/\y=.int j/\C i j/\Q (g i j)):bR X f (iI C g):=h.imp λx y Q h=>by
 unfold iI at h
 split at h
 ·exact⟨_,_,rfl,rfl,h.1,h.2⟩
 ·exact h.elim
theorem lW{f:Value->Value->Sem Value}{g:Int->Int->D}(h:bR X f λx y Q=>∃i j,x=.int i/\y=.int j/\Q (g i j)):bR X f (gu g):=h.imp λx y Q h=>by
 unfold gu at h
 split at h
 ·exact⟨_,_,rfl,rfl,h⟩
 ·exact h.elim
noncomputable def rW:cL:=gu λi j=>.int (i-j)
theorem cX:bR X (binaryOp .Sub) rW:=lW (ky Gb (λ_ _ _ _=>.int .nil) λ_ _=>rfl)
noncomputable def G9(_ j:Int):Prop:=0<j/\j.natAbs.log2<9000
theorem kB{i j:Int}(h1:0<j)(h2:j<1073741824):G9 i j:=⟨h1,by
 have h:j.natAbs<2 ^ 30:=by omega
 have:=(Nat.log2_lt (show j.natAbs≠0 by omega)).mpr h
 omega⟩
theorem cn3:cB X (binaryOp .FloorDiv) (rI G9 λi j=>.int (i/j)):=y9 λi j _ _ _ _ _ hc q =>
 floordiv_int (show j≠0 by have:=hc.1;omega) (by rw[df5 i (by have:=hc.1;omega)];exact q) (.inl (PyProof.noPylong_of_log2 hc.2))
noncomputable def rX:cL:=iI G9 λi j=>.int (i/j)
theorem kC:bR X (binaryOp .FloorDiv) rX:=Cp (zF cn3 (λ_ _ _ _=>.int .nil) λ_ _=>rfl)
noncomputable def rY:cL:=iI (λ_ j=>0<j) λi j=>.int (i%j)
theorem cM:bR X (binaryOp .Mod) rY:=Cp (zF cR6 (λ_ _ _ _=>.int .nil) λ_ _=>rfl)
noncomputable def rZ:cL:=iI SY λi j=>.int (i*2 ^ j.toNat)
theorem u5:bR X (binaryOp .LShift) rZ:=Cp (zF S0 (λ_ _ _ _=>.int .nil) λ_ _=>rfl)
noncomputable def r6:cL:=iI (λ_ j=>0<=j) λi j=>.int (i/2 ^ j.toNat)
theorem TC:bR X (binaryOp .RShift) r6:=Cp (zF cS8 (λ_ _ _ _=>.int .nil) λ_ _=>rfl)
noncomputable def r9:cL:=gu λi j=>.int (om i j)
theorem TF:bR X (binaryOp .BitAnd) r9:=lW (ky cR2 (λ_ _ _ _=>.int .nil) λ_ _=>rfl)
noncomputable def se:cL:=gu λi j=>.int (oo i j)
theorem si:bR X (binaryOp .BitXor) se:=lW (ky cQ0 (λ_ _ _ _=>.int .nil) λ_ _=>rfl)
theorem cp6:cB X (binaryOp .Mult) (rI IntMulOk λi j=>.int (i*j)):=y9 λ_ _ _ _ _ _ _ hc q=>mul_int q hc
noncomputable def pq:cL:=λx y Q=>match x,y with
 | .int i,.int j=>IntMulOk i j/\Q (.int (i*j))
 | .lst _ xs,.int k=>(-(2 ^ 63)<=k/\k<2 ^ 63/\xs.length*k.toNat<=sizeLine/\xs.all D.pl=true)/\Q (.lst true (aT k.toNat xs).flatten)
 | _,_=>False
theorem cX4:bR X (binaryOp .Mult) λx y Q=>∃o xs k,x=.lst o xs/\y=.int k/\(-(2 ^ 63)<=k/\k<2 ^ 63/\xs.length*k.toNat<=sizeLine/\xs.all D.pl=true)/\Q (.lst true (aT k.toNat xs).flatten) :=
 ⟨_,cU1,λ{B F H σ δ ts x y v w Q Qd} c sx sy h k=>by
  obtain⟨o,xs,n,rfl,rfl,⟨b1,b2,hz,h1⟩,q⟩:=h
  obtain⟨p,ws,rfl,e1,s1⟩:=iX sx c.ext
  cases sy
  refine⟨p,n,ws,rfl,rfl,e1,b1,b2,by rw[<-s1.length];exact hz,λr hr=>?_⟩
  refine k _ _ _ q (ag.upd hr) (c.nh hr (s1.rep _) ?_)
  rw[cU]
  intro x hx
  obtain⟨l,hl,Cq⟩:=List.mem_flatten.mp hx
  rw[(yr.mp hl).2]at Cq
  exact cU.mp h1 x Cq⟩
theorem fZ:bR X (binaryOp .Mult) pq:=((zF (gd:=λi j=>.int (i*j)) cp6 (λ_ _ _ _=>.int .nil) λ_ _=>rfl).or cX4).imp λx y Q h=>by
 unfold pq at h
 split at h
 ·exact .inl ⟨_,_,rfl,rfl,h.1,h.2⟩
 ·exact .inr ⟨_,_,_,rfl,rfl,h.1,h.2⟩
 ·exact h.elim
theorem Ha:bR X (inplaceOp .Add) (gu λi j=>.int (i+j)):=lW (ky cD7 (λ_ _ _ _=>.int .nil) λ_ _=>rfl)
theorem cS6:bR X (inplaceOp .Sub) (gu λi j=>.int (i-j)):=lW (ky cI4 (λ_ _ _ _=>.int .nil) λ_ _=>rfl)
theorem Cr:bR X (inplaceOp .BitXor) (gu λi j=>.int (oo i j)):=lW (ky cH7 (λ_ _ _ _=>.int .nil) λ_ _=>rfl)
noncomputable def sj:cL:=gu λi j=>.bl (decide (i<j))
noncomputable def sk:cL:=gu λi j=>.bl (decide (i<=j))
noncomputable def sq:cL:=gu λi j=>.bl (decide (j<i))
noncomputable def sr:cL:=gu λi j=>.bl (decide (j<=i))
theorem zG:bR X (compareOp .Lt) sj:=lW (ky cY7 (λ_ _ _ _=>.bl .nil) λ_ _=>rfl)
theorem u6:bR X (compareOp .LtE) sk:=lW (ky cX2 (λ_ _ _ _=>.bl .nil) λ_ _=>rfl)
theorem zH:bR X (compareOp .Gt) sq:=lW (ky cV7 (λ_ _ _ _=>.bl .nil) λ_ _=>rfl)
theorem c83:bR X (compareOp .GtE) sr:=lW (ky cY0 (λ_ _ _ _=>.bl .nil) λ_ _=>rfl)
noncomputable def lX:D->Bool
 | .aw=>true
 | _=>false
noncomputable def pz:cL:=λx y Q=>match y with
 | .aw=>Q (.bl (lX x))
 | _=>False
noncomputable def pB:cL:=λx y Q=>match y with
 | .aw=>Q (.bl (!lX x))
 | _=>False
theorem TH{d:D}(s:S F H [d] [v]):decide (v=.aw)=lX d:=by cases s<;>simp[lX]
theorem nt:bR X (compareOp .Is) pz:=⟨_,cT3,λ{B F H σ δ ts x y v w Q Qd} c sx sy h k=>by
 unfold pz at h
 split at h
 ·cases sy
  refine⟨rfl,?_⟩
  rw[TH sx]
  exact k _ _ _ h (ag.refl _) (c.pushS (.bl .nil) rfl)
 ·exact h.elim⟩
theorem TJ:bR X (compareOp .IsNot) pB:=⟨_,cz5,λ{B F H σ δ ts x y v w Q Qd} c sx sy h k=>by
 unfold pB at h
 split at h
 ·cases sy
  refine⟨rfl,?_⟩
  rw[TH sx]
  exact k _ _ _ h (ag.refl _) (c.pushS (.bl .nil) rfl)
 ·exact h.elim⟩
noncomputable def bH:D->D->Bool
 | .aw,.aw=>true
 | .bl a,.bl b=>a==b
 | .bl a,.int b=>(if a then 1 else 0)==b
 | .int a,.bl b=>a==(if b then 1 else 0)
 | .int a,.int b=>a==b
 | .str a,.str b=>a==b
 | .lst _ xs,.lst _ ys=>fm xs ys
 | .tup xs,.tup ys=>fm xs ys
 | _,_=>false
where fm:List D->List D->Bool
 | [],[]=>true
 | x::xs,y::ys=>bH x y&&fm xs ys
 | _,_=>false
noncomputable def dE:Nat->D->Bool
 | _,.aw=>true
 | _,.bl _=>true
 | _,.int _=>true
 | _,.str _=>true
 | n+1,.lst _ xs=>xs.all (dE n)
 | n+1,.tup xs=>xs.all (dE n)
 | _,_=>false
theorem Hb:∀(xs ys:List D),xs.length=ys.length->bH.fm xs ys=(aO xs.length).all λj=>bH (xs.getD j .aw) (ys.getD j .aw)
 | [],[],_=>rfl
 | x::xs,y::ys,h=>by
  rw[eJ,dg7,eL,kU]
  show(bH x y&&bH.fm xs ys)=_
  rw[Hb xs ys (by simpa using h)]
  rfl
theorem Hc:∀(xs ys:List D),xs.length≠ys.length->bH.fm xs ys=false
 | [],[],h=>absurd rfl h
 | [],_::_,_=>rfl
 | _::_,[],_=>rfl
 | x::xs,y::ys,h=>by
  show(bH x y&&bH.fm xs ys)=false
  rw[Hc xs ys (by simpa using h),Bool.and_false]
noncomputable def ofV:V->D
 | .bl b=>.bl b
 | .int i=>.int i
 | .str z=>.str z
 | _=>.aw
theorem zI{x:D}{v:V}(h:dE 0 x=true)(s:S F H [x] [v]):x=ofV v:=by
 cases s with
 | aw _=>rfl
 | bl _=>rfl
 | int _=>rfl
 | str _=>rfl
 | _=>cases h
theorem TK{x:D}(h:dE 0 x=true):bH x x=true:=by
 cases x with
 | aw=>rfl
 | bl b=>exact beq_self_eq_true b
 | int i=>exact beq_self_eq_true i
 | str z=>exact beq_self_eq_true z
 | _=>cases h
theorem pE{n:Nat}{x:D}(h:dE (n+1) x=true):dE 0 x=true\/(∃o xs,x=.lst o xs/\xs.all (dE n)=true)\/∃xs,x=.tup xs/\xs.all (dE n)=true:=by
 cases x with
 | lst o xs=>exact .inr (.inl ⟨o,xs,rfl,h⟩)
 | tup xs=>exact .inr (.inr ⟨xs,rfl,h⟩)
 | obj _ _ _=>exact absurd h fN
 | fz _=>exact absurd h fN
 | bL _=>exact absurd h fN
 | _=>exact .inl rfl
theorem Cs{x:D}{p:Addr}(h:dE 0 x=true)(s:S F H [x] [.ref p]):False:=by
 rw[zI h s]at s
 cases s
theorem TL:∀(n:Nat) {xs ys:List D} {vs:List V},xs.all (dE n)=true->ys.all (dE n)=true->S F H xs vs->S F H ys vs->ag F H->bH.fm xs ys=true:=by
 intro n xs
 induction n generalizing xs with
 | zero =>
  induction xs with
  | nil=>intro ys vs _ _ s1 s2 _;cases s1;cases s2;rfl
  | cons x xs ih =>
   intro ys vs h1 h2 s1 s2 e
   obtain⟨v,cE,rfl,q1,r1⟩:=s1.cP
   cases ys with
   | nil=>cases s2
   | cons y ys =>
    obtain⟨v',Th,ee,q2,r2⟩:=s2.cP
    obtain⟨rfl,rfl⟩:=mK ee
    rw[eL,dY]at h1 h2
    show(bH x y&&bH.fm xs ys)=true
    rw[ih h1.2 h2.2 r1 r2 e,jE,zI h2.1 q2,<- zI h1.1 q1]
    exact TK h1.1
 | succ n TM =>
  induction xs with
  | nil=>intro ys vs _ _ s1 s2 _;cases s1;cases s2;rfl
  | cons x xs ih =>
   intro ys vs h1 h2 s1 s2 e
   obtain⟨v,cE,rfl,q1,r1⟩:=s1.cP
   cases ys with
   | nil=>cases s2
   | cons y ys =>
    obtain⟨v',Th,ee,q2,r2⟩:=s2.cP
    obtain⟨rfl,rfl⟩:=mK ee
    rw[eL,dY]at h1 h2
    show(bH x y&&bH.fm xs ys)=true
    rw[ih h1.2 h2.2 r1 r2 e,jE]
    have h1:=h1.1
    have h2:=h2.1
    clear ih r1 r2 s1 s2
    rcases pE h1 with k1 | ⟨o1,a1,rfl,k1⟩ | ⟨a1,rfl,k1⟩
    ·rcases pE h2 with k2 | ⟨o2,a2,rfl,k2⟩ | ⟨a2,rfl,k2⟩
     ·rw[zI k2 q2,<- zI k1 q1]
      exact TK k1
     ·obtain⟨p,ws,rfl,_⟩:=iX q2 e
      exact(Cs k1 q1).elim
     ·obtain⟨p,ws,rfl,_⟩:=kz q2
      exact(Cs k1 q1).elim
    ·obtain⟨p,ws,rfl,e1,t1⟩:=iX q1 e
     rcases pE h2 with k2 | ⟨o2,a2,rfl,k2⟩ | ⟨a2,rfl,k2⟩
     ·exact(Cs k2 q2).elim
     ·obtain⟨p2,He,ev,e2,t2⟩:=iX q2 e
      cases ev
      cases e1.symm.trans e2
      exact TM k1 k2 t1 t2 e
     ·obtain⟨p2,He,ev,e2,t2⟩:=kz q2
      cases ev
      cases e1.symm.trans e2
    ·obtain⟨p,ws,rfl,e1,t1⟩:=kz q1
     rcases pE h2 with k2 | ⟨o2,a2,rfl,k2⟩ | ⟨a2,rfl,k2⟩
     ·exact(Cs k2 q2).elim
     ·obtain⟨p2,He,ev,e2,t2⟩:=iX q2 e
      cases ev
      cases e1.symm.trans e2
     ·obtain⟨p2,He,ev,e2,t2⟩:=kz q2
      cases ev
      cases e1.symm.trans e2
      exact TM k1 k2 t1 t2 e
end
end L3
namespace L3
open PySem L2 PySem.Spec PyProof.Rows
structure TN(A:Around)(s:Shared)(u w:Value)(b:Bool):Prop where
 rc:SeqAt.RcAt A s u w b
 ne:SeqAt.RcNeAt A s u w (!b)
 eq:Fe A s u w b
section
variable{X:Cx}{F H:Hp}{v w:V}
theorem TQ{xs:List V}{us:List Value}(r:Vals xs us){j:Nat}(h:j<us.toArray.size):∃x,xs[j]?=some x/\RelV x us.toArray[j]:=by
 have l:=r.length
 have hj:j<xs.length:=by rw[l];simpa using h
 obtain⟨u,e,q⟩:=r.get (aL hj)
 obtain⟨_,z⟩:=iB.mp e
 refine⟨_,aL hj,?_⟩
 have:us.toArray[j]=u:=by simpa using z
 rw[this];exact q
theorem TR{xs:List D}{j:Nat}{d:D}(h:xs[j]?=some d):xs.getD j .aw=d:=by rw[aI,h];rfl
theorem u7{x:D}{v:V}{u:Value}(h:dE 0 x=true)(s:S F H [x] [v])(r:RelV v u):(x=.aw/\u=.none)\/(∃b,x=.bl b/\u=.bool b)\/(∃i t,x=.int i/\u=.int i t)\/∃z t,x=.str z/\u=.str z t:=by
 cases s with
 | aw _=>cases r;exact .inl ⟨rfl,rfl⟩
 | bl _=>cases r;exact .inr (.inl ⟨_,rfl,rfl⟩)
 | int _=>obtain⟨t,rfl⟩:=r;exact .inr (.inr (.inl ⟨_,t,rfl,rfl⟩))
 | str _=>obtain⟨t,rfl⟩:=r;exact .inr (.inr (.inr ⟨_,t,rfl,rfl⟩))
 | _=>exact absurd h fN
theorem TU{x y:D}{u u':Value}{A:Around}{s:Shared}(h1:(x=.aw/\u=.none)\/(∃b,x=.bl b/\u=.bool b)\/(∃i t,x=.int i/\u=.int i t)\/∃z t,x=.str z/\u=.str z t)(h2:(y=.aw/\u'=.none)\/(∃b,y=.bl b/\u'=.bool b)\/(∃i t,y=.int i/\u'=.int i t)\/∃z t,y=.str z/\u'=.str z t):TN A s u u' (bH x y):=by
 rcases h1 with⟨rfl,rfl⟩ | ⟨a,rfl,rfl⟩ | ⟨a,t,rfl,rfl⟩ | ⟨a,t,rfl,rfl⟩<;>rcases h2 with⟨rfl,rfl⟩ | ⟨b,rfl,rfl⟩ | ⟨b,t',rfl,rfl⟩ | ⟨b,t',rfl,rfl⟩
 ·exact⟨.none_none,.none_none,.same _⟩
 ·exact⟨.none_bool _,.none_bool _,.none_bool _⟩
 ·exact⟨.none_int _ _,.none_int _ _,.none_int _ _⟩
 ·exact⟨.none_str _ _,.none_str _ _,.none_str _ _⟩
 ·exact⟨.bool_none _,.bool_none _,.bool_none _⟩
 ·exact⟨.bool_bool _ _,.bool_bool _ _,.bool_bool _ _⟩
 ·exact⟨.bool_int _ _ _,.bool_int _ _ _,.bool_int _ _ _⟩
 ·exact⟨.bool_str _ _ _,.bool_str _ _ _,.bool_str _ _ _⟩
 ·exact⟨.int_none _ _,.int_none _ _,.int_none _ _⟩
 ·exact⟨.int_bool _ _ _,.int_bool _ _ _,.int_bool _ _ _⟩
 ·exact⟨.int_int _ _ _ _,.int_int _ _ _ _,.int_int _ _ _ _⟩
 ·exact⟨.int_str _ _ _ _,.int_str _ _ _ _,.int_str _ _ _ _⟩
 ·exact⟨.str_none _ _,.str_none _ _,.str_none _ _⟩
 ·exact⟨.str_bool _ _ _,.str_bool _ _ _,.str_bool _ _ _⟩
 ·exact⟨.str_int _ _ _ _,.str_int _ _ _ _,.str_int _ _ _ _⟩
 ·exact⟨.str_str _ _ _ _,.str_str _ _ _ _,.str_str _ _ _ _⟩
theorem TV{pins:List (Addr × Obj)}{σ:L2.St}{s:Shared}(I:Inv X pins σ H s)(e:ag F H):∀(n:Nat) (x y:D) (v w:V) (u u':Value) (A:Around),dE n x=true->dE n y=true->S F H [x] [v]->S F H [y] [w]->RelV v u->RelV w u' ->
  A.units+n<cLine->TN A s u u' (bH x y):=by
 intro n
 induction n with
 | zero =>
  intro x y v w u u' A hx hy sx sy rv fW hu
  exact TU (u7 hx sx rv) (u7 hy sy fW)
 | succ n ih =>
  intro x y v w u u' A hx hy sx sy rv fW hu
  have bA:A.units<cLine:=mI (Nat.le_add_right ..) hu
  have TX:A.in1.units+n<cLine:=by show A.units+1+n<cLine;rw[Fs,Bp 1];exact hu
  have items:∀{xs ys:List D} {vs ws:List V} {us u9:List Value},xs.all (dE n)=true->ys.all (dE n)=true->S F H xs vs->S F H ys ws->Vals vs us->Vals ws u9 ->
    ∀j (h1:j<us.toArray.size) (h2:j<u9.toArray.size),Fe A.in1 s us.toArray[j] u9.toArray[j] (bH (xs.getD j .aw) (ys.getD j .aw)):=by
   intro xs ys vs ws us u9 hx hy sx sy r1 r2 j h1 h2
   obtain⟨a,e1,q1⟩:=TQ r1 h1
   obtain⟨b,e2,q2⟩:=TQ r2 h2
   obtain⟨d1,g1,t1⟩:=sx.get' e1
   obtain⟨d2,g2,t2⟩:=sy.get' e2
   rw[TR g1,TR g2]
   exact(ih d1 d2 a b _ _ A.in1 (cU.mp hx d1 (yo g1)) (cU.mp hy d2 (yo g2)) t1 t2 q1 q2 TX).eq
  clear ih hu TX
  rcases pE hx with k1 | ⟨o,xs,rfl,k1⟩ | ⟨xs,rfl,k1⟩
  ·have f:=u7 k1 sx rv
   rcases pE hy with k2 | ⟨o',ys,rfl,k2⟩ | ⟨ys,rfl,k2⟩
   ·exact TU f (u7 k2 sy fW)
   ·obtain⟨p',fk,rfl,e2,t2⟩:=iX sy e
    cases fW
    obtain⟨kD,r2,p2,z2⟩:=I.list (bK.of (K:=X.K) e2)
    have p2:=p2.isList
    rcases f with⟨rfl,rfl⟩ | ⟨a,rfl,rfl⟩ | ⟨a,t,rfl,rfl⟩ | ⟨a,t,rfl,rfl⟩
    ·exact⟨.none_list p2 bA,.none_list p2 bA,.none_list p2 bA⟩
    ·exact⟨.bool_list _ p2 bA,.bool_list _ p2 bA,.bool_list _ p2 bA⟩
    ·exact⟨.int_list _ _ p2 bA,.int_list _ _ p2 bA,.int_list _ _ p2 bA⟩
    ·exact⟨.str_list _ _ p2 bA,.str_list _ _ p2 bA,.str_list _ _ p2 bA⟩
   ·obtain⟨p',fk,rfl,e2,t2⟩:=kz sy
    cases fW
    obtain⟨kD,r2,p2,z2⟩:=I.tuple (gQ.of (K:=X.K) e2)
    rcases f with⟨rfl,rfl⟩ | ⟨a,rfl,rfl⟩ | ⟨a,t,rfl,rfl⟩ | ⟨a,t,rfl,rfl⟩
    ·exact⟨.none_tuple p2 bA,.none_tuple p2 bA,.none_tuple p2 bA⟩
    ·exact⟨.bool_tuple _ p2 bA,.bool_tuple _ p2 bA,.bool_tuple _ p2 bA⟩
    ·exact⟨.int_tuple _ _ p2 bA,.int_tuple _ _ p2 bA,.int_tuple _ _ p2 bA⟩
    ·exact⟨.str_tuple _ _ p2 bA,.str_tuple _ _ p2 bA,.str_tuple _ _ p2 bA⟩
  ·obtain⟨p,ws,rfl,e1,t1⟩:=iX sx e
   cases rv
   obtain⟨its,r1,p1,z1⟩:=I.list (bK.of (K:=X.K) e1)
   have p1:=p1.isList
   rcases pE hy with k2 | ⟨o',ys,rfl,k2⟩ | ⟨ys,rfl,k2⟩
   ·rcases u7 k2 sy fW with⟨rfl,rfl⟩ | ⟨a,rfl,rfl⟩ | ⟨a,t,rfl,rfl⟩ | ⟨a,t,rfl,rfl⟩
    ·exact⟨.list_none p1 bA,.list_none p1 bA,.list_none p1 bA⟩
    ·exact⟨.list_bool _ p1 bA,.list_bool _ p1 bA,.list_bool _ p1 bA⟩
    ·exact⟨.list_int _ _ p1 bA,.list_int _ _ p1 bA,.list_int _ _ p1 bA⟩
    ·exact⟨.list_str _ _ p1 bA,.list_str _ _ p1 bA,.list_str _ _ p1 bA⟩
   ·obtain⟨p',fk,rfl,e2,t2⟩:=iX sy e
    cases fW
    obtain⟨kD,r2,p2,z2⟩:=I.list (bK.of (K:=X.K) e2)
    have p2:=p2.isList
    have su:xs.length=its.length:=t1.length.trans r1.length
    have va:ys.length=kD.length:=t2.length.trans r2.length
    by_cases hl:xs.length=ys.length
    ·have lH:its.toArray.size=kD.toArray.size:=by rw[dw,dw,<- su,<- va];exact hl
     have ev:(aO its.toArray.size).all (λj=>bH (xs.getD j .aw) (ys.getD j .aw))=bH (.lst o xs) (.lst o' ys):=by
      show _=bH.fm xs ys
      rw[Hb xs ys hl,dw,<- su]
     have a:=SeqAt.RcAt.lists (e:=λj=>bH (xs.getD j .aw) (ys.getD j .aw)) p1 p2 lH bA (items k1 k2 t1 t2 r1 r2)
     have b:=SeqAt.RcNeAt.lists (e:=λj=>bH (xs.getD j .aw) (ys.getD j .aw)) p1 p2 lH bA (items k1 k2 t1 t2 r1 r2)
     rw[ev]at a b
     refine⟨a,b,?_⟩
     by_cases sA:p=p'
     ·subst sA
      cases e1.symm.trans e2
      rw[show bH (.lst o xs) (.lst o' ys)=true from TL n k1 k2 t1 t2 e]
      exact .same _
     ·exact .of_refs sA a
    ·have lH:(its.toArray.size != kD.toArray.size)=true:=bne_iff_ne.mpr (by rw[dw,dw,<- su,<- va];exact hl)
     rw[show bH (.lst o xs) (.lst o' ys)=false from Hc xs ys hl]
     have a:=SeqAt.RcAt.lists_lengths p1 p2 lH bA
     refine⟨a,SeqAt.RcNeAt.lists_lengths p1 p2 lH bA,.of_refs (λsA=>?_) a⟩
     subst sA
     cases e1.symm.trans e2
     exact hl (t1.length.trans t2.length.symm)
   ·obtain⟨p',fk,rfl,e2,t2⟩:=kz sy
    cases fW
    obtain⟨kD,r2,p2,z2⟩:=I.tuple (gQ.of (K:=X.K) e2)
    exact⟨.list_tuple p1 p2 bA,.list_tuple p1 p2 bA,.list_tuple p1 p2 bA⟩
  ·obtain⟨p,ws,rfl,e1,t1⟩:=kz sx
   cases rv
   obtain⟨its,r1,p1,z1⟩:=I.tuple (gQ.of (K:=X.K) e1)
   rcases pE hy with k2 | ⟨o',ys,rfl,k2⟩ | ⟨ys,rfl,k2⟩
   ·rcases u7 k2 sy fW with⟨rfl,rfl⟩ | ⟨a,rfl,rfl⟩ | ⟨a,t,rfl,rfl⟩ | ⟨a,t,rfl,rfl⟩
    ·exact⟨.tuple_none p1 bA,.tuple_none p1 bA,.tuple_none p1 bA⟩
    ·exact⟨.tuple_bool _ p1 bA,.tuple_bool _ p1 bA,.tuple_bool _ p1 bA⟩
    ·exact⟨.tuple_int _ _ p1 bA,.tuple_int _ _ p1 bA,.tuple_int _ _ p1 bA⟩
    ·exact⟨.tuple_str _ _ p1 bA,.tuple_str _ _ p1 bA,.tuple_str _ _ p1 bA⟩
   ·obtain⟨p',fk,rfl,e2,t2⟩:=iX sy e
    cases fW
    obtain⟨kD,r2,p2,z2⟩:=I.list (bK.of (K:=X.K) e2)
    have p2:=p2.isList
    exact⟨.tuple_list p1 p2 bA,.tuple_list p1 p2 bA,.tuple_list p1 p2 bA⟩
   ·obtain⟨p',fk,rfl,e2,t2⟩:=kz sy
    cases fW
    obtain⟨kD,r2,p2,z2⟩:=I.tuple (gQ.of (K:=X.K) e2)
    have su:xs.length=its.length:=t1.length.trans r1.length
    have va:ys.length=kD.length:=t2.length.trans r2.length
    have ev:((aO (min its.toArray.size kD.toArray.size)).all (λj=>bH (xs.getD j .aw) (ys.getD j .aw))&&its.toArray.size==kD.toArray.size)=bH (.tup xs) (.tup ys):=by
     show _=bH.fm xs ys
     rw[dw,dw,<- su,<- va]
     by_cases hl:xs.length=ys.length
     ·rw[Hb xs ys hl,<- hl,uq,beq_self_eq_true,jE]
     ·rw[Hc xs ys hl,beq_false_of_ne hl,Bool.and_false]
    have a:=SeqAt.RcAt.tuples (e:=λj=>bH (xs.getD j .aw) (ys.getD j .aw)) p1 p2 bA (items k1 k2 t1 t2 r1 r2)
    have b:=SeqAt.RcNeAt.tuples (e:=λj=>bH (xs.getD j .aw) (ys.getD j .aw)) p1 p2 bA (items k1 k2 t1 t2 r1 r2)
    rw[ev]at a b
    refine⟨a,b,?_⟩
    by_cases sA:p=p'
    ·subst sA
     cases e1.symm.trans e2
     rw[show bH (.tup xs) (.tup ys)=true from TL n k1 k2 t1 t2 e]
     exact .same _
    ·exact .of_refs sA a
noncomputable def sC:cL:=λx y Q=>(dE 6 x=true/\dE 6 y=true)/\Q (.bl (bH x y))
noncomputable def sD:cL:=λx y Q=>(dE 6 x=true/\dE 6 y=true)/\Q (.bl (!bH x y))
theorem eG(hu:X.A.units+6<cLine):bR X (compareOp .Eq) sC:=bR.of λpins s σ H v w u u' Q I rv fW zz=>by
 obtain⟨B,F,aF,δ,ts,x,y,Qd,c,sx,sy,⟨⟨hx,hy⟩,q⟩,k⟩:=zz
 exact(TV I c.ext 6 x y v w u u' X.A hx hy sx sy rv fW hu).rc _ _ _ _ ⟨.bl _,H,I,rfl,k _ _ _ q (ag.refl _) (c.pushS (.bl .nil) rfl)⟩
theorem nu(hu:X.A.units+6<cLine):bR X (compareOp .NotEq) sD:=bR.of λpins s σ H v w u u' Q I rv fW zz=>by
 obtain⟨B,F,aF,δ,ts,x,y,Qd,c,sx,sy,⟨⟨hx,hy⟩,q⟩,k⟩:=zz
 exact(TV I c.ext 6 x y v w u u' X.A hx hy sx sy rv fW hu).ne _ _ _ _ ⟨.bl _,H,I,rfl,k _ _ _ q (ag.refl _) (c.pushS (.bl .nil) rfl)⟩
end
end L3
namespace L3
open PySem L2 PySem.Spec PyProof.Rows
section
variable{X:Cx}{F H:Hp}{v w:V}{e a b c o:Expr}{es:List Expr}{pos p p2 apos cg:Pos}{t ta tb tc te:aQ}{tr:cG}{x:Str}
theorem cb4{r r':R2}{rd zJ:cL}(hl:Cg r rd)(yS:Cg r' zJ):∀σ H Q,lE (oV rd zJ ta tb tc) σ H Q->RY r r' (lB ta) (lB tb) (lB tc) σ H Q:=λσ H Q ⟨B,F,δ,ts,Qd,c,q,k⟩ =>
 ⟨B,F,δ,ts,_,c,q,λx aq v F1 H1 q1 f1 h1 c1 s1=>⟨B,F1,aq,ts,_,c1,q1,λy aU w F2 H2 q2 f2 h2 c2 s2=>by
  refine hl c2 (s1.mono f2 h2) s2 q2 λd z H' hd hs c3=>?_
  obtain⟨b,rfl,qb⟩:=hd
  have st:=c3.top
  cases st with
  | bl _ =>
   refine⟨b,rfl,?_⟩
   cases b with
   | true =>
    refine oM ⟨B,F2,aU,ts,_,c3.pop,by simpa using qb,λz ir w3 F3 H3 q3 f3 h3 c4 s3=>?_⟩
    exact yS c4 (s2.mono f3 (hs.trans h3)) s3 q3 λd z H' hd hs' c5=>k d ir z F3 H' hd ((f1.trans f2).trans f3) ((((h1.trans h2).trans hs).trans h3).trans hs') c5
   | false=>exact lM (k _ aU _ F2 H' (by simpa using qb) (f1.trans f2) ((h1.trans h2).trans hs) (c3.pop.pushS (.bl .nil) rfl))⟩⟩
theorem Hf{op qX:CmpOp}{rd zJ:cL}(ho:bR X (compareOp op) rd)(j9:bR X (compareOp qX) zJ)(ha:PE X a (lB ta))(hb:PE X b (lB tb))(hc:PE X c (lB tc))
  (hm:lastMarks [op,qX] [b,c]=false:=by with_unfolding_all rfl):PE X (.Compare a [op,qX] [b,c] pos) (lE (oV rd zJ ta tb tc)):=by
 obtain⟨r,h1,h2⟩:=ho
 obtain⟨r',jN,jh⟩:=j9
 exact dz (cp3 h1 jN ha hb hc hm) (cb4 h2 jh)
noncomputable def sE(t:aQ):aQ:=λδ Q=>t δ λd ah=>match d with
 | .int i=>Q (.int (-i)) ah
 | _=>False
theorem TY(ha:PE X a (lB ta)):PE X (.UnaryOp .USub a pos) (lE (sE ta)):=dz (cZ1 cM6 ha) λσ H Q ⟨B,F,δ,ts,Qd,c,q,k⟩=>⟨B,F,δ,ts,_,c,q,λd aq v F1 H1 q1 f1 h1 c1 s1=>by
 cases s1 with
 | int _=>exact⟨_,rfl,k _ aq _ F1 H1 q1 f1 h1 (c1.pushS (.int .nil) rfl)⟩
 | _=>exact q1.elim⟩
noncomputable abbrev iY:=List D->(D->Prop)->Prop
noncomputable def lc(rd:iY):List V->Hp->VK->Prop:=λvs H Q=>∃B F σ δ ts ds Qd,au B F H σ δ ts/\S F H ds vs/\rd ds Qd/\∀d z H',Qd d->ag H H'->au B F H' σ δ ((d,z)::ts)->Q z H'
noncomputable def gv(X:Cx)(f:Value)(rd:iY):Prop:=gq X f (lc rd)
theorem gv.of{f:Value}{r:List V->Hp->VK->Prop}{rd:iY}(h:gq X f r)(m:∀vs H Q,lc rd vs H Q->r vs H Q):gv X f rd:=λpins s σ H xs us Q I r q=>h pins s σ H xs us Q I r (m xs H Q q)
noncomputable def lY(rd:iY)(t:cG):aQ:=λδ Q=>t δ λds ah=>rd ds λd=>Q d ah
theorem TZ{rd:iY}:∀σ H Q,lE (lY rd tr) σ H Q->Gi (lc rd) (lA tr) σ H Q:=λσ H Q ⟨B,F,δ,ts,Qd,c,q,k⟩=>⟨B,F,δ,ts,_,c,q,λds aq vs F1 H1 q1 f1 h1 c1 s1 =>
 ⟨B,F1,σ,aq,ts,ds,_,c1,s1,q1,λd z H' hd hs c'=>k d aq z F1 H' hd f1 (h1.trans hs) c'⟩⟩
theorem cu{id:String}{rd:iY}(hc:gv X (.builtin id) rd)(hg:Gl X x)(hm:X.mg x=none)(hv:bootBuiltins x=some (.builtin id))(ha:PA X (e::es) (lA tr))(hn:x≠"__name__":=by decide)(e7:(x==("__debug__":Str))=false:=by decide)
  (he:starEach (e::es) X.env=(false,eval e X.env)::starEach es X.env:=by rfl) (bG:(backTo pos (starEach es X.env)).any (·.1)=false:=by rfl):PE X (.Call (.Name x p) (e::es) [] pos) (lE (lY rd tr)) :=
 dz (Sb hc hg hm hv ha hn e7 he bG) TZ
theorem zK{T:String}{rd:iY}(hc:gv X (.type T) rd)(hg:Gl X x)(hm:X.mg x=none)(hv:bootBuiltins x=some (.type T))(ha:PA X (e::es) (lA tr))(hn:x≠"__name__":=by decide)(e7:(x==("__debug__":Str))=false:=by decide)
  (he:starEach (e::es) X.env=(false,eval e X.env)::starEach es X.env:=by rfl) (bG:(backTo pos (starEach es X.env)).any (·.1)=false:=by rfl):PE X (.Call (.Name x p) (e::es) [] pos) (lE (lY rd tr)) :=
 dz (b68 hc hg hm hv ha hn e7 he bG) TZ
theorem jS{d:D}{vs:List V}(s:S F H [d] vs):∃v,vs=[v]/\S F H [d] [v]:=by
 obtain⟨v,cE,rfl,h1,h2⟩:=s.cP
 cases h2
 exact⟨v,rfl,h1⟩
theorem cW7{d d':D}{vs:List V}(s:S F H [d,d'] vs):∃v v',vs=[v,v']/\S F H [d] [v]/\S F H [d'] [v']:=by
 obtain⟨v,cE,rfl,h1,h2⟩:=s.cP
 obtain⟨v',rfl,h3⟩:=jS h2
 exact⟨v,v',rfl,h1,h3⟩
theorem jT{K:PySem.W.Frag}{p:Addr}{ws:List V}(h:Rd H p (.lst ws)):bK K H p ws:=.inl h
noncomputable def pF:iY:=λds Q=>match ds with
 | [.lst _ xs]=>Q (.int xs.length)
 | [.fz xs]=>Q (.int xs.length)
 | [.tup xs]=>Q (.int xs.length)
 | [.str z]=>z.length<=sizeLine/\Q (.int z.length)
 | _=>False
theorem dq:gv X (.builtin "len") pF:=gv.of (dx8.or bJ8) λvs H Q zz=>by
 obtain⟨B,F,σ,δ,ts,ds,Qd,c,s,q,k⟩:=zz
 unfold pF at q
 split at q
 ·obtain⟨v,rfl,s1⟩:=jS s
  obtain⟨p,ws,rfl,h,t⟩:=kA s1 c.ext rfl
  refine .inl ⟨p,ws,rfl,.inl (jT h),?_⟩
  rw[<-t.length]
  exact k _ _ _ q (ag.refl _) (c.pushS (.int .nil) rfl)
 ·obtain⟨v,rfl,s1⟩:=jS s
  obtain⟨p,ws,rfl,h,t⟩:=kA s1 c.ext rfl
  refine .inl ⟨p,ws,rfl,.inl (jT h),?_⟩
  rw[<-t.length]
  exact k _ _ _ q (ag.refl _) (c.pushS (.int .nil) rfl)
 ·obtain⟨v,rfl,s1⟩:=jS s
  obtain⟨p,ws,rfl,h,t⟩:=kz s1
  refine .inl ⟨p,ws,rfl,.inr (gQ.of h),?_⟩
  rw[<-t.length]
  exact k _ _ _ q (ag.refl _) (c.pushS (.int .nil) rfl)
 ·obtain⟨v,rfl,s1⟩:=jS s
  cases s1
  exact .inr ⟨_,rfl,q.1,k _ _ _ q.2 (ag.refl _) (c.pushS (.int .nil) rfl)⟩
 ·exact q.elim
noncomputable def pG:iY:=λds Q=>match ds with
 | [.lst _ xs]=>xs.all D.pl=true/\Q (.lst true xs)
 | [.fz xs]=>Q (.lst true xs)
 | [.tup xs]=>xs.all D.pl=true/\Q (.lst true xs)
 | _=>False
theorem zL:gv X (.type "list") pG:=gv.of bK9 λvs H Q zz=>by
 obtain⟨B,F,σ,δ,ts,ds,Qd,c,s,q,k⟩:=zz
 unfold pG at q
 split at q
 ·obtain⟨v,rfl,s1⟩:=jS s
  obtain⟨p,ws,rfl,h,t⟩:=kA s1 c.ext rfl
  exact⟨p,ws,rfl,.inl (jT h),λl hl=>k _ _ _ q.2 (ag.upd hl) (c.nh hl t q.1)⟩
 ·obtain⟨v,rfl,s1⟩:=jS s
  cases s1 with
  | fz h r _=>exact⟨_,_,rfl,.inl (jT (.inr ⟨_,c.ext _ _ h⟩)),λl hl=>k _ _ _ q (ag.upd hl) (c.nh hl r.s r.pl)⟩
 ·obtain⟨v,rfl,s1⟩:=jS s
  obtain⟨p,ws,rfl,h,t⟩:=kz s1
  exact⟨p,ws,rfl,.inr (gQ.of h),λl hl=>k _ _ _ q.2 (ag.upd hl) (c.nh hl t q.1)⟩
 ·exact q.elim
noncomputable def ii(g:Int->Int->Int):iY:=λds Q=>match ds with
 | [.int i,.int j]=>Q (.int (g i j))
 | _=>False
theorem T1{f:Value}{g:Int->Int->Int}(h:gq X f (λxs H Q=>∃i j,xs=[.int i,.int j]/\Q (.int (g i j)) H)):gv X f (ii g):=gv.of h λvs H Q zz=>by
 obtain⟨B,F,σ,δ,ts,ds,Qd,c,s,q,k⟩:=zz
 unfold ii at q
 split at q
 ·obtain⟨v,v',rfl,s1,s2⟩:=cW7 s
  cases s1;cases s2
  exact⟨_,_,rfl,k _ _ _ q (ag.refl _) (c.pushS (.int .nil) rfl)⟩
 ·exact q.elim
theorem cV4(hc:X.calm=true):gv X (.builtin "max") (ii λi j=>if j>i then j else i):=T1 (cc3 hc)
theorem Hg(hc:X.calm=true):gv X (.builtin "min") (ii λi j=>if j<i then j else i):=T1 (b88 hc)
noncomputable def sF(bs:List Bool):List D:=bs.map D.bl
theorem Hh:∀{bs:List Bool} {ws:List V},S F H (sF bs) ws->ws=bs.map V.bl
 | [],_,s=>by cases s;rfl
 | b::bs,_,s=>by
  cases s with
  | bl s=>rw[Hh s];rfl
noncomputable def pH:iY:=λds Q=>match ds with
 | [.lst _ xs]=>∃bs,xs=sF bs/\Q (.bl (bs.all id))
 | _=>False
noncomputable def pI:iY:=λds Q=>match ds with
 | [.lst _ xs]=>∃bs,xs=sF bs/\Q (.bl (bs.any id))
 | _=>False
theorem Hi(hc:X.calm=true):gv X (.builtin "all") pH:=gv.of (ck6 hc) λvs H Q zz=>by
 obtain⟨B,F,σ,δ,ts,ds,Qd,c,s,q,k⟩:=zz
 unfold pH at q
 split at q
 ·obtain⟨v,rfl,s1⟩:=jS s
  obtain⟨bs,rfl,q⟩:=q
  obtain⟨p,ws,rfl,h,t⟩:=kA s1 c.ext rfl
  rw[Hh t]at h
  exact⟨p,bs,rfl,jT h,k _ _ _ q (ag.refl _) (c.pushS (.bl .nil) rfl)⟩
 ·exact q.elim
theorem c02(hc:X.calm=true):gv X (.builtin "any") pI:=gv.of (cr2 hc) λvs H Q zz=>by
 obtain⟨B,F,σ,δ,ts,ds,Qd,c,s,q,k⟩:=zz
 unfold pI at q
 split at q
 ·obtain⟨v,rfl,s1⟩:=jS s
  obtain⟨bs,rfl,q⟩:=q
  obtain⟨p,ws,rfl,h,t⟩:=kA s1 c.ext rfl
  rw[Hh t]at h
  exact⟨p,bs,rfl,jT h,k _ _ _ q (ag.refl _) (c.pushS (.bl .nil) rfl)⟩
 ·exact q.elim
noncomputable def Hj:D->Option String
 | .int _=>some "int"
 | .bl _=>some "bool"
 | .aw=>some "NoneType"
 | .str _=>some "str"
 | .lst _ _=>some "list"
 | .fz _=>some "list"
 | .tup _=>some "tuple"
 | _=>none
noncomputable def Hk(k n:String):Option Bool:=([("int","int",true),("int","bool",false),("int","list",false),("int","tuple",false),("int","str",false),("bool","int",true),("bool","bool",true),("bool","list",false),("bool","tuple",false),("bool","str",false),
 ("NoneType","int",false),("NoneType","bool",false),("NoneType","list",false),("NoneType","tuple",false),("NoneType","str",false),("str","int",false),("str","bool",false),("str","list",false),("str","tuple",false),("str","str",true),
 ("list","int",false),("list","bool",false),("list","list",true),("list","tuple",false),("list","str",false),("tuple","int",false),("tuple","bool",false),("tuple","list",false),("tuple","tuple",true),("tuple","str",false)].find? λz=>z.1==k&&z.2.1==n).map (·.2.2)
noncomputable def lZ(n:String)(d:D):Option Bool:=(Hj d).bind λk=>Hk k n
theorem cN5{K:PySem.W.Frag}{k n:String}{r:Bool}(h:Hk k n=some r):PySem.W.kitOne K (.type k) (.type n)=some r:=by
 unfold Hk at h
 obtain⟨z,hz,rfl⟩:=ur.mp h
 have hm:=dg8 hz
 have hp:=List.find?_some hz
 rw[dY,beq_iff_eq,beq_iff_eq]at hp
 obtain⟨rfl,rfl⟩:=hp
 simp only[bY,ib,or_false]at hm
 repeat' (rcases hm with hm | hm)
 all_goals rfl
theorem cI6{K:PySem.W.Frag}{d:D}(s:S F H [d] [v])(e:ag F H){k:String}(h:Hj d=some k):ij K H v (.type k):=by
 cases s with
 | int _=>cases h;exact .int _
 | bl _=>cases h;exact .bl _
 | aw _=>cases h;exact .aw
 | str _=>cases h;exact .str _
 | shr h' _ _=>cases h;exact .lst (e _ _ h')
 | own h' _ _=>cases h;exact .lst h'
 | fz h' _ _=>cases h;exact .ck (e _ _ h')
 | tup h' _ _=>cases h;exact .tup h'
 | obj _ _ _ _=>cases h
 | bL _ _=>cases h
theorem cX5{K:PySem.W.Frag}{d:D}(s:S F H [d] [v])(e:ag F H){n:String}{r:Bool}(h:lZ n d=some r):∃t,ij K H v t/\PySem.W.kitOne K t (.type n)=some r:=by
 unfold lZ at h
 cases hk:Hj d with
 | none=>rw[hk]at h;cases h
 | some k=>rw[hk]at h;exact⟨_,cI6 s e hk,cN5 h⟩
noncomputable def sG(n:String)(t:aQ):aQ:=λδ Q=>t δ λd ah=>∃r,lZ n d=some r/\Q (.bl r) ah
theorem Hl{n:String}{y:Str}{q:Pos}(hg:Gl X "isinstance")(hm:X.mg "isinstance"=none)(zM:Gl X y)(vb:X.mg y=none)(hv2:bootBuiltins y=some (.type n))(ha:PE X a (lB ta))
  (hn:y≠"__name__":=by decide) (hd:(y==("__debug__":Str))=false:=by decide)
  (hs:starEach [a,.Name y q] X.env=(false,eval a X.env)::starEach [.Name y q] X.env:=by rfl) (gk:starEach [.Name y q] X.env=(false,eval (.Name y q) X.env)::starEach [] X.env:=by rfl) (bG:(backTo pos (starEach [.Name y q] X.env)).any (·.1)=false:=by rfl) :
  PE X (.Call (.Name "isinstance" p) [a,.Name y q] [] pos) (lE (sG n ta)) :=
 dz (Sb bw0 hg hm bF2 (fV ha (fV (cX7 zM vb hv2 hn hd) jL gk) hs) (by decide) (by decide) hs bG) λσ H Q ⟨B,F,δ,ts,Qd,c,q,k⟩=>⟨B,F,δ,ts,_,c,q,λd aq v F1 H1 q1 f1 h1 c1 s1=>by
  obtain⟨r,e,qr⟩:=q1
  obtain⟨t,h2,h3⟩:=cX5 (K:=X.K) s1 c1.ext e
  exact⟨v,n,t,r,rfl,h2,h3,k _ aq _ F1 H1 qr f1 h1 (c1.pushS (.bl .nil) rfl)⟩⟩
theorem Hm{xs:List D}{ws:List V}{i:Int}{d:D}(s:S F H xs ws)(h:eB xs i=some d):∃v,eB ws i=some v/\S F H [d] [v]:=by
 unfold eB at h ⊢
 rw[<-s.length]
 cases e:iq xs.length i with
 | none=>rw[e]at h;cases h
 | some j =>
  rw[e]at h
  exact s.get h
noncomputable def pJ(x y:D)(Q:D->Prop):Prop:=match x,y with
 | .lst _ xs,.int i=>∃d,eB xs i=some d/\Q d
 | .fz xs,.int i=>∃d,eB xs i=some d/\Q d
 | .tup xs,.int i=>∃d,eB xs i=some d/\Q d
 | .str z,.int i=>z.length<=sizeLine/\∃ch,eB z.cps.toList i=some ch/\Q (.str ⟨#[ch]⟩)
 | _,_=>False
noncomputable def sH(ta tb:aQ):aQ:=λδ Q=>ta δ λx aq=>tb aq λy aU=>pJ x y λd=>Q d aU
theorem bq(ha:PE X a (lB ta))(hb:PE X b (lB tb))(hs:Se b):PE X (.Subscript a b pos) (lB (sH ta tb)) :=
 dz (c00 cS5 ha hb hs) λσ H Q ⟨B,F,δ,ts,Qd,c,q,k⟩=>⟨B,F,δ,ts,_,c,q,λx aq v F1 H1 q1 f1 h1 c1 s1=>⟨B,F1,aq,ts,_,c1,q1,λy aU w F2 H2 q2 f2 h2 c2 s2=>by
  have nv:=s1.mono f2 h2
  have fin:∀d z,Qd d aU->S F2 H2 [d] [z]->Q z H2:=λd z hd s=>k d aU z F2 H2 hd (f1.trans f2) (h1.trans h2) c2 s
  unfold pJ at q2
  split at q2
  ·obtain⟨d,ed,qd⟩:=q2
   cases s2
   obtain⟨p,ws,rfl,h,t⟩:=kA nv c2.ext rfl
   obtain⟨z,ez,sz⟩:=Hm t ed
   exact .inl ⟨p,ws,_,z,rfl,rfl,jT h,ez,fin d z qd sz⟩
  ·obtain⟨d,ed,qd⟩:=q2
   cases s2
   obtain⟨p,ws,rfl,h,t⟩:=kA nv c2.ext rfl
   obtain⟨z,ez,sz⟩:=Hm t ed
   exact .inl ⟨p,ws,_,z,rfl,rfl,jT h,ez,fin d z qd sz⟩
  ·obtain⟨d,ed,qd⟩:=q2
   cases s2
   obtain⟨p,ws,rfl,h,t⟩:=kz nv
   obtain⟨z,ez,sz⟩:=Hm t ed
   exact .inr (.inl ⟨p,ws,_,z,rfl,rfl,gQ.of h,ez,fin d z qd sz⟩)
  ·obtain⟨hz,ch,ec,qc⟩:=q2
   cases nv
   cases s2
   exact .inr (.inr ⟨_,_,ch,rfl,rfl,hz,ec,fin _ _ qc (.str .nil)⟩)
  ·exact q2.elim⟩⟩
noncomputable abbrev vd:=Dl->(Option Int->Dl->Prop)->Prop
noncomputable def lP(t:vd):TO:=λσ H Q=>∃B F δ ts Qd,au B F H σ δ ts/\t δ Qd/\∀o ah F' H',Qd o ah->ag F F'->ag H H'->au B F' H' σ ah ts->Q o H'
theorem T2{oe:Option Expr}{u u':TO}(h:PO X oe u)(m:∀σ H Q,u' σ H Q->u σ H Q):PO X oe u':=λpins s σ H Q I q=>h pins s σ H Q I (m σ H Q q)
noncomputable def sI:vd:=λδ Q=>Q none δ
noncomputable def sJ(t:aQ):vd:=λδ Q=>t δ λd ah=>match d with
 | .int i=>Q (some i) ah
 | _=>False
theorem Ho:PO X none (lP sI):=T2 cF3 λσ H Q ⟨B,F,δ,ts,Qd,c,q,k⟩=>k none δ F H q (ag.refl _) (ag.refl _) c
theorem Hq(h:PE X e (lB t)):PO X (some e) (lP (sJ t)):=T2 (cH8 h) λσ H Q ⟨B,F,δ,ts,Qd,c,q,k⟩=>⟨B,F,δ,ts,_,c,q,λd aq v F1 H1 q1 f1 h1 c1 s1=>by
 cases s1 with
 | int _=>exact⟨_,rfl,k _ aq F1 H1 q1 f1 h1 c1⟩
 | _=>exact q1.elim⟩
noncomputable def fq{α:Type}(xs:List α)(lo hi:Option Int):List α:=(xs.drop (HT.cV xs.length 0 lo)).take (HT.cV xs.length xs.length hi-HT.cV xs.length 0 lo)
theorem S.cut{xs:List D}{ws:List V}(s:S F H xs ws)(lo hi:Option Int):S F H (fq xs lo hi) (uN ws lo hi):=by
 unfold fq uN
 rw[<-s.length]
 exact(s.drop _).take _
theorem T3{xs:List D}{p:D->Bool}(h:xs.all p=true)(lo hi:Option Int):(fq xs lo hi).all p=true:=by
 rw[cU]at h ⊢
 intro x hx
 exact h x (Bw (yt hx))
noncomputable def sM(t:aQ):aQ:=λδ Q=>t δ λd ah=>match d with
 | .int i=>Q (.int (Mf.bl i.natAbs:Nat)) ah
 | _=>False
theorem ny(ho:PE X o (lB t))(kh:attributeBase o "bit_length" X.env (eval o X.env)=eval o X.env:=by rfl)(ki:(apos.endLine==cg.line)=true:=by rfl):PE X (.Call (.Attribute o "bit_length" apos) [] [] cg) (lE (sM t)) :=
 dz (GH ho kh ki) λσ H Q ⟨B,F,δ,ts,Qd,c,q,k⟩=>⟨B,F,δ,ts,_,c,q,λd aq v F1 H1 q1 f1 h1 c1 s1=>by
  cases s1 with
  | int _=>exact⟨rfl,_,rfl,rfl,k _ aq _ F1 H1 q1 f1 h1 (c1.pushS (.int .nil) rfl)⟩
  | _=>exact q1.elim⟩
end
end L3
namespace L3
open PySem L2 PySem.Spec PyProof.Rows
section
variable{X:Cx}{F H:Hp}{v w:V}{e a b c o tg:Expr}{es:List Expr}{pos p p2 apos cg pos':Pos}{t ta tb tc te ti:aQ}{tr:cG}{x:Str}{i:Nat}
noncomputable def sN(i:Nat)(t:aQ):cQ:=λD δ=>(∃xs,δ[i]?=some (some (.lst true xs)))/\t δ λd ah=>∃xs,ah[i]?=some (some (.lst true xs))/\xs.length<sizeLine/\D.nx (ah.set i (some (.lst true (xs++[d]))))
theorem zN(hN:X.N[i]?=some x)(hv:lh X.env.scope x)(he:PE X e (lE t))(hd:(x==("__debug__":Str))=false:=by decide)(cO:(x==("__classdict__":Str))=false:=by decide)
  (kh:attributeBase (.Name x p) "append" X.env (eval (.Name x p) X.env)=eval (.Name x p) X.env:=by rfl)
  (Gs:((backTo cg (starEach [e] X.env)).all (λx=>!x.1)&&(backToKw cg (keywordEach [] X.env)).all (λx=>x.1.isSome)
   && decide ([e].length+([]:List Keyword).length+(if([]:List Keyword).isEmpty then 0 else 1)<30))=true:=by rfl)
  (ki:(apos.endLine==cg.line)=true:=by rfl) (hs:starEach [e] X.env=(false,eval e X.env)::starEach [] X.env:=by rfl) (Gu:(backTo cg (starEach [] X.env)).any (·.1)=false:=by rfl)
  (sO:swapsWith (.Call (.Attribute (.Name x p) "append" apos) [e] [] cg) none pos.line X.env=pure false:=by rfl) :
  PS X (.Expr (.Call (.Attribute (.Name x p) "append" apos) [e] [] cg) pos) (lS X (sN i t)) :=
 lR (BV (cY6 PySem.F.plainAttrs_list PySem.F.slot_list_append PySem.F.type_list_append Sr (qT hN hv hd cO) (fV he jL hs) kh Gs ki hs Gu) sO) λEn σ H zz=>by
  obtain⟨B,F,δ,Dd,c,⟨⟨ys,ey⟩,q⟩,k1,k2,k3,k4⟩:=zz
  obtain⟨p0,uW,g1,g2,g3⟩:=c.ownAt ey
  refine⟨.ref p0,g1,.inl ⟨rfl,_,bK.of g2⟩,B,F,δ,[],_,c,q,λd ah v F' H' hd sf sh c'=>?_⟩
  obtain⟨xs,ex,hl,hn⟩:=hd
  obtain⟨p1,ws,r1,r2,r3⟩:=c'.ownAt ex
  rw[g1]at r1;cases r1
  exact⟨p0,ws,v,rfl,rfl,r2,by omega,k1 _ _ F' _ hn (c'.app ex g1 r2)⟩
noncomputable def sP(i:Nat)(te ti:aQ):cQ:=λD δ=>te δ λd aq=>∃ys,aq[i]?=some (some (.lst true ys))/\oS ti aq λk aU=>match k with
 | .int n=>∃xs j,aU[i]?=some (some (.lst true xs))/\iq xs.length n=some j/\D.nx (aU.set i (some (.lst true (xs.set j d))))
 | _=>False
theorem sQ(hN:X.N[i]?=some x)(hv:lh X.env.scope x)(he:PE X e (lE te))(hi:PE X b (lB ti))(hd:(x==("__debug__":Str))=false:=by decide)(cO:(x==("__classdict__":Str))=false:=by decide)
  (ha:∀v,assign (.Subscript (.Name x p) b pos') X.env v=(do
   let ov<-holding [v] (eval (.Name x p) X.env)
   let iv<-holding [v,ov] (eval b X.env)
   standAt pos'
   holding [v,ov,iv] (setItem ov iv v)
   release [v,ov,iv] []):=by intro _;rfl)
  (hs:swapsWithSole [.Subscript (.Name x p) b pos'] e pos.line X.env=pure false:=by rfl) (hw:swappedStores [.Subscript (.Name x p) b pos'] e X.env=pure none:=by rfl)
  (h1:(assignEach [.Subscript (.Name x p) b pos'] X.env).map (·.2)=[assign (.Subscript (.Name x p) b pos') X.env]:=by rfl) :
  PS X (.Assign [.Subscript (.Name x p) b pos'] e pos) (lS X (sP i te ti)) :=
 lR (cR4 he (cO5 (qT hN hv hd cO) (dk hi) cp7 ha) hs hw h1) λEn σ H ⟨B,F,δ,Dd,c,q,k1,k2,k3,k4⟩=>⟨B,F,δ,[],_,c,q,λd aq v F1 H1 hq f1 h1 c1=>by
  obtain⟨ys,ey,hq⟩:=hq
  obtain⟨p0,uW,g1,g2,g3⟩:=c1.ownAt ey
  refine⟨.ref p0,g1,B,F1,aq,[(d,v)],_,c1,hq,λkd aU kv F2 H2 hk f2 h2 c2=>?_⟩
  have st:=c2.top
  split at hk
  ·obtain⟨xs,j,ex,ej,hn⟩:=hk
   cases st
   have c3:=c2.pop
   obtain⟨p1,ws,r1,r2,r3⟩:=c3.ownAt ex
   rw[g1]at r1;cases r1
   exact⟨p0,ws,_,j,rfl,rfl,r2,by rw[<-r3];exact ej,k1 _ _ F2 _ hn (c3.dI7 ex g1 r2 j)⟩
  ·exact hk.elim⟩
theorem R.T4:∀{xs:List D} {ws:List V} {A:List Addr},R F H xs ws A->A.Nodup->∃A',R F H xs.dropLast ws.dropLast A'/\A'.Nodup/\∀a∈A',a∈A
 | [],_,A,r,nd=>by cases r;exact⟨[],.nil,by simp,by simp⟩
 | [d],_,A,r,nd=>by
  obtain⟨w,fk,B1,B2,rfl,rfl,h1,h2⟩:=r.cP
  cases h2
  exact⟨[],.nil,by simp,by simp⟩
 | d::d'::ds,_,A,r,nd=>by
  obtain⟨w,fk,B1,B2,rfl,rfl,h1,h2⟩:=r.cP
  obtain⟨n1,n2,n3⟩:=gW.mp nd
  obtain⟨A',r',rn,sub⟩:=R.T4 h2 n2
  have hl:fk≠[]:=by have:=h2.length;intro z;rw[z]at this;simp at this
  refine⟨B1++A',?_,gW.mpr ⟨n1,rn,λa ha hb=>n3 a ha (sub a hb)⟩,λa ha=>?_⟩
  ·rw[dg9 (by simp),dg9 hl]
   exact h1.cons r'
  ·rcases cw.mp ha with z | z
   ·simp[z]
   ·simp[sub a z]
noncomputable def sR(i:Nat):cQ:=λD δ=>∃xs,δ[i]?=some (some (.lst true xs))/\xs≠[]/\D.nx (δ.set i (some (.lst true xs.dropLast)))
theorem cX8(hN:X.N[i]?=some x)(hv:lh X.env.scope x)(hd:(x==("__debug__":Str))=false:=by decide)(cO:(x==("__classdict__":Str))=false:=by decide)
  (kh:attributeBase (.Name x p) "pop" X.env (eval (.Name x p) X.env)=eval (.Name x p) X.env:=by rfl) (ki:(apos.endLine==cg.line)=true:=by rfl)
  (sO:swapsWith (.Call (.Attribute (.Name x p) "pop" apos) [] [] cg) none pos.line X.env=pure false:=by rfl) :
  PS X (.Expr (.Call (.Attribute (.Name x p) "pop" apos) [] [] cg) pos) (lS X (sR i)) :=
 lR (BV (Sl PySem.F.plainAttrs_list PySem.F.slot_list_pop PySem.F.type_list_pop cN7 (qT hN hv hd cO) kh ki) sO) λEn σ H zz=>by
  obtain⟨B,F,δ,Dd,c,⟨ys,ey,m8,hn⟩,k1,k2,k3,k4⟩:=zz
  obtain⟨p0,uW,g1,g2,g3⟩:=c.ownAt ey
  have hl:0<uW.length:=by rw[<-g3];exact Ft.mpr m8
  refine⟨.ref p0,g1,.inl ⟨rfl,_,bK.of g2⟩,p0,uW,_,rfl,rfl,g2,aL (by omega),k1 _ _ F _ hn ?_⟩
  exact au.mut (ps:=[]) c ey g1 λfk A1 A2 h r1 r2 nd=>by
   rw[g2]at h;cases h
   obtain⟨A',r',rn,sub⟩:=r1.T4 (gW.mp nd).1
   exact⟨A',r',rn,λa ha=>gO _ (sub a ha)⟩
end
end L3
namespace L3
open PySem L2 PySem.Spec PyProof.Rows
theorem cS{A:Around}{k:Nat}(hr:cC k A):A.units+6<cLine:=by have:=hr.un;omega
noncomputable def aC(ns:List Int):List D:=ns.map D.int
noncomputable def Hr(o:Obj):Bool:=match o.cls with
 | .type n=>n != "list"
 | _=>true
noncomputable def T5:bh:=λds Q=>∃ns:List Int,ds=[.fz (aC ns)]/\ns.length<=63/\Q (.bl true)
theorem kE{F H:Hp}:∀ns:List Int,R F H (aC ns) (ns.map V.int) []
 | []=>.nil
 | n::ns=>.int (kE ns)
theorem bN0{K:PySem.W.Frag}{a:Addr}{o:Obj}(h:K.lookup a=some o):(a,o)∈K:=by
 induction K with
 | nil=>cases h
 | cons p K ih =>
  obtain⟨b,u⟩:=p
  rw[gi]at h
  split at h
  ·rename_i z
   have:a=b:=by simpa using z
   cases h;subst this;simp
  ·exact eI _ (ih h)
end L3
namespace L3
open PySem L2 PySem.Spec PyProof.Rows
section
variable{B:Bs}{F H:Hp}{σ:L2.St}{δ:Dl}{ts ps:List (D × V)}{i k:Nat}{p q:Addr}{l1 l2 ys Tc:List D}{ws u9:List V}
end
section
variable{X:Cx}{F H:Hp}{e b:Expr}{pos p pr apos cg Hs:Pos}{t ti te:aQ}{x y:Str}{i j:Nat}
end
end L3
namespace L3
open PySem L2 PySem.Spec PyProof.Rows
theorem ve(i:Int):(D.int i).pl=true:=rfl
theorem vf(i:Bool):(D.bl i).pl=true:=rfl
theorem vg(i:Str):(D.str i).pl=true:=rfl
theorem vh:D.aw.pl=true:=rfl
theorem vi(xs:List D):(D.fz xs).pl=true:=rfl
theorem vj(C:Addr)(ns:List Str)(xs:List D):(D.obj C ns xs).pl=true:=rfl
theorem pK(i:Int):(D.int i).fr=true:=rfl
theorem vk(i:Bool):(D.bl i).fr=true:=rfl
theorem vm(i:Str):(D.str i).fr=true:=rfl
theorem vn:D.aw.fr=true:=rfl
theorem jU(i:Int):(D.int i).sh=.int i:=rfl
theorem vo(i:Bool):(D.bl i).sh=.bl i:=rfl
theorem vp(i:Str):(D.str i).sh=.str i:=rfl
theorem vq:D.aw.sh=.aw:=rfl
theorem vt(xs:List D):(D.fz xs).sh=.fz xs:=rfl
theorem vv(C:Addr)(ns:List Str)(xs:List D):(D.obj C ns xs).sh=.obj C ns xs:=rfl
theorem vw{α:Type}(n:Nat)(x:α):(aT n [x]).flatten=aT n x:=by
 induction n with
 | zero=>rfl
 | succ n ih=>rw[qJ,uk,ih];rfl
theorem kF(ns:List Int):(aC ns).length=ns.length:=by simp[aC]
theorem me(ns:List Int):(aC ns).all D.pl=true:=by simp[aC,D.pl]
theorem pL(ns:List Int):(aC ns).all D.fr=true:=by simp[aC,D.fr]
theorem jl(ns:List Int):(aC ns).map D.sh=aC ns:=by simp[aC,D.sh]
theorem pM(a b:List Int):aC a++aC b=aC (a++b):=by simp[aC]
theorem vx(n:Nat)(i:Int):aT n (D.int i)=aC (aT n i):=by simp[aC]
theorem pO(n:Nat)(i:Int):dE n (.int i)=true:=by cases n<;>rfl
theorem vy(n:Nat)(i:Str):dE n (.str i)=true:=by cases n<;>rfl
theorem sS(n:Nat):dE n .aw=true:=by cases n<;>rfl
theorem jm(i j:Int):bH (.int i) (.int j)=decide (i=j):=by
 show(i==j)=_
 rw[Bool.beq_eq_decide_eq]
theorem T6:∀(a b:List Int),bH.fm (aC a) (aC b)=decide (a=b)
 | [],[]=>rfl
 | [],_::_=>by simp[aC,bH.fm]
 | _::_,[]=>by simp[aC,bH.fm]
 | x::xs,y::ys=>by
  show(bH (.int x) (.int y)&&bH.fm (aC xs) (aC ys))=_
  rw[T6 xs ys,jm,uo];simp
theorem sT(o o':Bool)(a b:List Int):bH (.lst o (aC a)) (.lst o' (aC b))=decide (a=b):=T6 a b
theorem T7{ns:List Int}{k:Nat}(h:k<ns.length):(aC ns)[k]?=some (.int ns[k]):=by simp[aC,h]
theorem mf{ns:List Int}{k:Int}(h0:0<=k)(h:k<ns.length):eB (aC ns) k=some (.int (ns.getD k.toNat 0)):=by
 unfold eB iq
 rw[if_pos h0,kF,if_pos h]
 show(aC ns)[k.toNat]?=_
 have hk:k.toNat<ns.length:=by omega
 rw[T7 hk,aI,aL hk];rfl
theorem sU(ns:List Int)(lo hi:Option Int):fq (aC ns) lo hi=aC (fq ns lo hi):=by simp[fq,aC,Q8,Q9]
theorem vz(i:Int):lZ "int" (.int i)=some true:=by rfl
theorem vA(i:Int):lZ "bool" (.int i)=some false:=by rfl
theorem vB(i:Int):lZ "list" (.int i)=some false:=by rfl
theorem vC(o:Bool)(xs:List D):lZ "list" (.lst o xs)=some true:=by rfl
theorem vD:lZ "int" .aw=some false:=by rfl
theorem vE(x:Str):lZ "str" (.str x)=some true:=by rfl
theorem vF(xs:List D):lZ "tuple" (.tup xs)=some true:=by rfl
theorem sL:sizeLine=16777216:=rfl
theorem vG{p:Prop}[Decidable p]:(decide p=true)=p:=by simp
theorem cC9{α:Type}(xs:List α)(a b:Nat):fq xs (some (a:Int)) (some (b:Int))=(xs.drop a).take (b-a):=by
 unfold fq
 rw[HT.Gj,HT.Gj]
 by_cases h:a<=xs.length
 ·rw[yu h]
  apply yv
  intro i
  rw[Bz,Bz,List.getElem?_drop]
  by_cases hi:i<b-a
  ·rw[if_pos hi]
   by_cases hb:a+i<xs.length
   ·rw[if_pos (by omega)]
   ·rw[gj (by omega)];simp
  ·rw[if_neg hi,if_neg (by omega)]
 ·rw[Nat.min_eq_right (show xs.length<=a by omega),Ra (bJ _),Ra (show xs.length<=a by omega)];simp
end L3
namespace L2
open PySem PySem.Spec PyProof.Rows
section
variable{X:Cx}{e:Expr}{te:TE}{lo hi:Option Expr}{st:Expr}{tl th ts:TO}{pos p2:Pos}
theorem T8(ns:List Int):∀k,k<=ns.length->preSum (λi=>ns.getD i 0) k=(ns.take k).sum
 | 0,_=>rfl
 | k+1,h=>by
  show preSum (λi=>ns.getD i 0) k+ns.getD k 0=_
  rw[T8 ns k (by omega),mL,aL (by omega),List.sum_append,aI,aL (by omega)]
  simp
theorem ca6(hc:X.calm=true):gq X (.builtin "sum") (λxs H Q=>∃(p:Addr) (ns:List Int),xs=[.ref p]/\bK X.K H p (ns.map V.int)/\Q (.int ns.sum) H):=by
 intro pins s σ H xs us Q I r h
 obtain⟨p,ns,rfl,hS,q⟩:=h
 obtain⟨u,rfl,ru⟩:=r.one
 cases ru
 obtain⟨its,rv,pl,hz⟩:=I.list hS
 have hi:=bX6 rv
 have hlen:ns.length=its.length:=by have:=rv.length;simpa using this
 have hl:=pl.isList
 have fX:p<s.heap.objs.size:=by obtain⟨_,e,_⟩:=hl;exact bI e
 refine call_sum_walkG (wpAny_pyIter_list hl ?_)
 refine⟨s.heap.objs.size,[s.heap.objs.size,p],[s.heap.objs.size],its.toArray.size,_,_,λi=>ns.getD i 0,rfl,Walks.list (A:=X.A.in1) (I.ok.hd hc) _ p (eY fX) its.toArray,
  ⟨⟨_,fO _ rfl,rfl,rfl⟩,hl.push _⟩,λb hb=>?_,λi v hP=>?_,λh' tk t' hk=>?_⟩
 ·simp only[oq]
  rcases bY.mp hb with rfl | hb
  ·exact Fd _
  ·rw[jB.mp hb];exact Rb fX
 ·have e:its[i]?=some v:=by simpa using hP
  obtain⟨x,ex,q2⟩:∃x,(ns.map V.int)[i]?=some x/\RelV x v:=by
   have fi:i<its.length:=(iB.mp e).1
   obtain⟨u,e2,q2⟩:=rv.get (i:=i) (x:=V.int ns[i]) (by rw[bX,aL (by omega)];rfl)
   rw[e]at e2;cases e2
   exact⟨_,by rw[bX,aL (by omega)];rfl,q2⟩
  rw[bX]at ex
  obtain⟨n,en,rfl⟩:=ur.mp ex
  obtain⟨t,rfl⟩:=q2
  exact⟨t,by show qC n t=qC (ns.getD i 0) t;rw[aI,en];rfl⟩
 ·rw[dw,<- hlen,T8 ns _ (bJ _),oA]
  exact⟨.int _,H,I.kept (h':=h') (t':=tk) (GI hk),⟨_,rfl⟩,q⟩
end
end L2
namespace L3
open PySem L2 PySem.Spec PyProof.Rows
section
variable{X:Cx}{F H:Hp}{e:Expr}{t:aQ}{lo hi:Option Expr}{st:Expr}{tl th td:vd}{pos p2:Pos}
theorem Ht:∀{a:List Int} {ws:List V},S F H (aC a) ws->ws=a.map V.int
 | [],_,s=>by cases s;rfl
 | b::bs,_,s=>by
  cases s with
  | int s=>rw[Ht s];rfl
noncomputable def pP:iY:=λds Q=>match ds with
 | [.lst _ xs]=>∃a,xs=aC a/\Q (.int a.sum)
 | _=>False
theorem cY2(hc:X.calm=true):gv X (.builtin "sum") pP:=gv.of (ca6 hc) λvs H Q zz=>by
 obtain⟨B,F,σ,δ,ts,ds,Qd,c,s,q,k⟩:=zz
 unfold pP at q
 split at q
 ·obtain⟨v,rfl,s1⟩:=jS s
  obtain⟨a,rfl,q⟩:=q
  obtain⟨p,ws,rfl,h,t⟩:=kA s1 c.ext rfl
  rw[Ht t]at h
  exact⟨p,a,rfl,jT h,k _ _ _ q (ag.refl _) (c.pushS (.int .nil) rfl)⟩
 ·exact q.elim
noncomputable def Hu:Expr->Option Int
 | .Constant (.int i) _ _=>some i
 | _=>none
noncomputable def Ct:List Expr->Option (List Int)
 | []=>some []
 | e::es=>(Hu e).bind λi=>(Ct es).map (i :: ·)
theorem cl1{e:Expr}{i:Int}(h:Hu e=some i):∃a b,e=.Constant (.int i) a b:=by
 cases e with
 | Constant c a b =>
  cases c with
  | int j=>cases h;exact⟨_,_,rfl⟩
  | _=>cases h
 | _=>cases h
noncomputable def cZ9(ns:List Int):cG:=λδ Q=>Q (aC ns) δ
theorem T9:∀(es:List Expr) (ns:List Int),Ct es=some ns->PA X es (lO (cZ9 ns))
 | [],ns,h=>by cases h;exact dA
 | e::es,ns,h=>by
  obtain⟨i,hi,h2⟩:=Option.bind_eq_some_iff.mp (show(Hu e).bind (λi=>(Ct es).map (i :: ·))=some ns from h)
  obtain⟨ms,hm,rfl⟩:=ur.mp h2
  obtain⟨a,b,rfl⟩:=cl1 hi
  exact zA (cR (aj (i:=i)) (T9 es ms hm)) λ_ _ _ q=>q
noncomputable def sV(ns:List Int):aQ:=λδ Q=>ns.length<=sizeLine/\Q (.lst true (aC ns)) δ
theorem Cu{es:List Expr}{ns:List Int}(h:Ct es=some ns):PE X (.List es pos) (lE (sV ns)) :=
 dz (eO (T9 es ns h)) λ_ _ _ ⟨B,F,δ,ts,Qd,c,q,k⟩=>⟨B,F,δ,ts,Qd,c,by
  show(aC ns).length<=sizeLine/\_
  rw[kF];exact q,k⟩
theorem b86{ns:List Int}(h:0<ns.length):eB (aC ns) (-1)=some (.int (ns.getD (ns.length-1) 0)):=by
 unfold eB iq
 rw[if_neg (by decide),kF,if_pos (by omega)]
 have hk:((-1:Int)+ns.length).toNat=ns.length-1:=by omega
 show(aC ns)[((-1:Int)+ns.length).toNat]?=_
 rw[hk,T7 (by omega),aI,aL (by omega)];rfl
theorem Cv{n:Nat}{g:iu}{tb:cQ}{En:uX}{δ:Dl}(Iv:Nat->Dl->Prop)(h0:Iv 0 δ)(ht:∀k ah,k<n->Iv k ah->g (.int k) ah λaU=>tb { En with nx:=Iv (k+1),ct:=Iv (k+1),bk:=En.nx } aU)
  (hf:∀ah,Iv n ah->En.nx ah):fG (Fu (λ(k:Nat)=>D.int (0+(k:Int))) (aO (n:Int).toNat)) g tb En δ:=by
 rw[gB]
 refine fG.mk Iv h0 (λi d ah hd iv=>?_) λah iv=>hf ah (by simpa using iv)
 rw[bX]at hd
 obtain⟨k,hk,rfl⟩:=ur.mp hd
 have hi:i<n:=by have:=(iB.mp hk).1;simpa using this
 rw[jD hi]at hk
 cases hk
 rw[yw]
 exact ht i ah hi iv
theorem jM{xs:List D}{k:Int}{d:D}(h0:0<=k)(h:xs[k.toNat]?=some d):eB xs k=some d:=by
 unfold eB iq
 have hk:k.toNat<xs.length:=(iB.mp h).1
 rw[if_pos h0,if_pos (by omega)]
 exact h
end
end L3
namespace L3
open PySem L2 PySem.Spec PyProof.Rows
noncomputable abbrev pQ:=List D->(D->Prop)->(Addr->Prop)->Prop
noncomputable def zO(sp:pQ):Sp:=λvs H Q E=>∃F ds Qd Ed,ag F H/\R F H ds vs []/\sp ds Qd Ed/\(∀d v F' H' A,Qd d->ag H H'->ag F F'->ag F' H'->(∀a ws,F' a=some (.lst ws)->F a=some (.lst ws)\/H a=none)->R F' H' [d] [v] A->A.Nodup->(∀a∈A,H a=none)->Q v H') /\
 ∀C H',Ed C->ag H H'->E (.ref C) none H'
section
variable{P:Program}{w:World}{K:PySem.W.Frag}{mg:Str->Option Value}{base:Heap}
theorem Ua{x qual:Str}{st:Stmt}{f:Addr}{fd:FuncData}{N ps:List Str}{k:Nat}{sp:pQ}(F:aY K x qual st f fd)(S:bf N ps (ax st))(len:∀ds Q E,sp ds Q E->ds.length=ps.length)
  (ik:∀(aE:Value) (A:Around) (outer:List Env) (s:Shared) (H:Hp) (E:XK),cC k (A.deeper (envOfC qual (ax st) s.heap.objs.size f aE)) ->
   ∃t:cQ,PSs (iM (m6 P w) P w K mg base N qual (ax st) f aE A outer s H E) (aX st) (lS (iM (m6 P w) P w K mg base N qual (ax st) f aE A outer s H E) t) /\
    ∀ds Q Ex,sp ds Q Ex->t { nx:=λ_=>Q .aw,rt:=Q,xc:=λC _=>Ex C,xr:=λC _=>Ex C } (jQ N ds)):aN P w K mg base (m6 P w) (k+1) f fd ps (zO sp):=by
 obtain⟨oc,od,kV,doc,pm,an,aE,ct,lK,rfl,lk,cO⟩:=F.ex
 refine Gh lk cO S (λvs H Q E ⟨F,ds,Qd,Ed,e,r,h,_⟩=>by rw[<-r.length];exact len ds Qd Ed h) λA outer s H vs Q E hr zz=>?_
 obtain⟨F,ds,Qd,Ed,e,r,h,k,kx⟩:=zz
 obtain⟨t,ht,hq⟩:=ik aE A outer s H E hr
 have fin:∀d v ah aF F' H',Qd d->au ⟨H,F⟩ F' H' aF ah [(d,v)]->Q v H':=λd v ah aF F' H' hd c=>by
  obtain⟨A,C,r',s',nd,fr⟩:=c.own
  exact k d v F' H' A hd c.b1 c.b2 c.ext c.b3 r' (gW.mp nd).1 λa ha=>fr a (gO _ ha)
 have e1:L2.start N vs=vs.map some++aT (N.length-ds.length) none:=by unfold L2.start;rw[r.length]
 refine⟨_,ht,⟨H,F⟩,F,jQ N ds,_,?_,hq ds Qd Ed h,λah aF F' H' hd c=>fin .aw .aw ah aF F' H' hd (c.pushS (.aw .nil) rfl),fin,λ_ _ _ _ z=>z.elim,λ_ _ _ _ z=>z.elim,λC ah pins aF F' H' s' a T hx c I tr pa pT=>?_,λC ah pins aF F' H' s' h' e vs hx c I hm=>?_⟩
 ·rw[e1]
  exact au.start e r _
 ·exact cf1 I rfl rfl rfl tr pa pT λh' T' g=>⟨a,T',.ref C,H',rfl,I.os,I.bare,g.un,g.aG,g.zr,g.a0,g.a1,g.t0,g.t1,kx C H' hx c.b1⟩
 ·exact ch4 I rfl rfl rfl hm λh' T' g=>⟨e,T',.ref C,H',rfl,I.os,I.bare,g.un,g.aG,g.zr,g.a0,g.a1,g.t0,g.t1,kx C H' hx c.b1⟩
end
section
variable{X:Cx}{n:Nat}{f:Addr}{fd:FuncData}{ps:List Str}{sp:pQ}{x:Str}{p pos:Pos}{e:Expr}{es:List Expr}{t:cG}{tx:fv6}
noncomputable def sW(t:cQ):cQ:=λD δ=>t { D with xc:=λ_ _=>False,xr:=λ_ _=>False } δ
theorem cX9{st:Stmt}{u:cQ}(h:PS X.gD st (lS X.gD u)):PS X st (lS X (sW u)):=by
 intro pins s σ H D I zz
 obtain⟨B,F,δ,Dd,c,q,k1,k2,k3,k4,xl⟩:=zz
 exact wpAny_mono (h pins s σ H D (I.jI _) ⟨B,F,δ,_,c,q,k1,k2,k3,k4,XL.none (λ_ _ z=>z) λ_ _ z=>z⟩) (λ_ _ q=>q.lD) λ_ _ z=>fL z
noncomputable def sX(C:Addr)(t:cG):cQ:=λD δ=>t δ λds ah=>ds.length<=9/\D.xr C ah
structure Hv(K:PySem.W.Frag)(mg:Str->Option Value)(x:Str)(C:Addr):Prop where
 own:∀h:Heap,K.In h->h.Ns mainGlobals mg->∃newId Bn kG Ub B Uc Ud Cw,OwnCls x C Cw newId mg h/\ExcBaseFacts Bn newId kG Ub/\Cw.contains (.type Bn)=true/\ExcBaseFacts B Uc Ud Cw
theorem Ue{C:Addr}{np cg:Pos}(hm:Hv X.K X.mg x C)(hc:X.calm=true)(hg:Gl X x)(ha:PA X (e::es) (lA t))(e7:(x==("__debug__":Str))=false:=by decide)
  (he:starEach (e::es) X.env=(false,eval e X.env)::starEach es X.env:=by rfl) (bG:(backTo cg (starEach es X.env)).any (·.1)=false:=by rfl) :
  PS X (.Raise (some (.Call (.Name x np) (e::es) [] cg)) none pos) (lS X (sX C t)):=by
 intro pins s σ H D I zz
 obtain⟨B,F,δ,Dd,c,q,k1,k2,k3,k4,xl⟩:=zz
 obtain⟨newId,Bn,kG,Ub,B',Uc,Ud,Cw,O,Fn,hBn,FB⟩:=hm.own X.base I.ok.mod.mS I.ok.mod.glob
 obtain⟨tl,N,nm,qn,bs,hdct,sn,sub,ab,col,dd,k0,su,va,k3',k5,mN,hC,hN,pS,T⟩:=O.obj
 refine wpAny_Raise_call_subU (k5:=k5) (k3:=k3') (k2:=va) (k1:=su) (k0:=k0) (dd:=dd) (col:=col) (ab:=ab) (sub:=sub) (sn:=sn) (hdct:=hdct) (bs:=bs) (N:=N) (q:=qn) (nm:=nm) (C:=C) Fn hBn FB (mN:=mN) (T.hasType FB.hasBase) (I.ok.hd hc) (by rw[he];show(false||(backTo cg (starEach es X.env)).any (·.1))=false;rw[bG];rfl) pS (BQ I hg O.bound ⟨rfl,?_⟩ e7)
 have Cy:=ha cg pins s σ H (λvs H1=>vs.length<=9/\∃ah F',Dd.xr C ah/\au B F' H1 σ ah []) I ⟨B,F,δ,[],_,c,q,λds aq vs F1 H1 q1 f1 h1 c1 s1=>⟨by rw[<-s1.length];exact q1.1,aq,F1,q1.2,c1⟩⟩
 rw[he]at Cy ⊢
 refine Calls.evalArgs_plain (wpAny_mono Cy (λus s2 h2=>?_) λ_ _ y=>y)
 obtain⟨vs,H1,I1,r,hl,ah,F',hx,c'⟩:=h2
 exact⟨rfl,by rw[<-r.length];exact eH hl (by decide),I1.bk _ _ hC,hN.keeps I1.bk,T.keeps I1.bk,λh' e' hm'=>xl.2 C ah pins σ F' H1 s2 h' e' _ hx c' I1 hm'⟩
end
end L3
namespace L3
open PySem L2 PySem.Spec PyProof.Rows
section
variable{X:Cx}{pins FG:List (Addr × Obj)}{σ:L2.St}{H:Hp}{s:Shared}{a:Addr}
end
section
variable{X:Cx}{tb th:cQ}{body dN0:List Stmt}{dN1:Stmt}{K n:Str}{Kc:Addr}{i:Nat}{kp dN2 pos:Pos}
end
end L3
namespace L3
open PySem L2 PySem.Spec PyProof.Rows
section
variable{X:Cx}{F H:Hp}{v:V}{a:Expr}{ta:aQ}{p pos:Pos}
end
section
variable{K:PySem.W.Frag}{mg:Str->Option Value}{x:Str}{C:Addr}
theorem cQ5(hm:mg x=some (.ref C))(q:PySem.W.excIn K C [.type "ValueError",.type "Exception",.type "BaseException",.type "object"] "ValueError.__new__"=true):Hv K mg x C:=by
 refine⟨λh X G=>⟨"ValueError.__new__","ValueError",_,_,"ValueError",_,_,[.type "ValueError",.type "Exception",.type "BaseException",.type "object"],?_,PySem.F.excBase_ValueError,rfl,PySem.F.excBase_ValueError⟩⟩
 refine⟨hm,?_⟩
 unfold PySem.W.excIn at q
 split at q
 ·rename_i dd cd sl ho
  split at q
  ·rename_i C' bm k0 k1 k2 k3 n k5 hm hs
   simp only[dY,beq_iff_eq,Bool.not_eq_true']at q
   obtain⟨⟨⟨⟨⟨rfl,rfl⟩,Ug⟩,ht⟩,aG⟩,pS⟩:=q
   obtain⟨nm,bs,mro,ns,qn,hd,sn,sub,ab,col,del⟩:=cd
   dsimp only at hm Ug aG pS
   subst hm Ug
   have hsl:sl=#[k0,k1,k2,k3,some (.builtin "ValueError.__new__"),k5]:=by
    obtain⟨l⟩:=sl
    simp only at hs
    rw[hs]
   subst hsl
   exact⟨bm,ns,nm,qn,bs,hd,sn,sub,ab,col,dd,k0,k1,k2,k3,k5,_,X _ _ ho,.of_isNs (PySem.W.isNs_of_in X aG),PySem.W.nsMap_none_of_in X aG pS,PySem.W.tail_of_in X ht⟩
  ·cases q
 ·cases q
end
theorem Hw{P:Program}{w:World}{X:Cx}:lJ (m6 P w) X E0:=by
 rintro _ _ _ _ _ _ _ ⟨_,_,_,_,_,_,_,_,_,_,_,_,_,_,z⟩
 exact z.elim
theorem Hx{P:Program}{w:World}{K:PySem.W.Frag}{mg:Str->Option Value}{base:Heap}{k:Nat}{f:Addr}{fd:FuncData}{ps:List Str}{sp:pQ}(h:aN P w K mg base (m6 P w) k f fd ps (zO sp)) :
  aN P w K mg base (m6 P w) k f fd ps (bt λds Q=>sp ds Q λ_=>False) :=
 h.imp λvs H Q E ⟨F,ds,Qd,e,r,q,k⟩=>⟨F,ds,Qd,_,e,r,q,k,λ_ _ z=>z.elim⟩
end L3
namespace L3
open PySem L2 PySem.Spec PyProof.Rows
theorem vH{CX:eZ}{P:Program}{w:World}{K:PySem.W.Frag}{mg:Str->Option Value}{base:Heap}{N:List Str}{q:Str}{sc:Scope}{f:Addr}{aE:Value}{A:Around}{outer:List Env}{s:Shared}{H:Hp}{E:XK}:(iM CX P w K mg base N q sc f aE A outer s H E).K=K:=rfl
theorem vI(φ:uV):(D.bL φ).pl=true:=rfl
theorem vJ(φ:uV):(D.bL φ).sh=.bL φ:=rfl
end L3
namespace L3
open PySem L2 PySem.Spec PyProof.Rows
theorem vK{X:Cx}:X.gD.K=X.K:=rfl
end L3
namespace L3
open PySem L2 PySem.Spec PyProof.Rows
noncomputable def dJ(xs ys:List D):List D:=dZ (λx y=>D.tup [x,y]) xs ys
noncomputable def eC(xs:List D):List D:=xs.mapIdx λi x=>D.tup [.int i,x]
theorem Hy(xs ys:List D):(dJ xs ys).map D.sh=dJ (xs.map D.sh) (ys.map D.sh):=by
 unfold dJ
 rw[uu,BA]
 congr 1
theorem cF8{xs ys:List D}(h1:xs.all D.pl=true)(h2:ys.all D.pl=true):(dJ xs ys).all D.pl=true:=by
 unfold dJ
 rw[cU]at h1 h2 ⊢
 intro d hd
 obtain⟨i,hi,e⟩:=gP hd
 rw[dh0]at e
 subst e
 rw[kr]
 simp only[eL,oE,jE,dY]
 exact⟨h1 _ (dP _),h2 _ (dP _)⟩
theorem cm1(xs:List D):(eC xs).map D.sh=eC (xs.map D.sh):=by
 unfold eC
 apply yv
 intro i
 simp only[bX,uv,Option.map_map]
 cases xs[i]? with
 | none=>rfl
 | some x =>
  show some (D.sh (.tup [.int i,x]))=some (D.tup [.int i,x.sh])
  rw[ku];rfl
theorem co5{xs:List D}(h1:xs.all D.pl=true):(eC xs).all D.pl=true:=by
 unfold eC
 rw[cU]at h1 ⊢
 intro d hd
 obtain⟨i,hi,e⟩:=gP hd
 rw[List.getElem_mapIdx]at e
 subst e
 rw[kr]
 simp only[eL,oE,jE,dY]
 exact⟨rfl,h1 _ (dP _)⟩
theorem mh(xs:List D):(eC xs).length=xs.length:=by simp[eC]
theorem Hz(xs ys:List D):(dJ xs ys).length=min xs.length ys.length:=by simp[dJ]
section
variable{F H:Hp}{d:D}{v:V}{xs ys:List D}{ws us:List V}{p q:Addr}{K:PySem.W.Frag}
theorem Cz(s:S F H [d] [v])(e2:ag F H)(e:iV d=some xs):∃p ws,v=.ref p/\Rd H p (.lst ws)/\R H H (xs.map D.sh) ws []/\(d.pl=true->xs.all D.pl=true/\Rd F p (.lst ws)/\R F H xs ws []):=by
 cases s with
 | @shr p ws ys _ _ hp r _ =>
  obtain rfl:=cN e
  refine⟨p,ws,rfl,.inl (e2 _ _ hp),?_,λ_=>⟨r.pl,.inl hp,r⟩⟩
  rw[lN r.pl]
  exact r.shared e2 (ag.refl _)
 | @own p ws ys _ _ hp r _ =>
  obtain rfl:=cN e
  exact⟨p,ws,rfl,.inl hp,r.frozen e2,λz=>by simp[gG]at z⟩
 | @fz p o ws ys _ _ hp r _ =>
  obtain rfl:=cN e
  refine⟨p,ws,rfl,.inr ⟨o,e2 _ _ hp⟩,?_,λ_=>⟨r.pl,.inr ⟨o,hp⟩,r⟩⟩
  rw[lN r.pl]
  exact r.shared e2 (ag.refl _)
 | aw _=>cases e
 | bl _=>cases e
 | int _=>cases e
 | str _=>cases e
 | tup _ _ _=>cases e
 | obj _ _ _ _=>cases e
 | bL _ _=>cases e
theorem CA(r:R F H xs ws []){i:Nat}(hi:i<xs.length){x:V}(hx:ws[i]?=some x):R F H [xs[i]] [x] []:=by
 obtain⟨v,A1,e2,r1,sub⟩:=r.get (aL hi)
 rw[hx]at e2;cases e2
 have:A1=[]:=dg4.mpr λa ha=>by simpa using sub ha
 subst this
 exact r1
theorem Uh(hp:Rd F p (.lst ws))(r:R F H xs ws [])(hq:Rd F q (.lst us))(t:R F H ys us [])(hF:Full F H):JD (GP K p q) F (dJ xs ys) where
 go:=λi H' hs hi=>by
  rw[Hz]at hi
  have l1:=r.length
  have l2:=t.length
  exact⟨ws,us,_,_,.inl (gr hp hs),.inl (gr hq hs),aL (show i<ws.length by omega),aL (show i<us.length by omega)⟩
 jg:=λi H' v H2 hs hi zz=>by
  obtain⟨T,x,y,e1,e2,e3,hx,hy⟩:=zz
  subst e1 e3
  have mi:=hi
  rw[Hz]at mi
  have h1:=CA (r.full hF hs rfl) (show i<xs.length by omega) (hx ws (.inl (gr hp hs)))
  have h2:=CA (t.full hF hs rfl) (show i<ys.length by omega) (hy us (.inl (gr hq hs)))
  have sm:=ag.upd (o:=.tup [x,y]) e2
  refine⟨_,aL hi,sm,?_⟩
  have eg:(dJ xs ys)[i]=.tup [xs[i]'(by omega),ys[i]'(by omega)]:=by simp[dJ]
  rw[eg]
  exact R.tup (A:=[]) (B:=[]) cy ((h1.shared (ag.refl _) sm).cons (h2.shared (ag.refl _) sm)) .nil
 stop:=λi H' hs hi=>by
  rw[Hz]at hi
  have l1:=r.length
  have l2:=t.length
  exact⟨ws,us,.inl (gr hp hs),.inl (gr hq hs),by omega⟩
theorem Ui(hp:Rd F p (.lst ws))(r:R F H xs ws [])(hF:Full F H):JD (GV K p) F (eC xs) where
 go:=λi H' hs hi=>by
  rw[mh]at hi
  have l1:=r.length
  exact⟨ws,_,.inl (gr hp hs),aL (show i<ws.length by omega)⟩
 jg:=λi H' v H2 hs hi zz=>by
  obtain⟨T,x,e1,e2,e3,hx⟩:=zz
  subst e1 e3
  have mi:=hi
  rw[mh]at mi
  have h1:=CA (r.full hF hs rfl) mi (hx ws (.inl (gr hp hs)))
  have sm:=ag.upd (o:=.tup [.int i,x]) e2
  refine⟨_,aL hi,sm,?_⟩
  have eg:(eC xs)[i]=.tup [.int i,xs[i]]:=by simp[eC]
  rw[eg]
  exact R.tup (A:=[]) (B:=[]) cy (.int (h1.shared (ag.refl _) sm)) .nil
 stop:=λi H' hs hi=>by
  rw[mh]at hi
  have l1:=r.length
  exact⟨ws,.inl (gr hp hs),by omega⟩
end
section
variable{X:Cx}{a b:Expr}{ta:cG}{p pos qZ:Pos}{elts:List Expr}{x1:Nat}
noncomputable def sY(t:cG):iU:=λδ Q=>t δ λds ah=>match ds with
 | [d1,d2]=>∃xs ys,iV d1=some xs/\iV d2=some ys/\Q (d1.pl&&d2.pl) (dJ xs ys) ah
 | _=>False
theorem pU(hg:Gl X "zip")(hm:X.mg "zip"=none)(ha:PA X [a,b] (lA ta))(hs:starEach [a,b] X.env=[(false,eval a X.env),(false,eval b X.env)]:=by rfl)(gk:starEach [b] X.env=[(false,eval b X.env)]:=by rfl) :
  PI X (.Tuple elts x1 qZ) (.Call (.Name "zip" p) [a,b] [] pos) (lI (sY ta)) :=
 rM (cT1 hg hm ha hs gk) λσ H Q ⟨B,F,δ,ts,Qd,c,q,k⟩=>⟨B,F,δ,ts,_,c,q,λds aq vs F1 H1 hd f1 h1 c1 s=>by
  match ds,hd,s with
  | [d1,d2],⟨xs,ys,i1,i2,hq⟩,s =>
   obtain⟨v1,cE,rfl,s1,s2⟩:=s.cP
   obtain⟨v2,fv7,rfl,s2,s3⟩:=s2.cP
   cases s3
   have e2:=c1.ext
   have sn:=oR e2
   obtain⟨p1,w1,rfl,r1,t1,u1⟩:=Cz s1 e2 i1
   obtain⟨p2,w2,rfl,r2,t2,u2⟩:=Cz s2 e2 i2
   refine⟨p1,p2,rfl,⟨w1,.inl r1⟩,⟨w2,.inl r2⟩,k _ _ aq _ _ H1 hq (f1.trans sn) h1 c1.snap ?_ λz=>?_⟩
   ·rw[Hy]
    exact Uh r1 t1 r2 t2 (Full.refl _)
   ·rw[dY]at z
    obtain⟨a1,a2,a3⟩:=u1 z.1
    obtain⟨b1,b2,b3⟩:=u2 z.2
    exact⟨cF8 a1 b1,Uh (gr a2 sn) (a3.shared sn (ag.refl _)) (gr b2 sn) (b3.shared sn (ag.refl _)) rm⟩⟩
noncomputable def sZ(t:cG):iU:=λδ Q=>t δ λds ah=>match ds with
 | [d1]=>∃xs,iV d1=some xs/\Q d1.pl (eC xs) ah
 | _=>False
theorem nz(hg:Gl X "enumerate")(hm:X.mg "enumerate"=none)(ha:PA X [a] (lA ta))(hs:starEach [a] X.env=[(false,eval a X.env)]:=by rfl) :
  PI X (.Tuple elts x1 qZ) (.Call (.Name "enumerate" p) [a] [] pos) (lI (sZ ta)) :=
 rM (cI9 hg hm ha hs) λσ H Q ⟨B,F,δ,ts,Qd,c,q,k⟩=>⟨B,F,δ,ts,_,c,q,λds aq vs F1 H1 hd f1 h1 c1 s=>by
  match ds,hd,s with
  | [d1],⟨xs,i1,hq⟩,s =>
   obtain⟨v1,cE,rfl,s1,s2⟩:=s.cP
   cases s2
   have e2:=c1.ext
   have sn:=oR e2
   obtain⟨p1,w1,rfl,r1,t1,u1⟩:=Cz s1 e2 i1
   refine⟨p1,rfl,⟨w1,.inl r1⟩,k _ _ aq _ _ H1 hq (f1.trans sn) h1 c1.snap ?_ λz=>?_⟩
   ·rw[cm1]
    exact Ui r1 t1 (Full.refl _)
   ·obtain⟨a1,a2,a3⟩:=u1 z
    exact⟨co5 a1,Ui (gr a2 sn) (a3.shared sn (ag.refl _)) rm⟩⟩
end
end L3
namespace L3
open PySem L2 PySem.Spec PyProof.Rows
section
variable{X:Cx}{F H:Hp}{e b:Expr}{pos p p2 p3 pr apos cg Hs:Pos}{t ti te:aQ}{x y:Str}{i j:Nat}
theorem Uj{α:Type}{xs:List α}{k:Nat}{v:α}(h:xs[k]?=some v):eB xs (k:Int)=some v:=by
 unfold eB iq
 have hk:k<xs.length:=(iB.mp h).1
 rw[if_pos (by omega),if_pos (by omega)]
 exact h
end
section
variable{X:Cx}{CX:eZ}{k:Nat}{f:Addr}{fd:FuncData}{ps:List Str}{sp:bh}{E:XK}{fn x1 x2 y1 y2:Str}{i1 i2 j1 j2:Nat}{tk:Nat}
 {tp t1 t2 zp fv8 q1 q2 fp fv9 a1 a2 dN8 fw0 fw1 cp Hs pr apos cg fw2 pos:Pos}
end
end L3
namespace L3
open PySem L2 PySem.Spec PyProof.Rows
theorem au.dN9{B:Bs}{F H:Hp}{σ:L2.St}{δ:Dl}{ts:List (D × V)}{a b:D}{v:V}(c:au B F H σ δ ((.tup [a,b],v)::ts)):∃p u w,v=.ref p/\H p=some (.tup [u,w])/\au B F H σ δ ((a,u)::(b,w)::ts):=by
 obtain⟨A,C,r,s,nd,fr⟩:=c.own
 cases r with
 | @tup p ws xs A1 _ _ B1 hp r1 r2 =>
  obtain⟨u,fk,A2,A3,rfl,rfl,h1,h2⟩:=r1.cP
  obtain⟨w,fw3,A4,A5,rfl,rfl,h3,h4⟩:=h2.cP
  cases h4
  refine⟨p,u,w,rfl,hp,c.ext,c.b1,c.b2,c.b3,A2++(A4++B1),C,h1.cons (h3.cons r2),s,?_,?_⟩
  ·simpa using nd
  ·intro a ha;exact fr a (by simpa using ha)
section
variable{X:Cx}{y1 y2:Str}{i1 i2 tk m:Nat}{t1 t2 tp:Pos}
noncomputable def jn(i1 i2:Nat):iu:=λd δ Q=>match d with
 | .tup [a,b]=>Q ((δ.set i1 (some a)).set i2 (some b))
 | _=>False
theorem gI(hc:X.calm=true)(Uk:X.N.Nodup)(m1:X.N[i1]?=some y1)(l1:Loc X.env.scope y1)(m2:X.N[i2]?=some y2)(l2:Loc X.env.scope y2)(hm1:m<=i1:=by decide)(vb:m<=i2:=by decide)
  (f1:X.fn y1=true\/X.env.scope.names.lookup y1=some .local:=by first | exact .inl rfl | exact .inr rfl | assumption) (f2:X.fn y2=true\/X.env.scope.names.lookup y2=some .local:=by first | exact .inl rfl | exact .inr rfl | assumption)
  (hag:(assignEach [.Name y1 t1,.Name y2 t2] X.env).map (·.2)=assign (.Name y1 t1) X.env::(assignEach [.Name y2 t2] X.env).map (·.2):=by rfl) (dO1:(assignEach [.Name y2 t2] X.env).map (·.2)=assign (.Name y2 t2) X.env::(assignEach [] X.env).map (·.2):=by rfl)
  (hn:(assignEach [.Name y1 t1,.Name y2 t2] X.env).length=2:=by rfl) (dg:(assignEach [.Name y1 t1,.Name y2 t2] X.env).findIdx? (·.1)=none:=by rfl) :
  PG X (.Tuple [.Name y1 t1,.Name y2 t2] tk tp) (lG m (jn i1 i2)) :=
 Tq (cR3 hc (RN (BY Uk m1 l1 f1) (RN (BY Uk m2 l2 f2) cK0 dO1) hag) hn dg) λv σ H Q zz=>by
  obtain⟨B,F,δ,ts,d,Qd,c,q,k⟩:=zz
  obtain⟨a,b,rfl,q⟩:∃a b,d=D.tup [a,b]/\Qd ((δ.set i1 (some a)).set i2 (some b)):=by
   unfold jn at q
   split at q
   ·exact⟨_,_,rfl,q⟩
   ·exact q.elim
  obtain⟨p,u,w,rfl,hp,c2⟩:=c.dN9
  refine⟨p,[u,w],rfl,gQ.of hp,rfl,u,[w],rfl,w,[],rfl,rfl,k _ _ q (by simp) (λj hj=>?_) ((c2.store i1).store i2)⟩
  rw[yj (by omega),yj (by omega)]
end
open Classical in
theorem gb{α:Type}{sh:Bool}{xs:List D}{aD:List (Str × Nat)}{n m:Nat}{te:aQ}{aq:Dl}{Q:D->Dl->Prop}(l:List α)(e g:α->D)(iZ:xs.map D.sh=l.map e)(inj:∀a b,e a=e b->a=b)
  (hx:∀a∈l,te ((fS aD n aq).set m (some (e a))) λd _=>d=g a) (eN:(sh&&aD.all (iw aq))=true\/∀a∈l,(g a).fr=true) (hl:l.length<=sizeLine) (hq:Q (.lst true (l.map g)) aq):rS sh xs aD n (gN m) jR te aq Q:=by
 let f:D->D:=λx=>if h:∃a∈l,e a=x then g h.choose else .aw
 have hf:∀a∈l,f (e a)=g a:=λa ha=>by
  have h:∃b∈l,e b=e a:=⟨a,ha,rfl⟩
  show(if h:∃b∈l,e b=e a then g h.choose else .aw)=g a
  rw[dif_pos h]
  exact congrArg g (inj _ _ h.choose_spec.2)
 refine cq0 f (λx h=>?_) (eN.imp id λh x hx=>?_) ?_ ?_
 ·rw[iZ]at h
  obtain⟨a,ha,rfl⟩:=bZ.mp h
  rw[hf a ha];exact hx a ha
 ·rw[iZ]at hx
  obtain⟨a,ha,rfl⟩:=bZ.mp hx
  rw[hf a ha];exact h a ha
 ·have:=congrArg Bk iZ
  simp at this
  omega
 ·rw[iZ,da,show l.map (f ∘ e)=l.map g from mM λa ha=>hf a ha]
  exact hq
end L3
namespace L3
open PySem L2 PySem.Spec PyProof.Rows
end L3
namespace L2
open PySem PySem.Spec PyProof.Rows
section
variable{X:Cx}
end
end L2
namespace L3
open PySem L2 PySem.Spec PyProof.Rows
noncomputable abbrev tx(l:List Nat):D:=.str ⟨l.toArray⟩
section
variable{X:Cx}{F H:Hp}{e:Expr}{es:List Expr}{t:aQ}{pos p p2 apos cg:Pos}
noncomputable def pV(x:D)(lo hi:Option Int)(Q:D->Prop):Prop:=match x with
 | .lst _ xs=>xs.all D.pl=true/\Q (.lst true (fq xs lo hi))
 | .fz xs=>Q (.lst true (fq xs lo hi))
 | .str z=>z.length<=sizeLine/\Q (tx (fq z.cps.toList lo hi))
 | _=>False
noncomputable def s8(t:aQ)(tl th:vd):aQ:=λδ Q=>t δ λx aq=>tl aq λl aU=>th aU λu ir=>pV x l u λd=>Q d ir
theorem HA{lo hi:Option Expr}{tl th:vd}(he:PE X e (lB t))(hl:PO X lo (lP tl))(hu:PO X hi (lP th)):PE X (.Subscript e (.Slice lo hi none p2) pos) (lE (s8 t tl th)) :=
 dz (cp5 (dx4.or cL4) he hl hu) λσ H Q ⟨B,F,δ,ts,Qd,c,q,k⟩=>⟨B,F,δ,ts,_,c,q,λx aq v F1 H1 q1 f1 h1 c1 s1=>⟨B,F1,aq,ts,_,c1,q1,λl aU F2 H2 q2 f2 h2 c2=>⟨B,F2,aU,ts,_,c2,q2,λu ir F3 H3 q3 f3 h3 c3=>by
  have nv:=s1.mono (f2.trans f3) (h2.trans h3)
  unfold pV at q3
  split at q3
  ·obtain⟨p,ws,rfl,h,t⟩:=kA nv c3.ext rfl
   exact .inl ⟨p,ws,rfl,jT h,λr hr=>k _ ir _ F3 _ q3.2 ((f1.trans f2).trans f3) (((h1.trans h2).trans h3).trans (ag.upd hr)) (c3.nh hr (t.cut _ _) (T3 q3.1 _ _))⟩
  ·obtain⟨p,ws,rfl,h,t⟩:=kA nv c3.ext rfl
   cases nv with
   | fz h' r _=>exact .inl ⟨_,_,rfl,jT (.inr ⟨_,c3.ext _ _ h'⟩),λr' hr=>k _ ir _ F3 _ q3 ((f1.trans f2).trans f3) (((h1.trans h2).trans h3).trans (ag.upd hr)) (c3.nh hr (r.s.cut _ _) (T3 r.pl _ _))⟩
  ·cases nv with
   | str _=>exact .inr ⟨_,rfl,q3.1,k _ ir _ F3 H3 q3.2 ((f1.trans f2).trans f3) ((h1.trans h2).trans h3) (c3.pushS (.str .nil) rfl)⟩
  ·exact q3.elim⟩⟩⟩
end
theorem vL(a:List Nat):(⟨a.toArray⟩:Str).length=a.length:=by show a.toArray.size=_;simp
end L3
namespace L3
open PySem L2 PySem.Spec PyProof.Rows
noncomputable def ak(l:List Nat):List D:=aC (l.map λ(n:Nat)=>(n:Int))
theorem dF(l:List Nat):(ak l).length=l.length:=by unfold ak;rw[kF,bu]
theorem cI(l:List Nat):ak l=l.map λ(n:Nat)=>D.int (n:Int):=by unfold ak aC;rw[da];rfl
theorem zP(l:List Nat):(ak l).map D.sh=l.map λ(n:Nat)=>D.int (n:Int):=by unfold ak;rw[jl];exact cI l
theorem i3(a b:Nat)(h:D.int (a:Int)=D.int (b:Int)):a=b:=by injection h with h;omega
theorem kH(l:List Nat):(ak l).all D.pl=true:=me _
theorem nB(l:List Nat):(ak l).map D.sh=ak l:=jl _
theorem nC(a b:List Nat):ak a++ak b=ak (a++b):=by unfold ak;rw[pM,jC]
theorem vM(l:List Nat)(lo hi:Option Int):fq (ak l) lo hi=ak (fq l lo hi):=by
 unfold ak
 rw[sU]
 congr 1
 unfold fq
 rw[bu,Q9,Q8]
theorem by4{α:Type}(xs:List α)(b:Nat):fq xs none (some (b:Int))=xs.take b:=by
 have:=cC9 xs 0 b
 unfold fq at this ⊢
 simpa[HT.cV]using this
theorem cl3{α:Type}(xs:List α)(a:Nat):fq xs (some (a:Int)) none=xs.drop a:=by
 unfold fq
 rw[HT.Gj]
 show(xs.drop (min a xs.length)).take (xs.length-min a xs.length)=_
 by_cases h:a<=xs.length
 ·rw[yu h,yq (by rw[ui];exact bJ _)]
 ·rw[Nat.min_eq_right (by omega),List.drop_length,Ra (by omega)];simp
end L3
namespace L2
open PySem PySem.Spec PyProof.Rows
section
variable{X:Cx}{tg l o e:Expr}{tl to te:TE}{apos cg:Pos}
end
end L2
namespace L3
open PySem L2 PySem.Spec PyProof.Rows
section
variable{X:Cx}{F H:Hp}{tg l e:Expr}{te t tb:aQ}{apos cg pos:Pos}
variable{o:Expr}
noncomputable def kG:cL:=λx y Q=>match x,y with
 | .int i,.lst _ xs=>∃ns:List Int,xs=aC ns/\Q (.bl (decide (i∈ns)))
 | _,_=>False
theorem Ul:∀{ns:List Int} {ws:List V},S F H (aC ns) ws->ws=ns.map V.int
 | [],_,s=>by cases s;rfl
 | n::ns,_,s=>by
  cases s with
  | int s=>rw[Ul s];rfl
theorem Um:bR X (compareOp .In) kG :=
 ⟨_,b74,λ{B F H σ δ ts x y v w Q Qd} c sx sy h k=>by
  unfold kG at h
  split at h
  ·rename_i i o xs
   obtain⟨ns,rfl,q⟩:=h
   obtain⟨p,ws,rfl,e1,s1⟩:=iX sy c.ext
   have e:=Ul s1
   subst e
   cases sx
   refine⟨p,_,rfl,.inl (bK.of e1),rfl,by simp[mW],?_⟩
   have ei:zc (.int i) (ns.map V.int)=decide (i∈ns):=by
    unfold zc
    rw[List.any_map,uo,Bv,decide_eq_true_iff]
    constructor
    ·rintro⟨x,hx,he⟩
     have:x=i:=by simpa[lL]using he
     rw[<-this];exact hx
    ·intro hx
     exact⟨i,hx,by simp[lL]⟩
   show Q (.bl (if false then _ else zc (.int i) (ns.map V.int))) H
   rw[if_neg (by decide),ei]
   exact k _ _ _ q (ag.refl _) (c.pushS (.bl .nil) rfl)
  ·exact h.elim⟩
end
end L3
namespace L3
open PySem L2 PySem.Spec PyProof.Rows
end L3
namespace L2
open PySem PySem.Spec PyProof.Rows
noncomputable def Tb(ts:List Addr)(H:Hp):Prop:=∀P∈ts,∃ps,H P=some (.dy ps)
structure vN(ts:List Addr)(H:Hp):Prop where
 any:∀b,H b=none\/(∃o xs,H b=some (.ck o (.lst xs)))\/(b∈ts/\H b=some (.dy #[]))
 tab:∀P∈ts,H P=some (.dy #[])
theorem vN.tb{ts:List Addr}{H:Hp}(h:vN ts H):Tb ts H:=λP hP=>⟨#[],h.tab P hP⟩
noncomputable def Bm(mg:Str->Option Value)(base:Heap):Prop:=∃bm o,mg "__builtins__"=some (.ref bm)/\bm≠builtinsNs/\bm≠mainGlobals/\base.get? bm=some o/\o.cls=.type "module"/\o.dict=some builtinsNs/\o.data=.plain
theorem ci6{P:Program}{w:World}{K:PySem.W.Frag}{mg mb:Str->Option Value}{CX:eZ}{k:Nat}{fa a:Addr}{fd:FuncData}{x:Str}{sp:Sp}{bF:Shared}{vs:List Value}{ns:List Int}{ts:List Addr}
  (KX:K.In bF.heap) (CB:bF.heap.Ns mainGlobals mg) (hb:bF.heap.Ns builtinsNs mb) (hbb:∀x:Str,x≠"__name__"->mb x=bootBuiltins x) (dO5:bF.heap.NoLimit) (hg:bF.gens=#[])
  (ht:∀P∈ts,bF.heap.get? P=some (PySem.W.tabObj #[])) (HB:∀P∈ts,isCodeTable bF.heap P) (hkt:∀P∈ts,K.lookup P=none)
  (ha:bF.heap.get? a=some { cls:=.type "list",data:=.seq vs.toArray }) (hi:IntsAre vs ns) (hl:ns.length<=sizeLine) (hr:cC k callerA)
  (zQ:Bm mg bF.heap) (F:∀base:Heap,K.In base->base.Ns mainGlobals mg->Bm mg base->aN P w K mg base CX k fa fd [x] sp) (dO7:∀(s:Shared) (u:Value),BindsTo s fd ⟨[u],[]⟩ [(x,u)])
  (iN:∀H:Hp,vN ts H->bK K H a (ns.map V.int)->sp [.ref a] H (λv _=>v=.bl true) λ_ _ _=>False)
  (HC:∀H e s',CX [] H bF (λ_ _ _=>False) e s'->False) :
  codeAny (model P w) callerA (.call (.ref fa) ⟨[.ref a],[]⟩) (λr s'=>r=.ok (.ret (.bool true))/\OldK bF.heap s'.heap/\s'.os=bF.os/\AllBare s'.gens) bF:=by
 have rv:=Sv hi
 have dO8:=hi.length
 have nat:a ∉ ts:=λz=>by
  have:=ht a z
  rw[ha]at this
  cases this
 have core:∀H:Hp,vN ts H->bK K H a (ns.map V.int)->cJ P w H bF.heap->(∀b,H b≠none->b=a\/b∈ts)->(H a≠none->K.lookup a=none) ->
   codeAny (model P w) callerA (.call (.ref fa) ⟨[.ref a],[]⟩) (λr s'=>r=.ok (.ret (.bool true))/\OldK bF.heap s'.heap/\s'.os=bF.os/\AllBare s'.gens) bF:=by
  intro H hO hS aG hA hK
  have HD:∀{b:Addr} {o:Obj},bF.heap.get? b=some o->H b=none->(kZ bF.heap H).get? b=some o:=λe n=>cm3 e n
  have zb:∀{b:Addr} {o:Obj} {es:Array DictEntry} {ep:Nat},bF.heap.get? b=some o->o.data=.dict es ep->H b=none:=λ{b o es ep} e d=>by
   cases q:H b with
   | none=>rfl
   | some u =>
    rcases hA b (by rw[q];simp)with e' | e'
    ·subst e'
     rw[ha]at e;cases e
     have d':Data.seq vs.toArray _=Data.dict es ep:=d
     cases d'
    ·rw[ht b e']at e;cases e
     have d':Data.fields #[]=Data.dict es ep:=d
     cases d'
  have CC:∀{b:Addr} {m:Str->Option Value},bF.heap.Ns b m->(kZ bF.heap H).Ns b m:=λ{b m} ⟨o,es,ep,e,d,r⟩=>⟨o,es,ep,HD e (zb e d),d,r⟩
  have Uo:K.In (kZ bF.heap H):=λb o e=>HD (KX b o e) (by
   cases q:H b with
   | none=>rfl
   | some u =>
    rcases hA b (by rw[q];simp)with e' | e'
    ·subst e'
     rw[hK (by rw[q];simp)]at e;cases e
    ·rw[hkt b e']at e;cases e)
  have hBm:Bm mg (kZ bF.heap H):=by
   obtain⟨bm,o,b1,b2,b3,b4,b5,b6,b7⟩:=zQ
   refine⟨bm,o,b1,b2,b3,HD b4 ?_,b5,b6,b7⟩
   cases q:H bm with
   | none=>rfl
   | some u =>
    rcases hA bm (by rw[q];simp)with e' | e'
    ·rw[e',ha]at b4;cases b4
     have d':Data.seq vs.toArray _=Data.plain:=b7
     cases d'
    ·rw[ht bm e']at b4;cases b4
     have d':Data.fields #[]=Data.plain:=b7
     cases d'
  have hM:Mod K mg (kZ bF.heap H):=⟨Uo,CC CB,⟨mb,CC hb,hbb⟩,let⟨mc,h1,h2⟩:=dO5;⟨mc,CC h1,h2⟩⟩
  have e0:iK P w K mg (kZ bF.heap H) callerA [] bF H:=⟨rfl,hM,λb o e=>cF4 e,Bj (cb5 _ _),trivial,λb hb=>absurd (show b∈([]:List Addr) from hb) (by simp),aG,.of_eq hg⟩
  refine codeAny_mono ((F _ Uo (CC CB) hBm).run callerA [] bF H ⟨[.ref a],[]⟩ [.ref a] [.ref a] _ _ hr e0 (dO7 bF (.ref a)) (.cons rfl .nil) (iN H hO hS)) λr s' h=>?_
  cases r with
  | error e=>exact(HC H e s' h).elim
  | ok fl =>
   cases fl with
   | next=>exact fL h
   | brk=>exact fL h
   | cont=>exact fL h
   | ret u =>
    obtain⟨v,H',os,bare,un,Up,r',q⟩:=h
    have q':v=.bl true:=q
    subst q'
    obtain rfl:u=Fc true:=r'
    have each:∀b o,bF.heap.get? b=some o->asItWas bF.heap s'.heap b o/\∃o',s'.heap.get? b=some o':=λb o e=>by
     cases q:H b with
     | none =>
      have z:=un.keep b o e q (by intro z;exact absurd (show b∈([]:List Addr) from z) (by simp)) (by simp)
      exact⟨.inl z,o,z⟩
     | some u =>
      rcases hO.any b with z | ⟨ob,xs,z⟩ | ⟨jo,z⟩
      ·rw[q]at z;cases z
      ·have z2:=un.je b ob _ z
       obtain⟨e1,_⟩:=aG b _ z
       obtain⟨e2,_⟩:=Up b _ z2
       rw[e]at e1;cases e1
       exact⟨.inl e2,_,e2⟩
      ·obtain⟨more,z2⟩:=un.ie b _ z
       have e2:=(Up b _ z2).1
       rw[ht b jo]at e;cases e
       exact⟨.inr (.inl ⟨HB b jo,rfl,#[],more,rfl,e2⟩),_,e2⟩
    exact⟨rfl,⟨λb o e=>(each b o e).1,λb o e=>(each b o e).2⟩,os,bare⟩
 have tok:∀(H:Hp) (b:Addr),b∈ts->dQ P w H bF.heap b (.dy #[]):=λH b hb=>⟨ht b hb,trivial,λpos cv q=>by cases q⟩
 cases hk:K.lookup a with
 | some o =>
  have e:=KX a o hk
  rw[ha]at e
  cases e
  refine core (λb=>if b∈ts then some (.dy #[])else none) ⟨λb=>?_,λb hb=>if_pos hb⟩ (.inr ⟨_,vs.toArray,_,hk,rfl,rfl,rfl,by rw[dw,dO8];exact hl,by simpa using rv⟩) (λb u z=>?_) (λb z=>?_) λz=>absurd (if_neg nat) z
  ·by_cases hb:b∈ts
   ·exact .inr (.inr ⟨hb,if_pos hb⟩)
   ·exact .inl (if_neg hb)
  ·by_cases hb:b∈ts
   ·have z':=(if_pos hb).symm.trans z
    cases z'
    exact tok _ b hb
   ·have z':=(if_neg hb).symm.trans z
    cases z'
  ·by_cases hb:b∈ts
   ·exact .inr hb
   ·exact absurd (if_neg hb) z
 | none =>
  refine core (λb=>if b=a then some (.ck { cls:=.type "list",data:=.seq vs.toArray } (.lst (ns.map V.int)))else if b∈ts then some (.dy #[])else none) ⟨λb=>?_,λb hb=>?_⟩ (.inl (.inr ⟨{ cls:=.type "list",data:=.seq vs.toArray },if_pos rfl⟩)) (λb u z=>?_) (λb z=>?_) λ_=>hk
  ·by_cases hb:b=a
   ·exact .inr (.inl ⟨_,_,if_pos hb⟩)
   ·by_cases jo:b∈ts
    ·exact .inr (.inr ⟨jo,(if_neg hb).trans (if_pos jo)⟩)
    ·exact .inl ((if_neg hb).trans (if_neg jo))
  ·have m8:b≠a:=λz=>nat (z ▸ hb)
   exact(if_neg m8).trans (if_pos hb)
  ·by_cases hb:b=a
   ·have z':=(if_pos hb).symm.trans z
    cases z'
    subst hb
    exact⟨ha,by rw[bu];exact hl,vs,_,rv,ha⟩
   ·by_cases jo:b∈ts
    ·have z':=((if_neg hb).trans (if_pos jo)).symm.trans z
     cases z'
     exact tok _ b jo
    ·have z':=((if_neg hb).trans (if_neg jo)).symm.trans z
     cases z'
  ·by_cases hb:b=a
   ·exact .inl hb
   ·by_cases jo:b∈ts
    ·exact .inr jo
    ·exact absurd ((if_neg hb).trans (if_neg jo)) z
theorem dP2{l:PySem.W.OpenLaw}{n k:Nat}{q:Program}{loose:List Str}{XP:(Str->Option Value)->Heap->Prop}{YP:World->Heap->Prop}{d:DefRec}{K:Params->PySem.W.Frag}{CX:World->eZ}{sp:World->Sp}{x:Str}{ts:List Addr}
  (hn:l.most=some n) (B3:n<=sizeLine) (zf:d.params.defaults=[]) (hr:cC k callerA)
  (hY:∀(w:World) (h:Heap),YP w h->(K w.params).In h/\∀P∈ts,h.get? P=some (PySem.W.tabObj #[]))
  (hC:∀(w:World) (h:Heap),(K w.params).In h->∀P∈ts,(K w.params).lookup P=none/\∃c,PySem.W.CodeHd h c P)
  (F:∀(w:World) (mg:Str->Option Value) (fa:Addr) (h:Heap),(K w.params).In h->h.Ns mainGlobals mg->mg d.name=some (.ref fa) ->
   ∃fd:FuncData,(∀(s:Shared) (u:Value),BindsTo s fd ⟨[u],[]⟩ [(x,u)]) /\
    ∀base:Heap,(K w.params).In base->base.Ns mainGlobals mg->Bm mg base->aN l.prog w (K w.params) mg base (CX w) k fa fd [x] (sp w))
  (iN:∀(w:World) (H:Hp) (a:Addr) (ns:List Int),ns.length<=n->vN ts H->bK (K w.params) H a (ns.map V.int)->sp w [.ref a] H (λv _=>v=.bl true) λ_ _ _=>False)
  (HC:∀(w:World) (H:Hp) (s:Shared) (e:Value) (s':Shared),CX w [] H s (λ_ _ _=>False) e s'->False) :
  PySem.W.WalkO q loose XP YP l.row.toRowW d [] (λf vs=>PySem.call f vs):=by
 refine Att.dA0 hn zf λw cK bF mg mb fa o pm cd doc a vs ns G Y ho hd cO zh Gx hints hlen hg=>?_
 obtain⟨KX,hT⟩:=hY w _ Y
 obtain⟨fd,hb,hF⟩:=F w mg fa _ KX G.T.g zh
 have HB:∀P∈ts,isCodeTable bF.heap P:=λP hP=>by
  obtain⟨_,c,C⟩:=hC w _ KX P hP
  exact(C.tab (hT P hP)).isCodeTable
 have zQ:Bm mg bF.heap:=by
  obtain⟨bm,ob,b1,b2,b3,b4,b5,b6⟩:=G.T.bmain
  refine⟨bm,ob,b1,b2,λq=>?_,b3,b4,b5,b6⟩
  obtain⟨o,es,ep,e,hd,_⟩:=G.T.g
  rw[q,e]at b3;cases b3;rw[hd]at b6;cases b6
 exact ci6 KX G.T.g G.T.b G.T.builtins G.T.nolimit hg hT HB (λP hP=>(hC w _ KX P hP).1) Gx hints (eH hlen B3) hr zQ hF hb (λH hO hS=>iN w H a ns hlen hO hS) λH e s'=>HC w H bF e s'
end L2
namespace L3
open PySem L2 PySem.Spec PyProof.Rows
noncomputable def zR(ts:List Addr)(sp:Sp):Sp:=λvs H Q E=>Tb ts H/\sp vs H Q E
theorem Uq{X:Cx}{pins:List (Addr × Obj)}{σ:L2.St}{H:Hp}{s:Shared}{ts:List Addr}(I:Inv X pins σ H s)(h:Tb ts X.j8):Tb ts H:=λP hP=>by
 obtain⟨ps,e⟩:=h P hP
 obtain⟨m,e2⟩:=I.base.ie P ps e
 exact⟨_,e2⟩
noncomputable def CD(ts:List Addr)(K:PySem.W.Frag):Sp:=λvs H Q _=>∃(a:Addr) (ns:List Int),vs=[.ref a]/\vN ts H/\bK K H a (ns.map V.int)/\ns.length<=63/\∀H',Q (.bl true) H'
theorem ck3{ts:List Addr}{K:PySem.W.Frag}(nl:K.all (λp=>Hr p.2)=true){vs:List V}{H:Hp}{Q:VK}{E:XK}(h:CD ts K vs H Q E):zR ts (bt T5) vs H Q E:=by
 obtain⟨a,ns,rfl,hO,hS,hl,q⟩:=h
 have hz:∃o,H a=some (.ck o (.lst (ns.map V.int))):=by
  rcases hS with (hS | hS) | ⟨o,its,n,hk,hc,_⟩
  ·rcases hO.any a with z | ⟨o,xs,z⟩ | ⟨_,z⟩
   ·rw[hS]at z;cases z
   ·rw[hS]at z;cases z
   ·rw[hS]at z;cases z
  ·exact hS
  ·have hm:=bN0 hk
   have:=cU.mp nl _ hm
   simp[Hr,hc]at this
 obtain⟨o,ho⟩:=hz
 refine⟨hO.tb,H,[.fz (aC ns)],λd=>d=.bl true,ag.refl _,.fz ho (kE ns) .nil,⟨ns,rfl,hl,rfl⟩,λd v F' H' A hd hs hf he h3 r nd fr=>?_⟩
 subst hd
 cases r
 exact q H'
end L3
namespace L2
open PySem PySem.Spec PyProof.Rows
noncomputable def rem(H:Hp)(f c:Addr):Hp:=λb=>if b=f\/b=c then none else H b
noncomputable def nD(H H':Hp)(f c:Addr):Hp:=λb=>if b=f\/b=c then H b else H' b
section
variable{P:Program}{w:World}{H H':Hp}{h:Heap}{a b f c:Addr}{o:HO}{of oc:Obj}
theorem Ur:rem H f c f=none:=if_pos (.inl rfl)
theorem CF:rem H f c c=none:=if_pos (.inr rfl)
theorem gX(h1:b≠f)(h2:b≠c):rem H f c b=H b:=if_neg (by simp[h1,h2])
theorem vO(e:H b=none):rem H f c b=none:=by unfold rem;split;rfl;exact e
theorem Us(e:rem H f c b=some o):b≠f/\b≠c/\H b=some o:=by
 unfold rem at e
 split at e
 ·cases e
 ·rename_i n
  exact⟨λz=>n (.inl z),λz=>n (.inr z),e⟩
theorem pW(h1:b≠f)(h2:b≠c):nD H H' f c b=H' b:=if_neg (by simp[h1,h2])
theorem Ut:nD H H' f c f=H f:=if_pos (.inl rfl)
theorem HE:nD H H' f c c=H c:=if_pos (.inr rfl)
theorem dQ.rem{φ:Heap->Prop}(x:dQ P w H h a o)(ha:a≠f)(hf:H f=some (.ext φ))(hc:H c=some (.own f)\/H c=none)(HF:¬ ∀h',φ h'->∃q,h'.CodeRec (.ref f) q):dQ P w (rem H f c) h a o:=by
 have own:∀b,H b=some (.own a)->L2.rem H f c b=some (.own a):=λb e=>by
  rw[gX (λz=>by subst z;rw[hf]at e;cases e) (λz=>by subst z;rcases hc with hc | hc<;>(rw[hc]at e;cases e);exact ha rfl)];exact e
 have tup:∀b xs,H b=some (.tup xs)->L2.rem H f c b=some (.tup xs):=λb xs e=>by
  rw[gX (λz=>by subst z;rw[hf]at e;cases e) (λz=>by subst z;rcases hc with hc | hc<;>(rw[hc]at e;cases e))];exact e
 induction o with
 | lst xs=>exact x
 | tup xs=>exact x
 | dK dD=>exact x
 | dT dD =>
  obtain⟨z,y,xs,r,ob⟩:=x
  exact⟨z,y,xs,Paired.FC r λp q z=>⟨z.1,tup _ _ z.2.1,z.2.2⟩,ob⟩
 | set S n=>exact x
 | ins C dx fs =>
  obtain⟨d,r⟩:=x
  exact⟨own _ d,r⟩
 | own y=>exact x
 | xd fs=>exact x
 | yN lo hi=>exact x
 | ck ob u ih=>obtain⟨e,q⟩:=x;exact⟨e,ih q⟩
 | dy ps =>
  obtain⟨e,t,cc⟩:=x
  refine⟨e,t,λpos cv q=>?_⟩
  obtain⟨d,φ,e1,e2,e3⟩:=cc pos cv q
  refine⟨d,φ,e1,?_,e3⟩
  rw[gX (λz=>?_) (λz=>by subst z;rcases hc with hc | hc<;>(rw[hc]at e2;cases e2))]
  ·exact e2
  ·subst z
   rw[hf]at e2;cases e2
   exact HF e3
 | met f y=>exact x
 | ext φ=>obtain⟨p,r,st⟩:=x;exact⟨p,r,λh1 h2 p1 kk=>st h1 h2 p1 λb o hb q=>kk b o (hb.imp id (own b)) q⟩
theorem Uu{φ:Heap->Prop}{fd:FuncData}(p:φ h)(g:∀h',φ h'->h'.get? f=some of)(hd:of.data=.func fd):¬ ∀h',φ h'->∃q,h'.CodeRec (.ref f) q:=λz=>by
 obtain⟨q,k,ok,vs,t,q1,q2,q3,_⟩:=z h p
 cases q1
 rw[g h p]at q2;cases q2
 rw[hd]at q3;cases q3
theorem cJ.lam(ok:cJ P w H h)(hf:H f=some (.ext (L3.ji of oc c f))):L3.ji of oc c f h:=(ok f _ hf).1
theorem cJ.rem{fd:FuncData}(ok:cJ P w H h)(hf:H f=some (.ext (L3.ji of oc c f)))(hc:H c=some (.own f))(hd:of.data=.func fd):cJ P w (rem H f c) h:=λb o e =>
 let⟨h1,_,h3⟩:=Us e;(ok b o h3).rem h1 hf (.inl hc) (Uu (ok.lam hf) (λ_ p=>p.1) hd)
end
theorem iK.rem{P:Program}{w:World}{K:PySem.W.Frag}{mg:Str->Option Value}{base:Heap}{A:Around}{outer:List Env}{s:Shared}{H:Hp}{f c:Addr}{of oc:Obj}{fd:FuncData}(e:iK P w K mg base A outer s H)
  (hf:H f=some (.ext (L3.ji of oc c f))) (hc:H c=some (.own f)) (hd:of.data=.func fd):iK P w K mg base A outer s (rem H f c) :=
 ⟨e.frames,e.mod,λb o q=>⟨(e.bs b o q).1,vO (e.bs b o q).2⟩,e.jG,e.gC,λb hb=>vO (e.jH b hb),e.aG.rem hf hc hd,e.bare⟩
theorem CE.add{P:Program}{w:World}{K:PySem.W.Frag}{mg:Str->Option Value}{base:Heap}{A:Around}{outer:List Env}{s s':Shared}{H:Hp}{f c:Addr}{of oc:Obj}{Q Q':VK}{u:Value}(e0:iK P w K mg base A outer s H)
  (hf:H f=some (.ext (L3.ji of oc c f))) (hc:H c=some (.own f)) (h:CE outer P w (rem H f c) s Q u s') (hQ:∀v H',Q v H'->H' f=none->H' c=none->Q' v (nD H H' f c)):CE outer P w H s Q' u s':=by
 obtain⟨v,H',os,bare,un,aG,r,q⟩:=h
 obtain⟨gf,gc⟩:=e0.aG.lam hf
 have Uv:∀{b o},H b=some o->b ∉ eA outer:=λ{b o} e z=>by rw[e0.jH b z]at e;cases e
 have nf:H' f=none:=un.free f _ gf Ur (by simp)
 have nc:H' c=none:=un.free c _ gc CF (by simp)
 have kf:=un.keep f _ gf Ur (Uv hf) (by simp)
 have kc:=un.keep c _ gc CF (Uv hc) (by simp)
 refine⟨v,nD H H' f c,os,bare,⟨λb o e n=>un.keep b o e (vO n),λb o e n=>un.slot b o e (vO n),λb o e n x=>?_,un.there,λb xs e=>?_,λb ob xs e=>?_,λb ps e=>?_⟩,λb o e=>?_,r,hQ v H' q nf nc⟩
 ·rw[pW (λz=>by subst z;rw[hf]at n;cases n) (λz=>by subst z;rw[hc]at n;cases n)]
  exact un.free b o e (vO n) x
 ·have n1:b≠f:=λz=>by subst z;rw[hf]at e;cases e
  have n2:b≠c:=λz=>by subst z;rw[hc]at e;cases e
  rw[pW n1 n2]
  exact un.jF b xs (by rw[gX n1 n2];exact e)
 ·have n1:b≠f:=λz=>by subst z;rw[hf]at e;cases e
  have n2:b≠c:=λz=>by subst z;rw[hc]at e;cases e
  rw[pW n1 n2]
  exact un.je b ob xs (by rw[gX n1 n2];exact e)
 ·have n1:b≠f:=λz=>by subst z;rw[hf]at e;cases e
  have n2:b≠c:=λz=>by subst z;rw[hc]at e;cases e
  rw[pW n1 n2]
  exact un.ie b ps (by rw[gX n1 n2];exact e)
 ·by_cases z:b=f
  ·subst z
   rw[Ut,hf]at e;cases e
   refine⟨⟨kf,kc⟩,⟨_,kf⟩,λh1 h2 p kk=>⟨kk b _ (.inl rfl) p.1,kk c _ (.inr ?_) p.2⟩⟩
   rw[HE];exact hc
  ·by_cases z2:b=c
   ·subst z2
    rw[HE,hc]at e;cases e
    exact⟨_,kc⟩
   ·rw[pW z z2]at e
    have up:∀{b' o'},H' b'=some o'->nD H H' f c b'=some o':=λ{b' o'} q=>by
     rw[pW (λz=>by subst z;rw[nf]at q;cases q) (λz=>by subst z;rw[nc]at q;cases q)];exact q
    exact(aG b o e).jZ (λ_ _ _ q=>q) (λ_ q=>up q) (λ_ _ q=>up q) λ_ _ q=>up q
theorem ck8{prog:Program}{w:World}{A:Around}{R:Result->Shared->Prop}{s:Shared}{a:Addr}{args:Args}{o:Obj}{fd:FuncData}{body:Expr}{q:Str}(dP5:A.depth<recursionLimit)
  (ho:s.heap.get? a=some o)
  (yQ:o.data=.func fd) (hco:fd.scope.isCoroutine=false) (dP7:fd.scope.isGenerator=false) (ik:fd.body=.expr body) (cO:s.heap.CodeRec fd.code q)
  (h:wpAny (model prog w) A.in1 (bindArgs fd args) (λbinds bF =>
   wpAny (model prog w) A.in1 (newFunctionEnv fd.scope fd.globals fd.closure binds (q++".<locals>.") (some a) fd.code none fd.builtins)
    (λenv kb=>kb.heap.NoLimit/\codeAny (model prog w) A (.expr body env) R kb) (λe s'=>R (.error e) s') bF) (λe s'=>R (.error e) s') s) :
  codeAny (model prog w) A (.call (.ref a) args) R s:=by
 refine codeAny_of_tree ?_
 show wpAny _ A.in1 (callAny (.ref a) args) _ _ s
 simp only[callAny]
 refine wpAny_bind (wpAny_load ho ?_)
 obtain⟨c,oc,vs,tq,hc,iG,HG,hq⟩:=cO
 simp only[yQ,callFunction,hco,dP7,ik,hc]
 rw[hc]at h
 refine wpAny_bind (m:=field (.ref c) 1) (wpAny_field iG HG hq (wpAny_bind (wpAny_pure ?_)))
 exact wpAny_bind (wpAny_mono h (λbinds bF CG=>wpAny_bind (wpAny_mono CG (λenv kb Uw=>wpAny_bind (wpAny_enterFrame Uw.1 dP5
  (wpAny_pure (And.intro rfl Uw.2)))) λ_ _ h'=>h')) λ_ _ h'=>h')
structure Ux(p1 p2 x:Str)(sc:Scope):Prop where
 kind:sc.kind=.function
 co:sc.isCoroutine=false
 gen:sc.isGenerator=false
 nd:[p1,p2,x].Nodup
 l1:sc.names.lookup p1=some .local
 l2:sc.names.lookup p2=some .local
 Uy:∀y∈sc.names,y.2≠.cell
 only:∀y∈sc.names,y.2=.free->y.1=x
 lx:sc.names.lookup x=some .free
noncomputable def s9(CX:eZ)(P:Program)(w:World)(K:PySem.W.Frag)(mg:Str->Option Value)(base:Heap)(N:List Str)(qual:Str)(scope:Scope)(f:Addr)(cd:Value)(cl:List (Str × Addr))(A:Around)(outer:List Env)(s:Shared)(H:Hp)(E:XK):Cx where
 prog:=P
 w:=w
 K:=K
 mg:=mg
 base:=base
 A:=A.deeper (PySem.W.envX qual scope s.heap.objs.size f cd cl)
 N:=N
 cK:=s
 j8:=H
 env:=PySem.W.envX qual scope s.heap.objs.size f cd cl
 outer:=outer
 stack:=PySem.W.envX qual scope s.heap.objs.size f cd cl::outer
 ex:=[]
 calm:=true
 fn:=λ_=>false
 pn:=[]
 xe:=λe s'=>wpAny (model P w) (A.deeper (PySem.W.envX qual scope s.heap.objs.size f cd cl)) (leaving (PySem.W.envX qual scope s.heap.objs.size f cd cl) e) (λ_ q8=>CX outer H s E e q8) (λe' q8=>CX outer H s E e' q8) s'
theorem cJ7{CX:eZ}{P:Program}{w:World}{K:PySem.W.Frag}{mg:Str->Option Value}{base:Heap}{p1 p2 x qn q:Str}{params:Arguments}{body:Expr}{scope:Scope}{pm i4:Value}{f c c':Addr}{k:Nat}{A:Around}{outer:List Env}{s:Shared}{H:Hp}{E:XK}
  {u1 u2 uc:Value} {v1 v2 vc:V} {Q:VK} {t:TE} {args:Args} (S:Ux p1 p2 x scope) (e0:iK P w K mg base A outer s H) (hr:cC (k+1) A)
  (hf:s.heap.get? f=some (PySem.W.kla_obj "<lambda>" qn params body scope [(x,c)] pm c' i4)) (hc:s.heap.IsCell c (some uc)) (rc:RelV vc uc) (hH:H c=none) (cO:s.heap.CodeRec (.ref c') q)
  (hb:bindArgs (PySem.W.kla_fn "<lambda>" qn params body scope [(x,c)] pm (.ref c') i4) args=pure [(p1,u1),(p2,u2)]) (r1:RelV v1 u1) (r2:RelV v2 u2)
  (ht:PE (s9 CX P w K mg base [p1,p2,x] q scope f (.ref c') [(x,c)] A outer s H E) body t) (h:t [some v1,some v2,some vc] H Q) :
  codeAny (model P w) A (.call (.ref f) args) (CR CX outer P w H s Q E) s:=by
 have lim:s.heap.NoLimit:=e0.mod.nolimit.keeps λb o e=>(e0.bs b o e).1
 refine ck8 hr.depth hf rfl S.co S.gen rfl cO ?_
 rw[hb]
 have dP9:∀y∈[(p1,u1),(p2,u2)],scope.names.lookup y.1=some .local:=λy hy=>by
  simp at hy
  rcases hy with rfl | rfl
  ·exact S.l1
  ·exact S.l2
 refine wpAny_pure (wpAny_newFunctionEnv S.Uy dP9 (λCG CB Uz=>⟨lim.fresh _ Uz,?_⟩) S.kind)
 show codeAny _ _ (.expr body (PySem.W.envX q scope s.heap.objs.size f (.ref c') [(x,c)])) _ _
 have hk:∀b o,s.heap.get? b=some o->CG.get? b=some o:=λb o e=>Uz.extBut b o (eY (bI e)) (eF _ e)
 have ft:p1≠p2/\p1≠x/\p2≠x:=by have:=S.nd;simp at this;exact⟨this.1.1,this.1.2,this.2⟩
 have look:∀y d,([(x,c)]:List (Str × Addr)).lookup y=some d->y=x/\d=c:=λy d e=>by
  rw[gi]at e
  split at e
  ·rename_i z;exact⟨beq_iff_eq.mp z,(cN e).symm⟩
  ·cases e
 have I:Inv (s9 CX P w K mg base [p1,p2,x] q scope f (.ref c') [(x,c)] A outer s H E) [] [some v1,some v2,some vc] H { s with heap:=CG,toks:=s.toks+[(p1,u1),(p2,u2)].length }:=by
  refine⟨⟨e0.mod,S.kind,rfl,rfl,bJ _,λy z d h1 h2=>?_,λy hy=>?_,λy d z _=>absurd z (by simp[s9]),λ_=>hr.hd,Around.frames_deeper e0.frames,.inr ⟨rfl,rfl⟩,λb z=>absurd z (by simp[s9]),e0.bs,e0.jG,λb _ _=>by simp[s9],λb z=>absurd z (by simp[s9]),e0.gC,e0.jH⟩,
   rfl,e0.bare,Un.kept hk,⟨_,CB,λi y v h1 h2 h3=>?_⟩,λy d h=>?_,e0.aG.fresh (bJ _),λy d h=>?_,λp hp=>absurd (show p∈([]:List (Addr × Obj)) from hp) (by simp),e0.aG.kept hk,rfl⟩
  ·exact(look y d h1).1.trans (look z d h2).1.symm
  ·have hy:scope.names.lookup y=some .cell\/scope.names.lookup y=some .free:=hy
   rcases hy with hy | hy
   ·exact absurd rfl (S.Uy _ (PySem.mem_of_lookup hy))
   ·obtain rfl:y=x:=S.only _ (PySem.mem_of_lookup hy) rfl
    exact⟨c,by show([(y,c)]:List (Str × Addr)).lookup y=_;rw[gi,beq_self_eq_true]⟩
  ·match i,h1,h2 with
   | 0,h1,h2 =>
    cases h1;cases h2
    exact⟨u1,r1,.inl ⟨S.l1,by
     show([(p1,u1),(p2,u2)]:List (Str × Value)).reverse.lookup p1=_
     simp[gi,beq_eq_false_iff_ne.mpr ft.1]⟩⟩
   | 1,h1,h2 =>
    cases h1;cases h2
    exact⟨u2,r2,.inl ⟨S.l2,by
     show([(p1,u1),(p2,u2)]:List (Str × Value)).reverse.lookup p2=_
     simp[gi]⟩⟩
   | 2,h1,h2 =>
    cases h1;cases h2
    exact⟨uc,rc,.inr ⟨.inr S.lx,c,by show([(x,c)]:List (Str × Addr)).lookup x=_;rw[gi,beq_self_eq_true],hc.keeps hk⟩⟩
   | n+3,h1,h2=>cases h2
  ·obtain⟨rfl,rfl⟩:=look y d h
   exact⟨_,hc.keeps hk⟩
  ·obtain⟨rfl,rfl⟩:=look y d h
   exact hH
 refine PySem.W.kla_codeExpr (wpAny_mono (ht [] _ _ H _ I h) (λu s' hs=>?_) λe s' hs=>hs)
 obtain⟨v,H',J,rv,q⟩:=hs
 exact⟨v,H',J.os,J.bare,J.base,J.aG,rv,q⟩
end L2
namespace L3
open PySem L2 PySem.Spec PyProof.Rows
theorem ag.nD{H H':Hp}{f c:Addr}{o1 o2:HO}(h:ag (rem H f c) H')(h1:H f=some o1)(n1:iS o1=true)(h2:H c=some o2)(n2:iS o2=true):ag H (nD H H' f c) where
 get b o e n:=by
  by_cases z:b=f
  ·rw[z,Ut,<- z];exact e
  ·by_cases z2:b=c
   ·rw[z2,HE,<- z2];exact e
   ·rw[pW z z2];exact h.get b o (by rw[gX z z2];exact e) n
 tb b ps e:=by
  have z:b≠f:=λz=>by subst z;rw[h1]at e;cases e;cases n1
  have z2:b≠c:=λz=>by subst z;rw[h2]at e;cases e;cases n2
  rw[pW z z2]
  exact h.tb b ps (by rw[gX z z2];exact e)
noncomputable abbrev vP:=Int->Int->(Int->Prop)->Prop
structure zS(P:Program)(w:World)(K:PySem.W.Frag)(mg:Str->Option Value)(base:Heap)(n:Nat)(of oc:Obj)(c k:Addr)(sp:vP):Prop where
 fn:∃o1 od fd sl,of=⟨o1,od,.func fd,sl⟩
 run:∀(A:Around) (outer:List Env) (s:Shared) (H:Hp) (f:Addr) (t u:Tok) (i j:Int) (Qd:Int->Prop),cC n A->iK P w K mg base A outer s H->s.heap.get? f=some of->s.heap.get? c=some oc->H c=none->(∃q,s.heap.CodeRec (.ref k) q)->sp i j Qd ->
  codeAny (model P w) A (.call (.ref f) ⟨[.int i t,.int j u],[]⟩) (CR aS outer P w H s (λv H'=>∃r,v=.int r/\Qd r/\ag H H') (λ_ _ _=>False)) s
noncomputable def tf(L:Obj->Obj->Addr->Addr->vP->Prop)(i:Nat)(ta:cG):aQ:=λδ Q=>∃of oc c k sp,δ[i]?=some (some (.bL (.lam of oc c k)))/\L of oc c k sp/\ta δ λds ah=>∃a b,ds=[.int a,.int b]/\sp a b λr=>Q (.int r) ah
theorem UA{X:Cx}{n i:Nat}{x:Str}{p pos:Pos}{e1 e2:Expr}{ta:cG}(hN:X.N[i]?=some x)(hv:lh X.env.scope x)(hr:cC n X.A)(ha:PA X [e1,e2] (lA ta))
  (hd:(x==("__debug__":Str))=false:=by decide) (cO:(x==("__classdict__":Str))=false:=by decide) (he:starEach [e1,e2] X.env=(false,eval e1 X.env)::starEach [e2] X.env:=by rfl) (bG:(backTo pos (starEach [e2] X.env)).any (·.1)=false:=by rfl) :
  PE X (.Call (.Name x p) [e1,e2] [] pos) (lE (tf (zS X.prog X.w X.K X.mg X.base n) i ta)):=by
 intro pins s σ H Q I zz
 obtain⟨B,F,δ,ts,Qd,c,⟨of,oc,cc,k,sp,ed,L,q⟩,kk⟩:=zz
 obtain⟨v,ev,sv⟩:=c.look ed
 obtain⟨f,rfl,lam⟩:∃f,v=.ref f/\jO H f of oc cc k:=by
  cases sv with
  | bL h _=>exact⟨_,rfl,h⟩
 refine wpAny_Call_Name_kw (aP (qT hN hv hd cO pins s σ H (λv' H'=>v'=.ref f/\H'=H) I ⟨_,ev,rfl,rfl⟩) λu s1 zz=>?_)
 obtain⟨v',H',I1,r1,e1,e2⟩:=zz
 subst e1 e2
 obtain rfl:u=.ref f:=r1
 have fnAt:∀{H1:Hp} {s2:Shared},Inv X pins σ H1 s2->jO H1 f of oc cc k->PySem.W.FnAt f s2.heap:=λ{H1 s2} J l=>by
  obtain⟨o1,od,fd,sl,e⟩:=L.fn
  exact⟨o1,od,fd,sl,by rw[<-e];exact(J.aG.lam l.fn).1⟩
 refine PySem.W.callWith_F (fnAt I1 lam) (aP (ha pos pins s1 σ H' (λvs H2=>∃a b ah F',vs=[.int a,.int b]/\(sp a b λr=>Qd (.int r) ah)/\ag F F'/\ag H' H2/\au B F' H2 σ ah ts) I1
  ⟨B,F,δ,ts,_,c,q,λds ah vs F' H2 ⟨a,b,eds,q2⟩ f1 h1 c1 s1=>?_⟩) λus s2 ⟨vs,H2,I2,r2,a,b,ah,F',evs,q2,f1,h1,c1⟩=>⟨fnAt I2 ((show rk H' f (.lam of oc cc k) from lam).mono λa o e _ t=>h1.get a o e t),?_⟩) he bG
 ·subst eds
  refine⟨a,b,ah,F',?_,q2,f1,h1,c1⟩
  cases s1 with
  | int s1=>cases s1 with
   | int s1=>cases s1;rfl
 ·subst evs
  have pX:jO H2 f of oc cc k:=(show rk H' f (.lam of oc cc k) from lam).mono λa o e _ t=>h1.get a o e t
  obtain⟨o1,od,fd,sl,eof⟩:=L.fn
  have dQ2:of.data=.func fd:=by rw[eof]
  obtain⟨gf,gc⟩:=I2.aG.lam pX.fn
  obtain⟨ψ,eψ,zT⟩:=pX.GY
  obtain⟨u1,u2,t1,t2,rfl⟩:∃(u1 u2:Unit) (t1 t2:Tok),us=[.int a t1,.int b t2]:=by
   cases r2 with
   | cons ra r2=>cases r2 with
    | cons rb r2 =>
     cases r2
     obtain⟨t1,rfl⟩:=ra
     obtain⟨t2,rfl⟩:=rb
     exact⟨(),(),t1,t2,rfl⟩
  refine wpAny_call (codeAny_mono (L.run X.A X.stack s2 (rem H2 f cc) f t1 t2 a b _ hr (I2.za.rem pX.fn pX.cell dQ2) gf gc CF (zT _ (I2.aG k _ eψ).1) q2) λr s' hq=>?_)
  cases r with
  | error e=>exact hq.elim
  | ok fl =>
   cases fl with
   | ret u =>
    refine I2.after (CE.add I2.za pX.fn pX.cell hq (Q':=Q) ?_)
    rintro v H3 ⟨r,rfl,hqd,hs⟩ nf nc
    have sm:=hs.nD pX.fn rfl pX.cell rfl
    exact kk _ ah _ F' _ hqd f1 (h1.trans sm) ((c1.grow sm).pushS (.int .nil) rfl)
   | next=>exact fL hq
   | brk=>exact fL hq
   | cont=>exact fL hq
end L3
namespace L2
open PySem PySem.Spec PyProof.Rows
theorem bJ4{p:Pos}{c:Value}(l:List Value)(h:TriplesOk l):TriplesOk (l++[rawInt p.line,rawInt p.col,c]):=by
 fun_induction TriplesOk l with
 | case1=>simp[TriplesOk,rawInt]
 | case2 a b d e f rest ih=>exact ih h
 | case3=>exact h.elim
theorem bX4{p q:Pos}{c cv:Value}(l:List Value)(h:TriplesOk l)(e:codeAmong q (l++[rawInt p.line,rawInt p.col,c])=some cv):codeAmong q l=some cv\/cv=c:=by
 fun_induction TriplesOk l with
 | case1 =>
  simp only[mF,rawInt,codeAmong]at e
  split at e
  ·exact .inr (cN e).symm
  ·cases e
 | case2 a b d e' f rest ih =>
  simp only[qO,codeAmong]at e ⊢
  split at e
  ·rename_i z;rw[if_pos z];exact .inl e
  ·rename_i z;rw[if_neg z];exact ih h e
 | case3=>exact h.elim
noncomputable def nE(f:Addr)(o:Obj):Heap->Prop:=λh=>h.get? f=some o
noncomputable def c96(P c:Addr)(x:Str)(params:Arguments)(body:Expr)(scope:Scope):TE:=λ_ H Q=>(∃ps,H P=some (.dy ps)) /\
 ∀f k qn pm i4 H',H f=none->H' f=some (.ext (nE f (PySem.W.kla_obj "<lambda>" qn params body scope [(x,c)] pm k i4)))->L3.GX H' k->k≠f->L3.ag H H'->(∀a ws,H' a=some (.lst ws)->H a=some (.lst ws))->Q (.ref f) H'
theorem UB{X:Cx}{P c cc:Addr}{x:Str}{params:Arguments}{body:Expr}{scope:Scope}{pos:Pos}(dM:closureFor scope X.env=pure [(x,c)])(CH:X.env.code=.ref cc)(hK:PySem.W.codeHdIn X.K cc P=true)(zQ:Bm X.mg X.base)
  (dQ8:defaultsOf params X.env=([],[]):=by rfl):PE X (.Lambda params body scope pos) (c96 P c x params body scope):=by
 intro pins s σ H Q I zz
 obtain⟨⟨ps,hP⟩,q⟩:=zz
 obtain⟨bm,ob,b1,b2,b3,b4,b5,b6,b7⟩:=zQ
 have C:=PySem.W.codeHd_of_K I.df hK
 obtain⟨oP,CI,codes⟩:=I.aG P _ hP
 have hg:=I.mod.glob.keeps I.bk
 have UC:∀{b o},X.base.get? b=some o->b≠P:=λ{b o} e z=>by
  have:=(I.bs b o e).2
  rw[z,hP]at this;cases this
 have hgP:mainGlobals≠P:=by
  obtain⟨o,es,ep,e,_⟩:=I.mod.glob
  exact UC e
 have UD:s.heap.BuiltinsAt X.mg P:=⟨bm,ob,b1,b2,b3,UC b4,I.bk _ _ b4,b5,b6,b7⟩
 refine PySem.W.kla_eval dQ8 ?_
 have fresh:∀{b:Addr},s.heap.objs.size<=b->H b=none:=λ{b} h=>I.aG.fresh h
 cases vQ:codeAmong pos ps.toList with
 | none =>
  refine PySem.W.kla_makeFunction (mg:=X.mg) dM I.ok.glob hg CH C oP CI vQ hgP UD λk i4 h' tk hx zU fX dR0 UE=>?_
  have HH:P<s.heap.objs.size:=bI oP
  have hPk:k≠P:=λz=>by rw[z]at zU;exact absurd HH (yx.mpr zU)
  have tu:s.heap.objs.size<=h'.objs.size:=eH zU (Bg fX)
  have hPf:h'.objs.size≠P:=λz=>by rw[<-z]at HH;exact absurd HH (yx.mpr tu)
  have UG:k≠h'.objs.size:=eY fX
  generalize UH:PySem.W.kla_obj "<lambda>" (X.env.qual++"<lambda>") params body scope [(x,c)] ((X.mg "__name__").getD .none) k i4=obj
  have eN:obj.isFreed=false:=by rw[<-UH];rfl
  have zV:∀b,b≠P->b≠k->b≠h'.objs.size->upd (upd (upd H P (.dy (ps++#[rawInt pos.line,rawInt pos.col,.ref k]))) k (.ext λh=>∃q,h.CodeRec (.ref k) q)) h'.objs.size (.ext (nE h'.objs.size obj)) b=H b:=λb n1 n2 n3=>by
   rw[bc n3,bc n2,bc n1]
  have CJ:upd (upd (upd H P (.dy (ps++#[rawInt pos.line,rawInt pos.col,.ref k]))) k (.ext λh=>∃q,h.CodeRec (.ref k) q)) h'.objs.size (.ext (nE h'.objs.size obj)) h'.objs.size=some (.ext (nE h'.objs.size obj)):=cy
  have atK:upd (upd (upd H P (.dy (ps++#[rawInt pos.line,rawInt pos.col,.ref k]))) k (.ext λh=>∃q,h.CodeRec (.ref k) q)) h'.objs.size (.ext (nE h'.objs.size obj)) k=some (.ext λh=>∃q,h.CodeRec (.ref k) q):=by rw[bc UG,cy]
  have CK:upd (upd (upd H P (.dy (ps++#[rawInt pos.line,rawInt pos.col,.ref k]))) k (.ext λh=>∃q,h.CodeRec (.ref k) q)) h'.objs.size (.ext (nE h'.objs.size obj)) P=some (.dy (ps++#[rawInt pos.line,rawInt pos.col,.ref k])):=by rw[bc hPf.symm,bc hPk.symm,cy]
  generalize hHn:upd (upd (upd H P (.dy (ps++#[rawInt pos.line,rawInt pos.col,.ref k]))) k (.ext λh=>∃q,h.CodeRec (.ref k) q)) h'.objs.size (.ext (nE h'.objs.size obj))=Hn at zV CJ atK CK
  have old:∀{b o},H b=some o->b≠P->Hn b=some o:=λ{b o} e n=>by
   have hb:b<s.heap.objs.size:=I.aG.lt e
   rw[zV b n (λz=>absurd hb (yx.mpr (z ▸ zU))) (λz=>absurd hb (yx.mpr (z ▸ tu)))];exact e
  have kept:∀b o,b≠P->s.heap.get? b=some o->(h'.push obj).get? b=some o:=λb o n e=>eF _ (hx b o n e)
  have un:Un X.fs [] H Hn s.heap (h'.push obj):=by
   refine⟨λb o e n _ _=>kept b o (λz=>by rw[z,hP]at n;cases n) e,λb o e n _ _=>⟨o.slots,kept b o (λz=>by rw[z,hP]at n;cases n) e⟩,λb o e n _=>?_,λb o e _=>?_,λb xs e=>old e (λz=>by rw[z,hP]at e;cases e),λb ob xs e=>old e (λz=>by rw[z,hP]at e;cases e),λb UI e=>?_⟩
   ·have hb:=bI e
    rw[zV b (λz=>by rw[z,hP]at n;cases n) (λz=>absurd hb (yx.mpr (z ▸ zU))) (λz=>absurd hb (yx.mpr (z ▸ tu)))];exact n
   ·by_cases z:b=P
    ·rw[z];exact⟨_,eF _ UE⟩
    ·exact⟨o,kept b o z e⟩
   ·by_cases z:b=P
    ·subst z
     rw[hP]at e;cases e
     exact⟨_,CK⟩
    ·exact⟨#[],by rw[old e z];simp⟩
  have aG:cJ X.prog X.w Hn (h'.push obj):=λb o e=>by
   by_cases z1:b=h'.objs.size
   ·subst z1
    rw[CJ]at e;cases e
    exact⟨fO _ eN,⟨_,fO _ eN⟩,λh1 h2 p kk=>kk _ _ (.inl rfl) p⟩
   ·by_cases z2:b=k
    ·subst z2
     rw[atK]at e;cases e
     have hr:=dR0.push obj
     refine⟨⟨_,hr⟩,?_,λh1 h2 ⟨q,c1,o1,vs,t,e1,e2,r⟩ kk=>?_⟩
     ·obtain⟨c1,o1,vs,t,e1,e2,_⟩:=hr
      cases e1
      exact⟨o1,e2⟩
     ·cases e1
      exact⟨q,_,o1,vs,t,rfl,kk _ _ (.inl rfl) e2,r⟩
    ·by_cases z3:b=P
     ·subst z3
      rw[CK]at e;cases e
      refine⟨eF _ UE,by rw[dh1];exact bJ4 _ CI,λp' cv e'=>?_⟩
      rw[dh1]at e'
      rcases bX4 _ CI e' with e' | e'
      ·obtain⟨d,φ,e1,e2,e3⟩:=codes p' cv e'
       exact⟨d,φ,e1,old e2 (λz=>by rw[z,hP]at e2;cases e2),e3⟩
      ·exact⟨k,_,e',atK,λh' p=>p⟩
     ·rw[zV b z3 z2 z1]at e
      have nP:∀{b' o'},H b'=some o'->(∀ps,o'≠.dy ps)->b'≠P:=λ{b' o'} e n z=>by rw[z,hP]at e;cases e;exact n _ rfl
      refine(I.aG b o e).jZ (λb' u zW e'=>kept b' u ?_ e') (λb' e'=>old e' (nP e' (λps z=>by cases z))) (λb' xs e'=>old e' (nP e' (λps z=>by cases z))) λb' φ e'=>old e' (nP e' (λps z=>by cases z))
      rcases zW with rfl | zW
      ·exact z3
      ·exact nP zW (λps z=>by cases z)
  refine⟨.ref h'.objs.size,Hn,I.un un aG,rfl,q _ k _ _ _ _ (fresh tu) (by rw[UH];exact CJ) ⟨_,atK,λh p=>p⟩ UG ⟨λb o e n=>old e (λz=>by rw[z,hP]at e;cases e;cases n),λb UI e=>?_⟩ λa ws e=>?_⟩
  ·exact un.ie b UI e
  ·by_cases z1:a=h'.objs.size
   ·subst z1;rw[CJ]at e;cases e
   ·by_cases z2:a=k
    ·subst z2;rw[atK]at e;cases e
    ·by_cases z3:a=P
     ·subst z3;rw[CK]at e;cases e
     ·rw[zV a z3 z2 z1]at e;exact e
 | some cv =>
  obtain⟨k,φ,rfl,hk,HF⟩:=codes pos cv vQ
  refine PySem.W.kla_makeFunctionHit (mg:=X.mg) dM I.ok.glob hg CH C oP CI vQ UD λi4 h' tk hx tu=>?_
  have hf:=fresh tu
  refine⟨.ref h'.objs.size,upd H h'.objs.size (.ext (nE h'.objs.size (PySem.W.kla_obj "<lambda>" (X.env.qual++"<lambda>") params body scope [(x,c)] ((X.mg "__name__").getD .none) k i4))),I.laid (λb u e=>eF _ (hx b u e)) tu ?_,rfl,q _ k (X.env.qual++"<lambda>") ((X.mg "__name__").getD .none) i4 _ hf cy ⟨φ,?_,HF⟩ (fh hk hf) (L3.ag.of λb o e=>?_) λa ws e=>?_⟩
  ·exact⟨fO _ rfl,⟨_,fO _ rfl⟩,λh1 h2 p kk=>kk _ _ (.inl rfl) p⟩
  ·rw[bc (fh hk hf)];exact hk
  ·rw[bc (fh e hf)];exact e
  ·by_cases z:a=h'.objs.size
   ·subst z;rw[cy]at e;cases e
   ·rw[bc z]at e;exact e
end L2
namespace L2
open PySem PySem.Spec PyProof.Rows
structure CL(K:PySem.W.Frag)(C:Addr)(m:Str)(f:Addr):Prop where
 ga:PySem.W.specialIn K (.ref C) "__getattribute__"=some (some (.builtin "type.__getattribute__"))
 rd:PySem.W.readsIn K C (.type "type")=true
 at_:PySem.W.findCls K (.ref C) (.type "type") m=some (.val (.ref f))
 kp:PySem.W.keepIn K (.ref f)=true
section
variable{X:Cx}{CX:eZ}{k:Nat}{f C:Addr}{fd:FuncData}{ps:List Str}{sp:Sp}{E:XK}{x m:Str}{p pos apos:Pos}{e o:Expr}{es:List Expr}{ta:TE}{t:TA}
theorem cn6{pins:List (Addr × Obj)}{σ:St}{H:Hp}{s:Shared}{pl:Sem Bool}{A:Around}{E':Value->Shared->Prop}{Q:Value × List Value->Shared->Prop}(I:Inv X pins σ H s)(M:CL X.K C m f)(h:∀s',Inv X pins σ H s'->Q (.ref f,[]) s') :
  wpAny (model X.prog X.w) A (getMethod (.ref C) m pl) Q E' s :=
 PySem.W.method_cls I.df M.ga (PySem.W.cls_value (mc:=.type "type") I.df M.rd M.at_ rfl (h _ (I.tok _)))
theorem cH9{pins:List (Addr × Obj)}{σ:St}{H:Hp}{s:Shared}{pl:Sem Bool}{Q:Value->Shared->Prop}{QA:List V->Hp->Prop}(I:Inv X pins σ H s)(M:CL X.K C m f)(hg:Gl X x)(hm:X.mg x=some (.ref C))(ha:PA X (e::es) t)(h:t σ H QA)
  (hq:∀us s1 vs H1,Inv X pins σ H1 s1->Vals vs us->QA vs H1->wpAny (model X.prog X.w) X.A (call (.ref f) us) Q X.xe s1)
  (e7:(x==("__debug__":Str))=false:=by decide) (dg:starEach (e::es) X.env=(false,eval e X.env)::starEach es X.env:=by rfl) (bG:(backTo pos (starEach es X.env)).any (·.1)=false:=by rfl)
  (ht:eval (.Call (.Attribute (.Name x p) m apos) (e::es) [] pos) X.env=(do
   let ov<-eval (.Name x p) X.env
   standAt apos.atName
   let (f,first)<-holding [ov] (getMethod ov m pl)
   callWith pos f first (backTo pos (starEach (e::es) X.env)) (backToKw pos (keywordEach [] X.env))):=by rfl) :
  wpAny (model X.prog X.w) X.A (eval (.Call (.Attribute (.Name x p) m apos) (e::es) [] pos) X.env) Q X.xe s:=by
 refine PySem.W.methodCall_KW (pl:=pl) (BQ I hg hm ?_ e7) ht
 refine cn6 I M λs1 I1=>?_
 refine PySem.W.callWith_K (first:=[]) (h₀:=X.base) I.ok.mod.mS M.kp (aP (ha pos pins s1 σ H _ I1 h) λus s2 ⟨vs,H2,I2,r,q2⟩=>⟨I2.df,?_⟩) dg bG
 exact hq us s2 vs H2 I2 r q2
noncomputable def cW2(sp:Sp)(E:XK)(c:Addr)(i:Nat)(t:TA):TE:=λσ H Q=>t σ H λvs H1=>∃f of fd v,H1 f=some (.ext (nE f of))/\of.data=.func fd/\σ[i]?=some (some v) /\
 ∀oc u,oc.data=.cell (some u)->RelV v u->H1 c=none->c≠f->sp vs (upd (upd H1 f (.ext (L3.ji of oc c f))) c (.own f)) (λr H2=>H2 f=some (.ext (L3.ji of oc c f))/\H2 c=some (.own f)/\Q r (rem H2 f c)) E
theorem UJ{pl:Sem Bool}{y:Str}{c:Addr}{i:Nat}(M:CL X.K C m f)(F:aN X.prog X.w X.K X.mg X.base aS k f fd ps sp)(hr:cC k X.A)(hb:Binds X.K fd ps [])(hg:Gl X x)(hm:X.mg x=some (.ref C))
  (hN:X.N[i]?=some y) (hy:X.env.scope.names.lookup y=some .cell) (dM:X.env.cells.lookup y=some c) (yT:X.fn y=true) (ha:PA X (e::es) t)
  (e7:(x==("__debug__":Str))=false:=by decide) (dg:starEach (e::es) X.env=(false,eval e X.env)::starEach es X.env:=by rfl) (bG:(backTo pos (starEach es X.env)).any (·.1)=false:=by rfl)
  (ht:eval (.Call (.Attribute (.Name x p) m apos) (e::es) [] pos) X.env=(do
   let ov<-eval (.Name x p) X.env
   standAt apos.atName
   let (f,first)<-holding [ov] (getMethod ov m pl)
   callWith pos f first (backTo pos (starEach (e::es) X.env)) (backToKw pos (keywordEach [] X.env))):=by rfl) :
  PE X (.Call (.Attribute (.Name x p) m apos) (e::es) [] pos) (cW2 sp E c i t):=by
 intro pins s σ H Q I h
 refine cH9 (pl:=pl) I M hg hm ha h (λus s1 vs H1 I1 r ⟨fa,of,fdd,v,hf,hd,hv,hq⟩=>?_) e7 dg bG ht
 obtain⟨ml,_,hl⟩:=I1.loc
 obtain⟨u,rv,lk⟩:=hl i y v hN hv (.inr (.inl hy))
 obtain⟨oc,gc,iG⟩:∃oc,s1.heap.get? c=some oc/\oc.data=.cell (some u):=by
  rcases lk with⟨hk,_⟩ | ⟨_,c',mT,ic⟩
  ·rw[show X.env.kindOf y=some .cell from hy]at hk;cases hk
  ·rw[dM]at mT;cases mT;exact ic
 have nc:H1 c=none:=I1.jf y c dM
 have pY:c≠fa:=λz=>by rw[z,hf]at nc;cases nc
 have gf:s1.heap.get? fa=some of:=(I1.aG fa _ hf).1
 have mU:=hq oc u iG rv nc pY
 have UK:=I1.ok.qS y c yT dM
 generalize hH:upd (upd H1 fa (.ext (L3.ji of oc c fa))) c (.own fa)=Hp at mU
 have UL:Hp c=some (.own fa):=by rw[<-hH,cy]
 have atf:Hp fa=some (.ext (L3.ji of oc c fa)):=by rw[<-hH,bc pY.symm,cy]
 have mj:∀b,b≠fa->b≠c->Hp b=H1 b:=λb n1 n2=>by rw[<-hH,bc n2,bc n1]
 have nfs:c ∉ X.fs:=λhb=>by
  obtain⟨_,o,ho,_⟩:=I1.ok.gC.mem hb
  exact absurd (cT (bI ho) UK) (fw _)
 have nst:∀b∈eA X.stack,b≠c:=λb hb z=>by
  rcases bY.mp (I1.BN b hb)with e | hb
  ·exact I1.oI y c dM (z ▸ e)
  ·exact nfs (z ▸ hb)
 have dS1:cJ X.prog X.w Hp s1.heap:=λb ob q=>by
  by_cases z1:b=c
  ·subst z1;rw[UL]at q;cases q;exact⟨_,gc⟩
  ·by_cases z2:b=fa
   ·subst z2;rw[atf]at q;cases q
    exact⟨⟨gf,gc⟩,⟨_,gf⟩,λh1 h2 p kk=>⟨kk _ _ (.inl rfl) p.1,kk _ _ (.inr UL) p.2⟩⟩
   ·rw[mj b z2 z1]at q
    have x1:=(I1.aG b ob q).rem (f:=fa) (c:=c) z2 hf (.inr nc) (Uu gf (λ_ p=>p) hd)
    have up:∀{b' o'},rem H1 fa c b'=some o'->Hp b'=some o':=λ{b' o'} q=>by
     obtain⟨n1,n2,q'⟩:=Us q
     rw[mj b' n1 n2];exact q'
    exact x1.jZ (λ_ _ _ q=>q) (λ_ q=>up q) (λ_ _ q=>up q) λ_ _ q=>up q
 have e0:iK X.prog X.w X.K X.mg X.base X.A X.stack s1 Hp:=by
  have e1:=I1.za
  refine⟨e1.frames,e1.mod,λb ob q=>⟨(e1.bs b ob q).1,?_⟩,e1.jG,e1.gC,λb hb=>?_,dS1,e1.bare⟩
  ·have HI:=(I1.ok.bs b ob q).1
   rw[mj b (λz=>by have:=(e1.bs b ob q).2;rw[z,hf]at this;cases this) (λz=>absurd (cT (bI HI) (z ▸ UK)) (fw _))]
   exact(e1.bs b ob q).2
  ·have nb:=e1.jH b hb
   rw[mj b (λz=>by rw[z,hf]at nb;cases nb) (nst b hb)];exact nb
 have hlen:us.length=ps.length:=by rw[<-r.length];exact F.len _ _ _ _ mU
 refine wpAny_call (codeAny_mono (F.run X.A X.stack s1 Hp ⟨us,[]⟩ us vs _ E hr e0 (by have:=hb s1 us I1.df (by rw[ou];exact hlen);rwa [ou]at this) r mU) λrr s' hz=>?_)
 cases rr with
 | error e=>exact hz.elim
 | ok fl =>
  cases fl with
  | next=>exact fL hz
  | brk=>exact fL hz
  | cont=>exact fL hz
  | ret u' =>
   obtain⟨v',H2,os,bare,un,UM,rv',q1,q2,q3⟩:=hz
   obtain⟨_,UN⟩:=UM.lam q1
   refine I1.after ⟨v',rem H2 fa c,os,bare,⟨λb ob g n hb hx=>?_,λb ob g n hb hx=>?_,λb ob g n hx=>?_,un.there,λb xs g=>?_,λb ob xs g=>?_,λb ps g=>?_⟩,UM.rem q1 q2 hd,rv',q3⟩
   ·by_cases z:b=c
    ·rw[z,gc]at g;cases g;rw[z];exact UN
    ·exact un.keep b ob g (by rw[mj b (λz=>by rw[z,hf]at n;cases n) z];exact n) hb hx
   ·by_cases z:b=c
    ·rw[z,gc]at g;cases g;rw[z];exact⟨_,UN⟩
    ·exact un.slot b ob g (by rw[mj b (λz=>by rw[z,hf]at n;cases n) z];exact n) hb hx
   ·by_cases z:b=c
    ·rw[z];exact CF
    ·exact vO (un.free b ob g (by rw[mj b (λz=>by rw[z,hf]at n;cases n) z];exact n) hx)
   ·have n1:b≠fa:=λz=>by rw[z,hf]at g;cases g
    have n2:b≠c:=λz=>by rw[z,nc]at g;cases g
    rw[gX n1 n2]
    exact un.jF b xs (by rw[mj b n1 n2];exact g)
   ·have n1:b≠fa:=λz=>by rw[z,hf]at g;cases g
    have n2:b≠c:=λz=>by rw[z,nc]at g;cases g
    rw[gX n1 n2]
    exact un.je b ob xs (by rw[mj b n1 n2];exact g)
   ·have n1:b≠fa:=λz=>by rw[z,hf]at g;cases g
    have n2:b≠c:=λz=>by rw[z,nc]at g;cases g
    rw[gX n1 n2]
    exact un.ie b ps (by rw[mj b n1 n2];exact g)
end
end L2
namespace L3
open PySem L2 PySem.Spec PyProof.Rows
theorem HJ{ts:List Addr}{H H':Hp}(h:Tb ts H)(s:ag H H'):Tb ts H':=λP hP=>by
 obtain⟨ps,e⟩:=h P hP
 obtain⟨m,e2⟩:=s.tb P ps e
 exact⟨_,e2⟩
theorem UO{P:Program}{w:World}{K:PySem.W.Frag}{mg:Str->Option Value}{base:Heap}{n:Nat}{p1 p2 x qn:Str}{params:Arguments}{body:Expr}{scope:Scope}{pm i4:Value}{oc:Obj}{c k:Addr}{m:Int}{tm:Tok}{sp:vP}(S:Ux p1 p2 x scope)
  (iG:oc.data=.cell (some (.int m tm))) (hb:∀u1 u2:Value,bindArgs (PySem.W.kla_fn "<lambda>" qn params body scope [(x,c)] pm (.ref k) i4) ⟨[u1,u2],[]⟩=pure [(p1,u1),(p2,u2)])
  (ik:∀(q:Str) (f:Addr) (A:Around) (outer:List Env) (s:Shared) (H:Hp) (E:XK),cC n (A.deeper (PySem.W.envX q scope s.heap.objs.size f (.ref k) [(x,c)])) ->
   ∃t:aQ,PE (s9 aS P w K mg base [p1,p2,x] q scope f (.ref k) [(x,c)] A outer s H E).gD body (lE t)/\∀i j Qd,sp i j Qd->t [some (.int i),some (.int j),some (.int m)] λd _=>∃r,d=.int r/\Qd r) :
  zS P w K mg base (n+1) (PySem.W.kla_obj "<lambda>" qn params body scope [(x,c)] pm k i4) oc c k sp where
 fn:=⟨_,_,_,_,rfl⟩
 run A outer s H f t u i j Qd hr e0 gf gc hH cO h:=by
  obtain⟨q,cO⟩:=cO
  obtain⟨tt,ht,hq⟩:=ik q f A outer s H (λ_ _ _=>False) (hr.deeper _)
  refine cJ7 (v1:=.int i) (v2:=.int j) (vc:=.int m) (E:=λ_ _ _=>False) S e0 hr gf ⟨oc,gc,iG⟩ ⟨tm,rfl⟩ hH cO (hb _ _) ⟨t,rfl⟩ ⟨u,rfl⟩ ht.gD ?_
  refine⟨⟨H,H⟩,H,_,[],_,?_,hq i j Qd h,λd ah v F' H' hd f1 h1 c1=>?_⟩
  ·exact au.start (ds:=[.int i,.int j,.int m]) (vs:=[.int i,.int j,.int m]) (ag.refl H) (.int (.int (.int .nil))) 0
  ·obtain⟨r,rfl,hd⟩:=hd
   have s1:=c1.top
   cases s1
   exact⟨r,rfl,hd,h1⟩
section
variable{X:Cx}{CX:eZ}{n:Nat}{f:Addr}{fd:FuncData}{ps:List Str}{sp:bh}{E:XK}{x:Str}{p pos:Pos}{e:Expr}{es:List Expr}{t:cG}{tl:List Addr}
theorem cD5(hT:Tb tl X.j8)(F:aN X.prog X.w X.K X.mg X.base CX n f fd ps (zR tl (bt sp)))(hr:cC n X.A)(hg:Gl X x)(hm:X.mg x=some (.ref f))(hk:PySem.W.keepIn X.K (.ref f)=true)(hb:Binds X.K fd ps [])(hx:lJ CX X E)
  (ha:PA X (e::es) (lA t)) (e7:(x==("__debug__":Str))=false:=by decide) (he:starEach (e::es) X.env=(false,eval e X.env)::starEach es X.env:=by rfl) (bG:(backTo pos (starEach es X.env)).any (·.1)=false:=by rfl) :
  PE X (.Call (.Name x p) (e::es) [] pos) (lE (oZ sp t)):=by
 intro pins s σ H Q I zz
 obtain⟨B,F',δ,ts,Qd,c,q,k⟩:=zz
 have tb:=Uq I hT
 refine q5 F hr hg hm hk hb .nil hx ha e7 he bG pins s σ H Q I ⟨B,F',δ,ts,_,c,q,λds aq vs F1 H1 q1 f1 h1 c1 s1=>?_⟩
 refine⟨HJ tb h1,?_⟩
 rw[ou]
 exact Cm c1 s1 q1 λd v F' H' hd hf hs c'=>k d aq v F' H' hd (f1.trans hf) (h1.trans hs) c'
end
section
variable{P:Program}{w:World}{K:PySem.W.Frag}{mg:Str->Option Value}{base:Heap}
theorem UP{x qual:Str}{st:Stmt}{f:Addr}{fd:FuncData}{N ps:List Str}{k:Nat}{sp:bh}{tl:List Addr}(F:aY K x qual st f fd)(S:bf N ps (ax st))(len:∀ds Q,sp ds Q->ds.length=ps.length)
  (ik:∀(aE:Value) (A:Around) (outer:List Env) (s:Shared) (H:Hp) (E:XK),Tb tl H->cC k (A.deeper (envOfC qual (ax st) s.heap.objs.size f aE)) ->
   ∃t:cQ,PSs (iM aS P w K mg base N qual (ax st) f aE A outer s H E).gD (aX st) (lS (iM aS P w K mg base N qual (ax st) f aE A outer s H E).gD t)/\∀ds Q,sp ds Q->t { nx:=λ_=>Q .aw,rt:=Q } (jQ N ds)):aN P w K mg base aS (k+1) f fd ps (zR tl (bt sp)):=by
 refine F.ok S (λvs H Q E ⟨_,F,ds,Qd,e,r,h,_⟩=>by rw[<-r.length];exact len ds Qd h) λaE A outer s H vs Q E hr zz=>?_
 obtain⟨tb,F,ds,Qd,e,r,h,k⟩:=zz
 obtain⟨t,ht,hq⟩:=ik aE A outer s H E tb hr
 have fin:∀d v ah aF F' H',Qd d->au ⟨H,F⟩ F' H' aF ah [(d,v)]->Q v H':=λd v ah aF F' H' hd c=>by
  obtain⟨A,C,r',s',nd,fr⟩:=c.own
  exact k d v F' H' A hd c.b1 c.b2 c.ext c.b3 r' (gW.mp nd).1 λa ha=>fr a (gO _ ha)
 have e1:L2.start N vs=vs.map some++aT (N.length-ds.length) none:=by unfold L2.start;rw[r.length]
 refine⟨_,ht,⟨H,F⟩,F,jQ N ds,_,?_,hq ds Qd h,λah aF F' H' hd c=>fin .aw .aw ah aF F' H' hd (c.pushS (.aw .nil) rfl),fin,λ_ _ _ _ z=>z.elim,λ_ _ _ _ z=>z.elim,XL.none (λ_ _ z=>z) λ_ _ z=>z⟩
 rw[e1]
 exact au.start e r _
theorem UQ{x qual:Str}{st:Stmt}{f cc:Addr}{fd:FuncData}{N ps:List Str}{k:Nat}{sp:Sp}(F:aY K x qual st f fd)(CH:fd.code=.ref cc)(S:bf N ps (ax st))(len:∀vs H Q E,sp vs H Q E->vs.length=ps.length)
  (ik:∀(A:Around) (outer:List Env) (s:Shared) (H:Hp) (vs:List V) (Q:VK) (E:XK),cC k (A.deeper (envOfC qual (ax st) s.heap.objs.size f (.ref cc)))->sp vs H Q E ->
   ∃t,PSs (iM aS P w K mg base N qual (ax st) f (.ref cc) A outer s H E).gD (aX st) t/\t { nx:=λ_ H'=>Q .aw H',rt:=Q } (L2.start N vs) H):aN P w K mg base aS (k+1) f fd ps sp:=by
 obtain⟨oc,od,kV,doc,pm,an,aE,ct,lK,rfl,lk,cO⟩:=F.ex
 obtain rfl:aE=.ref cc:=CH
 refine Gh lk cO S len λA outer s H vs Q E hr iN=>?_
 obtain⟨t,h,q⟩:=ik A outer s H vs Q E hr iN
 exact⟨t,h.gD,q⟩
end
end L3
namespace L3
open PySem L2 PySem.Spec PyProof.Rows
theorem bZ3{ns:List Str}{xs:List D}{ws:List V}{F H:Hp}{f:Str}{d:D}(r:R F H xs ws [])(h:(ns.zip xs).lookup f=some d):∃w,(ns.zip ws).lookup f=some w/\R F H [d] [w] []:=by
 generalize e:([]:List Addr)=A at r
 induction ns generalizing xs ws A with
 | nil=>simp at h
 | cons n ns ih =>
  cases xs with
  | nil=>simp at h
  | cons x xs =>
   obtain⟨v,cE,A1,A2,rfl,rfl,h1,h2⟩:=R.cP r
   obtain⟨rfl,rfl⟩:=Fp.mp e.symm
   rw[dh2]at h ⊢
   by_cases z:f=n
   ·subst z
    rw[gi,beq_self_eq_true]at h
    cases h
    refine⟨v,?_,h1⟩
    rw[gi,beq_self_eq_true]
   ·have z':(f==n)=false:=beq_eq_false_iff_ne.mpr z
    rw[gi,z']at h
    obtain⟨w,e1,e2⟩:=ih h [] rfl h2
    refine⟨w,?_,e2⟩
    rw[gi,z']
    exact e1
theorem UR{ns:List Str}{ws:List V}{f:Str}(h:f ∉ ns):(ns.zip ws).lookup f=none:=by
 induction ns generalizing ws with
 | nil=>simp
 | cons n ns ih =>
  cases ws with
  | nil=>simp
  | cons w ws =>
   rw[dh2,gi]
   have hn:(f==n)=false:=beq_eq_false_iff_ne.mpr λz=>h (by rw[z];simp)
   simp only[hn]
   exact ih λz=>h (by simp[z])
theorem HK{F H:Hp}{C:Addr}{ns:List Str}{xs:List D}{v:V}(s:S F H [.obj C ns xs] [v]):∃p dx ws,v=.ref p/\H p=some (.ins C dx (ns.zip ws))/\ns.length=ws.length/\R F H xs ws []:=by
 cases s with
 | obj h l r _=>exact⟨_,_,_,rfl,h,l,r⟩
section
variable{X:Cx}{e o:Expr}{es:List Expr}{f m x:Str}{pos p apos:Pos}{t to:aQ}{ta:cG}{n:Nat}
noncomputable def pZ(K:PySem.W.Frag)(t:aQ)(f:Str):aQ:=λδ Q=>t δ λd ah=>∃C ns xs v,d=.obj C ns xs/\dR K C/\cq K C f/\(ns.zip xs).lookup f=some v/\Q v ah
theorem cY1(he:PE X e (lB t))(hb:attributeBase e f X.env (eval e X.env)=eval e X.env:=by rfl):PE X (.Attribute e f pos) (lB (pZ X.K t f)) :=
 dz (B5 he hb) λσ H Q ⟨B,F,δ,ts,Qd,c,q,k⟩=>⟨B,F,δ,ts,_,c,q,λd ah v F' H' ⟨C,ns,xs,w,ed,hc,hn,hl,hq⟩ f1 h1 c1 s1=>by
  subst ed
  obtain⟨p,dx,ws,rfl,hp,_,r⟩:=HK s1
  obtain⟨u,hu,ru⟩:=bZ3 r hl
  exact⟨p,C,dx,_,u,rfl,hp,hc,hn,hu,k w ah u F' H' hq f1 h1 c1 ru.s⟩⟩
structure nF(P:Program)(w:World)(K:PySem.W.Frag)(mg:Str->Option Value)(base:Heap)(n:Nat)(m:Str)(C:Addr)(sp:bh):Prop where
 cls:dR K C
 ex:∃f fd ps,Meth K C m f/\aN P w K mg base aS n f fd ps (bt sp)/\Binds K fd ps []
noncomputable def p5(MO:Addr->bh->Prop)(m:Str)(to:aQ)(ta:cG):aQ:=λδ Q=>to δ λd aq=>∃C ns xs sp,d=.obj C ns xs/\MO C sp/\m ∉ ns/\ta aq λds aU=>sp ((D.obj C ns xs::ds).map D.sh) λr=>((D.obj C ns xs::ds).all D.pl||r.fr)=true/\Q r aU
theorem cP2{pl:Sem Bool}(ho:PE X o (lB to))(hr:cC n X.A)(ha:PA X (e::es) (lA ta))
  (dg:starEach (e::es) X.env=(false,eval e X.env)::starEach es X.env:=by rfl) (bG:(backTo pos (starEach es X.env)).any (·.1)=false:=by rfl)
  (ht:eval (.Call (.Attribute o m apos) (e::es) [] pos) X.env=(do
   let ov<-eval o X.env
   standAt apos.atName
   let (f,first)<-holding [ov] (getMethod ov m pl)
   callWith pos f first (backTo pos (starEach (e::es) X.env)) (backToKw pos (keywordEach [] X.env))):=by rfl) :
  PE X (.Call (.Attribute o m apos) (e::es) [] pos) (lE (p5 (nF X.prog X.w X.K X.mg X.base n m) m to ta)):=by
 intro pins s σ H Q I zz
 obtain⟨B,F,δ,ts,Qd,c,q,k⟩:=zz
 refine PySem.W.methodCall_KW (pl:=pl) (aP (ho pins s σ H (λx H1=>∃d aq F1,S F1 H1 [d] [x]/\au B F1 H1 σ aq ts/\ag F F1/\ag H H1/\∃C ns xs sp,d=.obj C ns xs/\nF X.prog X.w X.K X.mg X.base n m C sp/\m ∉ ns/\ta aq λds aU=>sp ((D.obj C ns xs::ds).map D.sh) λr=>((D.obj C ns xs::ds).all D.pl||r.fr)=true/\Qd r aU) I
  ⟨B,F,δ,ts,_,c,q,λd aq v F1 H1 hq f1 h1 c1 s1=>⟨d,aq,F1,s1,c1,f1,h1,hq⟩⟩) λu s1 ⟨x,H1,I1,rx,d,aq,F1,sd,c1,f1,h1,C,ns,xs,sp,ed,M,hm,hq⟩=>?_) ht
 subst ed
 obtain⟨a,dx,ws,rfl,ea,hl,r0⟩:=HK sd
 obtain rfl:u=ff a:=rx
 obtain⟨f,fd,ps,zX,FO,hb⟩:=M.ex
 refine Gf I1 ea M.cls zX (UR hm) ?_
 refine PySem.W.callWith_K (first:=[.ref a]) (h₀:=X.base) I.ok.mod.mS zX.kp (aP (ha pos pins s1 σ H1 (λvs H2=>∃ds aU F2,S F2 H2 ds vs/\au B F2 H2 σ aU ts/\ag F1 F2/\ag H1 H2/\sp ((D.obj C ns xs::ds).map D.sh) λr=>((D.obj C ns xs::ds).all D.pl||r.fr)=true/\Qd r aU) I1
  ⟨B,F1,aq,ts,_,c1,hq,λds aU vs F2 H2 hq f2 h2 c2 s2=>⟨ds,aU,F2,s2,c2,f2,h2,hq⟩⟩) λus s2 ⟨vs,H2,I2,r,ds,aU,F2,HL,c2,f2,h2,iN⟩=>⟨I2.df,?_⟩) dg bG
 refine B6 (us:=.ref a::us) (vs:=.ref a::vs) (fE:=[]) FO hr hb .nil aW I2 (.cons rfl r) ?_
 rw[ou]
 exact Cm c2 (.obj (h2 _ _ ea) hl (r0.shared f2 h2) HL) iN λd v F' H' hd hf hs c'=>k d aU v F' H' hd (f1.trans (f2.trans hf)) (h1.trans (h2.trans hs)) c'
end
structure dS(x:Addr)(H H':Hp):Prop where
 get:∀b o,b≠x->H b=some o->iS o=true->H' b=some o
 tb:∀b ps,H b=some (.dy ps)->∃more,H' b=some (.dy (ps++more))
theorem dS.trans{x:Addr}{H H1 H2:Hp}(a:dS x H H1)(b:dS x H1 H2):dS x H H2 :=
 ⟨λc o n h t=>b.get c o n (a.get c o n h t) t,λc ps h=>by
  obtain⟨m1,e1⟩:=a.tb c ps h
  obtain⟨m2,e2⟩:=b.tb c _ e1
  exact⟨m1++m2,by rw[e2,Bi]⟩⟩
theorem ag.x{x:Addr}{H H':Hp}(h:ag H H'):dS x H H':=⟨λb o _ e n=>h.get b o e n,h.tb⟩
theorem dS.upd{x C dx:Addr}{H:Hp}{o o':HO}(h:H x=some o)(n:iS o=true):dS x H (upd H x o') :=
 ⟨λb o z e _=>by rw[bc z];exact e,λb ps e=>⟨#[],by rw[bc (λz=>by rw[z,h]at e;cases e;cases n),e];simp⟩⟩
noncomputable def HM(tl:List Addr)(C:Addr)(vR:List D->List Str->List D->Prop):Sp:=λvs H Q _=>∃x dx cE ds ns xs,vs=.ref x::cE/\Tb tl H/\H x=some (.ins C dx [])/\R H H ds cE []/\vR ds ns xs /\
 ∀H' ws A,dS x H H'->H' x=some (.ins C dx (ns.zip ws))->ns.length=ws.length->R (λ_=>none) H' xs ws A->A.Nodup->(∀a∈A,H a=none)->Q .aw H'
noncomputable def tw(C:Addr)(vR:List D->List Str->List D->Prop)(ta:cG):aQ:=λδ Q=>ta δ λds ah=>∃ns xs,vR (ds.map D.sh) ns xs/\Q (.obj C ns (xs.map D.sh)) ah
theorem au.made{B:Bs}{F H H':Hp}{σ:L2.St}{δ:Dl}{ts:List (D × V)}{C dx x:Addr}{ns:List Str}{xs:List D}{ws:List V}{A:List Addr}(c:au B F H σ δ ts)(hs:ag H H')(hx:H' x=some (.ins C dx (ns.zip ws)))(hl:ns.length=ws.length)
  (r:R (λ_=>none) H' xs ws A) (fr:∀a∈A,H a=none):ag F (L3.ck F H' A)/\au B (L3.ck F H' A) H' σ δ ((.obj C ns (xs.map D.sh),.ref x)::ts):=by
 have c1:=c.grow hs
 have hF:∀a∈A,F a=none:=λa ha=>c.ext.free (fr a ha)
 have r1:R F H' xs ws A:=r.keep (ag.of λb o e=>by cases e) (gU.same (ag.refl _)) iT.nil hF (by simp)
 have r2:=r1.ck c1.ext A (λ_ h=>h)
 have fs:ag F (L3.ck F H' A):=lQ c1.ext
 obtain⟨A',C',r',s',nd,CM⟩:=c.own
 have out:∀a,(∃ws,H a=some (.lst ws))/\F a=none->L3.ck F H' A a=none:=λa zz=>by
  obtain⟨⟨ws,h⟩,hf⟩:=zz
  rw[Ce (λz=>by rw[fr a z]at h;cases h)];exact hf
 have g1:=r'.grow fs hs λa ha=>out a (r'.lists a ha)
 have g2:=s'.keep fs (gU.same hs) iT.nil (λa ha=>out a (s'.lists a ha)) (by simp)
 refine⟨fs,Tg c1.ext,c1.b1,c1.b2.trans fs,λa ws h=>?_,A',C',?_,g2,nd,CM⟩
 ·by_cases z:a∈A
  ·exact .inr (c.b1.free (fr a z))
  ·rw[Ce z]at h;exact c.b3 a ws h
 ·exact R.obj hx hl r2 g1
section
variable{X:Cx}{CX:eZ}{n:Nat}{f C:Addr}{fd:FuncData}{ps:List Str}{vR:List D->List Str->List D->Prop}{E:XK}{x:Str}{p pos:Pos}{e:Expr}{es:List Expr}{t:cG}{tl:List Addr}
theorem US(hT:Tb tl X.j8)(M:Mk X.K C f)(F:aN X.prog X.w X.K X.mg X.base CX n f fd ps (HM tl C vR))(hr:cC (n+1) X.A)(hg:Gl X x)(hm:X.mg x=some (.ref C))(hb:Binds X.K fd ps [])(hx:lJ CX X E)
  (ha:PA X (e::es) (lA t)) (e7:(x==("__debug__":Str))=false:=by decide) (he:starEach (e::es) X.env=(false,eval e X.env)::starEach es X.env:=by rfl) (bG:(backTo pos (starEach es X.env)).any (·.1)=false:=by rfl) :
  PE X (.Call (.Name x p) (e::es) [] pos) (lE (tw C vR t)):=by
 intro pins s σ H Q I zz
 obtain⟨B,F',δ,ts,Qd,c,q,k⟩:=zz
 have tb:=Uq I hT
 refine cA5 M F hr hg hm hb .nil hx ha e7 he bG pins s σ H Q I ⟨B,F',δ,ts,_,c,q,λds aq vs F1 H1 q1 f1 h1 c1 s1=>?_⟩
 intro x dx ft iy m8
 obtain⟨ns,xs,hI,hq⟩:=q1
 have sm:ag H1 (upd (upd H1 dx (.own x)) x (.ins C dx [])):=.of λb o e=>by rw[bc (fh e ft),bc (fh e iy)];exact e
 refine⟨x,dx,vs,ds.map D.sh,ns,xs,by rw[ou],HJ (HJ tb h1) sm,cy,(s1.frozen c1.ext).shared sm sm,hI,λH' ws A UT dj hl r nd fr=>⟨rfl,?_⟩⟩
 have s2:ag H1 H':=⟨λb o e n=>UT.get b o (fh e ft) (sm.get b o e n) n,λb ps e=>by
  obtain⟨m1,e1⟩:=sm.tb b ps e
  obtain⟨m2,e2⟩:=UT.tb b _ e1
  exact⟨m1++m2,by rw[e2,Bi]⟩⟩
 obtain⟨fs,c2⟩:=c1.made s2 dj hl r λa ha=>sm.free (fr a ha)
 exact k _ aq _ _ H' hq (f1.trans fs) (h1.trans s2) c2
end
end L3
namespace Mf
open PySem L2 L3
noncomputable def gm(m:Bool × Nat)(a b:Nat):Nat:=if m.1 then md (cl a b) m.2 else a*b%m.2
noncomputable def aa(m:Bool × Nat):Nat:=if m.1 then 2 ^ (bl m.2-1)else m.2
noncomputable def CN(g:Nat->Nat->Nat)(a:Nat):Nat->Nat->List Int->Option (List Int)
 | 0,_,_=>none
 | f+1,p,acc=>if p=1 then some acc else if p<64 then CN g a f (g p a) (acc++[(p:Int)])else none
noncomputable def HN(g:Nat->Nat->Nat)(a:Nat):Option (List Int):=CN g a 64 (g 1 a) [1]
noncomputable def CO(g:Nat->Nat->Nat)(many:Nat):Nat->Nat->List Int->Option (List Int)
 | 0,_,_=>none
 | f+1,st,l=>if l.length+1<many then(match HN g (st+1)with | some l'=>CO g many f (st+1) l' | none=>none)else some l
noncomputable def zY(g:Nat->Nat->Nat)(many:Nat):Option (List Int):=match HN g 1 with | some l=>CO g many 62 1 l | none=>none
noncomputable def aV(g:Nat->Nat->Nat):vP:=λi j Q=>∃a b:Nat,i=a/\j=b/\a<64/\b<64/\Q (g a b:Nat)
noncomputable def jq:List Nat:=[7,11,13,19,25,31,37,41,47,55,59,61,67,73,87,91,97,103,109,115,117]
noncomputable def CP:List Nat:=[2,3,5,7,11,13,17,19,23,29,31,37,41,43,47,53,59,61]
noncomputable def av:List (Bool × Nat):=jq.map (λn=>(true,n))++CP.map λn=>(false,n)
noncomputable def nG(l:List Int):Nat->List Int
 | 0=>aT (l.length+1) 0
 | i+1=>(nG l i).set (l.getD i 0).toNat (i:Int)
noncomputable def eD(l:List Int):List Int:=nG l l.length
theorem zZ(l:List Int):∀i,(nG l i).length=l.length+1
 | 0=>by simp[nG]
 | i+1=>by simp[nG,zZ l i]
noncomputable def p7(l g:List Int)(a:Nat):List Int:=if a=0 then aT (l.length+1) 0 else 0::(aO l.length).map λ(b:Nat)=>l.getD ((g.getD a 0+g.getD (b+1) 0)%(l.length:Int)).toNat 0
noncomputable def vS(l g:List Int)(n:Nat):List D:=(aO n).map λa=>D.lst true (aC (p7 l g a))
noncomputable def p8(l g:List Int):List D:=vS l g (l.length+1)
end Mf
namespace L3
open PySem L2 Mf
noncomputable def LI(H:Hp)(p:Addr)(ns:List Int):Prop:=H p=some (.lst (ns.map V.int))
theorem LI.same{H H':Hp}{p:Addr}{ns:List Int}(h:LI H p ns)(s:ag H H'):LI H' p ns:=s.get _ _ h
theorem LI.upd{H:Hp}{p x:Addr}{ns:List Int}{o o':HO}(h:LI H p ns)(hx:H x=some o)(n:∀ws,o≠.lst ws):LI (upd H x o') p ns:=by
 unfold LI
 rw[bc (λz=>by rw[z]at h;unfold LI at h;rw[hx]at h;cases h;exact n _ rfl)];exact h
theorem UU{F' H' H:Hp}{v:V}{A:List Addr}{ns:List Int}(r:R F' H' [.lst true (aC ns)] [v] A)(fr:∀a∈A,H a=none):∃p,v=.ref p/\LI H' p ns/\H p=none:=by
 cases r with
 | @own p ws xs A1 _ _ B1 hp hf r1 r2 =>
  have:=Ht r1.s
  subst this
  exact⟨p,rfl,hp,fr p (by simp)⟩
structure dS7(K:PySem.W.Frag)(C f:Addr):Prop where
 cls:dR K C
 many:cq K C "many"
 wide:cq K C "wide"
 HP:cq K C "powers"
 dS8:cq K C "logs"
 step:cq K C "step"
 sp:Meth K C "step_power" f
structure UW(g:Nat->Nat->Nat)(many:Nat)(l:List Int)(st:Int):Prop where
 lo:2<=many
 hi:many<=64
 step:zY g many=some l
 len:l.length+1=many
 ins:∀x∈l,0<=x/\x.toNat<=l.length
 st:l[((1:Int)%((many:Int)-1)).toNat]?=some st
noncomputable def gY(b:Str):List Str:=[b,"many","wide","powers","logs","step"]
noncomputable def CQ(n0:Int)(many:Nat)(p1 p2:Addr)(st:Int):List V:=[.int n0,.int many,.int ((bl many:Nat)-1),.ref p1,.ref p2,.int st]
theorem vT{f:Str}{v:V}:∀{fs:List (Str × V)},(∀p∈fs,p.1≠f)->fP f v fs=fs++[(f,v)]
 | [],_=>rfl
 | (g,x)::r,h=>by
  unfold fP
  rw[if_neg (h (g,x) (by simp)),vT λp hp=>h p (by simp[hp])];rfl
theorem jO.z0{H:Hp}{x C dx f c k:Addr}{fs:List (Str × V)}{o':HO}{of oc:Obj}(h:jO H f of oc c k)(hx:H x=some (.ins C dx fs)):jO (L2.upd H x o') f of oc c k:=by
 obtain⟨ψ,e,zT⟩:=h.GY
 exact⟨by rw[bc (λz=>by rw[<-z,h.fn]at hx;cases hx)];exact h.fn,by rw[bc (λz=>by rw[<-z,h.cell]at hx;cases hx)];exact h.cell,ψ,by rw[bc (λz=>by rw[<-z,e]at hx;cases hx)];exact e,zT⟩
theorem z4{H:Hp}{x p:Addr}{o o':HO}(hx:H x=some o)(h:L2.upd H x o' p=none):H p=none:=by
 by_cases z:p=x
 ·subst z;rw[cy]at h;cases h
 ·rw[bc z]at h;exact h
theorem CS{α:Type}{b f:Str}{v:α}{r:List (Str × α)}(h:b≠f):((b,v)::r).lookup f=r.lookup f:=by
 rw[gi,beq_eq_false_iff_ne.mpr (fg h)]
section
variable{H2 H3 H':Hp}{x f c p:Addr}{o1 o2:HO}
theorem z5{b:Addr}{o:HO}(e:H3 b=some o)(nb:b≠f)(nc:H3 c=none):L2.upd (L2.upd H3 f o1) c o2 b=some o:=by
 rw[bc (fh e nc),bc nb];exact e
theorem UX(hs:ag H2 H3)(nf:H2 f=none)(nc:H3 c=none)(s:dS x (L2.upd (L2.upd H3 f o1) c o2) H'):dS x H2 (rem H' f c) where
 get b o n e t:=by
  have z1:=fh e nf
  have e3:=hs.get b o e t
  rw[gX z1 (fh e3 nc)]
  exact s.get b o n (z5 e3 z1 nc) t
 tb b ps e:=by
  have z1:=fh e nf
  obtain⟨m,e3⟩:=hs.tb b ps e
  obtain⟨m2,e4⟩:=s.tb b _ (z5 e3 z1 nc)
  exact⟨m++m2,by rw[gX z1 (fh e3 nc),e4,Bi]⟩
theorem CT(hs:ag H2 H3)(h:L2.upd (L2.upd H3 f o1) c o2 p=none):H2 p=none:=by
 refine hs.free ?_
 by_cases z:p=c
 ·subst z;rw[cy]at h;cases h
 ·rw[bc z]at h
  by_cases z2:p=f
  ·subst z2;rw[cy]at h;cases h
  ·rw[bc z2]at h;exact h
theorem LI.rem{l:List Int}{φ:Heap->Prop}{y:Addr}(h:LI H' p l)(hf:H' f=some (.ext φ))(hc:H' c=some (.own y)):LI (rem H' f c) p l:=by
 unfold LI at h ⊢
 rw[gX (λz=>by rw[z,hf]at h;cases h) (λz=>by rw[z,hc]at h;cases h)];exact h
theorem UY{of oc:Obj}{k:Addr}(m8:c≠f)(nc:H3 c=none)(hk:GX H3 k)(kf:k≠f):jO (L2.upd (L2.upd H3 f (.ext (ji of oc c f))) c (.own f)) f of oc c k:=by
 obtain⟨ψ,e,zT⟩:=hk
 exact⟨by rw[bc m8.symm,cy],cy,ψ,z5 e kf nc,zT⟩
end
noncomputable def fl(m:Bool × Nat):List Int:=(zY (gm m) (aa m)).getD []
noncomputable def fst(m:Bool × Nat):Int:=(fl m).getD ((1:Int)%((aa m:Int)-1)).toNat 0
noncomputable def UZ(m:Bool × Nat):Bool:=decide (2<=aa m)&&decide (aa m<=64)&&(zY (gm m) (aa m)).isSome&&decide ((fl m).length+1=aa m)&&(fl m).all (λx=>decide (0<=x)&&decide (x.toNat<=(fl m).length))&&decide (((1:Int)%((aa m:Int)-1)).toNat<(fl m).length)
theorem cE4:av.all UZ=true:=by decide +kernel
theorem bS{m:Bool × Nat}(h:m∈av):UW (gm m) (aa m) (fl m) (fst m):=by
 have h:=cU.mp cE4 m h
 simp only[UZ,dY,decide_eq_true_eq,cU]at h
 obtain⟨⟨⟨⟨⟨h1,h2⟩,h3⟩,h4⟩,h5⟩,h6⟩:=h
 obtain⟨l,e⟩:=df6.mp h3
 have el:fl m=l:=by unfold fl;rw[e];rfl
 refine⟨h1,h2,by rw[e,el],h4,λx hx=>h5 x hx,?_⟩
 unfold fst
 rw[aI,aL h6];rfl
theorem cj0:∀p∈CP,(decide (2<=(p:Int))&&decide ((p:Int)<=61)&&(aO ((p:Int).toNat-2)).all λi=>(p:Int)%(2+(i:Int)) != 0)=true:=by decide +kernel
theorem cI1:∀p∈jq,(decide (4<=(p:Int))&&decide ((p:Int)<=127)&&al (p:Int).toNat)=true:=by decide +kernel
theorem R.z0{F H:Hp}{x C dx:Addr}{fs:List (Str × V)}{o':HO}{ds:List D}{vs:List V}{A:List Addr}(r:R F H ds vs A)(hx:H x=some (.ins C dx fs))(hd:ds.all D.fr=true):R F (L2.upd H x o') ds vs A:=by
 have up:∀{a o},H a=some o->(∀C dx fs,o≠.ins C dx fs)->L2.upd H x o' a=some o:=λ{a o} e n=>by
  rw[bc (λz=>by rw[z,hx]at e;cases e;exact n _ _ _ rfl)];exact e
 induction r with
 | nil=>exact .nil
 | aw _ ih=>exact .aw (ih (by simpa[D.fr]using hd))
 | bl _ ih=>exact .bl (ih (by simpa[D.fr]using hd))
 | int _ ih=>exact .int (ih (by simpa[D.fr]using hd))
 | str _ ih=>exact .str (ih (by simpa[D.fr]using hd))
 | shr h x _ i1 ih=>simp[fY]at hd
 | own h f _ _ i1 i2 =>
  rw[eL,fY,dY,mJ]at hd
  exact .own (up h λ_ _ _ z=>by cases z) f (i1 hd.1) (i2 hd.2)
 | tup h _ _ i1 i2 =>
  rw[eL,m9,dY]at hd
  exact .tup (up h λ_ _ _ z=>by cases z) (i1 hd.1) (i2 hd.2)
 | obj h l x _ i1 ih=>simp[D.fr]at hd
 | fz h x _ i1 ih=>simp[D.fr]at hd
 | @bL p z _ _ _ h r ih =>
  refine .bL ?_ (ih (by simpa[D.fr]using hd))
  cases z with
  | ext φ=>exact up h λ_ _ _ z=>by cases z
  | lam of oc c k=>exact jO.z0 h hx
theorem U0(l g:List Int):(p8 l g).all D.fr=true:=by
 unfold p8 vS
 rw[kU,cU]
 intro a _
 show(D.lst true (aC _)).fr=true
 rw[fY,pL];rfl
theorem dS.free{x a:Addr}{H H':Hp}(s:dS x H H')(hx:H' x≠none)(h:H' a=none):H a=none:=by
 cases q:H a with
 | none=>rfl
 | some o =>
  by_cases z:a=x
  ·subst z;exact absurd h hx
  ·cases n:iS o with
   | true=>rw[s.get a o z q n]at h;cases h
   | false =>
    obtain⟨ps,rfl⟩:=GW n
    obtain⟨m,e⟩:=s.tb a ps q
    rw[e]at h;cases h
theorem U1(l:List Int):∀i,∀x∈nG l i,0<=x
 | 0=>λx hx=>by rw[(yr.mp hx).2];exact Int.le_refl _
 | i+1=>λx hx=>by
  unfold nG at hx
  rcases yy hx with h | h
  ·exact U1 l i x h
  ·rw[h];exact QV _
theorem U2:∀p∈jq,bl p<=7:=by decide +kernel
theorem U3:∀p∈jq,1<=bl p:=by decide +kernel
theorem cn0(a b:Nat):bl (cl a b)<=bl a+bl b:=by
 by_cases ha:a=0
 ·subst ha;rw[oO];exact jz _
 ·by_cases hb:b=0
  ·subst hb
   have:cl a 0=0:=rfl
   rw[this];exact jz _
  ·rw[SN ha hb];omega
noncomputable def nH(l g:List Int):List D:=(aO (l.length+1)).map λa=>D.lst false (aC (p7 l g a))
theorem cm6(l g:List Int):(D.lst true (p8 l g)).sh=.lst false (nH l g):=by
 rw[fj]
 unfold p8 vS nH
 rw[da]
 congr 1
 apply mM
 intro a _
 show D.sh (.lst true (aC _))=_
 rw[fj,jl]
theorem cf7(l g:List Int):(nH l g).all D.pl=true:=by
 unfold nH
 rw[kU,cU]
 intro a _
 show(D.lst false (aC _)).pl=true
 rw[gG,me];rfl
noncomputable abbrev pD(m:Bool × Nat):List D:=[.int m.2,.int (aa m),.int ((bl (aa m):Nat)-1),.lst false (aC (fl m)),.lst false (aC (eD (fl m))),.int (fst m)]
noncomputable def p9(C:Addr)(p:Nat):D:=.obj C (gY "prime") (pD (false,p))
noncomputable def tD(C:Addr)(p:Nat):D:=.obj C (gY "bits"++[("products":Str)]) (pD (true,p)++[.lst false (nH (fl (true,p)) (eD (fl (true,p))))])
noncomputable def fD(cb cp:Addr)(m:Bool × Nat):D:=if m.1 then tD cb m.2 else p9 cp m.2
end L3
namespace L3
open PySem L2 Mf
theorem z6{u p:Nat}(h:bl u<bl p):md u p=u:=zo (q:=0) (by rw[oO,oy]) h
theorem cf4{u v n:Nat}(hu:bl u<n)(hv:bl v<n):bl (u ^^^ v)<n:=by
 have h1:u<2 ^ (n-1):=eM.mp (by omega)
 have h2:v<2 ^ (n-1):=eM.mp (by omega)
 have:=eM.mpr (uR h1 h2)
 omega
theorem CU{p:Nat}(hp:p≠0)(u v:Nat):md (u ^^^ v) p=md u p ^^^ md v p:=by
 obtain⟨⟨q1,e1⟩,l1⟩:=zk hp u
 obtain⟨⟨q2,e2⟩,l2⟩:=zk hp v
 refine zo (q:=q1 ^^^ q2) ?_ (cf4 l1 l2)
 rw[oN,<- SA,<- e1,<- e2]
theorem U4{p:Nat}(hp:p≠0)(w:Nat):md (cl p w) p=0:=by rw[zj];exact cW3 w hp
theorem bB:∀m∈av,0<m.2:=by decide +kernel
theorem e8(m:Bool × Nat)(a b:Nat):gm m a b=gm m b a:=by
 unfold gm
 split
 ·rw[zj]
 ·rw[mG]
theorem U5{n:Nat}(hn:n≠0)(u c:Nat):md (cl (md u n) c) n=md (cl u c) n:=by
 obtain⟨⟨q,e⟩,_⟩:=zk hn u
 have h:cl u c=cl n (cl q c) ^^^ cl (md u n) c:=by
  conv=>lhs;rw[e]
  rw[oN,zj n q,SU]
 rw[h,CU hn,U4 hn,oy]
theorem eR{m:Bool × Nat}(h:0<m.2)(a b c:Nat):gm m (gm m a b) c=gm m a (gm m b c):=by
 unfold gm
 split
 ·rw[U5 (by omega),zj (md (cl b c) m.2) a,U5 (by omega),SU a b c,zj (cl b c) a]
 ·rw[yz,Rc,<- yz,yz a (b*c%m.2),Rc,<- yz,um]
theorem U6{m:Bool × Nat}(h:m.1=true){a:Nat}:a<aa m↔bl a<=bl m.2-1:=by
 unfold aa
 rw[if_pos h];exact eM.symm
theorem qa{m:Bool × Nat}{a:Nat}(ha:a<aa m):gm m 1 a=a:=by
 obtain⟨k,n⟩:=m
 cases k with
 | true =>
  show md (cl 1 a) n=a
  rw[GA]
  have h1:=(U6 (m:=(true,n)) rfl).mp ha
  have h1:bl a<=bl n-1:=h1
  by_cases z:bl n=0
  ·have a0:a=0:=by
    have:=eM (n:=a) (m:=0)
    have:=this.mp (by omega)
    omega
   subst a0
   have n0:n=0:=by
    have:=(eM (n:=n) (m:=0)).mp (by omega)
    omega
   subst n0
   decide
  ·exact z6 (by omega)
 | false=>show 1*a%n=a;rw[Nat.one_mul];exact yA ha
theorem jr{m:Bool × Nat}{a:Nat}(ha:a<aa m):gm m a 1=a:=by rw[e8];exact qa ha
noncomputable def lg(m:Bool × Nat)(a:Nat):Int:=(eD (fl m)).getD a 0
noncomputable def pw(m:Bool × Nat)(k:Nat):Int:=(fl m).getD k 0
noncomputable def HQ(m:Bool × Nat):Bool:=((aO (aa m-1)).all λk=>decide (1<=pw m k)&&decide (pw m k<aa m)&&decide (lg m (pw m k).toNat=k))&&((aO (aa m-1)).all λa=>decide (0<=lg m (a+1))&&decide (lg m (a+1)<(aa m:Int)-1)&&decide (pw m (lg m (a+1)).toNat=((a+1:Nat):Int)))
theorem U7:av.all HQ=true:=by decide +kernel
theorem CV{m:Bool × Nat}(hm:m∈av){k:Nat}(hk:k<aa m-1):1<=pw m k/\pw m k<aa m/\lg m (pw m k).toNat=k:=by
 have h:=cU.mp U7 m hm
 simp only[HQ,dY,cU,decide_eq_true_eq,de]at h
 have:=h.1 k hk
 exact⟨this.1.1,this.1.2,this.2⟩
theorem CW{m:Bool × Nat}(hm:m∈av){a:Nat}(h1:1<=a)(h2:a<aa m):0<=lg m a/\lg m a<(aa m:Int)-1/\pw m (lg m a).toNat=a:=by
 have h:=cU.mp U7 m hm
 simp only[HQ,dY,cU,decide_eq_true_eq,de]at h
 have:=h.2 (a-1) (by omega)
 rw[show a-1+1=a by omega]at this
 exact⟨this.1.1,this.1.2,this.2⟩
theorem dN(m:Bool × Nat)(b:Nat)(h:0<m.2):gm m 0 b=0:=by
 unfold gm
 split
 ·rw[oO];exact z6 (by rw[mY];exact gR (by omega))
 ·rw[Nat.zero_mul,Nat.zero_mod]
theorem gg(m:Bool × Nat)(b:Nat)(h:0<m.2):gm m b 0=0:=by rw[e8];exact dN m b h
noncomputable def stC(m:Bool × Nat):Bool:=decide (pw m 0=1)&&(aO (aa m-1)).all λk=>decide (gm m (pw m k).toNat (pw m (1%(aa m-1))).toNat=(pw m ((k+1)%(aa m-1))).toNat)
theorem U8:av.all stC=true:=by decide +kernel
theorem U9(m:Bool × Nat)(hm:m∈av):pw m 0=1:=by
 have h:=cU.mp U8 m hm
 simp only[stC,dY,decide_eq_true_eq]at h
 exact h.1
noncomputable def pN(m:Bool × Nat)(k:Nat):Nat:=(pw m (k%(aa m-1))).toNat
theorem cZ2{m:Bool × Nat}(hm:m∈av)(k:Nat):pN m k<aa m:=by
 have dh:=(bS hm).lo
 have:=CV hm (uw k (show 0<aa m-1 by omega))
 unfold pN
 omega
theorem Va{m:Bool × Nat}(hm:m∈av)(k:Nat):gm m (pN m k) (pN m 1)=pN m (k+1):=by
 have dh:=(bS hm).lo
 have h:=cU.mp U8 m hm
 simp only[stC,dY,decide_eq_true_eq,cU,de]at h
 have h2:=h.2 (k%(aa m-1)) (uw k (by omega))
 rw[yB]at h2
 exact h2
theorem Vb{m:Bool × Nat}(hm:m∈av)(i:Nat):∀j,gm m (pN m i) (pN m j)=pN m (i+j)
 | 0=>by
  have e:pN m 0=1:=by unfold pN;rw[Nat.zero_mod,U9 m hm];rfl
  rw[e,jr (cZ2 hm i)];rfl
 | j+1=>by rw[<-Va hm j,<- eR (bB m hm),Vb hm i j,Va hm];rfl
theorem HR{m:Bool × Nat}(hm:m∈av){a b:Nat}(a1:1<=a)(a2:a<aa m)(b1:1<=b)(b2:b<aa m):((gm m a b:Nat):Int)=pw m ((lg m a+lg m b)%((aa m:Int)-1)).toNat:=by
 have dh:=(bS hm).lo
 obtain⟨g0,g1,g2⟩:=CW hm a1 a2
 obtain⟨f0,f1,f2⟩:=CW hm b1 b2
 have ea:pN m (lg m a).toNat=a:=by unfold pN;rw[yA (by omega),g2];rfl
 have eb:pN m (lg m b).toNat=b:=by unfold pN;rw[yA (by omega),f2];rfl
 have e:=Vb hm (lg m a).toNat (lg m b).toNat
 rw[ea,eb]at e
 rw[e]
 have ei:((lg m a+lg m b)%((aa m:Int)-1)).toNat=((lg m a).toNat+(lg m b).toNat)%(aa m-1):=by
  have:(((lg m a).toNat+(lg m b).toNat)%(aa m-1):Nat)=((lg m a+lg m b)%((aa m:Int)-1)):=by
   rw[mO,uz,oF g0,oF f0,Int.natCast_sub (by omega)];rfl
  omega
 rw[ei]
 have:=CV hm (uw ((lg m a).toNat+(lg m b).toNat) (show 0<aa m-1 by omega))
 unfold pN
 omega
theorem cF0{p a:Nat}(hp:p∈jq)(ha:a<aa (true,p)):p7 (fl (true,p)) (eD (fl (true,p))) a=(aO (aa (true,p))).map λb=>((gm (true,p) a b:Nat):Int):=by
 have hm:(true,p)∈av:=gO _ (Fv hp)
 have h0:=bB _ hm
 have hF:=bS hm
 have hlen:=hF.len
 unfold p7
 split
 ·rename_i h
  subst h
  rw[hlen]
  refine List.ext_getElem (by simp) λi h1 h2=>?_
  simp[dN _ _ h0]
 ·rename_i h
  rw[<-hlen,dg7,eK,da,gg _ _ h0]
  congr 1
  apply mM
  intro b hb
  have hb:=de.mp hb
  show(fl (true,p)).getD (((eD (fl (true,p))).getD a 0+(eD (fl (true,p))).getD (b+1) 0)%((fl (true,p)).length:Int)).toNat 0=((gm (true,p) a (b+1):Nat):Int)
  rw[HR hm (by omega) ha (by omega) (by omega),show(((fl (true,p)).length:Nat):Int)=(aa (true,p):Int)-1 by omega]
  rfl
theorem CY{p a b:Nat}(hp:p∈jq)(ha:a<aa (true,p))(hb:b<aa (true,p)):eB (aC (p7 (fl (true,p)) (eD (fl (true,p))) a)) (b:Int)=some (.int (gm (true,p) a b:Nat)):=by
 refine jM (by omega) ?_
 rw[cF0 hp ha]
 unfold aC
 rw[gB,bX,bX,jD hb];rfl
theorem CZ{p a:Nat}(hp:p∈jq)(ha:a<aa (true,p)):eB (nH (fl (true,p)) (eD (fl (true,p)))) (a:Int)=some (.lst false (aC (p7 (fl (true,p)) (eD (fl (true,p))) a))):=by
 have hF:=bS (m:=(true,p)) (gO _ (Fv hp))
 refine jM (by omega) ?_
 unfold nH
 rw[gB,bX,jD (by rw[hF.len];exact ha)];rfl
end L3
namespace L3
open PySem L2 Mf
theorem cP7(C:Addr)(p:Nat):D.obj C (gY "bits"++[("products":Str)]) (Fu D.sh [.int p,.int (aa (true,p)),.int ((bl (aa (true,p)):Nat)-1),.lst true (aC (fl (true,p))),.lst true (aC (eD (fl (true,p)))),.int (fst (true,p)),.lst true (p8 (fl (true,p)) (eD (fl (true,p))))])=tD C p:=by
 simp only[eK,kS]
 rw[cm6]
 simp only[fj,jU,jl];rfl
theorem cl4(C:Addr)(p:Nat):D.obj C (gY "prime") (Fu D.sh [.int p,.int p,.int ((bl p:Nat)-1),.lst true (aC (fl (false,p))),.lst true (aC (eD (fl (false,p)))),.int (fst (false,p))])=p9 C p:=by
 simp only[eK,kS,fj,jU,jl];rfl
theorem vU{n:Nat}(h:(true,n)∈av):n∈jq:=by
 rcases cw.mp h with h | h
 ·obtain⟨x,hx,e⟩:=bZ.mp h
  cases e;exact hx
 ·obtain⟨x,hx,e⟩:=bZ.mp h
  cases e
theorem bN3{n:Nat}(h:(false,n)∈av):n∈CP:=by
 rcases cw.mp h with h | h
 ·obtain⟨x,hx,e⟩:=bZ.mp h
  cases e
 ·obtain⟨x,hx,e⟩:=bZ.mp h
  cases e;exact hx
open Classical in
theorem HS{α:Type}{sh:Bool}{xs:List D}{aD:List (Str × Nat)}{n:Nat}{g0:iu}{te:aQ}{aq:Dl}{Q:D->Dl->Prop}(l:List α)(e g:α->D)(iZ:xs.map D.sh=l.map e)(inj:∀a b,e a=e b->a=b)
  (hx:∀a∈l,g0 (e a) (fS aD n aq) λaU=>te aU λd _=>d=g a) (hg:∀d δ (P P':Dl->Prop),(∀ah,P ah->P' ah)->g0 d δ P->g0 d δ P') (eN:(sh&&aD.all (iw aq))=true\/∀a∈l,(g a).fr=true) (hl:l.length<=sizeLine) (hq:Q (.lst true (l.map g)) aq):rS sh xs aD n g0 jR te aq Q:=by
 let f:D->D:=λx=>if h:∃a∈l,e a=x then g h.choose else .aw
 have hf:∀a∈l,f (e a)=g a:=λa ha=>by
  have h:∃b∈l,e b=e a:=⟨a,ha,rfl⟩
  show(if h:∃b∈l,e b=e a then g h.choose else .aw)=g a
  rw[dif_pos h]
  exact congrArg g (inj _ _ h.choose_spec.2)
 refine⟨λ_=>true,f,λx h=>?_,eN.imp id λh x hx _=>?_,?_,?_⟩
 ·rw[iZ]at h
  obtain⟨a,ha,rfl⟩:=bZ.mp h
  rw[hf a ha]
  exact hg _ _ _ _ (λah h=>⟨rfl,λ_=>h⟩) (hx a ha)
 ·rw[iZ]at hx
  obtain⟨a,ha,rfl⟩:=bZ.mp hx
  rw[hf a ha];exact h a ha
 ·have:=congrArg Bk iZ
  simp at this
  omega
 ·rw[iZ,dg5.mpr (λ_ _=>rfl),da,show l.map (f ∘ e)=l.map g from mM λa ha=>hf a ha]
  exact hq
theorem HU{i1 i2:Nat}(d:D)(δ:Dl)(P P':Dl->Prop)(h:∀ah,P ah->P' ah)(q:jn i1 i2 d δ P):jn i1 i2 d δ P':=by
 unfold jn at q ⊢
 split at q
 ·exact h _ q
 ·exact q
theorem Vc(xs ys:List Int):(dJ (aC xs) (aC ys)).map D.sh=(xs.zip ys).map λz=>D.tup [.int z.1,.int z.2]:=by
 rw[Hy,jl,jl]
 unfold dJ aC
 rw[BA,BB,uu]
theorem cA9{p x y:Nat}(hp:p≠0)(hx:bl x<bl p):md (cl x y) p=(if y%2=1 then x else 0) ^^^ md (cl (if bl (2*x)=bl p then 2*x ^^^ p else 2*x) (y/2)) p:=by
 have e0:md (if y%2=1 then x else 0) p=(if y%2=1 then x else 0):=by
  split
  ·exact z6 hx
  ·exact z6 (by rw[mY];exact gR hp)
 rw[SJ,CU hp,e0]
 congr 1
 split
 ·rw[oN,CU hp,U4 hp,kT]
 ·rfl
theorem cB0{p x:Nat}(hp:p≠0)(hx:bl x<bl p):bl (if bl (2*x)=bl p then 2*x ^^^ p else 2*x)<bl p:=by
 have h2:=cN8 x
 have h0:=gR hp
 split
 ·rename_i h
  have n0:2*x≠0:=λz=>by rw[z,mY]at h;omega
  have a1:=iP (2*x)
  have a2:=iP p
  have b1:=uP n0
  have b2:=uP hp
  rw[h]at a1 b1
  obtain⟨k,hk⟩:∃k,bl p=k+1:=⟨bl p-1,by omega⟩
  rw[hk]at a1 a2 b1 b2 ⊢
  have:=eM.mpr (Sy a1 a2 b1 b2)
  omega
 ·omega
end L3
namespace L3
open PySem L2 PySem.Spec PyProof.Rows
structure C2(P:Program)(w:World)(K:PySem.W.Frag)(mg:Str->Option Value)(base:Heap)(n:Nat)(m:Str)(C:Addr)(sp:pQ):Prop where
 cls:dR K C
 ex:∃f fd ps,Meth K C m f/\aN P w K mg base (m6 P w) n f fd ps (zO sp)/\Binds K fd ps []
section
variable{X:Cx}{e o:Expr}{es:List Expr}{f m x:Str}{pos p apos:Pos}{to:aQ}{ta:cG}{n:Nat}
noncomputable def qe(MO:Addr->pQ->Prop)(m:Str)(to:aQ)(ta:cG):aQ:=λδ Q=>to δ λd aq=>∃C ns xs sp,d=.obj C ns xs/\MO C sp/\m ∉ ns/\ta aq λds aU=>sp ((D.obj C ns xs::ds).map D.sh) (λr=>((D.obj C ns xs::ds).all D.pl||r.fr)=true/\Q r aU) λ_=>False
theorem cJ2{pl:Sem Bool}(ho:PE X o (lB to))(hr:cC n X.A)(ha:PA X (e::es) (lA ta))
  (dg:starEach (e::es) X.env=(false,eval e X.env)::starEach es X.env:=by rfl) (bG:(backTo pos (starEach es X.env)).any (·.1)=false:=by rfl)
  (ht:eval (.Call (.Attribute o m apos) (e::es) [] pos) X.env=(do
   let ov<-eval o X.env
   standAt apos.atName
   let (f,first)<-holding [ov] (getMethod ov m pl)
   callWith pos f first (backTo pos (starEach (e::es) X.env)) (backToKw pos (keywordEach [] X.env))):=by rfl) :
  PE X (.Call (.Attribute o m apos) (e::es) [] pos) (lE (qe (C2 X.prog X.w X.K X.mg X.base n m) m to ta)):=by
 intro pins s σ H Q I zz
 obtain⟨B,F,δ,ts,Qd,c,q,k⟩:=zz
 refine PySem.W.methodCall_KW (pl:=pl) (aP (ho pins s σ H (λx H1=>∃d aq F1,S F1 H1 [d] [x]/\au B F1 H1 σ aq ts/\ag F F1/\ag H H1/\∃C ns xs sp,d=.obj C ns xs/\C2 X.prog X.w X.K X.mg X.base n m C sp/\m ∉ ns/\ta aq λds aU=>sp ((D.obj C ns xs::ds).map D.sh) (λr=>((D.obj C ns xs::ds).all D.pl||r.fr)=true/\Qd r aU) λ_=>False) I
  ⟨B,F,δ,ts,_,c,q,λd aq v F1 H1 hq f1 h1 c1 s1=>⟨d,aq,F1,s1,c1,f1,h1,hq⟩⟩) λu s1 ⟨x,H1,I1,rx,d,aq,F1,sd,c1,f1,h1,C,ns,xs,sp,ed,M,hm,hq⟩=>?_) ht
 subst ed
 obtain⟨a,dx,ws,rfl,ea,hl,r0⟩:=HK sd
 obtain rfl:u=ff a:=rx
 obtain⟨f,fd,ps,zX,FO,hb⟩:=M.ex
 refine Gf I1 ea M.cls zX (UR hm) ?_
 refine PySem.W.callWith_K (first:=[.ref a]) (h₀:=X.base) I.ok.mod.mS zX.kp (aP (ha pos pins s1 σ H1 (λvs H2=>∃ds aU F2,S F2 H2 ds vs/\au B F2 H2 σ aU ts/\ag F1 F2/\ag H1 H2/\sp ((D.obj C ns xs::ds).map D.sh) (λr=>((D.obj C ns xs::ds).all D.pl||r.fr)=true/\Qd r aU) λ_=>False) I1
  ⟨B,F1,aq,ts,_,c1,hq,λds aU vs F2 H2 hq f2 h2 c2 s2=>⟨ds,aU,F2,s2,c2,f2,h2,hq⟩⟩) λus s2 ⟨vs,H2,I2,r,ds,aU,F2,HL,c2,f2,h2,iN⟩=>⟨I2.df,?_⟩) dg bG
 refine B6 (us:=.ref a::us) (vs:=.ref a::vs) (fE:=[]) (Hx FO) hr hb .nil Hw I2 (.cons rfl r) ?_
 rw[ou]
 exact Cm (sp:=λds Q=>sp ds Q λ_=>False) c2 (.obj (h2 _ _ ea) hl (r0.shared f2 h2) HL) iN λd v F' H' hd hf hs c'=>k d aU v F' H' hd (f1.trans (f2.trans hf)) (h1.trans (h2.trans hs)) c'
end
section
variable{X:Cx}{tb th:cQ}{body dN0:List Stmt}{dN1:Stmt}{K:Str}{Kc:Addr}{kp dN2 pos:Pos}
end
structure Vd(K:PySem.W.Frag)(C:Addr):Prop where
 cls:dR K C
 ha:PySem.W.findIn K (.ref C) "__class__"=some (some (.builtin "object.__class__"))
 hn:PySem.W.specialIn K (.builtin "object.__class__") "__get__"=some (some (.builtin "getset_descriptor.__get__"))
 Gg:PySem.W.takesIn K (.builtin "object.__class__")=some true
 hm:PySem.W.mroIn K C (.type "object")=some true
end L3
namespace L3
open PySem L2 Mf
theorem Ve{m:Bool × Nat}(hm:m∈av){a b:Nat}(a1:1<=a)(a2:a<aa m)(b1:1<=b)(b2:b<aa m):∃r:Nat,pw m ((lg m a-lg m b)%((aa m:Int)-1)).toNat=r/\r<aa m/\gm m r b=a:=by
 have hF:=bS hm
 have dh:=hF.lo
 have n0:=fU (lg m a-lg m b) (show(aa m:Int)-1≠0 by omega)
 have n1:=iD (lg m a-lg m b) (show(0:Int)<(aa m:Int)-1 by omega)
 obtain⟨p1,p2,p3⟩:=CV hm (k:=((lg m a-lg m b)%((aa m:Int)-1)).toNat) (by omega)
 obtain⟨g0,g1,g2⟩:=CW hm a1 a2
 refine⟨(pw m ((lg m a-lg m b)%((aa m:Int)-1)).toNat).toNat,by omega,by omega,?_⟩
 have e:=HR hm (a:=(pw m ((lg m a-lg m b)%((aa m:Int)-1)).toNat).toNat) (by omega) (by omega) b1 b2
 rw[p3,oF n0,Int.emod_add_emod,Int.sub_add_cancel,yC g0 g1,g2]at e
 omega
end L3
namespace L3
open PySem L2 PySem.Spec PyProof.Rows
section
variable{X:Cx}{e o a:Expr}{es:List Expr}{f m y:Str}{pos p apos q:Pos}{t to ta':aQ}{ta:cG}{n:Nat}{P:Program}{w:World}{K:PySem.W.Frag}{mg:Str->Option Value}{base:Heap}
theorem i5(he:PE X e (lB t))(hK:K=X.K:=by rfl)(hb:attributeBase e f X.env (eval e X.env)=eval e X.env:=by rfl):PE X (.Attribute e f pos) (lB (pZ K t f)):=by
 subst hK;exact cY1 he hb
theorem gZ{pl:Sem Bool}(ho:PE X o (lB to))(hr:cC n X.A)(ha:PA X (e::es) (lA ta))(hP:P=X.prog:=by rfl)(hw:w=X.w:=by rfl)(hK:K=X.K:=by rfl)(hm:mg=X.mg:=by rfl)(hb:base=X.base:=by rfl)
  (dg:starEach (e::es) X.env=(false,eval e X.env)::starEach es X.env:=by rfl) (bG:(backTo pos (starEach es X.env)).any (·.1)=false:=by rfl)
  (ht:eval (.Call (.Attribute o m apos) (e::es) [] pos) X.env=(do
   let ov<-eval o X.env
   standAt apos.atName
   let (f,first)<-holding [ov] (getMethod ov m pl)
   callWith pos f first (backTo pos (starEach (e::es) X.env)) (backToKw pos (keywordEach [] X.env))):=by rfl) :
  PE X (.Call (.Attribute o m apos) (e::es) [] pos) (lE (p5 (nF P w K mg base n m) m to ta)):=by
 subst hP hw hK hm hb;exact cP2 ho hr ha dg bG ht
theorem Vf{pl:Sem Bool}(ho:PE X o (lB to))(hr:cC n X.A)(ha:PA X (e::es) (lA ta))(hP:P=X.prog:=by rfl)(hw:w=X.w:=by rfl)(hK:K=X.K:=by rfl)(hm:mg=X.mg:=by rfl)(hb:base=X.base:=by rfl)
  (dg:starEach (e::es) X.env=(false,eval e X.env)::starEach es X.env:=by rfl) (bG:(backTo pos (starEach es X.env)).any (·.1)=false:=by rfl)
  (ht:eval (.Call (.Attribute o m apos) (e::es) [] pos) X.env=(do
   let ov<-eval o X.env
   standAt apos.atName
   let (f,first)<-holding [ov] (getMethod ov m pl)
   callWith pos f first (backTo pos (starEach (e::es) X.env)) (backToKw pos (keywordEach [] X.env))):=by rfl) :
  PE X (.Call (.Attribute o m apos) (e::es) [] pos) (lE (qe (C2 P w K mg base n m) m to ta)):=by
 subst hP hw hK hm hb;exact cJ2 ho hr ha dg bG ht
end
theorem cG9:∀m∈Mf.av,1<=Mf.bl m.2/\Mf.bl m.2<=7:=by decide +kernel
end L3
namespace L3
open PySem L2 Mf
noncomputable def gp(m:Bool × Nat)(a b:Nat):Nat:=if m.1 then a ^^^ b else(a+b)%m.2
noncomputable def gl(m:Bool × Nat)(a b:Nat):Int:=if m.1 then(a ^^^ b:Nat)else((a:Int)-b)%m.2
noncomputable def gd(m:Bool × Nat)(xs ys:List Nat):Nat:=(dZ (gm m) xs ys).foldl (gp m) 0
noncomputable def dr(m:Bool × Nat):D:=.tup [.bl m.1,.int m.2]
theorem vV(cb cp:Addr)(m:Bool × Nat):fD cb cp m=.obj (if m.1 then cb else cp) (if m.1 then gY "bits"++[("products":Str)]else gY "prime") (if m.1 then pD (true,m.2)++[.lst false (nH (fl (true,m.2)) (eD (fl (true,m.2))))]else pD (false,m.2)):=by
 obtain⟨k,n⟩:=m
 cases k<;>rfl
theorem Vg(m:Bool × Nat)(x:Str)(h:x ∉ (["bits","prime","many","wide","powers","logs","step","products"]:List Str)):x ∉ (if m.1 then gY "bits"++[("products":Str)]else gY "prime"):=by
 obtain⟨k,n⟩:=m
 intro z
 apply h
 cases k
 ·have z:x∈gY "prime":=z
  simp[gY]at z
  simp only[bY]
  rcases z with z | z | z | z | z | z<;>simp[z]
 ·have z:x∈gY "bits"++[("products":Str)]:=z
  simp[gY]at z
  simp only[bY]
  rcases z with z | z | z | z | z | z | z<;>simp[z]
theorem cZ4(cb cp:Addr)(m:Bool × Nat):(fD cb cp m).sh=fD cb cp m:=by rw[vV];rfl
theorem cZ6(cb cp:Addr)(m:Bool × Nat):(fD cb cp m).pl=true:=by rw[vV];rfl
theorem cA1(m:Bool × Nat):(dr m).sh=dr m:=rfl
theorem cC3(m:Bool × Nat):(dr m).pl=true:=rfl
noncomputable def HV(P:Program)(w:World)(K:PySem.W.Frag)(mg:Str->Option Value)(base:Heap)(n:Nat)(cb cp:Addr)(m:Bool × Nat)(x:Str)(ds:List D)(Q:D->Prop):Prop:=∃C ns xs sp,fD cb cp m=.obj C ns xs/\nF P w K mg base n x C sp/\x ∉ ns/\sp (.obj C ns xs::ds) Q
theorem Vh{p:Nat}(hp:0<p):∀(l:List Nat) (acc:Nat),acc<p->l.foldl (gp (false,p)) acc=(acc+l.sum)%p
 | [],acc,h=>by simp[yA h]
 | x::l,acc,h=>by
  rw[qK,show gp (false,p) acc x=(acc+x)%p from rfl,Vh hp l _ (uw _ hp),Rh]
  show((acc+x)%p+l.sum)%p=_
  rw[yB,Fs]
theorem Vi(p:Nat):∀xs ys:List Nat,(dZ (gm (false,p)) xs ys).sum%p=(dZ (· * ·) xs ys).sum%p
 | [],_=>by simp
 | _::_,[]=>by simp
 | x::xs,y::ys=>by
  simp only[Ri,Rh]
  show(x*y%p+_)%p=_
  rw[yB,Nat.add_mod,Vi p xs ys,<- Nat.add_mod]
theorem Vj:∀xs ys:List Nat,(dZ (· * ·) (xs.map λ(n:Nat)=>(n:Int)) (ys.map λ(n:Nat)=>(n:Int))).sum=(((dZ (· * ·) xs ys).sum:Nat):Int)
 | [],_=>by simp
 | _::_,[]=>by simp
 | x::xs,y::ys=>by
  simp only[eK,Ri,Rh]
  rw[Vj xs ys,uz,yD]
theorem js(m:Bool × Nat)(a b:Nat):gp m a b=gp m b a:=by
 unfold gp
 split
 ·rw[QZ]
 ·rw[Bp]
theorem qf(m:Bool × Nat)(a b c:Nat):gp m (gp m a b) c=gp m a (gp m b c):=by
 unfold gp
 split
 ·rw[qM]
 ·rw[yB,Nat.add_mod_mod,Fs]
theorem tE{m:Bool × Nat}(h:0<m.2)(a b c:Nat):gm m (gp m a b) c=gp m (gm m a c) (gm m b c):=by
 unfold gm gp
 split
 ·rw[oN,CU (by omega)]
 ·rw[yz,Rc,<- yz,Nat.add_mul,yB,Nat.add_mod_mod]
theorem tF{m:Bool × Nat}(h:0<m.2)(a b c:Nat):gm m c (gp m a b)=gp m (gm m c a) (gm m c b):=by rw[e8,tE h,e8 m a,e8 m b]
theorem cn2:∀m∈av,m.1=true->2<=bl m.2:=by decide +kernel
theorem qg{m:Bool × Nat}(hm:m∈av){a b:Nat}(ha:a<aa m)(hb:b<aa m):gp m a b<aa m:=by
 have h0:=bB m hm
 obtain⟨k,n⟩:=m
 cases k with
 | true=>exact uR ha hb
 | false=>exact uw _ h0
theorem cj{m:Bool × Nat}(hm:m∈av)(a b:Nat):gm m a b<aa m:=by
 have h0:=bB m hm
 obtain⟨k,n⟩:=m
 cases k with
 | true =>
  have h2:=cn2 (true,n) hm rfl
  have:=(zk (show n≠0 by have:0<n:=h0;omega) (cl a b)).2
  refine(U6 rfl).mpr ?_
  show bl (md (cl a b) n)<=bl n-1
  omega
 | false=>exact uw _ h0
theorem gw{m:Bool × Nat}{a:Nat}(ha:a<aa m):gp m 0 a=a:=by
 obtain⟨k,n⟩:=m
 cases k with
 | true=>exact oy a
 | false=>show(0+a)%n=a;rw[BC];exact yA ha
theorem mm{m:Bool × Nat}{a:Nat}(ha:a<aa m):gp m a 0=a:=by rw[js];exact gw ha
theorem cW8{m:Bool × Nat}(hm:m∈av){a b:Nat}(ha:a<aa m)(hb:b<aa m):∃r:Nat,gl m a b=r/\r<aa m/\gp m r b=a:=by
 have h0:=bB m hm
 obtain⟨k,n⟩:=m
 cases k with
 | true=>exact⟨a ^^^ b,rfl,uR ha hb,by show a ^^^ b ^^^ b=a;rw[qM,Bu,kT]⟩
 | false =>
  have h0:0<n:=h0
  have ha:a<n:=ha
  have hb:b<n:=hb
  refine⟨(a+(n-b))%n,?_,uw _ h0,?_⟩
  ·show((a:Int)-b)%n=_
   rw[mO,uz,Int.natCast_sub (by omega),show((a:Int)+((n:Int)-b))=((a:Int)-b)+n by omega,Int.add_emod_right]
  ·show((a+(n-b))%n+b)%n=a
   rw[yB,show a+(n-b)+b=a+n by omega,Nat.add_mod_right,yA ha]
noncomputable def eS(m:Bool × Nat)(n:Int):Nat:=(pw m (n%((aa m:Int)-1)).toNat).toNat
theorem i6{m:Bool × Nat}(hm:m∈av)(n:Int):1<=eS m n/\eS m n<aa m/\lg m (eS m n)=n%((aa m:Int)-1)/\pw m (n%((aa m:Int)-1)).toNat=eS m n:=by
 have dh:=(bS hm).lo
 have n0:=fU n (show(aa m:Int)-1≠0 by omega)
 have n1:=iD n (show(0:Int)<(aa m:Int)-1 by omega)
 obtain⟨p1,p2,p3⟩:=CV hm (k:=(n%((aa m:Int)-1)).toNat) (by omega)
 unfold eS
 rw[p3]
 omega
theorem i7{m:Bool × Nat}(hm:m∈av)(n:Int):eS m n<aa m:=(i6 hm n).2.1
theorem kI{m:Bool × Nat}(hm:m∈av)(a b:Int):gm m (eS m a) (eS m b)=eS m (a+b):=by
 obtain⟨a1,a2,a3,_⟩:=i6 hm a
 obtain⟨b1,b2,b3,_⟩:=i6 hm b
 have e:=HR hm a1 a2 b1 b2
 rw[a3,b3,<- Int.add_emod]at e
 have c:=(i6 hm (a+b)).2.2.2
 rw[c]at e
 omega
theorem qh{m:Bool × Nat}(hm:m∈av):eS m 0=1:=by
 unfold eS
 rw[Rj,show(0:Int).toNat=0 from rfl,U9 m hm];rfl
theorem Vk{m:Bool × Nat}(hm:m∈av){a:Nat}(h1:1<=a)(h2:a<aa m):eS m (lg m a)=a:=by
 obtain⟨g0,g1,g2⟩:=CW hm h1 h2
 unfold eS
 rw[yC g0 g1,g2];rfl
theorem HW{m:Bool × Nat}(hm:m∈av)(n:Int):(fl m)[(n%((aa m:Int)-1)).toNat]?=some ((eS m n:Nat):Int):=by
 have hF:=bS hm
 have dh:=hF.lo
 have n0:=fU n (show(aa m:Int)-1≠0 by omega)
 have n1:=iD n (show(0:Int)<(aa m:Int)-1 by omega)
 have hk:(n%((aa m:Int)-1)).toNat<(fl m).length:=by have:=hF.len;omega
 rw[<-(i6 hm n).2.2.2]
 unfold pw
 rw[aI,aL hk];rfl
theorem cV8{m:Bool × Nat}(hm:m∈av){a b:Nat}(a1:1<=a)(a2:a<aa m)(b1:1<=b)(b2:b<aa m):gm m a b≠0:=by
 rw[<-Vk hm a1 a2,<- Vk hm b1 b2,kI hm]
 have:=(i6 hm (lg m a+lg m b)).1
 omega
noncomputable def aJ(m:Bool × Nat)(x:Nat):List Nat->Nat
 | []=>0
 | a::l=>gp m (gm m (aJ m x l) x) a
theorem jt{m:Bool × Nat}(hm:m∈av)(x:Nat):∀{l:List Nat},(∀a∈l,a<aa m)->aJ m x l<aa m
 | [],_=>by have:=(bS hm).lo;show 0<_;omega
 | a::l,h=>qg hm (cj hm _ _) (h a (by simp))
end L3
namespace L2
open PySem PySem.Spec PyProof.Rows
noncomputable def HX(K:PySem.W.Frag)(a:Addr)(n:Nat):It :=
 ⟨λi H=>i<n/\∃xs x,bK K H a xs/\xs[n-1-i]?=some x,λi H x H'=>H'=H/\∀xs,bK K H a xs->xs[n-1-i]?=some x,λi _=>n<=i⟩
theorem cm9{P:Program}{w:World}{K:PySem.W.Frag}{tg:Expr}(a it:Addr)(n:Nat):Turn P w K tg (HX K a n) [it] it (λi h=>i<=n/\h.IsRevIter it a ((n:Int)-1-(i:Int))) where
 mem:=by simp
 obj:=λi h st b hb=>by
  have e:b=it:=by simpa using hb
  subst e
  obtain⟨_,o,e,c,d⟩:=st
  exact⟨o,e,λv z=>by rw[d]at z;cases z⟩
 keep:=λi h h' st k=>⟨st.1,st.2.at λo e=>k it (by simp) o e⟩
 item:=by
  intro X hP hw hK hc i pins s σ H E I hf st hg
  subst hP hw hK
  obtain⟨hi,xs,x,hq,hx⟩:=hg
  obtain⟨its,rv,p,hz⟩:=I.list hq
  obtain⟨u,hu,ru⟩:=rv.get hx
  obtain⟨f0,f1,f2,f3,f4,f5⟩:=hf it (by simp)
  obtain⟨hle,st⟩:=st
  have e0:(n:Int)-1-(i:Int)=((n-1-i:Nat):Int):=by omega
  rw[e0]at st
  refine wpAny_pyNext_rev_item st p.isList (x:=u) (by simpa using hu) λh' jJ sb=>?_
  have e1:((n-1-i:Nat):Int)-1=(n:Int)-1-((i+1:Nat):Int):=by omega
  rw[e1]at jJ
  have I1:Inv X pins σ H { s with heap:=h' }:=I.turned (t':=s.toks) (λb o hb e=>(sb.2 b hb).trans e) f0 f1 f3 f4 f5
  obtain⟨o,e,c,d⟩:=id jJ
  exact⟨u,rfl,FT (s:={ s with heap:=h' }) e c d (by decide) ⟨x,H,I1,ru,⟨rfl,λys hy=>by rw[I.yW hy hq];exact hx⟩,⟨hi,jJ⟩,λb hb=>(hf b hb).1⟩⟩
 done:=by
  intro X hP hw hK hc i pins s σ H E I hf st hg
  subst hP hw hK
  obtain⟨f0,f1,f2,f3,f4,f5⟩:=hf it (by simp)
  obtain⟨hle,st⟩:=st
  have hg:n<=i:=hg
  have e0:(n:Int)-1-(i:Int)=-1:=by omega
  rw[e0]at st
  exact wpAny_pyNext_rev_end (I.ok.hd hc) st λh' eb=>⟨rfl,I.turned (t':=s.toks) (λb o hb e=>eb b o hb e) f0 f1 f3 f4 f5⟩
 self:=λ_ _ _ _ _ st h=>wpAny_pyIter_revIter st.2 h
section
variable{X:Cx}{a:Expr}{ta:TA}{p pos:Pos}{tg:Expr}
noncomputable def c76(K:PySem.W.Frag)(ta:TA):TI:=λσ H R=>ta σ H λvs H1=>∃a xs,vs=[.ref a]/\bK K H1 a xs/\R (HX K a xs.length) H1
theorem Vl:bootBuiltins "reversed"=some (.type "reversed"):=by decide +kernel
theorem cT2(hg:Gl X "reversed")(hm:X.mg "reversed"=none)(ha:PA X [a] ta)(hs:starEach [a] X.env=[(false,eval a X.env)]:=by rfl) :
  PI X tg (.Call (.Name "reversed" p) [a] [] pos) (c76 X.K ta):=by
 intro pins s σ H R I h
 refine Call_ (lC I hg hm Vl (qF (aP (ha pos pins s σ H _ I h) λus s1 ⟨vs,H1,I1,r1,q1⟩=>?_) hs rfl))
 obtain⟨a,xs,e,hx,q⟩:=q1
 subst e
 cases r1 with
 | cons r rr =>
  cases rr
  cases r
  obtain⟨as,ra,pa,_⟩:=I1.list hx
  have hl:=ra.length
  have hit:(s1.heap.push (revObj a ((as.toArray.size:Int)-1))).IsRevIter s1.heap.objs.size a ((xs.length:Int)-1-((0:Nat):Int)):=by
   refine⟨_,fO _ rfl,rfl,?_⟩
   rw[show(xs.length:Int)-1-((0:Nat):Int)=(as.toArray.size:Int)-1 by simp;omega];rfl
  refine call_reversed_list pa.isList ?_
  refine wpAny_pyIter_revIter hit ?_
  refine⟨s1.heap.objs.size,[s1.heap.objs.size],_,_,H1,rfl,I1.kept (t':=s1.toks) λb o e=>eF _ e,cm9 a _ xs.length,⟨jz _,hit⟩,λb hb=>?_,q⟩
  have e:b=s1.heap.objs.size:=by simpa using hb
  subst e
  exact I1.yX (bJ _) (I1.aG.fresh (bJ _))
end
end L2
namespace L3
open PySem L2 PySem.Spec PyProof.Rows
section
variable{F H:Hp}{K:PySem.W.Frag}{p:Addr}{ws:List V}{xs:List D}
theorem Vm(hp:Rd F p (.lst ws))(r:R F H xs ws [])(hF:Full F H):JD (HX K p ws.length) F xs.reverse where
 go:=λi H' hs hi=>by
  rw[oG]at hi
  have l1:=r.length
  exact⟨by omega,ws,_,.inl (gr hp hs),aL (show ws.length-1-i<ws.length by omega)⟩
 jg:=λi H' v H2 hs hi zz=>by
  obtain⟨e,hx⟩:=zz
  subst e
  have mi:=hi
  rw[oG]at mi
  have l1:=r.length
  have h1:=CA (r.full hF hs rfl) (show xs.length-1-i<xs.length by omega) (x:=v) (by rw[l1];exact hx ws (.inl (gr hp hs)))
  refine⟨_,?_,ag.refl _,h1⟩
  rw[BD mi,aL]
 stop:=λi H' hs hi=>by
  rw[oG]at hi
  have l1:=r.length
  show ws.length<=i
  omega
end
section
variable{X:Cx}{a:Expr}{ta:cG}{p pos:Pos}{tg:Expr}
noncomputable def tG(t:cG):iU:=λδ Q=>t δ λds ah=>match ds with
 | [d1]=>∃xs,iV d1=some xs/\Q d1.pl xs.reverse ah
 | _=>False
theorem bY2(hg:Gl X "reversed")(hm:X.mg "reversed"=none)(ha:PA X [a] (lA ta))(hs:starEach [a] X.env=[(false,eval a X.env)]:=by rfl) :
  PI X tg (.Call (.Name "reversed" p) [a] [] pos) (lI (tG ta)) :=
 rM (cT2 hg hm ha hs) λσ H Q ⟨B,F,δ,ts,Qd,c,q,k⟩=>⟨B,F,δ,ts,_,c,q,λds aq vs F1 H1 hd f1 h1 c1 s=>by
  match ds,hd,s with
  | [d1],⟨xs,i1,hq⟩,s =>
   obtain⟨v1,cE,rfl,s1,s2⟩:=s.cP
   cases s2
   have e2:=c1.ext
   have sn:=oR e2
   obtain⟨p1,w1,rfl,r1,t1,u1⟩:=Cz s1 e2 i1
   refine⟨p1,w1,rfl,.inl r1,k _ _ aq _ _ H1 hq (f1.trans sn) h1 c1.snap ?_ λz=>?_⟩
   ·rw[Rk]
    exact Vm r1 t1 (Full.refl _)
   ·obtain⟨a1,a2,a3⟩:=u1 z
    exact⟨by rw[List.all_reverse];exact a1,Vm (gr a2 sn) (a3.shared sn (ag.refl _)) rm⟩⟩
end
end L3
namespace L3
open PySem L2 Mf
noncomputable def fH(l:List Nat):List Nat:=(l.reverse.dropWhile (·==0)).reverse
theorem HY{l:List Nat}{k:Nat}(hk:k<=l.length)(hz:∀x∈l.drop k,x=0)(hn:k=0\/l.getD (k-1) 0≠0):fH l=l.take k:=by
 unfold fH
 conv=>lhs;rw[<-List.take_append_drop k l]
 rw[dh3,List.dropWhile_append_of_pos (λa ha=>by simp[hz a (Rl.mp ha)])]
 rcases hn with rfl | hn
 ·simp
 ·by_cases h0:k=0
  ·subst h0;simp
  ·have e:l.take k=l.take (k-1)++[l.getD (k-1) 0]:=by
    conv=>lhs;rw[show k=k-1+1 by omega]
    rw[mL,aI,aL (by omega)];rfl
   rw[e,dh3]
   generalize l.getD (k-1) 0=v at hn
   simp[List.dropWhile_cons,hn]
theorem z7(l:List Nat):∃k,k<=l.length/\(∀x∈l.drop k,x=0)/\(k=0\/l.getD (k-1) 0≠0)/\fH l=l.take k:=by
 have:∀n,n<=l.length->(∀x∈l.drop n,x=0)->∃k,k<=l.length/\(∀x∈l.drop k,x=0)/\(k=0\/l.getD (k-1) 0≠0):=by
  intro n
  induction n with
  | zero=>exact λh1 h2=>⟨0,h1,h2,.inl rfl⟩
  | succ n ih =>
   intro h1 h2
   by_cases h:l.getD n 0=0
   ·refine ih (by omega) λx hx=>?_
    rw[Rm (by omega)]at hx
    rcases bY.mp hx with hx | hx
    ·rw[hx]
     rw[aI,aL (by omega)]at h
     exact h
    ·exact h2 x hx
   ·exact⟨n+1,h1,h2,.inr h⟩
 obtain⟨k,h1,h2,h3⟩:=this l.length (bJ _) (by simp)
 exact⟨k,h1,h2,h3,HY h1 h2 h3⟩
theorem Vn{l:List Nat}{x:Nat}(h:x∈fH l):x∈l:=by
 obtain⟨k,_,_,_,e⟩:=z7 l
 rw[e]at h
 exact yt h
theorem cl8(l:List Nat):(fH l).length<=l.length:=by
 obtain⟨k,_,_,_,e⟩:=z7 l
 rw[e,jA];omega
theorem HZ(l:List Nat):(fH l).length=0\/(fH l).getD ((fH l).length-1) 0≠0:=by
 obtain⟨k,h1,_,h3,e⟩:=z7 l
 rw[e,jA,yu h1]
 rcases h3 with h3 | h3
 ·exact .inl h3
 ·by_cases h0:k=0
  ·exact .inl h0
  ·right
   rw[aI]at h3 ⊢
   rw[Bz,if_pos (by omega)]
   exact h3
theorem C3{m:Bool × Nat}(hm:m∈av)(x:Nat):∀{l:List Nat},(∀a∈l,a=0)->aJ m x l=0
 | [],_=>rfl
 | a::l,h=>by
  have dh:=(bS hm).lo
  show gp m (gm m (aJ m x l) x) a=0
  rw[C3 hm x λa ha=>h a (by simp[ha]),h a (by simp),dN _ _ (bB m hm),gw (by omega)]
theorem Vo{m:Bool × Nat}(hm:m∈av)(x:Nat):∀(l:List Nat) (k:Nat),(∀a∈l.drop k,a=0)->aJ m x (l.take k)=aJ m x l
 | [],k,_=>by rw[List.take_nil]
 | a::l,0,h=>by rw[List.take_zero];exact(C3 hm x h).symm
 | a::l,k+1,h=>by
  rw[List.take_succ_cons]
  show gp m (gm m (aJ m x (l.take k)) x) a=gp m (gm m (aJ m x l) x) a
  rw[Vo hm x l k h]
theorem co1{m:Bool × Nat}(hm:m∈av)(x:Nat)(l:List Nat):aJ m x (fH l)=aJ m x l:=by
 obtain⟨k,_,h2,_,e⟩:=z7 l
 rw[e];exact Vo hm x l k h2
noncomputable def px(m:Bool × Nat)(x:Nat):Nat->Nat
 | 0=>1
 | k+1=>gm m (px m x k) x
noncomputable def ju(m:Bool × Nat)(t:List Nat)(k v:Nat):List Nat:=t.set k (gp m (t.getD k 0) v)
noncomputable def eT(m:Bool × Nat)(x:Nat):List Nat->Nat->List Nat->List Nat
 | t,_,[]=>t
 | t,i,y::b=>eT m x (ju m t i (gm m x y)) (i+1) b
noncomputable def gx(m:Bool × Nat)(b:List Nat):List Nat->Nat->List Nat->List Nat
 | t,_,[]=>t
 | t,i,x::a=>gx m b (eT m x t i b) (i+1) a
noncomputable def kJ(m:Bool × Nat)(a b:List Nat):List Nat:=gx m b (aT (a.length+b.length) 0) 0 a
noncomputable def fI(m:Bool × Nat)(a b:List Nat):List Nat:=fH (kJ m a b)
theorem Vp(m:Bool × Nat)(x:Nat):∀(b c t:List Nat) (i:Nat),eT m x t i (b++c)=eT m x (eT m x t i b) (i+b.length) c
 | [],c,t,i=>rfl
 | y::b,c,t,i=>by
  show eT m x (ju m t i (gm m x y)) (i+1) (b++c)=_
  rw[Vp m x b c,eJ,show i+1+b.length=i+(b.length+1) by omega];rfl
theorem Vq(m:Bool × Nat)(x:Nat)(b t:List Nat)(i:Nat){j:Nat}(hj:j<b.length):eT m x t i (b.take (j+1))=ju m (eT m x t i (b.take j)) (i+j) (gm m x b[j]):=by
 rw[mL,aL hj,Vp,jA,yu (by omega)];rfl
theorem Vr(m:Bool × Nat)(b:List Nat):∀(a c t:List Nat) (i:Nat),gx m b t i (a++c)=gx m b (gx m b t i a) (i+a.length) c
 | [],c,t,i=>rfl
 | y::a,c,t,i=>by
  show gx m b (eT m y t i b) (i+1) (a++c)=_
  rw[Vr m b a c,eJ,show i+1+a.length=i+(a.length+1) by omega];rfl
theorem Vs(m:Bool × Nat)(b a t:List Nat)(i:Nat){j:Nat}(hj:j<a.length):gx m b t i (a.take (j+1))=eT m a[j] (gx m b t i (a.take j)) (i+j) b:=by
 rw[mL,aL hj,Vr,jA,yu (by omega)];rfl
theorem Ia(m:Bool × Nat)(t:List Nat)(k v:Nat):(ju m t k v).length=t.length:=by unfold ju;rw[mE]
theorem vW(m:Bool × Nat)(x:Nat):∀(b t:List Nat) (i:Nat),(eT m x t i b).length=t.length
 | [],t,i=>rfl
 | y::b,t,i=>(vW m x b _ _).trans (Ia m t i _)
theorem C4(m:Bool × Nat)(b:List Nat):∀(a t:List Nat) (i:Nat),(gx m b t i a).length=t.length
 | [],t,i=>rfl
 | y::a,t,i=>(C4 m b a _ _).trans (vW m y b t i)
noncomputable def AllLt(n:Nat)(l:List Nat):Prop:=∀a∈l,a<n
theorem AllLt.getD{n:Nat}{l:List Nat}(h:AllLt n l)(h0:0<n)(k:Nat):l.getD k 0<n:=by
 rw[aI]
 cases e:l[k]? with
 | none=>exact h0
 | some v=>exact h v (yo e)
theorem Ib{m:Bool × Nat}(hm:m∈av){t:List Nat}(ht:AllLt (aa m) t){k v:Nat}(hv:v<aa m):AllLt (aa m) (ju m t k v):=λa ha=>by
 unfold ju at ha
 have dh:=(bS hm).lo
 rcases yy ha with h | h
 ·exact ht a h
 ·rw[h];exact qg hm (ht.getD (by omega) k) hv
theorem vX{m:Bool × Nat}(hm:m∈av)(x:Nat):∀(b t:List Nat) (i:Nat),AllLt (aa m) t->AllLt (aa m) (eT m x t i b)
 | [],t,i,h=>h
 | y::b,t,i,h=>vX hm x b _ _ (Ib hm h (cj hm _ _))
theorem C5{m:Bool × Nat}(hm:m∈av)(b:List Nat):∀(a t:List Nat) (i:Nat),AllLt (aa m) t->AllLt (aa m) (gx m b t i a)
 | [],t,i,h=>h
 | y::a,t,i,h=>C5 hm b a _ _ (vX hm y b t i h)
theorem vY{m:Bool × Nat}(hm:m∈av)(n:Nat):AllLt (aa m) (aT n 0):=λa ha=>by
 have dh:=(bS hm).lo
 rw[(yr.mp ha).2];omega
theorem cq8{m:Bool × Nat}(hm:m∈av)(a b:List Nat):AllLt (aa m) (kJ m a b):=C5 hm b a _ 0 (vY hm _)
theorem Ic(m:Bool × Nat)(a b:List Nat):(kJ m a b).length=a.length+b.length:=by unfold kJ;rw[C4,hW]
theorem C6{m:Bool × Nat}(hm:m∈av)(a b:List Nat):AllLt (aa m) (fI m a b):=λx hx=>cq8 hm a b x (Vn hx)
theorem cl5(m:Bool × Nat)(a b:List Nat):(fI m a b).length<=a.length+b.length:=eH (cl8 _) (Bj (Ic m a b))
theorem Vt{m:Bool × Nat}(hm:m∈av)(X:Nat){v:Nat}(hv:v<aa m):∀(t:List Nat) (k:Nat),k<t.length->aJ m X (ju m t k v)=gp m (aJ m X t) (gm m v (px m X k))
 | [],k,h=>by simp at h
 | a::t,0,_=>by
  show gp m (gm m (aJ m X t) X) (gp m a v)=gp m (gp m (gm m (aJ m X t) X) a) (gm m v 1)
  rw[jr hv,qf]
 | a::t,k+1,h=>by
  have ih:=Vt hm X hv t k (by simpa using h)
  have h0:=bB m hm
  show gp m (gm m (aJ m X (ju m t k v)) X) a=gp m (gp m (gm m (aJ m X t) X) a) (gm m v (gm m (px m X k) X))
  rw[ih,tE h0,eR h0,qf,qf,js m _ a]
theorem Vu{m:Bool × Nat}(hm:m∈av)(X x:Nat):∀(b t:List Nat) (i:Nat),AllLt (aa m) t->i+b.length<=t.length->aJ m X (eT m x t i b)=gp m (aJ m X t) (gm m (gm m x (px m X i)) (aJ m X b))
 | [],t,i,ht,_=>by
  show aJ m X t=gp m (aJ m X t) (gm m (gm m x (px m X i)) 0)
  rw[gg _ _ (bB m hm),mm (jt hm X ht)]
 | y::b,t,i,ht,hl=>by
  have h0:=bB m hm
  rw[eJ]at hl
  show aJ m X (eT m x (ju m t i (gm m x y)) (i+1) b)=gp m (aJ m X t) (gm m (gm m x (px m X i)) (gp m (gm m (aJ m X b) X) y))
  rw[Vu hm X x b _ _ (Ib hm ht (cj hm _ _)) (by rw[Ia];omega),Vt hm X (cj hm _ _) t i (by omega),qf]
  congr 1
  rw[tF h0,js]
  congr 1
  ·show gm m (gm m x (gm m (px m X i) X)) (aJ m X b)=_
   rw[<-eR h0 x,eR h0 _ X,e8 m X]
  ·rw[eR h0,eR h0,e8 m y]
theorem Vv{m:Bool × Nat}(hm:m∈av)(X:Nat)(b:List Nat):∀(a t:List Nat) (i:Nat),AllLt (aa m) t->i+a.length+b.length<=t.length->aJ m X (gx m b t i a)=gp m (aJ m X t) (gm m (gm m (aJ m X a) (px m X i)) (aJ m X b))
 | [],t,i,ht,_=>by
  have h0:=bB m hm
  show aJ m X t=gp m (aJ m X t) (gm m (gm m 0 (px m X i)) (aJ m X b))
  rw[dN _ _ h0,dN _ _ h0,mm (jt hm X ht)]
 | x::a,t,i,ht,hl=>by
  have h0:=bB m hm
  rw[eJ]at hl
  show aJ m X (gx m b (eT m x t i b) (i+1) a)=gp m (aJ m X t) (gm m (gm m (gp m (gm m (aJ m X a) X) x) (px m X i)) (aJ m X b))
  rw[Vv hm X b a _ _ (vX hm x b t i ht) (by rw[vW];omega),Vu hm X x b t i ht (by omega),qf]
  congr 1
  rw[tE h0,tE h0,js]
  congr 1
  show gm m (gm m (aJ m X a) (gm m (px m X i) X)) (aJ m X b)=_
  rw[e8 m (px m X i) X,<- eR h0 (aJ m X a)]
theorem Ie{m:Bool × Nat}(hm:m∈av)(X:Nat)(a b:List Nat)(ha:AllLt (aa m) a)(hb:AllLt (aa m) b):aJ m X (fI m a b)=gm m (aJ m X a) (aJ m X b):=by
 unfold fI
 rw[co1 hm]
 unfold kJ
 rw[Vv hm X b a _ 0 (vY hm _) (by rw[hW];omega),C3 hm X (λx hx=>(yr.mp hx).2)]
 show gp m 0 (gm m (gm m (aJ m X a) 1) (aJ m X b))=_
 rw[jr (jt hm X ha),gw (cj hm _ _)]
end L3
namespace L3
open PySem L2 PySem.Spec PyProof.Rows
theorem b69(n:Nat)(l:List Nat):(ak l).all (dE n)=true:=by
 rw[cI,kU,cU]
 intro a _
 exact pO n _
theorem Ig(n:Nat)(o:Bool)(l:List Nat):dE (n+1) (.lst o (ak l))=true:=b69 n l
theorem vZ(o o':Bool)(a b:List Nat):bH (.lst o (ak a)) (.lst o' (ak b))=decide (a=b):=by
 unfold ak
 rw[sT]
 congr 1
 apply propext
 constructor
 ·intro h
  have:=congrArg (Fu mP) h
  have e:(mP ∘ λ(n:Nat)=>(n:Int))=id:=by funext x;rfl
  rw[da,da,e,List.map_id,List.map_id]at this
  exact this
 ·intro h;rw[h]
theorem nI{l:List Nat}{k:Int}(h0:0<=k)(h:k.toNat<l.length):eB (ak l) k=some (.int ((l.getD k.toNat 0:Nat):Int)):=by
 refine jM h0 ?_
 rw[cI,bX,aL h,aI,aL h];rfl
theorem ch8{l:List Nat}(h:0<l.length):eB (ak l) (-1)=some (.int ((l.getD (l.length-1) 0:Nat):Int)):=by
 unfold ak
 rw[b86 (by rw[bu];exact h),bu]
 congr 2
 rw[aI,aI,bX]
 cases l[l.length-1]?<;>rfl
theorem z8{n:Nat}{k:Int}(h0:0<=k)(h:k.toNat<n):iq n k=some k.toNat:=by
 unfold iq
 rw[if_pos h0,if_pos (by omega)]
theorem tH{n:Nat}(k:Int)(h:k=n):(((aO k.toNat).map λ(k:Nat)=>D.int (0+(k:Int))).map D.sh)=(aO n).map λ(i:Nat)=>D.int (i:Int):=by
 subst h
 rw[pe,gB]
 simp
theorem bM0{n nn:Nat}{k:Int}(h:k=n)(hn:n<=1000000){δ:Dl}{Q:D->Dl->Prop}(q:Q (.lst true (ak (aT n 0))) δ):rS true ((aO k.toNat).map λ(k:Nat)=>D.int (0+(k:Int))) [] nn (gN 0) jR (dC (D.int 0)) δ Q:=by
 refine gb (aO n) (λ(i:Nat)=>D.int (i:Int)) (λ_=>D.int ((0:Nat):Int)) (tH _ h) i3 (λk hk=>?_) (.inr λ_ _=>rfl) (by rw[cZ,sL];omega) ?_
 ·exact rfl
 ·rw[show((aO n).map λ_=>D.int ((0:Nat):Int))=ak (aT n 0) by rw[cI,oH,List.map_const',cZ]]
  exact q
theorem Vw{l:List Nat}{k:Nat}(h1:0<k)(hk:k<=l.length)(hz:∀x∈l.drop k,x=0)(h0:l.getD (k-1) 0=0):∀x∈l.drop (k-1),x=0:=by
 intro x hx
 rw[Rm (by omega)]at hx
 rcases bY.mp hx with hx | hx
 ·rw[hx]
  rw[aI,aL (by omega)]at h0
  exact h0
 ·rw[show k-1+1=k by omega]at hx
  exact hz x hx
theorem C7(l:List Nat)(k v:Nat):(ak l).set k (.int (v:Nat))=ak (l.set k v):=by
 rw[cI,cI,Rn]
theorem Ih(l:List Nat):(ak l).all D.fr=true:=pL _
theorem v3(o:Bool)(l:List Nat):(D.lst o (ak l)).sh=.lst false (ak l):=by rw[fj,nB]
theorem eU(l:List Nat):(D.lst true (ak l)).fr=true:=by rw[fY,Ih];rfl
theorem cK4{xs:List D}{i:Nat}{d:D}(h:(eC xs)[i]?=some d):∃hi:i<xs.length,d=.tup [.int i,xs[i]]:=by
 have hi:i<(eC xs).length:=(iB.mp h).1
 rw[mh]at hi
 refine⟨hi,?_⟩
 unfold eC at h
 rw[uv,aL hi]at h
 exact(cN h).symm
theorem C8{l:List Nat}{i:Nat}{d:D}(h:(eC (ak l))[i]?=some d):∃hi:i<l.length,d=.tup [.int i,.int (l[i]:Nat)]:=by
 obtain⟨hi,e⟩:=cK4 h
 rw[dF]at hi
 refine⟨hi,?_⟩
 rw[e]
 simp only[cI,List.getElem_map]
theorem Vx{a:Int}{n i:Nat}{d:D}(h:((aO n).map λ(k:Nat)=>D.int (a+(k:Int)))[i]?=some d):i<n/\d=.int (a+i):=by
 have hi:i<n:=by
  have:=(iB.mp h).1
  simpa using this
 refine⟨hi,?_⟩
 rw[bX,jD hi]at h
 exact(cN h).symm
section
variable{X:Cx}
end
end L3
namespace L3
open PySem L2 Mf
noncomputable def aZ(m:Bool × Nat)(a b:Nat):Nat:=(gl m a b).toNat
theorem eV{m:Bool × Nat}(hm:m∈av){a b:Nat}(ha:a<aa m)(hb:b<aa m):gl m a b=(aZ m a b:Nat)/\aZ m a b<aa m/\gp m (aZ m a b) b=a:=by
 obtain⟨r,e,h1,h2⟩:=cW8 hm ha hb
 have:aZ m a b=r:=by unfold aZ;rw[e];rfl
 rw[this]
 exact⟨e,h1,h2⟩
noncomputable def nJ(l:List Nat)(n:Nat):List Nat:=l++aT (n-l.length) 0
theorem v7{l:List Nat}{n:Nat}(h:l.length<=n):(nJ l n).length=n:=by unfold nJ;rw[fB,hW];omega
theorem z9{m:Bool × Nat}(hm:m∈av){l:List Nat}(h:AllLt (aa m) l)(n:Nat):AllLt (aa m) (nJ l n):=λa ha=>by
 rcases cw.mp ha with ha | ha
 ·exact h a ha
 ·exact vY hm _ a ha
noncomputable def kK(f:Nat->Nat->Nat)(a b:List Nat):List Nat:=dZ f (nJ a (max a.length b.length)) (nJ b (max a.length b.length))
theorem Vy(f:Nat->Nat->Nat)(a b:List Nat):(kK f a b).length=max a.length b.length:=by
 unfold kK
 rw[jY,v7 (Ro _ _),v7 (Nat.le_max_right _ _),uq]
theorem C9{n:Nat}{f:Nat->Nat->Nat}:∀{a b:List Nat},(∀x∈a,∀y∈b,f x y<n)->AllLt n (dZ f a b)
 | [],_,_=>by intro x hx;simp at hx
 | _::_,[],_=>by intro x hx;simp at hx
 | x::a,y::b,h=>by
  intro z hz
  rw[Ri]at hz
  rcases bY.mp hz with rfl | hz
  ·exact h x (by simp) y (by simp)
  ·exact C9 (λx hx y hy=>h x (by simp[hx]) y (by simp[hy])) z hz
theorem cG6{m:Bool × Nat}(hm:m∈av){a b:List Nat}(ha:AllLt (aa m) a)(hb:AllLt (aa m) b):AllLt (aa m) (kK (aZ m) a b):=C9 λx hx y hy=>(eV hm (z9 hm ha _ x hx) (z9 hm hb _ y hy)).2.1
theorem bZ6(xs ys:List Nat):(dJ (ak xs) (ak ys)).map D.sh=(xs.zip ys).map λz=>D.tup [.int (z.1:Int),.int (z.2:Int)]:=by
 unfold ak
 rw[Vc,List.zip_map,da];rfl
theorem Ii{sh:Bool}{aD:List (Str × Nat)}{n i1 i2:Nat}{te:aQ}{aq:Dl}{Q:D->Dl->Prop}(f:Nat->Nat->Nat){A B:List Nat}(hx:∀x∈A,∀y∈B,jn i1 i2 (.tup [.int (x:Int),.int (y:Int)]) (fS aD n aq) λaU=>te aU λd _=>d=.int ((f x y:Nat):Int))
  (hl:A.length<=100000) (hq:Q (.lst true (ak (dZ f A B))) aq):rS sh (dJ (ak A) (ak B)) aD n (jn i1 i2) jR te aq Q:=by
 refine HS (A.zip B) (λz=>D.tup [.int (z.1:Int),.int (z.2:Int)]) (λz=>D.int ((f z.1 z.2:Nat):Int)) (bZ6 A B) (λa b h=>?_) (λz hz=>hx z.1 (qG hz).1 z.2 (qG hz).2) HU (.inr λ_ _=>rfl) (by rw[BE,sL];omega) ?_
 ·injection h with h
  simp at h
  exact Fw (by omega) (by omega)
 ·rw[show((A.zip B).map λz=>D.int ((f z.1 z.2:Nat):Int))=ak (dZ f A B) by rw[cI,BB,uu,uu]]
  exact hq
end L3
namespace L3
open PySem L2 PySem.Spec PyProof.Rows
theorem au.dW6{B:Bs}{F H:Hp}{σ:L2.St}{δ:Dl}{ps ts:List (D × V)}{p:Addr}{o:HO}{A1:List Addr}(c:au B F H σ δ (ps++ts))(hp:H p=none)(r:R F (upd H p o) (ps.map (·.1)) (ps.map (·.2)) A1):p ∉ A1:=λh=>by
 obtain⟨A,C,r0,_,_,_⟩:=c.own
 rw[jC,jC]at r0
 obtain⟨v1,v2,B1,B2,e,rfl,h1,h2⟩:=R.split r0
 have l1:(ps.map (·.2)).length=v1.length:=by rw[<-h1.length];simp
 obtain⟨rfl,rfl⟩:=Fq e l1
 have g1:=h1.grow (ag.refl F) (ag.upd (o:=o) hp) λa ha=>(h1.lists a ha).2
 have:A1=B1:=R.inj r g1
 subst this
 obtain⟨ws,e⟩:=(h1.lists p h).1
 rw[hp]at e;cases e
theorem au.join{B:Bs}{F H:Hp}{σ:L2.St}{δ:Dl}{ts:List (D × V)}{p p' r:Addr}{xs ys:List D}{ws fk:List V}(c:au B F H σ δ ((.lst true ys,.ref p')::(.lst true xs,.ref p)::ts))(e1:H p=some (.lst ws))(e2:H p'=some (.lst fk))(hr:H r=none) :
  au B F (upd H r (.lst (ws++fk))) σ δ ((.lst true (xs++ys),.ref r)::ts):=by
 refine au.pack (ps:=[(.lst true ys,.ref p'),(.lst true xs,.ref p)]) c (ag.upd hr) λA1 r1 nd=>?_
 have nin:=au.dW6 (ps:=[(.lst true ys,.ref p'),(.lst true xs,.ref p)]) (ts:=ts) c hr r1
 have n1:p≠r:=λz=>by rw[z,hr]at e1;cases e1
 have n2:p'≠r:=λz=>by rw[z,hr]at e2;cases e2
 have r1:R F (upd H r (.lst (ws++fk))) [.lst true ys,.lst true xs] [.ref p',.ref p] A1:=r1
 cases r1 with
 | @own _ wy _ Ay _ _ By hy fy ry rb =>
  cases rb with
  | @own _ wx _ Ax _ _ Bx hx fx rx rc =>
   cases rc
   rw[bc n2,e2]at hy;cases hy
   rw[bc n1,e1]at hx;cases hx
   refine⟨r::(Ax++Ay),by simpa using R.own cy (c.ext.free hr) (rx.append ry) .nil,?_,λa ha=>?_⟩
   ·refine iC.mpr ⟨λz=>nin ?_,?_⟩
    ·rcases cw.mp z with z | z<;>simp[z]
    ·have sl:(Ay++Ax).Sublist (p'::Ay++(p::Ax++[])):=by
      rw[ou]
      exact(((dh4 p Ax).append_left Ay).trans (dh4 p' _))
     exact oB.nodup_iff.mp (nd.sublist sl)
   ·simp only[bY,cw]at ha ⊢
    rcases ha with rfl | ha | ha
    ·exact .inr hr
    ·simp[ha]
    ·simp[ha]
section
variable{X:Cx}{a b:Expr}{ta tb:aQ}{pos:Pos}
noncomputable def tI(ta tb:aQ):aQ:=λδ Q=>ta δ λx aq=>tb aq λy aU=>∃xs ys,x=.lst true xs/\y=.lst true ys/\xs.length+ys.length<=sizeLine/\Q (.lst true (xs++ys)) aU
theorem cT9(ha:PE X a (lE ta))(hb:PE X b (lE tb)):PE X (.BinOp a .Add b pos) (lE (tI ta tb)) :=
 dz (y8 Ss ha hb) λσ H Q ⟨B,F,δ,ts,Qd,c,q,k⟩ =>
  ⟨B,F,δ,ts,_,c,q,λx aq v F1 H1 q1 f1 h1 c1=>⟨B,F1,aq,(x,v)::ts,_,c1,q1,λy aU w F2 H2 q2 f2 h2 c2=>by
   obtain⟨xs,ys,rfl,rfl,hz,hq⟩:=q2
   obtain⟨p',fk,rfl,e2,s2⟩:=iX c2.top c2.ext
   obtain⟨p,ws,rfl,e1,s1⟩:=iX c2.pop.top c2.ext
   refine⟨p,p',ws,fk,rfl,rfl,e1,e2,by rw[<-s1.length,<- s2.length];exact hz,λr hr=>?_⟩
   exact k _ aU _ F2 _ hq (f1.trans f2) ((h1.trans h2).trans (ag.upd hr)) (c2.join e1 e2 hr)⟩⟩
end
theorem Vz{a b:List Nat}(h:ak a=ak b):a=b:=by
 have:=vZ true true a b
 rw[h,show bH (D.lst true (ak b)) (D.lst true (ak b))=true from(vZ _ _ _ _).trans (decide_eq_true rfl)]at this
 exact of_decide_eq_true this.symm
theorem VA{o:Bool}(a b:List Nat)(h:D.lst o (ak a)=D.lst o (ak b)):a=b:=Vz (by injection h)
end L3
namespace L3
open PySem L2 Mf
theorem tJ{m:Bool × Nat}(hm:m∈av)(k:Int):∀n:Nat,px m (eS m k) n=eS m (k*n)
 | 0=>by
  show 1=eS m (k*((0:Nat):Int))
  rw[show k*((0:Nat):Int)=0 by omega,qh hm]
 | n+1=>by
  show gm m (px m (eS m k) n) (eS m k)=_
  rw[tJ hm k n,kI hm,uz,Int.mul_add]
  congr 1
  omega
end L3
namespace L2
open PySem PySem.Spec PyProof.Rows
end L2
namespace L3
open PySem L2 PySem.Spec PyProof.Rows Mf
noncomputable def jV(m:Bool × Nat)(row c:List Nat)(at_:Nat):Nat:=gd m c ((aO c.length).map λj=>row.getD (at_-j) 0)
theorem Ij{m:Bool × Nat}(hm:m∈av)(xs ys:List Nat):gd m xs ys<aa m:=by
 have dh:=(bS hm).lo
 unfold gd
 have:∀(l:List Nat) (a:Nat),a<aa m->AllLt (aa m) l->l.foldl (gp m) a<aa m:=by
  intro l
  induction l with
  | nil=>exact λa ha _=>ha
  | cons x l ih=>exact λa ha h=>ih _ (qg hm ha (h x (by simp))) λy hy=>h y (by simp[hy])
 exact this _ _ (by omega) (C9 λx _ y _=>cj hm x y)
end L3
namespace L3
open PySem L2 Mf
noncomputable def cf(l:List Nat)(k:Nat):Nat:=l.getD k 0
theorem g5{l:List Nat}{k:Nat}(h:l.length<=k):cf l k=0:=by
 unfold cf;rw[aI,gj h];rfl
theorem bU{m:Bool × Nat}(hm:m∈av){l:List Nat}(h:AllLt (aa m) l)(k:Nat):cf l k<aa m:=h.getD (by have:=(bS hm).lo;omega) k
theorem VB(a:Nat)(l:List Nat)(k:Nat):cf (a::l) (k+1)=cf l k:=rfl
theorem cH4(l:List Nat)(n k:Nat):cf (l.take n) k=if k<n then cf l k else 0:=by
 unfold cf
 rw[aI,Bz]
 split
 ·rw[aI]
 ·rfl
theorem Dc(l:List Nat)(k:Nat):cf (fH l) k=cf l k:=by
 obtain⟨n,h1,h2,_,e⟩:=z7 l
 rw[e,cH4]
 split
 ·rfl
 ·rename_i h
  symm
  by_cases hk:k<l.length
  ·have hk2:k-n<(l.drop n).length:=by rw[ui];omega
   have:=h2 _ (dP hk2)
   rw[List.getElem_drop]at this
   unfold cf
   rw[aI,aL hk]
   simp only[show n+(k-n)=k by omega]at this
   exact this
  ·exact g5 (by omega)
theorem cr1(m:Bool × Nat)(t:List Nat){j:Nat}(hj:j<t.length)(v k:Nat):cf (ju m t j v) k=if k=j then gp m (cf t j) v else cf t k:=by
 unfold cf ju
 rw[aI,List.getElem?_set]
 by_cases h:k=j
 ·subst h
  rw[if_pos rfl,if_pos hj,if_pos rfl];rfl
 ·rw[if_neg (fg h),if_neg h,aI]
theorem VC{m:Bool × Nat}(hm:m∈av)(x:Nat):∀(b t:List Nat) (i k:Nat),AllLt (aa m) t->i+b.length<=t.length->cf (eT m x t i b) k=gp m (cf t k) (if k<i then 0 else gm m x (cf b (k-i)))
 | [],t,i,k,ht,_=>by
  have e:(if k<i then 0 else gm m x (cf [] (k-i)))=0:=by
   split
   ·rfl
   ·rw[g5 (jz _),gg _ _ (bB m hm)]
  rw[e,mm (bU hm ht k)];rfl
 | y::b,t,i,k,ht,hl=>by
  rw[eJ]at hl
  show cf (eT m x (ju m t i (gm m x y)) (i+1) b) k=_
  rw[VC hm x b _ (i+1) k (Ib hm ht (cj hm _ _)) (by rw[Ia];omega),cr1 m t (by omega)]
  by_cases h1:k=i
  ·subst h1
   rw[if_pos rfl,if_pos (by omega),if_neg (by omega),BF,mm (qg hm (bU hm ht _) (cj hm _ _))];rfl
  ·rw[if_neg h1]
   by_cases h2:k<i
   ·rw[if_pos (by omega),if_pos h2]
   ·rw[if_neg (by omega),if_neg h2,show k-i=(k-(i+1))+1 by omega,VB]
noncomputable def tK(m:Bool × Nat)(b:List Nat):List Nat->Nat->Nat
 | [],_=>0
 | x::q,k=>gp m (gm m x (cf b k)) (match k with | 0=>0 | k+1=>tK m b q k)
theorem VD{m:Bool × Nat}(hm:m∈av)(b:List Nat):∀(q:List Nat) (k:Nat),tK m b q k<aa m
 | [],_=>by have:=(bS hm).lo;show 0<_;omega
 | x::q,0=>qg hm (cj hm _ _) (by have:=(bS hm).lo;show 0<_;omega)
 | x::q,k+1=>qg hm (cj hm _ _) (VD hm b q k)
theorem VE{m:Bool × Nat}(hm:m∈av)(b:List Nat):∀(a t:List Nat) (i k:Nat),AllLt (aa m) t->i+a.length+b.length<=t.length->cf (gx m b t i a) k=gp m (cf t k) (if k<i then 0 else tK m b a (k-i))
 | [],t,i,k,ht,_=>by
  have e:(if k<i then 0 else tK m b [] (k-i))=0:=by split<;>rfl
  rw[e,mm (bU hm ht k)];rfl
 | x::a,t,i,k,ht,hl=>by
  rw[eJ]at hl
  have dh:=(bS hm).lo
  show cf (gx m b (eT m x t i b) (i+1) a) k=_
  rw[VE hm b a _ (i+1) k (vX hm x b t i ht) (by rw[vW];omega),VC hm x b t i k ht (by omega),qf]
  congr 1
  by_cases h1:k<i
  ·rw[if_pos h1,if_pos (by omega),if_pos h1,gw (by omega)]
  ·rw[if_neg h1,if_neg h1]
   by_cases h2:k=i
   ·subst h2
    rw[if_pos (by omega),BF];rfl
   ·rw[if_neg (by omega),show k-i=(k-(i+1))+1 by omega];rfl
theorem cU3(n k:Nat):cf (aT n 0) k=0:=by
 unfold cf
 rw[aI,uh]
 split<;>rfl
theorem Ik{m:Bool × Nat}(hm:m∈av)(a b:List Nat)(k:Nat):cf (fI m a b) k=tK m b a k:=by
 unfold fI
 rw[Dc]
 unfold kJ
 rw[VE hm b a _ 0 k (vY hm _) (by rw[hW];omega),cU3,if_neg (yE k),Q4,gw (VD hm b a k)]
theorem Aa(m:Bool × Nat)(x:Nat):aZ m x x=0:=by
 obtain⟨k,n⟩:=m
 cases k with
 | true=>show(((x ^^^ x:Nat):Int)).toNat=0;rw[Bu];rfl
 | false=>show(((x:Int)-(x:Int))%(n:Int)).toNat=0;rw[Int.sub_self,Rj];rfl
end L3
namespace L3
open PySem L2 PySem.Spec PyProof.Rows
section
variable{B:Bs}{F H:Hp}{σ:L2.St}{δ:Dl}{ts ps:List (D × V)}{i k:Nat}{p q:Addr}{l1 l2 ys Tc:List D}{ws u9:List V}
end
section
variable{X:Cx}{F H:Hp}{e b:Expr}{pos p p2 p3 pr apos cg Hs:Pos}{t ti te:aQ}{x y:Str}{i j:Nat}
end
end L3
namespace L3
structure Rg(N:Nat)(p q:Nat->Nat->Nat):Prop where
 pc:∀a b,p a b=p b a
 pa:∀a b c,p (p a b) c=p a (p b c)
 mc:∀a b,q a b=q b a
 ma:∀{a b c},a<N->b<N->c<N->q (q a b) c=q a (q b c)
 dl:∀a b c,q a (p b c)=p (q a b) (q a c)
 z:∀{a},a<N->p 0 a=a
 qz:∀a,q a 0=0
 one:∀{a},a<N->q 1 a=a
 lp:∀{a b},a<N->b<N->p a b<N
 lq:∀a b,q a b<N
 ng:∀{a},a<N->∃b,b<N/\p a b=0
section
variable{N:Nat}{p q:Nat->Nat->Nat}
noncomputable def sm(p:Nat->Nat->Nat):Nat->(Nat->Nat)->Nat
 | 0,_=>0
 | n+1,f=>p (sm p n f) (f n)
theorem Rg.pos(r:Rg N p q):0<N:=mI (jz _) (r.lq 0 0)
theorem Rg.z'(r:Rg N p q){a:Nat}(h:a<N):p a 0=a:=by rw[r.pc];exact r.z h
theorem Rg.De(r:Rg N p q){a b c:Nat}(ha:a<N)(hb:b<N)(hc:c<N)(h:p a c=p b c):a=b:=by
 obtain⟨d,_,e⟩:=r.ng hc
 have:=congrArg (λx=>p x d) h
 simp only[r.pa,e]at this
 rw[r.z' ha,r.z' hb]at this
 exact this
theorem Rg.cn(r:Rg N p q){a b:Nat}(ha:a<N)(hb:b<N)(h:p a b=b):a=0:=r.De ha r.pos hb (by rw[h,r.z hb])
theorem dG{f g:Nat->Nat}:∀{n:Nat},(∀j,j<n->f j=g j)->sm p n f=sm p n g
 | 0,_=>rfl
 | n+1,h=>by rw[sm,sm,dG λj hj=>h j (by omega),h n (by omega)]
theorem kL(r:Rg N p q){f:Nat->Nat}:∀{n:Nat},(∀j,j<n->f j<N)->sm p n f<N
 | 0,_=>r.pos
 | n+1,h=>r.lp (kL r λj hj=>h j (by omega)) (h n (by omega))
theorem gJ(r:Rg N p q){f:Nat->Nat}:∀{n:Nat},(∀j,j<n->f j=0)->sm p n f=0
 | 0,_=>rfl
 | n+1,h=>by rw[sm,gJ r λj hj=>h j (by omega),h n (by omega)];exact r.z r.pos
theorem Rg.four(r:Rg N p q)(a b c d:Nat):p (p a b) (p c d)=p (p a c) (p b d):=by
 rw[r.pa,r.pa,<- r.pa b,<- r.pa c,r.pc b c]
theorem qi(r:Rg N p q)(f g:Nat->Nat):∀n,sm p n (λj=>p (f j) (g j))=p (sm p n f) (sm p n g)
 | 0=>(r.z r.pos).symm
 | n+1=>by rw[sm,qi r f g n,sm,sm,r.four]
theorem kM(r:Rg N p q)(c:Nat)(f:Nat->Nat):∀n,sm p n (λj=>q c (f j))=q c (sm p n f)
 | 0=>(r.qz c).symm
 | n+1=>by rw[sm,kM r c f n,sm,r.dl]
theorem Il(r:Rg N p q)(F:Nat->Nat->Nat)(k:Nat):∀n,sm p n (λi=>sm p k λj=>F i j)=sm p k λj=>sm p n λi=>F i j
 | 0=>(gJ r λ_ _=>rfl).symm
 | n+1=>by
  rw[sm,Il r F k n,<- qi r];rfl
theorem Ab(r:Rg N p q){f:Nat->Nat}(n:Nat):∀k,(∀j,j<n+k->f j<N)->sm p (n+k) f=p (sm p n f) (sm p k λj=>f (n+j))
 | 0,h=>(r.z' (kL r λj hj=>h j (by omega))).symm
 | k+1,h=>by
  rw[<-Fs,sm,Ab r n k λj hj=>h j (by omega),sm,r.pa]
theorem VF(r:Rg N p q){f:Nat->Nat}{n n':Nat}(hn:n<=n')(h:∀j,j<n'->f j<N)(hz:∀j,n<=j->j<n'->f j=0):sm p n' f=sm p n f:=by
 obtain⟨k,rfl⟩:=dh5 hn
 rw[Ab r n k h,gJ r (f:=λj=>f (n+j)) λj hj=>hz _ (by omega) (by omega),r.z' (kL r λj hj=>h j (by omega))]
theorem Df(r:Rg N p q){f:Nat->Nat}(n:Nat)(h:∀j,j<n+1->f j<N):sm p (n+1) f=p (f 0) (sm p n λj=>f (j+1)):=by
 rw[Bp n 1,Ab r 1 n λj hj=>h j (by omega)]
 show p (p 0 (f 0)) _=_
 rw[r.z (h 0 (by omega))]
 congr 1
 exact dG λj _=>by rw[Bp]
noncomputable def ds(p q:Nat->Nat->Nat)(s c:Nat->Nat)(n:Nat):Nat:=sm p (n+1) λj=>q (c j) (s (n-j))
theorem v9(r:Rg N p q)(s c:Nat->Nat)(n:Nat):ds p q s c n<N:=kL r λj _=>r.lq _ _
theorem VG(r:Rg N p q){s c:Nat->Nat}{L n:Nat}(h:L<=n)(hc:∀j,L<j->c j=0):ds p q s c n=sm p (L+1) λj=>q (c j) (s (n-j)) :=
 VF r (by omega) (λj _=>r.lq _ _) λj hj _=>by
  show q (c j) _=0
  rw[hc j (by omega),r.mc,r.qz]
theorem cO1(r:Rg N p q){s c c' b:Nat->Nat}{f:Nat}(hb:∀j,b j<N)(hs:∀j,s j<N)(hf:f<N)(h:∀j,p (c' j) (q f (b j))=c j)(n:Nat):p (ds p q s c' n) (q f (ds p q s b n))=ds p q s c n:=by
 unfold ds
 rw[<-kM r,<- qi r]
 refine dG λj _=>?_
 rw[<-h j,r.mc (p (c' j) _),r.dl,r.mc (c' j),<- r.ma hf (hb j) (hs _),r.mc (q f (b j))]
noncomputable def fb(k:Nat)(b:Nat->Nat)(j:Nat):Nat:=if j<k then 0 else b (j-k)
theorem Dg(r:Rg N p q)(s b:Nat->Nat){k n:Nat}(h:k<=n):ds p q s (fb k b) n=ds p q s b (n-k):=by
 unfold ds
 obtain⟨d,rfl⟩:=dh5 h
 rw[show k+d+1=k+(d+1) by omega,Ab r k (d+1) λj _=>r.lq _ _,gJ r (n:=k),r.z (kL r λj _=>r.lq _ _)]
 ·rw[Rp]
  refine dG λj _=>?_
  unfold fb
  rw[if_neg (by omega),Rp,show k+d-(k+j)=d-j by omega]
 ·intro j hj
  unfold fb
  rw[if_pos hj,r.mc,r.qz]
theorem cQ8(r:Rg N p q){s c c1:Nat->Nat}{L L1 n:Nat}(hs:∀j,s j<N)(dM:∀j,c j<N)(VH:∀j,c1 j<N)(hc:∀j,L<j->c j=0)(wa:∀j,L1<j->c1 j=0)(h1:c1 0=1)(hn:L+L1<=n)
  (k:∀i,L<=i->i<n->ds p q s c i=0) (k1:∀i,L1<=i->i<n+1->ds p q s c1 i=0):ds p q s c n=0:=by
 have a:sm p (L+1) (λi=>sm p (L1+1) λj=>q (c i) (q (c1 j) (s (n-i-j))))=0:=by
  refine gJ r λi hi=>?_
  show sm p (L1+1) (λj=>q (c i) (q (c1 j) (s (n-i-j))))=0
  rw[kM r (c i),<- VG r (by omega) wa,k1 _ (by omega) (by omega),r.qz]
 rw[Il r]at a
 have b:∀j,j<L1+1->sm p (L+1) (λi=>q (c i) (q (c1 j) (s (n-i-j))))=q (c1 j) (ds p q s c (n-j)):=λj hj=>by
  rw[VG r (show L<=n-j by omega) hc,<- kM r]
  refine dG λi _=>?_
  rw[show n-i-j=n-j-i by omega,<- r.ma (dM i) (VH j) (hs _),<- r.ma (VH j) (dM i) (hs _),r.mc (c i)]
 rw[dG b,Df r _ λj _=>r.lq _ _,h1,r.one (v9 r _ _ _),gJ r,r.z' (v9 r _ _ _)]at a
 ·exact a
 ·intro j hj
  rw[k (n-(j+1)) (by omega) (by omega),r.qz]
structure BI(N:Nat)(p q:Nat->Nat->Nat)(s:Nat->Nat)(n L:Nat)(c b:Nat->Nat)(o:Nat):Prop where
 c0:c 0=1
 cz:∀j,L<j->c j=0
 cl:∀j,c j<N
 ln:L<=n
 kp:∀i,L<=i->i<n->ds p q s c i=0
 mn:∀L1 c1,c1 0=1->(∀j,L1<j->c1 j=0)->(∀j,c1 j<N)->(∀i,L1<=i->i<n->ds p q s c1 i=0)->L<=L1
 b0:b 0=0
 bz:∀j,n+1-L<j->b j=0
 bl:∀j,b j<N
 bk:∀i,n+1-L<=i->i<n->ds p q s b i=0
 bo:n+1-L<=n->ds p q s b n=o
theorem Dh(r:Rg N p q){b:Nat->Nat}(h:∀j,b j<N)(j:Nat):fb 1 b j<N:=by
 unfold fb
 split
 ·exact r.pos
 ·exact h _
theorem Di{b:Nat->Nat}{n:Nat}(h:∀j,n<j->b j=0)(j:Nat)(hj:n+1<j):fb 1 b j=0:=by
 unfold fb
 rw[if_neg (by omega)]
 exact h _ (by omega)
theorem BI.same(r:Rg N p q){s c b:Nat->Nat}{n L o:Nat}(I:BI N p q s n L c b o)(h:ds p q s c n=0):BI N p q s (n+1) L c (fb 1 b) o where
 c0:=I.c0
 cz:=I.cz
 cl:=I.cl
 ln:=by have:=I.ln;omega
 kp:=λi h1 h2=>by
  by_cases e:i=n
  ·rw[e];exact h
  ·exact I.kp i h1 (by omega)
 mn:=λL1 c1 h1 h2 h3 h4=>I.mn L1 c1 h1 h2 h3 λi a b=>h4 i a (by omega)
 b0:=rfl
 bz:=λj hj=>Di I.bz j (by have:=I.ln;omega)
 bl:=Dh r I.bl
 bk:=λi h1 h2=>by
  have:=I.ln
  rw[Dg r s b (show 1<=i by omega)]
  exact I.bk _ (by omega) (by omega)
 bo:=λh1=>by
  rw[Dg r s b (by omega)]
  exact I.bo (by have:=I.ln;omega)
theorem BI.dX5(r:Rg N p q){s c c' b:Nat->Nat}{n L o f:Nat}(I:BI N p q s n L c b o)(hs:∀j,s j<N)(hf:f<N)(hd:ds p q s c n≠0)(Ac:q f o=ds p q s c n)(dM:∀j,c' j<N)(h:∀j,p (c' j) (q f (b j))=c j) :
  BI N p q s (n+1) (max L (n+1-L)) c' (fb 1 (if 2*L<=n then c else b)) (if 2*L<=n then ds p q s c n else o):=by
 have ln:=I.ln
 have gK:=cO1 r I.bl hs hf h
 have Im:∀{x:Nat},x<N->p x (q f 0)=x:=λ{x} hx=>by rw[r.qz];exact r.z' hx
 refine⟨?_,?_,dM,by omega,?_,?_,rfl,?_,?_,?_,?_⟩
 ·have:=h 0
  rw[I.b0,Im (dM 0),I.c0]at this
  exact this
 ·intro j hj
  have:=h j
  rw[I.bz j (by omega),Im (dM j),I.cz j (by omega)]at this
  exact this
 ·intro i h1 h2
  have:=gK i
  by_cases e:i=n
  ·subst e
   rw[I.bo (by omega),Ac]at this
   exact r.cn (v9 r _ _ _) (v9 r _ _ _) this
  ·rw[I.bk i (by omega) (by omega),Im (v9 r _ _ _),I.kp i (by omega) (by omega)]at this
   exact this
 ·intro L1 c1 h1 h2 h3 h4
  have a:=I.mn L1 c1 h1 h2 h3 λi a b=>h4 i a (by omega)
  have b:n+1-L<=L1:=by
   rcases qP L1 (n+1-L)with h5 | h5
   ·exact absurd (cQ8 r hs I.cl h3 I.cz h2 h1 (by omega) I.kp h4) hd
   ·exact h5
  omega
 ·intro j hj
  by_cases h2:2*L<=n
  ·rw[if_pos h2]
   exact Di I.cz j (by omega)
  ·rw[if_neg h2]
   exact Di I.bz j (by omega)
 ·by_cases h2:2*L<=n
  ·rw[if_pos h2];exact Dh r I.cl
  ·rw[if_neg h2];exact Dh r I.bl
 ·intro i h1 h2
  rw[Dg r _ _ (show 1<=i by omega)]
  by_cases h3:2*L<=n
  ·rw[if_pos h3]
   exact I.kp _ (by omega) (by omega)
  ·rw[if_neg h3]
   exact I.bk _ (by omega) (by omega)
 ·intro h1
  rw[Dg r _ _ (by omega),Nat.add_sub_cancel]
  by_cases h3:2*L<=n
  ·rw[if_pos h3,if_pos h3]
  ·rw[if_neg h3,if_neg h3]
   exact I.bo (by omega)
end
end L3
namespace L3
section
variable{N:Nat}{p q:Nat->Nat->Nat}
theorem Rg.zq(r:Rg N p q)(a:Nat):q 0 a=0:=by rw[r.mc];exact r.qz a
theorem cq7(r:Rg N p q){s c:Nat->Nat}(h:∀j,c j=0)(n:Nat):ds p q s c n=0:=gJ r λj _=>by rw[h,r.zq]
end
end L3
namespace L3
open PySem L2 Mf
theorem rg{m:Bool × Nat}(hm:m∈av):Rg (aa m) (gp m) (gm m) where
 pc:=js m
 pa:=qf m
 mc:=e8 m
 ma:=λ_ _ _=>eR (bB m hm) _ _ _
 dl:=λa b c=>tF (bB m hm) b c a
 z:=gw
 qz:=λa=>gg m a (bB m hm)
 one:=qa
 lp:=qg hm
 lq:=cj hm
 ng:=λ{a} ha=>by
  have g:=eV hm (a:=0) (b:=a) (by omega) ha
  exact⟨_,g.2.1,(js m _ _).trans g.2.2⟩
theorem VI(p:Nat->Nat->Nat)(l:List Nat):l.foldl p 0=sm p l.length λj=>l.getD j 0:=by
 have key:∀n,n<=l.length->(l.take n).foldl p 0=sm p n λj=>l.getD j 0:=by
  intro n
  induction n with
  | zero=>intro _;rfl
  | succ n ih =>
   intro h
   rw[mL,aL (by omega),BG,ih (by omega),sm,aI,aL (show n<l.length by omega)]
   rfl
 have:=key l.length (bJ _)
 rw[oA]at this
 exact this
theorem Dj{m:Bool × Nat}(hm:m∈av)(row c:List Nat){n:Nat}(h:c.length<=n+1):jV m row c n=ds (gp m) (gm m) (cf row) (cf c) n:=by
 have r:=rg hm
 unfold jV gd ds
 rw[VI,jY,bu,cZ,uq,VF r h (λj _=>r.lq _ _)]
 ·refine dG λj hj=>?_
  rw[aI,mQ,bX,jD hj,aL hj]
  show gm m c[j] (row.getD (n-j) 0)=gm m (c.getD j 0) (row.getD (n-j) 0)
  rw[aI (l:=c),aL hj];rfl
 ·intro j hj _
  show gm m (cf c j) _=0
  rw[g5 hj]
  exact dN m _ (bB m hm)
theorem Io(l:List Nat)(n:Nat):cf (nJ l n)=cf l:=by
 funext k
 unfold nJ cf
 rw[aI,aI,dh6]
 by_cases h:k<l.length
 ·rw[if_pos h]
 ·rw[if_neg h,gj (show l.length<=k by omega),uh]
  split<;>rfl
theorem cF6{m:Bool × Nat}(hm:m∈av){a b:List Nat}(ha:AllLt (aa m) a)(hb:AllLt (aa m) b)(k:Nat):gp m (cf (kK (aZ m) a b) k) (cf b k)=cf a k:=by
 have g:=eV hm (bU hm ha k) (bU hm hb k)
 have e:cf (kK (aZ m) a b) k=aZ m (cf a k) (cf b k):=by
  by_cases h:k<max a.length b.length
  ·rw[<-Io a (max a.length b.length),<- Io b (max a.length b.length)]
   have la:=v7 (Ro a.length b.length)
   have lb:=v7 (Nat.le_max_right a.length b.length)
   unfold kK cf
   rw[aI,mQ,aL (by omega),aL (by omega),aI,aL (by omega),aI,aL (by omega)]
   rfl
  ·rw[g5 (by rw[Vy];omega),g5 (l:=a) (by omega),g5 (l:=b) (by omega)]
   exact(Aa m 0).symm
 rw[e]
 exact g.2.2
theorem cQ6(b:List Nat)(k j:Nat):cf (aT k 0++b) j=fb k (cf b) j:=by
 unfold cf fb
 rw[aI,dh6,hW]
 by_cases h:j<k
 ·rw[if_pos h,if_pos h,uh,if_pos h];rfl
 ·rw[if_neg h,if_neg h,<- aI]
theorem VJ{m:Bool × Nat}(hm:m∈av)(f:Nat)(b:List Nat)(j:Nat):cf (b.map (gm m f)) j=gm m f (cf b j):=by
 unfold cf
 rw[aI,bX,aI]
 cases b[j]? with
 | none=>exact(gg m f (bB m hm)).symm
 | some x=>rfl
theorem VL(k:Nat)(b:Nat->Nat):fb 1 (fb k b)=fb (k+1) b:=by
 funext j
 unfold fb
 by_cases h1:j<1
 ·rw[if_pos h1,if_pos (by omega)]
 ·by_cases h2:j<k+1
  ·rw[if_neg h1,if_pos h2,if_pos (by omega)]
  ·rw[if_neg h1,if_neg h2,if_neg (by omega),show j-1-k=j-(k+1) by omega]
theorem cL9{m:Bool × Nat}(hm:m∈av)(f k:Nat)(b:Nat->Nat)(j:Nat):fb k (λi=>gm m f (b i)) j=gm m f (fb k b j):=by
 unfold fb
 split
 ·exact(gg m f (bB m hm)).symm
 ·rfl
theorem da0{m:Bool × Nat}(hm:m∈av){a b:Nat}(ha:a<aa m)(hb:b<aa m)(h0:b≠0):∃r,r<aa m/\gm m r b=a:=by
 by_cases a0:a=0
 ·exact⟨0,by have:=(bS hm).lo;omega,by rw[a0];exact dN m b (bB m hm)⟩
 ·obtain⟨r,_,h1,h2⟩:=Ve hm (show 1<=a by omega) ha (show 1<=b by omega) hb
  exact⟨r,h1,h2⟩
theorem b79{l:List Nat}{L:Nat}(h:∀j,L<j->cf l j=0):(fH l).length<=L+1:=by
 rcases HZ l with h1 | h1
 ·omega
 ·rcases qP (L+1) (fH l).length with h2 | h2
  ·exact absurd ((Dc l _).trans (h _ (by omega))) h1
  ·exact h2
theorem BI.start{m:Bool × Nat}(hm:m∈av)(s:Nat->Nat):BI (aa m) (gp m) (gm m) s 0 0 (cf [1]) (fb 1 (cf [1])) 1:=by
 have lo:=(bS hm).lo
 have cl:∀j,cf [1] j<aa m:=λj=>by
  cases j with
  | zero=>exact lo
  | succ j=>exact cT (show 0<2 by decide) lo
 have cz:∀j,0<j->cf [1] j=0:=λj hj=>g5 (show([1]:List Nat).length<=j from hj)
 exact⟨rfl,cz,cl,bJ _,λi _ h=>absurd h (yE i),λ_ _ _ _ _ _=>jz _,rfl,λj hj=>Di cz j hj,Dh (rg hm) cl,λi _ h=>absurd h (yE i),λh=>absurd h (by omega)⟩
theorem Dk{m:Bool × Nat}(hm:m∈av)(b:List Nat):∀(a:List Nat) (k:Nat),tK m b a k=ds (gp m) (gm m) (cf b) (cf a) k
 | [],k=>(cq7 (rg hm) (λ_=>rfl) k).symm
 | x::a,k=>by
  unfold ds
  rw[Df (rg hm) k λj _=>cj hm _ _]
  cases k with
  | zero=>rfl
  | succ k =>
   show gp m (gm m x (cf b (k+1))) (tK m b a k)=gp m (gm m x (cf b (k+1))) _
   congr 1
   rw[Dk hm b a k]
   exact dG λj _=>by rw[VB,Nat.add_sub_add_right]
end L3
namespace L3
open PySem L2 PySem.Spec PyProof.Rows
section
variable{X:Cx}{i j:Nat}{x y:Str}{p pos pos' apos cg:Pos}
end
section
variable{X:Cx}{e:Expr}{t:aQ}{p pos:Pos}
end
section
variable{X:Cx}
end
end L3
namespace L3
open PySem L2 Mf
noncomputable def bD(o:Bool)(T:List (List Nat)):List D:=T.map λr=>.lst o (ak r)
theorem nK(o:Bool)(T:List (List Nat)):(bD o T).length=T.length:=by unfold bD;rw[bu]
theorem jv(o:Bool)(T:List (List Nat)):(bD o T).map D.sh=bD false T:=by
 unfold bD
 rw[da]
 exact mM λr _=>v3 o r
theorem wb(T:List (List Nat)):(bD false T).all D.pl=true:=by
 unfold bD
 rw[kU,cU]
 intro r _
 show(D.lst false (ak r)).pl=true
 rw[gG,kH];rfl
theorem VM(T:List (List Nat)):(bD true T).all D.fr=true:=by
 unfold bD
 rw[kU,cU]
 intro r _
 exact eU r
theorem VN(o:Bool)(S T:List (List Nat)):bD o S++bD o T=bD o (S++T):=by unfold bD;rw[jC]
theorem wc(o:Bool)(T:List (List Nat))(lo hi:Option Int):fq (bD o T) lo hi=bD o (fq T lo hi):=by
 unfold bD fq
 rw[bu,Q9,Q8]
theorem Ip(o:Bool){T:List (List Nat)}{i:Nat}(h:i<T.length):eB (bD o T) (i:Int)=some (.lst o (ak T[i])):=by
 refine L3.Uj ?_
 unfold bD
 rw[bX,aL h];rfl
theorem ce3(n:Nat)(o:Bool)(T:List (List Nat)):(bD o T).all (dE (n+1))=true:=by
 unfold bD
 rw[kU,cU]
 intro r _
 exact Ig _ _ _
theorem cH2(n:Nat)(o o':Bool)(T:List (List Nat)):dE (n+2) (.lst o (bD o' T))=true:=ce3 n o' T
theorem VO(o o':Bool):∀(a b:List (List Nat)),bH.fm (bD o a) (bD o' b)=decide (a=b)
 | [],[]=>rfl
 | [],_::_=>by simp[bD,bH.fm]
 | _::_,[]=>by simp[bD,bH.fm]
 | x::xs,y::ys=>by
  show(bH (.lst o (ak x)) (.lst o' (ak y))&&bH.fm (bD o xs) (bD o' ys))=_
  rw[VO o o' xs ys,vZ,uo];simp
theorem cG1(o o' o1 o2:Bool)(a b:List (List Nat)):bH (.lst o (bD o1 a)) (.lst o' (bD o2 b))=decide (a=b):=VO o1 o2 a b
open Classical in
theorem Iq{α:Type}{sh:Bool}{xs:List D}{aD:List (Str × Nat)}{n:Nat}{g0:iu}{tt:fQ}{te:aQ}{aq:Dl}{Q:D->Dl->Prop}(l:List α)(e g:α->D)(kp:α->Bool)(iZ:xs.map D.sh=l.map e)(inj:∀a b,e a=e b->a=b)
  (hx:∀a∈l,g0 (e a) (fS aD n aq) λaU=>tt aU λb ir=>b=kp a/\(kp a=true->te ir λd _=>d=g a)) (eN:(sh&&aD.all (iw aq))=true\/∀a∈l,kp a=true->(g a).fr=true) (hl:l.length<=sizeLine) (hq:Q (.lst true ((l.filter kp).map g)) aq):rS sh xs aD n g0 tt te aq Q:=by
 have pick:∀{β:Type} (h:α->β) (z:β),∃f:D->β,∀a∈l,f (e a)=h a:=λh z=>⟨λx=>if w:∃a∈l,e a=x then h w.choose else z,λa ha=>by
  have w:∃b∈l,e b=e a:=⟨a,ha,rfl⟩
  show(if w:∃b∈l,e b=e a then h w.choose else z)=h a
  rw[dif_pos w]
  exact congrArg h (inj _ _ w.choose_spec.2)⟩
 obtain⟨f,hf⟩:=pick g .aw
 obtain⟨p,hp⟩:=pick kp false
 refine⟨p,f,λx h=>?_,eN.imp id λh x dj=>?_,?_,?_⟩
 ·rw[iZ]at h
  obtain⟨a,ha,rfl⟩:=bZ.mp h
  rw[hp a ha,hf a ha]
  exact hx a ha
 ·rw[iZ]at dj
  obtain⟨a,ha,rfl⟩:=bZ.mp dj
  rw[hp a ha,hf a ha];exact h a ha
 ·have:=congrArg Bk iZ
  simp at this
  omega
 ·rw[iZ,List.filter_map,da,show l.filter (p ∘ e)=l.filter kp from List.filter_congr λa ha=>hp a ha,show(l.filter kp).map (f ∘ e)=(l.filter kp).map g from mM λa ha=>hf a (qE.mp ha).1]
  exact hq
theorem cm4{o:Bool}{G:List (List Nat)}{i:Nat}{d:D}(h:(eC (bD o G))[i]?=some d):∃hi:i<G.length,d=.tup [.int i,.lst o (ak G[i])]:=by
 unfold eC bD at h
 rw[uv,bX]at h
 by_cases hi:i<G.length
 ·rw[aL hi]at h
  exact⟨hi,(cN h).symm⟩
 ·rw[gj (by omega)]at h;cases h
theorem cm7(r:List Nat):(eC (ak r)).map D.sh=(aO r.length).map λ(i:Nat)=>D.tup [.int (i:Int),.int ((r.getD i 0:Nat):Int)]:=by
 apply yv
 intro i
 unfold eC
 rw[cI,bX,uv,bX,bX]
 by_cases hi:i<r.length
 ·have e:r.getD i 0=r[i]:=by rw[aI,aL hi];rfl
  rw[aL hi,jD hi]
  show _=some (D.tup [D.int (i:Int),D.int ((r.getD i 0:Nat):Int)])
  rw[e];rfl
 ·rw[gj (show r.length<=i by omega),gj (show(aO r.length).length<=i by simpa using hi)];rfl
theorem ce1{r:List Nat}(h:∃x∈r,x≠0):((aO r.length).filter λi=>r.getD i 0 != 0)[0]?=some (r.findIdx (· != 0)):=by
 obtain⟨x,hx,h0⟩:=h
 have hl:r.findIdx (· != 0)<r.length:=dh7 ⟨x,hx,by simpa using h0⟩
 rw[<-List.head?_eq_getElem?,List.head?_filter,List.find?_range_eq_some]
 refine⟨?_,de.mpr hl,λj hj=>?_⟩
 ·rw[aI,aL hl]
  exact List.findIdx_getElem (w:=hl)
 ·have:=List.not_of_lt_findIdx hj
  rw[aI,aL (by omega)]
  simpa using this
noncomputable def br(T:List (List Nat)):Nat:=(T.headD []).length
noncomputable def jw(T:List (List Nat))(j:Nat):Option Nat:=T.findIdx? λr=>r.getD j 0 != 0
noncomputable def gy(m:Bool × Nat)(T:List (List Nat))(l:List Nat)(j:Nat):List (List Nat):=T.map λr=>dZ (λx y=>aZ m x (gm m (r.getD j 0) y)) r l
noncomputable def Ad(m:Bool × Nat)(b:Nat):Nat:=((aO (aa m)).find? λr=>gm m r b==1).getD 0
theorem VP{m:Bool × Nat}(hm:m∈av){b r:Nat}(hr:r<aa m)(h:gm m r b=1):Ad m b=r:=by
 have m0:=bB m hm
 unfold Ad
 cases e:(aO (aa m)).find? λr=>gm m r b==1 with
 | none =>
  have:=List.find?_eq_none.mp e r (de.mpr hr)
  simp[h]at this
 | some r' =>
  have h':gm m r' b=1:=by simpa using List.find?_some e
  have l':r'<aa m:=de.mp (dg8 e)
  show r'=r
  rw[<-jr hr,<- h',<- eR m0,e8 m r r',eR m0,h,jr l']
noncomputable def RT(N w:Nat)(T:List (List Nat)):Prop:=∀r∈T,r.length=w/\AllLt N r
theorem RT.app{N w:Nat}{S T:List (List Nat)}(a:RT N w S)(b:RT N w T):RT N w (S++T):=λr hr=>(cw.mp hr).elim (a r) (b r)
theorem VQ{m:Bool × Nat}(hm:m∈av){w j:Nat}{T:List (List Nat)}{l:List Nat}(h:RT (aa m) w T)(hl:l.length=w):RT (aa m) w (gy m T l j):=λr hr=>by
 obtain⟨r,h1,rfl⟩:=bZ.mp hr
 obtain⟨a,b⟩:=h r h1
 exact⟨by rw[jY,a,hl,uq],C9 λx hx y hy=>(eV hm (b x hx) (cj hm _ y)).2.1⟩
noncomputable def dU(m:Bool × Nat)(T:List (List Nat))(i p:Nat):List Nat:=(T.getD i []).map (gm m (Ad m ((T.getD i []).getD p 0)))
noncomputable def g6(m:Bool × Nat)(s:List (List Nat) × List (List Nat))(p:Nat):List (List Nat) × List (List Nat):=match jw s.2 p with
 | none=>s
 | some i=>(gy m s.1 (dU m s.2 i p) p++[dU m s.2 i p],gy m (s.2.take i++s.2.drop (i+1)) (dU m s.2 i p) p)
noncomputable def i8(m:Bool × Nat)(G:List (List Nat))(k:Nat):List (List Nat) × List (List Nat):=(aO k).foldl (g6 m) ([],G)
noncomputable def cY(m:Bool × Nat)(G:List (List Nat)):List (List Nat):=(i8 m G (br G)).1
theorem Ir(m:Bool × Nat)(G:List (List Nat))(k:Nat):i8 m G (k+1)=g6 m (i8 m G k) k:=by
 unfold i8
 rw[Rq,BG];rfl
theorem Dm{T:List (List Nat)}{j i:Nat}(h:jw T j=some i):∃hi:i<T.length,T[i].getD j 0≠0/\T.getD i []=T[i]:=by
 obtain⟨hi,h1,_⟩:=dh8.mp h
 exact⟨hi,by simpa using h1,by rw[aI,aL hi];rfl⟩
structure Ae(N w n:Nat)(s:List (List Nat) × List (List Nat)):Prop where
 a:RT N w s.1
 b:RT N w s.2
 l:s.1.length+s.2.length<=n
theorem cj3{m:Bool × Nat}(hm:m∈av){w n p:Nat}{s:List (List Nat) × List (List Nat)}(h:Ae (aa m) w n s):Ae (aa m) w n (g6 m s p):=by
 unfold g6
 split
 ·exact h
 ·rename_i i e
  obtain⟨hi,h1,h2⟩:=Dm e
  have hl:(dU m s.2 i p).length=w:=by unfold dU;rw[bu,h2];exact(h.b _ (dP hi)).1
  have hr:RT (aa m) w [dU m s.2 i p]:=λr hr=>by
   rw[jB]at hr
   refine⟨by rw[hr];exact hl,λx hx=>?_⟩
   rw[hr]at hx
   obtain⟨y,_,rfl⟩:=bZ.mp hx
   exact cj hm _ _
  refine⟨(VQ hm h.a hl).app hr,VQ hm (λr hr=>h.b r ?_) hl,?_⟩
  ·rcases cw.mp hr with hr | hr
   ·exact yt hr
   ·exact Bw hr
  ·have:=h.l
   unfold gy
   rw[fB,bu,bu,fB,jA,ui]
   show s.1.length+1+_<=n
   omega
theorem Af{m:Bool × Nat}(hm:m∈av){w:Nat}{G:List (List Nat)}(h:RT (aa m) w G):∀k,Ae (aa m) w G.length (i8 m G k)
 | 0=>⟨(λr hr=>nomatch hr),h,Bj (BC _)⟩
 | k+1=>by rw[Ir];exact cj3 hm (Af hm h k)
theorem VR(j:Nat)(l:List Nat):decide ((j:Int)∈l.map λ(n:Nat)=>(n:Int))=l.contains j:=by
 rw[uo,decide_eq_true_iff,uA,bZ]
 exact⟨λ⟨a,h,e⟩=>(show a=j by omega) ▸ h,λh=>⟨j,h,rfl⟩⟩
theorem cI5{o:Bool}{G:List (List Nat)}{f:List Nat->Nat}{k:Nat}{d:D}(h:(dJ (ak (G.map f)) (bD o G))[k]?=some d):∃hk:k<G.length,d=.tup [.int ((f G[k]:Nat):Int),.lst o (ak G[k])]:=by
 unfold dJ bD at h
 rw[cI,mQ,bX,bX,bX]at h
 by_cases hk:k<G.length
 ·rw[aL hk]at h
  exact⟨hk,(cN h).symm⟩
 ·rw[gj (by omega)]at h;cases h
theorem VS{α:Type}(a:α->Nat)(b:α->Nat):∀(l:List α) (x:List Nat),(l.foldl (λx z=>x.set (a z) (b z)) x).length=x.length
 | [],_=>rfl
 | z::l,x=>by rw[qK,VS a b l,mE]
theorem co0(G:List (List Nat))(u:List Nat):(dJ (bD false G) (ak u)).map D.sh=(G.zip u).map λz=>D.tup [.lst false (ak z.1),.int ((z.2:Nat):Int)]:=by
 rw[Hy,jv,nB]
 unfold dJ bD
 rw[cI,BA,BB,uu]
end L3
namespace L2
open PySem PySem.Spec PyProof.Rows
theorem b00{M:Model}{A:Around}{E:Value->Shared->Prop}{s:Shared}{scope:Scope}{globals:Addr}{cl:List (Str × Addr)}{qual:Str}{env:Env}{bi:Addr}{Q:Env->Shared->Prop}
  (hQ:Q (newEnv scope s.heap.objs.size globals (cellsFrom (s.heap.objs.size+1) scope.names cl) qual none .none (some env) bi) { s with heap:=pushCells (s.heap.push { cls:=.type "dict",data:=.dict #[] }) scope.names }) :
  wpAny M A (newFunctionEnv scope globals cl [] qual none .none (some env) bi) Q E s:=by
 simp only[newFunctionEnv,Option.isSome_some,if_true]
 refine wpAny_bind (wpAny_alloc (wpAny_bind (wpAny_layCells _ (λname kind cells=>by cases e:kind==Fx<;>simp[e]) _ _ _ _ ?_)))
 rw[List.forIn_nil]
 refine wpAny_bind (wpAny_pure (wpAny_pure ?_))
 have z:({ s with heap:=s.heap.push { cls:=.type "dict",data:=.dict #[] } }:Shared).heap.objs.size=s.heap.objs.size+1:=oq ..
 rw[z]
 exact hQ
theorem Ag:∀(ns:List (Str × NameKind)) (n:Nat) (acc:List (Str × Addr)) (y:Str) (c:Addr),(cellsFrom n ns acc).lookup y=some c->(n<=c/\(y,Fx)∈ns)\/acc.lookup y=some c
 | [],_,_,_,_,h=>.inr h
 | (z,k)::r,n,acc,y,c,h=>by
  unfold cellsFrom at h
  split at h
  ·rename_i hk
   rcases Ag r (n+1) _ y c h with⟨h1,h2⟩ | h1
   ·exact .inl ⟨by omega,eI _ h2⟩
   ·rw[gi]at h1
    cases q:y==z with
    | true =>
     rw[q]at h1;cases h1
     exact .inl ⟨bJ _,by rw[eq_of_beq q,eq_of_beq hk];exact hV⟩
    | false=>rw[q]at h1;exact .inr h1
  ·rcases Ag r n acc y c h with⟨h1,h2⟩ | h1
   ·exact .inl ⟨h1,eI _ h2⟩
   ·exact .inr h1
theorem Iu:∀(ns:List (Str × NameKind)) (n:Nat) (acc:List (Str × Addr)),(∀y z c,acc.lookup y=some c->acc.lookup z=some c->y=z)->(∀y c,acc.lookup y=some c->c<n) ->
  ∀y z c,(cellsFrom n ns acc).lookup y=some c->(cellsFrom n ns acc).lookup z=some c->y=z
 | [],_,_,i,_,y,z,c,h1,h2=>i y z c h1 h2
 | (u,k)::r,n,acc,i,b,y,z,c,h1,h2=>by
  unfold cellsFrom at h1 h2
  split at h1
  ·rw[if_pos (by assumption)]at h2
   refine Iu r (n+1) ((u,n)::acc) (λy z c e1 e2=>?_) (λy c e=>?_) y z c h1 h2
   ·rw[gi]at e1 e2
    cases q1:y==u with
    | true =>
     rw[q1]at e1;cases e1
     cases q2:z==u with
     | true=>rw[eq_of_beq q1,eq_of_beq q2]
     | false=>rw[q2]at e2;exact absurd (b _ _ e2) (fw _)
    | false =>
     rw[q1]at e1
     cases q2:z==u with
     | true=>rw[q2]at e2;cases e2;exact absurd (b _ _ e1) (fw _)
     | false=>rw[q2]at e2;exact i y z c e1 e2
   ·rw[gi]at e
    cases q:y==u with
    | true=>rw[q]at e;cases e;exact Fd _
    | false=>rw[q]at e;exact Rb (b _ _ e)
  ·rw[if_neg (by assumption)]at h2
   exact Iu r n acc i b y z c h1 h2
theorem Iw:∀(ns:List (Str × NameKind)) (n:Nat) (acc:List (Str × Addr)) (y:Str) (c:Addr),(y,Fx)∈ns->(cellsFrom n ns acc).lookup y=some c->n<=c
 | [],_,_,_,_,m,_=>nomatch m
 | (z,k)::r,n,acc,y,c,m,h=>by
  unfold cellsFrom at h
  split at h
  ·rename_i hk
   rcases bY.mp m with e | m
   ·have e1:y=z:=(Prod.mk.inj e).1
    rcases Ag r (n+1) _ y c h with⟨h1,_⟩ | h1
    ·exact BH h1
    ·rw[gi,e1,beq_self_eq_true]at h1
     exact Bj (cN h1)
   ·exact BH (Iw r (n+1) _ y c m h)
  ·rename_i hk
   rcases bY.mp m with e | m
   ·cases e;exact absurd rfl hk
   ·exact Iw r n acc y c m h
noncomputable def dW(X:Cx)(scope:Scope)(N:List Str)(cl:List (Str × Addr))(C:Addr)(s:Shared)(H:Hp)(fp:List Addr):Cx :=
 { Ca X scope N (cellsFrom (C+1) scope.names cl) C s H fp with fn:=λy=>scope.names.contains (y,Fx) }
section
variable{X:Cx}{scope:Scope}{cl:List (Str × Addr)}
theorem cn5{pins:List (Addr × Obj)}{σ:St}{H:Hp}{s:Shared}{fp:List Addr}{C:Addr}(I:Inv X pins σ H s)(iO:scope.kind=.function)(hC:s.heap.objs.size<=C)
  (dM:∀y c,cl.lookup y=some c->X.env.cells.lookup y=some c) (dZ3:∀y,((relabel scope X.env).names.lookup y=some .cell\/(relabel scope X.env).names.lookup y=some .free)->∃c,(cellsFrom (C+1) scope.names cl).lookup y=some c)
  (hf:∀b∈fp,iH X pins H b) (ho:∀b∈fp,∃o,s.heap.get? b=some o/\∀v,o.data≠.cell v) (N:List Str):(dW X scope N cl C s H fp).Ok where
 mod:=I.ok.mod
 kind:=iO
 glob:=I.ok.glob
 blt:=I.ok.blt
 above:=hC
 inj:=Iu scope.names (C+1) cl (λy z c h1 h2=>I.ok.inj y z c (dM _ _ h1) (dM _ _ h2)) λy c e=>by
  obtain⟨v,o,ho,_⟩:=I.cell y c (dM y c e)
  exact Nat.lt_succ_of_le (Bg (cT (bI ho) hC))
 has:=dZ3
 qS:=λy c h e=>eH hC (BH (Iw _ _ _ y c (uA.mp h) e))
 hd:=I.ok.hd
 frames:=I.ok.frames
 yO:=.inl rfl
 yP:=λb hb=>⟨by
  obtain⟨o,e,_⟩:=ho b hb
  exact eY (cT (bI e) hC),λy c e z=>by
  rcases Ag _ _ _ y c e with⟨h1,_⟩ | h1
  ·obtain⟨o,e,_⟩:=ho b hb
   rw[z]at h1
   exact absurd (cT (bI e) (eH hC (BH h1))) (fw _)
  ·exact(hf b hb).2.2.2.2.1 y c (dM _ _ h1) z⟩
 bs:=I.bs
 jG:=eH I.ok.jG I.sz
 uI:=λb o e hb=>by
  rcases(hf b hb).2.2.2.1 with z | z
  ·exact I.ok.uI b o e z
  ·exact absurd (cT (bI (I.ok.bs b o e).1) z) (fw _)
 uJ:=λb hb z=>(bY.mp (I.BN b z)).elim (hf b hb).2.1 (hf b hb).2.2.1
 gC:=I.stack
 jH:=I.FD
end
theorem Iy:∀(ns:List (Str × NameKind)) (h:Heap) (acc:List (Str × Addr)) (y:Str) (c:Addr),(cellsFrom h.objs.size ns acc).lookup y=some c->(∃o,(pushCells h ns).get? c=some o/\o.data=.cell none)\/acc.lookup y=some c
 | [],_,_,_,_,e=>.inr e
 | (z,k)::r,h,acc,y,c,e=>by
  unfold cellsFrom at e
  unfold pushCells
  split at e
  ·rename_i hk
   rw[if_pos hk]
   rw[<-oq h { cls:=.type "cell",data:=.cell none }]at e
   rcases Iy r _ _ y c e with h1 | h1
   ·exact .inl h1
   ·rw[gi]at h1
    cases q:y==z with
    | true =>
     rw[q]at h1;cases h1
     exact .inl ⟨_,pushCells_keeps _ _ _ _ (fO _ rfl),rfl⟩
    | false=>rw[q]at h1;exact .inr h1
  ·rename_i hk
   rw[if_neg hk]
   exact Iy r h acc y c e
end L2
namespace L2
open PySem PySem.Spec PyProof.Rows
section
variable{X:Cx}{elt iter tg:Expr}{pos:Pos}{ifs:List Expr}{scope:Scope}{cl:List (Str × Addr)}{wi:TI}{tt:TT}{te:TE}{g:TG}
theorem VT(aD:List (Str × Nat))(bV:List Str)(hc:X.calm=true)(hi:PI X tg iter wi)
  (hg:∀C s H fp,PG (dW X scope (aD.map (·.1)++bV) cl C s H fp) tg g)
  (ht:∀C s H fp,m3 (dW X scope (aD.map (·.1)++bV) cl C s H fp) ifs tt) (he:∀C s H fp,PE (dW X scope (aD.map (·.1)++bV) cl C s H fp) elt te)
  (nL:closureFor scope X.env=pure cl) (nN:m4 X cl) (nO:∀C:Addr,m5 (cellsFrom (C+1) scope.names cl) (relabel scope X.env).names) (nQ:∀C:Addr,mZ X scope (cellsFrom (C+1) scope.names cl) aD)
  (iO:scope.kind=.function) (nR:∀y∈scope.names,y.2=.local->scope.names.lookup y.1=some .local)
  (hs:∀x,foldedSetIterable iter X.env x=pure x:=by intro _;rfl) {pins:List (Addr × Obj)} {s:Shared} {σ:L2.St} {H:Hp} {Q:VK} {use:Option (Value->Sem Unit)} {cg:Pos} {Rf:Value->Shared->Prop} (I:Inv X pins σ H s) (h:Cb wi aD bV.length g tt te σ H Q)
  (dZ4:∀(s':Shared) (H':Hp) (C Da:Addr) (m:Str->Option Value),Inv X pins σ H' s'->s'.heap.Ns C m->H' C=none->C≠X.env.locals->X.cK.heap.objs.size<=C->(∀x c,X.env.cells.lookup x=some c->c≠C)->(∀p∈X.pn++pins,p.1≠C)->C ∉ X.fs->Q (.ref Da) H' ->
   compPost (model X.prog X.w) X.A X.xe use Rf (.ref Da) C (.ok .next) s') :
  wpAny (model X.prog X.w) X.A (comprehension (.ListComp elt [⟨tg,iter,ifs,0⟩] scope pos) scope X.env cg (newList []) false (eval iter X.env) use) Rf X.xe s:=by
 have dM:=nN.all
 refine wpAny_comprehension_free (use:=use) rfl hs nL iO nR (aP (hi pins s σ H _ I h) λv s1 h1=>aP h1 λFR s2 h2=>?_)
 obtain⟨it,fp,tn,J,H2,e,I2,T,jK,f2,q⟩:=h2
 subst e
 refine wpAny_newList ?_
 refine b00 ?_
 have hD:H2 s2.heap.objs.size=none:=I2.aG.fresh (bJ _)
 obtain⟨W,⟨m0,w0⟩,turn⟩:=q s2.heap.objs.size hD
 generalize Iz:s2.heap.push { cls:=.type "list",data:=.seq ([]:List Value).toArray }=g0 at ⊢
 have hCs:g0.objs.size=s2.heap.objs.size+1:=by rw[<-Iz,oq]
 have hDC:s2.heap.objs.size≠g0.objs.size:=by omega
 have hle:s2.heap.objs.size<=g0.objs.size:=by omega
 have uK:∀b o,s2.heap.get? b=some o->b≠g0.objs.size:=λb o e=>eY (cT (bI e) hle)
 obtain⟨g1,Dn⟩:∃g1,g1=pushCells (g0.push { cls:=.type "dict",data:=.dict #[] }) scope.names:=⟨_,rfl⟩
 have ns1:g1.Ns g0.objs.size (λ_=>none):=by rw[Dn];exact(Heap.Ns.new g0 (.type "dict")).keeps (pushCells_keeps _ _)
 have VU:∀b o,g0.get? b=some o->g1.get? b=some o:=λb o e=>by rw[Dn];exact pushCells_keeps _ _ b o (eF _ e)
 have old:∀b o,s2.heap.get? b=some o->g1.get? b=some o:=λb o e=>VU b o (Iz ▸ eF _ e)
 rw[<-Dn]
 have hDg:g1.get? s2.heap.objs.size=some { cls:=.type "list",data:=.seq ([]:List Value).toArray }:=VU _ _ (Iz ▸ fO _ rfl)
 have VV:∀b∈fp,∃o,s2.heap.get? b=some o/\∀v,o.data≠.cell v:=T.obj _ _ jK
 have Dq:=cn5 (scope:=scope) (cl:=cl) (C:=g0.objs.size) I2 iO hle dM (nO g0.objs.size).all f2 VV (aD.map (·.1)++bV)
 have I4:Inv (dW X scope (aD.map (·.1)++bV) cl g0.objs.size s2 H2 fp) [] (gS aD bV.length σ) (upd H2 s2.heap.objs.size (.lst [])) { s2 with heap:=g1 }:=by
  refine⟨Dq,rfl,I2.bare,Un.laid old (bJ _) hD,⟨_,ns1,λi y v h1 h2 h3=>?_⟩,λy c e=>?_,?_,λy c e=>?_,λp hp=>absurd hp (by simp[dW,Ca]),I2.aG.laid old (bJ _) ⟨jz _,[],0,.nil,hDg⟩,by simp[gS,dW,Ca]⟩
  ·by_cases IA:i<aD.length
   case neg =>
    have jh:((aD.map λp=>(σ[p.2]?).getD none)++aT bV.length none)[i]?=some (some v):=h2
    rw[ym (by simpa using IA),uh]at jh
    split at jh<;>cases jh
   case pos =>
    have jN:(aD.map (·.1))[i]?=some y:=by
     have z:(aD.map (·.1)++bV)[i]?=some y:=h1
     rwa [yn (by simpa using IA)]at z
    have jh:(aD.map λp=>(σ[p.2]?).getD none)[i]?=some (some v):=by
     have z:((aD.map λp=>(σ[p.2]?).getD none)++aT bV.length none)[i]?=some (some v):=h2
     rwa [yn (by simpa using IA)]at z
    rw[bX]at jN jh
    cases hj:aD[i]? with
    | none=>rw[hj]at jN;cases jN
    | some p =>
     rw[hj]at jN jh
     have ey:p.1=y:=cN jN
     have ev:(σ[p.2]?).getD none=some v:=cN jh
     obtain⟨hN,hk,we,c,e1,e2⟩:=(nQ g0.objs.size).at p (yo hj)
     obtain⟨m,hn,hl⟩:=I2.loc
     have es:σ[p.2]?=some (some v):=by
      cases z:σ[p.2]? with
      | none=>rw[z]at ev;cases ev
      | some o=>rw[z]at ev;exact congrArg some ev
     obtain⟨u,ru,lk⟩:=hl p.2 p.1 v hN es (hk.elim (λz=>.inr (.inl z)) λz=>.inr (.inr z))
     refine⟨u,ru,?_⟩
     rcases lk with⟨lk,_⟩ | ⟨_,c',e3,ic⟩
     ·rcases hk with hk | hk
      ·have:=hk.symm.trans lk;cases this
      ·have:=hk.symm.trans lk;cases this
     ·rw[e2]at e3
      cases e3
      subst ey
      obtain⟨oc,iG,HG⟩:=ic
      exact .inr ⟨we,c,e1,oc,old _ _ iG,HG⟩
  ·rcases Iy _ _ _ y c (show(cellsFrom (g0.push { cls:=.type "dict",data:=.dict #[] }).objs.size scope.names cl).lookup y=some c by rw[oq];exact e)with h1 | h1
   ·rw[<-Dn]at h1
    exact⟨none,h1⟩
   ·obtain⟨v,o,ho,hd⟩:=I2.cell y c (dM y c h1)
    exact⟨v,o,old _ _ ho,hd⟩
  ·show upd H2 _ _ g0.objs.size=none
   rw[bc (fg hDC)]
   exact I2.aG.fresh hle
  ·rcases Ag _ _ _ y c e with⟨h1,_⟩ | h1
   ·rw[bc (yk (mI hle h1))]
    exact I2.aG.fresh (eH hle (BH h1))
   ·obtain⟨v,o,ho,hd⟩:=I2.cell y c (dM y c h1)
    rw[bc (eY (bI ho))]
    exact I2.jf y c (dM y c h1)
 have fin:∀(s':Shared) (H':Hp) (aF:L2.St),Inv (dW X scope (aD.map (·.1)++bV) cl g0.objs.size s2 H2 fp) [] aF H' s'->Q (.ref s2.heap.objs.size) H' ->
   compPost (model X.prog X.w) X.A X.xe use Rf (.ref s2.heap.objs.size) g0.objs.size (.ok .next) s':=by
  intro s' H' aF I' q'
  obtain⟨m,hn,_⟩:=I'.loc
  have u:=I'.base
  have hC':H' g0.objs.size=none:=I'.free
  have IX:Inv X pins σ H' s':=I2.dk5 (s':=s') (ch:=fp) I'.os ⟨u.keep,u.slot,u.free,u.there,u.jF,u.je,u.ie⟩ I'.aG I'.bare λb hb=>by
   obtain⟨_,y1,y2,y3,y4,y5⟩:=f2 b hb
   exact⟨y3,y1,y4,y5⟩
  have VW:∀b,(∃o,s2.heap.get? b=some o)->b≠g0.objs.size:=λb ⟨o,e⟩=>uK b o e
  refine dZ4 s' H' g0.objs.size s2.heap.objs.size m IX hn hC' (λz=>?_) (eH I2.sz hle) (λx c e z=>?_) (λp hp z=>?_) (λz=>?_) q'
  ·have h0:X.env.locals<s2.heap.objs.size:=I2.lt
   rw[<-z]at h0
   exact fw _ (cT h0 hle)
  ·obtain⟨v,o,ho,_⟩:=I2.cell x c e
   exact VW c ⟨o,ho⟩ z
  ·exact VW p.1 ⟨_,(I2.pin p hp).1⟩ z
  ·exact I2.RE hle z
 have IB:∀(H':Hp),(∀b∈fp,H' b=none)->∀b∈fp,iH (dW X scope (aD.map (·.1)++bV) cl g0.objs.size s2 H2 fp) [] H' b:=λH' hn b hb =>
  ⟨hn b hb,(Dq.yP b hb).1,Dq.uJ b hb,.inl hb,(Dq.yP b hb).2,λp hp=>absurd hp (by simp[dW,Ca])⟩
 have loop:codeAny (model X.prog X.w) X.A (.compLoop (.ListComp elt [⟨tg,iter,ifs,0⟩] scope pos) 0 (.ref it) (.ref s2.heap.objs.size) (compEnvC scope (cellsFrom (g0.objs.size+1) scope.names cl) g0.objs.size X.env))
   (compPost (model X.prog X.w) X.A X.xe use Rf (.ref s2.heap.objs.size) g0.objs.size) { s2 with heap:=g1 }:=by
  refine bM2 (λn s'=>∃i acc H',Inv (dW X scope (aD.map (·.1)++bV) cl g0.objs.size s2 H2 fp) [] (gS aD bV.length σ) H' s'/\tn i s'.heap/\(∀b∈fp,H' b=none)/\W i n acc H') ?_ m0
   ⟨0,[],_,I4,T.keep _ _ _ jK λb hb o e=>old b o e,λb hb=>?_,w0⟩
  ·rintro n s' ⟨i,acc,H',I',jJ,CM,w'⟩
   obtain⟨rV,⟨stop,qn⟩ | ⟨go,step⟩⟩:=turn i n acc H' w'
   ·refine aP (T.done (dW X scope (aD.map (·.1)++bV) cl g0.objs.size s2 H2 fp) rfl rfl rfl hc i [] s' _ H' (λ_ _=>False) I' (IB H' CM) jJ stop) λr t1 zz=>?_
    obtain⟨hr,I1⟩:=zz
    subst hr
    exact fin _ _ _ I1 qn
   ·refine aP (T.item (dW X scope (aD.map (·.1)++bV) cl g0.objs.size s2 H2 fp) rfl rfl rfl hc i [] s' _ H' (λ_ _=>False) I' (IB H' CM) jJ go) λr t1 zz=>?_
    obtain⟨u,hr,h4⟩:=zz
    subst hr
    refine aP h4 λ_ t2 zz=>?_
    obtain⟨x5,H5,I5,r5,y5,qV,FW⟩:=zz
    obtain⟨Co,st6⟩:=step x5 H5 y5
    have FX:=I5.pinned (IB H5 FW) (T.obj _ _ qV)
    refine aP (hg _ _ _ _ _ t2 _ H5 x5 u _ FX r5 st6) λ_ t3 zz=>?_
    obtain⟨FY,H6,I6,⟨d00,d01⟩,st7⟩:=zz
    have back:∀(s7:Shared) (H7:Hp) (IC:List V) (m7:Nat),Inv (dW X scope (aD.map (·.1)++bV) cl g0.objs.size s2 H2 fp) ([]++yZ fp t2.heap) FY H7 s7->W (i+1) m7 IC H7 ->
      ∃i acc H',Inv (dW X scope (aD.map (·.1)++bV) cl g0.objs.size s2 H2 fp) [] (gS aD bV.length σ) H' s7/\tn i s7.heap/\(∀b∈fp,H' b=none)/\W i m7 acc H':=λs7 H7 IC m7 I7 w7 =>
     ⟨i+1,IC,H7,(I7.y0).weak d00.symm λj v z=>by
       by_cases hj:j<aD.length
       ·rw[d01 j hj];exact z
       ·have z':((aD.map λp=>(σ[p.2]?).getD none)++aT bV.length none)[j]?=some (some v):=z
        rw[ym (by simpa using hj),uh]at z'
        split at z'<;>(cases z'),
      T.keep _ _ _ qV λb hb o e=>(I7.pin (b,o) (fA _ (fA _ (BZ hb e)))).1,λb hb=>by
       obtain⟨o,e,d⟩:=T.obj _ _ qV b hb
       exact(I7.pin (b,o) (fA _ (fA _ (BZ hb e)))).2.1,w7⟩
    refine aP (ht _ _ _ _ _ t3 _ H6 _ I6 st7) λok t4 zz=>?_
    obtain⟨H7,I7,hD7,q7⟩:=zz
    cases ok with
    | false =>
     obtain⟨m',hm,w7⟩:=(show ∃m',m'<n/\W (i+1) m' acc H7 from q7)
     exact⟨m',hm,back t4 H7 acc m' I7 w7⟩
    | true =>
     refine aP (he _ _ _ _ _ t4 _ H7 _ I7 q7) λy t5 zz=>?_
     obtain⟨v8,H8,I8,r8,hD8,hl8,m',hm,w8⟩:=zz
     exact aP (Sr _ t5 _ H8 (.ref s2.heap.objs.size) [v8] (.ref s2.heap.objs.size) [y] (λ_ H9=>H9=upd H8 s2.heap.objs.size (.lst (acc++[v8]))) I8 rfl (.cons r8 .nil) ⟨_,acc,v8,rfl,rfl,hD8,hl8,rfl⟩) λ_ t6 zz=>by
      obtain⟨_,H9,I9,_,e9⟩:=zz
      subst e9
      exact⟨m',hm,back t6 _ _ m' I9 w8⟩
  ·obtain⟨o,e,_⟩:=VV b hb
   rw[bc (eY (bI e))]
   exact(f2 b hb).1
 exact codeAny_compStart_list loop (T.self _ 0 _ _ _ (T.keep _ _ _ jK λb hb o e=>old b o e) loop)
theorem cm2(aD:List (Str × Nat))(bV:List Str)(hc:X.calm=true)(hi:PI X tg iter wi)
  (hg:∀C s H fp,PG (dW X scope (aD.map (·.1)++bV) cl C s H fp) tg g)
  (ht:∀C s H fp,m3 (dW X scope (aD.map (·.1)++bV) cl C s H fp) ifs tt) (he:∀C s H fp,PE (dW X scope (aD.map (·.1)++bV) cl C s H fp) elt te)
  (nL:closureFor scope X.env=pure cl) (nN:m4 X cl) (nO:∀C:Addr,m5 (cellsFrom (C+1) scope.names cl) (relabel scope X.env).names) (nQ:∀C:Addr,mZ X scope (cellsFrom (C+1) scope.names cl) aD)
  (iO:scope.kind=.function) (nR:∀y∈scope.names,y.2=.local->scope.names.lookup y.1=some .local)
  (hs:∀x,foldedSetIterable iter X.env x=pure x:=by intro _;rfl):PE X (.ListComp elt [⟨tg,iter,ifs,0⟩] scope pos) (Cb wi aD bV.length g tt te):=by
 intro pins s σ H Q I h
 rw[eval_ListComp]
 refine VT aD bV hc hi hg ht he nL nN nO nQ iO nR hs I h λs' H' C Da m IX hn hC hL h1 h2 h3 h4 q'=>?_
 exact⟨m,hn,λh' sb=>⟨.ref Da,H',IX.turned (t':=s'.toks) (λb o hb e=>sb.extBut b o hb e) hC hL (.inr h1) h2 h3,rfl,q'⟩⟩
theorem ck4{i:Nat}{x:Str}{pos' apos:Pos}(hN:X.N.Nodup)(pS:X.N[i]?=some x)(hx:Loc X.env.scope x)(hf:X.fn x=true\/X.env.scope.names.lookup x=some .local)(aD:List (Str × Nat))(bV:List Str)(hc:X.calm=true)(hi:PI X tg iter wi)
  (hg:∀C s H fp,PG (dW X scope (aD.map (·.1)++bV) cl C s H fp) tg g)
  (ht:∀C s H fp,m3 (dW X scope (aD.map (·.1)++bV) cl C s H fp) ifs tt) (he:∀C s H fp,PE (dW X scope (aD.map (·.1)++bV) cl C s H fp) elt te)
  (nL:closureFor scope X.env=pure cl) (nN:m4 X cl) (nO:∀C:Addr,m5 (cellsFrom (C+1) scope.names cl) (relabel scope X.env).names) (nQ:∀C:Addr,mZ X scope (cellsFrom (C+1) scope.names cl) aD)
  (iO:scope.kind=.function) (nR:∀y∈scope.names,y.2=.local->scope.names.lookup y.1=some .local)
  (sO:swapsWith (.ListComp elt [⟨tg,iter,ifs,0⟩] scope pos) (some (.Name x pos')) apos.line X.env=pure true) (hs:∀x,foldedSetIterable iter X.env x=pure x:=by intro _;rfl):PS X (.Assign [.Name x pos'] (.ListComp elt [⟨tg,iter,ifs,0⟩] scope pos) apos) (FQ (Cb wi aD bV.length g tt te) (BX i)):=by
 intro pins s σ H D I h
 rw[exec_Assign_Name_used x pos' _ apos sO]
 refine wpAny_bind (wpAny_standAt (wpAny_bind ?_))
 have hh:Cb wi aD bV.length g tt te σ H λv H1=>D.nx (σ.set i (some v)) H1:=h
 show wpAny _ _ (comprehension (.ListComp elt [⟨tg,iter,ifs,0⟩] scope pos) scope X.env (firstIterPos [⟨tg,iter,ifs,0⟩] pos) (newList []) false (eval iter X.env) (some (assign (.Name x pos') X.env)) >>= λ_=>pure ()) _ _ _
 refine wpAny_bind (VT (use:=some (assign (.Name x pos') X.env)) (pos:=pos) aD bV hc hi hg ht he nL nN nO nQ iO nR hs I hh λs' H' C Da m IX hn hC hL h1 h2 h3 h4 q'=>?_)
 obtain⟨oC,es,ep,hoC,VX,rest⟩:=id hn
 have IP:Inv X (pins++[(C,oC)]) σ H' s':=⟨IX.ok,IX.os,IX.bare,IX.base,IX.loc,IX.cell,IX.free,IX.jf,λp hp=>by
  rcases cw.mp hp with z | z
  ·exact IX.pin p (gO _ z)
  ·rcases cw.mp z with z | z
   ·exact IX.pin p (fA _ z)
   ·obtain rfl:=jB.mp z
    exact⟨hoC,hC,hL,h4,λv w=>by rw[VX]at w;cases w⟩,IX.aG,IX.len⟩
 refine aP (BY (X:=X) hN pS hx hf _ s' σ H' (.ref Da) (.ref Da) (λlF H2=>lF=σ.set i (some (.ref Da))/\H2=H') IP rfl ⟨rfl,rfl⟩) λ_ s2 zz=>?_
 obtain⟨lF,H2,I2,e1,e2⟩:=zz
 subst e1 e2
 have pC:=I2.pin (C,oC) (fA _ (fA _ (by simp)))
 refine⟨m,⟨oC,es,ep,pC.1,VX,rest⟩,λh' sb=>wpAny_pure (wpAny_pure ?_)⟩
 exact⟨σ.set i (some (.ref Da)),H2,(I2.y0).turned (t':=s2.toks) (λb o hb e=>sb.extBut b o hb e) hC hL (.inr h1) h2 h3,q'⟩
end
end L2
namespace L3
open PySem L2 PySem.Spec PyProof.Rows
section
variable{X:Cx}{elt iter tg:Expr}{pos:Pos}{ifs:List Expr}{scope:Scope}{cl:List (Str × Addr)}{ti:iU}{tt:fQ}{te:aQ}{g:iu}
theorem fc(aD:List (Str × Nat))(bV:List Str)(hc:X.calm=true)(hi:PI X tg iter (lI ti))
  (hg:∀C s H fp,PG (dW X scope (aD.map (·.1)++bV) cl C s H fp) tg (lG aD.length g))
  (ht:∀C s H fp,m3 (dW X scope (aD.map (·.1)++bV) cl C s H fp) ifs (lT tt)) (he:∀C s H fp,PE (dW X scope (aD.map (·.1)++bV) cl C s H fp) elt (lE te))
  (nL:closureFor scope X.env=pure cl) (nN:m4 X cl) (nO:∀C:Addr,m5 (cellsFrom (C+1) scope.names cl) (relabel scope X.env).names) (nQ:∀C:Addr,mZ X scope (cellsFrom (C+1) scope.names cl) aD)
  (iO:scope.kind=.function) (nR:∀y∈scope.names,y.2=.local->scope.names.lookup y.1=some .local)
  (hs:∀x,foldedSetIterable iter X.env x=pure x:=by intro _;rfl):PE X (.ListComp elt [⟨tg,iter,ifs,0⟩] scope pos) (lE (pf ti aD bV.length g tt te)) :=
 dz (cm2 aD bV hc hi hg ht he nL nN nO nQ iO nR hs) λσ H Q ⟨B,F,δ,ts,Qd,c,q,k⟩=>⟨B,F,δ,ts,_,c,q,λsh xs aq J F1 H1 hq f1 h1 c1 rT zD=>by
  obtain⟨p,f,hx,eN,hlen,hQ⟩:=hq
  exact Tv c1 rT zD p f hx eN hlen hQ λd ah v F' H' hd hf hs c'=>k d ah v F' H' hd (f1.trans hf) (h1.trans hs) c'⟩
theorem Dr{i:Nat}{x:Str}{pos' apos:Pos}(hN:X.N.Nodup)(pS:X.N[i]?=some x)(hx:L2.Loc X.env.scope x)(aD:List (Str × Nat))(bV:List Str)(hc:X.calm=true)(hi:PI X tg iter (lI ti))
  (hg:∀C s H fp,PG (dW X scope (aD.map (·.1)++bV) cl C s H fp) tg (lG aD.length g))
  (ht:∀C s H fp,m3 (dW X scope (aD.map (·.1)++bV) cl C s H fp) ifs (lT tt)) (he:∀C s H fp,PE (dW X scope (aD.map (·.1)++bV) cl C s H fp) elt (lE te))
  (nL:closureFor scope X.env=pure cl) (nN:m4 X cl) (nO:∀C:Addr,m5 (cellsFrom (C+1) scope.names cl) (relabel scope X.env).names) (nQ:∀C:Addr,mZ X scope (cellsFrom (C+1) scope.names cl) aD)
  (iO:scope.kind=.function) (nR:∀y∈scope.names,y.2=.local->scope.names.lookup y.1=some .local)
  (sO:swapsWith (.ListComp elt [⟨tg,iter,ifs,0⟩] scope pos) (some (.Name x pos')) apos.line X.env=pure true:=by rfl) (hf:X.fn x=true\/X.env.scope.names.lookup x=some .local:=by first | exact .inl rfl | exact .inr rfl)
  (hs:∀x,foldedSetIterable iter X.env x=pure x:=by intro _;rfl):PS X (.Assign [.Name x pos'] (.ListComp elt [⟨tg,iter,ifs,0⟩] scope pos) apos) (lS X (o9 i (pf ti aD bV.length g tt te))) :=
 lR (ck4 hN pS hx hf aD bV hc hi hg ht he nL nN nO nQ iO nR sO hs) λEn σ H ⟨B,F,δ,Dd,c,q,k1,k2,k3,k4⟩=>⟨B,F,δ,[],_,c,q,λsh xs aq J F1 H1 hq f1 h1 c1 rT zD=>by
  obtain⟨p,f,hx,eN,hlen,hQ⟩:=hq
  exact Tv (Qd:=λd ah=>Dd.nx (ah.set i (some d))) c1 rT zD p f hx eN hlen hQ λd ah v F' H' hd hf hs c'=>k1 _ _ F' H' hd (c'.store i)⟩
end
end L3
namespace L3
open PySem L2 Mf
theorem lo1{m:Bool × Nat}(hm:m∈av):1<aa m:=by have:=(bS hm).lo;omega
inductive Sp(N:Nat)(p q:Nat->Nat->Nat)(S:(Nat->Nat)->Prop):(Nat->Nat)->Prop
 | mem {f:Nat->Nat}:S f->Sp N p q S f
 | zero:Sp N p q S λ_=>0
 | add {f g:Nat->Nat}:Sp N p q S f->Sp N p q S g->Sp N p q S λk=>p (f k) (g k)
 | mul {f:Nat->Nat} (c:Nat):c<N->Sp N p q S f->Sp N p q S λk=>q c (f k)
theorem Sp.trans{N:Nat}{p q:Nat->Nat->Nat}{S S':(Nat->Nat)->Prop}(h:∀f,S f->Sp N p q S' f){f:Nat->Nat}(s:Sp N p q S f):Sp N p q S' f:=by
 induction s with
 | mem a=>exact h _ a
 | zero=>exact .zero
 | add _ _ a b=>exact .add a b
 | mul c hc _ a=>exact .mul c hc a
noncomputable def Gn(T:List (List Nat))(f:Nat->Nat):Prop:=∃r∈T,f=cf r
noncomputable def eE(m:Bool × Nat)(T:List (List Nat))(f:Nat->Nat):Prop:=Sp (aa m) (gp m) (gm m) (Gn T) f
theorem eE.of{m:Bool × Nat}{T:List (List Nat)}{r:List Nat}(h:r∈T):eE m T (cf r):=.mem ⟨r,h,rfl⟩
theorem cm8{m:Bool × Nat}(hm:m∈av){a:Nat}(ha:a<aa m){f f' l:Nat->Nat}(ID:∀k,f' k<aa m)(hl:∀k,l k<aa m)(h:∀k,gp m (f' k) (gm m a (l k))=f k):∃b,b<aa m/\f'=λk=>gp m (f k) (gm m b (l k)):=by
 have r:=rg hm
 obtain⟨b,hb,e⟩:=r.ng ha
 refine⟨b,hb,funext λk=>?_⟩
 rw[<-h k,r.pa,r.mc a,r.mc b,<- r.dl,e,r.qz,r.z' (ID k)]
theorem IE{m:Bool × Nat}(hm:m∈av){r l:List Nat}{w:Nat}(hr:r.length=w)(hl:l.length=w)(a k:Nat):cf (dZ (λx y=>aZ m x (gm m a y)) r l) k=aZ m (cf r k) (gm m a (cf l k)):=by
 by_cases h:k<w
 ·unfold cf
  rw[aI,mQ,aL (by omega),aL (by omega),aI,aL (by omega),aI,aL (by omega)]
  rfl
 ·rw[g5 (by rw[jY];omega),g5 (l:=r) (by omega),g5 (l:=l) (by omega),gg m _ (bB m hm),Aa]
theorem IF{m:Bool × Nat}(hm:m∈av){r l:List Nat}{w a:Nat}(hr:r.length=w)(hl:l.length=w)(ar:AllLt (aa m) r)(k:Nat):gp m (cf (dZ (λx y=>aZ m x (gm m a y)) r l) k) (gm m a (cf l k))=cf r k:=by
 rw[IE hm hr hl]
 exact(eV hm (bU hm ar k) (cj hm _ _)).2.2
theorem VY{m:Bool × Nat}(hm:m∈av){r l:List Nat}{w:Nat}(hr:r.length=w)(hl:l.length=w)(ar:AllLt (aa m) r)(a k:Nat):cf (dZ (λx y=>aZ m x (gm m a y)) r l) k<aa m:=by
 rw[IE hm hr hl]
 exact(eV hm (bU hm ar k) (cj hm _ _)).2.1
theorem VZ{m:Bool × Nat}(hm:m∈av){w p i:Nat}{T:List (List Nat)}(hT:RT (aa m) w T)(e:jw T p=some i):∃(g:List Nat) (c:Nat),g∈T/\T.getD i []=g/\g.length=w/\AllLt (aa m) g/\c<aa m/\gm m c (cf g p)=1/\(dU m T i p).length=w/\AllLt (aa m) (dU m T i p)/\(∀k,cf (dU m T i p) k=gm m c (cf g k))/\cf (dU m T i p) p=1/\∀k,gm m (cf g p) (cf (dU m T i p) k)=cf g k:=by
 obtain⟨hi,h1,h2⟩:=Dm e
 obtain⟨a,b⟩:=hT _ (dP hi)
 have l1:1<aa m:=lo1 hm
 obtain⟨c,hc,wa⟩:=da0 hm l1 (bU hm b p) h1
 have ec:Ad m (cf T[i] p)=c:=VP hm hc wa
 have el:dU m T i p=T[i].map (gm m c):=by unfold dU;rw[h2,<- ec];rfl
 have ek:∀k,cf (dU m T i p) k=gm m c (cf T[i] k):=λk=>by rw[el];exact VJ hm _ _ _
 refine⟨T[i],c,dP hi,h2,a,b,hc,wa,by rw[el,bu,a],λx hx=>?_,ek,by rw[ek];exact wa,λk=>?_⟩
 ·rw[el]at hx
  obtain⟨y,_,rfl⟩:=bZ.mp hx
  exact cj hm _ _
 ·rw[ek,<- eR (bB m hm),e8 m _ c,wa,qa (bU hm b k)]
theorem V0{m:Bool × Nat}{s:List (List Nat) × List (List Nat)}{p i:Nat}(e:jw s.2 p=some i):g6 m s p=(gy m s.1 (dU m s.2 i p) p++[dU m s.2 i p],gy m (s.2.take i++s.2.drop (i+1)) (dU m s.2 i p) p):=by unfold g6;rw[e]
theorem V1{m:Bool × Nat}{s:List (List Nat) × List (List Nat)}{p:Nat}(e:jw s.2 p=none):g6 m s p=s:=by unfold g6;rw[e]
theorem Ds{α:Type}{T:List α}{i:Nat}{r:α}(h:r∈T.take i++T.drop (i+1)):r∈T:=(cw.mp h).elim yt Bw
theorem cj1{α:Type}{T:List α}{i:Nat}{r:α}(h:r∈T)(hi:i<T.length):r=T[i]\/r∈T.take i++T.drop (i+1):=by
 obtain⟨j,hj,rfl⟩:=gP h
 rcases Nat.lt_trichotomy j i with h | h | h
 ·exact .inr (cw.mpr (.inl (List.mem_take_iff_getElem.mpr ⟨j,by omega,rfl⟩)))
 ·subst h;exact .inl rfl
 ·exact .inr (cw.mpr (.inr (List.mem_drop_iff_getElem.mpr ⟨j-(i+1),by omega,by congr 1;omega⟩)))
theorem bX2{m:Bool × Nat}(hm:m∈av){w n p:Nat}{s:List (List Nat) × List (List Nat)}(h:Ae (aa m) w n s)(f:Nat->Nat):eE m (s.1++s.2) f↔eE m ((g6 m s p).1++(g6 m s p).2) f:=by
 cases e:jw s.2 p with
 | none=>rw[V1 e]
 | some i =>
  obtain⟨g,c,g1,g2,g3,g4,c1,c2,l1,l2,l3,l4,l5⟩:=VZ hm h.b e
  obtain⟨hi,_,hg⟩:=Dm e
  rw[V0 e]
  generalize dU m s.2 i p=l at l1 l2 l3 l4 l5
  have ll:=bU hm l2
  have row:∀{T:List (List Nat)},RT (aa m) w T->∀r'∈gy m T l p,∃r∈T,∃b,b<aa m/\cf r'=λk=>gp m (cf r k) (gm m b (cf l k)):=λ{T} hT r' cW=>by
   obtain⟨r,hr,rfl⟩:=bZ.mp cW
   obtain⟨a1,a2⟩:=hT r hr
   exact⟨r,hr,cm8 hm (bU hm a2 p) (VY hm a1 l1 a2 _) ll (IF hm a1 l1 a2)⟩
  have V2:∀{T:List (List Nat)},RT (aa m) w T->∀r∈T,∃r'∈gy m T l p,cf r=λk=>gp m (cf r' k) (gm m (cf r p) (cf l k)):=λ{T} hT r hr=>by
   obtain⟨a1,a2⟩:=hT r hr
   exact⟨_,bZ.mpr ⟨r,hr,rfl⟩,funext λk=>(IF hm a1 l1 a2 k).symm⟩
  have hB:RT (aa m) w (s.2.take i++s.2.drop (i+1)):=λr hr=>h.b r (Ds hr)
  constructor
  ·refine Sp.trans ?_
   rintro f ⟨r,hr,rfl⟩
   have hl:eE m ((gy m s.1 l p++[l])++gy m (s.2.take i++s.2.drop (i+1)) l p) (cf l):=eE.of (by simp)
   rcases cw.mp hr with hr | hr
   ·obtain⟨r',h1,h2⟩:=V2 h.a r hr
    rw[h2]
    exact .add (eE.of (by simp[h1])) (.mul _ (bU hm (h.a r hr).2 p) hl)
   ·rcases cj1 hr hi with e' | cW
    ·have:cf r=λk=>gm m (cf g p) (cf l k):=funext λk=>by rw[l5 k,e',<- hg,g2]
     rw[this]
     exact .mul _ (bU hm g4 p) hl
    ·obtain⟨r',h1,h2⟩:=V2 hB r cW
     rw[h2]
     exact .add (eE.of (by simp[h1])) (.mul _ (bU hm (h.b r hr).2 p) hl)
  ·refine Sp.trans ?_
   rintro f ⟨r,hr,rfl⟩
   have hl:eE m (s.1++s.2) (cf l):=by
    have:cf l=λk=>gm m c (cf g k):=funext l3
    rw[this]
    exact .mul _ c1 (eE.of (fA _ g1))
   rcases cw.mp hr with hr | hr
   ·rcases cw.mp hr with hr | hr
    ·obtain⟨r1,h1,b,hb,h2⟩:=row h.a r hr
     rw[h2]
     exact .add (eE.of (gO _ h1)) (.mul _ hb hl)
    ·rw[jB]at hr
     rw[hr];exact hl
   ·obtain⟨r1,h1,b,hb,h2⟩:=row hB r hr
    rw[h2]
    exact .add (eE.of (fA _ (Ds h1))) (.mul _ hb hl)
structure RR(w:Nat)(R:List (List Nat))(H:Nat->Nat):Prop where
 u:∀i j,i<R.length->j<R.length->cf (R.getD i []) (H j)=if i=j then 1 else 0
 z:∀i,i<R.length->∀t,t<H i->cf (R.getD i []) t=0
 i:∀i j,i<j->j<R.length->H i<H j
 l:∀i,i<R.length->H i<w
theorem Dt{α β:Type}(f:α->β){l:List α}{i:Nat}(h:i<l.length)(a:α)(b:β):(l.map f).getD i b=f (l.getD i a):=by
 rw[aI,bX,aI,aL h];rfl
theorem dX{α:Type}{l:List α}{i:Nat}(h:i<l.length)(a:α):l.getD i a∈l:=by
 rw[aI,aL h];exact dP h
theorem bP2{m:Bool × Nat}(hm:m∈av){w n p:Nat}{s:List (List Nat) × List (List Nat)}(h:Ae (aa m) w n s){H:Nat->Nat}(I:RR p s.1 H)(e2:∀r∈s.2,∀t,t<p->cf r t=0):∃H',RR (p+1) (g6 m s p).1 H'/\∀r∈(g6 m s p).2,∀t,t<p+1->cf r t=0:=by
 cases e:jw s.2 p with
 | none =>
  rw[V1 e]
  refine⟨H,⟨I.u,I.z,I.i,λi hi=>Rb (I.l i hi)⟩,λr hr t ht=>?_⟩
  rcases qP t p with h1 | h1
  ·exact e2 r hr t h1
  ·have:=dh9.mp e r hr
   have z:r.getD p 0=0:=by simpa using this
   rw[show t=p by omega]
   exact z
 | some i0 =>
  obtain⟨g,c,g1,g2,g3,g4,c1,c2,l1,l2,l3,l4,l5⟩:=VZ hm h.b e
  rw[V0 e]
  generalize dU m s.2 i0 p=l at l1 l2 l3 l4 l5
  have m0:=bB m hm
  have lz:∀t,t<p->cf l t=0:=λt ht=>by rw[l3,e2 g g1 t ht,gg m _ m0]
  have Ah:∀{r:List Nat},r.length=w->AllLt (aa m) r->(∀t,t<p->cf (dZ (λx y=>aZ m x (gm m (r.getD p 0) y)) r l) t=cf r t)/\cf (dZ (λx y=>aZ m x (gm m (r.getD p 0) y)) r l) p=0:=λ{r} a1 a2=>by
   constructor
   ·intro t ht
    have:=IF hm (a:=r.getD p 0) a1 l1 a2 t
    rw[lz t ht,gg m _ m0,mm (VY hm a1 l1 a2 _ _)]at this
    exact this
   ·rw[IE hm a1 l1,l4]
    show aZ m (r.getD p 0) (gm m (r.getD p 0) 1)=0
    rw[jr (show r.getD p 0<aa m from bU hm a2 p),Aa]
  have nl:(gy m s.1 l p).length=s.1.length:=by unfold gy;rw[bu]
  have V3:∀i,i<s.1.length->∃r,s.1.getD i []=r/\r.length=w/\AllLt (aa m) r/\(gy m s.1 l p++[l]).getD i []=dZ (λx y=>aZ m x (gm m (r.getD p 0) y)) r l:=λi hi=>by
   refine⟨_,rfl,(h.a _ (dX hi [])).1,(h.a _ (dX hi [])).2,?_⟩
   rw[aI,yn (by omega),<- aI]
   exact Dt _ hi [] []
  have V4:(gy m s.1 l p++[l]).getD s.1.length []=l:=by
   rw[aI,ym (by omega),nl,BF];rfl
  have le:(gy m s.1 l p++[l]).length=s.1.length+1:=by rw[fB,nl];rfl
  refine⟨λi=>if i<s.1.length then H i else p,⟨λi j hi hj=>?_,λi hi t ht=>?_,λi j IG hj=>?_,λi hi=>?_⟩,λr hr t ht=>?_⟩
  ·show cf ((gy m s.1 l p++[l]).getD i []) _=_
   dsimp only at hi hj ⊢
   rw[le]at hi hj
   by_cases h1:i<s.1.length
   ·obtain⟨r,r1,r2,r3,r4⟩:=V3 i h1
    rw[r4]
    by_cases h2:j<s.1.length
    ·rw[if_pos h2,(Ah r2 r3).1 _ (I.l j h2),<- r1]
     exact I.u i j h1 h2
    ·rw[if_neg h2,(Ah r2 r3).2,if_neg (by omega)]
   ·have e1:i=s.1.length:=by omega
    rw[e1,V4]
    by_cases h2:j<s.1.length
    ·rw[if_pos h2,lz _ (I.l j h2),if_neg (by omega)]
    ·rw[if_neg h2,l4,if_pos (by omega)]
  ·dsimp only at hi ht ⊢
   rw[le]at hi
   by_cases h1:i<s.1.length
   ·rw[if_pos h1]at ht
    obtain⟨r,r1,r2,r3,r4⟩:=V3 i h1
    rw[r4,(Ah r2 r3).1 _ (by have:=I.l i h1;omega),<- r1]
    exact I.z i h1 t ht
   ·rw[if_neg h1]at ht
    have e1:i=s.1.length:=by omega
    rw[e1,V4];exact lz t ht
  ·dsimp only at hj ⊢
   rw[le]at hj
   rw[if_pos (by omega)]
   by_cases h2:j<s.1.length
   ·rw[if_pos h2];exact I.i i j IG h2
   ·rw[if_neg h2];exact I.l i (by omega)
  ·dsimp only at hi ⊢
   rw[le]at hi
   split
   ·have:=I.l i (by omega);omega
   ·omega
  ·obtain⟨r1,tL,rfl⟩:=bZ.mp hr
   obtain⟨a1,a2⟩:=h.b r1 (Ds tL)
   rcases qP t p with h1 | h1
   ·rw[(Ah a1 a2).1 t h1];exact e2 _ (Ds tL) t h1
   ·rw[show t=p by omega];exact(Ah a1 a2).2
theorem V5{m:Bool × Nat}(hm:m∈av){w:Nat}{G:List (List Nat)}(h:RT (aa m) w G):∀k,(∃H,RR k (i8 m G k).1 H/\∀r∈(i8 m G k).2,∀t,t<k->cf r t=0)/\∀f,eE m G f↔eE m ((i8 m G k).1++(i8 m G k).2) f
 | 0=>⟨⟨λ_=>0,⟨(λ_ _ h=>nomatch h),(λ_ h=>nomatch h),(λ_ _ _ h=>nomatch h),(λ_ h=>nomatch h)⟩,λr _ t ht=>nomatch ht⟩,λf=>.rfl⟩
 | k+1=>by
  obtain⟨⟨H,h1,h2⟩,h3⟩:=V5 hm h k
  have D:=Af hm h k
  rw[Ir]
  exact⟨bP2 hm D h1 h2,λf=>(h3 f).trans (bX2 hm D f)⟩
theorem IH{m:Bool × Nat}(hm:m∈av){G:List (List Nat)}(h:RT (aa m) (br G) G):(∃H,RR (br G) (cY m G) H)/\RT (aa m) (br G) (cY m G)/\(cY m G).length<=G.length/\∀f,eE m G f↔eE m (cY m G) f:=by
 obtain⟨⟨H,h1,h2⟩,h3⟩:=V5 hm h (br G)
 have D:=Af hm h (br G)
 refine⟨⟨H,h1⟩,D.a,by have:=D.l;show(i8 m G (br G)).1.length<=_;omega,λf=>(h3 f).trans ⟨Sp.trans ?_,Sp.trans ?_⟩⟩
 ·rintro f ⟨r,hr,rfl⟩
  rcases cw.mp hr with hr | hr
  ·exact eE.of hr
  ·have:cf r=λ_=>0:=funext λt=>by
    rcases qP t (br G)with h4 | h4
    ·exact h2 r hr t h4
    ·exact g5 (by rw[(D.b r hr).1];exact h4)
   rw[this];exact .zero
 ·rintro f ⟨r,hr,rfl⟩
  exact eE.of (gO _ hr)
theorem Du{N:Nat}{p q:Nat->Nat->Nat}(r:Rg N p q){f:Nat->Nat}{j0:Nat}(hf:f j0<N):∀{n:Nat},j0<n->(∀j,j<n->j≠j0->f j=0)->sm p n f=f j0
 | 0,h,_=>nomatch h
 | n+1,h,hz=>by
  rw[sm]
  by_cases e:j0=n
  ·subst e
   rw[gJ r λj hj=>hz j (by omega) (by omega),r.z hf]
  ·rw[Du r hf (by omega) λj hj=>hz j (by omega),hz n (by omega) (by omega),r.z' hf]
theorem eE.ann{m:Bool × Nat}(hm:m∈av){R:List (List Nat)}{n:Nat}{y:Nat->Nat}(h:∀x∈R,sm (gp m) n (λj=>gm m (cf x j) (y j))=0){f:Nat->Nat}(s:eE m R f):sm (gp m) n (λj=>gm m (f j) (y j))=0:=by
 have r:=rg hm
 have m0:=bB m hm
 induction s with
 | mem a=>obtain⟨x,hx,rfl⟩:=a;exact h x hx
 | zero=>exact gJ r λj _=>dN m _ m0
 | @add f g _ _ a b =>
  rw[dG (g:=λj=>gp m (gm m (f j) (y j)) (gm m (g j) (y j))) λj _=>by dsimp only;rw[r.mc (gp m _ _),r.dl,r.mc (y j),r.mc (y j)],qi r,a,b,r.z r.pos]
 | @mul f e he _ a =>
  rw[dG (g:=λj=>gm m e (gm m (f j) (y j))) λj _=>eR m0 _ _ _,kM r,a,r.qz]
theorem RR.Dv{m:Bool × Nat}(hm:m∈av){w:Nat}{R:List (List Nat)}{H:Nat->Nat}(hR:RT (aa m) w R)(I:RR w R H){i:Nat}(hi:i<R.length):(R.getD i []).findIdx (· != 0)=H i/\∃x∈R.getD i [],x≠0:=by
 have a:=(hR _ (dX hi [])).1
 have l:=I.l i hi
 have u:=I.u i i hi hi
 rw[if_pos rfl]at u
 have eu:(R.getD i [])[H i]'(by omega)=1:=by
  unfold cf at u
  rw[aI (l:=R.getD i []),aL (by omega)]at u
  exact u
 refine⟨?_,_,dP (show H i<(R.getD i []).length by omega),by rw[eu];decide⟩
 rw[List.findIdx_eq (by omega)]
 refine⟨by rw[eu];rfl,λj hj=>?_⟩
 have z:=I.z i hi j hj
 unfold cf at z
 rw[aI (l:=R.getD i []),aL (by omega)]at z
 simpa using z
theorem wg{a b:List Nat}{w:Nat}(ha:a.length=w)(hb:b.length=w)(h:∀k,k<w->cf a k=cf b k):a=b:=by
 refine List.ext_getElem (ha.trans hb.symm) λk h1 h2=>?_
 have:=h k (by omega)
 unfold cf at this
 rw[aI,aI,aL h1,aL h2]at this
 exact this
theorem wj(f:Nat->Nat){w k:Nat}(h:k<w):cf ((aO w).map f) k=f k:=by
 unfold cf
 rw[aI,bX,jD h];rfl
theorem V6(m:Bool × Nat){xs ys:List Nat}(h:xs.length=ys.length):gd m xs ys=sm (gp m) xs.length λj=>gm m (cf xs j) (cf ys j):=by
 unfold gd
 rw[VI,jY,h,uq]
 refine dG λj hj=>?_
 unfold cf
 rw[aI,mQ,aL (by omega),aL (by omega),aI,aL (by omega),aI,aL (by omega)]
 rfl
noncomputable def dO(r:List Nat):Nat:=r.findIdx (· != 0)
noncomputable def bO(G:List (List Nat))(u:List Nat):List (List Nat):=dZ (λr x=>r++[x]) G u
theorem Dw{N:Nat}{G:List (List Nat)}{u:List Nat}(h0:0<G.length)(hu:u.length=G.length)(hR:RT N (br G) G)(ha:AllLt N u):br (bO G u)=br G+1/\(bO G u).length=G.length/\RT N (br G+1) (bO G u):=by
 refine⟨?_,by unfold bO;rw[jY,hu,uq],λr hr=>?_⟩
 ·cases G with
  | nil=>simp at h0
  | cons g G =>
   cases u with
   | nil=>simp at hu
   | cons y u=>show(g++[y]).length=g.length+1;simp
 ·unfold bO at hr
  obtain⟨i,hi,rfl⟩:=gP hr
  rw[jY]at hi
  rw[dh0]
  obtain⟨a,b⟩:=hR _ (dP (show i<G.length by omega))
  refine⟨by rw[fB,a];rfl,λx hx=>?_⟩
  rcases cw.mp hx with hx | hx
  ·exact b x hx
  ·rw[jB]at hx
   rw[hx];exact ha _ (dP _)
noncomputable def i9(R:List (List Nat))(w:Nat):List Nat:=((R.map dO).zip R).foldl (λx z=>x.set z.1 (z.2.getD w 0)) (aT w 0)
noncomputable def qj(m:Bool × Nat)(G:List (List Nat))(u:List Nat):Option (List Nat):=if((cY m (bO G u)).map dO).contains (br G)then none else some (i9 (cY m (bO G u)) (br G))
theorem II{α:Type}(a b:α->Nat){j:Nat}:∀(l:List α) (x:List Nat),(∀z∈l,a z≠j)->cf (l.foldl (λx z=>x.set (a z) (b z)) x) j=cf x j
 | [],_,_=>rfl
 | z::l,x,h=>by
  rw[qK,II a b l _ λy hy=>h y (eI _ hy)]
  unfold cf
  rw[aI,yj (h z hV),<- aI]
theorem V7{α:Type}(a b:α->Nat):∀(l:List α) (x:List Nat),l.Pairwise (λy z=>a y≠a z)->∀z∈l,a z<x.length->cf (l.foldl (λx z=>x.set (a z) (b z)) x) (a z)=b z
 | [],_,_,_,h,_=>nomatch h
 | y::l,x,hp,z,hz,hl=>by
  rw[qK]
  rw[List.pairwise_cons]at hp
  rcases bY.mp hz with rfl | hz
  ·rw[II a b l _ λy hy=>fg (hp.1 y hy)]
   unfold cf
   rw[aI,QU hl];rfl
  ·exact V7 a b l _ hp.2 z hz (by rw[mE];exact hl)
theorem V8{α:Type}(a b:α->Nat):∀(l:List α) (x:List Nat),(l.foldl (λx z=>x.set (a z) (b z)) x).length=x.length
 | [],_=>rfl
 | z::l,x=>by rw[qK,V8 a b l,mE]
theorem V9{m:Bool × Nat}(hm:m∈av){w:Nat}{R:List (List Nat)}{H:Nat->Nat}(hR:RT (aa m) (w+1) R)(I:RR (w+1) R H)(hw:∀i,i<R.length->H i≠w):(i9 R w).length=w/\AllLt (aa m) (i9 R w)/\(∀i,i<R.length->cf (i9 R w) (H i)=cf (R.getD i []) w)/\∀j,(∀i,i<R.length->H i≠j)->cf (i9 R w) j=0:=by
 have l1:=lo1 hm
 have zl:((R.map dO).zip R).length=R.length:=by rw[BE,bu,uq]
 have zg:∀i (h:i<R.length),((R.map dO).zip R)[i]'(by omega)=(H i,R.getD i []):=λi h=>by
  rw[List.getElem_zip,List.getElem_map]
  have e:R.getD i []=R[i]:=by rw[aI,aL h];rfl
  have:=(I.Dv hm hR h).1
  rw[e]at this ⊢
  exact Fw this rfl
 have zm:∀z∈(R.map dO).zip R,∃i,i<R.length/\z=(H i,R.getD i []):=λz hz=>by
  obtain⟨i,hi,rfl⟩:=gP hz
  exact⟨i,by omega,zg i (by omega)⟩
 have mz:∀i,i<R.length->(H i,R.getD i [])∈(R.map dO).zip R:=λi h=>by
  rw[<-zg i h];exact dP _
 have len:(i9 R w).length=w:=by
  unfold i9
  rw[V8 (λz:Nat × List Nat=>z.1) (λz=>z.2.getD w 0),hW]
 have bd:∀z∈(R.map dO).zip R,z.2.getD w 0<aa m:=λz hz=>by
  obtain⟨i,hi,rfl⟩:=zm z hz
  exact bU hm (hR _ (dX hi [])).2 w
 refine⟨len,?_,λi hi=>?_,λj hj=>?_⟩
 ·have key:∀(l:List (Nat × List Nat)) (x:List Nat),(∀z∈l,z.2.getD w 0<aa m)->AllLt (aa m) x->AllLt (aa m) (l.foldl (λx z=>x.set z.1 (z.2.getD w 0)) x):=by
   intro l
   induction l with
   | nil=>exact λx _ h=>h
   | cons z l ih =>
    intro x hz h
    rw[qK]
    refine ih _ (λy hy=>hz y (eI _ hy)) λy hy=>?_
    rcases yy hy with h1 | h1
    ·exact h y h1
    ·rw[h1];exact hz z hV
  exact key _ _ bd λx hx=>by rw[(yr.mp hx).2];omega
 ·have hp:((R.map dO).zip R).Pairwise (λy z:Nat × List Nat=>y.1≠z.1):=by
   rw[List.pairwise_iff_getElem]
   intro i j hi hj IG
   rw[zg i (by omega),zg j (by omega)]
   have:=I.i i j IG (by omega)
   show H i≠H j
   omega
  have h1:=I.l i hi
  have h2:=hw i hi
  exact V7 (λz:Nat × List Nat=>z.1) (λz=>z.2.getD w 0) _ _ hp _ (mz i hi) (by rw[hW];show H i<w;omega)
 ·unfold i9
  rw[II (λz:Nat × List Nat=>z.1) (λz=>z.2.getD w 0) _ _ λz hz=>?_]
  ·unfold cf
   rw[aI,uh]
   split<;>rfl
  ·obtain⟨i,hi,rfl⟩:=zm z hz
   exact hj i hi
theorem Wa{G:List (List Nat)}{u:List Nat}{w a:Nat}(ha:a<G.length)(hu:u.length=G.length)(hw:(G.getD a []).length=w):(∀j,j<w->cf ((bO G u).getD a []) j=cf (G.getD a []) j)/\cf ((bO G u).getD a []) w=cf u a:=by
 have e:(bO G u).getD a []=G.getD a []++[u.getD a 0]:=by
  unfold bO
  rw[aI,mQ,aI,aI,aL ha,aL (by omega)];rfl
 rw[e]
 generalize G.getD a []=g at hw
 refine⟨λj hj=>?_,?_⟩
 ·unfold cf
  rw[aI,yn (by omega),<- aI]
 ·unfold cf
  rw[aI,ym (by omega),hw,BF];rfl
theorem Wb{m:Bool × Nat}(hm:m∈av):∃e,e<aa m/\gp m 1 e=0/\e≠0/\∀{a b},a<aa m->b<aa m->(gp m a (gm m b e)=0↔a=b):=by
 have r:=rg hm
 obtain⟨e,he,h⟩:=r.ng (lo1 hm)
 refine⟨e,he,h,λz=>?_,λ{a b} ha hb=>?_⟩
 ·rw[z,r.z' (lo1 hm)]at h;omega
 ·have k:gp m b (gm m b e)=0:=by
   have:=r.dl b 1 e
   rw[h,r.qz,jr hb]at this
   exact this.symm
  exact⟨λh1=>r.De ha hb (cj hm b e) (h1.trans k.symm),λh1=>h1 ▸ k⟩
theorem cO3{m:Bool × Nat}(hm:m∈av){G:List (List Nat)}{u:List Nat}(h0:0<G.length)(hu:u.length=G.length)(hR:RT (aa m) (br G) G)(ha:AllLt (aa m) u){x:Nat->Nat}(hx:∀j,x j<aa m)(h:∀a,a<G.length->sm (gp m) (br G) (λj=>gm m (cf (G.getD a []) j) (x j))=cf u a):∃X,qj m G u=some X/\X.length=br G/\AllLt (aa m) X/\∀a,a<G.length->sm (gp m) (br G) (λj=>gm m (cf (G.getD a []) j) (cf X j))=cf u a:=by
 obtain⟨w1,w2,w3⟩:=Dw h0 hu hR ha
 have w4:=w3
 rw[<-w1]at w4
 obtain⟨⟨H,I⟩,iR,il,sp⟩:=IH hm w4
 rw[w1]at I iR
 have r:=rg hm
 obtain⟨e,e1,e2,e3,e4⟩:=Wb hm
 have dot:∀(y:Nat->Nat),(∀j,y j<aa m)->∀a,a<G.length->sm (gp m) (br G+1) (λj=>gm m (cf ((bO G u).getD a []) j) (if j<br G then y j else e))=gp m (sm (gp m) (br G) λj=>gm m (cf (G.getD a []) j) (y j)) (gm m (cf u a) e):=λy hy a h1=>by
  obtain⟨c1,c2⟩:=Wa h1 hu (hR _ (dX h1 [])).1
  rw[sm,if_neg (fw _),c2]
  refine congrArg (λz=>gp m z _) (dG λj hj=>?_)
  rw[c1 j hj,if_pos hj]
 have ann:∀x'∈bO G u,sm (gp m) (br G+1) (λj=>gm m (cf x' j) (if j<br G then x j else e))=0:=λx' dj=>by
  obtain⟨a,h1,rfl⟩:=gP dj
  have ea:(bO G u)[a]=(bO G u).getD a []:=by rw[aI,aL h1];rfl
  rw[ea,dot x hx a (by omega),h a (by omega)]
  exact(e4 (bU hm ha a) (bU hm ha a)).mpr rfl
 have hw:∀i,i<(cY m (bO G u)).length->H i≠br G:=λi hi z=>by
  have:=eE.ann hm ann ((sp _).mpr (eE.of (dX hi [])))
  rw[sm,gJ r λj hj=>?_,if_neg (fw _)]at this
  ·have u1:=I.u i i hi hi
   rw[z,if_pos rfl]at u1
   rw[u1,qa e1,r.z e1]at this
   exact e3 this
  ·rw[I.z i hi j (by omega),dN m _ (bB m hm)]
 obtain⟨X1,X2,X3,X4⟩:=V9 hm iR I hw
 refine⟨i9 (cY m (bO G u)) (br G),?_,X1,X2,λa h1=>?_⟩
 ·unfold qj
  rw[if_neg]
  intro c
  obtain⟨y,hy,hz⟩:=bZ.mp (uA.mp c)
  obtain⟨i,hi,rfl⟩:=gP hy
  refine hw i hi ?_
  rw[<-(I.Dv hm iR hi).1,<- hz,aI,aL hi];rfl
 ·have IJ:∀x'∈cY m (bO G u),sm (gp m) (br G+1) (λj=>gm m (cf x' j) (if j<br G then cf (i9 (cY m (bO G u)) (br G)) j else e))=0:=λx' dj=>by
   obtain⟨i,hi,rfl⟩:=gP dj
   have ei:(cY m (bO G u))[i]=(cY m (bO G u)).getD i []:=by rw[aI,aL hi];rfl
   have tM:=bU hm (iR _ (dX hi [])).2
   have hl:H i<br G:=by have:=I.l i hi;have:=hw i hi;omega
   rw[ei,sm,if_neg (fw _),Du r (f:=λj=>gm m (cf ((cY m (bO G u)).getD i []) j) (if j<br G then cf (i9 (cY m (bO G u)) (br G)) j else e)) (cj hm _ _) hl λj hj hn=>?_]
   ·rw[if_pos hl,X3 i hi,I.u i i hi hi,if_pos rfl,qa (tM _)]
    exact(e4 (tM _) (tM _)).mpr rfl
   ·rw[if_pos hj]
    by_cases c:∃i',i'<(cY m (bO G u)).length/\H i'=j
    ·obtain⟨i',h1,rfl⟩:=c
     rw[I.u i i' hi h1,if_neg (λz:i=i'=>hn (by rw[z])),dN m _ (bB m hm)]
    ·rw[X4 j λi' h1 h2=>c ⟨i',h1,h2⟩,r.qz]
  have:=eE.ann hm IJ ((sp _).mp (eE.of (dX (show a<(bO G u).length by omega) [])))
  rw[dot _ (bU hm X2) a h1]at this
  exact(e4 (kL r λj _=>cj hm _ _) (bU hm ha a)).mp this
end L3
namespace L3
open PySem L2 Mf
theorem IK{N n:Nat}{M:List (List Nat)}(h:RT N n M)(h0:M≠[]):br M=n:=by
 cases M with
 | nil=>exact absurd rfl h0
 | cons g M=>exact(h g hV).1
end L3
namespace L3
open PySem L2 PySem.Spec PyProof.Rows
section
variable{X:Cx}{F H:Hp}{e b:Expr}{pos pos' p p2 p3 apos cg:Pos}{ti te:aQ}{x y:Str}{i j:Nat}
end
section
variable{X:Cx}
end
section
variable{X:Cx}{es:List Expr}{tr:cG}{pos:Pos}
theorem cT0(h:PA X es (lA tr)):PE X (.List es pos) (lB (oY tr)) :=
 dz (R3 h) λσ H Q ⟨B,F,δ,ts,Qd,c,q,k⟩=>⟨B,F,δ,ts,_,c,q,λds aq vs F1 H1 q1 f1 h1 c1 s1=>⟨by rw[<-s1.length];exact q1.1,λp hp=>k _ aq _ F1 _ q1.2 f1 (h1.trans (ag.upd hp)) (c1.grow (ag.upd hp)) (.own cy (s1.mono (ag.refl _) (ag.upd hp)) .nil)⟩⟩
end
end L3
namespace L3
open PySem L2 Mf
end L3
namespace L3
open PySem L2 Mf
end L3
namespace L3
open PySem L2 Mf
theorem IL{r:List Nat}{k v:Nat}(hk:k<r.length)(j:Nat):cf (r.set k v) j=if j=k then v else cf r j:=by
 unfold cf
 rw[aI,List.getElem?_set,aI]
 by_cases h:k=j
 ·subst h
  rw[if_pos rfl,if_pos rfl,if_pos hk];rfl
 ·rw[if_neg h,if_neg (fg h)]
end L3
namespace L2
open PySem PySem.Spec PyProof.Rows
section
variable{X:Cx}
end
end L2
namespace L3
open PySem L2 PySem.Spec PyProof.Rows
section
variable{X:Cx}
end
end L3
namespace L2
open PySem PySem.Spec PyProof.Rows
section
variable{X:Cx}{a:Expr}{ta:TE}{p p2 pos g7:Pos}
end
end L2
namespace L3
open PySem L2 PySem.Spec PyProof.Rows
section
variable{X:Cx}{a:Expr}{t:aQ}{p p2 pos g7:Pos}
end
end L3
namespace L3
open PySem L2 PySem.Spec PyProof.Rows
section
variable{F H:Hp}
end
section
variable{X:Cx}{e:Expr}{t:aQ}{p2 pos:Pos}
end
end L3
namespace L3
open PySem L2 PySem.Spec PyProof.Rows
section
variable{F H:Hp}
end
section
variable{P:Program}{w:World}{K:PySem.W.Frag}{mg:Str->Option Value}{base:Heap}
end
section
variable{X:Cx}{CX:eZ}{n i:Nat}{f:Addr}{fd:FuncData}{ps:List Str}{sp:bh}{E:XK}{fn x:Str}{e:Expr}{te:aQ}{p p2 pos pos' g7:Pos}
end
end L3
namespace L2
section
variable{α:Type}{P:List α->Prop}
theorem cL6(h:P []):∀us:List α,us.length=0->P us:=by
 intro us hl;rcases us with _ | ⟨a,t⟩
 ·exact h
 ·cases hl
theorem g8(h:∀a,P [a]):∀us:List α,us.length=1->P us:=by
 intro us hl;rcases us with _ | ⟨a,t⟩
 ·cases hl
 ·exact cL6 (P:=λt=>P (a::t)) (h a) t (yF hl)
theorem gz(h:∀a b,P [a,b]):∀us:List α,us.length=2->P us:=by
 intro us hl;rcases us with _ | ⟨a,t⟩
 ·cases hl
 ·exact g8 (P:=λt=>P (a::t)) (h a) t (yF hl)
theorem fe(h:∀a b c,P [a,b,c]):∀us:List α,us.length=3->P us:=by
 intro us hl;rcases us with _ | ⟨a,t⟩
 ·cases hl
 ·exact gz (P:=λt=>P (a::t)) (h a) t (yF hl)
theorem mq(h:∀a b c d,P [a,b,c,d]):∀us:List α,us.length=4->P us:=by
 intro us hl;rcases us with _ | ⟨a,t⟩
 ·cases hl
 ·exact fe (P:=λt=>P (a::t)) (h a) t (yF hl)
theorem IM(h:∀a b c d e,P [a,b,c,d,e]):∀us:List α,us.length=5->P us:=by
 intro us hl;rcases us with _ | ⟨a,t⟩
 ·cases hl
 ·exact mq (P:=λt=>P (a::t)) (h a) t (yF hl)
theorem cT8(h:∀a b c d e f,P [a,b,c,d,e,f]):∀us:List α,us.length=6->P us:=by
 intro us hl;rcases us with _ | ⟨a,t⟩
 ·cases hl
 ·exact IM (P:=λt=>P (a::t)) (h a) t (yF hl)
end
end L2
namespace L3
open PySem L2 PySem.Spec PyProof.Rows
section
variable{B:Bs}{F H:Hp}{σ:L2.St}{δ:Dl}{ts:List (D × V)}
end
section
variable{X:Cx}{elt iter tg:Expr}{pos:Pos}{scope:Scope}{cl:List (Str × Addr)}{ti:iU}{te:aQ}{g:iu}
end
end L3
namespace L2
open PySem PySem.Spec PyProof.Rows
section
variable{X:Cx}
end
end L2
namespace L3
open PySem L2 PySem.Spec PyProof.Rows
section
variable{X:Cx}
end
end L3
namespace L3
open PySem L2 Mf
theorem Wc{m:Bool × Nat}(hm:m∈av){a b:Nat}(ha:a+1<aa m)(hb:b+1<aa m):eS m ((a:Int)-(b:Int))=1↔a=b:=by
 constructor
 ·intro h
  have h1:=(i6 hm ((a:Int)-b)).2.2.1
  have h2:=(i6 hm 0).2.2.1
  rw[qh hm,Rj]at h2
  rw[h,h2]at h1
  by_cases c:a<=b
  ·have e:((a:Int)-b)=-((b-a:Nat):Int):=by omega
   have d:=Int.dvd_of_emod_eq_zero h1.symm
   rw[e]at d
   have d2:=Int.dvd_neg.mp d
   obtain⟨k,hk⟩:=d2
   have hN:(0:Int)<(aa m:Int)-1:=by omega
   by_cases k0:k<=0
   ·have:((aa m:Int)-1)*k<=0:=Int.mul_nonpos_of_nonneg_of_nonpos (by omega) k0
    omega
   ·have:((aa m:Int)-1)*1<=((aa m:Int)-1)*k:=Int.mul_le_mul_of_nonneg_left (by omega) (by omega)
    omega
  ·have e:((a:Int)-b)%((aa m:Int)-1)=(a:Int)-b:=yC (by omega) (by omega)
   rw[e]at h1
   omega
 ·rintro rfl
  rw[Int.sub_self,qh hm]
theorem tN{m:Bool × Nat}(hm:m∈av){a b:Nat}(ha:a<aa m)(hb:b<aa m):gm m a b=0↔a=0\/b=0:=by
 constructor
 ·intro h
  by_cases a0:a=0
  ·exact .inl a0
  ·by_cases b0:b=0
   ·exact .inr b0
   ·exact absurd h (cV8 hm (by omega) ha (by omega) hb)
 ·rintro (rfl | rfl)
  ·exact dN m _ (bB m hm)
  ·exact gg m _ (bB m hm)
noncomputable def gK(m:Bool × Nat)(p:Nat):List Nat:=[1,aZ m 0 (eS m (p:Int))]
noncomputable def dH(m:Bool × Nat)(ps:List Nat):List Nat:=ps.foldl (λf p=>fI m f (gK m p)) [1]
theorem IQ{m:Bool × Nat}(hm:m∈av)(p:Nat):AllLt (aa m) (gK m p):=λa ha=>by
 have dh:=lo1 hm
 unfold gK at ha
 simp only[bY,ib,or_false]at ha
 rcases ha with rfl | rfl
 ·omega
 ·exact(eV hm (by omega) (i7 hm _)).2.1
theorem IS{m:Bool × Nat}(hm:m∈av):AllLt (aa m) [1]:=λa ha=>by
 have dh:=lo1 hm
 simp only[bY,ib,or_false]at ha
 omega
theorem Wd{m:Bool × Nat}(hm:m∈av){p q:Nat}(hp:p+1<aa m)(hq:q+1<aa m):aJ m (eS m (-(q:Int))) (gK m p)=0↔p=q:=by
 have dh:=lo1 hm
 have h0:=bB m hm
 have r:=rg hm
 obtain⟨_,g1,g2⟩:=eV hm (a:=0) (b:=eS m (p:Int)) (by omega) (i7 hm _)
 have hX:=i7 hm (-(q:Int))
 have e:aJ m (eS m (-(q:Int))) (gK m p)=gp m (gm m (aZ m 0 (eS m (p:Int))) (eS m (-(q:Int)))) 1:=by
  show gp m (gm m (gp m (gm m 0 _) _) _) 1=_
  rw[dN m _ h0,gw g1]
 have k:gp m (gm m (aZ m 0 (eS m (p:Int))) (eS m (-(q:Int)))) (gm m (eS m (p:Int)) (eS m (-(q:Int))))=0:=by
  rw[<-tE h0,g2,dN m _ h0]
 rw[e,<- Wc hm hp hq,Rt,<- kI hm]
 constructor
 ·intro z
  have:=z.trans k.symm
  rw[js m _ 1,js m (gm m (aZ m 0 _) _) _]at this
  exact(r.De (by omega) (cj hm _ _) (cj hm _ _) this).symm
 ·intro z
  rw[z]at k
  exact k
theorem We{m:Bool × Nat}(hm:m∈av):∀(ps f:List Nat),AllLt (aa m) f->AllLt (aa m) (ps.foldl (λf p=>fI m f (gK m p)) f)/\(ps.foldl (λf p=>fI m f (gK m p)) f).length<=f.length+2*ps.length
 | [],f,h=>⟨h,bJ _⟩
 | p::ps,f,h=>by
  have ih:=We hm ps (fI m f (gK m p)) (C6 hm _ _)
  refine⟨ih.1,eH ih.2 ?_⟩
  have:=cl5 m f (gK m p)
  rw[show(gK m p).length=2 from rfl]at this
  rw[eJ]
  omega
theorem Wf{m:Bool × Nat}(hm:m∈av){X:Nat}:∀(ps f:List Nat),AllLt (aa m) f->(aJ m X (ps.foldl (λf p=>fI m f (gK m p)) f)=0↔aJ m X f=0\/∃p∈ps,aJ m X (gK m p)=0)
 | [],f,h=>by simp
 | p::ps,f,h=>by
  rw[qK,Wf hm ps _ (C6 hm _ _),Ie hm X f _ h (IQ hm p),tN hm (jt hm X h) (jt hm X (IQ hm p))]
  simp only[bY,exists_eq_or_imp,or_assoc]
theorem wk{m:Bool × Nat}(hm:m∈av)(ps:List Nat):AllLt (aa m) (dH m ps)/\(dH m ps).length<=1+2*ps.length:=We hm ps [1] (IS hm)
theorem Dx(m:Bool × Nat)(ps:List Nat)(p:Nat):dH m (ps++[p])=fI m (dH m ps) (gK m p):=by unfold dH;rw[BG];rfl
theorem co4(m:Bool × Nat)(ps:List Nat):(dH m ps).length=0\/(dH m ps).getD ((dH m ps).length-1) 0≠0:=by
 rcases List.eq_nil_or_concat ps with rfl | ⟨l,p,rfl⟩
 ·right;show(1:Nat)≠0;omega
 ·rw[List.concat_eq_append,Dx]
  exact HZ _
theorem IT{m:Bool × Nat}(hm:m∈av){ps:List Nat}(hp:∀p∈ps,p+1<aa m){q:Nat}(hq:q+1<aa m):aJ m (eS m (-(q:Int))) (dH m ps)=0↔q∈ps:=by
 have dh:=lo1 hm
 unfold dH
 rw[Wf hm ps [1] (IS hm)]
 constructor
 ·rintro (h | ⟨p,h1,h2⟩)
  ·exfalso
   have:aJ m (eS m (-(q:Int))) [1]=1:=by
    show gp m (gm m 0 _) 1=1
    rw[dN m _ (bB m hm),gw (by omega)]
   omega
  ·rwa [<-(Wd hm (hp p h1) hq).mp h2]
 ·exact λh=>.inr ⟨q,h,(Wd hm hq hq).mpr rfl⟩
theorem Wg{m:Bool × Nat}(hm:m∈av)(x n:Nat):∀(l:List Nat),aJ m x (l++aT n 0)=aJ m x l
 | []=>by
  induction n with
  | zero=>rfl
  | succ n ih =>
   have dh:=lo1 hm
   rw[mF]at ih ⊢
   show gp m (gm m (aJ m x (aT n 0)) x) 0=0
   rw[ih]
   show gp m (gm m 0 x) 0=0
   rw[dN m _ (bB m hm),mm (by omega)]
 | a::l=>by
  show gp m (gm m (aJ m x (l++aT n 0)) x) a=_
  rw[Wg hm x n l];rfl
theorem IU{m:Bool × Nat}(hm:m∈av)(x:Nat->Nat)(hx:∀j,x j<aa m):∀(n:Nat) (c:Nat->Nat),(∀j,c j<aa m)->(∀i j,i<n->j<n->x i=x j->i=j)->(∀i,i<n->sm (gp m) n (λj=>gm m (c j) (px m (x j) i))=0)->∀j,j<n->c j=0
 | 0,_,_,_,_,j,hj=>absurd hj (by omega)
 | n+1,c,hc,hd,h,j,hj=>by
  have r:=rg hm
  have h0:=bB m hm
  have dh:=lo1 hm
  have dn:∀j,aZ m (x j) (x n)<aa m/\gp m (aZ m (x j) (x n)) (x n)=x j:=λj=>(eV hm (hx j) (hx n)).2
  have key:∀i,i<n->sm (gp m) n (λj=>gm m (gm m (c j) (aZ m (x j) (x n))) (px m (x j) i))=0:=λi hi=>by
   have h1:=h (i+1) (by omega)
   have hz:=h i (by omega)
   have e:∀j,gm m (c j) (px m (x j) (i+1))=gp m (gm m (gm m (c j) (aZ m (x j) (x n))) (px m (x j) i)) (gm m (x n) (gm m (c j) (px m (x j) i))):=λj=>by
    show gm m (c j) (gm m (px m (x j) i) (x j))=_
    have e1:gm m (px m (x j) i) (x j)=gm m (px m (x j) i) (gp m (aZ m (x j) (x n)) (x n)):=by rw[(dn j).2]
    rw[e1,tF h0,tF h0]
    congr 1
    ·rw[eR h0,e8 m (px m (x j) i)]
    ·rw[e8 m (px m (x j) i),<- eR h0,e8 m (c j),eR h0]
   rw[dG λj _=>e j,qi r,kM r,hz,r.qz]at h1
   have ln:sm (gp m) n (λj=>gm m (gm m (c j) (aZ m (x j) (x n))) (px m (x j) i))<aa m:=kL r λ_ _=>cj hm _ _
   rw[sm,Aa,gg m _ h0,dN m _ h0,mm ln,mm ln]at h1
   exact h1
  have ih:=IU hm x hx n (λj=>gm m (c j) (aZ m (x j) (x n))) (λ_=>cj hm _ _) (λi j hi hj=>hd i j (by omega) (by omega)) key
  have cz:∀j,j<n->c j=0:=λj hj=>by
   rcases(tN hm (hc j) (dn j).1).mp (ih j hj)with z | z
   ·exact z
   ·have:=(dn j).2
    rw[z,gw (hx n)]at this
    exact absurd (hd n j (by omega) (by omega) this) (by omega)
  by_cases c0:j<n
  ·exact cz j c0
  ·have ej:j=n:=by omega
   subst ej
   have:=h 0 (by omega)
   rw[sm,gJ r λi hi=>by rw[cz i hi,dN m _ h0]]at this
   rw[show px m (x j) 0=1 from rfl,jr (hc j),gw (hc j)]at this
   exact this
theorem cn1{m:Bool × Nat}(hm:m∈av){G:List (List Nat)}{u X:List Nat}(h0:0<G.length)(hu:u.length=G.length)(hR:RT (aa m) (br G) G)(ha:AllLt (aa m) u)(hs:qj m G u=some X):X.length=br G/\AllLt (aa m) X/\∀a,a<G.length->sm (gp m) (br G) (λj=>gm m (cf (G.getD a []) j) (cf X j))=cf u a:=by
 obtain⟨w1,w2,w3⟩:=Dw h0 hu hR ha
 have w4:=w3
 rw[<-w1]at w4
 obtain⟨⟨H,I⟩,iR,il,sp⟩:=IH hm w4
 rw[w1]at I iR
 have r:=rg hm
 obtain⟨e,e1,e2,e3,e4⟩:=Wb hm
 unfold qj at hs
 have hc:((cY m (bO G u)).map dO).contains (br G)=false:=by
  cases c:((cY m (bO G u)).map dO).contains (br G)with
  | false=>rfl
  | true=>rw[c]at hs;simp at hs
 rw[hc,if_neg (by decide)]at hs
 have eX:=cN hs
 subst eX
 have hw:∀i,i<(cY m (bO G u)).length->H i≠br G:=λi hi z=>by
  have:((cY m (bO G u)).map dO).contains (br G)=true:=uA.mpr (bZ.mpr ⟨_,dX hi [],(I.Dv hm iR hi).1.trans z⟩)
  rw[hc]at this;cases this
 obtain⟨X1,X2,X3,X4⟩:=V9 hm iR I hw
 refine⟨X1,X2,λa h1=>?_⟩
 have IJ:∀x'∈cY m (bO G u),sm (gp m) (br G+1) (λj=>gm m (cf x' j) (if j<br G then cf (i9 (cY m (bO G u)) (br G)) j else e))=0:=λx' dj=>by
  obtain⟨i,hi,rfl⟩:=gP dj
  have ei:(cY m (bO G u))[i]=(cY m (bO G u)).getD i []:=by rw[aI,aL hi];rfl
  have tM:=bU hm (iR _ (dX hi [])).2
  have hl:H i<br G:=by have:=I.l i hi;have:=hw i hi;omega
  rw[ei,sm,if_neg (fw _),Du r (f:=λj=>gm m (cf ((cY m (bO G u)).getD i []) j) (if j<br G then cf (i9 (cY m (bO G u)) (br G)) j else e)) (cj hm _ _) hl λj hj hn=>?_]
  ·rw[if_pos hl,X3 i hi,I.u i i hi hi,if_pos rfl,qa (tM _)]
   exact(e4 (tM _) (tM _)).mpr rfl
  ·rw[if_pos hj]
   by_cases c:∃i',i'<(cY m (bO G u)).length/\H i'=j
   ·obtain⟨i',h1,rfl⟩:=c
    rw[I.u i i' hi h1,if_neg (λz:i=i'=>hn (by rw[z])),dN m _ (bB m hm)]
   ·rw[X4 j λi' h1 h2=>c ⟨i',h1,h2⟩,r.qz]
 have:=eE.ann hm IJ ((sp _).mp (eE.of (dX (show a<(bO G u).length by omega) [])))
 obtain⟨c1,c2⟩:=Wa h1 hu (hR _ (dX h1 [])).1
 rw[sm,if_neg (fw _),c2,dG (g:=λj=>gm m (cf (G.getD a []) j) (cf (i9 (cY m (bO G u)) (br G)) j)) λj hj=>by rw[c1 j hj,if_pos hj]]at this
 exact(e4 (kL r λj _=>cj hm _ _) (bU hm ha a)).mp this
theorem ce0(l:List Nat):ak l=aC (l.map λ(n:Nat)=>(n:Int)):=by rw[cI];unfold aC;rw[da];rfl
theorem cA4{xs ys:List Nat}{i:Nat}{d:D}(h:(dJ (ak xs) (ak ys))[i]?=some d):∃(hi:i<xs.length) (hj:i<ys.length),d=.tup [.int (xs[i]:Nat),.int (ys[i]:Nat)]:=by
 unfold dJ at h
 rw[cI,cI,BA]at h
 have hl:=(iB.mp h).1
 rw[jY]at hl
 have hi:i<xs.length:=by omega
 have hj:i<ys.length:=by omega
 rw[mQ,aL hi,aL hj]at h
 exact⟨hi,hj,(cN h).symm⟩
theorem cl7(xs ys:List Nat):(dJ (ak xs) (ak ys)).length=min xs.length ys.length:=by unfold dJ;rw[jY,dF,dF]
noncomputable def g9(m:Bool × Nat)(b:Nat)(ps:List Nat)(n:Nat):List (List Nat):=(aO n).map λ(i:Nat)=>ps.map λ(p:Nat)=>eS m (((b:Int)+(i:Int))*(p:Int))
theorem IV{m:Bool × Nat}(hm:m∈av)(b:Nat)(ps:List Nat)(n:Nat):RT (aa m) ps.length (g9 m b ps n)/\(g9 m b ps n).length=n:=by
 refine⟨λr hr=>?_,by unfold g9;rw[bu,cZ]⟩
 obtain⟨i,_,rfl⟩:=bZ.mp hr
 refine⟨by rw[bu],λx hx=>?_⟩
 obtain⟨p,_,rfl⟩:=bZ.mp hx
 exact i7 hm _
noncomputable def iz(m:Bool × Nat)(b:Nat)(ps us:List Nat):Option (List Nat):=if ps=[]then(if us.all (·==0)then some []else none)else qj m (g9 m b ps us.length) us
noncomputable def gA(m:Bool × Nat)(b:Nat)(ps xs:List Nat)(n:Nat):List Nat:=(aO n).map λ(i:Nat)=>gd m xs (ps.map λ(p:Nat)=>eS m (((b:Int)+(i:Int))*(p:Int)))
theorem Ai(m:Bool × Nat)(b:Nat)(ps xs:List Nat)(n:Nat):(gA m b ps xs n).length=n:=by unfold gA;rw[bu,cZ]
theorem cQ7{m:Bool × Nat}(hm:m∈av)(b:Nat)(ps xs:List Nat)(n:Nat):AllLt (aa m) (gA m b ps xs n):=λx hx=>by
 obtain⟨i,_,rfl⟩:=bZ.mp hx
 exact Ij hm _ _
theorem Dy{m:Bool × Nat}{b:Nat}{ps:List Nat}{n a:Nat}(ha:a<n):(g9 m b ps n).getD a []=ps.map λ(p:Nat)=>eS m (((b:Int)+(a:Int))*(p:Int)):=by
 unfold g9
 rw[aI,bX,jD ha];rfl
theorem tO{m:Bool × Nat}{b:Nat}{ps xs:List Nat}{n a:Nat}(hl:xs.length=ps.length)(ha:a<n):cf (gA m b ps xs n) a=sm (gp m) ps.length λj=>gm m (cf ((g9 m b ps n).getD a []) j) (cf xs j):=by
 unfold gA
 rw[wj _ ha,V6 m (by rw[bu,hl]),hl,Dy ha]
 exact dG λj _=>e8 m _ _
theorem IW{m:Bool × Nat}(hm:m∈av){b:Nat}{ps us X:List Nat}(h0:ps≠[]->0<us.length)(hu:AllLt (aa m) us)(h:iz m b ps us=some X):X.length=ps.length/\AllLt (aa m) X/\gA m b ps X us.length=us:=by
 unfold iz at h
 by_cases p0:ps=[]
 ·subst p0
  rw[if_pos rfl]at h
  split at h
  ·rename_i hz
   cases h
   refine⟨rfl,λx hx=>absurd hx (by simp),wg (Ai ..) rfl λk hk=>?_⟩
   rw[tO rfl hk]
   have:=cU.mp hz (us.getD k 0) (dX hk 0)
   show 0=us.getD k 0
   exact(beq_iff_eq.mp this).symm
  ·cases h
 ·rw[if_neg p0]at h
  obtain⟨r1,r2⟩:=IV hm b ps us.length
  have u0:=h0 p0
  have eW:br (g9 m b ps us.length)=ps.length:=IK r1 λz=>by rw[z]at r2;simp at r2;omega
  rw[<-eW]at r1
  obtain⟨x1,x2,x3⟩:=cn1 hm (by omega) r2.symm r1 hu h
  rw[eW]at x1 x3
  refine⟨x1,x2,wg (Ai ..) rfl λk hk=>?_⟩
  rw[tO x1 hk]
  exact x3 k (by omega)
theorem cg8{m:Bool × Nat}(hm:m∈av){b n:Nat}{ps xs:List Nat}(h0:ps≠[]->0<n)(hx:AllLt (aa m) xs)(hl:xs.length=ps.length):iz m b ps (gA m b ps xs n)≠none:=λh=>by
 unfold iz at h
 by_cases p0:ps=[]
 ·subst p0
  rw[if_pos rfl,if_pos]at h
  ·cases h
  ·refine cU.mpr λx dj=>?_
   obtain⟨i,_,rfl⟩:=bZ.mp dj
   cases xs with
   | nil=>rfl
   | cons a l=>cases hl
 ·rw[if_neg p0,Ai]at h
  obtain⟨r1,r2⟩:=IV hm b ps n
  have u0:=h0 p0
  have eW:br (g9 m b ps n)=ps.length:=IK r1 λz=>by rw[z]at r2;simp at r2;omega
  rw[<-eW]at r1
  obtain⟨X,x1,_⟩:=cO3 hm (G:=g9 m b ps n) (u:=gA m b ps xs n) (by omega) (by rw[Ai,r2]) r1 (cQ7 hm _ _ _ _) (x:=cf xs) (bU hm hx) λa ha=>by
   rw[eW,tO hl (by omega)]
  rw[x1]at h;cases h
theorem Wh{m:Bool × Nat}(hm:m∈av){a b:Nat}(ha:a+1<aa m)(hb:b+1<aa m)(h:eS m (a:Int)=eS m (b:Int)):a=b:=by
 have h1:=(i6 hm (a:Int)).2.2.1
 have h2:=(i6 hm (b:Int)).2.2.1
 rw[h,h2,yC (by omega) (by omega),yC (by omega) (by omega)]at h1
 omega
theorem cF5{m:Bool × Nat}(hm:m∈av){b n:Nat}{ps xs ys:List Nat}(hp:∀p∈ps,p+1<aa m)(nd:ps.Nodup)(hn:ps.length<=n)(hx:AllLt (aa m) xs)(hy:AllLt (aa m) ys)(lx:xs.length=ps.length)(ly:ys.length=ps.length)(h:gA m b ps xs n=gA m b ps ys n):xs=ys:=by
 have r:=rg hm
 have h0:=bB m hm
 have dh:=lo1 hm
 refine wg lx ly λj hj=>?_
 have dn:∀j,aZ m (cf xs j) (cf ys j)<aa m/\gp m (aZ m (cf xs j) (cf ys j)) (cf ys j)=cf xs j:=λj=>(eV hm (bU hm hx j) (bU hm hy j)).2
 have z:=IU hm (λj=>eS m ((ps.getD j 0:Nat):Int)) (λj=>i7 hm _) ps.length (λj=>gm m (aZ m (cf xs j) (cf ys j)) (eS m ((b:Int)*((ps.getD j 0:Nat):Int)))) (λ_=>cj hm _ _) (λi j hi hj e=>?_) (λi hi=>?_) j hj
 ·have e1:1<=eS m ((b:Int)*((ps.getD j 0:Nat):Int)):=(i6 hm _).1
  rcases(tN hm (dn j).1 (i7 hm _)).mp z with z | z
  ·have:=(dn j).2
   rw[z,gw (bU hm hy j)]at this
   exact this.symm
  ·omega
 ·have a1:=hp _ (dX hi 0)
  have a2:=hp _ (dX hj 0)
  have e':=Wh hm a1 a2 e
  rw[aI,aL hi,aI,aL hj]at e'
  exact(QT nd).mp e'
 ·have fi:i<n:=by omega
  have e:cf (gA m b ps xs n) i=cf (gA m b ps ys n) i:=by rw[h]
  rw[tO lx fi,tO ly fi,Dy fi]at e
  have es:∀j,j<ps.length->gm m (cf (ps.map λ(p:Nat)=>eS m (((b:Int)+(i:Int))*(p:Int))) j) (cf xs j)=gp m (gm m (gm m (aZ m (cf xs j) (cf ys j)) (eS m ((b:Int)*((ps.getD j 0:Nat):Int)))) (px m (eS m ((ps.getD j 0:Nat):Int)) i)) (gm m (cf (ps.map λ(p:Nat)=>eS m (((b:Int)+(i:Int))*(p:Int))) j) (cf ys j)):=λj hj=>by
   have ec:cf (ps.map λ(p:Nat)=>eS m (((b:Int)+(i:Int))*(p:Int))) j=eS m (((b:Int)+(i:Int))*((ps.getD j 0:Nat):Int)):=by
    unfold cf
    rw[Dt (λ(p:Nat)=>eS m (((b:Int)+(i:Int))*(p:Int))) hj 0 0]
   rw[ec,tJ hm,eR h0,kI hm,show(b:Int)*((ps.getD j 0:Nat):Int)+((ps.getD j 0:Nat):Int)*(i:Int)=((b:Int)+(i:Int))*((ps.getD j 0:Nat):Int) by rw[Fy,Ru (i:Int)],e8 m (aZ m _ _),<- tF h0,(dn j).2]
  rw[dG es,qi r]at e
  exact r.cn (kL r λ_ _=>cj hm _ _) (kL r λ_ _=>cj hm _ _) e
end L3
namespace L3
open PySem L2 PySem.Spec PyProof.Rows
section
variable{B:Bs}{F H:Hp}{σ:L2.St}{δ:Dl}{ts:List (D × V)}
end
section
variable{X:Cx}{a:Expr}{ta:aQ}{pos p2:Pos}{tk:Nat}
end
end L3
namespace L3
open PySem L2 PySem.Spec PyProof.Rows
section
variable{X:Cx}{a b:Expr}{ta tb:aQ}{elts:List Expr}{x1:Nat}{qZ p pos:Pos}
end
end L3
namespace L2
open PySem PySem.Spec PyProof.Rows
section
variable{X:Cx}
end
end L2
namespace L3
open PySem L2 PySem.Spec PyProof.Rows
section
variable{X:Cx}{o e:Expr}{t tb:aQ}{apos cg:Pos}
end
section
variable{X:Cx}{i:Nat}{x:Str}{p pos apos cg dN8 g7:Pos}{a b:List Stmt}{t u:cQ}{k:Int}{j}
end
end L3
namespace L3
open PySem L2 Mf
section
variable{N:Nat}{p q:Nat->Nat->Nat}
variable{ng:Nat->Nat}{c:Nat}
end
section
variable{m:Bool × Nat}
theorem wm(hm:m∈av)(x:Nat):∀{l:List Nat},AllLt (aa m) l->∀n,l.length<=n->aJ m x l=sm (gp m) n λk=>gm m (cf l k) (px m x k)
 | [],_,n,_=>(gJ (rg hm) λj _=>by rw[show cf [] j=0 from rfl,dN m _ (bB m hm)]).symm
 | a::l,h,0,hn=>by simp at hn
 | a::l,h,n+1,hn=>by
  have hl:AllLt (aa m) l:=λb hb=>h b (by simp[hb])
  rw[Df (rg hm) n λ_ _=>cj hm _ _]
  show gp m (gm m (aJ m x l) x) a=gp m (gm m a 1) (sm (gp m) n λj=>gm m (cf l j) (gm m (px m x j) x))
  rw[jr (h a (by simp)),js,wm hm x hl n (by simpa using hn),e8 m _ x,<- kM (rg hm)]
  congr 1
  exact dG λj _=>by rw[e8 m x,eR (bB m hm)]
end
end L3
namespace L2
open PySem PySem.Spec PyProof.Rows
theorem cj2:typeLookup (.type "list_reverseiterator") "__len__"=pure none:=by rw[typeLookup_type,builtinLookup_eq_fast];kernel_rfl
theorem cl0:typeLookup (.type "list_reverseiterator") "__length_hint__"=pure (some (.builtin "list_reverseiterator.__length_hint__")):=by rw[typeLookup_type,builtinLookup_eq_fast];kernel_rfl
section
variable{prog:Program}{w:World}{A:Around}{E:Value->Shared->Prop}{s:Shared}
theorem cG7{r:Addr}{Q:Bool->Shared->Prop}(hT:s.TypeIs (.ref r) "list_reverseiterator")(q:Q false s):wpAny (model prog w) A (di0 (.ref r)) Q E s:=by
 unfold di0
 refine wpAny_bind (wpAny_specialOf hT cj2 ?_)
 show wpAny _ _ (specialOf (ff r) (Str.ofString "__length_hint__") >>= _) _ _ _
 refine wpAny_bind (wpAny_specialOf hT cl0 ?_)
 generalize Wi:("list_reverseiterator.__length_hint__":String)=id0
 wp_delta
 rw[show splitId id0=some ("list_reverseiterator","__length_hint__") from by subst Wi;decide +kernel]
 subst Wi
 refine wpAny_bind (wpAny_isInstance (T:="list_reverseiterator") (b:=true) hT (by rw[isSubtype_type];kernel_rfl) ?_)
 exact wpAny_pure q
theorem cg6{R:Result->Shared->Prop}{I l S:Addr}{its:Array Value}(hh:A.handled=none)(hI:s.heap.IsRevIter I l ((its.size:Int)-1))(hl:s.heap.IsList l its)(nl:l≠I)(nS:S≠I)(nSl:S≠l)(res:Value)(c₀:Nat)(hS:s.heap.get? S=some { cls:=.type "list",data:=.seq #[] c₀ })(hn:its.size<=sizeLine)
  (hR:∀h' tk jx c',jx.toList=its.toList.reverse->(∀b o,b≠S->b≠I->s.heap.get? b=some o->h'.get? b=some o)->h'.get? S=some { cls:=.type "list",dict:=none,data:=.seq jx c',slots:=#[] }->R (.ok (.ret res)) { s with heap:=h',toks:=tk }) :
  wpAny (model prog w) A.in1 (Fz (.ref S) (.ref I) res)
   (λfin s'=>match fin with | .done f=>R (.ok f) s' | .again c'=>c'.quiet=true/\codeAny (model prog w) A c' R s') (λe s'=>R (.error e) s') s:=by
 have W:=Walks.listRev (prog:=prog) (w:=w) (A:=A.in1) hh I l nl its
 have st:(0<=its.size/\s.heap.IsRevIter I l ((its.size:Int)-1-((0:Nat):Int))/\s.heap.IsList l its):=⟨jz _,by simpa using hI,hl⟩
 have hT:s.TypeIs (.ref I) "list_reverseiterator":=let⟨o,g,c,_⟩:=hI;⟨o,g,c⟩
 have nf:S ∉ [I,l]:=by simp[nS,nSl]
 have key:∀c₁,s.heap.get? S=some { cls:=.type "list",data:=.seq #[] c₁ }->codeAny (model prog w) A (.builtin "list.extend.loop" ⟨[.ref S,.ref I,res],[]⟩) R s:=λc₁ d31=>by
  refine codeAny_extend_loopS W.toS hn S nf res _ 0 _ #[] c₁ rfl (jz _) st d31 (ItemsOf.nil _) λs' jx c' hm hS' rV=>?_
  rw[Moved.eq_with hm]
  refine hR s'.heap s'.toks jx c' ?_ (λb o b1 b2 e=>hm.heap b o (by simp[b1,b2]) e) hS'
  refine yv λi=>?_
  rw[QX]
  by_cases hi:i<its.size
  ·have h2:i<jx.size:=by rw[rV.1];exact hi
   have:=rV.2 i _ (di1 h2)
   rw[di1 h2,BD (by simpa using hi),ue,QX]
   exact this.symm
  ·rw[gj (by simp;omega)]
   exact Array.getElem?_eq_none (by rw[rV.1];omega)
 unfold Fz
 refine wpAny_bind (wpAny_typeOf (T:="list_reverseiterator") hT ?_)
 have h1:di2 (.ref S) (.ref I)=false:=by simp[di2,nS]
 simp only[h1,show(ud "list_reverseiterator"==ud "list")=false by decide,show(ud "list_reverseiterator"==ud "tuple")=false by decide,qH,uB,if_false]
 refine wpAny_bind (wpAny_pyIter_revIter hI ?_)
 refine wpAny_bind (wpAny_holding (cG7 hT ?_))
 refine wpAny_ite_split (λc=>absurd c (by decide)) (λ_=>wpAny_pure ⟨plainId_quiet PySem.F.plain_extend_loop _,key _ hS⟩)
theorem cB7{I l:Addr}{its:Array Value}{Q:Value->Shared->Prop}(hh:A.handled=none)(hI:s.heap.IsRevIter I l ((its.size:Int)-1))(hl:s.heap.IsList l its)(nl:l≠I)(hn:its.size<=sizeLine)
  (q:∀h' tk jx c',jx.toList=its.toList.reverse->(∀b o,b≠I->s.heap.get? b=some o->h'.get? b=some o)->h'.get? s.heap.objs.size=some { cls:=.type "list",dict:=none,data:=.seq jx c',slots:=#[] }->Q (.ref s.heap.objs.size) { s with heap:=h',toks:=tk }) :
  wpAny (model prog w) A (call (.type "list") [.ref I]) Q E s:=by
 have lI:I<s.heap.objs.size:=let⟨_,g,_⟩:=hI;bI g
 have ll:l<s.heap.objs.size:=let⟨_,g,_⟩:=hl;bI g
 refine callType_codes (Q₁:=λu s1=>u=.ref s.heap.objs.size/\s1={ s with heap:=s.heap.push { cls:=.type "list",data:=.seq #[] } }) F.called_list (F.typeCall_list_1 _) F.entry_list_init
  (code_list_new _ ⟨rfl,rfl⟩) λu s1 e1=>?_
 obtain⟨rfl,rfl⟩:=e1
 have g0:(s.heap.push { cls:=.type "list",data:=.seq #[] }).get? s.heap.objs.size=some { cls:=.type "list",data:=.seq #[] }:=fO _ rfl
 refine⟨⟨_,g0,rfl⟩,F.args_list_init_2 _ _,?_⟩
 show wpAny _ A.in1.in1 (do let old<-Builtin.List.listItems (.ref s.heap.objs.size);Builtin.List.listUpdate (.ref s.heap.objs.size) (λ_=>#[]);letGo old.toList.reverse;Fz (.ref s.heap.objs.size) (.ref I) .none) _ _ _
 refine wpAny_bind ?_
 unfold Builtin.List.listItems
 refine wpAny_bind (wpAny_seqItems g0 rfl (wpAny_pure ?_))
 show wpAny _ A.in1.in1 (updateSeq s.heap.objs.size (λ_=>#[]) >>= λ_=>letGo (#[]:Array Value).toList.reverse >>= λ_=>Fz (.ref s.heap.objs.size) (.ref I) .none) _ _ _
 refine wpAny_bind (wpAny_updateSeq g0 rfl ?_)
 have g1:=Bl (uj (λ_=>(#[]:Array Value))) g0 rfl
 have ot:∀b o,s.heap.get? b=some o->((s.heap.push { cls:=.type "list",data:=.seq #[] }).update s.heap.objs.size (uj (λ_=>(#[]:Array Value)))).get? b=some o:=λb o e=>(ow _ _ (yk (bI e))).trans (eF _ e)
 refine wpAny_bind (wpAny_letGo ?_)
 refine cg6 (A:=A.in1) (l:=l) hh (hI.at λo e=>ot _ _ e) (hl.at λo e=>ot _ _ e) nl (yk lI) (yk ll) .none _ g1 hn λh' tk jx c' h1 h2 h3=>?_
 exact⟨rfl,q h' tk jx c' h1 (λb o b1 e=>h2 b o (eY (bI e)) b1 (ot b o e)) h3⟩
end
theorem cp0:∀{xs:List V} {us:List Value},Vals xs us->Vals xs.reverse us.reverse:=by
 have app:∀{a b:List V} {c d:List Value},Vals a c->Vals b d->Vals (a++b) (c++d):=by
  intro a b c d h h'
  induction h with
  | nil=>exact h'
  | cons r _ ih=>exact .cons r ih
 intro xs us h
 induction h with
 | nil=>exact .nil
 | cons r _ ih =>
  rw[BJ,BJ]
  exact app ih (.cons r .nil)
section
variable{X:Cx}{e:Expr}{ta:TA}{p p2 pos g7:Pos}
noncomputable def tRL(K:PySem.W.Frag)(ta:TA):TE:=λσ H Q=>ta σ H λvs H1=>∃a xs,vs=[.ref a]/\bK K H1 a xs/\∀l,H1 l=none->Q (.ref l) (upd H1 l (.lst xs.reverse))
theorem bY4(hc:X.calm=true)(hg:Gl X "list")(hm:X.mg "list"=none)(zM:Gl X "reversed")(vb:X.mg "reversed"=none)(ha:PA X [e] ta)
  (hs:starEach [.Call (.Name "reversed" p2) [e] [] g7] X.env=(false,eval (.Call (.Name "reversed" p2) [e] [] g7) X.env)::starEach [] X.env:=by rfl) (bG:(backTo pos (starEach [] X.env)).any (·.1)=false:=by rfl)
  (gk:starEach [e] X.env=(false,eval e X.env)::starEach [] X.env:=by rfl) (IY:(backTo g7 (starEach [] X.env)).any (·.1)=false:=by rfl) (IZ:starEach [] X.env=[]:=by rfl) :
  PE X (.Call (.Name "list" p) [.Call (.Name "reversed" p2) [e] [] g7] [] pos) (tRL X.K ta):=by
 intro pins s σ H Q I h
 refine wpAny_Call_Name_kw (lC I hg hm rf ?_ (by decide) (by decide))
 refine qF ?_ hs bG
 rw[hs]
 show wpAny _ _ (spliced ((false,eval (.Call (.Name "reversed" p2) [e] [] g7) X.env)::backTo pos (starEach [] X.env))) _ _ s
 refine Calls.spliced_cons ?_
 refine wpAny_Call_Name_kw (lC I zM vb Vl ?_ (by decide) (by decide))
 refine qF (aP (ha g7 pins s σ H _ I h) λus s1 ⟨vs,H1,I1,r1,q1⟩=>?_) gk IY
 obtain⟨a,xs,rfl,hx,q⟩:=q1
 obtain⟨u,rfl,ru⟩:=r1.one
 cases ru
 obtain⟨as,ra,pa,hz⟩:=I1.list hx
 have hl:=ra.length
 have al:a<s1.heap.objs.size:=let⟨_,g,_⟩:=pa.isList;bI g
 refine call_reversed_list pa.isList ?_
 rw[IZ]
 refine Calls.spliced_nil ?_
 have I2:Inv X pins σ H1 { s1 with heap:=s1.heap.push (revObj a ((as.toArray.size:Int)-1)) }:=I1.kept (t':=s1.toks) λb o e=>eF _ e
 have hit:(s1.heap.push (revObj a ((as.toArray.size:Int)-1))).IsRevIter s1.heap.objs.size a ((as.toArray.size:Int)-1):=⟨_,fO _ rfl,rfl,rfl⟩
 refine cB7 (I2.ok.hd hc) hit (pa.isList.push _) (eY al) (by simp;omega) λh' tk jx c' h1 h2 h3=>?_
 have k1:∀b o,s1.heap.get? b=some o->h'.get? b=some o:=λb o e=>h2 b o (eY (bI e)) (eF _ e)
 have rv:Vals xs.reverse jx.toList:=by rw[h1];exact cp0 ra
 have I3:=I1.laid (t':=tk) (h':=h') (a:=(s1.heap.push (revObj a ((as.toArray.size:Int)-1))).objs.size) k1 (by rw[oq];omega) (show dQ X.prog X.w _ h' _ (.lst xs.reverse) from⟨by rw[oG];exact hz,jx.toList,c',rv,by simpa using h3⟩)
 exact⟨.ref _,_,I3,rfl,q _ (I1.aG.fresh (by rw[oq];omega))⟩
end
end L2
namespace L3
open PySem L2 PySem.Spec PyProof.Rows
section
variable{X:Cx}{e:Expr}{tr:cG}{p p2 pos g7:Pos}
end
end L3
namespace L3
open PySem L2 Mf
section
variable{m:Bool × Nat}
noncomputable def qt(m:Bool × Nat)(r:Nat):List Nat->List Nat
 | []=>[]
 | _::l=>aJ m r l::qt m r l
theorem I0(hm:m∈av)(r:Nat):∀{l:List Nat},AllLt (aa m) l->AllLt (aa m) (qt m r l)
 | [],_=>λ_ h=>absurd h ib
 | a::l,h=>λx hx=>by
  have h':AllLt (aa m) l:=λa ha=>h a (eI _ ha)
  rcases bY.mp hx with rfl | hx
  ·exact jt hm r h'
  ·exact I0 hm r h' x hx
theorem Wj(hm:m∈av){r s d:Nat}(e:gp m d r=s):∀{l:List Nat},AllLt (aa m) l->aJ m s l=gp m (aJ m r l) (gm m d (aJ m s (qt m r l)))
 | [],_=>by
  show 0=gp m 0 (gm m d 0)
  rw[gg m _ (bB m hm)]
  exact(gw (QY Nat.zero_lt_one (lo1 hm))).symm
 | a::l,h=>by
  have h0:=bB m hm
  show gp m (gm m (aJ m s l) s) a=gp m (gp m (gm m (aJ m r l) r) a) (gm m d (gp m (gm m (aJ m s (qt m r l)) s) (aJ m r l)))
  rw[Wj hm e (l:=l) λa ha=>h a (eI _ ha),tE h0,tF h0,eR h0]
  have e1:gm m (aJ m r l) s=gp m (gm m d (aJ m r l)) (gm m (aJ m r l) r):=by rw[<-e,tF h0,e8 m d]
  rw[e1]
  haveI:Rv (gp m):=⟨js m⟩
  haveI:Rw (gp m):=⟨qf m⟩
  ac_rfl
theorem Wk(m:Bool × Nat)(r:Nat):∀(l:List Nat) (k:Nat),cf (qt m r l) k=aJ m r (l.drop (k+1))
 | [],_=>rfl
 | _::_,0=>rfl
 | _::l,k+1=>Wk m r l k
theorem Wl(hm:m∈av){r:Nat}:∀{l:List Nat},AllLt (aa m) l->(∀x∈qt m r l,x=0)->aJ m r l=0->∀x∈l,x=0
 | [],_,_,_=>λ_ h=>absurd h ib
 | a::l,h,hq,hz=>by
  have z:=hq _ hV
  have ih:=Wl hm (r:=r) (l:=l) (λa ha=>h a (eI _ ha)) (λx hx=>hq x (eI _ hx)) z
  intro x hx
  rcases bY.mp hx with rfl | hx
  ·have:=hz
   rw[show aJ m r (x::l)=gp m (gm m (aJ m r l) r) x from rfl,z,dN m _ (bB m hm),gw (h x hV)]at this
   exact this
  ·exact ih x hx
theorem Wm{l:List Nat}{j:Nat}(h:∀k,j<=k->cf l k=0):∀a∈l.drop j,a=0:=λa ha=>by
 obtain⟨i,hi,rfl⟩:=gP ha
 rw[List.getElem_drop]
 have:=h (j+i) (by omega)
 unfold cf at this
 rw[ui]at hi
 rwa [aI,aL (by omega)]at this
theorem Wn(hm:m∈av):∀{rs l:List Nat},AllLt (aa m) l->(∀r∈rs,r<aa m/\aJ m r l=0)->rs.Nodup->(∀k,rs.length<=k->cf l k=0)->∀x∈l,x=0
 | [],l,_,_,_,hz=>by have:=Wm hz;exact this
 | r::rs,l,hl,hr,nd,hz=>by
  obtain⟨r1,r2⟩:=hr r hV
  obtain⟨n1,n2⟩:=iC.mp nd
  refine Wl hm hl (Wn hm (rs:=rs) (I0 hm r hl) (λs hs=>?_) n2 λk hk=>?_) r2
  ·obtain⟨s1,s2⟩:=hr s (eI _ hs)
   refine⟨s1,?_⟩
   obtain⟨_,d1,d2⟩:=eV hm s1 r1
   have:=Wj hm d2 hl
   rw[s2,r2,gw (cj hm _ _)]at this
   rcases(tN hm d1 (jt hm s (I0 hm r hl))).mp this.symm with z | z
   ·rw[z,gw r1]at d2
    rw[d2]at n1
    exact absurd hs n1
   ·exact z
  ·rw[Wk]
   exact C3 hm r (Wm λk' we=>hz k' (by rw[eJ];omega))
theorem cN9{N:Nat}{p q:Nat->Nat->Nat}(r:Rg N p q){f:Nat->Nat}(hf:∀j,f j<N){n a:Nat}(ha:a<n):sm p n f=p (f a) (sm p n λj=>if j=a then 0 else f j):=by
 rw[dG (g:=λj=>p (if j=a then f a else 0) (if j=a then 0 else f j)) λj _=>?_,qi r,Du r (f:=λj=>if j=a then f a else 0) (j0:=a) (by simp[hf]) ha λj _ hj=>if_neg hj]
 ·simp
 ·by_cases c:j=a
  ·subst c;simp[r.z' (hf j)]
  ·simp[c,r.z (hf j)]
theorem Ja{N:Nat}{p q:Nat->Nat->Nat}(r:Rg N p q){n:Nat}:∀{ps:List Nat} {f:Nat->Nat},(∀j,f j<N)->ps.Nodup->(∀a∈ps,a<n)->(∀j,j<n->j ∉ ps->f j=0)->sm p n f=sm p ps.length λk=>f (ps.getD k 0)
 | [],f,_,_,_,hz=>gJ r λj hj=>hz j hj ib
 | a::ps,f,hf,nd,hp,hz=>by
  obtain⟨n1,n2⟩:=iC.mp nd
  have ID:∀j,(if j=a then 0 else f j)<N:=λj=>by
   by_cases c:j=a
   ·rw[if_pos c];exact r.pos
   ·rw[if_neg c];exact hf j
  rw[cN9 r hf (hp a hV),Ja r (ps:=ps) ID n2 (λb hb=>hp b (eI _ hb)) λj hj hn=>?_,eJ,Df r _ λj _=>hf _]
  ·show _=p (f a) (sm p ps.length λk=>f (ps.getD k 0))
   congr 1
   refine dG λj hj=>?_
   have:=dX hj 0
   exact if_neg λ(z:ps.getD j 0=a)=>n1 (z ▸ this)
  ·by_cases c:j=a
   ·exact if_pos c
   ·rw[if_neg c]
    exact hz j hj λh=>by
     rcases bY.mp h with h | h
     ·exact c h
     ·exact hn h
theorem nU{f:Nat->Nat}{ps:List Nat}{j:Nat}(hj:j<ps.length):cf (ps.map f) j=f (ps.getD j 0):=Dt f hj 0 0
theorem Jb(hm:m∈av){b n i:Nat}{ps xs a:List Nat}(hl:xs.length=ps.length)(ha:AllLt (aa m) a)(h:a.length<=i+1)(hi:i<n):jV m (gA m b ps xs n) a i=sm (gp m) ps.length λj=>gm m (gm m (cf xs j) (aJ m (eS m (-((ps.getD j 0:Nat):Int))) a)) (eS m (((b:Int)+(i:Int))*((ps.getD j 0:Nat):Int))):=by
 have r:=rg hm
 have h0:=bB m hm
 haveI:Rv (gm m):=⟨e8 m⟩
 haveI:Rw (gm m):=⟨eR h0⟩
 rw[Dj hm _ _ h]
 unfold ds
 rw[dG (g:=λk=>sm (gp m) ps.length λj=>gm m (cf a k) (gm m (eS m (((b:Int)+((i-k:Nat):Int))*((ps.getD j 0:Nat):Int))) (cf xs j))) λk hk=>?_,Il r]
 ·refine dG λj _=>?_
  rw[wm hm _ ha (i+1) h,eR h0,e8 m (sm _ _ _),<- kM r,<- kM r]
  refine dG λk hk=>?_
  rw[tJ hm,show eS m (((b:Int)+((i-k:Nat):Int))*((ps.getD j 0:Nat):Int))=gm m (eS m (((b:Int)+(i:Int))*((ps.getD j 0:Nat):Int))) (eS m (-((ps.getD j 0:Nat):Int)*(k:Int))) by
   rw[kI hm];congr 1
   rw[show((i-k:Nat):Int)=(i:Int)-(k:Int) by omega,Int.neg_mul,Ru _ (k:Int),<- Rt,<- Int.sub_mul];congr 1;omega]
  ac_rfl
 ·rw[tO hl (by omega),Dy (by omega),<- kM r]
  exact dG λj hj=>by rw[nU hj]
theorem Wo(hm:m∈av){n b i:Nat}{u v ps:List Nat}(hu:AllLt (aa m) u)(hv:AllLt (aa m) v)(lu:u.length=n)(lv:v.length=n)(nd:ps.Nodup)(hp:∀p∈ps,p<n)(hs:∀j,j<n->j ∉ ps->cf u j=cf v j):aJ m (eS m ((b:Int)+(i:Int))) u=gp m (gd m (ps.map λp=>aZ m (cf u p) (cf v p)) (ps.map λ(p:Nat)=>eS m (((b:Int)+(i:Int))*(p:Int)))) (aJ m (eS m ((b:Int)+(i:Int))) v):=by
 have r:=rg hm
 have h0:=bB m hm
 have dn:∀j,aZ m (cf u j) (cf v j)<aa m/\gp m (aZ m (cf u j) (cf v j)) (cf v j)=cf u j:=λj=>(eV hm (bU hm hu j) (bU hm hv j)).2
 rw[wm hm _ hu n (by omega),wm hm _ hv n (by omega),V6 m (by rw[bu,bu]),bu,
  dG (g:=λk=>gp m (gm m (aZ m (cf u k) (cf v k)) (px m (eS m ((b:Int)+(i:Int))) k)) (gm m (cf v k) (px m (eS m ((b:Int)+(i:Int))) k))) λk _=>by rw[<-tE h0,(dn k).2],qi r,
  Ja r (ps:=ps) (f:=λk=>gm m (aZ m (cf u k) (cf v k)) (px m (eS m ((b:Int)+(i:Int))) k)) (λ_=>cj hm _ _) nd hp λj hj hn=>by rw[hs j hj hn,Aa,dN m _ h0]]
 congr 1
 exact dG λj hj=>by rw[nU hj,nU hj,tJ hm]
theorem Wq(hm:m∈av)(ps:List Nat):cf (dH m ps) 0=1/\∀k,ps.length<k->cf (dH m ps) k=0:=by
 have r:=rg hm
 have h0:=bB m hm
 generalize hq:ps.reverse=qs
 induction qs generalizing ps with
 | nil =>
  rw[List.reverse_eq_nil_iff.mp hq]
  exact⟨rfl,λk hk=>g5 (show([1]:List Nat).length<=k from hk)⟩
 | cons p qs ih =>
  have e:ps=qs.reverse++[p]:=by rw[<-BJ,<- hq,Rx]
  subst e
  obtain⟨i1,i2⟩:=ih qs.reverse (Rx _)
  refine⟨?_,λk hk=>?_⟩
  ·rw[Dx,Ik hm,Dk hm]
   show gp m 0 (gm m (cf (dH m qs.reverse) 0) 1)=1
   rw[i1,qa (lo1 hm),gw (lo1 hm)]
  ·rw[fB,Bo]at hk
   rw[Dx,Ik hm,Dk hm]
   refine gJ r λj hj=>?_
   by_cases c:qs.reverse.length<j
   ·rw[i2 j c,dN m _ h0]
   ·rw[g5 (l:=gK m p) (show 2<=k-j by omega),gg m _ h0]
theorem Jc(hm:m∈av)(ps:List Nat):(dH m ps).length<=ps.length+1:=by
 rcases co4 m ps with h | h
 ·omega
 ·rcases qP (ps.length+1) (dH m ps).length with c | c
  ·exact absurd ((Wq hm ps).2 _ (by omega)) h
  ·exact c
noncomputable def du(m:Bool × Nat):List Nat->List Nat->List Nat->List Nat
 | l,p::ps,x::xs=>du m (l.set p (aZ m (cf l p) x)) ps xs
 | l,[],_=>l
 | l,_::_,[]=>l
theorem Jd(hm:m∈av):∀{ps xs l:List Nat},AllLt (aa m) l->AllLt (aa m) xs->ps.Nodup->(∀p∈ps,p<l.length)->xs.length=ps.length->AllLt (aa m) (du m l ps xs)/\(du m l ps xs).length=l.length/\(∀j,j ∉ ps->cf (du m l ps xs) j=cf l j)/\∀k,k<ps.length->cf (du m l ps xs) (ps.getD k 0)=aZ m (cf l (ps.getD k 0)) (cf xs k)
 | [],xs,l,hl,_,_,_,_=>⟨by unfold du;exact hl,by unfold du;rfl,λ_ _=>by unfold du;rfl,λk hk=>absurd hk (yE k)⟩
 | p::ps,[],l,_,_,_,_,h=>by cases h
 | p::ps,x::xs,l,hl,hx,nd,hp,h=>by
  obtain⟨n1,n2⟩:=iC.mp nd
  have bG:=hp p hV
  have g:=(eV hm (bU hm hl p) (hx x hV)).2.1
  have yS:AllLt (aa m) (l.set p (aZ m (cf l p) x)):=λa ha=>by
   rcases yy ha with h1 | rfl
   ·exact hl a h1
   ·exact g
  obtain⟨t1,t2,t3,t4⟩:=Jd hm (ps:=ps) (xs:=xs) yS (λa ha=>hx a (eI _ ha)) n2 (λq hq=>by rw[mE];exact hp q (eI _ hq)) (by simpa using h)
  rw[show du m l (p::ps) (x::xs)=du m (l.set p (aZ m (cf l p) x)) ps xs from by rw[du]]
  refine⟨t1,by rw[t2,mE],λj hj=>?_,λk hk=>?_⟩
  ·have Wr:¬ (j=p\/j∈ps):=λz=>hj (bY.mpr z)
   rw[t3 j λz=>Wr (.inr z),IL bG,if_neg λz=>Wr (.inl z)]
  ·cases k with
   | zero =>
    show cf _ p=aZ m (cf l p) x
    rw[t3 p n1,IL bG,if_pos rfl]
   | succ k =>
    have we:k<ps.length:=by simpa using hk
    show cf _ (ps.getD k 0)=aZ m (cf l (ps.getD k 0)) (cf xs k)
    rw[t4 k we,IL bG,if_neg λz:ps.getD k 0=p=>n1 (z ▸ dX we 0)]
noncomputable def bW(y:List (Option Nat)):List Nat:=y.map λs=>s.getD 0
noncomputable def aV(y:List (Option Nat)):List Nat:=(aO y.length).filter λj=>decide (y[j]?=some none)
noncomputable def cA(y:List (Option Nat))(c:List Nat):List Nat:=(aO y.length).filter λj=>decide (j ∉ aV y/\cf (bW y) j≠cf c j)
noncomputable def fu(m:Bool × Nat)(b e:Nat)(l:List Nat):List Nat:=(aO e).map λ(i:Nat)=>aJ m (eS m ((b:Int)+(i:Int))) l
noncomputable def nV(m:Bool × Nat)(b e:Nat)(y:List (Option Nat)):List Nat:=(aO (e-(aV y).length)).map λ(i:Nat)=>jV m (fu m b e (bW y)) (dH m (aV y)) ((aV y).length+i)
noncomputable def fJ(m:Bool × Nat)(c:List Nat)(n:Nat):List Nat:=(aO n).filter λ(q:Nat)=>decide (aJ m (eS m (-(q:Int))) c=0)
structure Nr(m:Bool × Nat)(b e:Nat)(y:List (Option Nat))(c:List Nat):Prop where
 ln:c.length=y.length
 lt:AllLt (aa m) c
 z:∀i,i<e->aJ m (eS m ((b:Int)+(i:Int))) c=0
 qk:(aV y).length+2*(cA y c).length<=e
theorem nW(y:List (Option Nat)):(aV y).Nodup/\∀p∈aV y,p<y.length:=⟨uC.filter _,λp hp=>de.mp (qE.mp hp).1⟩
theorem mr{y:List (Option Nat)}{c:List Nat}{j:Nat}:j∈cA y c↔j<y.length/\j ∉ aV y/\cf (bW y) j≠cf c j:=by
 unfold cA
 rw[qE,de,decide_eq_true_iff]
theorem wq{c:List Nat}{n j:Nat}:j∈fJ m c n↔j<n/\aJ m (eS m (-(j:Int))) c=0:=by
 unfold fJ
 rw[qE,de,decide_eq_true_iff]
theorem wt(hm:m∈av){y:List (Option Nat)}(hy:∀a,some a∈y->a<aa m):AllLt (aa m) (bW y):=λa ha=>by
 obtain⟨s,h1,rfl⟩:=bZ.mp ha
 cases s with
 | none=>exact QY Nat.zero_lt_one (lo1 hm)
 | some a=>exact hy a h1
theorem Aj(b e:Nat)(l:List Nat):(fu m b e l).length=e:=by unfold fu;rw[bu,cZ]
theorem Je(hm:m∈av){b e:Nat}{l:List Nat}(hl:AllLt (aa m) l):AllLt (aa m) (fu m b e l):=λa ha=>by
 obtain⟨i,_,rfl⟩:=bZ.mp ha
 exact jt hm _ hl
theorem Jf(b e:Nat)(y:List (Option Nat)):(nV m b e y).length=e-(aV y).length:=by unfold nV;rw[bu,cZ]
theorem cA6(hm:m∈av){b e n:Nat}{u v ps:List Nat}(hu:AllLt (aa m) u)(hv:AllLt (aa m) v)(lu:u.length=n)(lv:v.length=n)(nd:ps.Nodup)(hp:∀p∈ps,p<n)(hs:∀j,j<n->j ∉ ps->cf u j=cf v j)(hz:∀i,i<e->aJ m (eS m ((b:Int)+(i:Int))) v=0):fu m b e u=gA m b ps (ps.map λp=>aZ m (cf u p) (cf v p)) e:=by
 unfold fu gA
 refine mM λi hi=>?_
 rw[Wo hm hu hv lu lv nd hp hs,hz i (de.mp hi),mm (Ij hm _ _)]
theorem Jg{α:Type}{P Q:α->Bool}:∀{l:List α},(∀x∈l,P x=true->Q x=true)->(l.filter P).length<=(l.filter Q).length/\((l.filter P).length=(l.filter Q).length->l.filter P=l.filter Q)
 | [],_=>⟨bJ _,λ_=>rfl⟩
 | a::l,h=>by
  obtain⟨i1,i2⟩:=Jg (l:=l) λx hx=>h x (eI _ hx)
  have ha:=h a hV
  cases p:P a with
  | true =>
   rw[Ry p,Ry (ha p),eJ,eJ]
   exact⟨by omega,λz=>by rw[i2 (by omega)]⟩
  | false =>
   rw[di3 (by rw[p];exact fN)]
   cases q:Q a with
   | true =>
    rw[Ry q,eJ]
    exact⟨by omega,λz=>by omega⟩
   | false =>
    rw[di3 (by rw[q];exact fN)]
    exact⟨i1,i2⟩
theorem cS3(hm:m∈av){a b:Nat}(ha:a<aa m)(hb:b<aa m)(h:a≠b):aZ m a b≠0:=λz=>by
 have g:=(eV hm ha hb).2.2
 rw[z,gw hb]at g
 exact h g.symm
theorem Ws(hm:m∈av){a x:Nat}(ha:a<aa m)(hx:x<aa m):aZ m a (aZ m a x)=x:=by
 have g:=eV hm ha hx
 have k:=eV hm ha g.2.1
 refine(rg hm).De k.2.1 hx g.2.1 (k.2.2.trans ?_)
 rw[js]
 exact g.2.2.symm
theorem cE1(hm:m∈av){c:List Nat}{L n:Nat}(hn:n+1<=aa m)(ca:AllLt (aa m) c)(cl:c.length=L+1)(c0:cf c 0=1):(fJ m c n).length<=L:=by
 rcases qP L (fJ m c n).length with h | h
 ·have z:=Wn hm (rs:=(fJ m c n).map λ(q:Nat)=>eS m (-(q:Int))) ca (λr hr=>?_) ?_ (λk hk=>g5 (by rw[bu]at hk;omega)) (cf c 0) (dX (by omega) 0)
  ·omega
  ·obtain⟨q,h1,rfl⟩:=bZ.mp hr
   exact⟨i7 hm _,(wq.mp h1).2⟩
  ·refine Rz.mpr (RA (λ{a b} ha hb Ak z=>Ak ?_) (uC.filter _))
   have a1:=(wq.mp ha).1
   have b1:=(wq.mp hb).1
   refine(Wc hm (by omega) (by omega)).mp ?_
   rw[Rt,<- kI hm,<- z,kI hm,Int.add_right_neg,qh hm]
 ·exact h
theorem Wt{y:List (Option Nat)}{w:List Nat}:(aV y++cA y w).Nodup/\(∀p∈aV y++cA y w,p<y.length)/\∀j,j<y.length->j ∉ aV y++cA y w->cf (bW y) j=cf w j:=by
 refine⟨Q5.mpr ⟨(nW y).1,uC.filter _,λa ha b hb z=>(mr.mp hb).2.1 (z ▸ ha)⟩,λp hp=>?_,λj hj hn=>?_⟩
 ·rcases cw.mp hp with h | h
  ·exact(nW y).2 p h
  ·exact(mr.mp h).1
 ·by_cases c:cf (bW y) j=cf w j
  ·exact c
  ·exact absurd (cw.mpr (.inr (mr.mpr ⟨hj,λz=>hn (cw.mpr (.inl z)),c⟩))) hn
theorem ql(y:List (Option Nat)):(bW y).length=y.length:=by unfold bW;rw[bu]
section
variable{b e L o:Nat}{y:List (Option Nat)}{w c:List Nat}{bb:Nat->Nat}
theorem Wu(hm:m∈av)(hy:∀a,some a∈y->a<aa m)(h:Nr m b e y w):fu m b e (bW y)=gA m b (aV y++cA y w) ((aV y++cA y w).map λp=>aZ m (cf (bW y) p) (cf w p)) e:=by
 obtain⟨p1,p2,p3⟩:=Wt (y:=y) (w:=w)
 exact cA6 hm (wt hm hy) h.lt (ql y) h.ln p1 p2 p3 h.z
theorem cA2(hm:m∈av)(hy:∀a,some a∈y->a<aa m)(hn:y.length+1<=aa m)(h:Nr m b e y w):nV m b e y=gA m (b+(aV y).length) (cA y w) ((cA y w).map λp=>gm m (aZ m (cf (bW y) p) (cf w p)) (aJ m (eS m (-(p:Int))) (dH m (aV y)))) (e-(aV y).length):=by
 have r:=rg hm
 have h0:=bB m hm
 refine wg (Jf ..) (Ai ..) λi hi=>?_
 have fl:=Jc hm (aV y)
 rw[tO (by rw[bu]) hi,Dy hi]
 unfold nV
 rw[wj _ hi,Wu hm hy h,Jb hm (by rw[bu]) (wk hm _).1 (by omega) (by omega),fB,Ab r _ _ λ_ _=>cj hm _ _,gJ r λj hj=>?_,r.z (kL r λ_ _=>cj hm _ _)]
 ·refine dG λj hj=>?_
  have eP:(aV y++cA y w).getD ((aV y).length+j) 0=(cA y w).getD j 0:=by
   rw[aI,ym (by omega),Rp,<- aI]
  rw[nU (by rw[fB];omega),eP,nU hj,nU hj,e8 m (eS m _)]
  congr 3
  omega
 ·have eP:(aV y++cA y w).getD j 0=(aV y).getD j 0:=by
   rw[aI,yn hj,<- aI]
  have pj:=dX hj 0
  rw[eP,(IT hm (λp hp=>by have:=(nW y).2 p hp;omega) (by have:=(nW y).2 _ pj;omega)).mpr pj,gg m _ h0,dN m _ h0]
theorem cn7(hm:m∈av)(hy:∀a,some a∈y->a<aa m)(hn:y.length+1<=aa m)(h:Nr m b e y w)(I:BI (aa m) (gp m) (gm m) (cf (nV m b e y)) (nV m b e y).length L (cf c) bb o)(cl:c.length=L+1)(ca:AllLt (aa m) c):fJ m c y.length=cA y w/\(cA y w).length=L:=by
 have r:=rg hm
 have h0:=bB m hm
 have qk:=h.qk
 have wl:∀p∈cA y w,p+1<aa m:=λp hp=>by have:=(mr.mp hp).1;omega
 have el:=cA2 hm hy hn h
 have ll:(nV m b e y).length=e-(aV y).length:=Jf ..
 obtain⟨f1,f2⟩:=Wq hm (cA y w)
 have fl:=Jc hm (cA y w)
 have a1:L<=(cA y w).length:=I.mn _ _ f1 f2 (bU hm (wk hm _).1) λi h1 h2=>by
  rw[<-Dj hm _ _ (by omega),el,Jb hm (by rw[bu]) (wk hm _).1 (by omega) (by omega)]
  refine gJ r λj hj=>?_
  have pj:=dX hj 0
  rw[(IT hm wl (wl _ pj)).mpr pj,gg m _ h0,dN m _ h0]
 have roots:∀j,j<(cA y w).length->aJ m (eS m (-(((cA y w).getD j 0:Nat):Int))) c=0:=λj hj=>by
  have z:=IU hm (λj=>eS m (((cA y w).getD j 0:Nat):Int)) (λj=>i7 hm _) (cA y w).length (λj=>gm m (gm m (cf ((cA y w).map λp=>gm m (aZ m (cf (bW y) p) (cf w p)) (aJ m (eS m (-(p:Int))) (dH m (aV y)))) j) (aJ m (eS m (-(((cA y w).getD j 0:Nat):Int))) c)) (eS m ((((b+(aV y).length:Nat):Int)+(L:Int))*(((cA y w).getD j 0:Nat):Int)))) (λ_=>cj hm _ _) (λi j hi hj z=>?_) (λi hi=>?_) j hj
  ·have e1:=(i6 hm ((((b+(aV y).length:Nat):Int)+(L:Int))*(((cA y w).getD j 0:Nat):Int))).1
   have pj:=mr.mp (dX hj 0)
   rw[nU hj]at z
   rcases(tN hm (cj hm _ _) (i7 hm _)).mp z with z | z
   ·rcases(tN hm (cj hm _ _) (jt hm _ ca)).mp z with z | z
    ·exfalso
     rcases(tN hm (eV hm (bU hm (wt hm hy) _) (bU hm h.lt _)).2.1 (jt hm _ (wk hm _).1)).mp z with z | z
     ·exact cS3 hm (bU hm (wt hm hy) _) (bU hm h.lt _) pj.2.2 z
     ·exact pj.2.1 ((IT hm (λp hp=>by have:=(nW y).2 p hp;omega) (by have:=pj.1;omega)).mp z)
    ·exact z
   ·omega
  ·have z:=Wh hm (wl _ (dX hi 0)) (wl _ (dX hj 0)) z
   rw[aI,aL hi,aI,aL hj]at z
   exact(QT (uC.filter _)).mp z
  ·have k:=I.kp (L+i) (by omega) (by omega)
   rw[<-Dj hm _ _ (by omega),el,Jb hm (by rw[bu]) ca (by omega) (by omega)]at k
   refine Eq.trans (dG λj _=>?_) k
   rw[tJ hm,eR h0 _ (eS m _),kI hm]
   congr 2
   rw[uz L i,<- Int.add_assoc,Fy (_+_) (i:Int),Ru (i:Int)]
 have fd:=cE1 hm hn ca cl I.c0
 have sub:=Jg (l:=aO y.length) (P:=λj=>decide (j ∉ aV y/\cf (bW y) j≠cf w j)) (Q:=λ(q:Nat)=>decide (aJ m (eS m (-(q:Int))) c=0)) λx hx hp=>by
  have:x∈cA y w:=qE.mpr ⟨hx,hp⟩
  obtain⟨j,hj,rfl⟩:=gP this
  have:=roots j hj
  rw[aI,aL hj]at this
  exact decide_eq_true this
 have s1:(cA y w).length<=(fJ m c y.length).length:=sub.1
 exact⟨(sub.2 (show(cA y w).length=(fJ m c y.length).length by omega)).symm,by omega⟩
theorem cA3(hm:m∈av)(hy:∀a,some a∈y->a<aa m)(hn:y.length+1<=aa m)(h:Nr m b e y w):(iz m b (aV y++cA y w) (fu m b e (bW y))).map (du m (bW y) (aV y++cA y w))=some w:=by
 obtain⟨p1,p2,p3⟩:=Wt (y:=y) (w:=w)
 have es:=Wu hm hy h
 have qk:=h.qk
 have h0:aV y++cA y w≠[]->0<e:=λz=>by
  have:=Ft.mpr z
  rw[fB]at this
  omega
 have kl:=wt hm hy
 have xl:AllLt (aa m) ((aV y++cA y w).map λp=>aZ m (cf (bW y) p) (cf w p)):=λa ha=>by
  obtain⟨p,_,rfl⟩:=bZ.mp ha
  exact(eV hm (bU hm kl _) (bU hm h.lt _)).2.1
 cases sg:iz m b (aV y++cA y w) (fu m b e (bW y))with
 | none =>
  rw[es]at sg
  exact absurd sg (cg8 hm h0 xl (by rw[bu]))
 | some X =>
  obtain⟨x1,x2,x3⟩:=IW hm (λz=>by rw[Aj];exact h0 z) (Je hm kl) sg
  rw[Aj,es]at x3
  have eX:=cF5 hm (λp hp=>by have:=p2 p hp;omega) p1 (by rw[fB];omega) x2 xl x1 (by rw[bu]) x3
  obtain⟨t1,t2,t3,t4⟩:=Jd hm kl x2 p1 (λp hp=>by rw[ql];exact p2 p hp) x1
  refine congrArg some (wg (t2.trans (ql y)) h.ln λj hj=>?_)
  by_cases c:j∈aV y++cA y w
  ·obtain⟨k,hk,rfl⟩:=gP c
   have:=t4 k hk
   rw[eX,nU hk,Ws hm (bU hm kl _) (bU hm h.lt _),aI,aL hk,<- eX]at this
   exact this
  ·rw[t3 j c,p3 j hj c]
theorem ck7(hm:m∈av)(hy:∀a,some a∈y->a<aa m){fd X:List Nat}(hf:fd=fJ m c y.length)(hl:(aV y).length+2*fd.length<=e)(hd:∀p∈fd,p ∉ aV y)(sg:iz m b (aV y++fd) (fu m b e (bW y))=some X):Nr m b e y (du m (bW y) (aV y++fd) X):=by
 have r:=rg hm
 have kl:=wt hm hy
 have p1:(aV y++fd).Nodup:=Q5.mpr ⟨(nW y).1,hf ▸ uC.filter _,λa ha b hb z=>hd b hb (z ▸ ha)⟩
 have p2:∀p∈aV y++fd,p<y.length:=λp hp=>by
  rcases cw.mp hp with h | h
  ·exact(nW y).2 p h
  ·rw[hf]at h;exact(wq.mp h).1
 have h0:aV y++fd≠[]->0<(fu m b e (bW y)).length:=λz=>by
  have:=Ft.mpr z
  rw[fB]at this
  rw[Aj]
  omega
 obtain⟨x1,x2,x3⟩:=IW hm h0 (Je hm kl) sg
 obtain⟨t1,t2,t3,t4⟩:=Jd hm kl x2 p1 (λp hp=>by rw[ql];exact p2 p hp) x1
 have eX:((aV y++fd).map λp=>aZ m (cf (bW y) p) (cf (du m (bW y) (aV y++fd) X) p))=X:=wg (by rw[bu]) x1 λk hk=>by
  rw[nU hk,t4 k hk,Ws hm (bU hm kl _) (bU hm x2 _)]
 refine⟨t2.trans (ql y),t1,λi hi=>?_,?_⟩
 ·have s:=Wo hm (b:=b) (i:=i) kl t1 (ql y) (t2.trans (ql y)) p1 p2 λj _ hn=>(t3 j hn).symm
  rw[eX]at s
  have g:gd m X ((aV y++fd).map λ(p:Nat)=>eS m (((b:Int)+(i:Int))*(p:Int)))=aJ m (eS m ((b:Int)+(i:Int))) (bW y):=by
   have:=congrArg (λl=>cf l i) x3
   rw[Aj]at this
   unfold gA fu at this
   simp only[wj _ hi]at this
   exact this
  rw[g,js]at s
  exact r.cn (jt hm _ t1) (jt hm _ kl) s.symm
 ·have:=(Jg (l:=aO y.length) (P:=λj=>decide (j ∉ aV y/\cf (bW y) j≠cf (du m (bW y) (aV y++fd) X) j)) (Q:=λ(q:Nat)=>decide (aJ m (eS m (-(q:Int))) c=0)) λx hx hp=>by
   obtain⟨q1,q2⟩:=of_decide_eq_true hp
   by_cases c':x∈fd
   ·rw[hf]at c';exact decide_eq_true (wq.mp c').2
   ·exact absurd (t3 x λz=>by
     rcases cw.mp z with z | z
     ·exact q1 z
     ·exact c' z).symm q2).1
  have s2:(cA y (du m (bW y) (aV y++fd) X)).length<=(fJ m c y.length).length:=this
  rw[hf]at hl s2 ⊢
  omega
noncomputable def nX(m:Bool × Nat)(bQ:List Nat)(k n L:Nat)(c:List Nat):Option (List Nat):=if k<2*L then none else if(fJ m c n).length≠L\/(∃p∈fJ m c n,p∈bQ)then none else some (fJ m c n)
noncomputable def Dz(m:Bool × Nat)(b e:Nat)(y:List (Option Nat))(L:Nat)(c:List Nat):Option (List Nat):=if e<(aV y).length then none else(nX m (aV y) (e-(aV y).length) y.length L c).bind λfd=>(iz m b (aV y++fd) (fu m b e (bW y))).map (du m (bW y) (aV y++fd))
theorem cL7(hm:m∈av)(hy:∀a,some a∈y->a<aa m)(hn:y.length+1<=aa m)(I:BI (aa m) (gp m) (gm m) (cf (nV m b e y)) (nV m b e y).length L (cf c) bb o)(cl:c.length=L+1)(ca:AllLt (aa m) c):Dz m b e y L c=some w↔Nr m b e y w:=by
 unfold Dz nX
 constructor
 ·intro h
  split at h
  ·cases h
  ·split at h
   ·cases h
   ·split at h
    ·cases h
    ·rename_i h1 h2 h3
     obtain⟨X,sg,rfl⟩:=ur.mp h
     exact ck7 hm hy rfl (by
      have:(fJ m c y.length).length=L:=di4 λz=>h3 (.inl z)
      omega) (λp hp u4=>h3 (.inr ⟨p,hp,u4⟩)) sg
 ·intro h
  obtain⟨f1,f2⟩:=cn7 hm hy hn h I cl ca
  have qk:=h.qk
  rw[if_neg (by omega),if_neg (by omega),if_neg λz=>?_,f1]
  ·exact cA3 hm hy hn h
  ·rcases z with z | ⟨p,z1,z2⟩
   ·rw[f1]at z;exact z f2
   ·rw[f1]at z1;exact(mr.mp z1).2.1 z2
end
end
noncomputable def gL:Option Nat->D
 | none=>.aw
 | some a=>.int (a:Int)
noncomputable def bM(y:List (Option Nat)):List D:=y.map gL
theorem Wv(a:Option Nat):(gL a).sh=gL a:=by cases a<;>rfl
theorem cE5:∀a b:Option Nat,gL a=gL b->a=b
 | none,none,_=>rfl
 | some a,some b,h=>by
  have:(D.int (a:Int))=D.int (b:Int):=h
  injection this with h
  rw[show a=b by omega]
 | none,some _,h=>by cases h
 | some _,none,h=>by cases h
theorem tP(y:List (Option Nat)):(bM y).map D.sh=bM y:=by
 unfold bM;rw[da];exact mM λa _=>Wv a
theorem DA(y:List (Option Nat)):(bM y).all D.pl=true:=by
 unfold bM;rw[kU];exact cU.mpr λa _=>by cases a<;>rfl
theorem DB(y:List (Option Nat)):(bM y).length=y.length:=bu ..
theorem qm{y:List (Option Nat)}{i:Nat}(hi:i<y.length):y[i]?=some (y.getD i none):=by
 rw[aI,aL hi];rfl
theorem ck9(y:List (Option Nat)):(eC (bM y)).map D.sh=(aO y.length).map λ(i:Nat)=>D.tup [.int (i:Int),gL (y.getD i none)]:=by
 apply yv
 intro i
 unfold eC bM
 rw[bX,uv,bX,bX]
 by_cases hi:i<y.length
 ·rw[jD hi,qm hi]
  show some (D.tup [D.int (i:Int),gL (y.getD i none)]).sh=some (D.tup [D.int (i:Int),gL (y.getD i none)])
  rw[ku]
  simp only[eK,kS,jU,Wv]
 ·rw[gj (show y.length<=i by omega),gj (show(aO y.length).length<=i by simpa using hi)];rfl
end L3
namespace L3
open PySem L2 PySem.Spec PyProof.Rows
theorem S.rev{F H:Hp}:∀{xs:List D} {ws:List V},S F H xs ws->S F H xs.reverse ws.reverse
 | [],ws,s=>by
  have:=List.length_eq_zero_iff.mp s.length.symm
  subst this
  exact s
 | d::xs,ws,s=>by
  obtain⟨v,vs,rfl,s1,s2⟩:=s.cP
  rw[BJ,BJ]
  exact(S.rev s2).append s1
section
variable{X:Cx}{e:Expr}{tr:cG}{p p2 pos g7:Pos}
noncomputable def qo:iY:=λds Q=>match ds with
 | [.lst _ xs]=>xs.all D.pl=true/\Q (.lst true xs.reverse)
 | _=>False
theorem bY3(hc:X.calm=true)(hg:Gl X "list")(hm:X.mg "list"=none)(zM:Gl X "reversed")(vb:X.mg "reversed"=none)(ha:PA X [e] (lA tr))
  (hs:starEach [.Call (.Name "reversed" p2) [e] [] g7] X.env=(false,eval (.Call (.Name "reversed" p2) [e] [] g7) X.env)::starEach [] X.env:=by rfl) (bG:(backTo pos (starEach [] X.env)).any (·.1)=false:=by rfl)
  (gk:starEach [e] X.env=(false,eval e X.env)::starEach [] X.env:=by rfl) (IY:(backTo g7 (starEach [] X.env)).any (·.1)=false:=by rfl) (IZ:starEach [] X.env=[]:=by rfl) :
  PE X (.Call (.Name "list" p) [.Call (.Name "reversed" p2) [e] [] g7] [] pos) (lE (lY qo tr)) :=
 dz (bY4 hc hg hm zM vb ha hs bG gk IY IZ) λσ H Q ⟨B,F,δ,ts,Qd,c,q,k⟩=>⟨B,F,δ,ts,_,c,q,λds aq vs F1 H1 q1 f1 h1 c1 s1=>by
  unfold qo at q1
  split at q1
  ·obtain⟨v,rfl,s2⟩:=jS s1
   obtain⟨q0,q1⟩:=q1
   obtain⟨p,ws,rfl,h,t⟩:=kA s2 c1.ext rfl
   exact⟨p,_,rfl,jT h,λl hl=>k _ _ _ _ _ q1 f1 (h1.trans (ag.upd hl)) (c1.nh hl t.rev (by rw[List.all_reverse];exact q0))⟩
  ·exact q1.elim⟩
end
end L3
namespace L3
open PySem L2 Mf
section
variable{m:Bool × Nat}
theorem cQ3(hm:m∈av){a b:Int}(h:((aa m:Int)-1) ∣ a-b):eS m a=eS m b:=by
 have e:a%((aa m:Int)-1)=b%((aa m:Int)-1):=Int.emod_eq_emod_iff_emod_sub_eq_zero.mpr (Int.emod_eq_zero_of_dvd h)
 have h1:=(i6 hm a).2.2.2
 have h2:=(i6 hm b).2.2.2
 rw[e,h2]at h1
 omega
theorem cD9{N:Nat}{p q:Nat->Nat->Nat}(r:Rg N p q){n:Nat}{f:Nat->Nat}{π σ:Nat->Nat}(hf:∀j,f j<N)(mv:∀j,j<n->π j<n/\σ (π j)=j)(DC:∀j,j<n->σ j<n/\π (σ j)=j):sm p n f=sm p n λj=>f (π j):=by
 have l:((aO n).map π).length=n:=by rw[bu,cZ]
 rw[Ja r (ps:=(aO n).map π) hf ?_ ?_ ?_,l]
 ·exact dG λj hj=>by rw[show((aO n).map π).getD j 0=π j from wj π hj]
 ·refine Rz.mpr (RA (λ{a b} ha hb Ak z=>Ak ?_) uC)
  rw[<-(mv a (de.mp ha)).2,z,(mv b (de.mp hb)).2]
 ·intro a ha
  obtain⟨j,h1,rfl⟩:=bZ.mp ha
  exact(mv j (de.mp h1)).1
 ·intro j hj hn
  exact absurd (bZ.mpr ⟨σ j,de.mpr (DC j hj).1,(DC j hj).2⟩) hn
theorem Ww:∀{l l':List Nat},l.Nodup->(∀a∈l,a∈l')->l.length<=l'.length
 | [],_,_,_=>jz _
 | a::l,l',nd,h=>by
  obtain⟨n1,n2⟩:=iC.mp nd
  have ha:=h a hV
  have:=Ww (l:=l) (l':=l'.erase a) n2 λb hb=>(List.mem_erase_of_ne (λz:b=a=>n1 (z ▸ hb))).mpr (h b (eI _ hb))
  rw[List.length_erase_of_mem ha]at this
  have:=List.length_pos_of_mem ha
  rw[eJ]
  omega
theorem Wx{l l':List Nat}{π:Nat->Nat}(nd:l.Nodup)(inj:∀a∈l,∀b∈l,π a=π b->a=b)(h:∀a∈l,π a∈l'):l.length<=l'.length:=by
 have:=Ww (l:=l.map π) (l':=l') (Rz.mpr (RA (λ{a b} ha hb Ak z=>Ak (inj a ha b hb z)) nd)) λa ha=>by
  obtain⟨b,h1,rfl⟩:=bZ.mp ha
  exact h b h1
 rwa [bu]at this
theorem Jh{y:List (Option Nat)}{j:Nat}(hj:j<y.length):j∈aV y↔y.getD j none=none:=by
 unfold aV
 rw[qE,de,decide_eq_true_iff,qm hj]
 exact⟨λh=>cN h.2,λh=>⟨hj,congrArg some h⟩⟩
theorem Wy{y:List (Option Nat)}{j:Nat}:cf (bW y) j=(y.getD j none).getD 0:=by
 unfold bW cf
 rw[aI,bX,aI]
 cases y[j]?<;>rfl
theorem Nr.turn(hm:m∈av){b b' e n:Nat}{y y':List (Option Nat)}{w w':List Nat}{π σ:Nat->Nat}{γ:Nat->Int}(ly:y.length=n)(tQ:y'.length=n)(lw':w'.length=n)
  (mv:∀j,j<n->π j<n/\σ (π j)=j) (DC:∀j,j<n->σ j<n/\π (σ j)=j)
  (ey:∀j,j<n->y'.getD j none=(y.getD (π j) none).map λx=>gm m x (eS m (γ j))) (ew:∀j,j<n->cf w' j=gm m (cf w (π j)) (eS m (γ j)))
  (hz:∀i,i<e->∃i',i'<e/\∃κ:Int,∀j,j<n->((aa m:Int)-1) ∣ (γ j+((b':Int)+(i:Int))*(j:Int))-(κ+((b:Int)+(i':Int))*(π j:Nat)))
  (h:Nr m b e y w):Nr m b' e y' w':=by
 have r:=rg hm
 have h0:=bB m hm
 haveI:Rv (gm m):=⟨e8 m⟩
 haveI:Rw (gm m):=⟨eR h0⟩
 have lt':AllLt (aa m) w':=λa ha=>by
  obtain⟨j,hj,rfl⟩:=gP ha
  have:=ew j (by omega)
  unfold cf at this
  rw[aI,aL hj]at this
  rw[show w'[j]=gm m (w.getD (π j) 0) (eS m (γ j)) from this]
  exact cj hm _ _
 refine⟨lw'.trans tQ.symm,lt',λi hi=>?_,?_⟩
 ·obtain⟨i',fi,κ,hk⟩:=hz i hi
  have z:=h.z i' fi
  have lw:w.length=n:=h.ln.trans ly
  rw[wm hm _ h.lt n (by omega),cD9 r (f:=λk=>gm m (cf w k) (px m (eS m ((b:Int)+(i':Int))) k)) (λ_=>cj hm _ _) mv DC]at z
  rw[wm hm _ lt' n (by omega),dG (g:=λj=>gm m (eS m κ) (gm m (cf w (π j)) (px m (eS m ((b:Int)+(i':Int))) (π j)))) λj hj=>?_,kM r,z,gg m _ h0]
  have e1:gm m (eS m (γ j)) (px m (eS m ((b':Int)+(i:Int))) j)=gm m (eS m κ) (px m (eS m ((b:Int)+(i':Int))) (π j)):=by
   rw[tJ hm,tJ hm,kI hm,kI hm]
   exact cQ3 hm (hk j hj)
  rw[ew j hj,eR h0,e1]
  ac_rfl
 ·have inj:∀a,a<n->∀b,b<n->π a=π b->a=b:=λa ha b hb z=>by rw[<-(mv a ha).2,z,(mv b hb).2]
  have Ji:∀j,j<n->(j∈aV y'↔π j∈aV y):=λj hj=>by
   rw[Jh (by omega),Jh (by rw[ly];exact(mv j hj).1),ey j hj]
   cases y.getD (π j) none with
   | none=>exact⟨λ_=>rfl,λ_=>rfl⟩
   | some a=>exact⟨λz=>(by cases z),λz=>(by cases z)⟩
  have hl:=nW y'
  have a1:(aV y').length<=(aV y).length:=Wx hl.1 (λa ha b hb=>inj a (tQ ▸ hl.2 a ha) b (tQ ▸ hl.2 b hb)) λa ha=>(Ji a (tQ ▸ hl.2 a ha)).mp ha
  have a2:(cA y' w').length<=(cA y w).length:=Wx (uC.filter _) (λa ha b hb=>inj a (tQ ▸ (mr.mp ha).1) b (tQ ▸ (mr.mp hb).1)) λa ha=>by
   obtain⟨h1,h2,h3⟩:=mr.mp ha
   have h1:a<n:=tQ ▸ h1
   refine mr.mpr ⟨by rw[ly];exact(mv a h1).1,λz=>h2 ((Ji a h1).mpr z),λz=>h3 ?_⟩
   rw[ew a h1,<- z,Wy,Wy,ey a h1]
   cases ev:y.getD (π a) none with
   | none=>exact absurd ((Ji a h1).mpr ((Jh (by rw[ly];exact(mv a h1).1)).mpr ev)) h2
   | some x=>rfl
  have:=h.qk
  omega
noncomputable def rt(n:Nat)(s:Int)(j:Nat):Nat:=(((j:Int)-s)%(n:Int)).toNat
noncomputable def mw(s:Int)(y:List (Option Nat)):List (Option Nat):=(aO y.length).map λj=>y.getD (rt y.length s j) none
noncomputable def Al(s:Int)(w:List Nat):List Nat:=(aO w.length).map λj=>cf w (rt w.length s j)
noncomputable def mx(m:Bool × Nat)(s:Int)(y:List (Option Nat)):List (Option Nat):=(aO y.length).map λ(j:Nat)=>(y.getD j none).map λx=>gm m x (eS m (s*(j:Int)))
noncomputable def Am(m:Bool × Nat)(s:Int)(w:List Nat):List Nat:=(aO w.length).map λ(j:Nat)=>gm m (cf w j) (eS m (s*(j:Int)))
noncomputable def jy(m:Bool × Nat)(g s:Nat)(y:List (Option Nat)):List (Option Nat):=if g=0 then mw (s:Int) y else if g=1 then y.reverse else mx m (s:Int) y
theorem DD{n j:Nat}(hj:j<n)(s:Int):rt n s j<n/\rt n (-s) (rt n s j)=j:=by
 have n0:=fU ((j:Int)-s) (show(n:Int)≠0 by omega)
 have n1:=iD ((j:Int)-s) (show(0:Int)<(n:Int) by omega)
 refine⟨by unfold rt;omega,?_⟩
 unfold rt
 rw[oF n0,Int.sub_neg,Int.emod_add_emod,Int.sub_add_cancel,yC (by omega) (by omega)]
 omega
theorem wu{α:Type}(f:Nat->α){w k:Nat}(h:k<w)(a:α):((aO w).map f).getD k a=f k:=by
 rw[aI,bX,jD h];rfl
theorem Wz(hm:m∈av){o:Option Nat}(h:∀a,o=some a->a<aa m):(o.map λx=>gm m x (eS m 0))=o:=by
 cases o with
 | none=>rfl
 | some a=>show some (gm m a (eS m 0))=some a;rw[qh hm,jr (h a rfl)]
theorem An{y:List (Option Nat)}{N:Nat}(hy:∀a,some a∈y->a<N)(j a:Nat)(h:y.getD j none=some a):a<N:=by
 by_cases c:j<y.length
 ·exact hy a (h ▸ dX c none)
 ·rw[aI,gj (by omega)]at h;cases h
theorem Ao(s:Int)(y:List (Option Nat)):(mw s y).length=y.length:=by unfold mw;rw[bu,cZ]
theorem DE(s:Int)(y:List (Option Nat)):(mx m s y).length=y.length:=by unfold mx;rw[bu,cZ]
theorem WA{a b:List (Option Nat)}(h1:a.length=b.length)(h:∀j,j<b.length->a.getD j none=b.getD j none):a=b:=yv λj=>by
 by_cases c:j<b.length
 ·rw[qm c,qm (by omega),h j c]
 ·rw[gj (by omega),gj (by omega)]
theorem cz9(s:Int)(y:List (Option Nat)):mw (-s) (mw s y)=y:=WA (by rw[Ao,Ao]) λj hj=>by
 unfold mw
 have h1:=DD hj (-s)
 rw[Int.neg_neg]at h1
 rw[bu,cZ,wu _ hj,wu _ h1.1,h1.2]
theorem cE2(hm:m∈av)(s:Int){y:List (Option Nat)}(hy:∀a,some a∈y->a<aa m):mx m (-s) (mx m s y)=y:=WA (by rw[DE,DE]) λj hj=>by
 unfold mx
 rw[bu,cZ,wu _ hj,wu _ hj]
 cases ev:y.getD j none with
 | none=>rfl
 | some a =>
  show some (gm m (gm m a (eS m (s*(j:Int)))) (eS m (-s*(j:Int))))=some a
  rw[eR (bB m hm),kI hm,Int.neg_mul,Int.add_right_neg,qh hm,jr (An hy j a ev)]
theorem WB(hm:m∈av){b e:Nat}{y:List (Option Nat)}{w:List Nat}(s:Int)(hy:∀a,some a∈y->a<aa m)(hn:y.length+1=aa m)(h:Nr m b e y w):Nr m b e (mw s y) (Al s w):=by
 have lw:=h.ln
 refine h.turn hm (n:=y.length) (π:=rt y.length s) (σ:=rt y.length (-s)) (γ:=λ_=>0) rfl (Ao ..) (by unfold Al;rw[bu,cZ,lw]) (λj hj=>DD hj s) (λj hj=>by have:=DD hj (-s);rwa [Int.neg_neg]at this) (λj hj=>?_) (λj hj=>?_) λi hi=>⟨i,hi,((b:Int)+(i:Int))*s,λj hj=>?_⟩
 ·unfold mw
  rw[wu _ hj,Wz hm (An hy _)]
 ·unfold Al
  rw[lw,wj _ hj,qh hm,jr (bU hm h.lt _)]
 ·have n0:=fU ((j:Int)-s) (show(y.length:Int)≠0 by omega)
  have ed:=di5 ((j:Int)-s) (y.length:Int)
  unfold rt
  rw[oF n0,show(aa m:Int)-1=(y.length:Int) by omega]
  generalize ((j:Int)-s)/(y.length:Int)=qq at ed
  generalize ((j:Int)-s)%(y.length:Int)=pp at ed
  refine⟨((b:Int)+(i:Int))*qq,?_⟩
  rw[Int.mul_left_comm,yw,<- Int.mul_add,<- Int.mul_sub]
  congr 1
  omega
theorem WC(hm:m∈av){b b' e:Nat}{y:List (Option Nat)}{w:List Nat}(hy:∀a,some a∈y->a<aa m)(hb:((aa m:Int)-1) ∣ (b':Int)+(b:Int)+(e:Int)-1)(h:Nr m b e y w):Nr m b' e y.reverse w.reverse:=by
 have lw:=h.ln
 refine h.turn hm (n:=y.length) (π:=λj=>y.length-1-j) (σ:=λj=>y.length-1-j) (γ:=λ_=>0) rfl (oG) (by rw[oG,lw]) (λj hj=>⟨by omega,by omega⟩) (λj hj=>⟨by omega,by omega⟩) (λj hj=>?_) (λj hj=>?_) λi hi=>⟨e-1-i,by omega,((b':Int)+(i:Int))*((y.length:Int)-1),λj hj=>?_⟩
 ·rw[Wz hm (An hy _),aI,BD hj,<- aI]
 ·rw[qh hm,jr (bU hm h.lt _)]
  unfold cf
  rw[aI,BD (by omega),<- aI,lw]
 ·obtain⟨z,hz⟩:=hb
  refine⟨-(z*((y.length:Int)-1-(j:Int))),?_⟩
  rw[Int.mul_neg,<- Int.mul_assoc,<- hz,show((y.length-1-j:Nat):Int)=(y.length:Int)-1-(j:Int) by omega,show((e-1-i:Nat):Int)=(e:Int)-1-(i:Int) by omega,show(j:Int)=((y.length:Int)-1)-((y.length:Int)-1-(j:Int)) by omega]
  generalize (y.length:Int)-1=N1
  generalize N1-(j:Int)=k
  rw[show N1-(N1-k)=k by omega]
  rw[Int.mul_sub,yw]
  have e1:((b':Int)+(b:Int)+(e:Int)-1)*k=((b':Int)+(i:Int))*k+((b:Int)+((e:Int)-1-(i:Int)))*k:=by rw[<-Fy];congr 1;omega
  rw[e1]
  omega
theorem WD(hm:m∈av){b b' e:Nat}{y:List (Option Nat)}{w:List Nat}{s:Int}(hb:((aa m:Int)-1) ∣ (b':Int)+s-(b:Int))(h:Nr m b e y w):Nr m b' e (mx m s y) (Am m s w):=by
 have lw:=h.ln
 refine h.turn hm (n:=y.length) (π:=λj=>j) (σ:=λj=>j) (γ:=λj=>s*(j:Int)) rfl (DE ..) (by unfold Am;rw[bu,cZ,lw]) (λj hj=>⟨hj,rfl⟩) (λj hj=>⟨hj,rfl⟩) (λj hj=>?_) (λj hj=>?_) λi hi=>⟨i,hi,0,λj hj=>?_⟩
 ·unfold mx
  rw[wu _ hj]
 ·unfold Am
  rw[lw,wj _ hj]
 ·obtain⟨z,hz⟩:=hb
  refine⟨z*(j:Int),?_⟩
  rw[<-Int.mul_assoc,<- hz,yw,<- Fy,<- Int.sub_mul]
  congr 1
  omega
noncomputable def tR(m:Bool × Nat)(g s:Nat)(w:List Nat):List Nat:=if g=0 then Al (s:Int) w else if g=1 then w.reverse else Am m (s:Int) w
theorem WE{w:List Nat}{k:Nat}(h:k<w.length):(w.map some).getD k none=some (cf w k):=by
 unfold cf
 rw[Dt some h 0 none]
theorem cC7(m:Bool × Nat)(g s:Nat)(w:List Nat):jy m g s (w.map some)=(tR m g s w).map some:=by
 unfold jy tR
 split
 ·unfold mw Al
  rw[bu,da]
  exact mM λj hj=>WE (DD (de.mp hj) _).1
 ·split
  ·rw[Rk]
  ·unfold mx Am
   rw[bu,da]
   exact mM λj hj=>by rw[WE (de.mp hj)];rfl
theorem cY8(hm:m∈av){b b' e g s:Nat}{y:List (Option Nat)}(hy:∀a,some a∈y->a<aa m)(h0:g=0->y.length+1=aa m)(HI:g=0->b'=b)(nY:g=1->((aa m:Int)-1) ∣ (b':Int)+(b:Int)+(e:Int)-1)(Jj:g≠0->g≠1->((aa m:Int)-1) ∣ (b':Int)+(s:Int)-(b:Int)) :
  (∀w,Nr m b e y w->Nr m b' e (jy m g s y) (tR m g s w))/\((∃w',Nr m b' e (jy m g s y) w')->∃w,Nr m b e y w):=by
 unfold jy tR
 split
 ·rename_i g0
  have hb:=HI g0
  subst hb
  refine⟨λw h=>WB hm _ hy (h0 g0) h,λ⟨w',h⟩=>?_⟩
  have:=WB hm (-(s:Int)) (λa ha=>?_) (by rw[Ao];exact h0 g0) h
  ·rw[cz9]at this;exact⟨_,this⟩
  ·obtain⟨j,_,h2⟩:=bZ.mp ha
   exact An hy _ a h2
 ·rename_i g0
  split
  ·rename_i g1
   refine⟨λw h=>WC hm hy (nY g1) h,λ⟨w',h⟩=>?_⟩
   have:=WC hm (b':=b) (λa ha=>hy a (Rl.mp ha)) (by rw[show(b:Int)+(b':Int)+(e:Int)-1=(b':Int)+(b:Int)+(e:Int)-1 by omega];exact nY g1) h
   rw[Rx]at this
   exact⟨_,this⟩
  ·rename_i g1
   refine⟨λw h=>WD hm (Jj g0 g1) h,λ⟨w',h⟩=>?_⟩
   have:=WD hm (b':=b) (s:=-(s:Int)) (by
    have:=Int.dvd_neg.mpr (Jj g0 g1)
    rwa [show -((b':Int)+(s:Int)-(b:Int))=(b:Int) + -(s:Int)-(b':Int) by omega]at this) h
   rw[cE2 hm _ hy]at this
   exact⟨_,this⟩
theorem cY4(hm:m∈av)(g s:Nat){y:List (Option Nat)}(hy:∀a,some a∈y->a<aa m):(∀a,some a∈jy m g s y->a<aa m)/\(jy m g s y).length=y.length:=by
 unfold jy
 split
 ·refine⟨λa ha=>?_,Ao ..⟩
  obtain⟨j,_,h2⟩:=bZ.mp ha
  exact An hy _ a h2
 ·split
  ·exact⟨λa ha=>hy a (Rl.mp ha),oG⟩
  ·refine⟨λa ha=>?_,DE ..⟩
   obtain⟨j,_,h2⟩:=bZ.mp ha
   obtain⟨x,_,rfl⟩:=ur.mp h2
   exact cj hm _ _
end
end L3
namespace L3
open PySem L2 Mf
section
variable{m:Bool × Nat}
end
end L3
namespace HK27
open PySem.W (Frag codeHdIn nsIn fnOf codeIn keepIn findIn isFn specialIn takesIn mroIn mg_of mg_none_of CodeHd)
open PySem L2 L3 Mf
seal L2.PSs L2.PS L2.PE L2.PT L2.PA L2.PI L2.PG L2.PO L2.PW
local macro_rules | `(tactic| walk_at "l3") => do
  let l ← (("rF o9 rG rH dT lU ni nj dC oS oZ oX oW oY rE lY sH pJ sI sJ rq rz rA rB rC rD oV sE pF pG ii pk rW pq rX rY rZ r6 r9 se iI gu sj sk sq sr pz pB lX sC sD gN sM sG rJ rN rO rP rQ rR sN sP sR pf jR fS iW iw qN qI yG yH o8 jQ iV pH pI pP sV sW sX vH kG s8 pV sY jn vK vI vJ eK kS qO mF eJ yI aT uD uE kW kX uF exists_eq_left' exists_eq_left D.bl.injEq D.int.injEq D.lst.injEq D.fz.injEq D.str.injEq D.tup.injEq uG and_true true_and eL oE jE mJ ve vf vg vh vi vj gG kr jU vo vp vq vt vv fj ku pK vk vm vn fY m9 yJ yK uf iE yL yM qH vz vA vB vC vD vE vF kF me pL jl pM vx sU vw pO vy sS jm sT if_true uB if_false reduceIte vG decide_eq_true_eq dF kH nB vM nC vL rK tf qe sZ pZ p5 tw tG tI jv wb nK wc qo sL cZ4 cZ6 cA1 cC3 Ig vZ".splitOn " ").toArray.map fun (s : String) => Lean.mkIdent s.toName).mapM fun i => `(Lean.Parser.Tactic.simpLemma| $i:term)
  `(tactic| (try dsimp only [$l,*]) <;> (try simp only [$l,*]))
noncomputable def top (i:Nat):Stmt:=PySem.Challenge.pw_mendfield_k27_nearest_turned.main.body.getD i (.Pass ⟨0,0,0,0⟩)
noncomputable abbrev wz:Stmt:=top 52
theorem Ap:bf ["_law_cell_here","_law_some","_law_primes"] ["_law_cell_here"] (ax wz):=⟨rfl,rfl,rfl,by decide +kernel,rfl,by decide +kernel,by decide +kernel⟩
noncomputable abbrev wA:Stmt:=top 40
theorem DF:bf ["a","product","found","power"] ["a","product"] (ax wA):=⟨rfl,rfl,rfl,by decide +kernel,rfl,by decide +kernel,by decide +kernel⟩
noncomputable abbrev wB:Stmt:=top 41
theorem Aq:bf ["many","product","step","found"] ["many","product"] (ax wB):=⟨rfl,rfl,rfl,by decide +kernel,rfl,by decide +kernel,by decide +kernel⟩
noncomputable abbrev wC:Stmt:=top 42
theorem Jk:bf ["powers","logs","n","a"] ["powers"] (ax wC):=⟨rfl,rfl,rfl,by decide +kernel,rfl,by decide +kernel,by decide +kernel⟩
noncomputable abbrev wD:Stmt:=gF (top 46) 8
theorem aE2:bf ["self","n"] ["self","n"] (ax wD):=⟨rfl,rfl,rfl,by decide +kernel,rfl,by decide +kernel,by decide +kernel⟩
noncomputable abbrev wF:Stmt:=gF (top 46) 0
theorem aP8:bf ["self","many","product"] ["self","many","product"] (ax wF):=⟨rfl,rfl,rfl,by decide +kernel,rfl,by decide +kernel,by decide +kernel⟩
noncomputable abbrev wG:Stmt:=top 45
theorem aC4:bf ["prime"] ["prime"] (ax wG):=⟨rfl,rfl,rfl,by decide +kernel,rfl,by decide +kernel,by decide +kernel⟩
noncomputable abbrev nZ:Stmt:=gF (top 48) 0
theorem aF4:bf ["self","prime"] ["self","prime"] (ax nZ):=⟨rfl,rfl,rfl,by decide +kernel,rfl,by decide +kernel,by decide +kernel⟩
noncomputable abbrev wH:Stmt:=top 43
theorem DG:bf ["powers","logs","many","rows","a"] ["powers","logs"] (ax wH):=⟨rfl,rfl,rfl,by decide +kernel,rfl,by decide +kernel,by decide +kernel⟩
noncomputable abbrev wI:Stmt:=top 37
theorem wJ:bf ["a","b","quotient","rest","shift"] ["a","b"] (ax wI):=⟨rfl,rfl,rfl,by decide +kernel,rfl,by decide +kernel,by decide +kernel⟩
noncomputable abbrev wK:Stmt:=top 38
theorem Jl:bf ["a","half","b"] ["a"] (ax wK):=⟨rfl,rfl,rfl,by decide +kernel,rfl,by decide +kernel,by decide +kernel⟩
noncomputable abbrev wL:Stmt:=top 44
theorem aF5:bf ["bits"] ["bits"] (ax wL):=⟨rfl,rfl,rfl,by decide +kernel,rfl,by decide +kernel,by decide +kernel⟩
noncomputable abbrev wM:Stmt:=top 36
theorem DH:bf ["a","b","product","k"] ["a","b"] (ax wM):=⟨rfl,rfl,rfl,by decide +kernel,rfl,by decide +kernel,by decide +kernel⟩
noncomputable abbrev n8:Stmt:=gF (top 47) 0
theorem WG:bf ["self","bits","many"] ["self","bits"] (ax n8):=⟨rfl,rfl,rfl,by decide +kernel,rfl,by decide +kernel,by decide +kernel⟩
noncomputable abbrev wN:Stmt:=top 54
theorem aP9:bf ["_law_told_here"] ["_law_told_here"] (ax wN):=⟨rfl,rfl,rfl,by decide +kernel,rfl,by decide +kernel,by decide +kernel⟩
noncomputable abbrev wO:Stmt:=top 53
theorem aS2:bf ["_law_told_here"] ["_law_told_here"] (ax wO):=⟨rfl,rfl,rfl,by decide +kernel,rfl,by decide +kernel,by decide +kernel⟩
noncomputable abbrev wQ:Stmt:=top 57
theorem wR:bf ["_law_told_here","_law_a","_law_b","_law_total"] ["_law_told_here","_law_a","_law_b"] (ax wQ):=⟨rfl,rfl,rfl,by decide +kernel,rfl,by decide +kernel,by decide +kernel⟩
noncomputable abbrev wU:Stmt:=top 61
theorem Ar:bf ["_law_told_here","_law_many_here","_law_step","_law_powers_here","_law_ahead"] ["_law_told_here","_law_many_here"] (ax wU):=⟨rfl,rfl,rfl,by decide +kernel,rfl,by decide +kernel,by decide +kernel⟩
noncomputable abbrev wV:Stmt:=top 50
theorem aS3:bf ["_law_script","_law_k"] ["_law_script","_law_k"] (ax wV):=⟨rfl,rfl,rfl,by decide +kernel,rfl,by decide +kernel,by decide +kernel⟩
noncomputable abbrev wW:Stmt:=top 64
theorem n9:bf ["_law_script","_law_many_here","_law_whole_here","_law_length","_law_extra","_law_first","_law_count"] ["_law_script","_law_many_here","_law_whole_here"] (ax wW):=⟨rfl,rfl,rfl,by decide +kernel,rfl,by decide +kernel,by decide +kernel⟩
noncomputable abbrev wX:Stmt:=top 59
theorem WH:bf ["_law_row"] ["_law_row"] (ax wX):=⟨rfl,rfl,rfl,by decide +kernel,rfl,by decide +kernel,by decide +kernel⟩
noncomputable abbrev wY:Stmt:=top 55
theorem aS4:bf ["_law_told_here","_law_a","_law_b"] ["_law_told_here","_law_a","_law_b"] (ax wY):=⟨rfl,rfl,rfl,by decide +kernel,rfl,by decide +kernel,by decide +kernel⟩
noncomputable abbrev wZ:Stmt:=top 60
theorem DI:bf ["_law_told_here","_law_a","_law_b","_law_total","_law_i","_law_x","_law_j","_law_y"] ["_law_told_here","_law_a","_law_b"] (ax wZ):=⟨rfl,rfl,rfl,by decide +kernel,rfl,by decide +kernel,by decide +kernel⟩
noncomputable abbrev w5:Stmt:=top 56
theorem aS5:bf ["_law_told_here","_law_a","_law_b"] ["_law_told_here","_law_a","_law_b"] (ax w5):=⟨rfl,rfl,rfl,by decide +kernel,rfl,by decide +kernel,by decide +kernel⟩
noncomputable abbrev w6:Stmt:=top 62
theorem tS:bf ["_law_script","_law_told_here","_law_many_here","_law_powers_here","_law_numbers_here","_law_maker","_law_i","_law_base","_law_message","_law_word_here"] ["_law_script","_law_told_here","_law_many_here","_law_powers_here","_law_numbers_here"] (ax w6):=⟨rfl,rfl,rfl,by decide +kernel,rfl,by decide +kernel,by decide +kernel⟩
noncomputable abbrev w9:Stmt:=top 63
theorem As:bf ["_law_script","_law_told_here","_law_many_here","_law_word_here","_law_count","_law_row","_law_k","_law_p","_law_change"] ["_law_script","_law_told_here","_law_many_here","_law_word_here","_law_count"] (ax w9):=⟨rfl,rfl,rfl,by decide +kernel,rfl,by decide +kernel,by decide +kernel⟩
noncomputable abbrev xa:Stmt:=top 65
theorem Jm:bf ["_law_told_here","_law_many_here","_law_powers_here","_law_row","_law_way","_law_steps","_law_other","_law_j","_law_sign"] ["_law_told_here","_law_many_here","_law_powers_here","_law_row","_law_way","_law_steps"] (ax xa):=⟨rfl,rfl,rfl,by decide +kernel,rfl,by decide +kernel,by decide +kernel⟩
noncomputable abbrev xb:Stmt:=top 29
theorem aO2:bf ["signs"] ["signs"] (ax xb):=⟨rfl,rfl,rfl,by decide +kernel,rfl,by decide +kernel,by decide +kernel⟩
noncomputable abbrev xf:Stmt:=top 30
theorem aE3:bf ["signs"] ["signs"] (ax xf):=⟨rfl,rfl,rfl,by decide +kernel,rfl,by decide +kernel,by decide +kernel⟩
noncomputable abbrev xg:Stmt:=gF (top 47) 1
theorem aK5:bf ["self","a","b"] ["self","a","b"] (ax xg):=⟨rfl,rfl,rfl,by decide +kernel,rfl,by decide +kernel,by decide +kernel⟩
noncomputable abbrev xh:Stmt:=gF (top 48) 1
theorem aF6:bf ["self","a","b"] ["self","a","b"] (ax xh):=⟨rfl,rfl,rfl,by decide +kernel,rfl,by decide +kernel,by decide +kernel⟩
noncomputable abbrev xi:Stmt:=gF (top 47) 3
theorem aI2:bf ["self","a","b"] ["self","a","b"] (ax xi):=⟨rfl,rfl,rfl,by decide +kernel,rfl,by decide +kernel,by decide +kernel⟩
noncomputable abbrev xj:Stmt:=gF (top 48) 3
theorem aE4:bf ["self","a","b"] ["self","a","b"] (ax xj):=⟨rfl,rfl,rfl,by decide +kernel,rfl,by decide +kernel,by decide +kernel⟩
noncomputable abbrev xk:Stmt:=top 10
theorem DJ:bf ["field","a","x","value","number"] ["field","a","x"] (ax xk):=⟨rfl,rfl,rfl,by decide +kernel,rfl,by decide +kernel,by decide +kernel⟩
noncomputable abbrev xm:Stmt:=top 21
theorem aS6:bf ["field","first","extra","word"] ["field","first","extra","word"] (ax xm):=⟨rfl,rfl,rfl,by decide +kernel,rfl,by decide +kernel,by decide +kernel⟩
noncomputable abbrev xn:Stmt:=top 6
theorem Jn:bf ["a","length"] ["a"] (ax xn):=⟨rfl,rfl,rfl,by decide +kernel,rfl,by decide +kernel,by decide +kernel⟩
noncomputable abbrev xo:Stmt:=top 9
theorem DK:bf ["field","a","b","total","i","x","j","y"] ["field","a","b"] (ax xo):=⟨rfl,rfl,rfl,by decide +kernel,rfl,by decide +kernel,by decide +kernel⟩
noncomputable abbrev xp:Stmt:=gF (top 47) 2
theorem aI3:bf ["self","a","b"] ["self","a","b"] (ax xp):=⟨rfl,rfl,rfl,by decide +kernel,rfl,by decide +kernel,by decide +kernel⟩
noncomputable abbrev xq:Stmt:=gF (top 48) 2
theorem aE5:bf ["self","a","b"] ["self","a","b"] (ax xq):=⟨rfl,rfl,rfl,by decide +kernel,rfl,by decide +kernel,by decide +kernel⟩
noncomputable abbrev xt:Stmt:=top 22
theorem DL:bf ["field","places","finder","place"] ["field","places"] (ax xt):=⟨rfl,rfl,rfl,by decide +kernel,rfl,by decide +kernel,by decide +kernel⟩
noncomputable abbrev xu:Stmt:=gF (top 47) 5
theorem Au:bf ["self","xs","ys","products","total","x","y"] ["self","xs","ys"] (ax xu):=⟨rfl,rfl,rfl,by decide +kernel,rfl,by decide +kernel,by decide +kernel⟩
noncomputable abbrev xv:Stmt:=gF (top 48) 5
theorem aI4:bf ["self","xs","ys"] ["self","xs","ys"] (ax xv):=⟨rfl,rfl,rfl,by decide +kernel,rfl,by decide +kernel,by decide +kernel⟩
noncomputable abbrev xw:Stmt:=top 26
theorem aY1:bf ["field","row","c","place"] ["field","row","c","place"] (ax xw):=⟨rfl,rfl,rfl,by decide +kernel,rfl,by decide +kernel,by decide +kernel⟩
noncomputable abbrev xx:Stmt:=top 7
theorem aY2:bf ["a","length"] ["a","length"] (ax xx):=⟨rfl,rfl,rfl,by decide +kernel,rfl,by decide +kernel,by decide +kernel⟩
noncomputable abbrev xy:Stmt:=top 8
theorem WI:bf ["field","a","b","length"] ["field","a","b"] (ax xy):=⟨rfl,rfl,rfl,by decide +kernel,rfl,by decide +kernel,by decide +kernel⟩
noncomputable abbrev xA:Stmt:=gF (top 47) 6
theorem WJ:bf ["self","a","row","by_a"] ["self","a","row"] (ax xA):=⟨rfl,rfl,rfl,by decide +kernel,rfl,by decide +kernel,by decide +kernel⟩
noncomputable abbrev xB:Stmt:=gF (top 48) 6
theorem WK:bf ["self","a","row","prime"] ["self","a","row"] (ax xB):=⟨rfl,rfl,rfl,by decide +kernel,rfl,by decide +kernel,by decide +kernel⟩
noncomputable abbrev xC:Stmt:=gF (top 46) 5
theorem aQ0:bf ["self","a","b"] ["self","a","b"] (ax xC):=⟨rfl,rfl,rfl,by decide +kernel,rfl,by decide +kernel,by decide +kernel⟩
noncomputable abbrev xD:Stmt:=top 27
theorem hE:bf ["field","row","size","c","old","old_off","back","place","off","mended"] ["field","row"] (ax xD):=⟨rfl,rfl,rfl,by decide +kernel,rfl,by decide +kernel,by decide +kernel⟩
noncomputable abbrev xE:Stmt:=top 23
theorem aS7:bf ["field","finder","length"] ["field","finder","length"] (ax xE):=⟨rfl,rfl,rfl,by decide +kernel,rfl,by decide +kernel,by decide +kernel⟩
noncomputable abbrev xF:Stmt:=top 33
theorem Av:bf ["field","lost","sums","length","known","left","rule","found"] ["field","lost","sums","length"] (ax xF):=⟨rfl,rfl,rfl,by decide +kernel,rfl,by decide +kernel,by decide +kernel⟩
noncomputable abbrev xG:Stmt:=top 12
theorem aV2:bf ["table"] ["table"] (ax xG):=⟨rfl,rfl,rfl,by decide +kernel,rfl,by decide +kernel,by decide +kernel⟩
noncomputable abbrev xH:Stmt:=top 13
theorem WL:bf ["rows","place","number","row"] ["rows","place"] (ax xH):=⟨rfl,rfl,rfl,by decide +kernel,rfl,by decide +kernel,by decide +kernel⟩
noncomputable abbrev xI:Stmt:=gF (top 47) 7
theorem WM:bf ["self","row","a","other","by_a"] ["self","row","a","other"] (ax xI):=⟨rfl,rfl,rfl,by decide +kernel,rfl,by decide +kernel,by decide +kernel⟩
noncomputable abbrev xJ:Stmt:=gF (top 48) 7
theorem WN:bf ["self","row","a","other","prime"] ["self","row","a","other"] (ax xJ):=⟨rfl,rfl,rfl,by decide +kernel,rfl,by decide +kernel,by decide +kernel⟩
noncomputable abbrev xK:Stmt:=top 14
theorem aX2:bf ["field","rows","lead_row","place"] ["field","rows","lead_row","place"] (ax xK):=⟨rfl,rfl,rfl,by decide +kernel,rfl,by decide +kernel,by decide +kernel⟩
noncomputable abbrev xM:Stmt:=top 15
theorem qp:bf ["field","table","done","left","place","number","lead_row"] ["field","table"] (ax xM):=⟨rfl,rfl,rfl,by decide +kernel,rfl,by decide +kernel,by decide +kernel⟩
noncomputable abbrev xN:Stmt:=top 16
theorem cl6:bf ["rows"] ["rows"] (ax xN):=⟨rfl,rfl,rfl,by decide +kernel,rfl,by decide +kernel,by decide +kernel⟩
noncomputable abbrev xO:Stmt:=top 18
theorem aV3:bf ["table","due"] ["table","due"] (ax xO):=⟨rfl,rfl,rfl,by decide +kernel,rfl,by decide +kernel,by decide +kernel⟩
noncomputable abbrev xP:Stmt:=top 19
theorem xQ:bf ["field","table","due","width","rows","taken","x","lead","row"] ["field","table","due"] (ax xP):=⟨rfl,rfl,rfl,by decide +kernel,rfl,by decide +kernel,by decide +kernel⟩
noncomputable abbrev xR:Stmt:=top 24
theorem WO:bf ["field","first","places","sums","table"] ["field","first","places","sums"] (ax xR):=⟨rfl,rfl,rfl,by decide +kernel,rfl,by decide +kernel,by decide +kernel⟩
noncomputable abbrev xS:Stmt:=top 31
theorem Jo:bf ["field","word","places","signs","left","place","sign"] ["field","word","places","signs"] (ax xS):=⟨rfl,rfl,rfl,by decide +kernel,rfl,by decide +kernel,by decide +kernel⟩
noncomputable abbrev xT:Stmt:=top 34
theorem tT:bf ["field","first","extra","word","lost","known","sums","wrong","places","signs"] ["field","first","extra","word"] (ax xT):=⟨rfl,rfl,rfl,by decide +kernel,rfl,by decide +kernel,by decide +kernel⟩
noncomputable abbrev xU:Stmt:=top 51
theorem aQ1:bf ["_law_x"] ["_law_x"] (ax xU):=⟨rfl,rfl,rfl,by decide +kernel,rfl,by decide +kernel,by decide +kernel⟩
noncomputable abbrev xV:Stmt:=top 58
theorem aQ2:bf ["_law_found","_law_many_here"] ["_law_found","_law_many_here"] (ax xV):=⟨rfl,rfl,rfl,by decide +kernel,rfl,by decide +kernel,by decide +kernel⟩
noncomputable abbrev oa:Stmt:=top 66
theorem gM:bf ["_law_script","_law_told_here","_law_field_here","_law_many_here","_law_powers_here","_law_way","_law_steps","_law_numbers_here","_law_word_here","_law_row","_law_other","_law_first","_law_handed","_law_one","_law_two"] ["_law_script"] (ax oa):=⟨rfl,rfl,rfl,by decide +kernel,rfl,by decide +kernel,by decide +kernel⟩
set_option genInjectivity false in
set_option genSizeOf false in
structure kj where
 Jp:Addr
 Jq:FuncData
 Jr:Addr
 Js:FuncData
 Jt:Addr
 Ju:FuncData
 Jv:Addr
 Jw:FuncData
 Aw:Addr
 Jx:FuncData
 Jy:Addr
 Jz:FuncData
 JA:Addr
 JB:FuncData
 JC:Addr
 DM:FuncData
 JE:Addr
 JF:FuncData
 JG:Addr
 JH:FuncData
 JI:Addr
 JJ:FuncData
 JK:Addr
 JL:FuncData
 JM:Addr
 JN:FuncData
 JO:Addr
 DN:FuncData
 JP:Addr
 JQ:FuncData
 JR:Addr
 JS:FuncData
 JT:Addr
 JU:FuncData
 JV:Addr
 JW:FuncData
 JX:Addr
 JY:FuncData
 JZ:Addr
 J0:FuncData
 J1:Addr
 J2:FuncData
 J3:Addr
 J4:FuncData
 J5:Addr
 J6:FuncData
 J7:Addr
 J8:FuncData
 J9:Addr
 Ka:FuncData
 Kb:Addr
 Kd:FuncData
 Ke:Addr
 Kf:FuncData
 Kg:Addr
 Kh:FuncData
 Ki:Addr
 Kj:FuncData
 Kk:Addr
 Kl:FuncData
 Km:Addr
 Kn:FuncData
 Ko:Addr
 Kp:FuncData
 Kq:Addr
 Kr:FuncData
 Ks:Addr
 Kt:FuncData
 Ku:Addr
 Kv:FuncData
 Kw:Addr
 Kx:FuncData
 Ky:Addr
 Kz:FuncData
 KA:Addr
 KC:FuncData
 KD:Addr
 KG:FuncData
 KH:Addr
 KI:FuncData
 KJ:Addr
 KL:FuncData
 KN:Addr
 KO:FuncData
 KP:Addr
 KQ:FuncData
 KR:Addr
 KS:FuncData
 KU:Addr
 KW:FuncData
 KY:Addr
 KZ:FuncData
 K0:Addr
 K1:FuncData
 DO:Addr
 K2:FuncData
 K3:Addr
 K4:FuncData
 K5:Addr
 K6:FuncData
 K7:Addr
 K8:FuncData
 K9:Addr
 La:FuncData
 Lb:Addr
 Lc:FuncData
 Ld:Addr
 Le:FuncData
 Lf:Addr
 Lg:FuncData
 Lh:Addr
 Li:FuncData
 Lj:Addr
 Lk:FuncData
 Ll:Addr
 Lm:FuncData
 Ln:Addr
 Lo:FuncData
 Lp:Addr
 Lq:FuncData
 Lr:Addr
 Ls:FuncData
 Lu:Addr
 Lv:FuncData
 Lw:Addr
 Lx:FuncData
 Ly:Addr
 Lz:FuncData
 LA:Addr
 LB:FuncData
 LC:Addr
 LD:FuncData
 WQ:Addr
 kN:Addr
 WR:Addr
 kO:Addr
 aK:Addr
 hJ:Addr
 kP:Addr
 aM:Addr
structure Txt(K:Frag)(mg:Str->Option Value)(t:kj):Prop where
 WS:aY K "_law_told" "_law_told" wz t.Jp t.Jq
 aV4:mg "_law_told"=some (.ref t.Jp)
 aV5:Binds K t.Jq ["_law_cell_here"] []
 LF:aY K "powers_of" "powers_of" wA t.Jr t.Js
 WT:mg "powers_of"=some (.ref t.Jr)
 WU:Binds K t.Js ["a","product"] []
 WV:aY K "step_powers" "step_powers" wB t.Jt t.Ju
 d89:mg "step_powers"=some (.ref t.Jt)
 d90:Binds K t.Ju ["many","product"] []
 WW:aY K "logs_of" "logs_of" wC t.Jv t.Jw
 d91:mg "logs_of"=some (.ref t.Jv)
 d92:Binds K t.Jw ["powers"] []
 aF7:aY K "step_power" "Field.step_power" wD t.Aw t.Jx
 Az:Binds K t.Jx ["self","n"] []
 aS8:aY K "__init__" "Field.__init__" wF t.Jy t.Jz
 WX:Binds K t.Jz ["self","many","product"] []
 WY:aY K "makes_prime_field" "makes_prime_field" wG t.JA t.JB
 d95:mg "makes_prime_field"=some (.ref t.JA)
 d96:Binds K t.JB ["prime"] []
 aI5:aY K "__init__" "PrimeField.__init__" nZ t.JC t.DM
 aI6:Binds K t.DM ["self","prime"] []
 WZ:aY K "product_rows" "product_rows" wH t.JE t.JF
 d99:mg "product_rows"=some (.ref t.JE)
 ea0:Binds K t.JF ["powers","logs"] []
 LG:aY K "bits_divided" "bits_divided" wI t.JG t.JH
 W0:mg "bits_divided"=some (.ref t.JG)
 W2:Binds K t.JH ["a","b"] []
 W3:aY K "stands_alone" "stands_alone" wK t.JI t.JJ
 ea1:mg "stands_alone"=some (.ref t.JI)
 ea2:Binds K t.JJ ["a"] []
 W4:aY K "makes_bit_field" "makes_bit_field" wL t.JK t.JL
 ea3:mg "makes_bit_field"=some (.ref t.JK)
 ea4:Binds K t.JL ["bits"] []
 W5:aY K "bits_times" "bits_times" wM t.JM t.JN
 ea5:mg "bits_times"=some (.ref t.JM)
 ea6:Binds K t.JN ["a","b"] []
 aM0:aY K "__init__" "BitField.__init__" n8 t.JO t.DN
 aM1:Binds K t.DN ["self","bits"] []
 W6:aY K "_law_field" "_law_field" wN t.JP t.JQ
 aS9:mg "_law_field"=some (.ref t.JP)
 aT0:Binds K t.JQ ["_law_told_here"] []
 W7:aY K "_law_many" "_law_many" wO t.JR t.JS
 aV6:mg "_law_many"=some (.ref t.JR)
 aV7:Binds K t.JS ["_law_told_here"] []
 DP:aY K "_law_times" "_law_times" wQ t.JT t.JU
 LH:mg "_law_times"=some (.ref t.JT)
 LJ:Binds K t.JU ["_law_told_here","_law_a","_law_b"] []
 W8:aY K "_law_powers" "_law_powers" wU t.JV t.JW
 aQ3:mg "_law_powers"=some (.ref t.JV)
 aQ4:Binds K t.JW ["_law_told_here","_law_many_here"] []
 iA:aY K "_law_cell" "_law_cell" wV t.JX t.JY
 ja:mg "_law_cell"=some (.ref t.JX)
 jb:Binds K t.JY ["_law_script","_law_k"] []
 W9:aY K "_law_numbers" "_law_numbers" wW t.JZ t.J0
 aO3:mg "_law_numbers"=some (.ref t.JZ)
 aO4:Binds K t.J0 ["_law_script","_law_many_here","_law_whole_here"] []
 Xa:aY K "_law_cut" "_law_cut" wX t.J1 t.J2
 aX3:mg "_law_cut"=some (.ref t.J1)
 aX4:Binds K t.J2 ["_law_row"] []
 LK:aY K "_law_plus" "_law_plus" wY t.J3 t.J4
 Xb:mg "_law_plus"=some (.ref t.J3)
 Xc:Binds K t.J4 ["_law_told_here","_law_a","_law_b"] []
 LL:aY K "_law_product" "_law_product" wZ t.J5 t.J6
 Xd:mg "_law_product"=some (.ref t.J5)
 Xe:Binds K t.J6 ["_law_told_here","_law_a","_law_b"] []
 Xf:aY K "_law_less" "_law_less" w5 t.J7 t.J8
 aV8:mg "_law_less"=some (.ref t.J7)
 aV9:Binds K t.J8 ["_law_told_here","_law_a","_law_b"] []
 Xg:aY K "_law_word" "_law_word" w6 t.J9 t.Ka
 aW0:mg "_law_word"=some (.ref t.J9)
 aW1:Binds K t.Ka ["_law_script","_law_told_here","_law_many_here","_law_powers_here","_law_numbers_here"] []
 Xh:aY K "_law_spoilt" "_law_spoilt" w9 t.Kb t.Kd
 aQ5:mg "_law_spoilt"=some (.ref t.Kb)
 aQ6:Binds K t.Kd ["_law_script","_law_told_here","_law_many_here","_law_word_here","_law_count"] []
 LM:aY K "_law_turned" "_law_turned" xa t.Ke t.Kf
 Xi:mg "_law_turned"=some (.ref t.Ke)
 Xj:Binds K t.Kf ["_law_told_here","_law_many_here","_law_powers_here","_law_row","_law_way","_law_steps"] []
 Xk:aY K "lost_places" "lost_places" xb t.Kg t.Kh
 ec5:mg "lost_places"=some (.ref t.Kg)
 ec6:Binds K t.Kh ["signs"] []
 Xl:aY K "noughts_for_lost" "noughts_for_lost" xf t.Ki t.Kj
 ec7:mg "noughts_for_lost"=some (.ref t.Ki)
 ec8:Binds K t.Kj ["signs"] []
 aM3:aY K "plus" "BitField.plus" xg t.Kk t.Kl
 aM4:Binds K t.Kl ["self","a","b"] []
 aI7:aY K "plus" "PrimeField.plus" xh t.Km t.Kn
 aI8:Binds K t.Kn ["self","a","b"] []
 aK6:aY K "times" "BitField.times" xi t.Ko t.Kp
 aK7:Binds K t.Kp ["self","a","b"] []
 aG0:aY K "times" "PrimeField.times" xj t.Kq t.Kr
 aG1:Binds K t.Kr ["self","a","b"] []
 LN:aY K "value_at" "value_at" xk t.Ks t.Kt
 Xm:mg "value_at"=some (.ref t.Ks)
 Xn:Binds K t.Kt ["field","a","x"] []
 Xo:aY K "root_sums" "root_sums" xm t.Ku t.Kv
 ed7:mg "root_sums"=some (.ref t.Ku)
 ed8:Binds K t.Kv ["field","first","extra","word"] []
 LO:aY K "trimmed" "trimmed" xn t.Kw t.Kx
 Xp:mg "trimmed"=some (.ref t.Kw)
 Xq:Binds K t.Kx ["a"] []
 Xr:aY K "poly_times" "poly_times" xo t.Ky t.Kz
 ed9:mg "poly_times"=some (.ref t.Ky)
 ee0:Binds K t.Kz ["field","a","b"] []
 aK8:aY K "minus" "BitField.minus" xp t.KA t.KC
 aK9:Binds K t.KC ["self","a","b"] []
 aG2:aY K "minus" "PrimeField.minus" xq t.KD t.KG
 aG3:Binds K t.KG ["self","a","b"] []
 Xs:aY K "place_finder" "place_finder" xt t.KH t.KI
 ee5:mg "place_finder"=some (.ref t.KH)
 ee6:Binds K t.KI ["field","places"] []
 aO5:aY K "dot" "BitField.dot" xu t.KJ t.KL
 aO6:Binds K t.KL ["self","xs","ys"] []
 aL0:aY K "dot" "PrimeField.dot" xv t.KN t.KO
 aL1:Binds K t.KO ["self","xs","ys"] []
 LP:aY K "off_at" "off_at" xw t.KP t.KQ
 Xt:mg "off_at"=some (.ref t.KP)
 Xu:Binds K t.KQ ["field","row","c","place"] []
 DQ:aY K "filled" "filled" xx t.KR t.KS
 LQ:mg "filled"=some (.ref t.KR)
 LR:Binds K t.KS ["a","length"] []
 Xv:aY K "poly_minus" "poly_minus" xy t.KU t.KW
 ef1:mg "poly_minus"=some (.ref t.KU)
 ef2:Binds K t.KW ["field","a","b"] []
 aI9:aY K "scaled" "BitField.scaled" xA t.KY t.KZ
 aJ0:Binds K t.KZ ["self","a","row"] []
 aE6:aY K "scaled" "PrimeField.scaled" xB t.K0 t.K1
 aE7:Binds K t.K1 ["self","a","row"] []
 aT1:aY K "over" "Field.over" xC t.DO t.K2
 Xw:Binds K t.K2 ["self","a","b"] []
 Xx:aY K "shortest" "shortest" xD t.K3 t.K4
 ef8:mg "shortest"=some (.ref t.K3)
 ef9:Binds K t.K4 ["field","row"] []
 Xy:aY K "places_in" "places_in" xE t.K5 t.K6
 eg0:mg "places_in"=some (.ref t.K5)
 eg1:Binds K t.K6 ["field","finder","length"] []
 Xz:aY K "wrong_places" "wrong_places" xF t.K7 t.K8
 eg2:mg "wrong_places"=some (.ref t.K7)
 eg3:Binds K t.K8 ["field","lost","sums","length"] []
 LS:aY K "width_of" "width_of" xG t.K9 t.La
 XA:mg "width_of"=some (.ref t.K9)
 XB:Binds K t.La ["table"] []
 XC:aY K "first_with" "first_with" xH t.Lb t.Lc
 eg4:mg "first_with"=some (.ref t.Lb)
 eg5:Binds K t.Lc ["rows","place"] []
 aE8:aY K "lessened" "BitField.lessened" xI t.Ld t.Le
 aE9:Binds K t.Le ["self","row","a","other"] []
 aC0:aY K "lessened" "PrimeField.lessened" xJ t.Lf t.Lg
 aC1:Binds K t.Lg ["self","row","a","other"] []
 LU:aY K "cleared" "cleared" xK t.Lh t.Li
 XD:mg "cleared"=some (.ref t.Lh)
 XE:Binds K t.Li ["field","rows","lead_row","place"] []
 XF:aY K "reduced" "reduced" xM t.Lj t.Lk
 eh0:mg "reduced"=some (.ref t.Lj)
 eh1:Binds K t.Lk ["field","table"] []
 XG:aY K "leads" "leads" xN t.Ll t.Lm
 eh2:mg "leads"=some (.ref t.Ll)
 eh3:Binds K t.Lm ["rows"] []
 XH:aY K "with_due" "with_due" xO t.Ln t.Lo
 eh4:mg "with_due"=some (.ref t.Ln)
 eh5:Binds K t.Lo ["table","due"] []
 XI:aY K "solved" "solved" xP t.Lp t.Lq
 eh6:mg "solved"=some (.ref t.Lp)
 eh7:Binds K t.Lq ["field","table","due"] []
 XJ:aY K "signs_at" "signs_at" xR t.Lr t.Ls
 eh8:mg "signs_at"=some (.ref t.Lr)
 eh9:Binds K t.Ls ["field","first","places","sums"] []
 XM:aY K "taken_off" "taken_off" xS t.Lu t.Lv
 ei0:mg "taken_off"=some (.ref t.Lu)
 ei1:Binds K t.Lv ["field","word","places","signs"] []
 LV:aY K "root_nearest" "root_nearest" xT t.Lw t.Lx
 XN:mg "root_nearest"=some (.ref t.Lw)
 XO:Binds K t.Lx ["field","first","extra","word"] []
 XQ:aY K "_law_whole" "_law_whole" xU t.Ly t.Lz
 aT2:mg "_law_whole"=some (.ref t.Ly)
 aT3:Binds K t.Lz ["_law_x"] []
 LW:aY K "_law_signs" "_law_signs" xV t.LA t.LB
 XR:mg "_law_signs"=some (.ref t.LA)
 XS:Binds K t.LB ["_law_found","_law_many_here"] []
 ei4:aY K "law" "law" oa t.LC t.LD
 fx0:mg "law"=some (.ref t.LC)
 fx1:Binds K t.LD ["_law_script"] []
 aG8:t.DM.code=.ref t.WQ
 aG9:codeHdIn K t.WQ t.kN=true
 aL2:t.DN.code=.ref t.WR
 aL3:codeHdIn K t.WR t.kO=true
 fv:dR K t.aK
 AA:Mk K t.aK t.JO
 aY8:Vd K t.aK
 AB:cq K t.aK "bits"
 qu:cq K t.aK "logs"
 tU:cq K t.aK "many"
 qv:cq K t.aK "powers"
 DR:cq K t.aK "prime"
 og:cq K t.aK "products"
 AD:cq K t.aK "step"
 AE:cq K t.aK "wide"
 AF:Meth K t.aK "dot" t.KJ
 AG:Meth K t.aK "lessened" t.Ld
 AH:Meth K t.aK "minus" t.KA
 AI:Meth K t.aK "over" t.DO
 AJ:Meth K t.aK "plus" t.Kk
 AK:Meth K t.aK "scaled" t.KY
 tV:Meth K t.aK "step_power" t.Aw
 AL:Meth K t.aK "times" t.Ko
 fK:dR K t.aM
 AM:Mk K t.aM t.JC
 aY7:Vd K t.aM
 DS:cq K t.aM "bits"
 tW:cq K t.aM "logs"
 tX:cq K t.aM "many"
 tY:cq K t.aM "powers"
 kQ:cq K t.aM "prime"
 DT:cq K t.aM "products"
 AN:cq K t.aM "step"
 AO:cq K t.aM "wide"
 AQ:Meth K t.aM "dot" t.KN
 AR:Meth K t.aM "lessened" t.Lf
 AS:Meth K t.aM "minus" t.KD
 AU:Meth K t.aM "over" t.DO
 AV:Meth K t.aM "plus" t.Km
 AW:Meth K t.aM "scaled" t.K0
 tZ:Meth K t.aM "step_power" t.Aw
 AX:Meth K t.aM "times" t.Kq
 XT:CL K t.kP "__init__" t.Jy
 LX:mg "all"=none
 ei9:mg "any"=none
 ej0:mg "bool"=none
 oh:mg "enumerate"=none
 ej1:mg "int"=none
 LY:mg "isinstance"=none
 dv:mg "len"=none
 t7:mg "list"=none
 ej2:mg "max"=none
 LZ:mg "min"=none
 gh:mg "range"=none
 XU:mg "reversed"=none
 ej3:mg "sum"=none
 qw:mg "zip"=none
 AY:mg "BitField"=some (.ref t.aK)
 AZ:mg "ByNought"=some (.ref t.hJ)
 xW:mg "Field"=some (.ref t.kP)
 A6:mg "PrimeField"=some (.ref t.aM)
 XW:Hv K mg "ByNought" t.hJ
 aY9:dF7 K t.hJ
section
variable{P:Program}{w:World}{K:Frag}{mg:Str->Option Value}{base:Heap}{t:kj}
noncomputable abbrev aT4:bh:=λds Q=>∃c:Int,ds=[.int c]/\∀m,m∈av->3<=aa m->Q (dr m)
theorem aT5(T:Txt K mg t):aN P w K mg base aS 1 t.Jp t.Jq ["_law_cell_here"] (bt (aT4 )):=by
 refine bC T.WS Ap ?_ ?_
 ·intro ds Q h
  obtain⟨c,rfl,q⟩:=h<;>rfl
 ·intro aE A outer s H E hr
  refine⟨_,(aA (aH (i:=1) Ap.nd rfl (ai rfl) (Cu (ns:=[7,11,13,19,25,31]) (by decide +kernel)))
   (aA (aH (i:=2) Ap.nd rfl (ai rfl) (Cu (ns:=[3,5,7,11,13,17]) (by decide +kernel)))
   (aA (cm (bN (eG (cS hr)) (ae (ay cM (bv 0) (ae aj))) (ae aj) (bE _)) (aA (aH (i:=1) Ap.nd rfl (ai rfl) (ay cF (bv 1) (ae (Cu (ns:=[37,41,47,55,59,61,67,73,87,91,97,103,109,115,117]) (by decide +kernel)))))
    (aB (aH (i:=2) Ap.nd rfl (ai rfl) (ay cF (bv 2) (ae (Cu (ns:=[19,23,29,31,37,41,43,47,53,59,61]) (by decide +kernel))))))) cH)
   (aA (cm (bN (eG (cS hr)) (ae (ay cM (ae (ay kC (bv 0) (ae aj))) (ae aj))) (ae aj) (bE _)) (aB (aR (uY (cR oU (cR (dk (bq (bv 1) (ae (ay cM (ae (ay kC (bv 0) (ae aj))) (ae (cu (dq) (by rfl) T.dv di (af (bv 1) ao))))) (λ_ _=>rfl))) dA))))) cH)
   (aB (aR (uY (cR oU (cR (dk (bq (bv 2) (ae (ay cM (ae (ay kC (bv 0) (ae aj))) (ae (cu (dq) (by rfl) T.dv di (af (bv 2) ao))))) (λ_ _=>rfl))) dA))))))))),λds Q h=>?_⟩
  obtain⟨c,rfl,q⟩:=h
  refine az λU hU=>?_
  walk_at"l3"
  refine⟨by decide,hU _ ?_⟩
  clear hU U
  refine az λU hU=>?_
  walk_at"l3"
  refine⟨by decide,hU _ ?_⟩
  clear hU U
  refine az λU hU=>?_
  walk_at"l3"
  have st:∀A B:List Int,0<A.length->A.length<=100->0<B.length->B.length<=100->(∀a∈A,0<=a/\(true,a.toNat)∈av/\3<=aa (true,a.toNat))->(∀a∈B,0<=a/\(false,a.toNat)∈av/\3<=aa (false,a.toNat))->U [some (D.int c),some (D.lst true (aC A)),some (D.lst true (aC B))]:=by
   intro A B a0 a1 b0 b1 hA hB
   refine hU _ ?_
   clear hU U
   refine az λU hU=>?_
   walk_at"l3"
   have n1:=fU (c/16) (show(A.length:Int)≠0 by omega)
   have n2:=iD (c/16) (show(0:Int)<(A.length:Int) by omega)
   have n3:=fU (c/16) (show(B.length:Int)≠0 by omega)
   have n4:=iD (c/16) (show(0:Int)<(B.length:Int) by omega)
   have get:∀(Z:List Int) (k:Int),0<=k->k<(Z.length:Int)->Z.getD k.toNat 0∈Z:=λZ k h1 h2=>dX (by omega) 0
   refine⟨kB (by decide) (by decide),by decide,?_⟩
   split
   ·obtain⟨h1,h2,h3⟩:=hA _ (get A _ n1 n2)
    refine⟨kB (by decide) (by decide),by omega,_,mf n1 (by omega),rfl,by decide,?_⟩
    have:=q _ h2 h3
    unfold dr at this
    rw[show(((A.getD (c/16%(A.length:Int)).toNat 0).toNat:Nat):Int)=A.getD (c/16%(A.length:Int)).toNat 0 by omega]at this
    exact this
   ·obtain⟨h1,h2,h3⟩:=hB _ (get B _ n3 n4)
    refine hU _ ?_
    walk_at"l3"
    refine⟨kB (by decide) (by decide),by omega,_,mf n3 (by omega),rfl,by decide,?_⟩
    have:=q _ h2 h3
    unfold dr at this
    rw[show(((B.getD (c/16%(B.length:Int)).toNat 0).toNat:Nat):Int)=B.getD (c/16%(B.length:Int)).toNat 0 by omega]at this
    exact this
  clear hU
  refine⟨by decide,?_⟩
  split
  ·refine az λU hU=>?_
   walk_at"l3"
   refine⟨by decide,by decide,hU _ ?_⟩
   clear hU
   walk_at"l3"
   refine⟨by decide,by decide,?_⟩
   exact st _ _ (by decide) (by decide) (by decide) (by decide) (by decide) (by decide)
  ·exact st _ _ (by decide) (by decide) (by decide) (by decide) (by decide) (by decide)
noncomputable abbrev aT6(L:Obj->Obj->Addr->Addr->vP->Prop):bh:=λds Q=>∃(a:Nat) (of oc:Obj) (c k:Addr) (g:Nat->Nat->Nat) (l:List Int),ds=[.int a,.bL (.lam of oc c k)]/\L of oc c k (aV g)/\a<64/\HN g a=some l/\Q (.lst true (aC l))
theorem XX(T:Txt K mg t):aN P w K mg base aS 5 t.Jr t.Js ["a","product"] (bt (aT6 (zS P w K mg base 4))):=by
 refine bC T.LF DF ?_ ?_
 ·intro ds Q h
  obtain⟨a,of,oc,c,k,g,l,rfl,hL,ha,hp,q⟩:=h<;>rfl
 ·intro aE A outer s H E hr
  refine⟨_,(aA (aH (i:=2) DF.nd rfl (ai rfl) (eO (cR aj dA)))
   (aA (aH (i:=3) DF.nd rfl (ai rfl) (UA (n:=4) (i:=1) rfl (by first | exact ai rfl | exact bx (ai rfl)) (hr.mono (by decide)) (af (ae aj) (af (bv 0) ao))))
   (aA (rL eo (bN (nu (cS hr)) (bv 3) (ae aj) (bE _))
    (aA (zN (i:=2) rfl (by first | exact ai rfl | exact bx (ai rfl)) (dk (bv 3)))
    (aB (aH (i:=3) DF.nd rfl (ai rfl) (UA (n:=4) (i:=1) rfl (by first | exact ai rfl | exact bx (ai rfl)) (hr.mono (by decide)) (af (bv 3) (af (bv 0) ao)))))))
   (aB (aR (em 2)))))),λds Q h=>?_⟩
  obtain⟨a,of,oc,c,k,g,l,rfl,hL,ha,hp,q⟩:=h
  refine az λU hU=>?_
  walk_at"l3"
  refine⟨by decide,hU _ ?_⟩
  clear hU U
  refine az λU hU=>?_
  walk_at"l3"
  refine⟨of,oc,c,k,aV g,rfl,hL,1,a,⟨rfl,rfl⟩,1,a,rfl,rfl,by decide,ha,hU _ ?_⟩
  clear hU U
  refine az λU hU=>?_
  walk_at"l3"
  refine⟨λm δ=>∃(p:Nat) (acc:List Int),δ=[some (.int a),some (.bL (.lam of oc c k)),some (.lst true (aC acc)),some (.int p)]/\acc.length+m<=70/\CN g a m p acc=some l,⟨64,_,[1],rfl,by decide,hp⟩,?_⟩
  rintro m δ ⟨p,acc,rfl,hn,hg⟩
  walk_at"l3"
  cases m with
  | zero=>cases hg
  | succ m =>
   unfold CN at hg
   split at hg
   ·rename_i h1
    subst h1
    cases hg
    rw[if_neg (by simp)]
    refine hU _ ?_
    walk_at"l3"
    exact q
   ·rename_i h1
    rw[if_pos (by simp;omega)]
    split at hg
    ·rename_i h2
     clear hU
     refine az λU hU=>?_
     walk_at"l3"
     refine⟨⟨_,rfl⟩,by omega,hU _ ?_⟩
     clear hU
     walk_at"l3"
     exact⟨of,oc,c,k,aV g,rfl,hL,p,a,⟨rfl,rfl⟩,p,a,rfl,rfl,h2,ha,m,by omega,g p a,acc++[(p:Int)],⟨by rw[<-pM];rfl,rfl⟩,by simp;omega,hg⟩
    ·cases hg
noncomputable abbrev aO7(L:Obj->Obj->Addr->Addr->vP->Prop):bh:=λds Q=>∃(n:Nat) (of oc:Obj) (c k:Addr) (g:Nat->Nat->Nat) (l:List Int),ds=[.int n,.bL (.lam of oc c k)]/\L of oc c k (aV g)/\zY g n=some l/\Q (.lst true (aC l))
theorem aO8(T:Txt K mg t):aN P w K mg base aS 6 t.Jt t.Ju ["many","product"] (bt (aO7 (zS P w K mg base 4))):=by
 refine bC T.WV Aq ?_ ?_
 ·intro ds Q h
  obtain⟨n,of,oc,c,k,g,l,rfl,hL,hp,q⟩:=h<;>rfl
 ·intro aE A outer s H E hr
  refine⟨_,(aA (aH (i:=2) Aq.nd rfl (ai rfl) aj)
   (aA (aH (i:=3) Aq.nd rfl (ai rfl) (bj ((XX T).mono (by decide)) hr rfl T.WT T.LF.kp T.WU aW (af (bv 2) (af (bv 1) ao))))
   (aA (rL eo (bN zG (ae (cu (dq) (by rfl) T.dv di (af (bv 3) ao))) (ae (ay cX (bv 0) (ae aj))) (bE _))
    (aA (pd (i:=2) Aq.nd rfl (ai rfl) (ae aj) Ha)
    (aB (aH (i:=3) Aq.nd rfl (ai rfl) (bj ((XX T).mono (by decide)) hr rfl T.WT T.LF.kp T.WU aW (af (bv 2) (af (bv 1) ao)))))))
   (aB (aR (em 3)))))),λds Q h=>?_⟩
  obtain⟨n,of,oc,c,k,g,l,rfl,hL,hp,q⟩:=h
  unfold zY at hp
  split at hp
  ·rename_i l0 h0
   refine az λU hU=>?_
   walk_at"l3"
   refine hU _ ?_
   clear hU U
   refine az λU hU=>?_
   walk_at"l3"
   refine⟨1,of,oc,c,k,g,l0,rfl,hL,by decide,h0,hU _ ?_⟩
   clear hU U
   refine az λU hU=>?_
   walk_at"l3"
   refine⟨λm δ=>∃(st:Nat) (l1:List Int),δ=[some (.int n),some (.bL (.lam of oc c k)),some (.int st),some (.lst true (aC l1))]/\st+m<=63/\CO g n m st l1=some l,⟨62,1,l0,rfl,by decide,hp⟩,?_⟩
   rintro m δ ⟨st,l1,rfl,hn,hg⟩
   walk_at"l3"
   cases m with
   | zero=>cases hg
   | succ m =>
    unfold CO at hg
    split at hg
    ·rename_i h1
     rw[if_pos (by omega)]
     split at hg
     ·rename_i l2 h2
      clear hU
      refine az λU hU=>?_
      walk_at"l3"
      refine hU _ ?_
      clear hU
      walk_at"l3"
      exact⟨st+1,of,oc,c,k,g,l2,rfl,hL,by omega,h2,m,by omega,st+1,l2,⟨rfl,rfl⟩,by omega,hg⟩
     ·cases hg
    ·rename_i h1
     rw[if_neg (by omega)]
     cases hg
     refine hU _ ?_
     walk_at"l3"
     exact q
  ·cases hp
noncomputable abbrev aX5:bh:=λds Q=>∃(l:List Int),ds=[.lst false (aC l)]/\l.length<=64/\(∀x∈l,0<=x/\x.toNat<=l.length)/\Q (.lst true (aC (eD l)))
theorem aX6(T:Txt K mg t):aN P w K mg base aS 1 t.Jv t.Jw ["powers"] (bt (aX5 )):=by
 refine bC T.WW Jk ?_ ?_
 ·intro ds Q h
  obtain⟨l,rfl,hl,hx,q⟩:=h<;>rfl
 ·intro aE A outer s H E hr
  refine⟨_,(aA (aH (i:=1) Jk.nd rfl (ai rfl) (ay fZ (ae (eO (cR aj dA))) (ae (ay cF (ae (cu (dq) (by rfl) T.dv di (af (bv 0) ao))) (ae aj)))))
   (aA (fR eo rfl (nz rfl T.oh (af (bv 0) ao)) (gI (i1:=2) (i2:=3) rfl Jk.nd rfl (ai rfl) rfl (ai rfl))
    (aB (sQ (i:=1) rfl (by first | exact ai rfl | exact bx (ai rfl)) (dk (bv 2)) (bv 3))))
   (aB (aR (em 1))))),λds Q h=>?_⟩
  obtain⟨l,rfl,hl,hx,q⟩:=h
  refine az λU hU=>?_
  walk_at"l3"
  refine⟨by decide,⟨by omega,by omega,by omega⟩,hU _ ?_⟩
  clear hU U
  refine az λU hU=>?_
  walk_at"l3"
  refine fG.mk (λi δ=>∃o1 o2,δ=[some (.lst false (aC l)),some (.lst true (aC (nG l i))),o1,o2]) ⟨none,none,?_⟩ ?_ ?_
  ·rw[show((l.length:Int)+1).toNat=l.length+1 by omega];rfl
  ·rintro i d δ hd ⟨o1,o2,rfl⟩
   obtain⟨hi,rfl⟩:∃h:i<l.length,d=.tup [.int i,.int l[i]]:=by
    unfold eC aC at hd
    rw[uv,bX]at hd
    by_cases hi:i<l.length
    ·rw[aL hi]at hd
     simp at hd
     exact⟨hi,hd.symm⟩
    ·rw[gj (by omega)]at hd;simp at hd
   have ft:=hx l[i] (dP _)
   walk_at"l3"
   refine⟨_,(l[i]).toNat,rfl,?_,_,_,?_,rfl,rfl⟩
   ·unfold iq
    rw[kF,zZ,if_pos ft.1,if_pos (by omega)]
   ·unfold aC
    rw[<-Rn]
    congr 1
    show _=(nG l i).set (l.getD i 0).toNat (i:Int)
    rw[aI,aL hi];rfl
  ·rintro δ ⟨o1,o2,rfl⟩
   refine hU _ ?_
   simp only[rF,o9,rG,rH,dT,lU,ni,nj,dC,oS,oZ,oX,oW,oY,rE,lY,sH,pJ,sI,sJ,rq,rz,rA,rB,rC,rD,oV,sE,pF,pG,ii,pk,rW,pq,rX,rY,rZ,r6,r9,se,iI,gu,sj,sk,sq,sr,pz,pB,lX,sC,sD,gN,sM,sG,rJ,rN,rO,rP,rQ,rR,sN,sP,sR,pf,jR,fS,iW,iw,qN,qI,yG,yH,o8,jQ,iV,pH,pI,pP,sV,sW,sX,vH,kG,s8,pV,sY,jn,vK,vI,vJ,eK,kS,qO,mF,eJ,yI,aT,uD,uE,kW,kX,uF,exists_eq_left',exists_eq_left,D.bl.injEq,D.int.injEq,D.lst.injEq,D.fz.injEq,D.str.injEq,D.tup.injEq,uG,and_true,true_and,eL,oE,jE,mJ,ve,vf,vg,vh,vi,vj,gG,kr,jU,vo,vp,vq,vt,vv,fj,ku,pK,vk,vm,vn,fY,m9,yJ,yK,uf,iE,yL,yM,qH,vz,vA,vB,vC,vD,vE,vF,kF,me,pL,jl,pM,vx,sU,vw,pO,vy,sS,jm,sT,if_true,uB,if_false,reduceIte,vG,decide_eq_true_eq,dF,kH,nB,vM,nC,vL,rK,tf,qe,sZ,pZ,p5,tw,tG,tI,jv,wb,nK,wc,qo,mh]
   exact q
noncomputable abbrev A7(K:Frag):bh:=λds Q=>∃(C:Addr) (ns:List Str) (xs:List D) (n:Int) (many:Nat) (l:List Int) (r:Int),ds=[.obj C ns xs,.int n]/\dR K C/\cq K C "powers"/\cq K C "many"/\(ns.zip xs).lookup ("powers":Str)=some (.lst false (aC l))/\(ns.zip xs).lookup ("many":Str)=some (.int many)/\2<=many/\l[(n%((many:Int)-1)).toNat]?=some r/\Q (.int r)
theorem A8(T:Txt K mg t):aN P w K mg base aS 1 t.Aw t.Jx ["self","n"] (bt (A7 K)):=by
 refine bC T.aF7 aE2 ?_ ?_
 ·intro ds Q h
  obtain⟨C,ns,xs,n,many,l,r,rfl,hC,h1,h2,h3,h4,h5,h6,q⟩:=h<;>rfl
 ·intro aE A outer s H E hr
  refine⟨_,(aB (aR (dk (bq (i5 (K:=K) (bv 0)) (ae (ay cM (bv 1) (ae (ay cX (i5 (K:=K) (bv 0)) (ae aj))))) (λ_ _=>rfl))))),λds Q h=>?_⟩
  obtain⟨C,ns,xs,n,many,l,r,rfl,hC,h1,h2,h3,h4,h5,h6,q⟩:=h
  walk_at"l3"
  refine⟨C,ns,xs,_,rfl,hC,h1,h3,C,ns,xs,_,rfl,hC,h2,h4,?_⟩
  refine⟨by omega,_,jM (d:=.int r) (fU _ (by omega)) ?_,rfl,q⟩
  unfold aC
  rw[bX,h6];rfl
theorem DU(T:Txt K mg t){m:Bool × Nat}(hm:m∈av){n:Int}{Q:D->Prop}(q:Q (.int (eS m n:Nat))):HV P w K mg base 1 t.aK t.aM m "step_power" [.int n] Q:=by
 have hF:=bS hm
 have hl:=HW hm n
 obtain⟨k,b⟩:=m
 cases k with
 | true=>exact⟨_,_,_,A7 K,rfl,⟨T.fv,_,_,_,T.tV,A8 T,T.Az⟩,by decide,_,_,_,_,aa (true,b),fl (true,b),_,rfl,T.fv,T.qv,T.tU,rfl,rfl,hF.lo,hl,q⟩
 | false=>exact⟨_,_,_,A7 K,rfl,⟨T.fK,_,_,_,T.tZ,A8 T,T.Az⟩,by decide,_,_,_,_,aa (false,b),fl (false,b),_,rfl,T.fK,T.tY,T.tX,rfl,rfl,hF.lo,hl,q⟩
noncomputable abbrev aQ7(P:Program)(w:World)(K:Frag)(mg:Str->Option Value)(base:Heap)(fs:Addr):Sp:=λvs H Q _=>∃(x dx f C:Addr) (b:Str) (n0:Int) (many:Nat) (of oc:Obj) (c k:Addr) (g:Nat->Nat->Nat) (l:List Int) (st:Int),
 vs=[.ref x,.int many,.ref f]/\H x=some (.ins C dx [(b,.int n0)])/\(∀n∈(["many","wide","powers","logs","step","step_power"]:List Str),b≠n)/\dS7 K C fs/\jO H f of oc c k/\zS P w K mg base 4 of oc c k (aV g)/\UW g many l st /\
 ∀H' p1 p2,dS x H H'->H' x=some (.ins C dx ((gY b).zip (CQ n0 many p1 p2 st)))->LI H' p1 l->LI H' p2 (eD l)->p1≠p2->H p1=none->H p2=none->Q .aw H'
theorem XY(T:Txt K mg t):aN P w K mg base aS 7 t.Jy t.Jz ["self","many","product"] (aQ7 P w K mg base t.Aw):=by
 refine T.aS8.ok aP8 (λvs H Q E h=>?_) λaE A outer s H vs Q E hr h=>?_
 ·obtain⟨x,dx,f,C,b,n0,many,of,oc,c,k,g,l,st,rfl,_⟩:=h;rfl
 obtain⟨x,dx,f,C,b,n0,many,of,oc,c,k,g,l,st,rfl,hx,hb,hC,ek2,hL,hF,q⟩:=h
 refine⟨_,ka (oK (pv 0) (pv 1) rfl) (ka (oK (pv 0) (y8 Gb (GH (pv 1)) yU) rfl)
  (ka (oK (pv 0) (q5 ((aO8 T).mono (by decide)) hr rfl T.d89 T.WV.kp T.d90 .nil aW (fV (pv 1) (fV (pv 2) jL))) rfl)
  (ka (oK (pv 0) (q5 ((aX6 T).mono (by decide)) hr rfl T.d91 T.WW.kp T.d92 .nil aW (fV (B5 (pv 0) rfl) jL)) rfl)
  (uL (oK (pv 0) (cH0 (pv 0) hC.cls hC.sp ((A8 T).mono (by decide)) hr T.Az .nil aW (fV yU jL)) rfl))))),?_⟩
 have nb:∀n∈(["many","wide","powers","logs","step","step_power"]:List Str),b≠n:=hb
 refine⟨.int many,rfl,.ref x,rfl,x,C,dx,_,rfl,hx,hC.cls,hC.many,mI (bJ 1) (by decide),?_⟩
 rw[vT (by simpa using nb "many" (by simp))]
 generalize e1:upd H x (HO.ins C dx ([(b,V.int n0)]++[(("many":Str),V.int many)]))=H1
 have ft:H1 x=some (.ins C dx [(b,V.int n0),(("many":Str),V.int many)]):=by rw[<-e1,cy];rfl
 have s1:dS x H H1:=by rw[<-e1];exact dS.upd (C:=C) (dx:=dx) hx rfl
 have l1:jO H1 f of oc c k:=by rw[<-e1];exact ek2.z0 hx
 have n1:∀p,H1 p=none->H p=none:=λp h=>z4 hx (by rw[e1];exact h)
 refine⟨_,rfl,rfl,_,rfl,rfl,_,_,rfl,rfl,.ref x,rfl,x,C,dx,_,rfl,ft,hC.cls,hC.wide,mI (bJ 2) (by decide),?_⟩
 rw[vT (by simp;exact⟨nb "wide" (by simp),by decide⟩),iF]
 generalize e2:upd H1 x (HO.ins C dx ([(b,V.int n0),(("many":Str),V.int many)]++[(("wide":Str),V.int ((bl many:Nat)-1))]))=H2
 have iy:H2 x=some (.ins C dx [(b,V.int n0),(("many":Str),V.int many),(("wide":Str),V.int ((bl many:Nat)-1))]):=by rw[<-e2,cy];rfl
 have s2:dS x H H2:=by rw[<-e2];exact s1.trans (dS.upd (C:=C) (dx:=dx) ft rfl)
 have l2:jO H2 f of oc c k:=by rw[<-e2];exact l1.z0 ft
 have n2:∀p,H2 p=none->H p=none:=λp h=>n1 p (z4 ft (by rw[e2];exact h))
 refine⟨_,rfl,_,rfl,H2,[.int many,.bL (.lam of oc c k)],λd=>d=.lst true (aC l),ag.refl _,.int (.bL l2 .nil),⟨many,of,oc,c,k,g,l,rfl,hL,hF.step,rfl⟩,λd v F' H3 A' hd hs hf he h3 r nd fr=>?_⟩
 subst hd
 obtain⟨p1,rfl,L0,A9⟩:=UU r fr
 have my:=hs.get _ _ iy
 have s3:=s2.trans (hs.x (x:=x))
 refine⟨.ref x,rfl,x,C,dx,_,rfl,my,hC.cls,hC.HP,mI (bJ 3) (by decide),?_⟩
 rw[vT (by simp;exact⟨nb "powers" (by simp),by decide,by decide⟩)]
 generalize e4:upd H3 x (HO.ins C dx ([(b,V.int n0),(("many":Str),V.int many),(("wide":Str),V.int ((bl many:Nat)-1))]++[(("powers":Str),V.ref p1)]))=H4
 have qy:H4 x=some (.ins C dx [(b,V.int n0),(("many":Str),V.int many),(("wide":Str),V.int ((bl many:Nat)-1)),(("powers":Str),V.ref p1)]):=by rw[<-e4,cy];rfl
 have s4:dS x H H4:=by rw[<-e4];exact s3.trans (dS.upd (C:=C) (dx:=dx) my rfl)
 have p4:LI H4 p1 l:=by rw[<-e4];exact L0.upd my (λws z=>by cases z)
 have n4:∀p,H4 p=none->H p=none:=λp h=>n2 p (hs.free (z4 my (by rw[e4];exact h)))
 refine⟨.ref x,rfl,x,C,dx,_,.ref p1,rfl,qy,hC.cls,hC.HP,by rw[CS (nb "powers" (by simp))];rfl,H4,[.lst false (aC l)],λd=>d=.lst true (aC (eD l)),ag.refl _,.shr p4 (kE l) .nil,⟨l,rfl,by have:=hF.len;have:=hF.hi;omega,hF.ins,rfl⟩,λd v F' H5 A' hd qA hf he h3 r nd fr=>?_⟩
 subst hd
 obtain⟨p2,rfl,XZ,t8⟩:=UU r fr
 have mB:=qA.get _ _ qy
 have s5:=s4.trans (qA.x (x:=x))
 have ek3:p1≠p2:=λz=>by rw[<-z]at t8;unfold LI at p4;rw[t8]at p4;cases p4
 refine⟨.ref x,rfl,x,C,dx,_,rfl,mB,hC.cls,hC.dS8,mI (bJ 4) (by decide),?_⟩
 rw[vT (by simp;exact⟨nb "logs" (by simp),by decide,by decide,by decide⟩)]
 generalize e6:upd H5 x (HO.ins C dx ([(b,V.int n0),(("many":Str),V.int many),(("wide":Str),V.int ((bl many:Nat)-1)),(("powers":Str),V.ref p1)]++[(("logs":Str),V.ref p2)]))=H6
 have L4:H6 x=some (.ins C dx (([b,"many","wide","powers","logs"]:List Str).zip [V.int n0,V.int many,V.int ((bl many:Nat)-1),V.ref p1,V.ref p2])):=by rw[<-e6,cy];rfl
 have s6:dS x H H6:=by rw[<-e6];exact s5.trans (dS.upd (C:=C) (dx:=dx) mB rfl)
 have p6:LI H6 p1 l:=by rw[<-e6];exact(p4.same qA).upd mB (λws z=>by cases z)
 have q6:LI H6 p2 (eD l):=by rw[<-e6];exact XZ.upd mB (λws z=>by cases z)
 refine⟨.ref x,rfl,x,dx,_,rfl,L4,by show mD ("step_power":Str) ((b,V.int n0)::_)=none;rw[CS (nb "step_power" (by simp))];rfl,H6,[.obj C [b,"many","wide","powers","logs"] [.int n0,.int many,.int ((bl many:Nat)-1),.lst false (aC l),.lst false (aC (eD l))],.int 1],λd=>d=.int st,ag.refl _,
  .obj L4 rfl (.int (.int (.int (.shr p6 (kE l) (.shr q6 (kE _) .nil))))) (.int .nil),⟨C,_,_,1,many,l,st,rfl,hC.cls,hC.HP,hC.many,by show mD ("powers":Str) ((b,D.int n0)::_)=_;rw[CS (nb "powers" (by simp))];rfl,by show mD ("many":Str) ((b,D.int n0)::_)=_;rw[CS (nb "many" (by simp))];rfl,hF.lo,hF.st,rfl⟩,λd v F' H7 A' hd DV hf he h3 r nd fr=>?_⟩
 subst hd
 cases r
 have DW:=DV.get _ _ L4
 refine⟨.ref x,rfl,x,C,dx,_,rfl,DW,hC.cls,hC.step,mI (bJ 5) (by decide),?_⟩
 rw[vT (by simp;exact⟨nb "step" (by simp),by decide,by decide,by decide,by decide⟩)]
 refine q _ p1 p2 ((s6.trans (DV.x (x:=x))).trans (dS.upd (C:=C) (dx:=dx) DW rfl)) (by rw[cy];rfl) ((p6.same DV).upd DW (λws z=>by cases z)) ((q6.same DV).upd DW (λws z=>by cases z)) ek3 (n2 p1 A9) (n4 p2 t8)
noncomputable abbrev aC7:bh:=λds Q=>∃a:Int,ds=[.int a]/\Q (.bl (decide (2<=a)&&decide (a<=61)&&(aO (a.toNat-2)).all λi=>a%(2+(i:Int)) != 0))
theorem aC8(T:Txt K mg t):aN P w K mg base aS 1 t.JA t.JB ["prime"] (bt (aC7 )):=by
 refine bC T.WY aC4 ?_ ?_
 ·intro ds Q h
  obtain⟨a,rfl,q⟩:=h<;>rfl
 ·intro aE A outer s H E hr
  refine⟨_,(aB (aR (zC (ae (Hf u6 u6 (ae aj) (bv 0) (ae aj))) (yV (cu (Hi rfl) (by rfl) T.LX GG (af (ae (fc [("prime",0)] ["d"] rfl (uZ rfl T.gh (af (ae aj) (af (bv 0) ao))) (λ_ _ _ _=>(dB (i:=1) (show(["prime","d"]:List Str).Nodup by decide +kernel) rfl (ai (lookup_relabel_local rfl)) (by decide) (bx (lookup_relabel_local rfl)))) (λ_ _ _ _=>eQ) (λ_ _ _ _=>(rp (nu (cS hr)) (ae (ay cM (bv 0) (bv 1))) (ae aj) (bE _))) rfl ⟨rfl,trivial⟩ (λ_=>by repeat' (first | exact trivial | refine⟨.inl rfl,?_⟩ | refine⟨.inr (.inl rfl),?_⟩ | refine⟨.inr (.inr ⟨_,rfl⟩),?_⟩)) (λ_=>⟨⟨rfl,.inl rfl,.inl rfl,_,rfl,rfl⟩,trivial⟩) rfl (by decide +kernel))) ao)))))),λds Q h=>?_⟩
  obtain⟨a,rfl,q⟩:=h
  walk_at"l3"
  split
  ·rename_i h1
   split
   ·rename_i h2
    refine⟨2,a,⟨rfl,rfl⟩,⟨by decide,by decide,by omega,by omega⟩,?_⟩
    have e0:(a-2).toNat=a.toNat-2:=by omega
    rw[e0]
    refine gb (aO (a.toNat-2)) (λ(k:Nat)=>D.int (2+(k:Int))) (λ(k:Nat)=>D.bl (a%(2+(k:Int)) != 0)) (by rw[pe]) (λx y h=>by injection h with h;omega) (λk hk=>?_) (.inr λ_ _=>rfl) (by rw[cZ,sL];omega) ?_
    ·walk_at"l3"
     refine⟨by omega,?_⟩
     by_cases z:a%(2+(k:Int))=0<;>simp[z]
    ·refine⟨(aO (a.toNat-2)).map λ(k:Nat)=>a%(2+(k:Int)) != 0,?_,?_⟩
     ·unfold sF;rw[da];rfl
     ·have e:(decide (2<=a)&&decide (a<=61)&&(aO (a.toNat-2)).all λi=>a%(2+(i:Int)) != 0)=((aO (a.toNat-2)).map λ(k:Nat)=>a%(2+(k:Int)) != 0).all id:=by
       simp[h1,h2,kU]
      rw[<-e];exact q
   ·rename_i h2
    have e:(decide (2<=a)&&decide (a<=61)&&(aO (a.toNat-2)).all λi=>a%(2+(i:Int)) != 0)=false:=by simp[h2]
    rw[e]at q;exact q
  ·rename_i h1
   have e:(decide (2<=a)&&decide (a<=61)&&(aO (a.toNat-2)).all λi=>a%(2+(i:Int)) != 0)=false:=by simp[h1]
   rw[e]at q;exact q
noncomputable abbrev aO9:List D->List Str->List D->Prop:=λds ns xs=>∃p:Nat,ds=[.int p]/\p∈CP/\ns=gY "prime"/\xs=[.int p,.int p,.int ((bl p:Nat)-1),.lst true (aC (fl (false,p))),.lst true (aC (eD (fl (false,p)))),.int (fst (false,p))]
theorem aH1(T:Txt K mg t)(hB:Bm mg base):aN P w K mg base aS 8 t.JC t.DM ["self","prime"] (HM [t.kN,t.kO] t.aM aO9):=by
 refine UQ T.aI5 T.aG8 aF4 (λvs H Q E h=>?_) λA outer s H vs Q E hr h=>?_
 ·obtain⟨x,dx,cE,ds,ns,xs,rfl,_,_,r,⟨p,rfl,_⟩,_⟩:=h
  have:=r.length
  simp at this
  simp[this]
 obtain⟨x,dx,cE,ds,ns,xs,rfl,tb,hx,r,⟨p,rfl,hp,rfl,rfl⟩,q⟩:=h
 obtain rfl:cE=[.int p]:=by
  cases r with
  | int r=>cases r;rfl
 have hm:(false,p)∈av:=fA _ (Fv hp)
 have hF:=bS hm
 refine⟨_,ka (FL (FJ (FI (q5 ((aC8 T).mono (by decide)) hr rfl T.d95 T.WY.kp T.d96 .nil aW (fV (pv 1) jL)))) (uL RL) FK)
  (ka (oK (pv 0) (pv 1) rfl)
  (uL (BV (UJ (E:=E0) (i:=1) T.XT ((XY T).mono (by decide)) hr T.WX rfl T.xW rfl rfl rfl rfl (fV (pv 0) (fV (pv 1) (fV (UB rfl rfl T.aG9 hB) jL))))))),?_⟩
 refine⟨_,rfl,H,[.int p],λd=>d=.bl true,ag.refl _,.int .nil,⟨p,rfl,by rw[cj0 p hp]⟩,λd v F' H1 A1 hd t9 hf he h3 r nd fr=>?_⟩
 subst hd
 cases r
 refine⟨true,rfl,?_⟩
 refine lM ?_
 have ft:=t9.get _ _ hx
 refine⟨.int p,rfl,.ref x,rfl,x,t.aM,dx,_,rfl,ft,T.fK,T.kQ,by decide,?_⟩
 generalize e2:upd H1 x (HO.ins t.aM dx (fP "prime" (.int p) []))=H2
 have iy:H2 x=some (.ins t.aM dx [(("prime":Str),.int p)]):=by rw[<-e2,cy];rfl
 have s2:dS x H H2:=by rw[<-e2];exact(t9.x (x:=x)).trans (dS.upd (C:=x) (dx:=dx) ft rfl)
 have n2:∀p,H2 p=none->H p=none:=λp h=>t9.free (z4 ft (by rw[e2];exact h))
 obtain⟨ps,hP⟩:=tb t.kN (by simp)
 obtain⟨more,L5⟩:=s2.tb _ ps hP
 refine⟨.ref x,rfl,.int p,rfl,⟨_,L5⟩,λf k qn pm i4 H3 nf L6 hk kf oi hl3=>?_⟩
 refine⟨f,_,_,.int p,L6,rfl,rfl,λoc u iG hu nc pY=>?_⟩
 obtain⟨tm,rfl⟩:∃tm,u=qC p tm:=hu
 have my:=oi.get _ _ iy
 refine⟨x,dx,f,t.aM,"prime",p,p,_,oc,_,k,gm (false,p),fl (false,p),fst (false,p),rfl,z5 my (λz=>by rw[z,nf]at iy;cases iy) nc,by decide,⟨T.fK,T.tX,T.AO,T.tY,T.tW,T.AN,T.tZ⟩,UY pY nc hk kf,?_,hF,λH' p1 p2 sx dj Ba uO ne A9 t8=>?_⟩
 ·refine UO (n:=3) ⟨rfl,rfl,rfl,by decide,rfl,rfl,by decide,by decide,rfl⟩ iG (λu1 u2=>rfl) λq f A outer s H E hr=>?_
  refine⟨_,ay cM (ae (ay fZ (bv 0) (bv 1))) (bv 2),λi j Qd h=>?_⟩
  obtain⟨a,b,rfl,rfl,ha,hb,hq⟩:=h
  walk_at"l3"
  have hp0:2<=p:=hF.lo
  refine⟨ig.ok (.inr ⟨by omega,by omega⟩),by omega,?_⟩
  have e:((gm (false,p) a b:Nat):Int)=(a:Int)*b%p:=by
   show((a*b%p:Nat):Int)=_
   rw[mO,yD]
  rw[<-e];exact hq
 ·have gf:H' f=some (.ext (ji _ oc _ f)):=sx.get f _ (λz=>by rw[z]at nf;rw[nf]at iy;cases iy) (by rw[bc pY.symm,cy]) rfl
  have gc:=sx.get _ _ (fh my nc).symm cy rfl
  refine⟨gf,gc,?_⟩
  refine q _ (CQ p p p1 p2 (fst (false,p))) [p1,p2] (s2.trans (UX oi nf nc sx)) ?_ rfl ?_ (by simp[ne]) (λa ha=>?_)
  ·rw[gX (λz=>by rw[z,gf]at dj;cases dj) (λz=>by rw[z,gc]at dj;cases dj)];exact dj
  ·exact .int (.int (.int (.own (Ba.rem gf gc) rfl (kE _) (.own (uO.rem gf gc) rfl (kE _) (.int .nil)))))
  ·simp at ha
   rcases ha with rfl | rfl
   ·exact n2 _ (CT oi A9)
   ·exact n2 _ (CT oi t8)
noncomputable abbrev aM6:bh:=λds Q=>∃(l g:List Int),ds=[.lst false (aC l),.lst false (aC g)]/\1<=l.length/\l.length<=63/\g.length=l.length+1/\(∀x∈g,0<=x)/\Q (.lst true (p8 l g))
theorem aM7(T:Txt K mg t):aN P w K mg base aS 1 t.JE t.JF ["powers","logs"] (bt (aM6 )):=by
 refine bC T.WZ DG ?_ ?_
 ·intro ds Q h
  obtain⟨l,g,rfl,h1,h2,h3,h4,q⟩:=h<;>rfl
 ·intro aE A outer s H E hr
  refine⟨_,(aA (aH (i:=2) DG.nd rfl (bx rfl) (ay cF (ae (cu (dq) (by rfl) T.dv di (af (bv 0) ao))) (ae aj)))
   (aA (aH (i:=3) DG.nd rfl (ai rfl) (eO (cR (ay fZ (ae (eO (cR aj dA))) (bv 2)) dA)))
   (aA (fR eo rfl (uZ rfl T.gh (af (ae aj) (af (bv 2) ao))) (dB (i:=4) DG.nd rfl (bx rfl))
    (aB (zN (i:=3) rfl (by first | exact ai rfl | exact bx (ai rfl)) (ay cF (ae (eO (cR aj dA))) (ae (fc [("powers",0),("many",2),("logs",1),("a",4)] ["b"] rfl (uZ rfl T.gh (af (ae aj) (af (bv 2) ao))) (λ_ _ _ _=>(dB (i:=4) (show(["powers","many","logs","a","b"]:List Str).Nodup by decide +kernel) rfl (ai (lookup_relabel_local rfl)) (by decide) (bx (lookup_relabel_local rfl)))) (λ_ _ _ _=>eQ) (λ_ _ _ _=>(dk (bq (bv 0) (ae (ay cM (ae (ay cF (bq (bv 2) (bv 3) (λ_ _=>rfl)) (bq (bv 2) (bv 4) (λ_ _=>rfl)))) (ae (ay cX (bv 1) (ae aj))))) (λ_ _=>rfl)))) rfl ⟨rfl,⟨rfl,⟨rfl,⟨rfl,trivial⟩⟩⟩⟩ (λ_=>by repeat' (first | exact trivial | refine⟨.inl rfl,?_⟩ | refine⟨.inr (.inl rfl),?_⟩ | refine⟨.inr (.inr ⟨_,rfl⟩),?_⟩)) (λ_=>⟨⟨rfl,.inl rfl,.inl rfl,_,rfl,rfl⟩,⟨⟨rfl,.inl rfl,.inl rfl,_,rfl,rfl⟩,⟨⟨rfl,.inl rfl,.inl rfl,_,rfl,rfl⟩,⟨⟨rfl,.inl rfl,.inl rfl,_,rfl,rfl⟩,trivial⟩⟩⟩⟩) rfl (by decide +kernel)))))))
   (aB (aR (em 3)))))),λds Q h=>?_⟩
  obtain⟨l,g,rfl,h1,h2,h3,h4,q⟩:=h
  refine az λU hU=>?_
  walk_at"l3"
  refine hU _ ?_
  clear hU U
  refine az λU hU=>?_
  walk_at"l3"
  refine⟨by decide,⟨by omega,by omega,by omega⟩,by decide,hU _ ?_⟩
  clear hU U
  refine az λU hU=>?_
  walk_at"l3"
  refine⟨1,(l.length:Int)+1,⟨rfl,rfl⟩,⟨by decide,by decide,by omega,by omega⟩,?_⟩
  have en:((l.length:Int)+1-1).toNat=l.length:=by omega
  rw[en]
  refine fG.mk (λi δ=>∃o,δ=[some (.lst false (aC l)),some (.lst false (aC g)),some (.int ((l.length:Int)+1)),some (.lst true (vS l g (i+1))),o]) ⟨none,?_⟩ ?_ ?_
  ·rw[show((l.length:Int)+1).toNat=l.length+1 by omega];rfl
  ·rintro i d δ hd ⟨o,rfl⟩
   obtain⟨hi,rfl⟩:i<l.length/\d=.int (1+(i:Int)):=by
    rw[bX]at hd
    by_cases hi:i<l.length
    ·rw[jD hi]at hd
     exact⟨hi,(cN hd).symm⟩
    ·rw[gj (by simpa using hi)]at hd;cases hd
   walk_at"l3"
   refine⟨⟨_,rfl⟩,by decide,1,(l.length:Int)+1,⟨rfl,rfl⟩,⟨by decide,by decide,by omega,by omega⟩,?_⟩
   rw[en]
   refine gb (aO l.length) (λ(k:Nat)=>D.int (1+(k:Int))) (λ(k:Nat)=>D.int (l.getD ((g.getD (i+1) 0+g.getD (k+1) 0)%(l.length:Int)).toNat 0)) (by rw[pe]) (λx y h=>by injection h with h;omega) (λk hk=>?_) (.inr λ_ _=>rfl) (by rw[cZ,sL];omega) ?_
   ·have we:=de.mp hk
    walk_at"l3"
    have e1:(1+(i:Int)).toNat=i+1:=by omega
    have e2:(1+(k:Int)).toNat=k+1:=by omega
    have e3:(l.length:Int)+1-1=l.length:=by omega
    have n0:=fU (g.getD (i+1) 0+g.getD (k+1) 0) (show(l.length:Int)≠0 by omega)
    have n1:=iD (g.getD (i+1) 0+g.getD (k+1) 0) (show(0:Int)<l.length by omega)
    refine⟨_,mf (by omega) (by omega),_,mf (by omega) (by omega),?_⟩
    rw[e1,e2,e3]
    exact⟨by omega,_,mf n0 n1,rfl,rfl⟩
   ·walk_at"l3"
    refine⟨⟨by simp;omega,by rw[kU,cU];intro x _;rfl⟩,by simp[vS];omega,_,?_,rfl⟩
    unfold vS
    rw[Rq (n:=i+1),jC]
    congr 1
    show _=[D.lst true (aC (p7 l g (i+1)))]
    unfold p7
    rw[if_neg (by omega)]
    unfold aC
    rw[eK,da];rfl
  ·rintro δ ⟨o,rfl⟩
   refine hU _ ?_
   simp only[rF,o9,rG,rH,dT,lU,ni,nj,dC,oS,oZ,oX,oW,oY,rE,lY,sH,pJ,sI,sJ,rq,rz,rA,rB,rC,rD,oV,sE,pF,pG,ii,pk,rW,pq,rX,rY,rZ,r6,r9,se,iI,gu,sj,sk,sq,sr,pz,pB,lX,sC,sD,gN,sM,sG,rJ,rN,rO,rP,rQ,rR,sN,sP,sR,pf,jR,fS,iW,iw,qN,qI,yG,yH,o8,jQ,iV,pH,pI,pP,sV,sW,sX,vH,kG,s8,pV,sY,jn,vK,vI,vJ,eK,kS,qO,mF,eJ,yI,aT,uD,uE,kW,kX,uF,exists_eq_left',exists_eq_left,D.bl.injEq,D.int.injEq,D.lst.injEq,D.fz.injEq,D.str.injEq,D.tup.injEq,uG,and_true,true_and,eL,oE,jE,mJ,ve,vf,vg,vh,vi,vj,gG,kr,jU,vo,vp,vq,vt,vv,fj,ku,pK,vk,vm,vn,fY,m9,yJ,yK,uf,iE,yL,yM,qH,vz,vA,vB,vC,vD,vE,vF,kF,me,pL,jl,pM,vx,sU,vw,pO,vy,sS,jm,sT,if_true,uB,if_false,reduceIte,vG,decide_eq_true_eq,dF,kH,nB,vM,nC,vL,rK,tf,qe,sZ,pZ,p5,tw,tG,tI,jv,wb,nK,wc,qo,bu,cZ]
   exact q
noncomputable abbrev aM8(t:kj):pQ:=λds Q Ex=>∃a b:Nat,ds=[.int a,.int b]/\bl a<=1000000/\bl b<=1000000/\(b=0->Ex t.hJ)/\(b≠0->∀q r:Nat,a=cl q b ^^^ r->bl r<bl b->Q (.tup [.int q,.int r]))
theorem X0(T:Txt K mg t):aN P w K mg base (m6 P w) 1 t.JG t.JH ["a","b"] (zO (aM8 t )):=by
 refine Ua T.LG wJ ?_ ?_
 ·intro ds Q Ex h
  obtain⟨a,b,rfl,ha,hb,qx,q⟩:=h<;>rfl
 ·intro aE A outer s H E hr
  refine⟨_,(aA (cm (bN (eG (cS hr)) (bv 1) (ae aj) (bE _)) (aB (Ue T.XW rfl (by rfl) (af (ae To) ao))) cH)
   (aA (aH (i:=2) wJ.nd rfl (ai rfl) aj)
   (aA (aH (i:=3) wJ.nd rfl (ai rfl) (em 0))
   (aA (cX9 (rL eo (bN c83 (ae (ny (bv 3))) (ae (ny (bv 1))) (bE _))
    (aA (aH (i:=4) wJ.nd rfl (ai rfl) (ay cX (ae (ny (bv 3))) (ae (ny (bv 1)))))
    (aA (pd (i:=2) wJ.nd rfl (ai rfl) (ae (ay u5 (ae aj) (bv 4))) Cr)
    (aB (pd (i:=3) wJ.nd rfl (ai rfl) (ae (ay u5 (bv 1) (bv 4))) Cr))))))
   (aB (aR (uY (cR (em 2) (cR (em 3) dA))))))))),λds Q Ex h=>?_⟩
  obtain⟨a,b,rfl,ha,hb,qx,q⟩:=h
  refine az λU hU=>?_
  walk_at"l3"
  split
  ·rename_i h0
   exact⟨by decide,qx (by omega)⟩
  ·rename_i h0
   have b0:b≠0:=by omega
   refine hU _ ?_
   clear hU U
   refine az λU hU=>?_
   walk_at"l3"
   refine hU _ ?_
   clear hU U
   refine az λU hU=>?_
   walk_at"l3"
   refine hU _ ?_
   clear hU U
   refine az λU hU=>?_
   walk_at"l3"
   refine⟨λm δ=>∃(x r:Nat) (o sh:Option D),δ=[o,some (.int b),some (.int (x:Nat)),some (.int (r:Nat)),sh]/\a=cl x b ^^^ r/\bl r<=bl a/\m=bl r,
    ⟨bl a,0,a,_,none,rfl,by rw[oO,oy],bJ _,rfl⟩,?_⟩
   rintro m δ ⟨x,r,o,sh,rfl,inv,hra,rfl⟩
   simp only[rF,o9,rG,rH,dT,lU,ni,nj,dC,oS,oZ,oX,oW,oY,rE,lY,sH,pJ,sI,sJ,rq,rz,rA,rB,rC,rD,oV,sE,pF,pG,ii,pk,rW,pq,rX,rY,rZ,r6,r9,se,iI,gu,sj,sk,sq,sr,pz,pB,lX,sC,sD,gN,sM,sG,rJ,rN,rO,rP,rQ,rR,sN,sP,sR,pf,jR,fS,iW,iw,qN,qI,yG,yH,o8,jQ,iV,pH,pI,pP,sV,sW,sX,vH,kG,s8,pV,sY,jn,vK,vI,vJ,eK,kS,qO,mF,eJ,yI,aT,uD,uE,kW,kX,uF,exists_eq_left',exists_eq_left,D.bl.injEq,D.int.injEq,D.lst.injEq,D.fz.injEq,D.str.injEq,D.tup.injEq,uG,and_true,true_and,eL,oE,jE,mJ,ve,vf,vg,vh,vi,vj,gG,kr,jU,vo,vp,vq,vt,vv,fj,ku,pK,vk,vm,vn,fY,m9,yJ,yK,uf,iE,yL,yM,qH,vz,vA,vB,vC,vD,vE,vF,kF,me,pL,jl,pM,vx,sU,vw,pO,vy,sS,jm,sT,if_true,uB,if_false,reduceIte,vG,decide_eq_true_eq,dF,kH,nB,vM,nC,vL,rK,tf,qe,sZ,pZ,p5,tw,tG,tI,jv,wb,nK,wc,qo,iF]
   split
   ·rename_i hc
    have hle:bl b<=bl r:=by omega
    have less:=SQ b0 hle
    have es:(((bl r:Nat):Int)-((bl b:Nat):Int))=((bl r-bl b:Nat):Int):=by omega
    clear hU
    refine az λU hU=>?_
    walk_at"l3"
    simp only[iF,es]
    refine hU _ ?_
    clear hU
    refine az λU hU=>?_
    walk_at"l3"
    have o1:bl (1:Int).natAbs=1:=by decide
    refine⟨⟨by omega,by omega⟩,hU _ ?_⟩
    clear hU
    simp only[rF,o9,rG,rH,dT,lU,ni,nj,dC,oS,oZ,oX,oW,oY,rE,lY,sH,pJ,sI,sJ,rq,rz,rA,rB,rC,rD,oV,sE,pF,pG,ii,pk,rW,pq,rX,rY,rZ,r6,r9,se,iI,gu,sj,sk,sq,sr,pz,pB,lX,sC,sD,gN,sM,sG,rJ,rN,rO,rP,rQ,rR,sN,sP,sR,pf,jR,fS,iW,iw,qN,qI,yG,yH,o8,jQ,iV,pH,pI,pP,sV,sW,sX,vH,kG,s8,pV,sY,jn,vK,vI,vJ,eK,kS,qO,mF,eJ,yI,aT,uD,uE,kW,kX,uF,exists_eq_left',exists_eq_left,D.bl.injEq,D.int.injEq,D.lst.injEq,D.fz.injEq,D.str.injEq,D.tup.injEq,uG,and_true,true_and,eL,oE,jE,mJ,ve,vf,vg,vh,vi,vj,gG,kr,jU,vo,vp,vq,vt,vv,fj,ku,pK,vk,vm,vn,fY,m9,yJ,yK,uf,iE,yL,yM,qH,vz,vA,vB,vC,vD,vE,vF,kF,me,pL,jl,pM,vx,sU,vw,pO,vy,sS,jm,sT,if_true,uB,if_false,reduceIte,vG,decide_eq_true_eq,dF,kH,nB,vM,nC,vL,rK,tf,qe,sZ,pZ,p5,tw,tG,tI,jv,wb,nK,wc,qo,iF]
    refine⟨⟨by omega,by rw[iF];omega⟩,_,less,x ^^^ 2 ^ (bl r-bl b),r ^^^ b <<< (bl r-bl b),o,_,⟨rfl,?_,?_,rfl⟩,cj8 inv,by omega,rfl⟩
    ·rw[show(1:Int)=((1:Nat):Int) from rfl,uS,km,FA]
    ·rw[uS,km]
   ·rename_i hc
    refine hU _ ?_
    walk_at"l3"
    refine⟨by decide,q b0 x r inv (by omega)⟩
noncomputable abbrev aM9:bh:=λds Q=>∃a:Nat,ds=[.int a]/\bl a<=60/\Q (.bl (al a))
theorem aN0(T:Txt K mg t):aN P w K mg base aS 2 t.JI t.JJ ["a"] (bt (aM9 )):=by
 refine bC T.W3 Jl ?_ ?_
 ·intro ds Q h
  obtain⟨a,rfl,ha,q⟩:=h<;>rfl
 ·intro aE A outer s H E hr
  refine⟨_,(aA (cm (bN zG (bv 0) (ae aj) (bE _)) (aB (aR oU)) cH)
   (aA (aH (i:=1) Jl.nd rfl (ai rfl) (ay kC (ae (ay cX (ae (ny (bv 0))) (ae aj))) (ae aj)))
   (aA (fR eo rfl (uZ rfl T.gh (af (ae aj) (af (ae (ay u5 (ae aj) (ae (ay cF (bv 1) (ae aj))))) ao))) (dB (i:=2) Jl.nd rfl (ai rfl))
    (aB (cm (bN (eG (cS hr)) (bq (ae (bj (Hx ((X0 T).mono (by decide))) hr rfl T.W0 T.LG.kp T.W2 Hw (af (bv 0) (af (bv 2) ao)))) (ae aj) (λ_ _=>rfl)) (ae aj) (bE _)) (aB (aR oU)) cH)))
   (aB (aR oU))))),λds Q h=>?_⟩
  obtain⟨a,rfl,ha,q⟩:=h
  refine az λU hU=>?_
  walk_at"l3"
  split
  ·rename_i h2
   rw[co3 (by omega)]at q;exact q
  ·rename_i h2
   have h2:2<=a:=by omega
   have hp:=gR (show a≠0 by omega)
   refine hU _ ?_
   clear hU U
   refine az λU hU=>?_
   walk_at"l3"
   simp only[iF]
   refine⟨kB (by omega) (by omega),hU _ ?_⟩
   clear hU U
   have eh:((((bl a:Nat):Int)-1)/2+1)=(((bl a-1)/2+1:Nat):Int):=by omega
   have e1:(1:Int)*2 ^ ((((bl a:Nat):Int)-1)/2+1).toNat=((2 ^ ((bl a-1)/2+1):Nat):Int):=by
    rw[eh,show(1:Int)=((1:Nat):Int) from rfl,uS,FA]
   have big:2 ^ ((bl a-1)/2+1)<=2 ^ 40:=Bq (by decide) (by omega)
   have o1:bl (1:Int).natAbs=1:=by decide
   refine az λU hU=>?_
   walk_at"l3"
   rw[e1]
   have fx7:((2 ^ ((bl a-1)/2+1):Nat):Int)<=2 ^ 40:=by exact_mod_cast big
   have nn:(0:Int)<=((2 ^ ((bl a-1)/2+1):Nat):Int):=QV _
   refine⟨⟨by omega,by omega⟩,_,_,⟨rfl,rfl⟩,⟨by decide,by decide,by omega,by omega⟩,?_⟩
   have en:(((2 ^ ((bl a-1)/2+1):Nat):Int)-2).toNat=2 ^ ((bl a-1)/2+1)-2:=by omega
   rw[en]
   refine fG.mk (λi δ=>(∃o1 o2,δ=[some (.int a),o1,o2])/\∀j,j<i->md a (2+j)≠0) ⟨⟨_,_,rfl⟩,λj hj=>absurd hj (by omega)⟩ ?_ ?_
   ·rintro i d δ hd ⟨⟨o1,o2,rfl⟩,inv⟩
    obtain⟨hi,rfl⟩:i<2 ^ ((bl a-1)/2+1)-2/\d=.int (2+(i:Int)):=by
     rw[bX]at hd
     by_cases hi:i<2 ^ ((bl a-1)/2+1)-2
     ·rw[jD hi]at hd
      exact⟨hi,(cN hd).symm⟩
     ·rw[gj (by simpa using hi)]at hd;cases hd
    have bi:bl (2+i)<=60:=by
     have:=(cq5 h2 (show 2+i<2 ^ ((bl a-1)/2+1) by omega)).2
     omega
    walk_at"l3"
    refine⟨a,2+i,by rw[show((2+i:Nat):Int)=2+(i:Int) by omega],by omega,by omega,by omega,λ_ x r e l=>?_⟩
    have em:md a (2+i)=r:=zo e l
    refine⟨.int r,rfl,rfl,?_⟩
    rw[jm]
    split
    ·rename_i hz
     have r0:r=0:=by have:=of_decide_eq_true hz;omega
     rw[cr0 hi (em.trans r0)]at q
     exact q
    ·rename_i hz
     refine⟨⟨_,_,rfl,rfl⟩,λj hj=>?_⟩
     by_cases ej:j=i
     ·rw[ej,em]
      intro r0
      exact hz (decide_eq_true (by omega))
     ·exact inv j (by omega)
   ·rintro δ ⟨⟨o1,o2,rfl⟩,inv⟩
    rw[bu,cZ]at inv
    rw[cD8 h2 inv]at q
    refine hU _ ?_
    walk_at"l3"
    exact q
noncomputable abbrev aH2:bh:=λds Q=>∃a:Int,ds=[.int a]/\Q (.bl (decide (4<=a)&&decide (a<=127)&&al a.toNat))
theorem aH3(T:Txt K mg t):aN P w K mg base aS 3 t.JK t.JL ["bits"] (bt (aH2 )):=by
 refine bC T.W4 aF5 ?_ ?_
 ·intro ds Q h
  obtain⟨a,rfl,q⟩:=h<;>rfl
 ·intro aE A outer s H E hr
  refine⟨_,(aB (aR (zC (ae (Hf u6 u6 (ae aj) (bv 0) (ae aj))) (yV (bj ((aN0 T).mono (by decide)) hr rfl T.ea1 T.W3.kp T.ea2 aW (af (bv 0) ao)))))),λds Q h=>?_⟩
  obtain⟨a,rfl,q⟩:=h
  walk_at"l3"
  split
  ·rename_i h1
   split
   ·rename_i h2
    refine⟨a.toNat,by rw[oF (by omega)],?_,?_⟩
    ·have:bl a.toNat<=bl 127:=GD (by omega)
     exact eH this (by decide)
    ·have e:(decide (4<=a)&&decide (a<=127)&&al a.toNat)=al a.toNat:=by simp[h1,h2]
     rw[e]at q;exact q
   ·rename_i h2
    have e:(decide (4<=a)&&decide (a<=127)&&al a.toNat)=false:=by simp[h2]
    rw[e]at q;exact q
  ·rename_i h1
   have e:(decide (4<=a)&&decide (a<=127)&&al a.toNat)=false:=by simp[h1]
   rw[e]at q;exact q
noncomputable abbrev aQ8:bh:=λds Q=>∃a b:Nat,ds=[.int a,.int b]/\bl a<=1000/\bl b<=1000/\Q (.int (cl a b:Nat))
theorem aQ9(T:Txt K mg t):aN P w K mg base aS 1 t.JM t.JN ["a","b"] (bt (aQ8 )):=by
 refine bC T.W5 DH ?_ ?_
 ·intro ds Q h
  obtain⟨a,b,rfl,ha,hb,q⟩:=h<;>rfl
 ·intro aE A outer s H E hr
  refine⟨_,(aA (aH (i:=2) DH.nd rfl (ai rfl) aj)
   (aA (fR eo rfl (jj rfl T.gh (af (ae (ny (bv 1))) ao)) (dB (i:=3) DH.nd rfl (ai rfl))
    (aB (cm (bN (eG (cS hr)) (ae (ay TF (ae (ay TC (bv 1) (bv 3))) (ae aj))) (ae aj) (bE _)) (aB (pd (i:=2) DH.nd rfl (ai rfl) (ae (ay u5 (bv 0) (bv 3))) Cr)) cH)))
   (aB (aR (em 2))))),λds Q h=>?_⟩
  obtain⟨a,b,rfl,ha,hb,q⟩:=h
  refine az λU hU=>?_
  walk_at"l3"
  refine hU _ ?_
  clear hU U
  refine az λU hU=>?_
  walk_at"l3"
  simp only[iF]
  refine⟨⟨by omega,by omega⟩,Cv (λi δ=>∃o,δ=[some (.int a),some (.int b),some (.int (Mf.P a b i:Nat)),o]) ⟨none,rfl⟩ ?_ ?_⟩
  ·rintro i δ hi ⟨o,rfl⟩
   walk_at"l3"
   refine⟨by omega,?_⟩
   have nY:(om ((b:Int)/2 ^ ((i:Int)).toNat) 1=1)↔b.testBit i=true:=by
    have h:=cI3 b i
    rw[yw]at h
    rw[<-h,dI]
   split
   ·rename_i hc
    have h:=cp2 (a:=a) (nY.mp hc)
    rw[yw]at h
    exact⟨⟨by omega,by rw[iF];omega⟩,_,h,rfl⟩
   ·rename_i hc
    exact⟨_,by rw[bY5 (λz=>hc (nY.mpr z))],rfl⟩
  ·rintro δ ⟨o,rfl⟩
   refine hU _ ?_
   walk_at"l3"
   exact q
noncomputable abbrev aT7:List D->List Str->List D->Prop:=λds ns xs=>∃p:Nat,ds=[.int p]/\p∈jq/\ns=gY "bits"++[("products":Str)]/\xs=[.int p,.int (aa (true,p)),.int ((bl (aa (true,p)):Nat)-1),.lst true (aC (fl (true,p))),.lst true (aC (eD (fl (true,p)))),.int (fst (true,p)),.lst true (p8 (fl (true,p)) (eD (fl (true,p))))]
theorem aL4(T:Txt K mg t)(hB:Bm mg base):aN P w K mg base aS 8 t.JO t.DN ["self","bits"] (HM [t.kN,t.kO] t.aK aT7):=by
 refine UQ T.aM0 T.aL2 WG (λvs H Q E h=>?_) λA outer s H vs Q E hr h=>?_
 ·obtain⟨x,dx,cE,ds,ns,xs,rfl,_,_,r,⟨p,rfl,_⟩,_⟩:=h
  have:=r.length
  simp at this
  simp[this]
 obtain⟨x,dx,cE,ds,ns,xs,rfl,tb,hx,r,⟨p,rfl,hp,rfl,rfl⟩,q⟩:=h
 obtain rfl:cE=[.int p]:=by
  cases r with
  | int r=>cases r;rfl
 have hm:(true,p)∈av:=gO _ (Fv hp)
 have hF:=bS hm
 refine⟨_,ka (FL (FJ (FI (q5 ((aH3 T).mono (by decide)) hr rfl T.ea3 T.W4.kp T.ea4 .nil aW (fV (pv 1) jL)))) (uL RL) FK)
  (ka (oK (pv 0) (pv 1) rfl)
  (ka (RO (i:=2) WG.nd rfl (ai rfl) (y8 S0 yU (y8 Gb (GH (pv 1)) yU)))
  (ka (BV (UJ (E:=E0) (i:=1) T.XT ((XY T).mono (by decide)) hr T.WX rfl T.xW rfl rfl rfl rfl (fV (pv 0) (fV (pv 2) (fV (UB rfl rfl T.aL3 hB) jL)))))
  (uL (oK (pv 0) (q5 ((aM7 T).mono (by decide)) hr rfl T.d99 T.WZ.kp T.ea0 .nil aW (fV (B5 (pv 0) rfl) (fV (B5 (pv 0) rfl) jL))) rfl))))),?_⟩
 refine⟨_,rfl,H,[.int p],λd=>d=.bl true,ag.refl _,.int .nil,⟨p,rfl,by rw[cI1 p hp]⟩,λd v F' H1 A1 hd t9 hf he h3 r nd fr=>?_⟩
 subst hd
 cases r
 refine⟨true,rfl,?_⟩
 refine lM ?_
 have ft:=t9.get _ _ hx
 refine⟨.int p,rfl,.ref x,rfl,x,t.aK,dx,_,rfl,ft,T.fv,T.AB,by decide,?_⟩
 generalize e2:upd H1 x (HO.ins t.aK dx (fP "bits" (.int p) []))=H2
 have iy:H2 x=some (.ins t.aK dx [(("bits":Str),.int p)]):=by rw[<-e2,cy];rfl
 have s2:dS x H H2:=by rw[<-e2];exact(t9.x (x:=x)).trans (dS.upd (C:=x) (dx:=dx) ft rfl)
 have n2:∀p,H2 p=none->H p=none:=λp h=>t9.free (z4 ft (by rw[e2];exact h))
 obtain⟨ps,hP⟩:=tb t.kO (by simp)
 obtain⟨more,L5⟩:=s2.tb _ ps hP
 have bp:bl p<=7:=U2 p hp
 have DX:1<=bl p:=U3 p hp
 refine⟨.int p,rfl,rfl,p,rfl,rfl,_,_,rfl,rfl,_,_,rfl,rfl,?_,?_⟩
 ·have o1:bl (1:Int).natAbs=1:=by decide
  rw[iF]
  exact⟨by omega,by omega⟩
 have em:(1:Int)*2 ^ (((bl ((p:Int)).natAbs:Nat):Int)-1).toNat=((aa (true,p):Nat):Int):=by
  rw[iF,show(((bl p:Nat):Int)-1)=((bl p-1:Nat):Int) by omega,show(1:Int)=((1:Nat):Int) from rfl,uS,FA];rfl
 show BX 2 (.int ((1:Int)*2 ^ (((bl ((p:Int)).natAbs:Nat):Int)-1).toNat)) _ _ _
 rw[em]
 refine⟨.ref x,rfl,.int (aa (true,p)),rfl,⟨_,L5⟩,λf k qn pm i4 H3 nf L6 hk kf oi hl3=>?_⟩
 refine⟨f,_,_,.int p,L6,rfl,rfl,λoc u iG hu nc pY=>?_⟩
 obtain⟨tm,rfl⟩:∃tm,u=qC p tm:=hu
 have my:=oi.get _ _ iy
 refine⟨x,dx,f,t.aK,"bits",p,aa (true,p),_,oc,_,k,gm (true,p),fl (true,p),fst (true,p),rfl,z5 my (λz=>by rw[z,nf]at iy;cases iy) nc,by decide,⟨T.fv,T.tU,T.AE,T.qv,T.qu,T.AD,T.tV⟩,UY pY nc hk kf,?_,hF,λH' p1 p2 sx dj Ba uO ne A9 t8=>?_⟩
 ·refine UO (n:=3) ⟨rfl,rfl,rfl,by decide,rfl,rfl,by decide,by decide,rfl⟩ iG (λu1 u2=>rfl) λq f A outer s H E hr=>?_
  refine⟨_,dk (bq (ae (bj (Hx ((X0 T).mono (by decide))) hr rfl T.W0 T.LG.kp T.W2 Hw (af (ae (bj ((aQ9 T).mono (by decide)) hr rfl T.ea5 T.W5.kp T.ea6 aW (af (bv 0) (af (bv 1) ao)))) (af (bv 2) ao)))) (ae aj) (λ_ _=>rfl)),λi j Qd h=>?_⟩
  obtain⟨a,b,rfl,rfl,ha,hb,hq⟩:=h
  walk_at"l3"
  have b1:bl a<=6:=by
   have:bl a<=bl 63:=GD (by omega)
   exact eH this (by decide)
  have b2:bl b<=6:=by
   have:bl b<=bl 63:=GD (by omega)
   exact eH this (by decide)
  have p0:p≠0:=by
   intro z
   rw[z]at DX
   exact absurd DX (by decide)
  refine⟨a,b,rfl,by omega,by omega,cl a b,p,rfl,eH (cn0 a b) (by omega),by omega,λz=>p0 z,λ_ x r e l=>⟨by simp[D.pl],.int r,rfl,rfl,r,rfl,?_⟩⟩
  have er:gm (true,p) a b=r:=zo e l
  rw[<-er];exact hq
 ·have gf:H' f=some (.ext (ji _ oc _ f)):=sx.get f _ (λz=>by rw[z]at nf;rw[nf]at iy;cases iy) (by rw[bc pY.symm,cy]) rfl
  have gc:=sx.get _ _ (fh my nc).symm cy rfl
  refine⟨gf,gc,?_⟩
  have s4:=s2.trans (UX oi nf nc sx)
  have f1:=n2 _ (CT oi A9)
  have f2:=n2 _ (CT oi t8)
  have l1:=Ba.rem gf gc
  have l2:=uO.rem gf gc
  have qy:rem H' f (s.heap.objs.size+1) x=some (.ins t.aK dx ((gY "bits").zip (CQ p (aa (true,p)) p1 p2 (fst (true,p))))):=by
   rw[gX (λz=>by rw[z,gf]at dj;cases dj) (λz=>by rw[z,gc]at dj;cases dj)];exact dj
  generalize rem H' f (s.heap.objs.size+1)=H4 at s4 l1 l2 qy
  refine⟨.ref x,rfl,x,t.aK,dx,_,.ref p1,rfl,qy,T.fv,T.qv,rfl,.ref x,rfl,x,t.aK,dx,_,.ref p2,rfl,qy,T.fv,T.qu,rfl,H4,[.lst false (aC (fl (true,p))),.lst false (aC (eD (fl (true,p))))],λd=>d=.lst true (p8 (fl (true,p)) (eD (fl (true,p)))),ag.refl _,.shr l1 (kE _) (.shr l2 (kE _) .nil),
   ⟨_,_,rfl,by have:=hF.len;have:=hF.lo;omega,by have:=hF.len;have:=hF.hi;omega,zZ _ _,U1 _ _,rfl⟩,λd v F' H5 A' hd qA hf he h3 r nd fr=>?_⟩
  subst hd
  obtain⟨p3,rfl⟩:∃p3,v=.ref p3:=by cases r;exact⟨_,rfl⟩
  have mB:=qA.get _ _ qy
  have nA:∀{a ws},H4 a=some (.lst ws)->a ∉ A':=λ{a ws} e z=>by rw[fr a z]at e;cases e
  refine⟨.ref x,rfl,x,t.aK,dx,_,rfl,mB,T.fv,T.og,mI (bJ 6) (by decide),?_⟩
  refine q _ (CQ p (aa (true,p)) p1 p2 (fst (true,p))++[.ref p3]) (p1::p2::A') ((s4.trans (qA.x (x:=x))).trans (dS.upd (C:=x) (dx:=dx) mB rfl)) (by rw[cy];rfl) rfl ?_ ?_ ?_
  ·exact .int (.int (.int (.own ((l1.same qA).upd mB (λws z=>by cases z)) rfl (kE _) (.own ((l2.same qA).upd mB (λws z=>by cases z)) rfl (kE _) (.int ((r.GZ (by simp[fY,U0]) (ag.of λb o e=>by cases e)).z0 mB (by simp[fY,U0])))))))
  ·exact iC.mpr ⟨by simp[ne];exact nA l1,iC.mpr ⟨nA l2,nd⟩⟩
  ·intro a ha
   rcases bY.mp ha with rfl | ha
   ·exact f1
   ·rcases bY.mp ha with rfl | ha
    ·exact f2
    ·exact s4.free (by rw[qy];simp) (fr a ha)
noncomputable abbrev aR0(cb cp:Addr):bh:=λds Q=>∃m:Bool × Nat,ds=[dr m]/\m∈av/\Q (fD cb cp m)
theorem aR1(T:Txt K mg t)(hB:Bm mg base):aN P w K mg base aS 10 t.JP t.JQ ["_law_told_here"] (zR [t.kN,t.kO] (bt (aR0 t.aK t.aM))):=by
 refine UP T.W6 aP9 ?_ ?_
 ·intro ds Q h
  obtain⟨m,rfl,hm,q⟩:=h<;>rfl
 ·intro aE A outer s H E hT hr
  refine⟨_,(aA (cm (jP (bq (bv 0) (ae aj) (λ_ _=>rfl))) (aB (aR (US hT T.AA ((aL4 T hB).mono (by decide)) hr rfl T.AY T.aM1 aW (af (bq (bv 0) (ae aj) (λ_ _=>rfl)) ao)))) cH)
   (aB (aR (US hT T.AM ((aH1 T hB).mono (by decide)) hr rfl T.A6 T.aI6 aW (af (bq (bv 0) (ae aj) (λ_ _=>rfl)) ao))))),λds Q h=>?_⟩
  obtain⟨m,rfl,hm,q⟩:=h
  unfold dr at *
  refine az λU hU=>?_
  walk_at"l3"
  obtain⟨b,n⟩:=m
  cases b with
  | true =>
   refine⟨_,rfl,true,rfl,?_⟩
   rw[if_pos rfl]
   refine⟨_,rfl,_,_,⟨n,rfl,vU hm,rfl,rfl⟩,?_⟩
   rw[cP7];exact q
  | false =>
   refine⟨_,rfl,false,rfl,?_⟩
   rw[if_neg (by decide)]
   refine hU _ ?_
   walk_at"l3"
   refine⟨_,rfl,_,_,⟨n,rfl,bN3 hm,rfl,rfl⟩,?_⟩
   rw[cl4];exact q
noncomputable abbrev aT8:bh:=λds Q=>∃m:Bool × Nat,ds=[dr m]/\bl m.2<=1000/\1<=bl m.2/\Q (.int (aa m:Nat))
theorem aT9(T:Txt K mg t):aN P w K mg base aS 1 t.JR t.JS ["_law_told_here"] (bt (aT8 )):=by
 refine bC T.W7 aS2 ?_ ?_
 ·intro ds Q h
  obtain⟨m,rfl,h1,h2,q⟩:=h<;>rfl
 ·intro aE A outer s H E hr
  refine⟨_,(aA (cm (jP (bq (bv 0) (ae aj) (λ_ _=>rfl))) (aB (aR (ay u5 (ae aj) (ae (ay cX (ae (ny (bq (bv 0) (ae aj) (λ_ _=>rfl)))) (ae aj)))))) cH)
   (aB (aR (dk (bq (bv 0) (ae aj) (λ_ _=>rfl)))))),λds Q h=>?_⟩
  obtain⟨m,rfl,h1,h2,q⟩:=h
  unfold dr at *
  refine az λU hU=>?_
  walk_at"l3"
  obtain⟨b,n⟩:=m
  cases b with
  | true =>
   refine⟨_,rfl,true,rfl,?_⟩
   rw[if_pos rfl]
   refine⟨_,rfl,?_⟩
   have o1:bl (1:Int).natAbs=1:=by decide
   have e:(1:Int)*2 ^ (((bl ((n:Int)).natAbs:Nat):Int)-1).toNat=((aa (true,n):Nat):Int):=by
    have jh:1<=bl n:=h2
    rw[iF,show(((bl n:Nat):Int)-1)=((bl n-1:Nat):Int) by omega,show(1:Int)=((1:Nat):Int) from rfl,uS,FA];rfl
   refine⟨?_,by rw[e];exact q⟩
   rw[iF]
   have jN:bl n<=1000:=h1
   have jh:1<=bl n:=h2
   exact⟨by omega,by omega⟩
  | false =>
   refine⟨_,rfl,false,rfl,?_⟩
   rw[if_neg (by decide)]
   refine hU _ ?_
   walk_at"l3"
   exact⟨_,rfl,rfl,q⟩
noncomputable abbrev aR2:bh:=λds Q=>∃(m:Bool × Nat) (a b:Nat),ds=[dr m,.int a,.int b]/\m∈av/\a<aa m/\b<aa m/\Q (.int (gm m a b:Nat))
theorem L7(T:Txt K mg t):aN P w K mg base aS 1 t.JT t.JU ["_law_told_here","_law_a","_law_b"] (bt (aR2 )):=by
 refine bC T.DP wR ?_ ?_
 ·intro ds Q h
  obtain⟨m,a,b,rfl,hm,ha,hb,q⟩:=h<;>rfl
 ·intro aE A outer s H E hr
  refine⟨_,(aA (cm (zB (jP (bq (bv 0) (ae aj) (λ_ _=>rfl)))) (aB (aR (ay cM (ae (ay fZ (bv 1) (bv 2))) (bq (bv 0) (ae aj) (λ_ _=>rfl))))) cH)
   (aA (aH (i:=3) wR.nd rfl (ai rfl) aj)
   (aA (rL eo (bN zH (bv 2) (ae aj) (bE _))
    (aA (cm (bN (eG (cS hr)) (ae (ay TF (bv 2) (ae aj))) (ae aj) (bE _)) (aB (aH (i:=3) wR.nd rfl (ai rfl) (ay si (bv 3) (bv 1)))) cH)
    (aA (aH (i:=1) wR.nd rfl (ai rfl) (ay u5 (bv 1) (ae aj)))
    (aA (cm (bN (eG (cS hr)) (ae (ny (bv 1))) (ae (ny (bq (bv 0) (ae aj) (λ_ _=>rfl)))) (bE _)) (aB (aH (i:=1) wR.nd rfl (ai rfl) (ay si (bv 1) (bq (bv 0) (ae aj) (λ_ _=>rfl))))) cH)
    (aB (aH (i:=2) wR.nd rfl (ai rfl) (ay TC (bv 2) (ae aj))))))))
   (aB (aR (em 3)))))),λds Q h=>?_⟩
  obtain⟨m,a,b,rfl,hm,ha,hb,q⟩:=h
  unfold dr at *
  obtain⟨k,n⟩:=m
  refine az λU hU=>?_
  walk_at"l3"
  have hF:=bS hm
  cases k with
  | false =>
   refine⟨_,rfl,false,rfl,?_⟩
   have jW:n<=64:=hF.hi
   have l2:2<=n:=hF.lo
   have Cy:a<n:=ha
   have zW:b<n:=hb
   rw[if_pos (by decide)]
   refine⟨ig.ok (.inr ⟨by omega,by omega⟩),_,rfl,by omega,?_⟩
   have e:((gm (false,n) a b:Nat):Int)=(a:Int)*b%n:=by
    show((a*b%n:Nat):Int)=_
    rw[mO,yD]
   rw[<-e];exact q
  | true =>
   refine⟨_,rfl,true,rfl,?_⟩
   rw[if_neg (by decide)]
   have hp:=vU hm
   have bp:=U2 n hp
   have DX:=U3 n hp
   have p0:n≠0:=λz=>by rw[z,mY]at DX;omega
   have G7:bl a<bl n:=by
    have:=eM.mpr (show a<2 ^ (bl n-1) from ha)
    omega
   have hy0:bl b<bl n:=by
    have:=eM.mpr (show b<2 ^ (bl n-1) from hb)
    omega
   refine hU _ ?_
   clear hU U
   refine az λU hU=>?_
   walk_at"l3"
   refine hU _ ?_
   clear hU U
   refine az λU hU=>?_
   walk_at"l3"
   refine⟨λm δ=>∃(x y z:Nat),δ=[some (.tup [.bl true,.int n]),some (.int (x:Nat)),some (.int (y:Nat)),some (.int (z:Nat))]/\z ^^^ md (cl x y) n=gm (true,n) a b/\bl x<bl n/\bl y<bl n/\m=bl y,
    ⟨bl b,a,b,0,rfl,by rw[oy];rfl,G7,hy0,rfl⟩,?_⟩
   rintro m δ ⟨x,y,z,rfl,inv,hx,hy,rfl⟩
   walk_at"l3"
   split
   ·rename_i L8
    have XZ:=gR (show y≠0 by omega)
    have DY:bl (y/2)=bl y-1:=cF9 y
    have e1:((x:Int)*2 ^ (1:Int).toNat)=((2*x:Nat):Int):=by
     show(x:Int)*(2:Int) ^ 1=_
     omega
    have e2:((y:Int)/2 ^ (1:Int).toNat)=((y/2:Nat):Int):=by
     show(y:Int)/(2:Int) ^ 1=_
     omega
    have a1:om (y:Int) 1=((y%2:Nat):Int):=by
     rw[show(1:Int)=((1:Nat):Int) from rfl,SS,Nat.and_one_is_mod]
    have tm:=cA9 (y:=y) p0 hx
    have tb:=cB0 p0 hx
    clear hU
    refine az λU hU=>?_
    walk_at"l3"
    have fin:∀z':Nat,z'=z ^^^ (if y%2=1 then x else 0)->U [some (.tup [.bl true,.int n]),some (.int x),some (.int y),some (.int z')]:=by
     intro z' hz
     have em6:z' ^^^ md (cl (if bl (2*x)=bl n then 2*x ^^^ n else 2*x) (y/2)) n=gm (true,n) a b:=by
      rw[hz,qM,<- tm];exact inv
     refine hU _ ?_
     clear hU
     refine az λU hU=>?_
     walk_at"l3"
     refine⟨⟨by decide,by simp only[iF];omega⟩,hU _ ?_⟩
     clear hU
     rw[e1]
     refine az λU hU=>?_
     walk_at"l3"
     have last:∀x':Nat,x'=(if bl (2*x)=bl n then 2*x ^^^ n else 2*x)->U [some (.tup [.bl true,.int n]),some (.int (x':Nat)),some (.int y),some (.int z')]:=by
      intro x' dj
      refine hU _ ?_
      walk_at"l3"
      exact⟨by decide,bl (y/2),by omega,x',y/2,z',⟨rfl,e2,rfl⟩,by rw[dj];exact em6,by rw[dj];exact tb,by omega,rfl⟩
     refine⟨_,rfl,?_⟩
     show(if(((bl (((2*x:Nat):Int)).natAbs:Nat):Int)=((bl ((n:Int)).natAbs:Nat):Int))then _ else _)
     rw[iF,iF]
     split
     ·rename_i hc
      refine⟨_,rfl,?_⟩
      have g:=last (2*x ^^^ n) (by rw[if_pos (by omega)])
      rw[<-km]at g
      exact g
     ·rename_i hc
      exact last (2*x) (by rw[if_neg (by omega)])
    rw[a1]
    split
    ·rename_i nY
     have odd:y%2=1:=by omega
     have g:=fin (z ^^^ x) (by rw[if_pos odd])
     rw[<-km]at g
     exact g
    ·rename_i nY
     exact fin z (by rw[if_neg (by omega),kT])
   ·rename_i L8
    have hy:y=0:=by omega
    subst hy
    rw[cC4,z6 (by rw[mY];exact gR p0),kT]at inv
    subst inv
    refine hU _ ?_
    walk_at"l3"
    exact q
noncomputable def kR(g:Nat->Nat->Nat)(a N:Nat):Nat->List Int->Nat->List Int
 | 0,l,_=>l
 | f+1,l,p=>if l.length<N/\p≠1 then kR g a N f (l++[(p:Int)]) (g p a)else l
noncomputable def X5(m:Bool × Nat):Bool:=decide (1<=(fst m).toNat)&&decide ((fst m).toNat<aa m)&&((aO ((fst m).toNat-1)).all λi=>decide ((kR (gm m) (i+1) (aa m-1) (aa m-2) [1] (i+1)).length≠aa m-1))&&decide (kR (gm m) (fst m).toNat (aa m-1) (aa m-2) [1] (fst m).toNat=fl m)
theorem cR8:av.all X5=true:=by decide +kernel
theorem cV3{m:Bool × Nat}(hm:m∈av):∃s:Nat,1<=s/\s<aa m/\(∀i,i<s-1->(kR (gm m) (i+1) (aa m-1) (aa m-2) [1] (i+1)).length≠aa m-1)/\kR (gm m) s (aa m-1) (aa m-2) [1] s=fl m:=by
 have h:=cU.mp cR8 m hm
 simp only[X5,dY,cU,decide_eq_true_eq,de]at h
 exact⟨_,h.1.1.1,h.1.1.2,h.1.2,h.2⟩
noncomputable abbrev aP0:bh:=λds Q=>∃m:Bool × Nat,ds=[dr m,.int (aa m)]/\m∈av/\Q (.lst true (aC (fl m)))
theorem aP1(T:Txt K mg t):aN P w K mg base aS 2 t.JV t.JW ["_law_told_here","_law_many_here"] (bt (aP0 )):=by
 refine bC T.W8 Ar ?_ ?_
 ·intro ds Q h
  obtain⟨m,rfl,hm,q⟩:=h<;>rfl
 ·intro aE A outer s H E hr
  refine⟨_,(aA (fR eo rfl (uZ rfl T.gh (af (ae aj) (af (bv 1) ao))) (dB (i:=2) Ar.nd rfl (ai rfl))
    (aA (aH (i:=3) Ar.nd rfl (ai rfl) (eO (cR aj dA)))
    (aA (aH (i:=4) Ar.nd rfl (ai rfl) (dk (bv 2)))
    (aA (rL eo (PW.pt (Ci (bN zG (ae (cu (dq) (by rfl) T.dv di (af (bv 3) ao))) (ae (ay cX (bv 1) (ae aj))) (bE _)) (BS (bN (nu (cS hr)) (bv 4) (ae aj) (bE _)))))
     (aA (zN (i:=3) rfl (by first | exact ai rfl | exact bx (ai rfl)) (dk (bv 4)))
     (aB (aH (i:=4) Ar.nd rfl (ai rfl) (bj ((L7 T).mono (by decide)) hr rfl T.LH T.DP.kp T.LJ aW (af (bv 0) (af (bv 4) (af (bv 2) ao))))))))
    (aB (cm (bN (eG (cS hr)) (ae (cu (dq) (by rfl) T.dv di (af (bv 3) ao))) (ae (ay cX (bv 1) (ae aj))) (bE _)) (aB (aR (em 3))) cH))))))
   (aB (aR (eO (cR aj dA))))),λds Q h=>?_⟩
  obtain⟨m,rfl,hm,q⟩:=h
  have hF:=bS hm
  have dh:=hF.lo
  have Bb:=hF.hi
  obtain⟨st,s1,s2,s3,s4⟩:=cV3 hm
  refine az λU hU=>?_
  walk_at"l3"
  refine⟨1,_,⟨rfl,rfl⟩,⟨by decide,by decide,by omega,by omega⟩,?_⟩
  refine fG.mk (λi δ=>i<=st-1/\∃o1 o2 o3,δ=[some (dr m),some (.int (aa m)),o1,o2,o3]) ⟨by omega,none,none,none,rfl⟩ ?_ ?_
  ·rintro i d δ hd ⟨hi,o1,o2,o3,rfl⟩
   obtain⟨mi,rfl⟩:=Vx hd
   rw[show(1:Int)+(i:Int)=((i+1:Nat):Int) by omega]
   clear hd
   refine az λU hU=>?_
   walk_at"l3"
   refine⟨by decide,hU _ ?_⟩
   clear hU
   refine az λU hU=>?_
   walk_at"l3"
   refine hU _ ?_
   clear hU
   refine az λU hU=>?_
   walk_at"l3"
   refine⟨λn δ=>∃(l:List Int) (p:Nat),δ=[some (dr m),some (.int (aa m)),some (.int ((i+1:Nat):Int)),some (.lst true (aC l)),some (.int (p:Nat))]/\p<aa m/\l.length<=aa m-1/\kR (gm m) (i+1) (aa m-1) (aa m-1-l.length) l p=kR (gm m) (i+1) (aa m-1) (aa m-2) [1] (i+1)/\n=aa m-1-l.length,
    ⟨_,[1],i+1,rfl,by omega,by simp;omega,rfl,rfl⟩,?_⟩
   rintro n δ ⟨l,p,rfl,hp,hl,he,rfl⟩
   walk_at"l3"
   have fin:kR (gm m) (i+1) (aa m-1) (aa m-1-l.length) l p=l->U [some (dr m),some (D.int (aa m)),some (D.int ((i+1:Nat):Int)),some (D.lst true (aC l)),some (D.int p)]:=by
    intro e
    have e:=he.symm.trans e
    refine hU _ ?_
    walk_at"l3"
    by_cases hi3:i=st-1
    ·have el:l=fl m:=by rw[<-e,<- s4,hi3,show st-1+1=st by omega]
     have:=hF.len
     rw[if_pos (by rw[el];omega),el]
     exact q
    ·have h3:=s3 i (by omega)
     rw[e]at h3
     rw[if_neg (by omega)]
     exact⟨by omega,_,_,_,rfl,rfl,rfl⟩
   have L9:∀f,kR (gm m) (i+1) (aa m-1) f l p=(match f with | 0=>l | f+1=>if l.length<aa m-1/\p≠1 then kR (gm m) (i+1) (aa m-1) f (l++[(p:Int)]) (gm m p (i+1))else l):=λf=>by cases f<;>rfl
   split
   ·rename_i h1
    split
    ·rename_i h2
     have p1:p≠1:=by
      intro z;subst z;simp at h2
     clear hU fin
     refine az λU hU=>?_
     walk_at"l3"
     refine⟨⟨_,rfl⟩,by omega,hU _ ?_⟩
     clear hU
     walk_at"l3"
     refine⟨m,p,i+1,rfl,hm,hp,by omega,?_⟩
     have hf:aa m-1-l.length=(aa m-1-(l.length+1))+1:=by omega
     rw[hf,L9]at he
     have he:(if l.length<aa m-1/\p≠1 then kR (gm m) (i+1) (aa m-1) (aa m-1-(l.length+1)) (l++[(p:Int)]) (gm m p (i+1))else l)=_:=he
     rw[if_pos ⟨by omega,p1⟩]at he
     exact⟨aa m-1-(l.length+1),by omega,l++[(p:Int)],gm m p (i+1),⟨by unfold aC;rw[jC];rfl,rfl⟩,cj hm _ _,by rw[fB,Bo];omega,by rw[fB,Bo];exact he,by rw[fB,Bo]⟩
    ·rename_i h2
     refine fin ?_
     have p1:p=1:=by
      apply dg1
      intro z
      exact h2 (by simp;omega)
     rw[L9]
     split
     ·rfl
     ·rw[if_neg (λz=>z.2 p1)]
   ·rename_i h1
    refine fin ?_
    rw[L9]
    split
    ·rfl
    ·rw[if_neg (λz=>h1 (by omega))]
  ·rintro δ ⟨hi,_⟩
   simp at hi
   omega
noncomputable abbrev aU0:bh:=λds Q=>∃(ns:List Int) (k:Int),ds=[.fz (aC ns),.int k]/\0<=k/\Q (.int (ns.getD k.toNat 0))
theorem jc(T:Txt K mg t):aN P w K mg base aS 1 t.JX t.JY ["_law_script","_law_k"] (bt (aU0 )):=by
 refine bC T.iA aS3 ?_ ?_
 ·intro ds Q h
  obtain⟨ns,k,rfl,hk,q⟩:=h<;>rfl
 ·intro aE A outer s H E hr
  refine⟨_,(aA (cm (bN zG (bv 1) (ae (cu (dq) (by rfl) T.dv di (af (bv 0) ao))) (bE _)) (aB (aR (dk (bq (bv 0) (bv 1) (λ_ _=>rfl))))) cH)
   (aB (aR aj))),λds Q h=>?_⟩
  obtain⟨ns,k,rfl,hk,q⟩:=h
  refine az λU hU=>?_
  walk_at"l3"
  split
  ·rename_i h
   exact⟨_,mf hk h,rfl,q⟩
  ·rename_i h
   refine hU _ ?_
   walk_at"l3"
   rw[aI,gj (by omega)]at q
   exact q
noncomputable abbrev aN1:bh:=λds Q=>∃(ns:List Int) (M:Nat) (wh:Bool),ds=[.fz (aC ns),.int M,.bl wh]/\3<=M/\M<=64/\∀n e f k:Nat,2<=n->n+1<=M->1<=e->e+1<=n->e<=39->f<M->k<=24->(wh=true->n+1=M)->Q (.tup [.int n,.int e,.int f,.int k])
theorem aN2(T:Txt K mg t):aN P w K mg base aS 2 t.JZ t.J0 ["_law_script","_law_many_here","_law_whole_here"] (bt (aN1 )):=by
 refine bC T.W9 n9 ?_ ?_
 ·intro ds Q h
  obtain⟨ns,M,wh,rfl,hM3,hM,q⟩:=h<;>rfl
 ·intro aE A outer s H E hr
  refine⟨_,(aA (aH (i:=3) n9.nd rfl (ai rfl) (ay cF (ae aj) (ae (ay cM (ae (bj ((jc T).mono (by decide)) hr rfl T.ja T.iA.kp T.jb aW (af (bv 0) (af (ae aj) ao)))) (ae (ay cX (bv 1) (ae aj)))))))
   (aA (cm (jP (bv 2)) (aB (aH (i:=3) n9.nd rfl (ai rfl) (ay cX (bv 1) (ae aj)))) cH)
   (aA (aH (i:=4) n9.nd rfl (ai rfl) (ay cF (ae aj) (ae (ay cM (ae (bj ((jc T).mono (by decide)) hr rfl T.ja T.iA.kp T.jb aW (af (bv 0) (af (ae aj) ao)))) (ae (cu (Hg rfl) (by rfl) T.LZ GF (af (ae (ay cX (bv 3) (ae aj))) (af (ae aj) ao))))))))
   (aA (cm (PW.pt (Ci (zB (jP (bv 2))) (BS (bN (eG (cS hr)) (ae (ay cM (ae (ay kC (ae (bj ((jc T).mono (by decide)) hr rfl T.ja T.iA.kp T.jb aW (af (bv 0) (af (ae aj) ao)))) (ae aj))) (ae aj))) (ae aj) (bE _))))) (aA (aH (i:=3) n9.nd rfl (ai rfl) (cu (Hg rfl) (by rfl) T.LZ GF (af (bv 3) (af (ae aj) ao))))
    (aB (aH (i:=4) n9.nd rfl (ai rfl) (ay cF (ae aj) (ae (ay cM (ae (ay kC (ae (bj ((jc T).mono (by decide)) hr rfl T.ja T.iA.kp T.jb aW (af (bv 0) (af (ae aj) ao)))) (ae aj))) (ae (ay cX (bv 3) (ae aj))))))))) cH)
   (aA (aH (i:=5) n9.nd rfl (ai rfl) (ay cM (ae (bj ((jc T).mono (by decide)) hr rfl T.ja T.iA.kp T.jb aW (af (bv 0) (af (ae aj) ao)))) (bv 1)))
   (aA (aH (i:=6) n9.nd rfl (ai rfl) (ay cM (ae (ay kC (ae (bj ((jc T).mono (by decide)) hr rfl T.ja T.iA.kp T.jb aW (af (bv 0) (af (ae aj) ao)))) (ae aj))) (ae (ay cF (ae (ay kC (bv 4) (ae aj))) (ae aj)))))
   (aA (cm (bN (eG (cS hr)) (ae (ay cM (ae (bj ((jc T).mono (by decide)) hr rfl T.ja T.iA.kp T.jb aW (af (bv 0) (af (ae aj) ao)))) (ae aj))) (ae aj) (bE _)) (aB (aH (i:=6) n9.nd rfl (ai rfl) (ay cM (ae (ay kC (ae (bj ((jc T).mono (by decide)) hr rfl T.ja T.iA.kp T.jb aW (af (bv 0) (af (ae aj) ao)))) (ae aj))) (ae (ay cF (bv 3) (ae aj)))))) cH)
   (aB (aR (uY (cR (em 3) (cR (em 4) (cR (em 5) (cR (cu (Hg rfl) (by rfl) T.LZ GF (af (bv 6) (af (ae aj) ao))) dA)))))))))))))),λds Q h=>?_⟩
  obtain⟨ns,M,wh,rfl,hM3,hM,q⟩:=h
  have modn:∀(z:Int) (k:Nat),0<k->∃r:Nat,z%(k:Int)=r/\r<k:=λz k hk=>by
   have n0:=fU z (show(k:Int)≠0 by omega)
   have n1:=iD z (show(0:Int)<(k:Int) by omega)
   exact⟨(z%(k:Int)).toNat,by omega,by omega⟩
  refine az λU hU=>?_
  walk_at"l3"
  refine⟨ns,1,rfl,by decide,by omega,?_⟩
  obtain⟨r1,e1,h1⟩:=modn (ns.getD (mP 1) 0) (M-2) (by omega)
  rw[show(M:Int)-2=((M-2:Nat):Int) by omega,e1]
  refine hU _ ?_
  clear hU U
  refine az λU hU=>?_
  walk_at"l3"
  have st:∀n:Nat,2<=n->n+1<=M->(wh=true->n+1=M)->U [some (D.fz (aC ns)),some (D.int M),some (D.bl wh),some (D.int n),none,none,none]:=by
   intro n n1 n2 n3
   refine hU _ ?_
   clear hU U
   refine az λU hU=>?_
   walk_at"l3"
   refine⟨ns,2,rfl,by decide,?_⟩
   dsimp only
   rw[show(if(15:Int)<(n:Int)-1 then(15:Int)else(n:Int)-1)=((min 15 (n-1):Nat):Int) by split<;>omega]
   obtain⟨r2,e2,h2⟩:=modn (ns.getD (mP 2) 0) (min 15 (n-1)) (by omega)
   rw[e2]
   refine⟨by omega,hU _ ?_⟩
   clear hU U
   refine az λU hU=>?_
   walk_at"l3"
   have jK:∀n e:Nat,2<=n->n+1<=M->1<=e->e+1<=n->e<=39->(wh=true->n+1=M)->U [some (D.fz (aC ns)),some (D.int M),some (D.bl wh),some (D.int n),some (D.int e),none,none]:=by
    intro n e n1 n2 n3 n4 n5 n6
    refine hU _ ?_
    clear hU U
    refine az λU hU=>?_
    walk_at"l3"
    refine⟨ns,3,rfl,by decide,by omega,?_⟩
    obtain⟨r3,e3,h3⟩:=modn (ns.getD (mP 3) 0) M (by omega)
    rw[e3]
    refine hU _ ?_
    clear hU U
    refine az λU hU=>?_
    walk_at"l3"
    refine⟨ns,4,rfl,by decide,kB (by decide) (by decide),kB (by decide) (by decide),by omega,?_⟩
    obtain⟨r4,e4,h4⟩:=modn (ns.getD (mP 4) 0/5) (e/2+2) (by omega)
    rw[show(e:Int)/2+2=((e/2+2:Nat):Int) by omega,e4]
    refine hU _ ?_
    clear hU U
    refine az λU hU=>?_
    walk_at"l3"
    have y6:∀k:Nat,U [some (D.fz (aC ns)),some (D.int M),some (D.bl wh),some (D.int n),some (D.int e),some (D.int r3),some (D.int k)]:=by
     intro k
     refine hU _ ?_
     walk_at"l3"
     have:=q n e r3 (min k 24) n1 n2 n3 n4 n5 h3 (by omega) n6
     rw[show(if(24:Int)<(k:Int)then(24:Int)else(k:Int))=((min k 24:Nat):Int) by split<;>omega]
     exact⟨by decide,this⟩
    clear hU
    refine⟨ns,4,rfl,by decide,by decide,?_⟩
    split
    ·refine⟨ns,4,rfl,by decide,kB (by decide) (by decide),by omega,?_⟩
     obtain⟨r5,e5,h5⟩:=modn (ns.getD (mP 4) 0/5) (n+1) (by omega)
     rw[show(n:Int)+1=((n+1:Nat):Int) by omega,e5]
     exact y6 _
    ·exact y6 _
   clear hU
   cases wh with
   | true =>
    rw[if_neg (by decide),show(1:Int)+(r2:Int)=((1+r2:Nat):Int) by omega]
    exact jK _ _ n1 n2 (by omega) (by omega) (by omega) n3
   | false =>
    rw[if_pos (by decide)]
    refine⟨ns,2,rfl,by decide,kB (by decide) (by decide),by decide,?_⟩
    split
    ·refine az λU hU=>?_
     walk_at"l3"
     refine hU _ ?_
     clear hU
     walk_at"l3"
     refine⟨ns,2,rfl,by decide,kB (by decide) (by decide),?_⟩
     rw[show(if(40:Int)<(n:Int)then(40:Int)else(n:Int))=((min n 40:Nat):Int) by split<;>omega,show((min n 40:Nat):Int)-1=((min n 40-1:Nat):Int) by omega]
     obtain⟨r5,e5,h5⟩:=modn (ns.getD (mP 2) 0/240) (min n 40-1) (by omega)
     rw[e5,show(1:Int)+(r5:Int)=((1+r5:Nat):Int) by omega]
     exact⟨by omega,jK _ _ (by omega) (by omega) (by omega) (by omega) (by omega) λz=>by cases z⟩
    ·rw[show(1:Int)+(r2:Int)=((1+r2:Nat):Int) by omega]
     exact jK _ _ n1 n2 (by omega) (by omega) (by omega) n3
  clear hU
  cases wh with
  | true =>
   rw[if_pos rfl,show(M:Int)-1=((M-1:Nat):Int) by omega]
   exact st _ (by omega) (by omega) λ_=>by omega
  | false =>
   rw[if_neg (by decide),show(2:Int)+(r1:Int)=((2+r1:Nat):Int) by omega]
   exact st _ (by omega) (by omega) λz=>by cases z
noncomputable abbrev aW2:bh:=λds Q=>∃l:List Nat,ds=[.lst false (ak l)]/\l.length<=1000/\Q (.lst true (ak (fH l)))
theorem aW3(T:Txt K mg t):aN P w K mg base aS 1 t.J1 t.J2 ["_law_row"] (bt (aW2 )):=by
 refine bC T.Xa WH ?_ ?_
 ·intro ds Q h
  obtain⟨l,rfl,hl,q⟩:=h<;>rfl
 ·intro aE A outer s H E hr
  refine⟨_,(aA (aH (i:=0) WH.nd rfl (ai rfl) (zK (zL) (by rfl) T.t7 rf (af (bv 0) ao)))
   (aA (rL eo (PW.pt (Ci (bN zH (ae (cu (dq) (by rfl) T.dv di (af (bv 0) ao))) (ae aj) (bE _)) (BS (bN (eG (cS hr)) (bq (bv 0) (ae (TY (ae aj))) (λ_ _=>rfl)) (ae aj) (bE _)))))
    (aB (cX8 (i:=0) rfl (by first | exact ai rfl | exact bx (ai rfl)))))
   (aB (aR (em 0))))),λds Q h=>?_⟩
  obtain⟨l,rfl,hl,q⟩:=h
  refine az λU hU=>?_
  walk_at"l3"
  refine hU _ ?_
  clear hU U
  refine az λU hU=>?_
  walk_at"l3"
  refine⟨λn δ=>∃k:Nat,δ=[some (.lst true (ak (l.take k)))]/\k<=l.length/\(∀x∈l.drop k,x=0)/\n=k,⟨l.length,l.length,by rw[oA];rfl,bJ _,by simp,rfl⟩,?_⟩
  rintro n δ ⟨k,rfl,hk,hz,rfl⟩
  walk_at"l3"
  have fin:(n=0\/l.getD (n-1) 0≠0)->U [some (.lst true (ak (l.take n)))]:=λh=>by
   refine hU _ ?_
   walk_at"l3"
   rw[HY hk hz h]at q
   exact q
  have tl:(l.take n).length=n:=by rw[jA];omega
  split
  ·rename_i h1
   rw[tl]at h1
   refine⟨_,ch8 (by omega),rfl,?_⟩
   rw[jm,tl,show(l.take n).getD (n-1) 0=l.getD (n-1) 0 by rw[aI,Bz,if_pos (by omega),aI]]
   by_cases h0:l.getD (n-1) 0=0
   ·rw[if_pos (by rw[h0];rfl)]
    refine⟨λz=>?_,n-1,by omega,n-1,?_,by omega,Vw (by omega) hk hz h0,rfl⟩
    ·have:=congrArg Bk z
     rw[dF,tl]at this
     simp at this
     omega
    ·rw[cI,cI,<- List.map_dropLast,List.dropLast_eq_take,tl,List.take_take,yu (by omega)]
   ·rw[if_neg (by simp only[decide_eq_true_eq];omega)]
    exact fin (.inr h0)
  ·rename_i h1
   rw[tl]at h1
   exact fin (.inl (by omega))
noncomputable abbrev aU1:bh:=λds Q=>∃(m:Bool × Nat) (a b:Nat),ds=[dr m,.int a,.int b]/\0<m.2/\Q (.int (gp m a b:Nat))
theorem X6(T:Txt K mg t):aN P w K mg base aS 1 t.J3 t.J4 ["_law_told_here","_law_a","_law_b"] (bt (aU1 )):=by
 refine bC T.LK aS4 ?_ ?_
 ·intro ds Q h
  obtain⟨m,a,b,rfl,h0,q⟩:=h<;>rfl
 ·intro aE A outer s H E hr
  refine⟨_,(aA (cm (jP (bq (bv 0) (ae aj) (λ_ _=>rfl))) (aB (aR (ay si (bv 1) (bv 2)))) cH)
   (aB (aR (ay cM (ae (ay cF (bv 1) (bv 2))) (bq (bv 0) (ae aj) (λ_ _=>rfl)))))),λds Q h=>?_⟩
  obtain⟨m,a,b,rfl,h0,q⟩:=h
  unfold dr at *
  obtain⟨k,n⟩:=m
  refine az λU hU=>?_
  walk_at"l3"
  cases k with
  | true =>
   refine⟨_,rfl,true,rfl,?_⟩
   rw[if_pos rfl,km]
   exact q
  | false =>
   refine⟨_,rfl,false,rfl,?_⟩
   rw[if_neg (by decide)]
   refine hU _ ?_
   walk_at"l3"
   refine⟨_,rfl,?_⟩
   refine⟨by omega,?_⟩
   have e:((gp (false,n) a b:Nat):Int)=((a:Int)+b)%n:=by
    show(((a+b)%n:Nat):Int)=_
    rw[mO,uz]
   rw[<-e];exact q
noncomputable abbrev aN3:bh:=λds Q=>∃(m:Bool × Nat) (a b:List Nat),ds=[dr m,.lst false (ak a),.lst false (ak b)]/\m∈av/\AllLt (aa m) a/\AllLt (aa m) b/\a.length+b.length<=1000/\Q (.lst true (ak (fI m a b)))
theorem X7(T:Txt K mg t):aN P w K mg base aS 2 t.J5 t.J6 ["_law_told_here","_law_a","_law_b"] (bt (aN3 )):=by
 refine bC T.LL DI ?_ ?_
 ·intro ds Q h
  obtain⟨m,a,b,rfl,hm,ha,hb,hl,q⟩:=h<;>rfl
 ·intro aE A outer s H E hr
  refine⟨_,(aA (Dr (i:=3) DI.nd rfl (ai rfl) [] ["_law_k"] rfl (jj rfl T.gh (af (ae (ay cF (ae (cu (dq) (by rfl) T.dv di (af (bv 1) ao))) (ae (cu (dq) (by rfl) T.dv di (af (bv 2) ao))))) ao)) (λ_ _ _ _=>(dB (i:=0) (show(["_law_k"]:List Str).Nodup by decide +kernel) rfl (ai (lookup_relabel_local rfl)) (by decide) (bx (lookup_relabel_local rfl)))) (λ_ _ _ _=>eQ) (λ_ _ _ _=>aj) rfl trivial (λ_=>by repeat' (first | exact trivial | refine⟨.inl rfl,?_⟩ | refine⟨.inr (.inl rfl),?_⟩ | refine⟨.inr (.inr ⟨_,rfl⟩),?_⟩)) (λ_=>trivial) rfl (by decide +kernel))
   (aA (fR eo rfl (nz rfl T.oh (af (bv 1) ao)) (gI (i1:=4) (i2:=5) rfl DI.nd rfl (ai rfl) rfl (ai rfl))
    (aB (fR eo rfl (nz rfl T.oh (af (bv 2) ao)) (gI (i1:=6) (i2:=7) rfl DI.nd rfl (ai rfl) rfl (ai rfl))
     (aB (sQ (i:=3) rfl (by first | exact ai rfl | exact bx (ai rfl)) (bj ((X6 T).mono (by decide)) hr rfl T.Xb T.LK.kp T.Xc aW (af (bv 0) (af (bq (bv 3) (ae (ay cF (bv 4) (bv 6))) (λ_ _=>rfl)) (af (ae (bj ((L7 T).mono (by decide)) hr rfl T.LH T.DP.kp T.LJ aW (af (bv 0) (af (bv 5) (af (bv 7) ao))))) ao)))) (ae (ay cF (bv 4) (bv 6))))))))
   (aB (aR (bj ((aW3 T).mono (by decide)) hr rfl T.aX3 T.Xa.kp T.aX4 aW (af (bv 3) ao)))))),λds Q h=>?_⟩
  obtain⟨m,a,b,rfl,hm,ha,hb,hl,q⟩:=h
  have m0:=bB m hm
  refine az λU hU=>?_
  walk_at"l3"
  refine⟨⟨by omega,by omega⟩,?_⟩
  refine gb (aO (a.length+b.length)) (λ(i:Nat)=>D.int (i:Int)) (λ_=>D.int ((0:Nat):Int)) (tH _ (by omega)) i3 (λk hk=>?_) (.inr λ_ _=>rfl) (by simp[sL];omega) ?_
  ·walk_at"l3"
   rfl
  rw[show((aO (a.length+b.length)).map λ_=>D.int ((0:Nat):Int))=ak (aT (a.length+b.length) 0) by rw[cI,oH,List.map_const',cZ]]
  refine hU _ ?_
  clear hU U
  refine az λU hU=>?_
  walk_at"l3"
  refine fG.mk (λi δ=>∃o4 o5 o6 o7,δ=[some (dr m),some (D.lst false (ak a)),some (D.lst false (ak b)),some (D.lst true (ak (gx m b (aT (a.length+b.length) 0) 0 (a.take i)))),o4,o5,o6,o7]) ⟨_,_,_,_,rfl⟩ ?_ ?_
  ·rintro i d δ hd ⟨o4,o5,o6,o7,rfl⟩
   obtain⟨hi,rfl⟩:=C8 hd
   clear hd
   generalize hT:gx m b (aT (a.length+b.length) 0) 0 (a.take i)=tt
   have lT:tt.length=a.length+b.length:=by rw[<-hT,C4,hW]
   have bT:AllLt (aa m) tt:=by rw[<-hT];exact C5 hm b _ _ _ (vY hm _)
   walk_at"l3"
   refine fG.mk (λj δ=>∃o6 o7,δ=[some (dr m),some (D.lst false (ak a)),some (D.lst false (ak b)),some (D.lst true (ak (eT m a[i] tt i (b.take j)))),some (D.int i),some (D.int (a[i]:Nat)),o6,o7]) ⟨_,_,rfl⟩ ?_ ?_
   ·rintro j d δ hd ⟨o6,o7,rfl⟩
    obtain⟨hj,rfl⟩:=C8 hd
    clear hd
    have lP:(eT m a[i] tt i (b.take j)).length=a.length+b.length:=by rw[vW,lT]
    have bP:AllLt (aa m) (eT m a[i] tt i (b.take j)):=vX hm _ _ _ _ bT
    walk_at"l3"
    refine⟨_,nI (by omega) (by omega),m,_,_,rfl,hm,ha _ (dP _),hb _ (dP _),m,_,_,rfl,m0,rfl,_,((i:Int)+(j:Int)).toNat,rfl,z8 (by omega) (by rw[dF];omega),_,_,?_,rfl,rfl⟩
    rw[Vq m _ b tt i hj,C7,show((i:Int)+(j:Int)).toNat=i+j by omega];rfl
   ·rintro δ ⟨o6,o7,rfl⟩
    rw[mh,dF,oA,Vs m b a _ 0 hi,hT,BC]
    exact⟨_,_,_,_,rfl⟩
  ·rintro δ ⟨o4,o5,o6,o7,rfl⟩
   rw[mh,dF,oA]
   refine hU _ ?_
   walk_at"l3"
   have:=Ic m a b
   exact⟨kJ m a b,rfl,by rw[this];exact hl,by rw[fY,Ih];rfl,q⟩
noncomputable abbrev aU2:bh:=λds Q=>∃(m:Bool × Nat) (a b:Nat),ds=[dr m,.int a,.int b]/\0<m.2/\Q (.int (gl m a b))
theorem aU3(T:Txt K mg t):aN P w K mg base aS 1 t.J7 t.J8 ["_law_told_here","_law_a","_law_b"] (bt (aU2 )):=by
 refine bC T.Xf aS5 ?_ ?_
 ·intro ds Q h
  obtain⟨m,a,b,rfl,h0,q⟩:=h<;>rfl
 ·intro aE A outer s H E hr
  refine⟨_,(aA (cm (jP (bq (bv 0) (ae aj) (λ_ _=>rfl))) (aB (aR (ay si (bv 1) (bv 2)))) cH)
   (aB (aR (ay cM (ae (ay cX (bv 1) (bv 2))) (bq (bv 0) (ae aj) (λ_ _=>rfl)))))),λds Q h=>?_⟩
  obtain⟨m,a,b,rfl,h0,q⟩:=h
  unfold dr at *
  obtain⟨k,n⟩:=m
  refine az λU hU=>?_
  walk_at"l3"
  cases k with
  | true =>
   refine⟨_,rfl,true,rfl,?_⟩
   rw[if_pos rfl,km]
   exact q
  | false =>
   refine⟨_,rfl,false,rfl,?_⟩
   rw[if_neg (by decide)]
   refine hU _ ?_
   walk_at"l3"
   refine⟨_,rfl,?_⟩
   exact⟨by omega,q⟩
theorem X8{m:Bool × Nat}(hm:m∈av){a b:List Nat}{x z:Nat}(ha:a.length<=x+1)(hb:b.length<=z+1):(fI m a b).length<=x+z+1:=by
 have h0:=bB m hm
 rcases HZ (kJ m a b)with h | h
 ·rw[show fH (kJ m a b)=fI m a b from rfl]at h;omega
 ·rw[show fH (kJ m a b)=fI m a b from rfl]at h
  rcases qP (x+z+1) (fI m a b).length with c | c
  ·refine absurd ?_ h
   show cf (fI m a b) _=0
   rw[Ik hm,Dk hm]
   refine gJ (rg hm) λj hj=>?_
   by_cases c':x<j
   ·rw[g5 (l:=a) (by omega),dN m _ h0]
   ·rw[g5 (l:=b) (by omega),gg m _ h0]
  ·exact c
theorem cn4{m:Bool × Nat}(hm:m∈av){s:Nat}(hs:s<aa m):aJ m s [aZ m 0 s,1]=0:=by
 have h0:=bB m hm
 have g:=(eV hm (a:=0) (b:=s) (by omega) hs).2
 show gp m (gm m (gp m (gm m 0 s) 1) s) (aZ m 0 s)=0
 rw[dN m _ h0,gw (lo1 hm),qa hs,js]
 exact g.2
noncomputable abbrev aU4:bh:=λds Q=>∃(ns:List Int) (m:Bool × Nat) (n e f k:Nat),ds=[.fz (aC ns),dr m,.int (aa m),.lst false (aC (fl m)),.tup [.int n,.int e,.int f,.int k]]/\m∈av/\n+1<=aa m/\e+1<=n/\f<aa m/\k<=24/\∀c:List Nat,c.length=n->AllLt (aa m) c->(∀i,i<e->aJ m (eS m ((f:Int)+(i:Int))) c=0)->Q (.lst true (ak c))
theorem aU5(T:Txt K mg t):aN P w K mg base aS 3 t.J9 t.Ka ["_law_script","_law_told_here","_law_many_here","_law_powers_here","_law_numbers_here"] (bt (aU4 )):=by
 refine bC T.Xg tS ?_ ?_
 ·intro ds Q h
  obtain⟨ns,m,n,e,f,k,rfl,hm,hn,he,hf,hk,q⟩:=h<;>rfl
 ·intro aE A outer s H E hr
  refine⟨_,(aA (aH (i:=5) tS.nd rfl (ai rfl) (eO (cR aj dA)))
   (aA (fR eo rfl (jj rfl T.gh (af (bq (bv 4) (ae aj) (λ_ _=>rfl)) ao)) (dB (i:=6) tS.nd rfl (ai rfl))
    (aB (aH (i:=5) tS.nd rfl (ai rfl) (bj ((X7 T).mono (by decide)) hr rfl T.Xd T.LL.kp T.Xe aW (af (bv 1) (af (bv 5) (af (ae (eO (cR (bj ((aU3 T).mono (by decide)) hr rfl T.aV8 T.Xf.kp T.aV9 aW (af (bv 1) (af (ae aj) (af (bq (bv 3) (ae (ay cM (ae (ay cF (bq (bv 4) (ae aj) (λ_ _=>rfl)) (bv 6))) (ae (ay cX (bv 2) (ae aj))))) (λ_ _=>rfl)) ao)))) (cR aj dA)))) ao)))))))
   (aA (aH (i:=7) tS.nd rfl (bx rfl) (ay cF (ae aj) (ae (ay fZ (ae aj) (bq (bv 4) (ae aj) (λ_ _=>rfl))))))
   (aA (Dr (i:=8) tS.nd rfl (ai rfl) [("_law_many_here",2),("_law_script",0),("_law_base",7)] ["_law_k"] rfl (jj rfl T.gh (af (ae (ay cX (bq (bv 4) (ae aj) (λ_ _=>rfl)) (bq (bv 4) (ae aj) (λ_ _=>rfl)))) ao)) (λ_ _ _ _=>(dB (i:=3) (show(["_law_many_here","_law_script","_law_base","_law_k"]:List Str).Nodup by decide +kernel) rfl (ai (lookup_relabel_local rfl)) (by decide) (bx (lookup_relabel_local rfl)))) (λ_ _ _ _=>eQ) (λ_ _ _ _=>(ay cM (ae (bj ((jc T).mono (by decide)) hr rfl T.ja T.iA.kp T.jb aW (af (bv 1) (af (ae (ay cF (bv 2) (bv 3))) ao)))) (bv 0))) rfl ⟨rfl,⟨rfl,⟨rfl,trivial⟩⟩⟩ (λ_=>by repeat' (first | exact trivial | refine⟨.inl rfl,?_⟩ | refine⟨.inr (.inl rfl),?_⟩ | refine⟨.inr (.inr ⟨_,rfl⟩),?_⟩)) (λ_=>⟨⟨rfl,.inl rfl,.inl rfl,_,rfl,rfl⟩,⟨⟨rfl,.inl rfl,.inl rfl,_,rfl,rfl⟩,⟨⟨rfl,.inl rfl,.inl rfl,_,rfl,rfl⟩,trivial⟩⟩⟩) rfl (by decide +kernel))
   (aA (aH (i:=9) tS.nd rfl (ai rfl) (bj ((X7 T).mono (by decide)) hr rfl T.Xd T.LL.kp T.Xe aW (af (bv 1) (af (bv 8) (af (bv 5) ao)))))
   (aB (aR (ay cF (bv 9) (ae (fc [] ["_law_k"] rfl (jj rfl T.gh (af (ae (ay cX (bq (bv 4) (ae aj) (λ_ _=>rfl)) (ae (cu (dq) (by rfl) T.dv di (af (bv 9) ao))))) ao)) (λ_ _ _ _=>(dB (i:=0) (show(["_law_k"]:List Str).Nodup by decide +kernel) rfl (ai (lookup_relabel_local rfl)) (by decide) (bx (lookup_relabel_local rfl)))) (λ_ _ _ _=>eQ) (λ_ _ _ _=>aj) rfl trivial (λ_=>by repeat' (first | exact trivial | refine⟨.inl rfl,?_⟩ | refine⟨.inr (.inl rfl),?_⟩ | refine⟨.inr (.inr ⟨_,rfl⟩),?_⟩)) (λ_=>trivial) rfl (by decide +kernel))))))))))),λds Q h=>?_⟩
  obtain⟨ns,m,n,e,f,k,rfl,hm,hn,he,hf,hk,q⟩:=h
  have dh:=(bS hm).lo
  have Bb:=(bS hm).hi
  have m0:=bB m hm
  refine az λU hU=>?_
  walk_at"l3"
  refine⟨by decide,hU _ ?_⟩
  clear hU U
  refine az λU hU=>?_
  walk_at"l3"
  refine⟨_,rfl,_,rfl,⟨by omega,by omega⟩,Cv (λi δ=>∃(G:List Nat) (o1:Option D),(AllLt (aa m) G/\G.length<=i+1/\∀j,j<i->aJ m (eS m ((f:Int)+(j:Int))) G=0)/\δ=[some (D.fz (aC ns)),some (dr m),some (D.int (aa m)),some (D.lst false (aC (fl m))),some (D.tup [D.int n,D.int e,D.int f,D.int k]),some (D.lst true (ak G)),o1,none,none,none]) ⟨[1],none,⟨IS hm,bJ _,λj hj=>absurd hj (yE j)⟩,rfl⟩ ?_ ?_⟩
  ·rintro i δ hi ⟨G,o1,⟨g1,g2,g3⟩,rfl⟩
   simp only[gN,kX,kW]
   clear hU
   walk_at"l3"
   have n0:=fU ((f:Int)+(i:Int)) (show(aa m:Int)-1≠0 by omega)
   have hs:=i7 hm ((f:Int)+(i:Int))
   have gn:=eV hm (a:=0) (b:=eS m ((f:Int)+(i:Int))) (by omega) hs
   have hb:AllLt (aa m) [aZ m 0 (eS m ((f:Int)+(i:Int))),1]:=λa ha=>by
    simp only[bY,ib,or_false]at ha
    rcases ha with rfl | rfl
    ·exact gn.2.1
    ·omega
   refine⟨_,rfl,by omega,.int (eS m ((f:Int)+(i:Int)):Nat),jM n0 ?_,m,0,_,rfl,m0,?_⟩
   ·unfold aC;rw[bX,HW hm];rfl
   rw[gn.1]
   refine⟨rfl,by decide,m,G,[aZ m 0 (eS m ((f:Int)+(i:Int))),1],rfl,hm,g1,hb,by rw[show([aZ m 0 (eS m ((f:Int)+(i:Int))),1]:List Nat).length=2 from rfl];omega,eU _,_,_,⟨C6 hm _ _,X8 hm (x:=i) (z:=1) g2 (by show 2<=2;omega),λj hj=>?_⟩,rfl,rfl⟩
   rw[Ie hm _ _ _ g1 hb]
   by_cases c:j<i
   ·rw[g3 j c,dN m _ m0]
   ·rw[show j=i by omega,cn4 hm hs,gg m _ m0]
  ·rintro δ ⟨G,o1,⟨g1,g2,g3⟩,rfl⟩
   refine hU _ ?_
   clear hU U
   refine az λU hU=>?_
   walk_at"l3"
   refine⟨_,rfl,ig.ok (.inl ⟨by omega,by omega⟩),hU _ ?_⟩
   clear hU U
   refine az λU hU=>?_
   walk_at"l3"
   have eo5:∀z:Int,z%(aa m:Int)=(((z%(aa m:Int)).toNat:Nat):Int):=λz=>by
    have n0:=fU z (show(aa m:Int)≠0 by omega)
    omega
   have eo6:∀z:Int,(z%(aa m:Int)).toNat<aa m:=λz=>by
    have n1:=iD z (show(0:Int)<(aa m:Int) by omega)
    omega
   refine⟨_,rfl,_,rfl,⟨by omega,by omega⟩,gb (aO (n-e)) (λ(i:Nat)=>D.int (i:Int)) (λkk=>D.int (((ns.getD ((6:Int)+2*(k:Int)+(kk:Int)).toNat 0%(aa m:Int)).toNat:Nat):Int)) (tH _ (by omega)) i3 (λkk hk=>?_) (.inr λ_ _=>rfl) (by rw[cZ,sL];omega) ?_⟩
   ·walk_at"l3"
    exact⟨ns,_,rfl,by omega,by omega,eo5 _⟩
   obtain⟨wd,ewd,X9,lwd⟩:∃wd:List Nat,((aO (n-e)).map λ(kk:Nat)=>D.int (((ns.getD ((6:Int)+2*(k:Int)+(kk:Int)).toNat 0%(aa m:Int)).toNat:Nat):Int))=ak wd/\AllLt (aa m) wd/\wd.length=n-e:=by
    refine⟨(aO (n-e)).map λ(kk:Nat)=>(ns.getD ((6:Int)+2*(k:Int)+(kk:Int)).toNat 0%(aa m:Int)).toNat,by rw[cI,da];rfl,λa ha=>?_,by simp⟩
    obtain⟨k,_,rfl⟩:=bZ.mp ha
    exact eo6 _
   rw[ewd]
   refine hU _ ?_
   clear hU U
   refine az λU hU=>?_
   walk_at"l3"
   refine⟨m,wd,G,rfl,hm,X9,g1,by omega,eU _,hU _ ?_⟩
   clear hU U
   have pl:=X8 hm (a:=wd) (b:=G) (x:=n-e-1) (z:=e) (by omega) g2
   have pa:=C6 hm wd G
   have ph:∀i,i<e->aJ m (eS m ((f:Int)+(i:Int))) (fI m wd G)=0:=λi hi=>by rw[Ie hm _ _ _ X9 g1,g3 i hi,gg m _ m0]
   generalize fI m wd G=pr at pl pa ph ⊢
   walk_at"l3"
   refine⟨_,rfl,⟨by omega,by omega⟩,bM0 (n:=n-pr.length) (by omega) (by omega) ?_⟩
   dsimp only
   refine⟨⟨by rw[dF,dF,hW];omega,kH _,kH _⟩,?_⟩
   rw[nC]
   refine q _ (by rw[fB,hW];omega) (λa ha=>?_) λi hi=>by rw[Wg hm,ph i hi]
   rcases cw.mp ha with h | h
   ·exact pa a h
   ·rw[(yr.mp h).2];omega
theorem Ma(l:List Nat):bM (l.map some)=ak l:=by unfold bM;rw[da,cI];rfl
theorem Ya(y:List (Option Nat))(j:Nat)(v:Option Nat):(bM y).set j (gL v)=bM (y.set j v):=by unfold bM;rw[Rn]
theorem Yb{y:List (Option Nat)}{N j:Nat}{v:Option Nat}(h:∀a,some a∈y->a<N)(hv:∀a,v=some a->a<N):∀a,some a∈y.set j v->a<N:=λa ha=>by
 rcases yy ha with h1 | h1
 ·exact h a h1
 ·exact hv a h1.symm
noncomputable abbrev aP2:bh:=λds Q=>∃(ns:List Int) (m:Bool × Nat) (c:List Nat) (k:Nat),ds=[.fz (aC ns),dr m,.int (aa m),.lst false (ak c),.int k]/\m∈av/\0<c.length/\c.length<=64/\AllLt (aa m) c/\k<=24/\∀y:List (Option Nat),y.length=c.length->(∀a,some a∈y->a<aa m)->Q (.lst true (bM y))
theorem aP3(T:Txt K mg t):aN P w K mg base aS 2 t.Kb t.Kd ["_law_script","_law_told_here","_law_many_here","_law_word_here","_law_count"] (bt (aP2 )):=by
 refine bC T.Xh As ?_ ?_
 ·intro ds Q h
  obtain⟨ns,m,c,k,rfl,hm,hc0,hc,vQ,hk,q⟩:=h<;>rfl
 ·intro aE A outer s H E hr
  refine⟨_,(aA (aH (i:=5) As.nd rfl (ai rfl) (zK (zL) (by rfl) T.t7 rf (af (bv 3) ao)))
   (aA (fR eo rfl (jj rfl T.gh (af (bv 4) ao)) (dB (i:=6) As.nd rfl (ai rfl))
    (aA (aH (i:=7) As.nd rfl (ai rfl) (ay cM (ae (bj ((jc T).mono (by decide)) hr rfl T.ja T.iA.kp T.jb aW (af (bv 0) (af (ae (ay cF (ae aj) (ae (ay fZ (ae aj) (bv 6))))) ao)))) (ae (cu (dq) (by rfl) T.dv di (af (bv 5) ao)))))
    (aA (aH (i:=8) As.nd rfl (ai rfl) (bj ((jc T).mono (by decide)) hr rfl T.ja T.iA.kp T.jb aW (af (bv 0) (af (ae (ay cF (ae aj) (ae (ay fZ (ae aj) (bv 6))))) ao))))
    (aB (cm (bN (eG (cS hr)) (ae (ay cM (ae (ay kC (bv 8) (ae (ay cX (bv 2) (ae aj))))) (ae aj))) (ae aj) (bE _)) (aB (sQ (i:=5) rfl (by first | exact ai rfl | exact bx (ai rfl)) fF (bv 7))) (aB (cm (bN TJ (bq (bv 5) (bv 7) (λ_ _=>rfl)) (ae fF) (bE _)) (aB (sQ (i:=5) rfl (by first | exact ai rfl | exact bx (ai rfl)) (bj ((X6 T).mono (by decide)) hr rfl T.Xb T.LK.kp T.Xc aW (af (bv 1) (af (bq (bv 5) (bv 7) (λ_ _=>rfl)) (af (ae (ay cF (ae aj) (ae (ay cM (bv 8) (ae (ay cX (bv 2) (ae aj))))))) ao)))) (bv 7))) cH)))))))
   (aB (aR (em 5))))),λds Q h=>?_⟩
  obtain⟨ns,m,c,k,rfl,hm,hc0,hc,vQ,hk,q⟩:=h
  have dh:=(bS hm).lo
  have Bb:=(bS hm).hi
  have m0:=bB m hm
  refine az λU hU=>?_
  walk_at"l3"
  refine hU _ ?_
  clear hU U
  refine az λU hU=>?_
  walk_at"l3"
  refine⟨⟨by omega,by omega⟩,Cv (λi δ=>∃(y:List (Option Nat)) (o1 o2 o3:Option D),(y.length=c.length/\∀a,some a∈y->a<aa m)/\δ=[some (D.fz (aC ns)),some (dr m),some (D.int (aa m)),some (D.lst false (ak c)),some (D.int k),some (D.lst true (bM y)),o1,o2,o3]) ⟨c.map some,_,_,_,⟨by rw[bu],λa ha=>?_⟩,by rw[Ma]⟩ ?_ ?_⟩
  ·obtain⟨b,hb,e⟩:=bZ.mp ha
   cases e
   exact vQ _ hb
  ·rintro i δ hi ⟨y,o1,o2,o3,⟨y1,y2⟩,rfl⟩
   simp only[gN,kX,kW]
   clear hU
   have yl:=DB y
   refine az λU hU=>?_
   walk_at"l3"
   refine⟨ig.ok (.inl ⟨by omega,by omega⟩),ns,_,rfl,by omega,by omega,?_⟩
   obtain⟨p,ep,hp⟩:∃p:Nat,ns.getD ((6:Int)+2*(i:Int)).toNat 0%((bM y).length:Int)=p/\p<y.length:=by
    have n0:=fU (ns.getD ((6:Int)+2*(i:Int)).toNat 0) (show((bM y).length:Int)≠0 by omega)
    have n1:=iD (ns.getD ((6:Int)+2*(i:Int)).toNat 0) (show(0:Int)<((bM y).length:Int) by omega)
    exact⟨_,(oF n0).symm,by omega⟩
   rw[ep]
   refine hU _ ?_
   clear hU
   refine az λU hU=>?_
   walk_at"l3"
   refine⟨ig.ok (.inl ⟨by omega,by omega⟩),ns,_,rfl,by omega,?_⟩
   generalize ns.getD ((7:Int)+2*(i:Int)).toNat 0=ch
   refine hU _ ?_
   clear hU
   walk_at"l3"
   have ix:iq (bM y).length (p:Int)=some p:=z8 (by omega) (by rw[gB];omega)
   have at_:eB (bM y) (p:Int)=some (gL (y.getD p none)):=jM (by omega) (by unfold bM;rw[gB,bX,qm hp];rfl)
   have hv:∀a,y.getD p none=some a->a<aa m:=λa ha=>y2 a (ha ▸ dX hp none)
   refine⟨kB (by omega) (by omega),by decide,?_⟩
   split
   ·exact⟨_,_,rfl,ix,y.set p none,_,_,_,⟨by rw[mE,y1],Yb y2 λa ha=>by cases ha⟩,Ya y p none,rfl,rfl,rfl⟩
   ·refine⟨_,at_,?_⟩
    cases ev:y.getD p none with
    | none =>
     rw[if_neg (by decide)]
     exact⟨y,_,_,_,⟨y1,y2⟩,rfl,rfl,rfl,rfl⟩
    | some a =>
     have ha:=hv a ev
     obtain⟨r,er,hr⟩:∃r:Nat,ch%((aa m:Int)-1)=r/\r+1<aa m:=by
      have n0:=fU ch (show(aa m:Int)-1≠0 by omega)
      have n1:=iD ch (show(0:Int)<(aa m:Int)-1 by omega)
      exact⟨_,(oF n0).symm,by omega⟩
     rw[if_pos (by exact rfl),er,show(1:Int)+(r:Int)=((1+r:Nat):Int) by omega]
     rw[ev]at at_
     exact⟨_,at_,by omega,m,a,1+r,rfl,m0,rfl,_,_,rfl,ix,y.set p (some (gp m a (1+r))),_,_,_,⟨by rw[mE,y1],Yb y2 λb hb=>by cases hb;exact qg hm ha (by omega)⟩,Ya y p (some (gp m a (1+r))),rfl,rfl,rfl⟩
  ·rintro δ ⟨y,o1,o2,o3,⟨y1,y2⟩,rfl⟩
   refine hU _ ?_
   walk_at"l3"
   exact q y y1 y2
theorem co9{y:List (Option Nat)}{j:Nat}{d:D}(h:(eC (bM y))[j]?=some d):j<y.length/\d=.tup [.int (j:Int),gL (y.getD j none)]:=by
 unfold eC bM at h
 rw[uv,bX]at h
 by_cases hj:j<y.length
 ·rw[qm hj]at h
  exact⟨hj,(cN h).symm⟩
 ·rw[gj (by omega)]at h;cases h
noncomputable abbrev aP4:bh:=λds Q=>∃(m:Bool × Nat) (y:List (Option Nat)) (g s:Nat),ds=[dr m,.int (aa m),.lst false (aC (fl m)),.lst false (bM y),.int g,.int s]/\m∈av/\y.length<=64/\s<=64/\(∀a,some a∈y->a<aa m)/\Q (.lst true (bM (jy m g s y)))
theorem Yc(T:Txt K mg t):aN P w K mg base aS 2 t.Ke t.Kf ["_law_told_here","_law_many_here","_law_powers_here","_law_row","_law_way","_law_steps"] (bt (aP4 )):=by
 refine bC T.LM Jm ?_ ?_
 ·intro ds Q h
  obtain⟨m,y,g,s,rfl,hm,hyl,hs,hy,q⟩:=h<;>rfl
 ·intro aE A outer s H E hr
  refine⟨_,(aA (cm (bN (eG (cS hr)) (bv 4) (ae aj) (bE _)) (aB (aR (fc [("_law_row",3),("_law_steps",5)] ["_law_j"] rfl (jj rfl T.gh (af (ae (cu (dq) (by rfl) T.dv di (af (bv 3) ao))) ao)) (λ_ _ _ _=>(dB (i:=2) (show(["_law_row","_law_steps","_law_j"]:List Str).Nodup by decide +kernel) rfl (ai (lookup_relabel_local rfl)) (by decide) (bx (lookup_relabel_local rfl)))) (λ_ _ _ _=>eQ) (λ_ _ _ _=>(dk (bq (bv 0) (ae (ay cM (ae (ay cX (bv 2) (bv 1))) (ae (cu (dq) (by rfl) T.dv di (af (bv 0) ao))))) (λ_ _=>rfl)))) rfl ⟨rfl,⟨rfl,trivial⟩⟩ (λ_=>by repeat' (first | exact trivial | refine⟨.inl rfl,?_⟩ | refine⟨.inr (.inl rfl),?_⟩ | refine⟨.inr (.inr ⟨_,rfl⟩),?_⟩)) (λ_=>⟨⟨rfl,.inl rfl,.inl rfl,_,rfl,rfl⟩,⟨⟨rfl,.inl rfl,.inl rfl,_,rfl,rfl⟩,trivial⟩⟩) rfl (by decide +kernel)))) cH)
   (aA (cm (bN (eG (cS hr)) (bv 4) (ae aj) (bE _)) (aB (aR (bY3 rfl (by rfl) T.t7 (by rfl) T.XU (af (bv 3) ao)))) cH)
   (aA (aH (i:=6) Jm.nd rfl (ai rfl) (eO dA))
   (aA (fR eo rfl (nz rfl T.oh (af (bv 3) ao)) (gI (i1:=7) (i2:=8) rfl Jm.nd rfl (ai rfl) rfl (ai rfl))
    (aB (cm (bN nt (bv 8) (ae fF) (bE _)) (aB (zN (i:=6) rfl (by first | exact ai rfl | exact bx (ai rfl)) fF)) (aB (zN (i:=6) rfl (by first | exact ai rfl | exact bx (ai rfl)) (bj ((L7 T).mono (by decide)) hr rfl T.LH T.DP.kp T.LJ aW (af (bv 0) (af (bv 8) (af (bq (bv 2) (ae (ay cM (ae (ay fZ (bv 5) (bv 7))) (ae (ay cX (bv 1) (ae aj))))) (λ_ _=>rfl)) ao)))))))))
   (aB (aR (em 6))))))),λds Q h=>?_⟩
  obtain⟨m,y,g,s,rfl,hm,hyl,hs,hy,q⟩:=h
  have dh:=(bS hm).lo
  have Bb:=(bS hm).hi
  have yl:=DB y
  unfold jy mw mx rt at q
  refine az λU hU=>?_
  walk_at"l3"
  by_cases g0:g=0
  ·rw[if_pos (by omega)]
   rw[if_pos g0]at q
   refine⟨⟨by omega,by omega⟩,gb (aO y.length) (λ(i:Nat)=>D.int (i:Int)) (λj=>gL (y.getD (((j:Int)-(s:Int))%(y.length:Int)).toNat none)) (tH _ (by omega)) i3 (λj hj=>?_) (.inr λ_ _=>by cases y.getD _ none<;>rfl) (by rw[cZ,sL];omega) ?_⟩
   ·have hj:=de.mp hj
    walk_at"l3"
    rw[tP,yl]
    have n0:=fU ((j:Int)-(s:Int)) (show(y.length:Int)≠0 by omega)
    have n1:=iD ((j:Int)-(s:Int)) (show(0:Int)<(y.length:Int) by omega)
    exact⟨by omega,_,jM n0 (by unfold bM;rw[bX,qm (by omega)];rfl),by cases y.getD _ none<;>rfl,rfl⟩
   ·unfold bM at q
    rw[da]at q
    exact q
  rw[if_neg (by omega)]
  rw[if_neg g0]at q
  refine hU _ ?_
  clear hU U
  refine az λU hU=>?_
  walk_at"l3"
  by_cases g1:g=1
  ·rw[if_pos (by omega)]
   rw[if_pos g1]at q
   unfold bM at q
   rw[Rk]at q
   exact⟨DA y,q⟩
  rw[if_neg (by omega)]
  rw[if_neg g1]at q
  refine hU _ ?_
  clear hU U
  refine az λU hU=>?_
  walk_at"l3"
  refine⟨by decide,hU _ ?_⟩
  clear hU U
  refine az λU hU=>?_
  walk_at"l3"
  refine⟨DA y,?_⟩
  refine fG.mk (λj δ=>∃o3 o4,δ=[some (dr m),some (D.int (aa m)),some (D.lst false (aC (fl m))),some (D.lst false (bM y)),some (D.int g),some (D.int s),some (D.lst true (bM ((aO j).map λ(j:Nat)=>(y.getD j none).map λx=>gm m x (eS m ((s:Int)*(j:Int)))))),o3,o4]) ⟨_,_,rfl⟩ ?_ ?_
  ·rintro j d δ hd ⟨o3,o4,rfl⟩
   obtain⟨hj,rfl⟩:=co9 hd
   clear hd hU
   have hv:∀a,y.getD j none=some a->a<aa m:=λa ha=>hy a (ha ▸ dX hj none)
   have es:bM ((aO j).map λ(j:Nat)=>(y.getD j none).map λx=>gm m x (eS m ((s:Int)*(j:Int))))++[gL ((y.getD j none).map λx=>gm m x (eS m ((s:Int)*(j:Int))))]=bM ((aO (j+1)).map λ(j:Nat)=>(y.getD j none).map λx=>gm m x (eS m ((s:Int)*(j:Int)))):=by
    unfold bM
    rw[Rq,jC,jC];rfl
   walk_at"l3"
   have ll:(bM ((aO j).map λ(j:Nat)=>(y.getD j none).map λx=>gm m x (eS m ((s:Int)*(j:Int))))).length=j:=by rw[DB,bu,cZ]
   have n0:=fU ((s:Int)*(j:Int)) (show(aa m:Int)-1≠0 by omega)
   cases ev:y.getD j none with
   | none =>
    rw[ev]at es
    rw[if_pos (by exact rfl)]
    exact⟨⟨_,rfl⟩,by rw[ll];omega,_,_,es,rfl,rfl⟩
   | some a =>
    rw[ev]at es
    rw[if_neg (by exact fN)]
    refine⟨⟨_,rfl⟩,ig.ok (.inl ⟨by omega,by omega⟩),by omega,.int (eS m ((s:Int)*(j:Int)):Nat),jM n0 ?_,m,a,_,rfl,hm,hv a ev,i7 hm _,rfl,by rw[ll];omega,_,_,es,rfl,rfl⟩
    unfold aC;rw[bX,HW hm];rfl
  ·rintro δ ⟨o3,o4,rfl⟩
   refine hU _ ?_
   walk_at"l3"
   rw[show(eC (bM y)).length=y.length by unfold eC;rw[List.length_mapIdx,yl]]
   exact q
noncomputable abbrev aP5:bh:=λds Q=>∃(y:List (Option Nat)),ds=[.lst false (bM y)]/\y.length<=1000/\Q (.lst true (ak (aV y)))
theorem aP6(T:Txt K mg t):aN P w K mg base aS 1 t.Kg t.Kh ["signs"] (bt (aP5 )):=by
 refine bC T.Xk aO2 ?_ ?_
 ·intro ds Q h
  obtain⟨y,rfl,hy,q⟩:=h<;>rfl
 ·intro aE A outer s H E hr
  refine⟨_,(aB (aR (fc [] ["place","sign"] rfl (nz rfl T.oh (af (bv 0) ao)) (λ_ _ _ _=>(gI (i1:=0) (i2:=1) rfl (show(["place","sign"]:List Str).Nodup by decide +kernel) rfl (ai (lookup_relabel_local rfl)) rfl (ai (lookup_relabel_local rfl)) (by decide) (by decide) (bx (lookup_relabel_local rfl)) (bx (lookup_relabel_local rfl)))) (λ_ _ _ _=>(G8 (bN nt (bv 1) (ae fF) (bE _)))) (λ_ _ _ _=>(dk (bv 0))) rfl trivial (λ_=>by repeat' (first | exact trivial | refine⟨.inl rfl,?_⟩ | refine⟨.inr (.inl rfl),?_⟩ | refine⟨.inr (.inr ⟨_,rfl⟩),?_⟩)) (λ_=>trivial) rfl (by decide +kernel)))),λds Q h=>?_⟩
  obtain⟨y,rfl,hy,q⟩:=h
  walk_at"l3"
  refine Iq (aO y.length) (λ(i:Nat)=>D.tup [.int (i:Int),gL (y.getD i none)]) (λ(i:Nat)=>D.int (i:Int)) (λj=>decide (y[j]?=some none)) (ck9 y) (λa b h=>by injection h with h;simp at h;omega) (λi hi=>?_) (.inr λ_ _ _=>rfl) (by rw[cZ,sL];omega) ?_
  ·walk_at"l3"
   rw[qm (de.mp hi)]
   refine⟨?_,λ_=>trivial⟩
   cases y.getD i none with
   | none=>rfl
   | some a=>exact(decide_eq_false λz=>by cases z).symm
  ·rw[cI]at q
   exact q
noncomputable abbrev aF0:bh:=λds Q=>∃(y:List (Option Nat)),ds=[.lst false (bM y)]/\y.length<=1000/\Q (.lst true (ak (bW y)))
theorem aF1(T:Txt K mg t):aN P w K mg base aS 1 t.Ki t.Kj ["signs"] (bt (aF0 )):=by
 refine bC T.Xl aE3 ?_ ?_
 ·intro ds Q h
  obtain⟨y,rfl,hy,q⟩:=h<;>rfl
 ·intro aE A outer s H E hr
  refine⟨_,(aB (aR (fc [] ["sign"] rfl (nq (bv 0)) (λ_ _ _ _=>(dB (i:=0) (show(["sign"]:List Str).Nodup by decide +kernel) rfl (ai (lookup_relabel_local rfl)) (by decide) (bx (lookup_relabel_local rfl)))) (λ_ _ _ _=>eQ) (λ_ _ _ _=>(Ck (bN nt (bv 0) (ae fF) (bE _)) aj (dk (bv 0)))) rfl trivial (λ_=>by repeat' (first | exact trivial | refine⟨.inl rfl,?_⟩ | refine⟨.inr (.inl rfl),?_⟩ | refine⟨.inr (.inr ⟨_,rfl⟩),?_⟩)) (λ_=>trivial) rfl (by decide +kernel)))),λds Q h=>?_⟩
  obtain⟨y,rfl,hy,q⟩:=h
  walk_at"l3"
  refine gb y gL (λs=>D.int ((s.getD 0:Nat):Int)) (tP y) cE5 (λs hs=>?_) (.inr λ_ _=>rfl) (by rw[sL];omega) ?_
  ·walk_at"l3"
   cases s with
   | none=>exact rfl
   | some a=>exact⟨rfl,rfl⟩
  ·unfold bW at q
   rw[cI,da]at q
   exact q
noncomputable abbrev Yd:bh:=λds Q=>∃(d:D) (a b:Nat),ds=[d,.int a,.int b]/\Q (.int (a ^^^ b:Nat))
theorem aL5(T:Txt K mg t):aN P w K mg base aS 1 t.Kk t.Kl ["self","a","b"] (bt (Yd )):=by
 refine bC T.aM3 aK5 ?_ ?_
 ·intro ds Q h
  obtain⟨d,a,b,rfl,q⟩:=h<;>rfl
 ·intro aE A outer s H E hr
  refine⟨_,(aB (aR (ay si (bv 1) (bv 2)))),λds Q h=>?_⟩
  obtain⟨d,a,b,rfl,q⟩:=h
  walk_at"l3"
  rw[km];exact q
noncomputable abbrev Ye(K:Frag):bh:=λds Q=>∃(C:Addr) (p:Nat) (a b:Int),ds=[p9 C p,.int a,.int b]/\dR K C/\cq K C "prime"/\0<p/\Q (.int ((a+b)%p))
theorem aH5(T:Txt K mg t):aN P w K mg base aS 1 t.Km t.Kn ["self","a","b"] (bt (Ye K)):=by
 refine bC T.aI7 aF6 ?_ ?_
 ·intro ds Q h
  obtain⟨C,p,a,b,rfl,hC,hn,hp,q⟩:=h<;>rfl
 ·intro aE A outer s H E hr
  refine⟨_,(aB (aR (ay cM (ae (ay cF (bv 1) (bv 2))) (i5 (K:=K) (bv 0))))),λds Q h=>?_⟩
  obtain⟨C,p,a,b,rfl,hC,hn,hp,q⟩:=h
  walk_at"l3"
  refine⟨C,_,_,.int p,rfl,hC,hn,rfl,?_⟩
  exact⟨by omega,q⟩
theorem Yf(T:Txt K mg t){m:Bool × Nat}(h0:0<m.2):∃C ns xs sp,fD t.aK t.aM m=.obj C ns xs/\nF P w K mg base 1 "plus" C sp/\("plus":Str) ∉ ns/\∀(a b:Nat) (Q:D->Prop),Q (.int (gp m a b:Nat))->sp [.obj C ns xs,.int a,.int b] Q:=by
 obtain⟨k,n⟩:=m
 cases k with
 | true=>exact⟨_,_,_,Yd,rfl,⟨T.fv,_,_,_,T.AJ,aL5 T,T.aM4⟩,by decide,λa b Q q=>⟨_,a,b,rfl,q⟩⟩
 | false =>
  refine⟨_,_,_,Ye K,rfl,⟨T.fK,_,_,_,T.AV,aH5 T,T.aI8⟩,by decide,λa b Q q=>⟨_,n,a,b,rfl,T.fK,T.kQ,h0,?_⟩⟩
  have e:((gp (false,n) a b:Nat):Int)=((a:Int)+b)%n:=by
   show(((a+b)%n:Nat):Int)=_
   rw[mO,uz]
  rw[<-e];exact q
noncomputable abbrev Yg(K:Frag):bh:=λds Q=>∃(C:Addr) (p a b:Nat),ds=[tD C p,.int a,.int b]/\dR K C/\cq K C "products"/\p∈jq/\a<aa (true,p)/\b<aa (true,p)/\Q (.int (gm (true,p) a b:Nat))
theorem aJ1(T:Txt K mg t):aN P w K mg base aS 1 t.Ko t.Kp ["self","a","b"] (bt (Yg K)):=by
 refine bC T.aK6 aI2 ?_ ?_
 ·intro ds Q h
  obtain⟨C,p,a,b,rfl,hC,hn,hp,ha,hb,q⟩:=h<;>rfl
 ·intro aE A outer s H E hr
  refine⟨_,(aB (aR (dk (bq (bq (i5 (K:=K) (bv 0)) (bv 1) (λ_ _=>rfl)) (bv 2) (λ_ _=>rfl))))),λds Q h=>?_⟩
  obtain⟨C,p,a,b,rfl,hC,hn,hp,ha,hb,q⟩:=h
  walk_at"l3"
  refine⟨C,_,_,_,rfl,hC,hn,rfl,?_⟩
  exact⟨_,CZ hp ha,_,CY hp ha hb,rfl,q⟩
noncomputable abbrev Yh(K:Frag):bh:=λds Q=>∃(C:Addr) (p:Nat) (a b:Int),ds=[p9 C p,.int a,.int b]/\dR K C/\cq K C "prime"/\0<p/\IntMulOk a b/\Q (.int (a*b%p))
theorem aF2(T:Txt K mg t):aN P w K mg base aS 1 t.Kq t.Kr ["self","a","b"] (bt (Yh K)):=by
 refine bC T.aG0 aE4 ?_ ?_
 ·intro ds Q h
  obtain⟨C,p,a,b,rfl,hC,hn,hp,hm,q⟩:=h<;>rfl
 ·intro aE A outer s H E hr
  refine⟨_,(aB (aR (ay cM (ae (ay fZ (bv 1) (bv 2))) (i5 (K:=K) (bv 0))))),λds Q h=>?_⟩
  obtain⟨C,p,a,b,rfl,hC,hn,hp,hm,q⟩:=h
  walk_at"l3"
  exact⟨hm,C,_,_,.int p,rfl,hC,hn,rfl,by omega,q⟩
theorem Yi(T:Txt K mg t){m:Bool × Nat}(hm:m∈av){a b:Nat}(ha:a<aa m)(hb:b<aa m){Q:D->Prop}(q:Q (.int (gm m a b:Nat))):HV P w K mg base 1 t.aK t.aM m "times" [.int a,.int b] Q:=by
 have hF:=bS hm
 obtain⟨k,n⟩:=m
 cases k with
 | true=>exact⟨_,_,_,Yg K,rfl,⟨T.fv,_,_,_,T.AL,aJ1 T,T.aK7⟩,by decide,_,n,a,b,rfl,T.fv,T.og,vU hm,ha,hb,q⟩
 | false =>
  have jW:n<=64:=hF.hi
  have Cy:a<n:=ha
  have zW:b<n:=hb
  refine⟨_,_,_,Yh K,rfl,⟨T.fK,_,_,_,T.AX,aF2 T,T.aG1⟩,by decide,_,n,a,b,rfl,T.fK,T.kQ,by omega,ig.ok (.inr ⟨by omega,by omega⟩),?_⟩
  have e:((gm (false,n) a b:Nat):Int)=(a:Int)*b%n:=by
   show((a*b%n:Nat):Int)=_
   rw[mO,yD]
  rw[<-e];exact q
noncomputable abbrev aW4(cb cp:Addr):bh:=λds Q=>∃(m:Bool × Nat) (l:List Nat) (x:Nat),ds=[fD cb cp m,.lst false (ak l),.int x]/\m∈av/\(∀a∈l,a<aa m)/\x<aa m/\Q (.int (aJ m x l:Nat))
theorem Yj(T:Txt K mg t):aN P w K mg base aS 2 t.Ks t.Kt ["field","a","x"] (bt (aW4 t.aK t.aM)):=by
 refine bC T.LN DJ ?_ ?_
 ·intro ds Q h
  obtain⟨m,l,x,rfl,hm,ha,hx,q⟩:=h<;>rfl
 ·intro aE A outer s H E hr
  refine⟨_,(aA (aH (i:=3) DJ.nd rfl (ai rfl) aj)
   (aA (fR eo rfl (bY2 rfl T.XU (af (bv 1) ao)) (dB (i:=4) DJ.nd rfl (ai rfl))
    (aB (aH (i:=3) DJ.nd rfl (ai rfl) (gZ (P:=P) (w:=w) (K:=K) (mg:=mg) (base:=base) (n:=1) (bv 0) (hr.mono (by decide)) (af (ae (gZ (P:=P) (w:=w) (K:=K) (mg:=mg) (base:=base) (n:=1) (bv 0) (hr.mono (by decide)) (af (bv 3) (af (bv 2) ao)))) (af (bv 4) ao))))))
   (aB (aR (em 3))))),λds Q h=>?_⟩
  obtain⟨m,l,x,rfl,hm,ha,hx,q⟩:=h
  have m0:=bB m hm
  refine az λU hU=>?_
  walk_at"l3"
  refine hU _ ?_
  clear hU U
  refine az λU hU=>?_
  walk_at"l3"
  refine fG.mk (λi δ=>∃o,δ=[some (fD t.aK t.aM m),some (.lst false (ak l)),some (.int x),some (.int (aJ m x (l.drop (l.length-i)):Nat)),o]) ⟨none,by rw[Q4,List.drop_length];rfl⟩ ?_ ?_
  ·rintro i d δ hd ⟨o,rfl⟩
   have mi:i<l.length:=by
    have:=(iB.mp hd).1
    rw[oG,dF]at this;exact this
   obtain⟨hi,rfl⟩:∃hi:l.length-1-i<l.length,d=.int (l[l.length-1-i]:Nat):=by
    refine⟨by omega,?_⟩
    rw[BD (by rw[dF];exact mi),cI,bX,bu,aL (by omega)]at hd
    exact(cN hd).symm
   have hv:aJ m x (l.drop (l.length-i))<aa m:=jt hm x λa h=>ha a (Bw h)
   obtain⟨C,ns,xs,sp,e1,e2,e3,e4⟩:=Yf (P:=P) (w:=w) (base:=base) T m0
   walk_at"l3"
   refine⟨C,ns,xs,sp,e1,e2,e3,Yi T hm hv hx (e4 _ _ _ ⟨rfl,_,?_,rfl⟩)⟩
   have e:l.drop (l.length-(i+1))=l[l.length-1-i]::l.drop (l.length-i):=by
    rw[show l.length-(i+1)=l.length-1-i by omega,Rm hi,show l.length-1-i+1=l.length-i by omega]
   rw[e];rfl
  ·rintro δ ⟨o,rfl⟩
   refine hU _ ?_
   walk_at"l3"
   rw[oG,dF,BF,List.drop_zero]
   exact q
noncomputable abbrev aU6(cb cp:Addr):bh:=λds Q=>∃(m:Bool × Nat) (l:List Nat) (a n:Nat),ds=[fD cb cp m,.int a,.int n,.lst false (ak l)]/\m∈av/\(∀a∈l,a<aa m)/\n<=1000/\Q (.lst true (ak ((aO n).map λ(i:Nat)=>aJ m (eS m ((a:Int)+(i:Int))) l)))
theorem aU7(T:Txt K mg t):aN P w K mg base aS 3 t.Ku t.Kv ["field","first","extra","word"] (bt (aU6 t.aK t.aM)):=by
 refine bC T.Xo aS6 ?_ ?_
 ·intro ds Q h
  obtain⟨m,l,a,n,rfl,hm,hl,hn,q⟩:=h<;>rfl
 ·intro aE A outer s H E hr
  refine⟨_,(aB (aR (fc [("field",0),("word",3),("first",1)] ["i"] rfl (jj rfl T.gh (af (bv 2) ao)) (λ_ _ _ _=>(dB (i:=3) (show(["field","word","first","i"]:List Str).Nodup by decide +kernel) rfl (ai (lookup_relabel_local rfl)) (by decide) (bx (lookup_relabel_local rfl)))) (λ_ _ _ _=>eQ) (λ_ _ _ _=>(bj ((Yj T).mono (by decide)) hr rfl T.Xm T.LN.kp T.Xn aW (af (bv 0) (af (bv 1) (af (ae (gZ (P:=P) (w:=w) (K:=K) (mg:=mg) (base:=base) (n:=1) (bv 0) (hr.mono (by decide)) (af (ae (ay cF (bv 2) (bv 3))) ao))) ao))))) rfl ⟨rfl,⟨rfl,⟨rfl,trivial⟩⟩⟩ (λ_=>by repeat' (first | exact trivial | refine⟨.inl rfl,?_⟩ | refine⟨.inr (.inl rfl),?_⟩ | refine⟨.inr (.inr ⟨_,rfl⟩),?_⟩)) (λ_=>⟨⟨rfl,.inl rfl,.inl rfl,_,rfl,rfl⟩,⟨⟨rfl,.inl rfl,.inl rfl,_,rfl,rfl⟩,⟨⟨rfl,.inl rfl,.inl rfl,_,rfl,rfl⟩,trivial⟩⟩⟩) rfl (by decide +kernel)))),λds Q h=>?_⟩
  obtain⟨m,l,a,n,rfl,hm,hl,hn,q⟩:=h
  have m0:=bB m hm
  walk_at"l3"
  refine⟨⟨by omega,by omega⟩,?_⟩
  refine gb (aO n) (λ(i:Nat)=>D.int (i:Int)) (λi=>D.int ((aJ m (eS m ((a:Int)+(i:Int))) l:Nat):Int)) ?_ i3 (λi hi=>?_) (.inr λ_ _=>rfl) ?_ ?_
  ·rw[pe];simp
  ·walk_at"l3"
   exact DU T hm ⟨m,l,_,rfl,hm,hl,i7 hm _,rfl,rfl⟩
  ·simp[sL];omega
  ·rw[cI,da]at q
   exact q
noncomputable abbrev aX7:bh:=λds Q=>∃l:List Nat,ds=[.lst false (ak l)]/\l.length<=1000/\Q (.lst true (ak (fH l)))
theorem Yk(T:Txt K mg t):aN P w K mg base aS 1 t.Kw t.Kx ["a"] (bt (aX7 )):=by
 refine bC T.LO Jn ?_ ?_
 ·intro ds Q h
  obtain⟨l,rfl,hl,q⟩:=h<;>rfl
 ·intro aE A outer s H E hr
  refine⟨_,(aA (aH (i:=1) Jn.nd rfl (ai rfl) (cu (dq) (by rfl) T.dv di (af (bv 0) ao)))
   (aA (rL eo (PW.pt (Ci (bN zH (bv 1) (ae aj) (bE _)) (BS (bN (eG (cS hr)) (bq (bv 0) (ae (ay cX (bv 1) (ae aj))) (λ_ _=>rfl)) (ae aj) (bE _)))))
    (aB (pd (i:=1) Jn.nd rfl (ai rfl) (ae aj) cS6)))
   (aB (aR (HA (bv 0) Ho (Hq (bv 1))))))),λds Q h=>?_⟩
  obtain⟨l,rfl,hl,q⟩:=h
  refine az λU hU=>?_
  walk_at"l3"
  refine hU _ ?_
  clear hU U
  refine az λU hU=>?_
  walk_at"l3"
  refine⟨λn δ=>∃k:Nat,δ=[some (.lst false (ak l)),some (.int (k:Nat))]/\k<=l.length/\(∀x∈l.drop k,x=0)/\n=k,⟨l.length,l.length,rfl,bJ _,by simp,rfl⟩,?_⟩
  rintro n δ ⟨k,rfl,hk,hz,rfl⟩
  walk_at"l3"
  have fin:(n=0\/l.getD (n-1) 0≠0)->U [some (.lst false (ak l)),some (.int (n:Nat))]:=λh=>by
   refine hU _ ?_
   walk_at"l3"
   rw[HY hk hz h]at q
   rw[show fq l none (some (n:Int))=l.take n from by4 l n]
   exact q
  split
  ·rename_i h1
   refine⟨_,nI (by omega) (by omega),rfl,?_⟩
   rw[jm,show((n:Int)-1).toNat=n-1 by omega]
   by_cases h0:l.getD (n-1) 0=0
   ·rw[if_pos (by rw[h0];rfl)]
    refine⟨n-1,by omega,n-1,by omega,by omega,Vw (by omega) hk hz h0,rfl⟩
   ·rw[if_neg (by simp only[decide_eq_true_eq];omega)]
    exact fin (.inr h0)
  ·rename_i h1
   exact fin (.inl (by omega))
noncomputable abbrev aR3(cb cp:Addr):bh:=λds Q=>∃(m:Bool × Nat) (a b:List Nat),ds=[fD cb cp m,.lst false (ak a),.lst false (ak b)]/\m∈av/\AllLt (aa m) a/\AllLt (aa m) b/\a.length+b.length<=1000/\Q (.lst true (ak (fI m a b)))
theorem aR4(T:Txt K mg t):aN P w K mg base aS 2 t.Ky t.Kz ["field","a","b"] (bt (aR3 t.aK t.aM)):=by
 refine bC T.Xr DK ?_ ?_
 ·intro ds Q h
  obtain⟨m,a,b,rfl,hm,ha,hb,hl,q⟩:=h<;>rfl
 ·intro aE A outer s H E hr
  refine⟨_,(aA (aH (i:=3) DK.nd rfl (ai rfl) (ay fZ (ae (eO (cR aj dA))) (ae (ay cF (ae (cu (dq) (by rfl) T.dv di (af (bv 1) ao))) (ae (cu (dq) (by rfl) T.dv di (af (bv 2) ao)))))))
   (aA (fR eo rfl (nz rfl T.oh (af (bv 1) ao)) (gI (i1:=4) (i2:=5) rfl DK.nd rfl (ai rfl) rfl (ai rfl))
    (aB (fR eo rfl (nz rfl T.oh (af (bv 2) ao)) (gI (i1:=6) (i2:=7) rfl DK.nd rfl (ai rfl) rfl (ai rfl))
     (aB (sQ (i:=3) rfl (by first | exact ai rfl | exact bx (ai rfl)) (gZ (P:=P) (w:=w) (K:=K) (mg:=mg) (base:=base) (n:=1) (bv 0) (hr.mono (by decide)) (af (bq (bv 3) (ae (ay cF (bv 4) (bv 6))) (λ_ _=>rfl)) (af (ae (gZ (P:=P) (w:=w) (K:=K) (mg:=mg) (base:=base) (n:=1) (bv 0) (hr.mono (by decide)) (af (bv 5) (af (bv 7) ao)))) ao))) (ae (ay cF (bv 4) (bv 6))))))))
   (aB (aR (bj ((Yk T).mono (by decide)) hr rfl T.Xp T.LO.kp T.Xq aW (af (bv 3) ao)))))),λds Q h=>?_⟩
  obtain⟨m,a,b,rfl,hm,ha,hb,hl,q⟩:=h
  have m0:=bB m hm
  refine az λU hU=>?_
  walk_at"l3"
  refine⟨by decide,⟨by omega,by omega,by omega⟩,?_⟩
  rw[show aC (aT ((a.length:Int)+(b.length:Int)).toNat 0)=ak (aT (a.length+b.length) 0) by rw[cI,oH];unfold aC;rw[oH];rfl]
  refine hU _ ?_
  clear hU U
  refine az λU hU=>?_
  walk_at"l3"
  refine fG.mk (λi δ=>∃o4 o5 o6 o7,δ=[some (fD t.aK t.aM m),some (D.lst false (ak a)),some (D.lst false (ak b)),some (D.lst true (ak (gx m b (aT (a.length+b.length) 0) 0 (a.take i)))),o4,o5,o6,o7]) ⟨_,_,_,_,rfl⟩ ?_ ?_
  ·rintro i d δ hd ⟨o4,o5,o6,o7,rfl⟩
   obtain⟨hi,rfl⟩:=C8 hd
   clear hd
   generalize hT:gx m b (aT (a.length+b.length) 0) 0 (a.take i)=tt
   have lT:tt.length=a.length+b.length:=by rw[<-hT,C4,hW]
   have bT:AllLt (aa m) tt:=by rw[<-hT];exact C5 hm b _ _ _ (vY hm _)
   walk_at"l3"
   refine fG.mk (λj δ=>∃o6 o7,δ=[some (fD t.aK t.aM m),some (D.lst false (ak a)),some (D.lst false (ak b)),some (D.lst true (ak (eT m a[i] tt i (b.take j)))),some (D.int i),some (D.int (a[i]:Nat)),o6,o7]) ⟨_,_,rfl⟩ ?_ ?_
   ·rintro j d δ hd ⟨o6,o7,rfl⟩
    obtain⟨hj,rfl⟩:=C8 hd
    clear hd
    have lP:(eT m a[i] tt i (b.take j)).length=a.length+b.length:=by rw[vW,lT]
    have bP:AllLt (aa m) (eT m a[i] tt i (b.take j)):=vX hm _ _ _ _ bT
    obtain⟨C,ns,xs,sp,e1,e2,e3,e4⟩:=Yf (P:=P) (w:=w) (base:=base) T m0
    walk_at"l3"
    refine⟨C,ns,xs,sp,e1,e2,e3,_,nI (by omega) (by omega),Yi T hm (ha _ (dP _)) (hb _ (dP _)) (e4 _ _ _ ⟨rfl,_,((i:Int)+(j:Int)).toNat,rfl,z8 (by omega) (by rw[dF];omega),_,_,?_,rfl,rfl⟩)⟩
    rw[Vq m _ b tt i hj,C7,show((i:Int)+(j:Int)).toNat=i+j by omega];rfl
   ·rintro δ ⟨o6,o7,rfl⟩
    rw[mh,dF,oA,Vs m b a _ 0 hi,hT,BC]
    exact⟨_,_,_,_,rfl⟩
  ·rintro δ ⟨o4,o5,o6,o7,rfl⟩
   rw[mh,dF,oA]
   refine hU _ ?_
   walk_at"l3"
   have:=Ic m a b
   exact⟨kJ m a b,rfl,by rw[this];exact hl,by rw[fY,Ih];rfl,q⟩
noncomputable abbrev Yl:bh:=λds Q=>∃(d:D) (a b:Nat),ds=[d,.int a,.int b]/\Q (.int (a ^^^ b:Nat))
theorem aJ2(T:Txt K mg t):aN P w K mg base aS 1 t.KA t.KC ["self","a","b"] (bt (Yl )):=by
 refine bC T.aK8 aI3 ?_ ?_
 ·intro ds Q h
  obtain⟨d,a,b,rfl,q⟩:=h<;>rfl
 ·intro aE A outer s H E hr
  refine⟨_,(aB (aR (ay si (bv 1) (bv 2)))),λds Q h=>?_⟩
  obtain⟨d,a,b,rfl,q⟩:=h
  walk_at"l3"
  rw[km];exact q
noncomputable abbrev Ym(K:Frag):bh:=λds Q=>∃(C:Addr) (p:Nat) (a b:Int),ds=[p9 C p,.int a,.int b]/\dR K C/\cq K C "prime"/\0<p/\Q (.int ((a-b)%p))
theorem aF3(T:Txt K mg t):aN P w K mg base aS 1 t.KD t.KG ["self","a","b"] (bt (Ym K)):=by
 refine bC T.aG2 aE5 ?_ ?_
 ·intro ds Q h
  obtain⟨C,p,a,b,rfl,hC,hn,hp,q⟩:=h<;>rfl
 ·intro aE A outer s H E hr
  refine⟨_,(aB (aR (ay cM (ae (ay cX (bv 1) (bv 2))) (i5 (K:=K) (bv 0))))),λds Q h=>?_⟩
  obtain⟨C,p,a,b,rfl,hC,hn,hp,q⟩:=h
  walk_at"l3"
  refine⟨C,_,_,.int p,rfl,hC,hn,rfl,?_⟩
  exact⟨by omega,q⟩
theorem Mb(T:Txt K mg t){m:Bool × Nat}(h0:0<m.2):∃C ns xs sp,fD t.aK t.aM m=.obj C ns xs/\nF P w K mg base 1 "minus" C sp/\("minus":Str) ∉ ns/\∀(a b:Nat) (Q:D->Prop),Q (.int (gl m a b))->sp [.obj C ns xs,.int a,.int b] Q:=by
 obtain⟨k,n⟩:=m
 cases k with
 | true=>exact⟨_,_,_,Yl,rfl,⟨T.fv,_,_,_,T.AH,aJ2 T,T.aK9⟩,by decide,λa b Q q=>⟨_,a,b,rfl,q⟩⟩
 | false=>exact⟨_,_,_,Ym K,rfl,⟨T.fK,_,_,_,T.AS,aF3 T,T.aG3⟩,by decide,λa b Q q=>⟨_,n,a,b,rfl,T.fK,T.kQ,h0,q⟩⟩
theorem cH3(T:Txt K mg t){m:Bool × Nat}(h0:0<m.2){a b:Nat}{Q:D->Prop}(q:Q (.int (gl m a b))):HV P w K mg base 1 t.aK t.aM m "minus" [.int a,.int b] Q :=
 let⟨C,ns,xs,sp,e1,e2,e3,e4⟩:=Mb T h0;⟨C,ns,xs,sp,e1,e2,e3,e4 a b Q q⟩
noncomputable abbrev aN5(cb cp:Addr):bh:=λds Q=>∃(m:Bool × Nat) (ps:List Nat),ds=[fD cb cp m,.lst false (ak ps)]/\m∈av/\ps.length<=64/\Q (.lst true (ak (dH m ps)))
theorem aN6(T:Txt K mg t):aN P w K mg base aS 3 t.KH t.KI ["field","places"] (bt (aN5 t.aK t.aM)):=by
 refine bC T.Xs DL ?_ ?_
 ·intro ds Q h
  obtain⟨m,ps,rfl,hm,hl,q⟩:=h<;>rfl
 ·intro aE A outer s H E hr
  refine⟨_,(aA (aH (i:=2) DL.nd rfl (ai rfl) (eO (cR aj dA)))
   (aA (fR eo rfl (cY3 (dk (bv 1))) (dB (i:=3) DL.nd rfl (ai rfl))
    (aB (aH (i:=2) DL.nd rfl (ai rfl) (bj ((aR4 T).mono (by decide)) hr rfl T.ed9 T.Xr.kp T.ee0 aW (af (bv 0) (af (bv 2) (af (ae (eO (cR aj (cR (gZ (P:=P) (w:=w) (K:=K) (mg:=mg) (base:=base) (n:=1) (bv 0) (hr.mono (by decide)) (af (ae aj) (af (ae (gZ (P:=P) (w:=w) (K:=K) (mg:=mg) (base:=base) (n:=1) (bv 0) (hr.mono (by decide)) (af (bv 3) ao))) ao))) dA)))) ao)))))))
   (aB (aR (em 2))))),λds Q h=>?_⟩
  obtain⟨m,ps,rfl,hm,hl,q⟩:=h
  have m0:=bB m hm
  have dh:=(bS hm).lo
  refine az λU hU=>?_
  walk_at"l3"
  refine⟨by decide,hU _ ?_⟩
  clear hU U
  refine az λU hU=>?_
  walk_at"l3"
  refine fG.mk (λi δ=>∃o3,δ=[some (fD t.aK t.aM m),some (D.lst false (ak ps)),some (D.lst true (ak (dH m (ps.take i)))),o3]) ⟨_,rfl⟩ ?_ ?_
  ·rintro i d δ hd ⟨o3,rfl⟩
   rw[cI,bX]at hd
   obtain⟨p,hp,rfl⟩:=ur.mp hd
   clear hd
   have ga:=eV hm (a:=0) (b:=eS m (p:Int)) (by omega) (i7 hm _)
   obtain⟨C,ns,xs,sp,e1,e2,e3,e4⟩:=Mb (P:=P) (w:=w) (base:=base) T m0
   obtain⟨f1,f2⟩:=wk hm (ps.take i)
   have f3:(ps.take i).length<=64:=by rw[jA];omega
   walk_at"l3"
   refine⟨C,ns,xs,sp,e1,e2,e3,DU T hm (e4 0 (eS m (p:Int)) _ ?_)⟩
   refine⟨rfl,by decide,m,dH m (ps.take i),gK m p,by rw[ga.1];rfl,hm,f1,IQ hm p,by show _+2<=1000;omega,eU _,_,?_,rfl⟩
   rw[mL,hp,dg6,Dx]
  ·rintro δ ⟨o3,rfl⟩
   refine hU _ ?_
   walk_at"l3"
   rw[oA]
   exact q
noncomputable abbrev Yn(K:Frag):bh:=λds Q=>∃(C:Addr) (p:Nat) (xs ys:List Nat),ds=[tD C p,.lst false (ak xs),.lst false (ak ys)]/\dR K C/\cq K C "products"/\p∈jq/\xs.length=ys.length/\xs.length<=64/\(∀x∈xs,x<aa (true,p))/\(∀y∈ys,y<aa (true,p))/\Q (.int ((dZ (gm (true,p)) xs ys).foldl (· ^^^ ·) 0:Nat))
theorem aN7(T:Txt K mg t):aN P w K mg base aS 1 t.KJ t.KL ["self","xs","ys"] (bt (Yn K)):=by
 refine bC T.aO5 Au ?_ ?_
 ·intro ds Q h
  obtain⟨C,p,xs,ys,rfl,hC,hn,hp,hl,mC,hx,hy,q⟩:=h<;>rfl
 ·intro aE A outer s H E hr
  refine⟨_,(aA (aH (i:=3) Au.nd rfl (ai rfl) (dk (i5 (K:=K) (bv 0))))
   (aA (aH (i:=4) Au.nd rfl (ai rfl) aj)
   (aA (fR eo rfl (pU rfl T.qw (af (bv 1) (af (bv 2) ao))) (gI (i1:=5) (i2:=6) rfl Au.nd rfl (ai rfl) rfl (ai rfl))
    (aB (pd (i:=4) Au.nd rfl (ai rfl) (bq (bq (bv 3) (bv 5) (λ_ _=>rfl)) (bv 6) (λ_ _=>rfl)) Cr)))
   (aB (aR (em 4)))))),λds Q h=>?_⟩
  obtain⟨C,p,xs,ys,rfl,hC,hn,hp,hl,mC,hx,hy,q⟩:=h
  refine az λU hU=>?_
  walk_at"l3"
  refine⟨C,_,_,_,rfl,hC,hn,rfl,by rw[gG,cf7];rfl,hU _ ?_⟩
  clear hU U
  refine az λU hU=>?_
  walk_at"l3"
  refine hU _ ?_
  clear hU U
  refine az λU hU=>?_
  walk_at"l3"
  refine⟨_,_,rfl,rfl,?_⟩
  refine fG.mk (λi δ=>∃o1 o2,δ=[some (tD C p),some (.lst false (ak xs)),some (.lst false (ak ys)),some (.lst false (nH (fl (true,p)) (eD (fl (true,p))))),some (.int (((dZ (gm (true,p)) xs ys).take i).foldl (· ^^^ ·) 0:Nat)),o1,o2]) ⟨none,none,rfl⟩ ?_ ?_
  ·rintro i d δ hd ⟨o1,o2,rfl⟩
   obtain⟨hi,hj,rfl⟩:∃(hi:i<xs.length) (hj:i<ys.length),d=.tup [.int (xs[i]:Nat),.int (ys[i]:Nat)]:=by
    unfold dJ at hd
    rw[cI,cI,BA]at hd
    by_cases hi:i<xs.length
    ·have hj:i<ys.length:=by omega
     rw[mQ,aL hi,aL hj]at hd
     exact⟨hi,hj,(cN hd).symm⟩
    ·rw[gj (by simp;omega)]at hd;cases hd
   have ft:=hx xs[i] (dP _)
   have L8:=hy ys[i] (dP _)
   walk_at"l3"
   refine⟨_,CZ hp ft,_,CY hp ft L8,_,_,?_,rfl,rfl⟩
   rw[km,List.take_succ,BG,mQ,aL hi,aL hj];rfl
  ·rintro δ ⟨o1,o2,rfl⟩
   refine hU _ ?_
   walk_at"l3"
   have e:(dJ (ak xs) (ak ys)).length=xs.length:=by unfold dJ;rw[jY,dF,dF];omega
   rw[e,yq (by rw[jY];omega)]
   exact q
noncomputable abbrev Yo(K:Frag):bh:=λds Q=>∃(C:Addr) (p:Nat) (xs ys:List Int),ds=[p9 C p,.lst false (aC xs),.lst false (aC ys)]/\dR K C/\cq K C "prime"/\0<p/\xs.length=ys.length/\xs.length<=64/\(∀x∈xs,0<=x/\x<64)/\(∀y∈ys,0<=y/\y<64)/\Q (.int ((dZ (· * ·) xs ys).sum%p))
theorem aJ3(T:Txt K mg t):aN P w K mg base aS 1 t.KN t.KO ["self","xs","ys"] (bt (Yo K)):=by
 refine bC T.aL0 aI4 ?_ ?_
 ·intro ds Q h
  obtain⟨C,p,xs,ys,rfl,hC,hn,hp,hl,mC,hx,hy,q⟩:=h<;>rfl
 ·intro aE A outer s H E hr
  refine⟨_,(aB (aR (ay cM (ae (cu (cY2 rfl) (by rfl) T.ej3 cL2 (af (ae (fc [] ["x","y"] rfl (pU rfl T.qw (af (bv 1) (af (bv 2) ao))) (λ_ _ _ _=>(gI (i1:=0) (i2:=1) rfl (show(["x","y"]:List Str).Nodup by decide +kernel) rfl (ai (lookup_relabel_local rfl)) rfl (ai (lookup_relabel_local rfl)) (by decide) (by decide) (bx (lookup_relabel_local rfl)) (bx (lookup_relabel_local rfl)))) (λ_ _ _ _=>eQ) (λ_ _ _ _=>(ay fZ (bv 0) (bv 1))) rfl trivial (λ_=>by repeat' (first | exact trivial | refine⟨.inl rfl,?_⟩ | refine⟨.inr (.inl rfl),?_⟩ | refine⟨.inr (.inr ⟨_,rfl⟩),?_⟩)) (λ_=>trivial) rfl (by decide +kernel))) ao))) (i5 (K:=K) (bv 0))))),λds Q h=>?_⟩
  obtain⟨C,p,xs,ys,rfl,hC,hn,hp,hl,mC,hx,hy,q⟩:=h
  walk_at"l3"
  refine⟨_,_,rfl,rfl,?_⟩
  refine HS (xs.zip ys) (λz=>D.tup [.int z.1,.int z.2]) (λz=>D.int (z.1*z.2)) (Vc xs ys) (λa b h=>by injection h with h;simp at h;exact Fw h.1 h.2) (λz hz=>?_) HU (.inr λ_ _=>rfl) (by rw[BE,sL];omega) ?_
  ·have z1:=hx z.1 (qG hz).1
   have z2:=hy z.2 (qG hz).2
   walk_at"l3"
   exact ig.ok (.inr ⟨by omega,by omega⟩)
  ·refine⟨(xs.zip ys).map λz=>z.1*z.2,?_,?_⟩
   ·unfold aC;rw[da];rfl
   ·walk_at"l3"
    refine⟨C,_,_,.int p,rfl,hC,hn,rfl,?_⟩
    refine⟨by omega,?_⟩
    rw[List.map_zip_eq_zipWith]
    exact q
theorem c03(T:Txt K mg t){m:Bool × Nat}(hm:m∈av):∃C ns zs sp,fD t.aK t.aM m=.obj C ns zs/\nF P w K mg base 1 "dot" C sp/\("dot":Str) ∉ ns/\∀(xs ys:List Nat) (Q:D->Prop),xs.length=ys.length->xs.length<=64->(∀x∈xs,x<aa m)->(∀y∈ys,y<aa m)->Q (.int (gd m xs ys:Nat))->sp [.obj C ns zs,.lst false (ak xs),.lst false (ak ys)] Q:=by
 have hF:=bS hm
 obtain⟨k,n⟩:=m
 cases k with
 | true=>exact⟨_,_,_,Yn K,rfl,⟨T.fv,_,_,_,T.AF,aN7 T,T.aO6⟩,by decide,λxs ys Q hl mC hx hy q=>⟨_,n,xs,ys,rfl,T.fv,T.og,vU hm,hl,mC,hx,hy,q⟩⟩
 | false =>
  have jW:n<=64:=hF.hi
  have l2:2<=n:=hF.lo
  have cx:∀l:List Nat,(∀x∈l,x<aa (false,n))->∀z∈l.map (λ(n:Nat)=>(n:Int)),0<=z/\z<64:=λl h z hz=>by
   obtain⟨x,hx,rfl⟩:=bZ.mp hz
   have:x<n:=h x hx
   omega
  refine⟨_,_,_,Yo K,rfl,⟨T.fK,_,_,_,T.AQ,aJ3 T,T.aL1⟩,by decide,λxs ys Q hl mC hx hy q=>⟨_,n,xs.map (λ(n:Nat)=>(n:Int)),ys.map (λ(n:Nat)=>(n:Int)),rfl,T.fK,T.kQ,by omega,by rw[bu,bu];exact hl,by rw[bu];exact mC,cx xs hx,cx ys hy,?_⟩⟩
  have e:((gd (false,n) xs ys:Nat):Int)=(dZ (· * ·) (xs.map λ(n:Nat)=>(n:Int)) (ys.map λ(n:Nat)=>(n:Int))).sum%n:=by
   unfold gd
   rw[Vh (by omega) _ _ (by omega),BC,Vi,Vj,mO]
  rw[<-e];exact q
noncomputable abbrev aY3(cb cp:Addr):bh:=λds Q=>∃(m:Bool × Nat) (row c:List Nat) (p:Nat),ds=[fD cb cp m,.lst false (ak row),.lst false (ak c),.int p]/\m∈av/\AllLt (aa m) row/\AllLt (aa m) c/\c.length<=64/\c.length<=p+1/\p<row.length/\Q (.int (jV m row c p:Nat))
theorem Yp(T:Txt K mg t):aN P w K mg base aS 2 t.KP t.KQ ["field","row","c","place"] (bt (aY3 t.aK t.aM)):=by
 refine bC T.LP aY1 ?_ ?_
 ·intro ds Q h
  obtain⟨m,row,c,p,rfl,hm,hr,hc,mC,hp,bG,q⟩:=h<;>rfl
 ·intro aE A outer s H E hr
  refine⟨_,(aB (aR (gZ (P:=P) (w:=w) (K:=K) (mg:=mg) (base:=base) (n:=1) (bv 0) (hr.mono (by decide)) (af (bv 2) (af (ae (fc [("row",1),("place",3)] ["j"] rfl (jj rfl T.gh (af (ae (cu (dq) (by rfl) T.dv di (af (bv 2) ao))) ao)) (λ_ _ _ _=>(dB (i:=2) (show(["row","place","j"]:List Str).Nodup by decide +kernel) rfl (ai (lookup_relabel_local rfl)) (by decide) (bx (lookup_relabel_local rfl)))) (λ_ _ _ _=>eQ) (λ_ _ _ _=>(dk (bq (bv 0) (ae (ay cX (bv 1) (bv 2))) (λ_ _=>rfl)))) rfl ⟨rfl,⟨rfl,trivial⟩⟩ (λ_=>by repeat' (first | exact trivial | refine⟨.inl rfl,?_⟩ | refine⟨.inr (.inl rfl),?_⟩ | refine⟨.inr (.inr ⟨_,rfl⟩),?_⟩)) (λ_=>⟨⟨rfl,.inl rfl,.inl rfl,_,rfl,rfl⟩,⟨⟨rfl,.inl rfl,.inl rfl,_,rfl,rfl⟩,trivial⟩⟩) rfl (by decide +kernel))) ao))))),λds Q h=>?_⟩
  obtain⟨m,row,c,p,rfl,hm,hr,hc,mC,hp,bG,q⟩:=h
  have dh:=(bS hm).lo
  obtain⟨C,ns,xs,sp,e1,e2,e3,e4⟩:=c03 (P:=P) (w:=w) (base:=base) T hm
  walk_at"l3"
  refine⟨C,ns,xs,sp,e1,e2,e3,⟨by omega,by omega⟩,?_⟩
  refine gb (aO c.length) (λ(i:Nat)=>D.int (i:Int)) (λj=>D.int ((row.getD (p-j) 0:Nat):Int)) (tH _ rfl) i3 (λj hj=>?_) (.inr λ_ _=>rfl) (by rw[cZ,sL];omega) ?_
  ·have hj:=de.mp hj
   walk_at"l3"
   refine⟨_,nI (by omega) (by omega),?_⟩
   rw[show((p:Int)-(j:Int)).toNat=p-j by omega]
   exact⟨rfl,rfl⟩
  ·rw[show((aO c.length).map λj=>D.int ((row.getD (p-j) 0:Nat):Int))=ak ((aO c.length).map λj=>row.getD (p-j) 0) by rw[cI,da];rfl]
   rw[v3]
   refine e4 _ _ _ (by simp) mC hc (λy hy=>?_) ⟨by rw[pK,iE],q⟩
   obtain⟨j,_,rfl⟩:=bZ.mp hy
   exact hr.getD (by omega) _
noncomputable def Mc(a:List Int)(n:Int):List Int:=a++aT (n-a.length).toNat 0
theorem Md(l:List Nat)(n:Nat):aC (Mc (l.map λ(k:Nat)=>(k:Int)) (n:Int))=ak (nJ l n):=by
 unfold ak Mc nJ
 rw[jC,oH,bu]
 congr 3
 omega
noncomputable abbrev aY4:bh:=λds Q=>∃(a:List Int) (n:Int),ds=[.lst false (aC a),.int n]/\a.length<=100000/\0<=n/\n<=100000/\Q (.lst true (aC (Mc a n)))
theorem Me(T:Txt K mg t):aN P w K mg base aS 1 t.KR t.KS ["a","length"] (bt (aY4 )):=by
 refine bC T.DQ aY2 ?_ ?_
 ·intro ds Q h
  obtain⟨a,n,rfl,h1,h2,h3,q⟩:=h<;>rfl
 ·intro aE A outer s H E hr
  refine⟨_,(aB (aR (ay cF (bv 0) (ae (ay fZ (ae (eO (cR aj dA))) (ae (ay cX (bv 1) (ae (cu (dq) (by rfl) T.dv di (af (bv 0) ao)))))))))),λds Q h=>?_⟩
  obtain⟨a,n,rfl,h1,h2,h3,q⟩:=h
  simp only[rF,o9,rG,rH,dT,lU,ni,nj,dC,oS,oZ,oX,oW,oY,rE,lY,sH,pJ,sI,sJ,rq,rz,rA,rB,rC,rD,oV,sE,pF,pG,ii,pk,rW,pq,rX,rY,rZ,r6,r9,se,iI,gu,sj,sk,sq,sr,pz,pB,lX,sC,sD,gN,sM,sG,rJ,rN,rO,rP,rQ,rR,sN,sP,sR,pf,jR,fS,iW,iw,qN,qI,yG,yH,o8,jQ,iV,pH,pI,pP,sV,sW,sX,vH,kG,s8,pV,sY,jn,vK,vI,vJ,eK,kS,qO,mF,eJ,yI,aT,uD,uE,kW,kX,uF,exists_eq_left',exists_eq_left,D.bl.injEq,D.int.injEq,D.lst.injEq,D.fz.injEq,D.str.injEq,D.tup.injEq,uG,and_true,true_and,eL,oE,jE,mJ,ve,vf,vg,vh,vi,vj,gG,kr,jU,vo,vp,vq,vt,vv,fj,ku,pK,vk,vm,vn,fY,m9,yJ,yK,uf,iE,yL,yM,qH,vz,vA,vB,vC,vD,vE,vF,kF,me,pL,jl,pM,vx,sU,vw,pO,vy,sS,jm,sT,if_true,uB,if_false,reduceIte,vG,decide_eq_true_eq,dF,kH,nB,vM,nC,vL,rK,tf,qe,sZ,pZ,p5,tw,tG,tI,jv,wb,nK,wc,qo,sL,hW]
  exact⟨by omega,⟨by omega,by omega,by omega⟩,by omega,q⟩
noncomputable abbrev aR5(cb cp:Addr):bh:=λds Q=>∃(m:Bool × Nat) (a b:List Nat),ds=[fD cb cp m,.lst false (ak a),.lst false (ak b)]/\m∈av/\AllLt (aa m) a/\AllLt (aa m) b/\a.length<=500/\b.length<=500/\Q (.lst true (ak (fH (kK (aZ m) a b))))
theorem aR6(T:Txt K mg t):aN P w K mg base aS 2 t.KU t.KW ["field","a","b"] (bt (aR5 t.aK t.aM)):=by
 refine bC T.Xv WI ?_ ?_
 ·intro ds Q h
  obtain⟨m,a,b,rfl,hm,ha,hb,hl,uO,q⟩:=h<;>rfl
 ·intro aE A outer s H E hr
  refine⟨_,(aA (aH (i:=3) WI.nd rfl (ai rfl) (cu (cV4 rfl) (by rfl) T.ej2 cM9 (af (ae (cu (dq) (by rfl) T.dv di (af (bv 1) ao))) (af (ae (cu (dq) (by rfl) T.dv di (af (bv 2) ao))) ao))))
   (aB (aR (bj ((Yk T).mono (by decide)) hr rfl T.Xp T.LO.kp T.Xq aW (af (ae (fc [("field",0)] ["x","y"] rfl (pU rfl T.qw (af (ae (bj ((Me T).mono (by decide)) hr rfl T.LQ T.DQ.kp T.LR aW (af (bv 1) (af (bv 3) ao)))) (af (ae (bj ((Me T).mono (by decide)) hr rfl T.LQ T.DQ.kp T.LR aW (af (bv 2) (af (bv 3) ao)))) ao))) (λ_ _ _ _=>(gI (i1:=1) (i2:=2) rfl (show(["field","x","y"]:List Str).Nodup by decide +kernel) rfl (ai (lookup_relabel_local rfl)) rfl (ai (lookup_relabel_local rfl)) (by decide) (by decide) (bx (lookup_relabel_local rfl)) (bx (lookup_relabel_local rfl)))) (λ_ _ _ _=>eQ) (λ_ _ _ _=>(gZ (P:=P) (w:=w) (K:=K) (mg:=mg) (base:=base) (n:=1) (bv 0) (hr.mono (by decide)) (af (bv 1) (af (bv 2) ao)))) rfl ⟨rfl,trivial⟩ (λ_=>by repeat' (first | exact trivial | refine⟨.inl rfl,?_⟩ | refine⟨.inr (.inl rfl),?_⟩ | refine⟨.inr (.inr ⟨_,rfl⟩),?_⟩)) (λ_=>⟨⟨rfl,.inl rfl,.inl rfl,_,rfl,rfl⟩,trivial⟩) rfl (by decide +kernel))) ao))))),λds Q h=>?_⟩
  obtain⟨m,a,b,rfl,hm,ha,hb,hl,uO,q⟩:=h
  have m0:=bB m hm
  refine az λU hU=>?_
  walk_at"l3"
  rw[show(if(b.length:Int)>(a.length:Int)then(b.length:Int)else(a.length:Int))=((max a.length b.length:Nat):Int) by split<;>omega]
  refine hU _ ?_
  clear hU U
  walk_at"l3"
  refine⟨_,_,rfl,by rw[bu];omega,by omega,by omega,_,_,rfl,by rw[bu];omega,by omega,by omega,?_⟩
  rw[Md,Md]
  refine⟨_,_,rfl,rfl,?_⟩
  have lA:=v7 (Ro a.length b.length)
  refine Ii (aZ m) (λx hx y hy=>?_) (by omega) ?_
  ·walk_at"l3"
   have g:=eV hm (z9 hm ha _ x hx) (z9 hm hb _ y hy)
   refine cH3 T m0 ?_
   rw[g.1]
  ·refine⟨kK (aZ m) a b,by rw[v3];rfl,by rw[Vy];omega,by rw[eU,iE],q⟩
noncomputable abbrev Yq(K:Frag):bh:=λds Q=>∃(C:Addr) (p a:Nat) (xs:List Nat),ds=[tD C p,.int a,.lst false (ak xs)]/\dR K C/\cq K C "products"/\p∈jq/\a<aa (true,p)/\(∀y∈xs,y<aa (true,p))/\xs.length<=1000/\Q (.lst true (ak (xs.map (gm (true,p) a))))
theorem aH7(T:Txt K mg t):aN P w K mg base aS 1 t.KY t.KZ ["self","a","row"] (bt (Yq K)):=by
 refine bC T.aI9 WJ ?_ ?_
 ·intro ds Q h
  obtain⟨C,p,a,xs,rfl,hC,hn,hp,ha,hy,hl,q⟩:=h<;>rfl
 ·intro aE A outer s H E hr
  refine⟨_,(aA (aH (i:=3) WJ.nd rfl (bx rfl) (dk (bq (i5 (K:=K) (bv 0)) (bv 1) (λ_ _=>rfl))))
   (aB (aR (fc [("by_a",3)] ["x"] rfl (nq (bv 2)) (λ_ _ _ _=>(dB (i:=1) (show(["by_a","x"]:List Str).Nodup by decide +kernel) rfl (ai (lookup_relabel_local rfl)) (by decide) (bx (lookup_relabel_local rfl)))) (λ_ _ _ _=>eQ) (λ_ _ _ _=>(dk (bq (bv 0) (bv 1) (λ_ _=>rfl)))) rfl ⟨rfl,trivial⟩ (λ_=>by repeat' (first | exact trivial | refine⟨.inl rfl,?_⟩ | refine⟨.inr (.inl rfl),?_⟩ | refine⟨.inr (.inr ⟨_,rfl⟩),?_⟩)) (λ_=>⟨⟨rfl,.inl rfl,.inl rfl,_,rfl,rfl⟩,trivial⟩) rfl (by decide +kernel))))),λds Q h=>?_⟩
  obtain⟨C,p,a,xs,rfl,hC,hn,hp,ha,hy,hl,q⟩:=h
  refine az λU hU=>?_
  walk_at"l3"
  refine⟨C,_,_,_,rfl,hC,hn,rfl,_,CZ hp ha,?_⟩
  refine⟨by rw[gG,me];rfl,hU _ ?_⟩
  clear hU U
  walk_at"l3"
  refine gb xs (λ(i:Nat)=>D.int (i:Int)) (λx=>D.int ((gm (true,p) a x:Nat):Int)) (zP xs) i3 (λx hx=>?_) (.inr λ_ _=>rfl) (by rw[sL];omega) ?_
  ·walk_at"l3"
   exact⟨_,CY hp ha (hy x hx),rfl,rfl⟩
  ·rw[cI,da]at q
   exact q
noncomputable abbrev Yr(K:Frag):bh:=λds Q=>∃(C:Addr) (p a:Nat) (xs:List Nat),ds=[p9 C p,.int a,.lst false (ak xs)]/\dR K C/\cq K C "prime"/\0<p/\a<64/\(∀y∈xs,y<64)/\xs.length<=1000/\Q (.lst true (ak (xs.map (gm (false,p) a))))
theorem aC9(T:Txt K mg t):aN P w K mg base aS 1 t.K0 t.K1 ["self","a","row"] (bt (Yr K)):=by
 refine bC T.aE6 WK ?_ ?_
 ·intro ds Q h
  obtain⟨C,p,a,xs,rfl,hC,hn,hp,ha,hy,hl,q⟩:=h<;>rfl
 ·intro aE A outer s H E hr
  refine⟨_,(aA (aH (i:=3) WK.nd rfl (bx rfl) (dk (i5 (K:=K) (bv 0))))
   (aB (aR (fc [("prime",3),("a",1)] ["x"] rfl (nq (bv 2)) (λ_ _ _ _=>(dB (i:=2) (show(["prime","a","x"]:List Str).Nodup by decide +kernel) rfl (ai (lookup_relabel_local rfl)) (by decide) (bx (lookup_relabel_local rfl)))) (λ_ _ _ _=>eQ) (λ_ _ _ _=>(ay cM (ae (ay fZ (bv 1) (bv 2))) (bv 0))) rfl ⟨rfl,⟨rfl,trivial⟩⟩ (λ_=>by repeat' (first | exact trivial | refine⟨.inl rfl,?_⟩ | refine⟨.inr (.inl rfl),?_⟩ | refine⟨.inr (.inr ⟨_,rfl⟩),?_⟩)) (λ_=>⟨⟨rfl,.inl rfl,.inl rfl,_,rfl,rfl⟩,⟨⟨rfl,.inl rfl,.inl rfl,_,rfl,rfl⟩,trivial⟩⟩) rfl (by decide +kernel))))),λds Q h=>?_⟩
  obtain⟨C,p,a,xs,rfl,hC,hn,hp,ha,hy,hl,q⟩:=h
  refine az λU hU=>?_
  walk_at"l3"
  refine⟨C,_,_,.int p,rfl,hC,hn,rfl,rfl,hU _ ?_⟩
  clear hU U
  walk_at"l3"
  refine gb xs (λ(i:Nat)=>D.int (i:Int)) (λx=>D.int ((gm (false,p) a x:Nat):Int)) (zP xs) i3 (λx hx=>?_) (.inr λ_ _=>rfl) (by rw[sL];omega) ?_
  ·have h2:=hy x hx
   walk_at"l3"
   refine⟨ig.ok (.inr ⟨by omega,by omega⟩),by omega,?_⟩
   show _=((a*x%p:Nat):Int)
   rw[mO,yD]
  ·rw[cI,da]at q
   exact q
theorem Ys(T:Txt K mg t){m:Bool × Nat}(hm:m∈av):∃C ns zs sp,fD t.aK t.aM m=.obj C ns zs/\nF P w K mg base 1 "scaled" C sp/\("scaled":Str) ∉ ns/\∀(xs:List Nat) (a:Nat) (Q:D->Prop),a<aa m->(∀y∈xs,y<aa m)->xs.length<=1000->Q (.lst true (ak (xs.map (gm m a))))->sp [.obj C ns zs,.int a,.lst false (ak xs)] Q:=by
 have hF:=bS hm
 obtain⟨k,n⟩:=m
 cases k with
 | true=>exact⟨_,_,_,Yq K,rfl,⟨T.fv,_,_,_,T.AK,aH7 T,T.aJ0⟩,by decide,λxs a Q ha hy hl q=>⟨_,n,a,xs,rfl,T.fv,T.og,vU hm,ha,hy,hl,q⟩⟩
 | false =>
  have jW:n<=64:=hF.hi
  have l2:2<=n:=hF.lo
  exact⟨_,_,_,Yr K,rfl,⟨T.fK,_,_,_,T.AW,aC9 T,T.aE7⟩,by decide,λxs a Q ha hy hl q=>⟨_,n,a,xs,rfl,T.fK,T.kQ,by omega,cT (show a<n from ha) jW,λy h=>cT (show y<n from hy y h) jW,hl,q⟩⟩
noncomputable abbrev Yt(t:kj)(P:Program)(w:World)(K:Frag)(mg:Str->Option Value)(base:Heap):pQ:=λds Q Ex=>∃(m:Bool × Nat) (a b:Nat),ds=[fD t.aK t.aM m,.int a,.int b]/\m∈av/\a<aa m/\b<aa m/\(b=0->Ex t.hJ)/\(b≠0->∀r:Nat,r<aa m->gm m r b=a->Q (.int (r:Nat)))
theorem Yu(T:Txt K mg t):aN P w K mg base (m6 P w) 2 t.DO t.K2 ["self","a","b"] (zO (Yt t P w K mg base)):=by
 refine Ua T.aT1 aQ0 ?_ ?_
 ·intro ds Q Ex h
  obtain⟨m,a,b,rfl,hm,ha,hb,qx,q⟩:=h<;>rfl
 ·intro aE A outer s H E hr
  refine⟨_,(aA (cm (bN (eG (cS hr)) (bv 2) (ae aj) (bE _)) (aB (Ue T.XW rfl (by rfl) (af (ae To) ao))) cH)
   (aA (cm (bN (eG (cS hr)) (bv 1) (ae aj) (bE _)) (aB (aR aj)) cH)
   (aB (aR (gZ (P:=P) (w:=w) (K:=K) (mg:=mg) (base:=base) (n:=1) (bv 0) (hr.mono (by decide)) (af (ae (ay cX (bq (i5 (K:=K) (bv 0)) (bv 1) (λ_ _=>rfl)) (bq (i5 (K:=K) (bv 0)) (bv 2) (λ_ _=>rfl)))) ao)))))),λds Q Ex h=>?_⟩
  obtain⟨m,a,b,rfl,hm,ha,hb,qx,q⟩:=h
  refine az λU hU=>?_
  walk_at"l3"
  split
  ·rename_i h0
   exact⟨by decide,qx (by omega)⟩
  ·rename_i h0
   have b0:b≠0:=by omega
   refine hU _ ?_
   clear hU U
   refine az λU hU=>?_
   walk_at"l3"
   split
   ·rename_i h1
    have a0:a=0:=by omega
    subst a0
    exact q b0 0 ha (dN m b (bB m hm))
   ·rename_i h1
    have a0:a≠0:=by omega
    refine hU _ ?_
    clear hU U
    have hF:=bS hm
    obtain⟨r,e,tL,DZ⟩:=Ve hm (show 1<=a by omega) ha (show 1<=b by omega) hb
    have qr:=q b0 r tL DZ
    obtain⟨k,n⟩:=m
    cases k with
    | true =>
     walk_at"l3"
     have ll:(eD (fl (true,n))).length=aa (true,n):=(zZ _ _).trans hF.len
     have n0:=fU (lg (true,n) a-lg (true,n) b) (show(aa (true,n):Int)-1≠0 by have:=hF.lo;omega)
     have n1:=iD (lg (true,n) a-lg (true,n) b) (show(0:Int)<(aa (true,n):Int)-1 by have:=hF.lo;omega)
     refine⟨_,_,_,A7 K,rfl,⟨T.fv,_,_,_,T.tV,A8 T,T.Az⟩,by decide,_,_,_,_,rfl,T.fv,T.qu,rfl,_,mf (by omega) (by rw[ll];omega),_,_,_,_,rfl,T.fv,T.qu,rfl,_,mf (by omega) (by rw[ll];omega),?_⟩
     refine⟨_,_,_,_,aa (true,n),fl (true,n),r,rfl,T.fv,T.qv,T.tU,rfl,rfl,hF.lo,?_,qr⟩
     have hk:((lg (true,n) a-lg (true,n) b)%((aa (true,n):Int)-1)).toNat<(fl (true,n)).length:=by have:=hF.len;omega
     show(fl (true,n))[((lg (true,n) a-lg (true,n) b)%((aa (true,n):Int)-1)).toNat]?=some (r:Int)
     rw[<-e]
     unfold pw
     rw[aI,aL hk];rfl
    | false =>
     walk_at"l3"
     have ll:(eD (fl (false,n))).length=aa (false,n):=(zZ _ _).trans hF.len
     have n0:=fU (lg (false,n) a-lg (false,n) b) (show(aa (false,n):Int)-1≠0 by have:=hF.lo;omega)
     have n1:=iD (lg (false,n) a-lg (false,n) b) (show(0:Int)<(aa (false,n):Int)-1 by have:=hF.lo;omega)
     refine⟨_,_,_,A7 K,rfl,⟨T.fK,_,_,_,T.tZ,A8 T,T.Az⟩,by decide,_,_,_,_,rfl,T.fK,T.tW,rfl,_,mf (by omega) (by rw[ll];omega),_,_,_,_,rfl,T.fK,T.tW,rfl,_,mf (by omega) (by rw[ll];omega),?_⟩
     refine⟨_,_,_,_,aa (false,n),fl (false,n),r,rfl,T.fK,T.tY,T.tX,rfl,rfl,hF.lo,?_,qr⟩
     have hk:((lg (false,n) a-lg (false,n) b)%((aa (false,n):Int)-1)).toNat<(fl (false,n)).length:=by have:=hF.len;omega
     show(fl (false,n))[((lg (false,n) a-lg (false,n) b)%((aa (false,n):Int)-1)).toNat]?=some (r:Int)
     rw[<-e]
     unfold pw
     rw[aI,aL hk];rfl
theorem Yv(T:Txt K mg t)(m:Bool × Nat):C2 P w K mg base 2 "over" (if m.1 then t.aK else t.aM) (Yt t P w K mg base):=by
 obtain⟨k,n⟩:=m
 cases k with
 | true=>exact⟨T.fv,_,_,_,T.AI,Yu T,T.Xw⟩
 | false=>exact⟨T.fK,_,_,_,T.AU,Yu T,T.Xw⟩
noncomputable abbrev aW5(t:kj)(P:Program)(w:World)(K:Frag)(mg:Str->Option Value)(base:Heap):bh:=λds Q=>∃(m:Bool × Nat) (row:List Nat),ds=[fD t.aK t.aM m,.lst false (ak row)]/\m∈av/\AllLt (aa m) row/\row.length<=63/\∀(L:Nat) (c:List Nat) (b:Nat->Nat) (o:Nat),BI (aa m) (gp m) (gm m) (cf row) row.length L (cf c) b o->o≠0->o<aa m->c.length=L+1->AllLt (aa m) c->Q (.tup [.int L,.lst true (ak c)])
theorem aW6(T:Txt K mg t):aN P w K mg base aS 3 t.K3 t.K4 ["field","row"] (bt (aW5 t P w K mg base)):=by
 refine bC T.Xx hE ?_ ?_
 ·intro ds Q h
  obtain⟨m,row,rfl,hm,hr,hl,q⟩:=h<;>rfl
 ·intro aE A outer s H E hr
  refine⟨_,(aA (aH (i:=2) hE.nd rfl (ai rfl) aj)
   (aA (aH (i:=3) hE.nd rfl (ai rfl) (eO (cR aj dA)))
   (aA (aH (i:=4) hE.nd rfl (ai rfl) (eO (cR aj dA)))
   (aA (aH (i:=5) hE.nd rfl (ai rfl) aj)
   (aA (aH (i:=6) hE.nd rfl (ai rfl) aj)
   (aA (fR eo rfl (jj rfl T.gh (af (ae (cu (dq) (by rfl) T.dv di (af (bv 1) ao))) ao)) (dB (i:=7) hE.nd rfl (ai rfl))
    (aA (aH (i:=8) hE.nd rfl (ai rfl) (bj ((Yp T).mono (by decide)) hr rfl T.Xt T.LP.kp T.Xu aW (af (bv 0) (af (bv 1) (af (bv 3) (af (bv 7) ao))))))
    (aB (cm (bN (eG (cS hr)) (bv 8) (ae aj) (bE _)) (aB (pd (i:=6) hE.nd rfl (ai rfl) (ae aj) Ha)) (aA (aH (i:=9) hE.nd rfl (ai rfl) (bj ((aR6 T).mono (by decide)) hr rfl T.ef1 T.Xv.kp T.ef2 aW (af (bv 0) (af (bv 3) (af (ae (ay cF (ae (ay fZ (ae (eO (cR aj dA))) (bv 6))) (ae (gZ (P:=P) (w:=w) (K:=K) (mg:=mg) (base:=base) (n:=1) (bv 0) (hr.mono (by decide)) (af (ae (Vf (P:=P) (w:=w) (K:=K) (mg:=mg) (base:=base) (n:=2) (bv 0) (hr.mono (by decide)) (af (bv 8) (af (bv 5) ao)))) (af (bv 4) ao)))))) ao)))))
     (aA (cm (bN u6 (ae (ay fZ (ae aj) (bv 2))) (bv 7) (bE _)) (aA (aH (i:=2) hE.nd rfl (ai rfl) (ay cX (ae (ay cF (bv 7) (ae aj))) (bv 2)))
      (aA (aH (i:=4) hE.nd rfl (ai rfl) (em 3))
      (aA (aH (i:=5) hE.nd rfl (ai rfl) (em 8))
      (aB (aH (i:=6) hE.nd rfl (ai rfl) aj))))) (aB (pd (i:=6) hE.nd rfl (ai rfl) (ae aj) Ha)))
     (aB (aH (i:=3) hE.nd rfl (ai rfl) (em 9)))))))))
   (aB (aR (uY (cR (dk (bv 2)) (cR (bj ((Me T).mono (by decide)) hr rfl T.LQ T.DQ.kp T.LR aW (af (bv 3) (af (ae (ay cF (bv 2) (ae aj))) ao))) dA))))))))))),λds Q h=>?_⟩
  obtain⟨m,row,rfl,hm,hr,hl,q⟩:=h
  have m0:=bB m hm
  have dh:=(bS hm).lo
  have R:=rg hm
  have hs:=bU hm hr
  refine az λU hU=>?_
  walk_at"l3"
  refine hU _ ?_
  clear hU U
  refine az λU hU=>?_
  walk_at"l3"
  refine⟨by decide,hU _ ?_⟩
  clear hU U
  refine az λU hU=>?_
  walk_at"l3"
  refine⟨by decide,hU _ ?_⟩
  clear hU U
  refine az λU hU=>?_
  walk_at"l3"
  refine hU _ ?_
  clear hU U
  refine az λU hU=>?_
  walk_at"l3"
  refine hU _ ?_
  clear hU U
  refine az λU hU=>?_
  walk_at"l3"
  refine⟨⟨by omega,by omega⟩,?_⟩
  refine fG.mk (λn δ=>∃(L k o:Nat) (c old:List Nat) (o1 o2 o3:Option D),δ=[some (fD t.aK t.aM m),some (D.lst false (ak row)),some (D.int L),some (D.lst true (ak c)),some (D.lst true (ak old)),some (D.int o),some (D.int k),o1,o2,o3]/\BI (aa m) (gp m) (gm m) (cf row) n L (cf c) (fb k (cf old)) o/\o≠0/\o<aa m/\AllLt (aa m) c/\AllLt (aa m) old/\c.length<=L+1/\k<=n+1/\old.length<=64) ⟨0,1,1,[1],[1],none,none,none,rfl,BI.start hm _,by decide,dh,?_,?_,by decide,by decide,by decide⟩ ?_ ?_
  ·intro x hx
   rw[jB]at hx;omega
  ·intro x hx
   rw[jB]at hx;omega
  ·rintro n d δ hd ⟨L,k,o,c,old,o1,o2,o3,rfl,I,o0,ol,hc,ho,dM,hk,Mg⟩
   obtain⟨hn,rfl⟩:=Vx hd
   have ln:=I.ln
   rw[show(0:Int)+(n:Int)=((n:Nat):Int) by omega]
   clear hd
   refine az λU hU=>?_
   walk_at"l3"
   refine⟨m,row,c,n,rfl,hm,hr,hc,by omega,by omega,by omega,rfl,hU _ ?_⟩
   clear hU
   rw[Dj hm row c (by omega)]
   have dl:=v9 R (cf row) (cf c) n
   generalize hd:ds (gp m) (gm m) (cf row) (cf c) n=d at dl
   walk_at"l3"
   split
   ·rename_i h0
    have d0:d=0:=by omega
    have J:=I.same R (hd.trans d0)
    rw[VL]at J
    exact⟨L,k+1,o,c,old,_,_,_,⟨rfl,rfl,rfl,rfl,rfl,rfl,rfl,rfl⟩,J,o0,ol,hc,ho,dM,by omega,Mg⟩
   ·rename_i h0
    have d0:d≠0:=by omega
    clear hU
    refine az λU hU=>?_
    walk_at"l3"
    obtain⟨C,ns,xs,sp,e1,e2,e3,e4⟩:=Ys (P:=P) (w:=w) (base:=base) T hm
    refine⟨by decide,⟨by omega,by omega,by rw[gB];omega⟩,C,ns,xs,sp,e1,e2,e3,_,_,_,_,vV _ _ m,Yv T m,Vg m _ (by decide),m,d,o,by rw[vV],hm,dl,ol,λz=>absurd z o0,λ_ f hf Ac=>?_⟩
    refine e4 _ _ _ hf ho (by omega) ⟨by rw[eU,iE],?_⟩
    have er:aC (aT k 0)=ak (aT k 0):=by
     rw[cI,oH];unfold aC;rw[oH];rfl
    have hB:AllLt (aa m) (aT k 0++old.map (gm m f)):=λx hx=>by
     rcases cw.mp hx with hx | hx
     ·rw[List.eq_of_mem_replicate hx];omega
     ·obtain⟨y,_,rfl⟩:=bZ.mp hx
      exact cj hm _ _
    rw[gB,er]
    dsimp only
    rw[nC,dF,dF,hW,bu]
    refine⟨⟨by omega,kH _,kH _⟩,m,c,aT k 0++old.map (gm m f),by rw[nB],hm,hc,hB,by omega,by rw[fB,hW,bu];omega,eU _,hU _ ?_⟩
    clear hU
    have Yw:∀j,gp m (cf (fH (kK (aZ m) c (aT k 0++old.map (gm m f)))) j) (gm m f (fb k (cf old) j))=cf c j:=λj=>by
     have:=cF6 hm hc hB j
     rw[cQ6,show cf (old.map (gm m f))=λi=>gm m f (cf old i) from funext (VJ hm f old),cL9 hm]at this
     rw[Dc];exact this
    have mT:AllLt (aa m) (fH (kK (aZ m) c (aT k 0++old.map (gm m f)))):=λx hx=>cG6 hm hc hB x (Vn hx)
    have J:=I.dX5 R hs hf (by rw[hd];exact d0) (by rw[hd];exact Ac) (bU hm mT) Yw
    have Bc:=b79 λj hj=>(Dc _ j).symm.trans (J.cz j hj)
    generalize fH (kK (aZ m) c (aT k 0++old.map (gm m f)))=c' at Yw mT J Bc ⊢
    rw[hd]at J
    refine az λU hU=>?_
    walk_at"l3"
    have fin:∀(L' k' o':Nat) (xX:List Nat) (co fo:Option D),BI (aa m) (gp m) (gm m) (cf row) (n+1) L' (cf c') (fb k' (cf xX)) o'->o'≠0->o'<aa m->AllLt (aa m) xX->c'.length<=L'+1->k'<=n+1+1->xX.length<=64->U [some (fD t.aK t.aM m),some (D.lst false (ak row)),some (D.int L'),co,some (D.lst true (ak xX)),some (D.int o'),some (D.int k'),some (D.int n),fo,some (D.lst true (ak c'))]:=by
     intro L' k' o' xX co fo j1 j2 j3 j4 j5 j6 j7
     refine hU _ ?_
     walk_at"l3"
     exact⟨L',k',o',c',xX,_,_,_,⟨rfl,rfl,rfl,rfl,rfl,rfl,rfl,rfl⟩,j1,j2,j3,mT,j4,j5,j6,j7⟩
    refine⟨ig.ok (.inl ⟨by decide,by decide⟩),?_⟩
    split
    ·rename_i h2
     have h2:2*L<=n:=by omega
     rw[if_pos h2,if_pos h2,show max L (n+1-L)=n+1-L by omega]at J
     rw[show max L (n+1-L)=n+1-L by omega]at Bc
     clear hU
     refine az λU hU=>?_
     walk_at"l3"
     rw[show(n:Int)+1-(L:Int)=((n+1-L:Nat):Int) by omega]
     refine hU _ ?_
     clear hU
     refine az λU hU=>?_
     walk_at"l3"
     refine hU _ ?_
     clear hU
     refine az λU hU=>?_
     walk_at"l3"
     refine hU _ ?_
     clear hU
     walk_at"l3"
     exact fin _ 1 d c none none J d0 dl hc Bc (by omega) (by omega)
    ·rename_i h2
     have h2:¬ 2*L<=n:=by omega
     rw[if_neg h2,if_neg h2,show max L (n+1-L)=L by omega,VL]at J
     rw[show max L (n+1-L)=L by omega]at Bc
     exact fin L (k+1) o old _ _ J o0 ol ho Bc (by omega) Mg
  ·rintro δ ⟨L,k,o,c,old,o1,o2,o3,rfl,I,o0,ol,hc,ho,dM,hk,Mg⟩
   refine hU _ ?_
   walk_at"l3"
   rw[bu,cZ,gB]at I hk
   have ln:=I.ln
   rw[show(L:Int)+1=((L+1:Nat):Int) by omega]
   refine⟨_,_,rfl,by rw[bu];omega,by omega,by omega,?_⟩
   rw[Md]
   refine⟨eU _,by decide,q L _ (fb k (cf old)) o ?_ o0 ol (v7 dM) (z9 hm hc _)⟩
   rw[Io]
   exact I
noncomputable abbrev aU8(cb cp:Addr):bh:=λds Q=>∃(m:Bool × Nat) (l:List Nat) (n:Nat),ds=[fD cb cp m,.lst false (ak l),.int n]/\m∈av/\AllLt (aa m) l/\n<=1000/\Q (.lst true (ak ((aO n).filter λq=>decide (aJ m (eS m (-(q:Int))) l=0))))
theorem aU9(T:Txt K mg t):aN P w K mg base aS 3 t.K5 t.K6 ["field","finder","length"] (bt (aU8 t.aK t.aM)):=by
 refine bC T.Xy aS7 ?_ ?_
 ·intro ds Q h
  obtain⟨m,l,n,rfl,hm,hl,hn,q⟩:=h<;>rfl
 ·intro aE A outer s H E hr
  refine⟨_,(aB (aR (fc [("field",0),("finder",1)] ["place"] rfl (jj rfl T.gh (af (bv 2) ao)) (λ_ _ _ _=>(dB (i:=2) (show(["field","finder","place"]:List Str).Nodup by decide +kernel) rfl (ai (lookup_relabel_local rfl)) (by decide) (bx (lookup_relabel_local rfl)))) (λ_ _ _ _=>(G8 (bN (eG (cS hr)) (ae (bj ((Yj T).mono (by decide)) hr rfl T.Xm T.LN.kp T.Xn aW (af (bv 0) (af (bv 1) (af (ae (gZ (P:=P) (w:=w) (K:=K) (mg:=mg) (base:=base) (n:=1) (bv 0) (hr.mono (by decide)) (af (ae (TY (bv 2))) ao))) ao))))) (ae aj) (bE _)))) (λ_ _ _ _=>(dk (bv 2))) rfl ⟨rfl,⟨rfl,trivial⟩⟩ (λ_=>by repeat' (first | exact trivial | refine⟨.inl rfl,?_⟩ | refine⟨.inr (.inl rfl),?_⟩ | refine⟨.inr (.inr ⟨_,rfl⟩),?_⟩)) (λ_=>⟨⟨rfl,.inl rfl,.inl rfl,_,rfl,rfl⟩,⟨⟨rfl,.inl rfl,.inl rfl,_,rfl,rfl⟩,trivial⟩⟩) rfl (by decide +kernel)))),λds Q h=>?_⟩
  obtain⟨m,l,n,rfl,hm,hl,hn,q⟩:=h
  have m0:=bB m hm
  walk_at"l3"
  refine⟨⟨by omega,by omega⟩,?_⟩
  refine Iq (aO n) (λ(i:Nat)=>D.int (i:Int)) (λ(i:Nat)=>D.int (i:Int)) (λq=>decide (aJ m (eS m (-(q:Int))) l=0)) (tH _ rfl) i3 (λp hp=>?_) (.inr λ_ _ _=>rfl) (by rw[cZ,sL];omega) ?_
  ·walk_at"l3"
   exact DU T hm ⟨m,l,_,rfl,hm,hl,i7 hm _,rfl,rfl,by rw[jm];exact decide_eq_decide.mpr (by omega),λ_=>trivial⟩
  ·rw[cI]at q
   exact q
noncomputable def D0:Option (List Nat)->D
 | some l=>.lst true (ak l)
 | none=>.aw
noncomputable abbrev aN8(t:kj)(P:Program)(w:World)(K:Frag)(mg:Str->Option Value)(base:Heap):bh:=λds Q=>∃(m:Bool × Nat) (bQ us:List Nat) (n:Nat),ds=[fD t.aK t.aM m,.lst false (ak bQ),.lst false (ak us),.int n]/\m∈av/\AllLt (aa m) us/\bQ.length<=us.length/\us.length<=63/\n<=1000/\(∀p∈bQ,p<=64)/\∀(L:Nat) (c:List Nat) (b:Nat->Nat) (o:Nat),BI (aa m) (gp m) (gm m) (cf ((aO (us.length-bQ.length)).map λ(i:Nat)=>jV m us (dH m bQ) (bQ.length+i))) (us.length-bQ.length) L (cf c) b o->c.length=L+1->AllLt (aa m) c->Q (D0 (nX m bQ (us.length-bQ.length) n L c))
theorem aN9(T:Txt K mg t):aN P w K mg base aS 4 t.K7 t.K8 ["field","lost","sums","length"] (bt (aN8 t P w K mg base)):=by
 refine bC T.Xz Av ?_ ?_
 ·intro ds Q h
  obtain⟨m,bQ,us,n,rfl,hm,B8,hlu,et4,hn,hp,q⟩:=h<;>rfl
 ·intro aE A outer s H E hr
  refine⟨_,(aA (aH (i:=4) Av.nd rfl (bx rfl) (bj ((aN6 T).mono (by decide)) hr rfl T.ee5 T.Xs.kp T.ee6 aW (af (bv 0) (af (bv 1) ao))))
   (aA (Dr (i:=5) Av.nd rfl (ai rfl) [("field",0),("sums",2),("known",4)] ["i"] rfl (uZ rfl T.gh (af (ae (cu (dq) (by rfl) T.dv di (af (bv 1) ao))) (af (ae (cu (dq) (by rfl) T.dv di (af (bv 2) ao))) ao))) (λ_ _ _ _=>(dB (i:=3) (show(["field","sums","known","i"]:List Str).Nodup by decide +kernel) rfl (ai (lookup_relabel_local rfl)) (by decide) (bx (lookup_relabel_local rfl)))) (λ_ _ _ _=>eQ) (λ_ _ _ _=>(bj ((Yp T).mono (by decide)) hr rfl T.Xt T.LP.kp T.Xu aW (af (bv 0) (af (bv 1) (af (bv 2) (af (bv 3) ao)))))) rfl ⟨rfl,⟨rfl,⟨rfl,trivial⟩⟩⟩ (λ_=>by repeat' (first | exact trivial | refine⟨.inl rfl,?_⟩ | refine⟨.inr (.inl rfl),?_⟩ | refine⟨.inr (.inr ⟨_,rfl⟩),?_⟩)) (λ_=>⟨⟨rfl,.inl rfl,.inl rfl,_,rfl,rfl⟩,⟨⟨rfl,.inl rfl,.inl rfl,_,rfl,rfl⟩,⟨⟨rfl,.inl rfl,.inl rfl,_,rfl,rfl⟩,trivial⟩⟩⟩) rfl (by decide +kernel))
   (aA (aH (i:=6) Av.nd rfl (ai rfl) (bj ((aW6 T).mono (by decide)) hr rfl T.ef8 T.Xx.kp T.ef9 aW (af (bv 0) (af (bv 5) ao))))
   (aA (cm (bN zH (ae (ay fZ (ae aj) (bq (bv 6) (ae aj) (λ_ _=>rfl)))) (ae (cu (dq) (by rfl) T.dv di (af (bv 5) ao))) (bE _)) (aB (aR fF)) cH)
   (aA (aH (i:=7) Av.nd rfl (ai rfl) (bj ((aU9 T).mono (by decide)) hr rfl T.eg0 T.Xy.kp T.eg1 aW (af (bv 0) (af (bq (bv 6) (ae aj) (λ_ _=>rfl)) (af (bv 3) ao)))))
   (aA (cm (PW.pt (Cj (bN (nu (cS hr)) (ae (cu (dq) (by rfl) T.dv di (af (bv 7) ao))) (bq (bv 6) (ae aj) (λ_ _=>rfl)) (bE _)) (BU (jP (ae (cu (c02 rfl) (by rfl) T.ei9 cN2 (af (ae (fc [("lost",1)] ["place"] rfl (nq (bv 7)) (λ_ _ _ _=>(dB (i:=1) (show(["lost","place"]:List Str).Nodup by decide +kernel) rfl (ai (lookup_relabel_local rfl)) (by decide) (bx (lookup_relabel_local rfl)))) (λ_ _ _ _=>eQ) (λ_ _ _ _=>(rp Um (bv 1) (bv 0) (by with_unfolding_all rfl))) rfl ⟨rfl,trivial⟩ (λ_=>by repeat' (first | exact trivial | refine⟨.inl rfl,?_⟩ | refine⟨.inr (.inl rfl),?_⟩ | refine⟨.inr (.inr ⟨_,rfl⟩),?_⟩)) (λ_=>⟨⟨rfl,.inl rfl,.inl rfl,_,rfl,rfl⟩,trivial⟩) rfl (by decide +kernel))) ao))))))) (aB (aR fF)) cH)
   (aB (aR (em 7))))))))),λds Q h=>?_⟩
  obtain⟨m,bQ,us,n,rfl,hm,B8,hlu,et4,hn,hp,q⟩:=h
  refine az λU hU=>?_
  walk_at"l3"
  refine⟨m,bQ,rfl,hm,by omega,hU _ ?_⟩
  clear hU U
  have fl:=Jc hm bQ
  refine az λU hU=>?_
  walk_at"l3"
  refine⟨(bQ.length:Int),_,⟨rfl,rfl⟩,⟨by omega,by omega,by omega,by omega⟩,?_⟩
  refine gb (aO (us.length-bQ.length)) (λ(i:Nat)=>D.int ((bQ.length:Int)+(i:Int))) (λi=>D.int ((jV m us (dH m bQ) (bQ.length+i):Nat):Int)) ?_ (λa b h=>by injection h with h;omega) (λi hi=>?_) (.inr λ_ _=>rfl) (by rw[cZ,sL];omega) ?_
  ·rw[pe,show((us.length:Int)-(bQ.length:Int)).toNat=us.length-bQ.length by omega]
  ·have hi:=de.mp hi
   walk_at"l3"
   refine⟨m,us,dH m bQ,bQ.length+i,rfl,hm,B8,(wk hm _).1,by omega,by omega,by omega,rfl⟩
  have er:((aO (us.length-bQ.length)).map λi=>D.int ((jV m us (dH m bQ) (bQ.length+i):Nat):Int))=ak ((aO (us.length-bQ.length)).map λ(i:Nat)=>jV m us (dH m bQ) (bQ.length+i)):=by rw[cI,da];rfl
  rw[er]
  have ll:((aO (us.length-bQ.length)).map λ(i:Nat)=>jV m us (dH m bQ) (bQ.length+i)).length=us.length-bQ.length:=by rw[bu,cZ]
  have la:AllLt (aa m) ((aO (us.length-bQ.length)).map λ(i:Nat)=>jV m us (dH m bQ) (bQ.length+i)):=λa ha=>by
   obtain⟨i,_,rfl⟩:=bZ.mp ha
   exact Ij hm _ _
  generalize ((aO (us.length-bQ.length)).map λ(i:Nat)=>jV m us (dH m bQ) (bQ.length+i))=left at ll la q ⊢
  refine hU _ ?_
  clear hU U
  refine az λU hU=>?_
  walk_at"l3"
  refine⟨m,left,rfl,hm,la,by omega,λL c b o I o0 ol lc hc=>⟨by rw[m9];simp only[eL,oE,pK,eU,jE],hU _ ?_⟩⟩
  rw[ll]at I
  have iL:=I.ln
  have q:=q L c b o I lc hc
  clear hU U
  refine az λU hU=>?_
  walk_at"l3"
  refine⟨_,rfl,ig.ok (.inl ⟨by omega,by omega⟩),?_⟩
  rw[ll]
  unfold nX at q
  by_cases h2:us.length-bQ.length<2*L
  ·rw[if_pos (by omega)]
   rw[if_pos h2]at q
   exact q
  rw[if_neg (by omega)]
  rw[if_neg h2]at q
  refine hU _ ?_
  clear hU U
  refine az λU hU=>?_
  walk_at"l3"
  refine⟨_,rfl,m,c,n,by rw[v3],hm,hc,hn,by rw[eU,iE],hU _ ?_⟩
  clear hU U
  change Q (D0 (if(fJ m c n).length≠L\/(∃p∈fJ m c n,p∈bQ)then none else some (fJ m c n)))at q
  rw[show((aO n).filter λ(q:Nat)=>decide (aJ m (eS m (-(q:Int))) c=0))=fJ m c n from rfl]
  have fln:(fJ m c n).length<=1000:=eH (di6 ..) (by rw[cZ];exact hn)
  generalize fJ m c n=fd at q fln ⊢
  refine az λU hU=>?_
  walk_at"l3"
  refine⟨_,rfl,rfl,?_⟩
  rw[jm]
  by_cases h3:fd.length=L
  ·rw[if_neg (by rw[decide_eq_true (by omega)];decide)]
   refine gb fd (λ(i:Nat)=>D.int (i:Int)) (λp=>D.bl (bQ.contains p)) (by rw[cI,pe]) i3 (λp hp=>?_) (.inr λ_ _=>rfl) (by rw[sL];omega) ?_
   ·walk_at"l3"
    exact⟨_,ce0 bQ,by rw[VR]⟩
   ·refine⟨fd.map λp=>bQ.contains p,by unfold sF;rw[da];rfl,?_⟩
    rw[List.any_map,show(id ∘ λp=>bQ.contains p)=λp=>bQ.contains p from rfl]
    by_cases h4:∃p∈fd,p∈bQ
    ·rw[if_pos (Bv.mpr (h4.imp λp hp=>⟨hp.1,uA.mpr hp.2⟩))]
     rw[if_pos (.inr h4)]at q
     exact q
    ·rw[if_neg λz:(fd.any λp=>bQ.contains p)=true=>h4 ((Bv.mp z).imp λp hp=>⟨hp.1,uA.mp hp.2⟩)]
     rw[if_neg λz=>z.elim (λz=>z h3) h4]at q
     refine hU _ ?_
     walk_at"l3"
     exact q
  ·rw[if_pos (by rw[decide_eq_false (by omega)];rfl)]
   rw[if_pos (.inl h3)]at q
   exact q
noncomputable abbrev aW7:bh:=λds Q=>∃T:List (List Nat),ds=[.lst false (bD false T)]/\T.length<=1000/\(∀r∈T,r.length<=1000)/\Q (.int (br T:Nat))
theorem Yx(T:Txt K mg t):aN P w K mg base aS 1 t.K9 t.La ["table"] (bt (aW7 )):=by
 refine bC T.LS aV2 ?_ ?_
 ·intro ds Q h
  obtain⟨G,rfl,hG,hr,q⟩:=h<;>rfl
 ·intro aE A outer s H E hr
  refine⟨_,(aB (aR (Ck (bN (nu (cS hr)) (bv 0) (ae (eO dA)) (bE _)) (cu (dq) (by rfl) T.dv di (af (bq (bv 0) (ae aj) (λ_ _=>rfl)) ao)) aj))),λds Q h=>?_⟩
  obtain⟨G,rfl,hG,hr,q⟩:=h
  walk_at"l3"
  refine⟨by decide,⟨cH2 4 _ _ _,rfl⟩,?_⟩
  rw[show(D.lst true ([]:List D))=D.lst true (bD true []) from rfl,cG1]
  cases G with
  | nil=>rw[if_neg (by simp)];exact q
  | cons r G =>
   rw[if_pos (by simp)]
   refine⟨.lst false (ak r),Ip false (T:=r::G) (i:=0) (Nat.succ_pos _),?_⟩
   show Q (D.int ((ak r).length:Nat))
   rw[dF];exact q
noncomputable abbrev aR7:bh:=λds Q=>∃(T:List (List Nat)) (j:Nat),ds=[.lst false (bD false T),.int j]/\T.length<=1000/\(∀r∈T,j<r.length)/\Q (match jw T j with | some i=>.int (i:Nat) | none=>.aw)
theorem aR8(T:Txt K mg t):aN P w K mg base aS 1 t.Lb t.Lc ["rows","place"] (bt (aR7 )):=by
 refine bC T.XC WL ?_ ?_
 ·intro ds Q h
  obtain⟨G,j,rfl,hG,hr,q⟩:=h<;>rfl
 ·intro aE A outer s H E hr
  refine⟨_,(aA (fR eo rfl (nz rfl T.oh (af (bv 0) ao)) (gI (i1:=2) (i2:=3) rfl WL.nd rfl (ai rfl) rfl (ai rfl))
    (aB (cm (bN (nu (cS hr)) (bq (bv 3) (bv 1) (λ_ _=>rfl)) (ae aj) (bE _)) (aB (aR (em 2))) cH)))
   (aB (aR fF))),λds Q h=>?_⟩
  obtain⟨G,j,rfl,hG,hr,q⟩:=h
  refine az λU hU=>?_
  walk_at"l3"
  refine fG.mk (λi δ=>∃o1 o2,δ=[some (D.lst false (bD false G)),some (D.int j),o1,o2]/\∀k,k<i->(G.getD k []).getD j 0=0) ⟨_,_,rfl,λk hk=>absurd hk (yE k)⟩ ?_ ?_
  ·rintro i d δ hd ⟨o1,o2,rfl,hz⟩
   obtain⟨hi,rfl⟩:=cm4 hd
   have hj:=hr _ (dP hi)
   have eg:G.getD i []=G[i]:=by rw[aI,aL hi];rfl
   walk_at"l3"
   refine⟨.int (G[i].getD j 0:Nat),by rw[nI (by omega) (by omega),gB],rfl,?_⟩
   rw[jm]
   by_cases h0:G[i].getD j 0=0
   ·rw[if_neg (by rw[h0];decide)]
    refine⟨_,_,⟨rfl,rfl⟩,λk hk=>?_⟩
    by_cases e:k=i
    ·rw[e,eg];exact h0
    ·exact hz k (by omega)
   ·rw[if_pos (by rw[decide_eq_false (by omega)];rfl)]
    have ef:jw G j=some i:=by
     unfold jw
     rw[dh8]
     refine⟨hi,by simpa using h0,λk hk=>?_⟩
     have:=hz k hk
     rw[aI (l:=G),aL (by omega)]at this
     simpa using this
    rw[ef]at q
    exact q
  ·rintro δ ⟨o1,o2,rfl,hz⟩
   refine hU _ ?_
   walk_at"l3"
   have ef:jw G j=none:=by
    unfold jw
    rw[dh9]
    intro r cW
    obtain⟨i,hi,rfl⟩:=gP cW
    have:=hz i (by rw[mh,nK];exact hi)
    rw[aI (l:=G),aL hi]at this
    simpa using this
   rw[ef]at q
   exact q
noncomputable abbrev Yy(K:Frag):bh:=λds Q=>∃(C:Addr) (p a:Nat) (xs ys:List Nat),ds=[tD C p,.lst false (ak xs),.int a,.lst false (ak ys)]/\dR K C/\cq K C "products"/\p∈jq/\a<aa (true,p)/\(∀y∈ys,y<aa (true,p))/\xs.length<=1000/\Q (.lst true (ak (dZ (λx y=>aZ (true,p) x (gm (true,p) a y)) xs ys)))
theorem aD0(T:Txt K mg t):aN P w K mg base aS 1 t.Ld t.Le ["self","row","a","other"] (bt (Yy K)):=by
 refine bC T.aE8 WM ?_ ?_
 ·intro ds Q h
  obtain⟨C,p,a,xs,ys,rfl,hC,hn,hp,ha,hy,hl,q⟩:=h<;>rfl
 ·intro aE A outer s H E hr
  refine⟨_,(aA (aH (i:=4) WM.nd rfl (bx rfl) (dk (bq (i5 (K:=K) (bv 0)) (bv 2) (λ_ _=>rfl))))
   (aB (aR (fc [("by_a",4)] ["x","y"] rfl (pU rfl T.qw (af (bv 1) (af (bv 3) ao))) (λ_ _ _ _=>(gI (i1:=1) (i2:=2) rfl (show(["by_a","x","y"]:List Str).Nodup by decide +kernel) rfl (ai (lookup_relabel_local rfl)) rfl (ai (lookup_relabel_local rfl)) (by decide) (by decide) (bx (lookup_relabel_local rfl)) (bx (lookup_relabel_local rfl)))) (λ_ _ _ _=>eQ) (λ_ _ _ _=>(ay si (bv 1) (bq (bv 0) (bv 2) (λ_ _=>rfl)))) rfl ⟨rfl,trivial⟩ (λ_=>by repeat' (first | exact trivial | refine⟨.inl rfl,?_⟩ | refine⟨.inr (.inl rfl),?_⟩ | refine⟨.inr (.inr ⟨_,rfl⟩),?_⟩)) (λ_=>⟨⟨rfl,.inl rfl,.inl rfl,_,rfl,rfl⟩,trivial⟩) rfl (by decide +kernel))))),λds Q h=>?_⟩
  obtain⟨C,p,a,xs,ys,rfl,hC,hn,hp,ha,hy,hl,q⟩:=h
  refine az λU hU=>?_
  walk_at"l3"
  refine⟨C,_,_,_,rfl,hC,hn,rfl,_,CZ hp ha,?_⟩
  refine⟨by rw[gG,me];rfl,hU _ ?_⟩
  clear hU U
  walk_at"l3"
  refine⟨_,_,rfl,rfl,Ii (λx y=>aZ (true,p) x (gm (true,p) a y)) (λx hx y DY=>?_) (by omega) q⟩
  walk_at"l3"
  refine⟨_,CY hp ha (hy y DY),?_⟩
  show oo (x:Int) ((gm (true,p) a y:Nat):Int)=_
  rw[km];rfl
noncomputable abbrev Yz(K:Frag):bh:=λds Q=>∃(C:Addr) (p a:Nat) (xs ys:List Nat),ds=[p9 C p,.lst false (ak xs),.int a,.lst false (ak ys)]/\dR K C/\cq K C "prime"/\0<p/\a<64/\(∀y∈ys,y<64)/\xs.length<=1000/\Q (.lst true (ak (dZ (λx y=>aZ (false,p) x (gm (false,p) a y)) xs ys)))
theorem aA7(T:Txt K mg t):aN P w K mg base aS 1 t.Lf t.Lg ["self","row","a","other"] (bt (Yz K)):=by
 refine bC T.aC0 WN ?_ ?_
 ·intro ds Q h
  obtain⟨C,p,a,xs,ys,rfl,hC,hn,hp,ha,hy,hl,q⟩:=h<;>rfl
 ·intro aE A outer s H E hr
  refine⟨_,(aA (aH (i:=4) WN.nd rfl (bx rfl) (dk (i5 (K:=K) (bv 0))))
   (aB (aR (fc [("prime",4),("a",2)] ["x","y"] rfl (pU rfl T.qw (af (bv 1) (af (bv 3) ao))) (λ_ _ _ _=>(gI (i1:=2) (i2:=3) rfl (show(["prime","a","x","y"]:List Str).Nodup by decide +kernel) rfl (ai (lookup_relabel_local rfl)) rfl (ai (lookup_relabel_local rfl)) (by decide) (by decide) (bx (lookup_relabel_local rfl)) (bx (lookup_relabel_local rfl)))) (λ_ _ _ _=>eQ) (λ_ _ _ _=>(ay cM (ae (ay cX (bv 2) (ae (ay fZ (bv 1) (bv 3))))) (bv 0))) rfl ⟨rfl,⟨rfl,trivial⟩⟩ (λ_=>by repeat' (first | exact trivial | refine⟨.inl rfl,?_⟩ | refine⟨.inr (.inl rfl),?_⟩ | refine⟨.inr (.inr ⟨_,rfl⟩),?_⟩)) (λ_=>⟨⟨rfl,.inl rfl,.inl rfl,_,rfl,rfl⟩,⟨⟨rfl,.inl rfl,.inl rfl,_,rfl,rfl⟩,trivial⟩⟩) rfl (by decide +kernel))))),λds Q h=>?_⟩
  obtain⟨C,p,a,xs,ys,rfl,hC,hn,hp,ha,hy,hl,q⟩:=h
  refine az λU hU=>?_
  walk_at"l3"
  refine⟨C,_,_,.int p,rfl,hC,hn,rfl,rfl,hU _ ?_⟩
  clear hU U
  walk_at"l3"
  refine⟨_,_,rfl,rfl,Ii (λx y=>aZ (false,p) x (gm (false,p) a y)) (λx hx y DY=>?_) (by omega) q⟩
  have h2:=hy y DY
  walk_at"l3"
  refine⟨ig.ok (.inr ⟨by omega,by omega⟩),by omega,?_⟩
  have e:((x:Int)-((a*y%p:Nat):Int))%(p:Int)=((x:Int)-(a:Int)*y)%p:=by
   rw[mO,yD,Int.sub_emod,Int.emod_emod,<- Int.sub_emod]
  show _=(((((x:Int)-((a*y%p:Nat):Int))%(p:Int)).toNat:Nat):Int)
  rw[e,oF (fU _ (by omega))]
theorem b01(T:Txt K mg t){m:Bool × Nat}(hm:m∈av):∃C ns zs sp,fD t.aK t.aM m=.obj C ns zs/\nF P w K mg base 1 "lessened" C sp/\("lessened":Str) ∉ ns/\∀(xs ys:List Nat) (a:Nat) (Q:D->Prop),a<aa m->(∀y∈ys,y<aa m)->xs.length<=1000->Q (.lst true (ak (dZ (λx y=>aZ m x (gm m a y)) xs ys)))->sp [.obj C ns zs,.lst false (ak xs),.int a,.lst false (ak ys)] Q:=by
 have hF:=bS hm
 obtain⟨k,n⟩:=m
 cases k with
 | true=>exact⟨_,_,_,Yy K,rfl,⟨T.fv,_,_,_,T.AG,aD0 T,T.aE9⟩,by decide,λxs ys a Q ha hy hl q=>⟨_,n,a,xs,ys,rfl,T.fv,T.og,vU hm,ha,hy,hl,q⟩⟩
 | false =>
  have jW:n<=64:=hF.hi
  have l2:2<=n:=hF.lo
  exact⟨_,_,_,Yz K,rfl,⟨T.fK,_,_,_,T.AR,aA7 T,T.aC1⟩,by decide,λxs ys a Q ha hy hl q=>⟨_,n,a,xs,ys,rfl,T.fK,T.kQ,by omega,cT (show a<n from ha) jW,λy h=>cT (show y<n from hy y h) jW,hl,q⟩⟩
noncomputable abbrev aX8(cb cp:Addr):bh:=λds Q=>∃(m:Bool × Nat) (T:List (List Nat)) (l:List Nat) (j:Nat),ds=[fD cb cp m,.lst false (bD false T),.lst false (ak l),.int j]/\m∈av/\T.length<=1000/\AllLt (aa m) l/\(∀r∈T,j<r.length/\r.length<=1000/\AllLt (aa m) r)/\Q (.lst true (bD true (T.map λr=>dZ (λx y=>aZ m x (gm m (r.getD j 0) y)) r l)))
theorem YA(T:Txt K mg t):aN P w K mg base aS 2 t.Lh t.Li ["field","rows","lead_row","place"] (bt (aX8 t.aK t.aM)):=by
 refine bC T.LU aX2 ?_ ?_
 ·intro ds Q h
  obtain⟨m,G,l,j,rfl,hm,hG,hl,hr,q⟩:=h<;>rfl
 ·intro aE A outer s H E hr
  refine⟨_,(aB (aR (fc [("lead_row",2),("field",0),("place",3)] ["row"] rfl (nq (bv 1)) (λ_ _ _ _=>(dB (i:=3) (show(["lead_row","field","place","row"]:List Str).Nodup by decide +kernel) rfl (ai (lookup_relabel_local rfl)) (by decide) (bx (lookup_relabel_local rfl)))) (λ_ _ _ _=>eQ) (λ_ _ _ _=>(gZ (P:=P) (w:=w) (K:=K) (mg:=mg) (base:=base) (n:=1) (bv 1) (hr.mono (by decide)) (af (bv 3) (af (bq (bv 3) (bv 2) (λ_ _=>rfl)) (af (bv 0) ao))))) rfl ⟨rfl,⟨rfl,⟨rfl,trivial⟩⟩⟩ (λ_=>by repeat' (first | exact trivial | refine⟨.inl rfl,?_⟩ | refine⟨.inr (.inl rfl),?_⟩ | refine⟨.inr (.inr ⟨_,rfl⟩),?_⟩)) (λ_=>⟨⟨rfl,.inl rfl,.inl rfl,_,rfl,rfl⟩,⟨⟨rfl,.inl rfl,.inl rfl,_,rfl,rfl⟩,⟨⟨rfl,.inl rfl,.inl rfl,_,rfl,rfl⟩,trivial⟩⟩⟩) rfl (by decide +kernel)))),λds Q h=>?_⟩
  obtain⟨m,G,l,j,rfl,hm,hG,hl,hr,q⟩:=h
  walk_at"l3"
  refine gb G (λr=>D.lst false (ak r)) (λr=>D.lst true (ak (dZ (λx y=>aZ m x (gm m (r.getD j 0) y)) r l))) (by rw[jv];rfl) (λa b h=>VA a b h) (λr cW=>?_) (.inr λr _=>eU _) (by rw[sL];omega) ?_
  ·obtain⟨h1,h2,h3⟩:=hr r cW
   obtain⟨C,ns,zs,sp,e1,e2,e3,e4⟩:=b01 (P:=P) (w:=w) (base:=base) T hm
   walk_at"l3"
   refine⟨C,ns,zs,sp,e1,e2,e3,.int (r.getD j 0:Nat),by rw[nI (by omega) (by omega),gB],e4 _ _ _ _ (h3.getD (by have:=(bS hm).lo;omega) j) hl h2 ⟨rfl,rfl⟩⟩
  ·rw[bD,da]at q
   exact q
noncomputable abbrev aX9(t:kj)(P:Program)(w:World)(K:Frag)(mg:Str->Option Value)(base:Heap):bh:=λds Q=>∃(m:Bool × Nat) (G:List (List Nat)),ds=[fD t.aK t.aM m,.lst false (bD false G)]/\m∈av/\G.length<=900/\RT (aa m) (br G) G/\br G<=900/\Q (.lst true (bD true (cY m G)))
theorem aY0(T:Txt K mg t):aN P w K mg base aS 3 t.Lj t.Lk ["field","table"] (bt (aX9 t P w K mg base)):=by
 refine bC T.XF qp ?_ ?_
 ·intro ds Q h
  obtain⟨m,G,rfl,hm,hG,hR,hw,q⟩:=h<;>rfl
 ·intro aE A outer s H E hr
  refine⟨_,(aA (aH (i:=2) qp.nd rfl (ai rfl) (eO dA))
   (aA (aH (i:=3) qp.nd rfl (ai rfl) (dk (bv 1)))
   (aA (fR eo rfl (jj rfl T.gh (af (ae (bj ((Yx T).mono (by decide)) hr rfl T.XA T.LS.kp T.XB aW (af (bv 1) ao))) ao)) (dB (i:=4) qp.nd rfl (ai rfl))
    (G4 3 (aA (aH (i:=5) qp.nd rfl (ai rfl) (bj ((aR8 T).mono (by decide)) hr rfl T.eg4 T.XC.kp T.eg5 aW (af (bv 3) (af (bv 4) ao))))
    (aB (cm (bN TJ (bv 5) (ae fF) (bE _)) (aA (aH (i:=6) qp.nd rfl (ai rfl) (gZ (P:=P) (w:=w) (K:=K) (mg:=mg) (base:=base) (n:=1) (bv 0) (hr.mono (by decide)) (af (ae (Vf (P:=P) (w:=w) (K:=K) (mg:=mg) (base:=base) (n:=2) (bv 0) (hr.mono (by decide)) (af (ae aj) (af (bq (bq (bv 3) (bv 5) (λ_ _=>rfl)) (bv 4) (λ_ _=>rfl)) ao)))) (af (bq (bv 3) (bv 5) (λ_ _=>rfl)) ao))))
     (aA (aH (i:=3) qp.nd rfl (ai rfl) (bj ((YA T).mono (by decide)) hr rfl T.XD T.LU.kp T.XE aW (af (bv 0) (af (ae (ay cF (ae (HA (bv 3) Ho (Hq (bv 5)))) (ae (HA (bv 3) (Hq (ae (ay cF (bv 5) (ae aj)))) Ho)))) (af (bv 6) (af (bv 4) ao))))))
     (aB (aH (i:=2) qp.nd rfl (ai rfl) (cT9 (bj ((YA T).mono (by decide)) hr rfl T.XD T.LU.kp T.XE aW (af (bv 0) (af (bv 2) (af (bv 6) (af (bv 4) ao))))) (eO (cR (em 6) dA))))))) cH)))))
   (aB (aR (em 2)))))),λds Q h=>?_⟩
  obtain⟨m,G,rfl,hm,hG,hR,hw,q⟩:=h
  have dh:=(bS hm).lo
  refine az λU hU=>?_
  walk_at"l3"
  refine⟨by decide,hU _ ?_⟩
  clear hU U
  refine az λU hU=>?_
  walk_at"l3"
  refine hU _ ?_
  clear hU U
  refine az λU hU=>?_
  walk_at"l3"
  refine⟨G,rfl,by omega,λr cW=>?_,?_⟩
  ·rw[(hR r cW).1];omega
  refine⟨_,rfl,⟨by omega,by omega⟩,?_⟩
  refine Cv (λk δ=>∃(o:Bool) (o1 o2 o3:Option D),δ=[some (fD t.aK t.aM m),some (D.lst false (bD false G)),some (D.lst true (bD true (i8 m G k).1)),some (D.lst o (bD o (i8 m G k).2)),o1,o2,o3]) ⟨false,none,none,none,rfl⟩ ?_ ?_
  ·rintro k δ hk ⟨o,o1,o2,o3,rfl⟩
   have I:=Af hm hR k
   rw[Ir]
   generalize i8 m G k=s at I ⊢
   simp only[gN,o8,kX,kW,uE,uD,uF,exists_eq_left',fj,jv]
   clear hU
   have il:=I.l
   refine az λU hU=>?_
   walk_at"l3"
   refine⟨s.2,k,rfl,by omega,λr cW=>by rw[(I.b r cW).1];omega,?_⟩
   cases e:jw s.2 k with
   | none =>
    rw[show g6 m s k=s by unfold g6;rw[e]]at hU
    refine hU _ ?_
    walk_at"l3"
    exact⟨false,_,_,_,⟨rfl,rfl⟩,rfl,rfl,rfl⟩
   | some i =>
    obtain⟨hi,h1,h2⟩:=Dm e
    have er:g6 m s k=(gy m s.1 (dU m s.2 i k) k++[dU m s.2 i k],gy m (s.2.take i++s.2.drop (i+1)) (dU m s.2 i k) k):=by unfold g6;rw[e]
    rw[er]at hU
    refine hU _ ?_
    clear hU
    walk_at"l3"
    obtain⟨C,ns,xs,sp,e1,e2,e3,e4⟩:=Ys (P:=P) (w:=w) (base:=base) T hm
    refine az λU hU=>?_
    walk_at"l3"
    obtain⟨lw,lr⟩:=I.b _ (dP hi)
    have bk:=lr.getD (show 0<aa m by omega) k
    refine⟨C,ns,xs,sp,e1,e2,e3,_,_,_,_,vV _ _ m,Yv T m,Vg m _ (by decide),.lst false (ak s.2[i]),Ip false hi,?_⟩
    dsimp only
    refine⟨.int (s.2[i].getD k 0:Nat),by rw[nI (by omega) (by omega),gB],m,1,s.2[i].getD k 0,by rw[vV];rfl,hm,dh,bk,λz=>absurd z h1,λ_ f hf Ac=>⟨rfl,.lst false (ak s.2[i]),Ip false hi,?_⟩⟩
    have ef:Ad m (s.2[i].getD k 0)=f:=VP hm hf Ac
    rw[v3]
    refine e4 _ _ _ hf lr (by omega) ⟨by rw[eU,iE],hU _ ?_⟩
    have el:s.2[i].map (gm m f)=dU m s.2 i k:=by unfold dU;rw[h2,ef]
    rw[el]
    have ll:(dU m s.2 i k).length=br G:=by rw[<-el,bu];exact lw
    have la:AllLt (aa m) (dU m s.2 i k):=λx hx=>by
     rw[<-el]at hx
     obtain⟨y,_,rfl⟩:=bZ.mp hx
     exact cj hm _ _
    generalize dU m s.2 i k=ld at ll la ⊢
    clear hU
    refine az λU hU=>?_
    walk_at"l3"
    have Mh:∀r∈s.2.take i++s.2.drop (i+1),r.length=br G/\AllLt (aa m) r:=λr cW=>by
     rcases cw.mp cW with h | h
     ·exact I.b r (yt h)
     ·exact I.b r (Bw h)
    have D1:∀X:List (List Nat),(D.lst true (bD true X)).fr=true:=λX=>by rw[fY,VM];rfl
    rw[by4,show((i:Int)+1)=((i+1:Nat):Int) by omega,cl3,VN,jv]
    refine⟨by rw[jA,ui];omega,m,_,ld,k,rfl,hm,by rw[fB,jA,ui];omega,la,λr cW=>⟨by rw[(Mh r cW).1];exact hk,by rw[(Mh r cW).1];omega,(Mh r cW).2⟩,D1 _,hU _ ?_⟩
    clear hU
    walk_at"l3"
    refine⟨m,s.1,ld,k,rfl,hm,by omega,la,λr cW=>⟨by rw[(I.a r cW).1];exact hk,by rw[(I.a r cW).1];omega,(I.a r cW).2⟩,D1 _,by decide,_,_,rfl,rfl,?_,true,_,_,_,VN true _ [ld],⟨rfl,rfl⟩,rfl,rfl,rfl⟩
    rw[nK,bu]
    show s.1.length+1<=_
    omega
  ·rintro δ ⟨o,o1,o2,o3,rfl⟩
   refine hU _ ?_
   walk_at"l3"
   exact q
noncomputable abbrev cj9:bh:=λds Q=>∃T:List (List Nat),ds=[.lst false (bD false T)]/\T.length<=1000/\(∀r∈T,r.length<=1000/\∃x∈r,x≠0)/\Q (.lst true (ak (T.map dO)))
theorem ck5(T:Txt K mg t):aN P w K mg base aS 1 t.Ll t.Lm ["rows"] (bt (cj9 )):=by
 refine bC T.XG cl6 ?_ ?_
 ·intro ds Q h
  obtain⟨G,rfl,hG,hr,q⟩:=h<;>rfl
 ·intro aE A outer s H E hr
  refine⟨_,(aB (aR (fc [] ["row"] rfl (nq (bv 0)) (λ_ _ _ _=>(dB (i:=0) (show(["row"]:List Str).Nodup by decide +kernel) rfl (ai (lookup_relabel_local rfl)) (by decide) (bx (lookup_relabel_local rfl)))) (λ_ _ _ _=>eQ) (λ_ _ _ _=>(dk (bq (ae (fc [] ["place","x"] rfl (nz rfl T.oh (af (bv 0) ao)) (λ_ _ _ _=>(gI (i1:=0) (i2:=1) rfl (show(["place","x"]:List Str).Nodup by decide +kernel) rfl (ai (lookup_relabel_local rfl)) rfl (ai (lookup_relabel_local rfl)) (by decide) (by decide) (bx (lookup_relabel_local rfl)) (bx (lookup_relabel_local rfl)))) (λ_ _ _ _=>(G8 (bN (nu (cS hr)) (bv 1) (ae aj) (bE _)))) (λ_ _ _ _=>(dk (bv 0))) rfl trivial (λ_=>by repeat' (first | exact trivial | refine⟨.inl rfl,?_⟩ | refine⟨.inr (.inl rfl),?_⟩ | refine⟨.inr (.inr ⟨_,rfl⟩),?_⟩)) (λ_=>trivial) rfl (by decide +kernel))) (ae aj) (λ_ _=>rfl)))) rfl trivial (λ_=>by repeat' (first | exact trivial | refine⟨.inl rfl,?_⟩ | refine⟨.inr (.inl rfl),?_⟩ | refine⟨.inr (.inr ⟨_,rfl⟩),?_⟩)) (λ_=>trivial) rfl (by decide +kernel)))),λds Q h=>?_⟩
  obtain⟨G,rfl,hG,hr,q⟩:=h
  walk_at"l3"
  refine gb G (λr=>D.lst false (ak r)) (λr=>D.int (dO r:Nat)) (by rw[jv];rfl) (λa b h=>VA a b h) (λr cW=>?_) (.inr λr _=>rfl) (by rw[sL];omega) ?_
  ·obtain⟨h1,x,hx,h3⟩:=hr r cW
   walk_at"l3"
   refine Iq (aO r.length) (λ(i:Nat)=>D.tup [.int (i:Int),.int ((r.getD i 0:Nat):Int)]) (λ(i:Nat)=>D.int (i:Int)) (λi=>r.getD i 0 != 0) (cm7 r) (λa b h=>by injection h with h;simp at h;omega) (λi hi=>?_) (.inr λ_ _ _=>rfl) (by rw[cZ,sL];omega) ?_
   ·walk_at"l3"
    refine⟨?_,λ_=>trivial⟩
    by_cases h0:r.getD i 0=0
    ·rw[h0];rfl
    ·rw[decide_eq_false (by omega),bne_iff_ne.mpr h0];rfl
   ·refine⟨.int (dO r:Nat),L3.Uj (k:=0) ?_,rfl,rfl⟩
    rw[bX,ce1 ⟨x,hx,h3⟩];rfl
  ·rw[cI,da]at q
   exact q
noncomputable abbrev aW8:bh:=λds Q=>∃(G:List (List Nat)) (u:List Nat),ds=[.lst false (bD false G),.lst false (ak u)]/\G.length<=1000/\(∀r∈G,r.length<=1000)/\Q (.lst true (bD true (bO G u)))
theorem aW9(T:Txt K mg t):aN P w K mg base aS 1 t.Ln t.Lo ["table","due"] (bt (aW8 )):=by
 refine bC T.XH aV3 ?_ ?_
 ·intro ds Q h
  obtain⟨G,u,rfl,hG,hr,q⟩:=h<;>rfl
 ·intro aE A outer s H E hr
  refine⟨_,(aB (aR (fc [] ["row","x"] rfl (pU rfl T.qw (af (bv 0) (af (bv 1) ao))) (λ_ _ _ _=>(gI (i1:=0) (i2:=1) rfl (show(["row","x"]:List Str).Nodup by decide +kernel) rfl (ai (lookup_relabel_local rfl)) rfl (ai (lookup_relabel_local rfl)) (by decide) (by decide) (bx (lookup_relabel_local rfl)) (bx (lookup_relabel_local rfl)))) (λ_ _ _ _=>eQ) (λ_ _ _ _=>(ay cF (bv 0) (cT0 (af (bv 1) ao)))) rfl trivial (λ_=>by repeat' (first | exact trivial | refine⟨.inl rfl,?_⟩ | refine⟨.inr (.inl rfl),?_⟩ | refine⟨.inr (.inr ⟨_,rfl⟩),?_⟩)) (λ_=>trivial) rfl (by decide +kernel)))),λds Q h=>?_⟩
  obtain⟨G,u,rfl,hG,hr,q⟩:=h
  walk_at"l3"
  refine⟨_,_,rfl,rfl,?_⟩
  refine HS (G.zip u) (λz=>D.tup [.lst false (ak z.1),.int ((z.2:Nat):Int)]) (λz=>D.lst true (ak (z.1++[z.2]))) (co0 G u) (λa b h=>?_) (λz hz=>?_) HU (.inr λz _=>eU _) (by rw[BE,sL];omega) ?_
  ·injection h with h
   simp only[uG,D.lst.injEq,D.int.injEq,and_true,true_and]at h
   exact Fw (Vz h.1) (by omega)
  ·have hl:=hr _ (qG hz).1
   walk_at"l3"
   exact⟨by decide,by omega,nC z.1 [z.2]⟩
  ·unfold bO bD at q
   rw[uu]at q
   rw[BB,uu]
   exact q
noncomputable def oj:Option (List Nat)->D
 | some l=>.lst true (ak l)
 | none=>.aw
noncomputable abbrev aY5(t:kj)(P:Program)(w:World)(K:Frag)(mg:Str->Option Value)(base:Heap):bh:=λds Q=>∃(m:Bool × Nat) (G:List (List Nat)) (u:List Nat),ds=[fD t.aK t.aM m,.lst false (bD false G),.lst false (ak u)]/\m∈av/\0<G.length/\G.length<=900/\u.length=G.length/\RT (aa m) (br G) G/\AllLt (aa m) u/\br G<=800/\(∀r∈cY m (bO G u),∃x∈r,x≠0)/\Q (oj (qj m G u))
theorem aY6(T:Txt K mg t):aN P w K mg base aS 4 t.Lp t.Lq ["field","table","due"] (bt (aY5 t P w K mg base)):=by
 refine bC T.XI xQ ?_ ?_
 ·intro ds Q h
  obtain⟨m,G,u,rfl,hm,YB,hG,hu,hR,YC,hw,hn,q⟩:=h<;>rfl
 ·intro aE A outer s H E hr
  refine⟨_,(aA (aH (i:=3) xQ.nd rfl (ai rfl) (bj ((Yx T).mono (by decide)) hr rfl T.XA T.LS.kp T.XB aW (af (bv 1) ao)))
   (aA (aH (i:=4) xQ.nd rfl (ai rfl) (bj ((aY0 T).mono (by decide)) hr rfl T.eh0 T.XF.kp T.eh1 aW (af (bv 0) (af (ae (bj ((aW9 T).mono (by decide)) hr rfl T.eh4 T.XH.kp T.eh5 aW (af (bv 1) (af (bv 2) ao)))) ao))))
   (aA (aH (i:=5) xQ.nd rfl (ai rfl) (bj ((ck5 T).mono (by decide)) hr rfl T.eh2 T.XG.kp T.eh3 aW (af (bv 4) ao)))
   (G4 5 (G4 4 (aA (cm (bN Um (bv 3) (bv 5) (by with_unfolding_all rfl)) (aB (aR fF)) cH)
   (aA (aH (i:=6) xQ.nd rfl (ai rfl) (ay fZ (ae (eO (cR aj dA))) (bv 3)))
   (aA (fR eo rfl (pU rfl T.qw (af (bv 5) (af (bv 4) ao))) (gI (i1:=7) (i2:=8) rfl xQ.nd rfl (ai rfl) rfl (ai rfl))
    (aB (sQ (i:=6) rfl (by first | exact ai rfl | exact bx (ai rfl)) (dk (bq (bv 8) (bv 3) (λ_ _=>rfl))) (bv 7))))
   (aB (aR (em 6))))))))))),λds Q h=>?_⟩
  obtain⟨m,G,u,rfl,hm,YB,hG,hu,hR,YC,hw,hn,q⟩:=h
  have dh:=(bS hm).lo
  refine az λU hU=>?_
  walk_at"l3"
  refine⟨G,rfl,by omega,λr cW=>by rw[(hR r cW).1];omega,hU _ ?_⟩
  clear hU U
  refine az λU hU=>?_
  walk_at"l3"
  refine⟨G,u,rfl,by omega,λr cW=>by rw[(hR r cW).1];omega,?_⟩
  obtain⟨w1,w2,w3⟩:=Dw YB hu hR YC
  have w4:=w3
  rw[<-w1]at w4
  have I:=Af hm w4 (br (bO G u))
  have il:(cY m (bO G u)).length<=900:=by
   show(i8 m (bO G u) (br (bO G u))).1.length<=900
   have:=I.l
   omega
  have ia:RT (aa m) (br G+1) (cY m (bO G u)):=by rw[<-w1];exact I.a
  have D1:∀X:List (List Nat),(D.lst true (bD true X)).fr=true:=λX=>by rw[fY,VM];rfl
  refine⟨m,bO G u,by rw[fj,jv],hm,by omega,w4,by omega,by rw[D1,iE],hU _ ?_⟩
  clear hU U
  unfold qj at q
  generalize cY m (bO G u)=R at il ia hn q ⊢
  refine az λU hU=>?_
  walk_at"l3"
  refine⟨R,rfl,by omega,λr cW=>⟨by rw[(ia r cW).1];omega,hn r cW⟩,eU _,hU _ ?_⟩
  clear hU U
  refine⟨_,rfl,_,rfl,?_⟩
  rw[v3]
  simp only[kX,kW,fj,jv]
  refine az λU hU=>?_
  walk_at"l3"
  refine⟨_,rfl,?_⟩
  have mc:=VR (br G) (R.map dO)
  split
  ·rename_i h
   rw[decide_eq_true h]at mc
   rw[if_pos mc.symm]at q
   exact q
  rename_i h
  rw[decide_eq_false h]at mc
  rw[if_neg (by rw[<-mc];decide)]at q
  refine hU _ ?_
  clear hU U
  refine az λU hU=>?_
  walk_at"l3"
  have er:aC (aT (br G) 0)=ak (aT (br G) 0):=by
   rw[cI,oH];unfold aC;rw[oH];rfl
  rw[gB,er]
  refine⟨by decide,⟨by omega,by omega,by omega⟩,hU _ ?_⟩
  clear hU U
  refine az λU hU=>?_
  walk_at"l3"
  refine⟨_,_,rfl,rfl,?_⟩
  refine fG.mk (λk δ=>∃o3 o4,δ=[some (fD t.aK t.aM m),some (D.lst false (bD false G)),some (D.lst false (ak u)),some (D.int (br G)),some (D.lst false (bD false R)),some (D.lst false (ak (R.map dO))),some (D.lst true (ak ((((R.map dO).zip R).take k).foldl (λx z=>x.set z.1 (z.2.getD (br G) 0)) (aT (br G) 0)))),o3,o4]) ⟨_,_,rfl⟩ ?_ ?_
  ·rintro k d δ hd ⟨o3,o4,rfl⟩
   obtain⟨hk,rfl⟩:=cI5 hd
   clear hd
   obtain⟨lw,la⟩:=ia _ (dP hk)
   have xl:=VS (λz:Nat × List Nat=>z.1) (λz=>z.2.getD (br G) 0) (((R.map dO).zip R).take k) (aT (br G) 0)
   rw[hW]at xl
   have hld:dO R[k]<br G:=by
    obtain⟨x,hx,h0⟩:=hn _ (dP hk)
    have h1:dO R[k]<R[k].length:=dh7 ⟨x,hx,by simpa using h0⟩
    have h2:dO R[k]≠br G:=λz=>by
     have:(R.map dO).contains (br G)=true:=uA.mpr (bZ.mpr ⟨R[k],dP hk,z⟩)
     rw[<-mc]at this;cases this
    omega
   walk_at"l3"
   refine⟨.int (R[k].getD (br G) 0:Nat),by rw[nI (by omega) (by omega),gB],?_⟩
   refine⟨rfl,_,dO R[k],rfl,?_,_,_,?_,rfl,rfl⟩
   ·rw[z8 (by omega) (by rw[dF,xl];omega)];rfl
   ·rw[C7,mL,BG]
    have ez:((R.map dO).zip R)[k]?=some (dO R[k],R[k]):=by
     rw[BB,mQ,bX,aL hk];rfl
    rw[ez];rfl
  ·rintro δ ⟨o3,o4,rfl⟩
   refine hU _ ?_
   walk_at"l3"
   rw[show((R.map dO).zip R).take (dJ (ak (R.map dO)) (bD false R)).length=(R.map dO).zip R from yq (by unfold dJ;rw[BE,jY,dF,nK];exact bJ _)]
   exact q
noncomputable abbrev aX0(t:kj)(P:Program)(w:World)(K:Frag)(mg:Str->Option Value)(base:Heap):bh:=λds Q=>∃(m:Bool × Nat) (b:Nat) (ps us:List Nat),ds=[fD t.aK t.aM m,.int b,.lst false (ak ps),.lst false (ak us)]/\m∈av/\(∀p∈ps,p<=64)/\ps.length<=64/\us.length<=64/\(ps≠[]->0<us.length)/\b<=64/\AllLt (aa m) us/\Q (oj (iz m b ps us))
theorem aX1(T:Txt K mg t):aN P w K mg base aS 5 t.Lr t.Ls ["field","first","places","sums"] (bt (aX0 t P w K mg base)):=by
 refine bC T.XJ WO ?_ ?_
 ·intro ds Q h
  obtain⟨m,b,ps,us,rfl,hm,hp,bG,hul,bA,hb,hu,q⟩:=h<;>rfl
 ·intro aE A outer s H E hr
  refine⟨_,(aA (cm (bN (eG (cS hr)) (bv 2) (ae (eO dA)) (bE _)) (aB (aR (Ck (jP (ae (cu (Hi rfl) (by rfl) T.LX GG (af (ae (fc [] ["x"] rfl (nq (bv 3)) (λ_ _ _ _=>(dB (i:=0) (show(["x"]:List Str).Nodup by decide +kernel) rfl (ai (lookup_relabel_local rfl)) (by decide) (bx (lookup_relabel_local rfl)))) (λ_ _ _ _=>eQ) (λ_ _ _ _=>(rp (eG (cS hr)) (bv 0) (ae aj) (bE _))) rfl trivial (λ_=>by repeat' (first | exact trivial | refine⟨.inl rfl,?_⟩ | refine⟨.inr (.inl rfl),?_⟩ | refine⟨.inr (.inr ⟨_,rfl⟩),?_⟩)) (λ_=>trivial) rfl (by decide +kernel))) ao)))) (eO dA) fF))) cH)
   (aA (Dr (i:=4) WO.nd rfl (ai rfl) [("places",2),("field",0),("first",1)] ["i"] rfl (jj rfl T.gh (af (ae (cu (dq) (by rfl) T.dv di (af (bv 3) ao))) ao)) (λ_ _ _ _=>(dB (i:=3) (show(["places","field","first","i"]:List Str).Nodup by decide +kernel) rfl (bx rfl) (by decide) (ai rfl))) (λ_ _ _ _=>eQ) (by exact λ_ _ _ _=>(fc [("field",1),("first",2),("i",3)] ["place"] rfl (nq (bv 0)) (λ_ _ _ _=>(dB (i:=3) (show(["field","first","i","place"]:List Str).Nodup by decide +kernel) rfl (ai (lookup_relabel_local rfl)) (by decide) (bx (lookup_relabel_local rfl)))) (λ_ _ _ _=>eQ) (λ_ _ _ _=>(gZ (P:=P) (w:=w) (K:=K) (mg:=mg) (base:=base) (n:=1) (bv 0) (hr.mono (by decide)) (af (ae (ay fZ (ae (ay cF (bv 1) (bv 2))) (bv 3))) ao))) rfl ⟨rfl,⟨rfl,⟨rfl,trivial⟩⟩⟩ (λ_=>by repeat' (first | exact trivial | refine⟨.inl rfl,?_⟩ | refine⟨.inr (.inl rfl),?_⟩ | refine⟨.inr (.inr ⟨_,rfl⟩),?_⟩)) (λ_=>⟨⟨rfl,.inl rfl,.inl rfl,_,rfl,rfl⟩,⟨⟨rfl,.inl rfl,.inl rfl,_,rfl,rfl⟩,⟨⟨rfl,.inl rfl,.inl rfl,_,rfl,rfl⟩,trivial⟩⟩⟩) rfl (by decide +kernel))) rfl ⟨rfl,⟨rfl,⟨rfl,trivial⟩⟩⟩ (λ_=>by repeat' (first | exact trivial | refine⟨.inl rfl,?_⟩ | refine⟨.inr (.inl rfl),?_⟩ | refine⟨.inr (.inr ⟨_,rfl⟩),?_⟩)) (λ_=>⟨⟨rfl,.inl rfl,.inl rfl,_,rfl,rfl⟩,⟨⟨rfl,.inl rfl,.inl rfl,_,rfl,rfl⟩,⟨⟨rfl,.inl rfl,.inl rfl,_,rfl,rfl⟩,trivial⟩⟩⟩) rfl (by decide +kernel))
   (aB (aR (bj ((aY6 T).mono (by decide)) hr rfl T.eh6 T.XI.kp T.eh7 aW (af (bv 0) (af (bv 4) (af (bv 3) ao)))))))),λds Q h=>?_⟩
  obtain⟨m,b,ps,us,rfl,hm,hp,bG,hul,bA,hb,hu,q⟩:=h
  have m0:=bB m hm
  have dh:=(bS hm).lo
  refine az λU hU=>?_
  walk_at"l3"
  refine⟨by decide,rfl,?_⟩
  by_cases p0:ps=[]
  ·subst p0
   rw[if_pos (show bH (D.lst false (ak [])) (D.lst true [])=true from rfl)]
   refine gb us (λ(i:Nat)=>D.int (i:Int)) (λ(x:Nat)=>D.bl (x==0)) (zP _) i3 (λx hx=>?_) (.inr λ_ _=>rfl) (by rw[sL];omega) ?_
   ·walk_at"l3"
    congr 1
    exact propext (by omega)
   dsimp only
   refine⟨us.map (·==0),by unfold sF;rw[da];rfl,?_⟩
   unfold iz at q
   rw[if_pos rfl]at q
   rw[kU]
   split
   ·rename_i h
    rw[if_pos (by simpa using h)]at q
    exact⟨by decide,q⟩
   ·rename_i h
    rw[if_neg (by simpa using h)]at q
    exact q
  ·have d0:bH (D.lst false (ak ps)) (D.lst true [])=false:=by
    rw[show([]:List D)=ak [] from rfl,vZ]
    exact decide_eq_false p0
   rw[d0,if_neg (by decide)]
   refine hU _ ?_
   clear hU U
   refine az λU hU=>?_
   walk_at"l3"
   refine⟨⟨by omega,by omega⟩,gb (aO us.length) (λ(i:Nat)=>D.int (i:Int)) (λ(i:Nat)=>D.lst true (ak (ps.map λ(p:Nat)=>eS m (((b:Int)+(i:Int))*(p:Int))))) (tH _ rfl) i3 (λi hi=>?_) (.inr λ_ _=>eU _) (by rw[cZ,sL];omega) ?_⟩
   ·have hi:=de.mp hi
    walk_at"l3"
    refine gb ps (λ(i:Nat)=>D.int (i:Int)) (λ(p:Nat)=>D.int ((eS m (((b:Int)+(i:Int))*(p:Int)):Nat):Int)) (zP _) i3 (λp u4=>?_) (.inr λ_ _=>rfl) (by rw[sL];omega) ?_
    ·have:=hp p u4
     walk_at"l3"
     obtain⟨C,ns,xs,sp,e1,e2,e3,e4⟩:=DU (P:=P) (w:=w) (base:=base) T hm (n:=((b:Int)+(i:Int))*(p:Int)) (Q:=λr=>r=D.int ((eS m (((b:Int)+(i:Int))*(p:Int)):Nat):Int)) rfl
     exact⟨C,ns,xs,sp,e1,e2,e3,ig.ok (.inl ⟨by omega,by omega⟩),e4⟩
    ·rw[cI,da];rfl
   have et:((aO us.length).map λ(i:Nat)=>D.lst true (ak (ps.map λ(p:Nat)=>eS m (((b:Int)+(i:Int))*(p:Int)))))=bD true (g9 m b ps us.length):=by
    unfold g9 bD
    rw[da];rfl
   rw[et]
   simp only[kX,kW]
   refine hU _ ?_
   clear hU U et
   obtain⟨r1,r2⟩:=IV hm b ps us.length
   have u0:=bA p0
   have g0:g9 m b ps us.length≠[]:=λz=>by rw[z]at r2;simp at r2;omega
   have eW:br (g9 m b ps us.length)=ps.length:=IK r1 g0
   rw[<-eW]at r1
   have rr:∀r∈cY m (bO (g9 m b ps us.length) us),∃x∈r,x≠0:=by
    obtain⟨w1,w2,w3⟩:=Dw (by omega) r2.symm r1 hu
    rw[<-w1]at w3
    obtain⟨⟨Hd,I⟩,iR,_,_⟩:=IH hm w3
    intro r cW
    obtain⟨i,hi,rfl⟩:=gP cW
    have:=(I.Dv hm iR hi).2
    rwa [aI,aL hi]at this
   unfold iz at q
   rw[if_neg p0]at q
   walk_at"l3"
   exact⟨m,_,us,rfl,hm,by omega,by omega,r2.symm,r1,hu,by omega,rr,(by cases qj m (g9 m b ps us.length) us with | none=>rfl | some l=>exact eU l),q⟩
theorem YD(m:Bool × Nat)(p x:Nat):∀{ps xs l:List Nat},xs.length=ps.length->du m l (ps++[p]) (xs++[x])=(du m l ps xs).set p (aZ m (cf (du m l ps xs) p) x)
 | [],[],l,_=>by simp only[mF,du]
 | _::ps,_::xs,l,h=>by
  simp only[qO,du]
  exact YD m p x (by simpa using h)
theorem YE{m:Bool × Nat}(hm:m∈av):∀{ps xs l:List Nat},AllLt (aa m) l->AllLt (aa m) xs->AllLt (aa m) (du m l ps xs)/\(du m l ps xs).length=l.length
 | [],_,l,h,_=>by unfold du;exact⟨h,rfl⟩
 | _::_,[],l,h,_=>by unfold du;exact⟨h,rfl⟩
 | p::ps,x::xs,l,hl,hx=>by
  rw[du]
  have:=YE hm (ps:=ps) (xs:=xs) (l:=l.set p (aZ m (cf l p) x)) (λa ha=>by
   rcases yy ha with h1 | rfl
   ·exact hl a h1
   ·exact(eV hm (bU hm hl p) (hx x hV)).2.1) λa ha=>hx a (eI _ ha)
  rw[mE]at this
  exact this
noncomputable abbrev aV0(cb cp:Addr):bh:=λds Q=>∃(m:Bool × Nat) (l ps xs:List Nat),ds=[fD cb cp m,.lst false (ak l),.lst false (ak ps),.lst false (ak xs)]/\m∈av/\AllLt (aa m) l/\AllLt (aa m) xs/\xs.length=ps.length/\(∀p∈ps,p<l.length)/\l.length<=1000/\ps.length<=1000/\Q (.lst true (ak (du m l ps xs)))
theorem aV1(T:Txt K mg t):aN P w K mg base aS 2 t.Lu t.Lv ["field","word","places","signs"] (bt (aV0 t.aK t.aM)):=by
 refine bC T.XM Jo ?_ ?_
 ·intro ds Q h
  obtain⟨m,l,ps,xs,rfl,hm,hl,hx,Cq,hp,Ba,L0,q⟩:=h<;>rfl
 ·intro aE A outer s H E hr
  refine⟨_,(aA (aH (i:=4) Jo.nd rfl (ai rfl) (zK (zL) (by rfl) T.t7 rf (af (bv 1) ao)))
   (aA (fR eo rfl (pU rfl T.qw (af (bv 2) (af (bv 3) ao))) (gI (i1:=5) (i2:=6) rfl Jo.nd rfl (ai rfl) rfl (ai rfl))
    (aB (sQ (i:=4) rfl (by first | exact ai rfl | exact bx (ai rfl)) (gZ (P:=P) (w:=w) (K:=K) (mg:=mg) (base:=base) (n:=1) (bv 0) (hr.mono (by decide)) (af (bq (bv 4) (bv 5) (λ_ _=>rfl)) (af (bv 6) ao))) (bv 5))))
   (aB (aR (em 4))))),λds Q h=>?_⟩
  obtain⟨m,l,ps,xs,rfl,hm,hl,hx,Cq,hp,Ba,L0,q⟩:=h
  refine az λU hU=>?_
  walk_at"l3"
  refine hU _ ?_
  clear hU U
  refine az λU hU=>?_
  walk_at"l3"
  refine⟨_,_,rfl,rfl,?_⟩
  refine fG.mk (λj δ=>∃o3 o4,δ=[some (fD t.aK t.aM m),some (D.lst false (ak l)),some (D.lst false (ak ps)),some (D.lst false (ak xs)),some (D.lst true (ak (du m l (ps.take j) (xs.take j)))),o3,o4]) ⟨_,_,rfl⟩ ?_ ?_
  ·rintro j d δ hd ⟨o3,o4,rfl⟩
   obtain⟨h1,h2,rfl⟩:=cA4 hd
   clear hd
   walk_at"l3"
   obtain⟨C,ns,zs,sp,e1,e2,e3,e4⟩:=Mb (P:=P) (w:=w) (base:=base) T (bB m hm)
   obtain⟨b1,b2⟩:=YE hm (ps:=ps.take j) (xs:=xs.take j) hl λa ha=>hx a (yt ha)
   have YF:=hp _ (dP h1)
   rw[<-b2]at YF
   refine⟨C,ns,zs,sp,e1,e2,e3,.int ((du m l (ps.take j) (xs.take j)).getD ps[j] 0:Nat),by rw[nI (by omega) (by omega),gB],?_⟩
   refine e4 _ _ _ ⟨rfl,_,_,rfl,z8 (by omega) (by rw[dF,gB];exact YF),_,_,?_,rfl,rfl⟩
   rw[(eV hm (b1.getD (by have:=(bS hm).lo;omega) _) (hx _ (dP h2))).1,gB,C7,mL,mL,aL h1,aL h2]
   exact congrArg ak (YD m _ _ (by rw[jA,jA];omega)).symm
  ·rintro δ ⟨o3,o4,rfl⟩
   rw[cl7,yq (by omega),yq (by omega)]
   refine hU _ ?_
   walk_at"l3"
   exact q
noncomputable abbrev aO1(t:kj)(P:Program)(w:World)(K:Frag)(mg:Str->Option Value)(base:Heap):bh:=λds Q=>∃(m:Bool × Nat) (b e:Nat) (y:List (Option Nat)),ds=[fD t.aK t.aM m,.int b,.int e,.lst false (bM y)]/\m∈av/\(∀a,some a∈y->a<aa m)/\y.length+1<=aa m/\e<=63/\b<=64/\∀r:Option (List Nat),(∀w,r=some w↔Nr m b e y w)->Q (oj r)
theorem YG(T:Txt K mg t):aN P w K mg base aS 6 t.Lw t.Lx ["field","first","extra","word"] (bt (aO1 t P w K mg base)):=by
 refine bC T.LV tT ?_ ?_
 ·intro ds Q h
  obtain⟨m,b,e,y,rfl,hm,hy,hn,he,hb,q⟩:=h<;>rfl
 ·intro aE A outer s H E hr
  refine⟨_,(aA (aH (i:=4) tT.nd rfl (ai rfl) (bj ((aP6 T).mono (by decide)) hr rfl T.ec5 T.Xk.kp T.ec6 aW (af (bv 3) ao)))
   (aA (cm (bN zH (ae (cu (dq) (by rfl) T.dv di (af (bv 4) ao))) (bv 2) (bE _)) (aB (aR fF)) cH)
   (aA (aH (i:=5) tT.nd rfl (ai rfl) (bj ((aF1 T).mono (by decide)) hr rfl T.ec7 T.Xl.kp T.ec8 aW (af (bv 3) ao)))
   (aA (aH (i:=6) tT.nd rfl (ai rfl) (bj ((aU7 T).mono (by decide)) hr rfl T.ed7 T.Xo.kp T.ed8 aW (af (bv 0) (af (bv 1) (af (bv 2) (af (bv 5) ao))))))
   (aA (aH (i:=7) tT.nd rfl (ai rfl) (bj ((aN9 T).mono (by decide)) hr rfl T.eg2 T.Xz.kp T.eg3 aW (af (bv 0) (af (bv 4) (af (bv 6) (af (ae (cu (dq) (by rfl) T.dv di (af (bv 3) ao))) ao))))))
   (aA (cm (bN nt (bv 7) (ae fF) (bE _)) (aB (aR fF)) cH)
   (aA (aH (i:=8) tT.nd rfl (ai rfl) (ay cF (bv 4) (bv 7)))
   (aA (aH (i:=9) tT.nd rfl (ai rfl) (bj ((aX1 T).mono (by decide)) hr rfl T.eh8 T.XJ.kp T.eh9 aW (af (bv 0) (af (bv 1) (af (bv 8) (af (bv 6) ao))))))
   (aB (aR (Ck (bN nt (bv 9) (ae fF) (bE _)) fF (bj ((aV1 T).mono (by decide)) hr rfl T.ei0 T.XM.kp T.ei1 aW (af (bv 0) (af (bv 5) (af (bv 8) (af (bv 9) ao)))))))))))))))),λds Q h=>?_⟩
  obtain⟨m,b,e,y,rfl,hm,hy,hn,he,hb,q⟩:=h
  have Bb:=(bS hm).hi
  have YH:=nW y
  have ll:(aV y).length<=y.length:=eH (di6 ..) (by rw[cZ];exact bJ _)
  have kl:=wt hm hy
  have kn:=ql y
  have YI:∀l:List Nat,((bM y).all D.pl||(D.lst true (ak l)).fr)=true:=λl=>by rw[eU,iE]
  refine az λU hU=>?_
  walk_at"l3"
  refine⟨y,by rw[tP],by omega,YI _,hU _ ?_⟩
  clear hU U
  refine az λU hU=>?_
  walk_at"l3"
  by_cases h1:e<(L3.aV y).length
  ·rw[if_pos (by omega)]
   exact q none λw=>⟨λz=>(by cases z),λz=>by have:=z.qk;omega⟩
  rw[if_neg (by omega)]
  refine hU _ ?_
  clear hU U
  refine az λU hU=>?_
  walk_at"l3"
  refine⟨y,by rw[tP],by omega,YI _,hU _ ?_⟩
  clear hU U
  refine az λU hU=>?_
  walk_at"l3"
  refine⟨m,bW y,b,e,rfl,hm,kl,by omega,eU _,hU _ ?_⟩
  clear hU U
  rw[show((aO e).map λ(i:Nat)=>aJ m (eS m ((b:Int)+(i:Int))) (bW y))=fu m b e (bW y) from rfl]
  have rl:(fu m b e (bW y)).length=e:=Aj ..
  have ra:=Je hm (b:=b) (e:=e) kl
  refine az λU hU=>?_
  walk_at"l3"
  have xY:∀o:Option (List Nat),(D0 o).fr=true:=λo=>by
   cases o with
   | none=>rfl
   | some l=>exact eU l
  refine⟨m,L3.aV y,fu m b e (bW y),y.length,by rw[DB],hm,ra,by omega,by omega,by omega,λp hp=>by have:=YH.2 p hp;omega,λL c bb o I lc hc=>⟨xY _,hU _ ?_⟩⟩
  clear hU U
  rw[rl]at I ⊢
  have q:=q (Dz m b e y L c) λw=>cL7 hm hy hn (by rw[Jf];exact I) lc hc
  unfold Dz at q
  rw[if_neg h1]at q
  have D2:∀fd,nX m (L3.aV y) (e-(L3.aV y).length) y.length L c=some fd->∀p∈fd,p<y.length:=λfd hf p hp=>by
   unfold nX at hf
   split at hf
   ·cases hf
   ·split at hf
    ·cases hf
    ·cases hf
     exact(wq.mp hp).1
  have D3:∀fd,nX m (L3.aV y) (e-(L3.aV y).length) y.length L c=some fd->(L3.aV y).length+fd.length<=e:=λfd hf=>by
   unfold nX at hf
   split at hf
   ·cases hf
   ·split at hf
    ·cases hf
    ·rename_i h2 h3
     cases hf
     have:(fJ m c y.length).length=L:=di4 λz=>h3 (.inl z)
     omega
  generalize nX m (L3.aV y) (e-(L3.aV y).length) y.length L c=wo at q D2 D3 ⊢
  refine az λU hU=>?_
  walk_at"l3"
  cases wo with
  | none=>exact q
  | some fd =>
   have D2:=D2 fd rfl
   have D3:=D3 fd rfl
   change Q (oj ((iz m b (L3.aV y++fd) (fu m b e (bW y))).map (du m (bW y) (L3.aV y++fd))))at q
   rw[if_neg (by exact fN),show D0 (some fd)=D.lst true (ak fd) from rfl]
   refine hU _ ?_
   clear hU U
   refine az λU hU=>?_
   walk_at"l3"
   refine⟨by show _<=16777216;omega,hU _ ?_⟩
   clear hU U
   have pl:(L3.aV y++fd).length<=e:=by rw[fB];exact D3
   have pp:∀p∈L3.aV y++fd,p<y.length:=λp hp=>by
    rcases cw.mp hp with h | h
    ·exact YH.2 p h
    ·exact D2 p h
   have p0:L3.aV y++fd≠[]->0<(fu m b e (bW y)).length:=λz=>by
    have:=Ft.mpr z
    omega
   generalize L3.aV y++fd=ps at q pl pp p0 ⊢
   refine az λU hU=>?_
   walk_at"l3"
   have xY:(oj (iz m b ps (fu m b e (bW y)))).fr=true:=by cases iz m b ps (fu m b e (bW y))with | none=>rfl | some l=>exact eU l
   refine⟨m,b,ps,fu m b e (bW y),rfl,hm,λp hp=>by have:=pp p hp;omega,by omega,by omega,p0,hb,ra,xY,hU _ ?_⟩
   clear hU U
   cases sg:iz m b ps (fu m b e (bW y))with
   | none =>
    rw[sg]at q
    walk_at"l3"
    exact q
   | some X =>
    rw[sg]at q
    obtain⟨x1,x2,x3⟩:=IW hm p0 ra sg
    rw[show oj (some X)=D.lst true (ak X) from rfl]
    walk_at"l3"
    exact⟨m,bW y,ps,X,rfl,hm,kl,x2,x1,λp hp=>by have:=pp p hp;omega,by omega,by omega,eU _,q⟩
noncomputable abbrev aR9:bh:=λds Q=>∃i:Int,ds=[.int i]/\Q (.bl true)
theorem aS0(T:Txt K mg t):aN P w K mg base aS 1 t.Ly t.Lz ["_law_x"] (bt (aR9 )):=by
 refine bC T.XQ aQ1 ?_ ?_
 ·intro ds Q h
  obtain⟨i,rfl,q⟩:=h<;>rfl
 ·intro aE A outer s H E hr
  refine⟨_,(aB (aR (zC (ae (Hl (by rfl) T.LY (by rfl) T.ej1 cO4 (bv 0))) (yV (cY5 (ae (Hl (by rfl) T.LY (by rfl) T.ej0 cE3 (bv 0)))))))),λds Q h=>?_⟩
  obtain⟨i,rfl,q⟩:=h
  walk_at"l3"
  exact q
noncomputable abbrev aS1:bh:=λds Q=>∃(l:List Nat) (n:Nat),ds=[.lst false (ak l),.int n]/\(∀a∈l,a<n)/\l.length<=1000/\Q (.bl true)
theorem YJ(T:Txt K mg t):aN P w K mg base aS 2 t.LA t.LB ["_law_found","_law_many_here"] (bt (aS1 )):=by
 refine bC T.LW aQ2 ?_ ?_
 ·intro ds Q h
  obtain⟨l,n,rfl,ha,hl,q⟩:=h<;>rfl
 ·intro aE A outer s H E hr
  refine⟨_,(aA (cm (zB (jP (ae (Hl (by rfl) T.LY (by rfl) T.t7 rf (bv 0))))) (aB (aR oU)) cH)
   (aB (aR (cu (Hi rfl) (by rfl) T.LX GG (af (ae (fc [("_law_many_here",1)] ["_law_x"] rfl (nq (bv 0)) (λ_ _ _ _=>(dB (i:=1) (show(["_law_many_here","_law_x"]:List Str).Nodup by decide +kernel) rfl (ai (lookup_relabel_local rfl)) (by decide) (bx (lookup_relabel_local rfl)))) (λ_ _ _ _=>eQ) (λ_ _ _ _=>(zC (ae (bj ((aS0 T).mono (by decide)) hr rfl T.aT2 T.XQ.kp T.aT3 aW (af (bv 1) ao))) (yV (Hf u6 zG (ae aj) (bv 1) (bv 0))))) rfl ⟨rfl,trivial⟩ (λ_=>by repeat' (first | exact trivial | refine⟨.inl rfl,?_⟩ | refine⟨.inr (.inl rfl),?_⟩ | refine⟨.inr (.inr ⟨_,rfl⟩),?_⟩)) (λ_=>⟨⟨rfl,.inl rfl,.inl rfl,_,rfl,rfl⟩,trivial⟩) rfl (by decide +kernel))) ao))))),λds Q h=>?_⟩
  obtain⟨l,n,rfl,ha,hl,q⟩:=h
  refine az λU hU=>?_
  walk_at"l3"
  refine hU _ ?_
  clear hU U
  walk_at"l3"
  refine gb l (λ(i:Nat)=>D.int (i:Int)) (λ_=>D.bl true) (zP l) i3 (λi hi=>?_) (.inr λ_ _=>rfl) (by rw[sL];omega) ?_
  ·walk_at"l3"
   have:=ha i hi
   refine⟨i,rfl,true,rfl,?_⟩
   rw[if_pos rfl,if_pos (by omega)]
   omega
  ·refine⟨l.map λ_=>true,by unfold sF;rw[da];rfl,?_⟩
   have e:(l.map λ_=>true).all id=true:=by simp
   rw[e];exact q
theorem D4(n:Nat)(o:Bool)(y:List (Option Nat)):dE (n+1) (.lst o (bM y))=true:=by
 show(bM y).all (dE n)=true
 refine cU.mpr λd hd=>?_
 obtain⟨a,_,rfl⟩:=bZ.mp hd
 cases a with
 | none=>exact sS n
 | some a=>exact pO n _
theorem YK:∀y:List (Option Nat),bH.fm (bM y) (bM y)=true
 | []=>rfl
 | a::y=>by
  show(bH (gL a) (gL a)&&bH.fm (bM y) (bM y))=true
  rw[YK y,jE]
  cases a with
  | none=>rfl
  | some a=>exact beq_self_eq_true _
theorem YL(o o':Bool)(y:List (Option Nat)):bH (.lst o (bM y)) (.lst o' (bM y))=true:=YK y
theorem cQ4(T:Txt K mg t)(hB:Bm mg base):aN P w K mg base aS 11 t.LC t.LD ["_law_script"] (zR [t.kN,t.kO] (bt (T5 ))):=by
 refine UP T.ei4 gM ?_ ?_
 ·intro ds Q h
  obtain⟨ns,rfl,hl,q⟩:=h<;>rfl
 ·intro aE A outer s H E hT hr
  refine⟨_,(aA (aH (i:=1) gM.nd rfl (ai rfl) (bj ((aT5 T).mono (by decide)) hr rfl T.aV4 T.WS.kp T.aV5 aW (af (ae (bj ((jc T).mono (by decide)) hr rfl T.ja T.iA.kp T.jb aW (af (bv 0) (af (ae aj) ao)))) ao)))
   (aA (aH (i:=2) gM.nd rfl (ai rfl) (cD5 hT ((aR1 T hB).mono (by decide)) hr rfl T.aS9 T.W6.kp T.aT0 aW (af (bv 1) ao)))
   (aA (aH (i:=3) gM.nd rfl (ai rfl) (bj ((aT9 T).mono (by decide)) hr rfl T.aV6 T.W7.kp T.aV7 aW (af (bv 1) ao)))
   (aA (aH (i:=4) gM.nd rfl (ai rfl) (bj ((aP1 T).mono (by decide)) hr rfl T.aQ3 T.W8.kp T.aQ4 aW (af (bv 1) (af (bv 3) ao))))
   (aA (aH (i:=5) gM.nd rfl (ai rfl) (ay cM (ae (bj ((jc T).mono (by decide)) hr rfl T.ja T.iA.kp T.jb aW (af (bv 0) (af (ae aj) ao)))) (ae aj)))
   (aA (aH (i:=6) gM.nd rfl (ai rfl) (ay cM (ae (ay kC (ae (bj ((jc T).mono (by decide)) hr rfl T.ja T.iA.kp T.jb aW (af (bv 0) (af (ae aj) ao)))) (ae aj))) (ae (ay cX (bv 3) (ae aj)))))
   (aA (aH (i:=7) gM.nd rfl (ai rfl) (bj ((aN2 T).mono (by decide)) hr rfl T.aO3 T.W9.kp T.aO4 aW (af (bv 0) (af (bv 3) (af (ae (rp (eG (cS hr)) (bv 5) (ae aj) (bE _))) ao)))))
   (aA (aH (i:=8) gM.nd rfl (ai rfl) (bj ((aU5 T).mono (by decide)) hr rfl T.aW0 T.Xg.kp T.aW1 aW (af (bv 0) (af (bv 1) (af (bv 3) (af (bv 4) (af (bv 7) ao)))))))
   (aA (aH (i:=9) gM.nd rfl (ai rfl) (bj ((aP3 T).mono (by decide)) hr rfl T.aQ5 T.Xh.kp T.aQ6 aW (af (bv 0) (af (bv 1) (af (bv 3) (af (bv 8) (af (bq (bv 7) (ae aj) (λ_ _=>rfl)) ao)))))))
   (aA (aH (i:=10) gM.nd rfl (ai rfl) (bj ((Yc T).mono (by decide)) hr rfl T.Xi T.LM.kp T.Xj aW (af (bv 1) (af (bv 3) (af (bv 4) (af (bv 9) (af (bv 5) (af (bv 6) ao))))))))
   (aA (aH (i:=11) gM.nd rfl (ai rfl) (dk (bq (bv 7) (ae aj) (λ_ _=>rfl))))
   (aA (cm (bN (eG (cS hr)) (bv 5) (ae aj) (bE _)) (aB (aH (i:=11) gM.nd rfl (ai rfl) (ay cM (ae (ay cF (ae (ay cX (ae (ay cX (ae aj) (bv 11))) (bq (bv 7) (ae aj) (λ_ _=>rfl)))) (ae aj))) (ae (ay cX (bv 3) (ae aj)))))) cH)
   (aA (cm (bN (eG (cS hr)) (bv 5) (ae aj) (bE _)) (aB (aH (i:=11) gM.nd rfl (ai rfl) (ay cM (ae (ay cX (bv 11) (bv 6))) (ae (ay cX (bv 3) (ae aj)))))) cH)
   (aA (aH (i:=12) gM.nd rfl (ai rfl) (uY (cR (zK (zL) (by rfl) T.t7 rf (af (bv 9) ao)) (cR (zK (zL) (by rfl) T.t7 rf (af (bv 10) ao)) dA))))
   (aA (aH (i:=13) gM.nd rfl (ai rfl) (bj ((YG T).mono (by decide)) hr rfl T.XN T.LV.kp T.XO aW (af (bv 2) (af (bq (bv 7) (ae aj) (λ_ _=>rfl)) (af (bq (bv 7) (ae aj) (λ_ _=>rfl)) (af (bq (bv 12) (ae aj) (λ_ _=>rfl)) ao))))))
   (aA (aH (i:=14) gM.nd rfl (ai rfl) (bj ((YG T).mono (by decide)) hr rfl T.XN T.LV.kp T.XO aW (af (bv 2) (af (bv 11) (af (bq (bv 7) (ae aj) (λ_ _=>rfl)) (af (bq (bv 12) (ae aj) (λ_ _=>rfl)) ao))))))
   (aA (cm (PW.pt (Cj (bN (nu (cS hr)) (bq (bv 12) (ae aj) (λ_ _=>rfl)) (bv 9) (bE _)) (BU (bN (nu (cS hr)) (bq (bv 12) (ae aj) (λ_ _=>rfl)) (bv 10) (bE _))))) (aB (aR oU)) cH)
   (aA (cm (PW.pt (Cj (bN nt (bv 13) (ae fF) (bE _)) (BU (bN nt (bv 14) (ae fF) (bE _))))) (aB (aR (zC (ae (rp nt (bv 13) (ae fF) (bE _))) (yV (rp nt (bv 14) (ae fF) (bE _)))))) cH)
   (aA (cm (PW.pt (Cj (zB (jP (ae (bj ((YJ T).mono (by decide)) hr rfl T.XR T.LW.kp T.XS aW (af (bv 13) (af (bv 3) ao)))))) (BU (zB (jP (ae (bj ((YJ T).mono (by decide)) hr rfl T.XR T.LW.kp T.XS aW (af (bv 14) (af (bv 3) ao))))))))) (aB (aR oU)) cH)
   (aB (aR (rp (eG (cS hr)) (bv 14) (ae (bj ((Yc T).mono (by decide)) hr rfl T.Xi T.LM.kp T.Xj aW (af (bv 1) (af (bv 3) (af (bv 4) (af (bv 13) (af (bv 5) (af (bv 6) ao)))))))) (bE _))))))))))))))))))))))),λds Q h=>?_⟩
  obtain⟨ns,rfl,hl,q⟩:=h
  have modn:∀(z:Int) (k:Nat),0<k->∃r:Nat,z%(k:Int)=r/\r<k:=λz k hk=>by
   have n0:=fU z (show(k:Int)≠0 by omega)
   have n1:=iD z (show(0:Int)<(k:Int) by omega)
   exact⟨(z%(k:Int)).toNat,by omega,by omega⟩
  refine az λU hU=>?_
  walk_at"l3"
  refine⟨ns,0,rfl,by decide,_,rfl,λm hm hm3=>⟨by rfl,hU _ ?_⟩⟩
  clear hU U
  have hF:=bS hm
  have dh:=hF.lo
  have Bb:=hF.hi
  have hbl:=cG9 m hm
  have m0:=bB m hm
  refine az λU hU=>?_
  walk_at"l3"
  refine⟨m,rfl,hm,hU _ ?_⟩
  clear hU U
  refine az λU hU=>?_
  walk_at"l3"
  refine⟨m,rfl,by omega,by omega,hU _ ?_⟩
  clear hU U
  refine az λU hU=>?_
  walk_at"l3"
  refine⟨m,rfl,hm,hU _ ?_⟩
  clear hU U
  refine az λU hU=>?_
  walk_at"l3"
  refine⟨ns,5,rfl,by decide,by decide,?_⟩
  obtain⟨g,eg,hg⟩:=modn (ns.getD (mP 5) 0) 3 (by decide)
  rw[show((3:Nat):Int)=3 from rfl]at eg
  rw[eg]
  refine hU _ ?_
  clear hU U
  refine az λU hU=>?_
  walk_at"l3"
  refine⟨ns,5,rfl,by decide,kB (by decide) (by decide),by omega,?_⟩
  obtain⟨s,es,hs⟩:=modn (ns.getD (mP 5) 0/3) (aa m-1) (by omega)
  rw[show((aa m-1:Nat):Int)=(aa m:Int)-1 by omega]at es
  rw[es]
  refine hU _ ?_
  clear hU U
  refine az λU hU=>?_
  walk_at"l3"
  refine⟨ns,aa m,decide ((g:Int)=0),rfl,hm3,by omega,λn e f k n2 nM e1 en e39 fM xZ wh=>?_⟩
  refine hU _ ?_
  clear hU U
  refine az λU hU=>?_
  walk_at"l3"
  refine⟨ns,m,n,e,f,k,rfl,hm,nM,en,fM,xZ,λc lc hc cz=>⟨eU _,hU _ ?_⟩⟩
  clear hU U
  refine az λU hU=>?_
  walk_at"l3"
  refine⟨_,rfl,ns,m,c,k,rfl,hm,by omega,by omega,hc,xZ,λy ly hy=>?_⟩
  have YM:∀z:List (Option Nat),(D.lst true (bM z)).fr=true:=λz=>by
   rw[fY,mJ]
   refine cU.mpr λd hd=>?_
   obtain⟨a,_,rfl⟩:=bZ.mp hd
   cases a<;>rfl
  refine⟨YM _,hU _ ?_⟩
  clear hU U
  refine az λU hU=>?_
  walk_at"l3"
  refine⟨m,y,g,s,by rw[tP],hm,by omega,by omega,hy,by rw[YM],hU _ ?_⟩
  clear hU U
  obtain⟨ty,tl⟩:=cY4 hm g s hy
  refine az λU hU=>?_
  walk_at"l3"
  refine⟨_,rfl,rfl,hU _ ?_⟩
  clear hU U
  refine az λU hU=>?_
  walk_at"l3"
  have dm:∀z:Int,∃r:Nat,z%((aa m:Int)-1)=r/\r<aa m/\((aa m:Int)-1) ∣ (r:Int)-z:=λz=>by
   obtain⟨r,h1,h2⟩:=modn z (aa m-1) (by omega)
   rw[show((aa m-1:Nat):Int)=(aa m:Int)-1 by omega]at h1
   refine⟨r,h1,by omega,?_⟩
   rw[<-h1]
   have:=di5 z ((aa m:Int)-1)
   exact⟨-(z/((aa m:Int)-1)),by rw[Int.mul_neg];omega⟩
  have st:∀b1:Nat,b1<aa m->(g≠1->b1=f)->(g=1->((aa m:Int)-1) ∣ (b1:Int)+(f:Int)+(e:Int)-1)->U [some (D.fz (aC ns)),some (dr m),some (fD t.aK t.aM m),some (D.int (aa m)),some (D.lst true (aC (fl m))),some (D.int g),some (D.int s),some (D.tup [D.int n,D.int e,D.int f,D.int k]),some (D.lst true (ak c)),some (D.lst true (bM y)),some (D.lst true (bM (jy m g s y))),some (D.int b1),none,none,none]:=by
   intro b1 nY h1 h2
   refine hU _ ?_
   clear hU U
   refine az λU hU=>?_
   walk_at"l3"
   have jK:∀b2:Nat,b2<aa m->(g=0->b2=f)->(g=1->((aa m:Int)-1) ∣ (b2:Int)+(f:Int)+(e:Int)-1)->(g≠0->g≠1->((aa m:Int)-1) ∣ (b2:Int)+(s:Int)-(f:Int))->U [some (D.fz (aC ns)),some (dr m),some (fD t.aK t.aM m),some (D.int (aa m)),some (D.lst true (aC (fl m))),some (D.int g),some (D.int s),some (D.tup [D.int n,D.int e,D.int f,D.int k]),some (D.lst true (ak c)),some (D.lst true (bM y)),some (D.lst true (bM (jy m g s y))),some (D.int b2),none,none,none]:=by
    intro b2 Jj h3 h4 h5
    refine hU _ ?_
    clear hU U
    obtain⟨Mi,tn2⟩:=cY8 hm hy (λz=>by have:=wh (decide_eq_true (by omega));omega) h3 h4 h5
    refine az λU hU=>?_
    walk_at"l3"
    refine⟨DA _,DA _,by decide,hU _ ?_⟩
    clear hU U
    refine az λU hU=>?_
    walk_at"l3"
    have xY:∀o:Option (List Nat),(oj o).fr=true:=λo=>by
     cases o with
     | none=>rfl
     | some l=>exact eU l
    refine⟨_,rfl,_,rfl,_,rfl,m,f,e,y,by rw[jU,jU,fj,tP],hm,hy,by omega,by omega,by omega,λr1 tL=>⟨by rw[xY,iE],hU _ ?_⟩⟩
    clear hU U
    refine az λU hU=>?_
    walk_at"l3"
    refine⟨_,rfl,_,rfl,m,b2,e,jy m g s y,by rw[jU,fj,tP],hm,ty,by omega,by omega,by omega,λr2 DZ=>⟨by rw[xY,iE],hU _ ?_⟩⟩
    clear hU U
    refine az λU hU=>?_
    walk_at"l3"
    refine⟨_,rfl,⟨D4 5 true _,D4 5 true _⟩,?_⟩
    rw[YL,if_neg (by decide)]
    refine⟨_,rfl,⟨D4 5 true _,D4 5 true _⟩,?_⟩
    rw[YL,if_neg (by decide)]
    refine hU _ ?_
    clear hU U
    refine az λU hU=>?_
    walk_at"l3"
    cases r1 with
    | none =>
     have e2:r2=none:=by
      cases r2 with
      | none=>rfl
      | some w' =>
       obtain⟨w1,h⟩:=tn2 ⟨w',(DZ w').mp rfl⟩
       exact absurd ((tL w1).mpr h) (by simp)
     subst e2
     exact q
    | some w1 =>
     have N1:=(tL w1).mp rfl
     have e2:=(DZ _).mpr (Mi w1 N1)
     subst e2
     have lw1:=N1.ln
     have lw2:=(Mi w1 N1).ln
     have tl2:=(Mi w1 N1).lt
     rw[tl]at lw2
     rw[if_neg (by exact fN),if_neg (by exact fN),show oj (some w1)=D.lst true (ak w1) from rfl,show oj (some (tR m g s w1))=D.lst true (ak (tR m g s w1)) from rfl]
     refine hU _ ?_
     clear hU U
     refine az λU hU=>?_
     walk_at"l3"
     refine⟨w1,aa m,rfl,N1.lt,by omega,rfl,true,rfl,?_⟩
     rw[if_neg (by decide)]
     refine⟨tR m g s w1,aa m,rfl,tl2,by omega,rfl,true,rfl,?_⟩
     rw[if_neg (by decide)]
     refine hU _ ?_
     clear hU U
     walk_at"l3"
     refine⟨m,w1.map some,g,s,by rw[Ma],hm,by rw[bu];omega,by omega,λa ha=>?_,?_⟩
     ·obtain⟨b,hb,e⟩:=bZ.mp ha
      cases e
      exact N1.lt _ hb
     rw[cC7,Ma]
     refine⟨eU _,Ig 5 true _,?_⟩
     rw[vZ,decide_eq_true rfl]
     exact q
   clear hU
   by_cases g2:g=2
   ·rw[if_pos (by omega)]
    obtain⟨r,er,hr,hd⟩:=dm ((b1:Int)-(s:Int))
    rw[er]
    refine⟨by omega,jK r hr (λz=>by omega) (λz=>by omega) λ_ _=>?_⟩
    rw[<-h1 (by omega),show(r:Int)+(s:Int)-(b1:Int)=(r:Int)-((b1:Int)-(s:Int)) by omega]
    exact hd
   ·rw[if_neg (by omega)]
    exact jK b1 nY (λz=>h1 (by omega)) h2 λz1 z2=>by omega
  clear hU
  by_cases g1:g=1
  ·rw[if_pos (by omega)]
   refine⟨_,rfl,?_⟩
   dsimp only
   obtain⟨r,er,hr,hd⟩:=dm (0-(f:Int)-(e:Int)+1)
   rw[er]
   refine⟨by omega,st r hr (λz=>absurd g1 z) λ_=>?_⟩
   rw[show(r:Int)+(f:Int)+(e:Int)-1=(r:Int)-(0-(f:Int)-(e:Int)+1) by omega]
   exact hd
  ·rw[if_neg (by omega)]
   exact st f fM (λ_=>rfl) λz=>absurd z g1
end
set_option maxHeartbeats 0 in
theorem all_mk{l:PySem.W.OpenLaw}{w:World}{K:Frag}{h:Heap}{mg:Str->Option Value}{fa:Addr}{ts:List Addr}(X:K.In h)(G:h.Ns mainGlobals mg)(hfa:mg "law"=some (.ref fa))
  {od0 an0:Option Addr} {sl0:Array (Option Value)} {oc0 kV0 dc0 pm0 YN ct0:Value} {f0:Addr}
  {od1 an1:Option Addr} {sl1:Array (Option Value)} {oc1 kV1 dc1 pm1 YO ct1:Value} {f1:Addr}
  {od2 an2:Option Addr} {sl2:Array (Option Value)} {oc2 kV2 dc2 pm2 YQ ct2:Value} {f2:Addr}
  {od3 an3:Option Addr} {sl3:Array (Option Value)} {oc3 kV3 dc3 pm3 YR ct3:Value} {f3:Addr}
  {od4 an4:Option Addr} {sl4:Array (Option Value)} {oc4 kV4 dc4 pm4 YS ct4:Value} {f4:Addr}
  {od5 an5:Option Addr} {sl5:Array (Option Value)} {oc5 kV5 dc5 pm5 YT ct5:Value} {f5:Addr}
  {od6 an6:Option Addr} {sl6:Array (Option Value)} {oc6 kV6 dc6 pm6 YU ct6:Value} {f6:Addr}
  {od7 an7:Option Addr} {sl7:Array (Option Value)} {oc7 kV7 dc7 pm7 ct7:Value} {f7:Addr}
  {Bd kN:Addr} {aH8:Option Addr} {aH9:Array (Option Value)} {YV:Array Value} {aI0:Value}
  {od8 an8:Option Addr} {sl8:Array (Option Value)} {oc8 kV8 dc8 pm8 YW ct8:Value} {f8:Addr}
  {od9 an9:Option Addr} {sl9:Array (Option Value)} {oc9 kV9 dc9 pm9 YX ct9:Value} {f9:Addr}
  {eE9 eF0:Option Addr} {eF1:Array (Option Value)} {eF2 eF3 eF4 eF5 YY eF6:Value} {D6:Addr}
  {eF7 eF8:Option Addr} {eF9:Array (Option Value)} {eG0 eG1 eG2 eG3 YZ eG4:Value} {D7:Addr}
  {eG5 eG6:Option Addr} {eG7:Array (Option Value)} {eG8 eG9 eH0 eH1 Y0 eH2:Value} {lV:Addr}
  {eH3 eH4:Option Addr} {eH5:Array (Option Value)} {eH6 eH7 eH8 eH9 eI0:Value} {x4:Addr}
  {Be kO:Addr} {aL6:Option Addr} {aL7:Array (Option Value)} {Y1:Array Value} {aL8:Value}
  {eI4 eI5:Option Addr} {eI6:Array (Option Value)} {eI7 eI8 eI9 eJ0 Y2 eJ1:Value} {D8:Addr}
  {eJ2 eJ3:Option Addr} {eJ4:Array (Option Value)} {eJ5 eJ6 eJ7 eJ8 Y3 eJ9:Value} {D9:Addr}
  {eK0 eK1:Option Addr} {eK2:Array (Option Value)} {eK3 eK4 eK5 eK6 Y4 eK7:Value} {Ea:Addr}
  {eK8 eK9:Option Addr} {eL0:Array (Option Value)} {eL1 eL2 eL3 eL4 Y5 eL5:Value} {Eb:Addr}
  {eL6 eL7:Option Addr} {eL8:Array (Option Value)} {eL9 eM0 eM1 eM2 Y6 eM3:Value} {Ec:Addr}
  {eM4 eM5:Option Addr} {eM6:Array (Option Value)} {eM7 eM8 eM9 eN0 Y7 eN1:Value} {Ee:Addr}
  {eN2 eN3:Option Addr} {eN4:Array (Option Value)} {eN5 eN6 eN7 eN8 Y8 eN9:Value} {Ef:Addr}
  {eO0 eO1:Option Addr} {eO2:Array (Option Value)} {eO3 eO4 eO5 eO6 Y9 eO7:Value} {Eg:Addr}
  {eO8 eO9:Option Addr} {eP0:Array (Option Value)} {eP1 eP2 eP3 eP4 Za eP5:Value} {Eh:Addr}
  {eP6 eP7:Option Addr} {eP8:Array (Option Value)} {eP9 eQ0 eQ1 eQ2 Zb eQ3:Value} {Ei:Addr}
  {eQ4 eQ5:Option Addr} {eQ6:Array (Option Value)} {eQ7 eQ8 eQ9 eR0 Zc eR1:Value} {u3:Addr}
  {eR2 eR3:Option Addr} {eR4:Array (Option Value)} {eR5 eR6 eR7 eR8 Zd eR9:Value} {Ej:Addr}
  {eS0 eS1:Option Addr} {eS2:Array (Option Value)} {eS3 eS4 eS5 eS6 Ze eS7:Value} {Ek:Addr}
  {eS8 eS9:Option Addr} {eT0:Array (Option Value)} {eT1 eT2 eT3 eT4 Zf eT5:Value} {El:Addr}
  {eT6 eT7:Option Addr} {eT8:Array (Option Value)} {eT9 eU0 eU1 eU2 Zg eU3:Value} {Em:Addr}
  {eU4 eU5:Option Addr} {eU6:Array (Option Value)} {eU7 eU8 eU9 eV0 Zh eV1:Value} {x6:Addr}
  {eV2 eV3:Option Addr} {eV4:Array (Option Value)} {eV5 eV6 eV7 eV8 Zi eV9:Value} {x8:Addr}
  {eW0 eW1:Option Addr} {eW2:Array (Option Value)} {eW3 eW4 eW5 eW6 Zj eW7:Value} {x9:Addr}
  {eW8 eW9:Option Addr} {eX0:Array (Option Value)} {eX1 eX2 eX3 eX4 Zk eX5:Value} {ya:Addr}
  {eX6 eX7:Option Addr} {eX8:Array (Option Value)} {eX9 eY0 eY1 eY2 Zl eY3:Value} {Eo:Addr}
  {eY4 eY5:Option Addr} {eY6:Array (Option Value)} {eY7 eY8 eY9 eZ0 Zm eZ1:Value} {Ep:Addr}
  {eZ2 eZ3:Option Addr} {eZ4:Array (Option Value)} {eZ5 eZ6 eZ7 eZ8 Zn eZ9:Value} {Er:Addr}
  {e00 e01:Option Addr} {e02:Array (Option Value)} {e03 e04 e05 e06 Zo e07:Value} {Es:Addr}
  {e08 e09:Option Addr} {e10:Array (Option Value)} {e11 e12 e13 e14 Zp e15:Value} {yb:Addr}
  {e16 e17:Option Addr} {e18:Array (Option Value)} {e19 e20 e21 e22 Zq e23:Value} {yc:Addr}
  {e24 e25:Option Addr} {e26:Array (Option Value)} {e27 e28 e29 e30 Zr e31:Value} {Et:Addr}
  {e32 e33:Option Addr} {e34:Array (Option Value)} {e35 e36 e37 e38 Zs e40:Value} {yd:Addr}
  {e41 e42:Option Addr} {e43:Array (Option Value)} {e44 e45 e46 e47 Zt e48:Value} {ye:Addr}
  {e49 e50:Option Addr} {e51:Array (Option Value)} {e52 e53 e54 e55 Zu e56:Value} {Eu:Addr}
  {e57 e58:Option Addr} {e59:Array (Option Value)} {e60 e61 e62 e63 Zv e64:Value} {Ew:Addr}
  {e65 e66:Option Addr} {e67:Array (Option Value)} {e68 e69 e70 e71 Zw e72:Value} {Ey:Addr}
  {e73 e74:Option Addr} {e75:Array (Option Value)} {e76 e77 e78 e79 Zx e80:Value} {yf:Addr}
  {e81 e82:Option Addr} {e83:Array (Option Value)} {e84 e85 e86 e87 Zy e88:Value} {yg:Addr}
  {e89 e90:Option Addr} {e91:Array (Option Value)} {e92 e93 e94 e95 Zz e96:Value} {qB:Addr}
  {e97 e98:Option Addr} {e99:Array (Option Value)} {fa0 fa1 fa2 fa3 ZA fa4:Value} {Ez:Addr}
  {fa5 fa6:Option Addr} {fa7:Array (Option Value)} {fa8 fa9 fb0 fb1 ZC fb2:Value} {EA:Addr}
  {fb3 fb4:Option Addr} {fb5:Array (Option Value)} {fb6 fb7 fb8 fb9 ZD fc0:Value} {EB:Addr}
  {fc1 fc2:Option Addr} {fc3:Array (Option Value)} {fc4 fc5 fc6 fc7 ZE fc8:Value} {EC:Addr}
  {fc9 fd0:Option Addr} {fd1:Array (Option Value)} {fd2 fd3 fd4 fd5 ZF fd6:Value} {ED:Addr}
  {fd7 fd8:Option Addr} {fd9:Array (Option Value)} {fe0 fe1 fe2 fe3 ZG fe4:Value} {yh:Addr}
  {fe5 fe6:Option Addr} {fe7:Array (Option Value)} {fe8 fe9 ff0 ff1 ZH ff2:Value} {yi:Addr}
  {ff3 ff4:Option Addr} {ff5:Array (Option Value)} {ff6 ff7 ff8 ff9 ZI fg0:Value} {EE:Addr}
  {fg1 fg2:Option Addr} {fg3:Array (Option Value)} {fg4 fg5 fg6 fg7 ZJ fg8:Value} {EF:Addr}
  {fg9 fh0:Option Addr} {fh1:Array (Option Value)} {fh2 fh3 fh4 fh5 ZK fh6:Value} {EG:Addr}
  {fh7 fh8:Option Addr} {fh9:Array (Option Value)} {fi0 fi1 fi2 fi3 ZL fi4:Value} {EH:Addr}
  {fi5 fi6:Option Addr} {fi7:Array (Option Value)} {fi8 fi9 fj0 fj1 ZM fj2:Value} {EI:Addr}
  {fj3 fj4:Option Addr} {fj5:Array (Option Value)} {fj6 fj7 fj8 fj9 ZN fk0:Value} {EJ:Addr}
  {fk1 fk2:Option Addr} {fk3:Array (Option Value)} {fk4 fk5 fk6 fk7 ZO fk8:Value} {EK:Addr}
  {fk9 fl0:Option Addr} {fl1:Array (Option Value)} {fl2 fl3 fl4 fl5 ZP fl6:Value} {EL:Addr}
  {fl7 fl8:Option Addr} {fl9:Array (Option Value)} {fm0 fm1 fm2 fm3 ZQ fm4:Value} {EM:Addr}
  {fm5 fm6:Option Addr} {fm7:Array (Option Value)} {fm8 fm9 fn0 fn1 ZR fn2:Value} {EN:Addr}
  {fn3 ZS:Option Addr} {fn4:Array (Option Value)} {fn5 ZT ZU ZV Mj ZW:Value} {Ml:Addr}
  {aK hJ kP aM:Addr}
  (AY:nsIn K mainGlobals "BitField"=some (some (.ref aK)))
  (AZ:nsIn K mainGlobals "ByNought"=some (some (.ref hJ)))
  (xW:nsIn K mainGlobals "Field"=some (some (.ref kP)))
  (A6:nsIn K mainGlobals "PrimeField"=some (some (.ref aM)))
  (a0:nsIn K mainGlobals "_law_told"=some (some (.ref f0)))
  (l0:K.lookup f0=some ⟨oc0,od0,.func (fnOf "_law_told" "_law_told" (bg wz) (aX wz) (ax wz) .none kV0 dc0 pm0 an0 YN ct0),sl0⟩)
  (c0:codeIn K YN "_law_told"=true)
  (k0:keepIn K (.ref f0)=true)
  (a1:nsIn K mainGlobals "powers_of"=some (some (.ref f1)))
  (l1:K.lookup f1=some ⟨oc1,od1,.func (fnOf "powers_of" "powers_of" (bg wA) (aX wA) (ax wA) .none kV1 dc1 pm1 an1 YO ct1),sl1⟩)
  (c1:codeIn K YO "powers_of"=true)
  (k1:keepIn K (.ref f1)=true)
  (a2:nsIn K mainGlobals "step_powers"=some (some (.ref f2)))
  (l2:K.lookup f2=some ⟨oc2,od2,.func (fnOf "step_powers" "step_powers" (bg wB) (aX wB) (ax wB) .none kV2 dc2 pm2 an2 YQ ct2),sl2⟩)
  (c2:codeIn K YQ "step_powers"=true)
  (k2:keepIn K (.ref f2)=true)
  (a3:nsIn K mainGlobals "logs_of"=some (some (.ref f3)))
  (l3:K.lookup f3=some ⟨oc3,od3,.func (fnOf "logs_of" "logs_of" (bg wC) (aX wC) (ax wC) .none kV3 dc3 pm3 an3 YR ct3),sl3⟩)
  (c3:codeIn K YR "logs_of"=true)
  (k3:keepIn K (.ref f3)=true)
  (a4:findIn K (.ref kP) "step_power"=some (some (.ref f4)))
  (l4:K.lookup f4=some ⟨oc4,od4,.func (fnOf "step_power" "Field.step_power" (bg wD) (aX wD) (ax wD) .none kV4 dc4 pm4 an4 YS ct4),sl4⟩)
  (c4:codeIn K YS "Field.step_power"=true)
  (k4:keepIn K (.ref f4)=true)
  (a5:findIn K (.ref kP) "__init__"=some (some (.ref f5)))
  (l5:K.lookup f5=some ⟨oc5,od5,.func (fnOf "__init__" "Field.__init__" (bg wF) (aX wF) (ax wF) .none kV5 dc5 pm5 an5 YT ct5),sl5⟩)
  (c5:codeIn K YT "Field.__init__"=true)
  (k5:keepIn K (.ref f5)=true)
  (a6:nsIn K mainGlobals "makes_prime_field"=some (some (.ref f6)))
  (l6:K.lookup f6=some ⟨oc6,od6,.func (fnOf "makes_prime_field" "makes_prime_field" (bg wG) (aX wG) (ax wG) .none kV6 dc6 pm6 an6 YU ct6),sl6⟩)
  (c6:codeIn K YU "makes_prime_field"=true)
  (k6:keepIn K (.ref f6)=true)
  (a7:findIn K (.ref aM) "__init__"=some (some (.ref f7)))
  (l7:K.lookup f7=some ⟨oc7,od7,.func (fnOf "__init__" "PrimeField.__init__" (bg nZ) (aX nZ) (ax nZ) .none kV7 dc7 pm7 an7 (.ref Bd) ct7),sl7⟩)
  (c7:codeIn K (.ref Bd) "PrimeField.__init__"=true)
  (k7:keepIn K (.ref f7)=true)
  (ZX:K.lookup Bd=some ⟨aI0,aH8,.fields YV,aH9⟩)
  (ZY:YV[11]?=some (.ref kN))
  (Mm:codeHdIn K Bd kN=true)
  (a8:nsIn K mainGlobals "product_rows"=some (some (.ref f8)))
  (l8:K.lookup f8=some ⟨oc8,od8,.func (fnOf "product_rows" "product_rows" (bg wH) (aX wH) (ax wH) .none kV8 dc8 pm8 an8 YW ct8),sl8⟩)
  (c8:codeIn K YW "product_rows"=true)
  (k8:keepIn K (.ref f8)=true)
  (a9:nsIn K mainGlobals "bits_divided"=some (some (.ref f9)))
  (l9:K.lookup f9=some ⟨oc9,od9,.func (fnOf "bits_divided" "bits_divided" (bg wI) (aX wI) (ax wI) .none kV9 dc9 pm9 an9 YX ct9),sl9⟩)
  (c9:codeIn K YX "bits_divided"=true)
  (k9:keepIn K (.ref f9)=true)
  (Mn:nsIn K mainGlobals "stands_alone"=some (some (.ref D6)))
  (Mo:K.lookup D6=some ⟨eF2,eE9,.func (fnOf "stands_alone" "stands_alone" (bg wK) (aX wK) (ax wK) .none eF3 eF4 eF5 eF0 YY eF6),eF1⟩)
  (Mp:codeIn K YY "stands_alone"=true)
  (Mq:keepIn K (.ref D6)=true)
  (Mr:nsIn K mainGlobals "makes_bit_field"=some (some (.ref D7)))
  (Ms:K.lookup D7=some ⟨eG0,eF7,.func (fnOf "makes_bit_field" "makes_bit_field" (bg wL) (aX wL) (ax wL) .none eG1 eG2 eG3 eF8 YZ eG4),eF9⟩)
  (Mt:codeIn K YZ "makes_bit_field"=true)
  (Mu:keepIn K (.ref D7)=true)
  (Mv:nsIn K mainGlobals "bits_times"=some (some (.ref lV)))
  (Mw:K.lookup lV=some ⟨eG8,eG5,.func (fnOf "bits_times" "bits_times" (bg wM) (aX wM) (ax wM) .none eG9 eH0 eH1 eG6 Y0 eH2),eG7⟩)
  (Mx:codeIn K Y0 "bits_times"=true)
  (Mz:keepIn K (.ref lV)=true)
  (ZZ:findIn K (.ref aK) "__init__"=some (some (.ref x4)))
  (MA:K.lookup x4=some ⟨eH6,eH3,.func (fnOf "__init__" "BitField.__init__" (bg n8) (aX n8) (ax n8) .none eH7 eH8 eH9 eH4 (.ref Be) eI0),eH5⟩)
  (MB:codeIn K (.ref Be) "BitField.__init__"=true)
  (MC:keepIn K (.ref x4)=true)
  (Z0:K.lookup Be=some ⟨aL8,aL6,.fields Y1,aL7⟩)
  (Z1:Y1[11]?=some (.ref kO))
  (MD:codeHdIn K Be kO=true)
  (ME:nsIn K mainGlobals "_law_field"=some (some (.ref D8)))
  (MF:K.lookup D8=some ⟨eI7,eI4,.func (fnOf "_law_field" "_law_field" (bg wN) (aX wN) (ax wN) .none eI8 eI9 eJ0 eI5 Y2 eJ1),eI6⟩)
  (MG:codeIn K Y2 "_law_field"=true)
  (MH:keepIn K (.ref D8)=true)
  (MI:nsIn K mainGlobals "_law_many"=some (some (.ref D9)))
  (MJ:K.lookup D9=some ⟨eJ5,eJ2,.func (fnOf "_law_many" "_law_many" (bg wO) (aX wO) (ax wO) .none eJ6 eJ7 eJ8 eJ3 Y3 eJ9),eJ4⟩)
  (MK:codeIn K Y3 "_law_many"=true)
  (ML:keepIn K (.ref D9)=true)
  (MM:nsIn K mainGlobals "_law_times"=some (some (.ref Ea)))
  (MN:K.lookup Ea=some ⟨eK3,eK0,.func (fnOf "_law_times" "_law_times" (bg wQ) (aX wQ) (ax wQ) .none eK4 eK5 eK6 eK1 Y4 eK7),eK2⟩)
  (MP:codeIn K Y4 "_law_times"=true)
  (MQ:keepIn K (.ref Ea)=true)
  (MR:nsIn K mainGlobals "_law_powers"=some (some (.ref Eb)))
  (MS:K.lookup Eb=some ⟨eL1,eK8,.func (fnOf "_law_powers" "_law_powers" (bg wU) (aX wU) (ax wU) .none eL2 eL3 eL4 eK9 Y5 eL5),eL0⟩)
  (MT:codeIn K Y5 "_law_powers"=true)
  (MU:keepIn K (.ref Eb)=true)
  (MV:nsIn K mainGlobals "_law_cell"=some (some (.ref Ec)))
  (MW:K.lookup Ec=some ⟨eL9,eL6,.func (fnOf "_law_cell" "_law_cell" (bg wV) (aX wV) (ax wV) .none eM0 eM1 eM2 eL7 Y6 eM3),eL8⟩)
  (MX:codeIn K Y6 "_law_cell"=true)
  (MY:keepIn K (.ref Ec)=true)
  (MZ:nsIn K mainGlobals "_law_numbers"=some (some (.ref Ee)))
  (M0:K.lookup Ee=some ⟨eM7,eM4,.func (fnOf "_law_numbers" "_law_numbers" (bg wW) (aX wW) (ax wW) .none eM8 eM9 eN0 eM5 Y7 eN1),eM6⟩)
  (M1:codeIn K Y7 "_law_numbers"=true)
  (M3:keepIn K (.ref Ee)=true)
  (M4:nsIn K mainGlobals "_law_cut"=some (some (.ref Ef)))
  (M5:K.lookup Ef=some ⟨eN5,eN2,.func (fnOf "_law_cut" "_law_cut" (bg wX) (aX wX) (ax wX) .none eN6 eN7 eN8 eN3 Y8 eN9),eN4⟩)
  (M6:codeIn K Y8 "_law_cut"=true)
  (M7:keepIn K (.ref Ef)=true)
  (M8:nsIn K mainGlobals "_law_plus"=some (some (.ref Eg)))
  (M9:K.lookup Eg=some ⟨eO3,eO0,.func (fnOf "_law_plus" "_law_plus" (bg wY) (aX wY) (ax wY) .none eO4 eO5 eO6 eO1 Y9 eO7),eO2⟩)
  (Na:codeIn K Y9 "_law_plus"=true)
  (Nb:keepIn K (.ref Eg)=true)
  (Nc:nsIn K mainGlobals "_law_product"=some (some (.ref Eh)))
  (Nd:K.lookup Eh=some ⟨eP1,eO8,.func (fnOf "_law_product" "_law_product" (bg wZ) (aX wZ) (ax wZ) .none eP2 eP3 eP4 eO9 Za eP5),eP0⟩)
  (Nf:codeIn K Za "_law_product"=true)
  (Ng:keepIn K (.ref Eh)=true)
  (Nh:nsIn K mainGlobals "_law_less"=some (some (.ref Ei)))
  (Ni:K.lookup Ei=some ⟨eP9,eP6,.func (fnOf "_law_less" "_law_less" (bg w5) (aX w5) (ax w5) .none eQ0 eQ1 eQ2 eP7 Zb eQ3),eP8⟩)
  (Nj:codeIn K Zb "_law_less"=true)
  (Nk:keepIn K (.ref Ei)=true)
  (Nl:nsIn K mainGlobals "_law_word"=some (some (.ref u3)))
  (Nm:K.lookup u3=some ⟨eQ7,eQ4,.func (fnOf "_law_word" "_law_word" (bg w6) (aX w6) (ax w6) .none eQ8 eQ9 eR0 eQ5 Zc eR1),eQ6⟩)
  (Nn:codeIn K Zc "_law_word"=true)
  (xZ:keepIn K (.ref u3)=true)
  (Np:nsIn K mainGlobals "_law_spoilt"=some (some (.ref Ej)))
  (Nq:K.lookup Ej=some ⟨eR5,eR2,.func (fnOf "_law_spoilt" "_law_spoilt" (bg w9) (aX w9) (ax w9) .none eR6 eR7 eR8 eR3 Zd eR9),eR4⟩)
  (Nt:codeIn K Zd "_law_spoilt"=true)
  (Nu:keepIn K (.ref Ej)=true)
  (Nv:nsIn K mainGlobals "_law_turned"=some (some (.ref Ek)))
  (Nw:K.lookup Ek=some ⟨eS3,eS0,.func (fnOf "_law_turned" "_law_turned" (bg xa) (aX xa) (ax xa) .none eS4 eS5 eS6 eS1 Ze eS7),eS2⟩)
  (Nx:codeIn K Ze "_law_turned"=true)
  (Ny:keepIn K (.ref Ek)=true)
  (Nz:nsIn K mainGlobals "lost_places"=some (some (.ref El)))
  (NA:K.lookup El=some ⟨eT1,eS8,.func (fnOf "lost_places" "lost_places" (bg xb) (aX xb) (ax xb) .none eT2 eT3 eT4 eS9 Zf eT5),eT0⟩)
  (NB:codeIn K Zf "lost_places"=true)
  (NC:keepIn K (.ref El)=true)
  (ND:nsIn K mainGlobals "noughts_for_lost"=some (some (.ref Em)))
  (NF:K.lookup Em=some ⟨eT9,eT6,.func (fnOf "noughts_for_lost" "noughts_for_lost" (bg xf) (aX xf) (ax xf) .none eU0 eU1 eU2 eT7 Zg eU3),eT8⟩)
  (NG:codeIn K Zg "noughts_for_lost"=true)
  (NH:keepIn K (.ref Em)=true)
  (Z2:findIn K (.ref aK) "plus"=some (some (.ref x6)))
  (NI:K.lookup x6=some ⟨eU7,eU4,.func (fnOf "plus" "BitField.plus" (bg xg) (aX xg) (ax xg) .none eU8 eU9 eV0 eU5 Zh eV1),eU6⟩)
  (NJ:codeIn K Zh "BitField.plus"=true)
  (EO:keepIn K (.ref x6)=true)
  (Z3:findIn K (.ref aM) "plus"=some (some (.ref x8)))
  (NK:K.lookup x8=some ⟨eV5,eV2,.func (fnOf "plus" "PrimeField.plus" (bg xh) (aX xh) (ax xh) .none eV6 eV7 eV8 eV3 Zi eV9),eV4⟩)
  (NL:codeIn K Zi "PrimeField.plus"=true)
  (ER:keepIn K (.ref x8)=true)
  (Z4:findIn K (.ref aK) "times"=some (some (.ref x9)))
  (NM:K.lookup x9=some ⟨eW3,eW0,.func (fnOf "times" "BitField.times" (bg xi) (aX xi) (ax xi) .none eW4 eW5 eW6 eW1 Zj eW7),eW2⟩)
  (NN:codeIn K Zj "BitField.times"=true)
  (ES:keepIn K (.ref x9)=true)
  (Z5:findIn K (.ref aM) "times"=some (some (.ref ya)))
  (NO:K.lookup ya=some ⟨eX1,eW8,.func (fnOf "times" "PrimeField.times" (bg xj) (aX xj) (ax xj) .none eX2 eX3 eX4 eW9 Zk eX5),eX0⟩)
  (NP:codeIn K Zk "PrimeField.times"=true)
  (ET:keepIn K (.ref ya)=true)
  (NQ:nsIn K mainGlobals "value_at"=some (some (.ref Eo)))
  (NR:K.lookup Eo=some ⟨eX9,eX6,.func (fnOf "value_at" "value_at" (bg xk) (aX xk) (ax xk) .none eY0 eY1 eY2 eX7 Zl eY3),eX8⟩)
  (NS:codeIn K Zl "value_at"=true)
  (NT:keepIn K (.ref Eo)=true)
  (NU:nsIn K mainGlobals "root_sums"=some (some (.ref Ep)))
  (NV:K.lookup Ep=some ⟨eY7,eY4,.func (fnOf "root_sums" "root_sums" (bg xm) (aX xm) (ax xm) .none eY8 eY9 eZ0 eY5 Zm eZ1),eY6⟩)
  (NW:codeIn K Zm "root_sums"=true)
  (NX:keepIn K (.ref Ep)=true)
  (NY:nsIn K mainGlobals "trimmed"=some (some (.ref Er)))
  (NZ:K.lookup Er=some ⟨eZ5,eZ2,.func (fnOf "trimmed" "trimmed" (bg xn) (aX xn) (ax xn) .none eZ6 eZ7 eZ8 eZ3 Zn eZ9),eZ4⟩)
  (N0:codeIn K Zn "trimmed"=true)
  (N2:keepIn K (.ref Er)=true)
  (N3:nsIn K mainGlobals "poly_times"=some (some (.ref Es)))
  (N4:K.lookup Es=some ⟨e03,e00,.func (fnOf "poly_times" "poly_times" (bg xo) (aX xo) (ax xo) .none e04 e05 e06 e01 Zo e07),e02⟩)
  (N5:codeIn K Zo "poly_times"=true)
  (N6:keepIn K (.ref Es)=true)
  (Z6:findIn K (.ref aK) "minus"=some (some (.ref yb)))
  (N7:K.lookup yb=some ⟨e11,e08,.func (fnOf "minus" "BitField.minus" (bg xp) (aX xp) (ax xp) .none e12 e13 e14 e09 Zp e15),e10⟩)
  (N8:codeIn K Zp "BitField.minus"=true)
  (EU:keepIn K (.ref yb)=true)
  (Z7:findIn K (.ref aM) "minus"=some (some (.ref yc)))
  (N9:K.lookup yc=some ⟨e19,e16,.func (fnOf "minus" "PrimeField.minus" (bg xq) (aX xq) (ax xq) .none e20 e21 e22 e17 Zq e23),e18⟩)
  (Oa:codeIn K Zq "PrimeField.minus"=true)
  (EV:keepIn K (.ref yc)=true)
  (Ob:nsIn K mainGlobals "place_finder"=some (some (.ref Et)))
  (Oc:K.lookup Et=some ⟨e27,e24,.func (fnOf "place_finder" "place_finder" (bg xt) (aX xt) (ax xt) .none e28 e29 e30 e25 Zr e31),e26⟩)
  (Od:codeIn K Zr "place_finder"=true)
  (Oe:keepIn K (.ref Et)=true)
  (Z8:findIn K (.ref aK) "dot"=some (some (.ref yd)))
  (Of:K.lookup yd=some ⟨e35,e32,.func (fnOf "dot" "BitField.dot" (bg xu) (aX xu) (ax xu) .none e36 e37 e38 e33 Zs e40),e34⟩)
  (Og:codeIn K Zs "BitField.dot"=true)
  (EW:keepIn K (.ref yd)=true)
  (Z9:findIn K (.ref aM) "dot"=some (some (.ref ye)))
  (Oh:K.lookup ye=some ⟨e44,e41,.func (fnOf "dot" "PrimeField.dot" (bg xv) (aX xv) (ax xv) .none e45 e46 e47 e42 Zt e48),e43⟩)
  (Oi:codeIn K Zt "PrimeField.dot"=true)
  (EX:keepIn K (.ref ye)=true)
  (Oj:nsIn K mainGlobals "off_at"=some (some (.ref Eu)))
  (Ol:K.lookup Eu=some ⟨e52,e49,.func (fnOf "off_at" "off_at" (bg xw) (aX xw) (ax xw) .none e53 e54 e55 e50 Zu e56),e51⟩)
  (Om:codeIn K Zu "off_at"=true)
  (Oo:keepIn K (.ref Eu)=true)
  (Oq:nsIn K mainGlobals "filled"=some (some (.ref Ew)))
  (Ot:K.lookup Ew=some ⟨e60,e57,.func (fnOf "filled" "filled" (bg xx) (aX xx) (ax xx) .none e61 e62 e63 e58 Zv e64),e59⟩)
  (Ou:codeIn K Zv "filled"=true)
  (Ov:keepIn K (.ref Ew)=true)
  (Ow:nsIn K mainGlobals "poly_minus"=some (some (.ref Ey)))
  (Ox:K.lookup Ey=some ⟨e68,e65,.func (fnOf "poly_minus" "poly_minus" (bg xy) (aX xy) (ax xy) .none e69 e70 e71 e66 Zw e72),e67⟩)
  (Oy:codeIn K Zw "poly_minus"=true)
  (Oz:keepIn K (.ref Ey)=true)
  (ε:findIn K (.ref aK) "scaled"=some (some (.ref yf)))
  (OA:K.lookup yf=some ⟨e76,e73,.func (fnOf "scaled" "BitField.scaled" (bg xA) (aX xA) (ax xA) .none e77 e78 e79 e74 Zx e80),e75⟩)
  (OB:codeIn K Zx "BitField.scaled"=true)
  (EY:keepIn K (.ref yf)=true)
  (ζ:findIn K (.ref aM) "scaled"=some (some (.ref yg)))
  (OC:K.lookup yg=some ⟨e84,e81,.func (fnOf "scaled" "PrimeField.scaled" (bg xB) (aX xB) (ax xB) .none e85 e86 e87 e82 Zy e88),e83⟩)
  (OD:codeIn K Zy "PrimeField.scaled"=true)
  (EZ:keepIn K (.ref yg)=true)
  (η:findIn K (.ref kP) "over"=some (some (.ref qB)))
  (OE:K.lookup qB=some ⟨e92,e89,.func (fnOf "over" "Field.over" (bg xC) (aX xC) (ax xC) .none e93 e94 e95 e90 Zz e96),e91⟩)
  (OF:codeIn K Zz "Field.over"=true)
  (Bf:keepIn K (.ref qB)=true)
  (OG:nsIn K mainGlobals "shortest"=some (some (.ref Ez)))
  (OH:K.lookup Ez=some ⟨fa0,e97,.func (fnOf "shortest" "shortest" (bg xD) (aX xD) (ax xD) .none fa1 fa2 fa3 e98 ZA fa4),e99⟩)
  (OI:codeIn K ZA "shortest"=true)
  (OJ:keepIn K (.ref Ez)=true)
  (OK:nsIn K mainGlobals "places_in"=some (some (.ref EA)))
  (OL:K.lookup EA=some ⟨fa8,fa5,.func (fnOf "places_in" "places_in" (bg xE) (aX xE) (ax xE) .none fa9 fb0 fb1 fa6 ZC fb2),fa7⟩)
  (OM:codeIn K ZC "places_in"=true)
  (ON:keepIn K (.ref EA)=true)
  (OO:nsIn K mainGlobals "wrong_places"=some (some (.ref EB)))
  (OP:K.lookup EB=some ⟨fb6,fb3,.func (fnOf "wrong_places" "wrong_places" (bg xF) (aX xF) (ax xF) .none fb7 fb8 fb9 fb4 ZD fc0),fb5⟩)
  (OQ:codeIn K ZD "wrong_places"=true)
  (OR:keepIn K (.ref EB)=true)
  (OS:nsIn K mainGlobals "width_of"=some (some (.ref EC)))
  (OT:K.lookup EC=some ⟨fc4,fc1,.func (fnOf "width_of" "width_of" (bg xG) (aX xG) (ax xG) .none fc5 fc6 fc7 fc2 ZE fc8),fc3⟩)
  (OU:codeIn K ZE "width_of"=true)
  (OV:keepIn K (.ref EC)=true)
  (OW:nsIn K mainGlobals "first_with"=some (some (.ref ED)))
  (OX:K.lookup ED=some ⟨fd2,fc9,.func (fnOf "first_with" "first_with" (bg xH) (aX xH) (ax xH) .none fd3 fd4 fd5 fd0 ZF fd6),fd1⟩)
  (OY:codeIn K ZF "first_with"=true)
  (OZ:keepIn K (.ref ED)=true)
  (θ:findIn K (.ref aK) "lessened"=some (some (.ref yh)))
  (O0:K.lookup yh=some ⟨fe0,fd7,.func (fnOf "lessened" "BitField.lessened" (bg xI) (aX xI) (ax xI) .none fe1 fe2 fe3 fd8 ZG fe4),fd9⟩)
  (O1:codeIn K ZG "BitField.lessened"=true)
  (E1:keepIn K (.ref yh)=true)
  (ι:findIn K (.ref aM) "lessened"=some (some (.ref yi)))
  (O2:K.lookup yi=some ⟨fe8,fe5,.func (fnOf "lessened" "PrimeField.lessened" (bg xJ) (aX xJ) (ax xJ) .none fe9 ff0 ff1 fe6 ZH ff2),fe7⟩)
  (O3:codeIn K ZH "PrimeField.lessened"=true)
  (E2:keepIn K (.ref yi)=true)
  (O4:nsIn K mainGlobals "cleared"=some (some (.ref EE)))
  (O5:K.lookup EE=some ⟨ff6,ff3,.func (fnOf "cleared" "cleared" (bg xK) (aX xK) (ax xK) .none ff7 ff8 ff9 ff4 ZI fg0),ff5⟩)
  (O6:codeIn K ZI "cleared"=true)
  (O7:keepIn K (.ref EE)=true)
  (O8:nsIn K mainGlobals "reduced"=some (some (.ref EF)))
  (O9:K.lookup EF=some ⟨fg4,fg1,.func (fnOf "reduced" "reduced" (bg xM) (aX xM) (ax xM) .none fg5 fg6 fg7 fg2 ZJ fg8),fg3⟩)
  (Pa:codeIn K ZJ "reduced"=true)
  (Pb:keepIn K (.ref EF)=true)
  (Pc:nsIn K mainGlobals "leads"=some (some (.ref EG)))
  (Pd:K.lookup EG=some ⟨fh2,fg9,.func (fnOf "leads" "leads" (bg xN) (aX xN) (ax xN) .none fh3 fh4 fh5 fh0 ZK fh6),fh1⟩)
  (Pe:codeIn K ZK "leads"=true)
  (Pf:keepIn K (.ref EG)=true)
  (Pg:nsIn K mainGlobals "with_due"=some (some (.ref EH)))
  (Ph:K.lookup EH=some ⟨fi0,fh7,.func (fnOf "with_due" "with_due" (bg xO) (aX xO) (ax xO) .none fi1 fi2 fi3 fh8 ZL fi4),fh9⟩)
  (Pj:codeIn K ZL "with_due"=true)
  (Pk:keepIn K (.ref EH)=true)
  (Pl:nsIn K mainGlobals "solved"=some (some (.ref EI)))
  (Pm:K.lookup EI=some ⟨fi8,fi5,.func (fnOf "solved" "solved" (bg xP) (aX xP) (ax xP) .none fi9 fj0 fj1 fi6 ZM fj2),fi7⟩)
  (Pn:codeIn K ZM "solved"=true)
  (Po:keepIn K (.ref EI)=true)
  (Pp:nsIn K mainGlobals "signs_at"=some (some (.ref EJ)))
  (Pq:K.lookup EJ=some ⟨fj6,fj3,.func (fnOf "signs_at" "signs_at" (bg xR) (aX xR) (ax xR) .none fj7 fj8 fj9 fj4 ZN fk0),fj5⟩)
  (Pr:codeIn K ZN "signs_at"=true)
  (Pt:keepIn K (.ref EJ)=true)
  (Pu:nsIn K mainGlobals "taken_off"=some (some (.ref EK)))
  (Pw:K.lookup EK=some ⟨fk4,fk1,.func (fnOf "taken_off" "taken_off" (bg xS) (aX xS) (ax xS) .none fk5 fk6 fk7 fk2 ZO fk8),fk3⟩)
  (Px:codeIn K ZO "taken_off"=true)
  (Py:keepIn K (.ref EK)=true)
  (Pz:nsIn K mainGlobals "root_nearest"=some (some (.ref EL)))
  (PB:K.lookup EL=some ⟨fl2,fk9,.func (fnOf "root_nearest" "root_nearest" (bg xT) (aX xT) (ax xT) .none fl3 fl4 fl5 fl0 ZP fl6),fl1⟩)
  (PC:codeIn K ZP "root_nearest"=true)
  (PD:keepIn K (.ref EL)=true)
  (PF:nsIn K mainGlobals "_law_whole"=some (some (.ref EM)))
  (PH:K.lookup EM=some ⟨fm0,fl7,.func (fnOf "_law_whole" "_law_whole" (bg xU) (aX xU) (ax xU) .none fm1 fm2 fm3 fl8 ZQ fm4),fl9⟩)
  (PJ:codeIn K ZQ "_law_whole"=true)
  (PK:keepIn K (.ref EM)=true)
  (PL:nsIn K mainGlobals "_law_signs"=some (some (.ref EN)))
  (jW:K.lookup EN=some ⟨fm8,fm5,.func (fnOf "_law_signs" "_law_signs" (bg xV) (aX xV) (ax xV) .none fm9 fn0 fn1 fm6 ZR fn2),fm7⟩)
  (PM:codeIn K ZR "_law_signs"=true)
  (PN:keepIn K (.ref EN)=true)
  (E3:nsIn K mainGlobals "law"=some (some (.ref Ml)))
  (PQ:K.lookup Ml=some ⟨fn5,fn3,.func (fnOf "law" "law" (bg oa) (aX oa) (ax oa) .none ZT ZU ZV ZS Mj ZW),fn4⟩)
  (PR:codeIn K Mj "law"=true)
  (PU:keepIn K (.ref Ml)=true)
  (E4:PySem.W.plainGet K aK Str.empty=true)
  (at2:PySem.W.hasDictIn K aK=true)
  (E5:PySem.W.plainOver K aK=true)
  (E6:findIn K (.ref aK) "__setattr__"=some (some (.builtin "object.__setattr__")))
  (AA:PySem.W.makesIn K aK=true)
  (PV:findIn K (.ref aK) "__init__"=some (some (.ref x4)))
  (PX:isFn K (.ref x4)=true)
  (PY:keepIn K (.ref aK)=true)
  (PZ:findIn K (.ref aK) "__class__"=some (some (.builtin "object.__class__")))
  (P0:specialIn K (.builtin "object.__class__") "__get__"=some (some (.builtin "getset_descriptor.__get__")))
  (P1:takesIn K (.builtin "object.__class__")=some true)
  (P2:mroIn K aK (.type "object")=some true)
  (AB:findIn K (.ref aK) "bits"=some none)
  (qu:findIn K (.ref aK) "logs"=some none)
  (tU:findIn K (.ref aK) "many"=some none)
  (qv:findIn K (.ref aK) "powers"=some none)
  (DR:findIn K (.ref aK) "prime"=some none)
  (og:findIn K (.ref aK) "products"=some none)
  (AD:findIn K (.ref aK) "step"=some none)
  (AE:findIn K (.ref aK) "wide"=some none)
  (AF:findIn K (.ref aK) "dot"=some (some (.ref yd)))
  (P4:isFn K (.ref yd)=true)
  (AG:findIn K (.ref aK) "lessened"=some (some (.ref yh)))
  (P5:isFn K (.ref yh)=true)
  (AH:findIn K (.ref aK) "minus"=some (some (.ref yb)))
  (P6:isFn K (.ref yb)=true)
  (AI:findIn K (.ref aK) "over"=some (some (.ref qB)))
  (P7:isFn K (.ref qB)=true)
  (AJ:findIn K (.ref aK) "plus"=some (some (.ref x6)))
  (P8:isFn K (.ref x6)=true)
  (AK:findIn K (.ref aK) "scaled"=some (some (.ref yf)))
  (P9:isFn K (.ref yf)=true)
  (tV:findIn K (.ref aK) "step_power"=some (some (.ref f4)))
  (Qa:isFn K (.ref f4)=true)
  (AL:findIn K (.ref aK) "times"=some (some (.ref x9)))
  (Qb:isFn K (.ref x9)=true)
  (E7:PySem.W.plainGet K aM Str.empty=true)
  (E8:PySem.W.hasDictIn K aM=true)
  (E9:PySem.W.plainOver K aM=true)
  (Fb:findIn K (.ref aM) "__setattr__"=some (some (.builtin "object.__setattr__")))
  (AM:PySem.W.makesIn K aM=true)
  (Qc:findIn K (.ref aM) "__init__"=some (some (.ref f7)))
  (Qe:isFn K (.ref f7)=true)
  (Qf:keepIn K (.ref aM)=true)
  (Qg:findIn K (.ref aM) "__class__"=some (some (.builtin "object.__class__")))
  (Qh:specialIn K (.builtin "object.__class__") "__get__"=some (some (.builtin "getset_descriptor.__get__")))
  (Qi:takesIn K (.builtin "object.__class__")=some true)
  (Qj:mroIn K aM (.type "object")=some true)
  (DS:findIn K (.ref aM) "bits"=some none)
  (tW:findIn K (.ref aM) "logs"=some none)
  (tX:findIn K (.ref aM) "many"=some none)
  (tY:findIn K (.ref aM) "powers"=some none)
  (kQ:findIn K (.ref aM) "prime"=some none)
  (DT:findIn K (.ref aM) "products"=some none)
  (AN:findIn K (.ref aM) "step"=some none)
  (AO:findIn K (.ref aM) "wide"=some none)
  (AQ:findIn K (.ref aM) "dot"=some (some (.ref ye)))
  (Qk:isFn K (.ref ye)=true)
  (AR:findIn K (.ref aM) "lessened"=some (some (.ref yi)))
  (Ql:isFn K (.ref yi)=true)
  (AS:findIn K (.ref aM) "minus"=some (some (.ref yc)))
  (Qm:isFn K (.ref yc)=true)
  (AU:findIn K (.ref aM) "over"=some (some (.ref qB)))
  (Qn:isFn K (.ref qB)=true)
  (AV:findIn K (.ref aM) "plus"=some (some (.ref x8)))
  (Qo:isFn K (.ref x8)=true)
  (AW:findIn K (.ref aM) "scaled"=some (some (.ref yg)))
  (Qp:isFn K (.ref yg)=true)
  (tZ:findIn K (.ref aM) "step_power"=some (some (.ref f4)))
  (Qq:isFn K (.ref f4)=true)
  (AX:findIn K (.ref aM) "times"=some (some (.ref ya)))
  (Qr:isFn K (.ref ya)=true)
  (Qs:specialIn K (.ref kP) "__getattribute__"=some (some (.builtin "type.__getattribute__")))
  (Qt:PySem.W.readsIn K kP (.type "type")=true)
  (Qu:PySem.W.findCls K (.ref kP) (.type "type") "__init__"=some (.val (.ref f5)))
  (Qv:nsIn K mainGlobals "all"=some none)
  (Qw:nsIn K mainGlobals "any"=some none)
  (Qx:nsIn K mainGlobals "bool"=some none)
  (Qy:nsIn K mainGlobals "enumerate"=some none)
  (Qz:nsIn K mainGlobals "int"=some none)
  (QB:nsIn K mainGlobals "isinstance"=some none)
  (QC:nsIn K mainGlobals "len"=some none)
  (QD:nsIn K mainGlobals "list"=some none)
  (QE:nsIn K mainGlobals "max"=some none)
  (QF:nsIn K mainGlobals "min"=some none)
  (QG:nsIn K mainGlobals "range"=some none)
  (QH:nsIn K mainGlobals "reversed"=some none)
  (QI:nsIn K mainGlobals "sum"=some none)
  (QJ:nsIn K mainGlobals "zip"=some none)
  (QK:(PySem.W.clsIn K hJ).isSome=true)
  (μ:PySem.W.typeIn K (.ref hJ)=some (.type "type"))
  (QL:PySem.W.excIn K hJ [.type "ValueError",.type "Exception",.type "BaseException",.type "object"] "ValueError.__new__"=true)
  (QM:findIn K (.ref hJ) "__getattribute__"=some (some (.builtin "BaseException.__getattribute__")))
  (QN:findIn K (.ref hJ) "__getattr__"=some none)
  (QO:findIn K (.ref hJ) "__class__"=some (some (.builtin "object.__class__")))
  (QP:specialIn K (.builtin "object.__class__") "__get__"=some (some (.builtin "getset_descriptor.__get__")))
  (QQ:takesIn K (.builtin "object.__class__")=some true)
  (QR:mroIn K hJ (.type "object")=some true)
  (QS:mroIn K hJ (.type "BaseException")=some true)
  (nl:K.all (λp=>Hr p.2)=true)
  (sub:∀P∈[kN,kO],P∈ts) :
  ∃fd:FuncData,(∀(s:Shared) (v:Value),BindsTo s fd ⟨[v],[]⟩ [("_law_script",v)])/\∀base:Heap,K.In base->base.Ns mainGlobals mg->Bm mg base->aN l.prog w K mg base aS 11 fa fd ["_law_script"] (CD ts K):=by
 have e:=hfa.symm.trans (mg_of X G E3)
 cases e
 have F0:=bw (st:=wz) l0 c0 k0
 have b0:=F0.binds (ps:=["_law_cell_here"]) λ_ _ _ _ _ _=>g8 (λ_=>rfl)
 have F1:=bw (st:=wA) l1 c1 k1
 have b1:=F1.binds (ps:=["a","product"]) λ_ _ _ _ _ _=>gz (λ_ _=>rfl)
 have F2:=bw (st:=wB) l2 c2 k2
 have b2:=F2.binds (ps:=["many","product"]) λ_ _ _ _ _ _=>gz (λ_ _=>rfl)
 have F3:=bw (st:=wC) l3 c3 k3
 have b3:=F3.binds (ps:=["powers"]) λ_ _ _ _ _ _=>g8 (λ_=>rfl)
 have F4:=bw (st:=wD) l4 c4 k4
 have b4:=F4.binds (ps:=["self","n"]) λ_ _ _ _ _ _=>gz (λ_ _=>rfl)
 have F5:=bw (st:=wF) l5 c5 k5
 have b5:=F5.binds (ps:=["self","many","product"]) λ_ _ _ _ _ _=>fe (λ_ _ _=>rfl)
 have F6:=bw (st:=wG) l6 c6 k6
 have b6:=F6.binds (ps:=["prime"]) λ_ _ _ _ _ _=>g8 (λ_=>rfl)
 have F7:=bw (st:=nZ) l7 c7 k7
 have b7:=F7.binds (ps:=["self","prime"]) λ_ _ _ _ _ _=>gz (λ_ _=>rfl)
 have F8:=bw (st:=wH) l8 c8 k8
 have b8:=F8.binds (ps:=["powers","logs"]) λ_ _ _ _ _ _=>gz (λ_ _=>rfl)
 have F9:=bw (st:=wI) l9 c9 k9
 have b9:=F9.binds (ps:=["a","b"]) λ_ _ _ _ _ _=>gz (λ_ _=>rfl)
 have ν:=bw (st:=wK) Mo Mp Mq
 have b10:=ν.binds (ps:=["a"]) λ_ _ _ _ _ _=>g8 (λ_=>rfl)
 have ξ:=bw (st:=wL) Ms Mt Mu
 have b11:=ξ.binds (ps:=["bits"]) λ_ _ _ _ _ _=>g8 (λ_=>rfl)
 have ο:=bw (st:=wM) Mw Mx Mz
 have b12:=ο.binds (ps:=["a","b"]) λ_ _ _ _ _ _=>gz (λ_ _=>rfl)
 have ρ:=bw (st:=n8) MA MB MC
 have b13:=ρ.binds (ps:=["self","bits"]) λ_ _ _ _ _ _=>gz (λ_ _=>rfl)
 have τ:=bw (st:=wN) MF MG MH
 have b14:=τ.binds (ps:=["_law_told_here"]) λ_ _ _ _ _ _=>g8 (λ_=>rfl)
 have υ:=bw (st:=wO) MJ MK ML
 have b15:=υ.binds (ps:=["_law_told_here"]) λ_ _ _ _ _ _=>g8 (λ_=>rfl)
 have χ:=bw (st:=wQ) MN MP MQ
 have b16:=χ.binds (ps:=["_law_told_here","_law_a","_law_b"]) λ_ _ _ _ _ _=>fe (λ_ _ _=>rfl)
 have ω:=bw (st:=wU) MS MT MU
 have b17:=ω.binds (ps:=["_law_told_here","_law_many_here"]) λ_ _ _ _ _ _=>gz (λ_ _=>rfl)
 have Γ:=bw (st:=wV) MW MX MY
 have b18:=Γ.binds (ps:=["_law_script","_law_k"]) λ_ _ _ _ _ _=>gz (λ_ _=>rfl)
 have Δ:=bw (st:=wW) M0 M1 M3
 have b19:=Δ.binds (ps:=["_law_script","_law_many_here","_law_whole_here"]) λ_ _ _ _ _ _=>fe (λ_ _ _=>rfl)
 have Θ:=bw (st:=wX) M5 M6 M7
 have b20:=Θ.binds (ps:=["_law_row"]) λ_ _ _ _ _ _=>g8 (λ_=>rfl)
 have Λ:=bw (st:=wY) M9 Na Nb
 have b21:=Λ.binds (ps:=["_law_told_here","_law_a","_law_b"]) λ_ _ _ _ _ _=>fe (λ_ _ _=>rfl)
 have Ξ:=bw (st:=wZ) Nd Nf Ng
 have b22:=Ξ.binds (ps:=["_law_told_here","_law_a","_law_b"]) λ_ _ _ _ _ _=>fe (λ_ _ _=>rfl)
 have Φ:=bw (st:=w5) Ni Nj Nk
 have b23:=Φ.binds (ps:=["_law_told_here","_law_a","_law_b"]) λ_ _ _ _ _ _=>fe (λ_ _ _=>rfl)
 have Ψ:=bw (st:=w6) Nm Nn xZ
 have b24:=Ψ.binds (ps:=["_law_script","_law_told_here","_law_many_here","_law_powers_here","_law_numbers_here"]) λ_ _ _ _ _ _=>IM (λ_ _ _ _ _=>rfl)
 have Ω:=bw (st:=w9) Nq Nt Nu
 have b25:=Ω.binds (ps:=["_law_script","_law_told_here","_law_many_here","_law_word_here","_law_count"]) λ_ _ _ _ _ _=>IM (λ_ _ _ _ _=>rfl)
 have F26:=bw (st:=xa) Nw Nx Ny
 have b26:=F26.binds (ps:=["_law_told_here","_law_many_here","_law_powers_here","_law_row","_law_way","_law_steps"]) λ_ _ _ _ _ _=>cT8 (λ_ _ _ _ _ _=>rfl)
 have F27:=bw (st:=xb) NA NB NC
 have b27:=F27.binds (ps:=["signs"]) λ_ _ _ _ _ _=>g8 (λ_=>rfl)
 have F28:=bw (st:=xf) NF NG NH
 have b28:=F28.binds (ps:=["signs"]) λ_ _ _ _ _ _=>g8 (λ_=>rfl)
 have F29:=bw (st:=xg) NI NJ EO
 have b29:=F29.binds (ps:=["self","a","b"]) λ_ _ _ _ _ _=>fe (λ_ _ _=>rfl)
 have F30:=bw (st:=xh) NK NL ER
 have b30:=F30.binds (ps:=["self","a","b"]) λ_ _ _ _ _ _=>fe (λ_ _ _=>rfl)
 have F31:=bw (st:=xi) NM NN ES
 have b31:=F31.binds (ps:=["self","a","b"]) λ_ _ _ _ _ _=>fe (λ_ _ _=>rfl)
 have F32:=bw (st:=xj) NO NP ET
 have b32:=F32.binds (ps:=["self","a","b"]) λ_ _ _ _ _ _=>fe (λ_ _ _=>rfl)
 have F33:=bw (st:=xk) NR NS NT
 have b33:=F33.binds (ps:=["field","a","x"]) λ_ _ _ _ _ _=>fe (λ_ _ _=>rfl)
 have F34:=bw (st:=xm) NV NW NX
 have b34:=F34.binds (ps:=["field","first","extra","word"]) λ_ _ _ _ _ _=>mq (λ_ _ _ _=>rfl)
 have F35:=bw (st:=xn) NZ N0 N2
 have b35:=F35.binds (ps:=["a"]) λ_ _ _ _ _ _=>g8 (λ_=>rfl)
 have F36:=bw (st:=xo) N4 N5 N6
 have b36:=F36.binds (ps:=["field","a","b"]) λ_ _ _ _ _ _=>fe (λ_ _ _=>rfl)
 have F37:=bw (st:=xp) N7 N8 EU
 have b37:=F37.binds (ps:=["self","a","b"]) λ_ _ _ _ _ _=>fe (λ_ _ _=>rfl)
 have F38:=bw (st:=xq) N9 Oa EV
 have b38:=F38.binds (ps:=["self","a","b"]) λ_ _ _ _ _ _=>fe (λ_ _ _=>rfl)
 have F39:=bw (st:=xt) Oc Od Oe
 have b39:=F39.binds (ps:=["field","places"]) λ_ _ _ _ _ _=>gz (λ_ _=>rfl)
 have F40:=bw (st:=xu) Of Og EW
 have b40:=F40.binds (ps:=["self","xs","ys"]) λ_ _ _ _ _ _=>fe (λ_ _ _=>rfl)
 have F41:=bw (st:=xv) Oh Oi EX
 have b41:=F41.binds (ps:=["self","xs","ys"]) λ_ _ _ _ _ _=>fe (λ_ _ _=>rfl)
 have F42:=bw (st:=xw) Ol Om Oo
 have b42:=F42.binds (ps:=["field","row","c","place"]) λ_ _ _ _ _ _=>mq (λ_ _ _ _=>rfl)
 have F43:=bw (st:=xx) Ot Ou Ov
 have b43:=F43.binds (ps:=["a","length"]) λ_ _ _ _ _ _=>gz (λ_ _=>rfl)
 have F44:=bw (st:=xy) Ox Oy Oz
 have b44:=F44.binds (ps:=["field","a","b"]) λ_ _ _ _ _ _=>fe (λ_ _ _=>rfl)
 have F45:=bw (st:=xA) OA OB EY
 have b45:=F45.binds (ps:=["self","a","row"]) λ_ _ _ _ _ _=>fe (λ_ _ _=>rfl)
 have F46:=bw (st:=xB) OC OD EZ
 have b46:=F46.binds (ps:=["self","a","row"]) λ_ _ _ _ _ _=>fe (λ_ _ _=>rfl)
 have F47:=bw (st:=xC) OE OF Bf
 have b47:=F47.binds (ps:=["self","a","b"]) λ_ _ _ _ _ _=>fe (λ_ _ _=>rfl)
 have F48:=bw (st:=xD) OH OI OJ
 have b48:=F48.binds (ps:=["field","row"]) λ_ _ _ _ _ _=>gz (λ_ _=>rfl)
 have F49:=bw (st:=xE) OL OM ON
 have b49:=F49.binds (ps:=["field","finder","length"]) λ_ _ _ _ _ _=>fe (λ_ _ _=>rfl)
 have F50:=bw (st:=xF) OP OQ OR
 have b50:=F50.binds (ps:=["field","lost","sums","length"]) λ_ _ _ _ _ _=>mq (λ_ _ _ _=>rfl)
 have F51:=bw (st:=xG) OT OU OV
 have b51:=F51.binds (ps:=["table"]) λ_ _ _ _ _ _=>g8 (λ_=>rfl)
 have F52:=bw (st:=xH) OX OY OZ
 have b52:=F52.binds (ps:=["rows","place"]) λ_ _ _ _ _ _=>gz (λ_ _=>rfl)
 have F53:=bw (st:=xI) O0 O1 E1
 have b53:=F53.binds (ps:=["self","row","a","other"]) λ_ _ _ _ _ _=>mq (λ_ _ _ _=>rfl)
 have F54:=bw (st:=xJ) O2 O3 E2
 have b54:=F54.binds (ps:=["self","row","a","other"]) λ_ _ _ _ _ _=>mq (λ_ _ _ _=>rfl)
 have F55:=bw (st:=xK) O5 O6 O7
 have b55:=F55.binds (ps:=["field","rows","lead_row","place"]) λ_ _ _ _ _ _=>mq (λ_ _ _ _=>rfl)
 have F56:=bw (st:=xM) O9 Pa Pb
 have b56:=F56.binds (ps:=["field","table"]) λ_ _ _ _ _ _=>gz (λ_ _=>rfl)
 have F57:=bw (st:=xN) Pd Pe Pf
 have b57:=F57.binds (ps:=["rows"]) λ_ _ _ _ _ _=>g8 (λ_=>rfl)
 have F58:=bw (st:=xO) Ph Pj Pk
 have b58:=F58.binds (ps:=["table","due"]) λ_ _ _ _ _ _=>gz (λ_ _=>rfl)
 have F59:=bw (st:=xP) Pm Pn Po
 have b59:=F59.binds (ps:=["field","table","due"]) λ_ _ _ _ _ _=>fe (λ_ _ _=>rfl)
 have F60:=bw (st:=xR) Pq Pr Pt
 have b60:=F60.binds (ps:=["field","first","places","sums"]) λ_ _ _ _ _ _=>mq (λ_ _ _ _=>rfl)
 have F61:=bw (st:=xS) Pw Px Py
 have b61:=F61.binds (ps:=["field","word","places","signs"]) λ_ _ _ _ _ _=>mq (λ_ _ _ _=>rfl)
 have F62:=bw (st:=xT) PB PC PD
 have b62:=F62.binds (ps:=["field","first","extra","word"]) λ_ _ _ _ _ _=>mq (λ_ _ _ _=>rfl)
 have F63:=bw (st:=xU) PH PJ PK
 have b63:=F63.binds (ps:=["_law_x"]) λ_ _ _ _ _ _=>g8 (λ_=>rfl)
 have F64:=bw (st:=xV) jW PM PN
 have b64:=F64.binds (ps:=["_law_found","_law_many_here"]) λ_ _ _ _ _ _=>gz (λ_ _=>rfl)
 have F65:=bw (st:=oa) PQ PR PU
 have b65:=F65.binds (ps:=["_law_script"]) λ_ _ _ _ _ _=>g8 (λ_=>rfl)
 have T:Txt K mg ⟨f0,_,f1,_,f2,_,f3,_,f4,_,f5,_,f6,_,f7,_,f8,_,f9,_,D6,_,D7,_,lV,_,x4,_,D8,_,D9,_,Ea,_,Eb,_,Ec,_,Ee,_,Ef,_,Eg,_,Eh,_,Ei,_,u3,_,Ej,_,Ek,_,El,_,Em,_,x6,_,x8,_,x9,_,ya,_,Eo,_,Ep,_,Er,_,Es,_,yb,_,yc,_,Et,_,yd,_,ye,_,Eu,_,Ew,_,Ey,_,yf,_,yg,_,qB,_,Ez,_,EA,_,EB,_,EC,_,ED,_,yh,_,yi,_,EE,_,EF,_,EG,_,EH,_,EI,_,EJ,_,EK,_,EL,_,EM,_,EN,_,fa,_,Bd,kN,Be,kO,aK,hJ,kP,aM⟩:=⟨F0,mg_of X G a0,b0,F1,mg_of X G a1,b1,F2,mg_of X G a2,b2,F3,mg_of X G a3,b3,F4,b4,F5,b5,F6,mg_of X G a6,b6,F7,b7,F8,mg_of X G a8,b8,F9,mg_of X G a9,b9,ν,mg_of X G Mn,b10,ξ,mg_of X G Mr,b11,ο,mg_of X G Mv,b12,ρ,b13,τ,mg_of X G ME,b14,υ,mg_of X G MI,b15,χ,mg_of X G MM,b16,ω,mg_of X G MR,b17,Γ,mg_of X G MV,b18,Δ,mg_of X G MZ,b19,Θ,mg_of X G M4,b20,Λ,mg_of X G M8,b21,Ξ,mg_of X G Nc,b22,Φ,mg_of X G Nh,b23,Ψ,mg_of X G Nl,b24,Ω,mg_of X G Np,b25,F26,mg_of X G Nv,b26,F27,mg_of X G Nz,b27,F28,mg_of X G ND,b28,F29,b29,F30,b30,F31,b31,F32,b32,F33,mg_of X G NQ,b33,F34,mg_of X G NU,b34,F35,mg_of X G NY,b35,F36,mg_of X G N3,b36,F37,b37,F38,b38,F39,mg_of X G Ob,b39,F40,b40,F41,b41,F42,mg_of X G Oj,b42,F43,mg_of X G Oq,b43,F44,mg_of X G Ow,b44,F45,b45,F46,b46,F47,b47,F48,mg_of X G OG,b48,F49,mg_of X G OK,b49,F50,mg_of X G OO,b50,F51,mg_of X G OS,b51,F52,mg_of X G OW,b52,F53,b53,F54,b54,F55,mg_of X G O4,b55,F56,mg_of X G O8,b56,F57,mg_of X G Pc,b57,F58,mg_of X G Pg,b58,F59,mg_of X G Pl,b59,F60,mg_of X G Pp,b60,F61,mg_of X G Pu,b61,F62,mg_of X G Pz,b62,F63,mg_of X G PF,b63,F64,mg_of X G PL,b64,F65,mg_of X G E3,b65,rfl,Mm,rfl,MD,⟨E4,at2,E5,E6⟩,⟨AA,PV,PX,PY⟩,⟨⟨E4,at2,E5,E6⟩,PZ,P0,P1,P2⟩,AB,qu,tU,qv,DR,og,AD,AE,⟨AF,P4,EW⟩,⟨AG,P5,E1⟩,⟨AH,P6,EU⟩,⟨AI,P7,Bf⟩,⟨AJ,P8,EO⟩,⟨AK,P9,EY⟩,⟨tV,Qa,k4⟩,⟨AL,Qb,ES⟩,⟨E7,E8,E9,Fb⟩,⟨AM,Qc,Qe,Qf⟩,⟨⟨E7,E8,E9,Fb⟩,Qg,Qh,Qi,Qj⟩,DS,tW,tX,tY,kQ,DT,AN,AO,⟨AQ,Qk,EX⟩,⟨AR,Ql,E2⟩,⟨AS,Qm,EV⟩,⟨AU,Qn,Bf⟩,⟨AV,Qo,ER⟩,⟨AW,Qp,EZ⟩,⟨tZ,Qq,k4⟩,⟨AX,Qr,ET⟩,⟨Qs,Qt,Qu,k5⟩,mg_none_of X G Qv,mg_none_of X G Qw,mg_none_of X G Qx,mg_none_of X G Qy,mg_none_of X G Qz,mg_none_of X G QB,mg_none_of X G QC,mg_none_of X G QD,mg_none_of X G QE,mg_none_of X G QF,mg_none_of X G QG,mg_none_of X G QH,mg_none_of X G QI,mg_none_of X G QJ,mg_of X G AY,mg_of X G AZ,mg_of X G xW,mg_of X G A6,cQ5 (mg_of X G AZ) QL,⟨QK,QM,QN,QO,QP,QQ,QR,QS⟩⟩
 exact⟨fnOf "law" "law" (bg oa) (aX oa) (ax oa) .none ZT ZU ZV ZS Mj ZW,λs v=>.of_eq rfl,λbase _ _ hB=>(cQ4 T hB).imp λvs H Q E h=>let z:=ck3 nl h;⟨λP hP=>z.1 P (sub P hP),z.2⟩⟩
theorem aI1{K:Frag}{h:Heap}{c f k P:Addr}{od an:Option Addr}{sl:Array (Option Value)}{oc kV dc pm ct kt:Value}{ko:Option Addr}{ks:Array (Option Value)}{kf:Array Value}(X:K.In h)(a:nsIn K mainGlobals "PrimeField"=some (some (.ref c)))(b:findIn K (.ref c) "__init__"=some (some (.ref f)))
  (l:K.lookup f=some ⟨oc,od,.func (fnOf "__init__" "PrimeField.__init__" (bg nZ) (aX nZ) (ax nZ) .none kV dc pm an (.ref k) ct),sl⟩) (lk:K.lookup k=some ⟨kt,ko,.fields kf,ks⟩) (lp:kf[11]?=some (.ref P)) (n:K.lookup P=none) (e:codeHdIn K k P=true):K.lookup P=none/\∃c,CodeHd h c P:=⟨n,k,PySem.W.codeHd_of_K X e⟩
theorem aL9{K:Frag}{h:Heap}{c f k P:Addr}{od an:Option Addr}{sl:Array (Option Value)}{oc kV dc pm ct kt:Value}{ko:Option Addr}{ks:Array (Option Value)}{kf:Array Value}(X:K.In h)(a:nsIn K mainGlobals "BitField"=some (some (.ref c)))(b:findIn K (.ref c) "__init__"=some (some (.ref f)))
  (l:K.lookup f=some ⟨oc,od,.func (fnOf "__init__" "BitField.__init__" (bg n8) (aX n8) (ax n8) .none kV dc pm an (.ref k) ct),sl⟩) (lk:K.lookup k=some ⟨kt,ko,.fields kf,ks⟩) (lp:kf[11]?=some (.ref P)) (n:K.lookup P=none) (e:codeHdIn K k P=true):K.lookup P=none/\∃c,CodeHd h c P:=⟨n,k,PySem.W.codeHd_of_K X e⟩
theorem walk{l:PySem.W.OpenLaw}{q:Program}{loose:List Str}{XP:(Str->Option Value)->Heap->Prop}{YP:World->Heap->Prop}{d:DefRec}{K:Params->Frag}{ts:List Addr}(hn:l.most=some 63)(zf:d.params.defaults=[])
  (hY:∀(w:World) (h:Heap),YP w h->(K w.params).In h/\∀P∈ts,h.get? P=some (PySem.W.tabObj #[]))
  (hC:∀(w:World) (h:Heap),(K w.params).In h->∀P∈ts,(K w.params).lookup P=none/\∃c,CodeHd h c P)
  (F:∀(w:World) (mg:Str->Option Value) (fa:Addr) (h:Heap),(K w.params).In h->h.Ns mainGlobals mg->mg d.name=some (.ref fa) ->
   ∃fd:FuncData,(∀(s:Shared) (u:Value),BindsTo s fd ⟨[u],[]⟩ [("_law_script",u)])/\∀base:Heap,(K w.params).In base->base.Ns mainGlobals mg->Bm mg base->aN l.prog w (K w.params) mg base aS 11 fa fd ["_law_script"] (CD ts (K w.params))) :
  PySem.W.WalkO q loose XP YP l.row.toRowW d [] (λf vs=>PySem.call f vs) :=
 L2.dP2 (n:=63) (k:=11) (x:="_law_script") (CX:=λ_=>aS) (sp:=λw=>CD ts (K w.params)) hn (by decide) zf ⟨rfl,by decide,by decide⟩ hY hC F (λ_ _ a ns hl hO hS=>⟨a,ns,rfl,hO,hS,hl,λ_=>rfl⟩) λ_ _ _ _ _ z=>z
end HK27
set_option genInjectivity false in
set_option genSizeOf false in
structure PySem.W.Fast:Prop where
 (tw13954881183568245888 tw13887798007583425728 tw18287252043160976608 tw16585602509131480288 tw1081082701367920896 tw4380959329846336800 tw13197757075975752992 tw1337698423284662592 tw2315256852762390912 tw10022805618372514208 tw17688813517650218400 tw14369641211570277824 tw5107668732904106432 tw11734982241331512800 tw16668124493312778720 tw17054222482685958720 tw4977771580673721952 tw14045248182612751968 tw17113075041478545088 tw1315458432912263936 tw15906709516289367840 tw16467194121933545312 tw1795661686418859904 tw1461075552473978848 tw8385886734731885536 tw16390743305294642209 tw436873568150617153 tw7822984378365908097 tw9555672495476315297 tw2664561286548251809 tw10895997820723934433 tw18126283204372166881 tw5432513214833277217 tw12793222375344874913 tw9783374888649273761 tw8047916182083156385 tw8328776622778567137 tw9973511954211580417 tw11487935040244326113 tw1107760782771546849:True)
 (tw683474590116110081 tw8827368049038363393 tw8337223538980182785 tw15255179189440883489 tw8782916585997143905 tw13482752861613722497 tw344318499768181665 tw12179690351193081761 tw11965958771752065985 tw18130450496029275105 tw15015758107726104610 tw9370077527503449154 tw1024563684084786274 tw13572662971218993282 tw6319644989626699906 tw4529886641853594754 tw16740248417467929762 tw11601261335209001154 tw6717277524002629826 tw281376776776230114 tw2828799489492389122 tw9926536945166555426 tw6681993387417606434 tw2150370304213097794 tw6408090006255260994 tw10370252640476969346 tw6927361140477952418 tw13806570634304681378 tw2238212297824769538 tw15668294944082750978 tw8209074715716875778 tw9154507809080185410 tw14560628048224938594 tw10869551348990085155 tw18332086855557730339 tw953375834167123011 tw17666692919353260099 tw8841686487331295299 tw6391601747982019651 tw10687029342077690979:True)
 (tw9570447817235074179 tw17487678091389380739 tw10372888697295701155 tw9854854082572721347 tw7967383924940384547 tw1348857628500787523 tw309390944355050883 tw6585716903341369763 tw12510392209398151587 tw7436971445274863011 tw17040924295324716483 tw7138357810862296739 tw17797038319696658083 tw4272354325880292003 tw16398771805741116067 tw17221798205910546115 tw17189165494414641891 tw6685375224909662947 tw10264840929490407139 tw13915161373940317955 tw5652033817550749475 tw347953162291916643 tw13034743726749053956 tw8039822494598369348 tw8776414639142599780 tw6752636274128312484 tw8744609795193164004 tw5875152216475322756 tw4595616224692491684 tw6880145466459131364 tw5392119207688666596 tw2572691409455330820 tw8628561054548089380 tw7821536675619832388 tw12585252531136426564 tw7325964587382301284 tw11382016415299708612 tw1338870297395629860 tw13011570533731165189 tw7794140490634801189:True)
 (tw15384155656432505989 tw7624562427009988741 tw17794667140346712261 tw12055249922334628069 tw8741787543786760421 tw4735843769249479909 tw11442995466769204485 tw13620667352354371845 tw2952676016099708229 tw11176645531650677125 tw3525865530174333349 tw1955309168756702661 tw8607884981891768805 tw1573102529653210597 tw17727123475787681285 tw12538944328222473733 tw13617709771483382309 tw4854727718188093029 tw12073373834474177221 tw4675302993446607589 tw7961967287688331013 tw885603383463329573 tw6457825820299379589 tw17248460288367945701 tw14632307081365224486 tw5763012088416922758 tw1573687457849876646 tw367170004529245350 tw17457979410770548934 tw9788049069505987846 tw16140984057779743014 tw6008086094018765126 tw7482809550288711014 tw3962348675186234790 tw10019210478958689734 tw11985907280814876134 tw17158025755396856326 tw13820919387398336006 tw17096848434439645734 tw9077855491783176870:True)
 (tw14415713958035870406 tw7801814416012419782 tw18096601549057936102 tw5827447484256812774 tw7481155065895577350 tw17244416068174770982 tw9665901518025139014 tw12912715662177209190 tw14771962680808482758 tw18431139813268958215 tw17140446682432694311 tw14247334872172148807 tw1790339411625171015 tw17907586992448253095 tw17048970131092678919 tw10404990496604670311 tw8520768187636908487 tw1329351010974970375 tw3434181222459307559 tw11761258509460085319 tw13303427341355109959 tw9177023929655593575 tw15213842777748891271 tw16717177950409229991 tw10852555204162176711 tw17341366171198413511 tw755498579323019015 tw17128070403373323047 tw4633010390571254599 tw4341065935050510215 tw13854960365897680807 tw3733223815147769767 tw12051388585618936807 tw8241305367832440840 tw3838460383864664072 tw697475949584821320 tw17678102493665452232 tw1122710845629822152 tw16621939101896094952 tw13939638123895696712:True)
 (tw10590489620844098952 tw1753547476985566632 tw3109540414439296488 tw13177507200545268232 tw14948268683415503528 tw6560092733181254344 tw10332192445872031528 tw15236200142087091112 tw2218989828860755912 tw17365722548101461992 tw13056047834735074313 tw16159893485603417097 tw12522590523684913193 tw2116578054905074729 tw16746414061872590985 tw17801029913879998665 tw2480925729558404329 tw13267267048993156329 tw10264814650592117001 tw8519824049508112681 tw17010814981931913609 tw571603386333207081 tw627038436722964009 tw3286444426936708745 tw15559284222642507593 tw3340840141904959305 tw14422970696480498698 tw1278222571139524618 tw9755069523396586570 tw17480401220274113610 tw8471194635922138250 tw8026409649886672042 tw4953597018640199882 tw4733131746450442474 tw11421347276735933674 tw12558963189903041834 tw8031906952586891594 tw11621450105034016138 tw8505413989336403338 tw12292521678264158634:True)
 (tw16315253039799336458 tw15077877332965726762 tw3705824163941721642 tw13109989771317419594 tw12135526001829620298 tw12160113855507620426 tw15839904908803504714 tw2146974740248672938 tw725177864391205610 tw13434599709573056298 tw4259602116346039242 tw13833941587134086090 tw16859243022037221322 tw16694348578671626379 tw10750320748014078123 tw8578656607210084555 tw11481588599005822187 tw5219073179875497259 tw10522866247799408971 tw669535594460529995 tw10619930730071498155 tw17877321925543432683 tw17029668548150278731 tw10389548229727138379 tw12795077819668268683 tw6306968460828253867 tw10873907286674029227 tw2937586835599147755 tw15593447287492948875 tw5648755220520302507 tw6971442852959725547 tw9002743393914632236 tw5391396650695656524 tw1562894489684910156 tw13417354624000101484 tw4294681992696564844 tw10443131878249279660 tw5438005123227974860 tw621229660206172396 tw12346524693485302028:True)
 (tw5646040635117624652 tw2663939816569704812 tw2235711580362522988 tw1537121207255607756 tw9299642976890963404 tw16995630234296610284 tw5144692727411473932 tw7000331596880635468 tw16843372023749792396 tw12017661884809434764 tw14238403559155302060 tw12952382542331463436 tw1036852237831043884 tw8474807592330819468 tw15207342734516305836 tw15411487266140837836 tw8232614074594540524 tw9684215339327800333 tw7357196792621757517 tw5243109935530333357 tw9425327528437259437 tw5494053790255834285 tw16999318494641847501 tw12465703033023609133 tw4356992737291651437 tw15400227462181561741 tw10382028739992531341 tw5550796901419429357 tw17352017639348170317 tw15328103545013340749 tw9170568337685433965 tw3112772515651728013 tw1141324265145070253 tw3657088799620102893 tw4518302357966094061 tw18002199606662691597 tw13037007613794353997 tw10047840321526885229 tw5451518059602440109 tw16609420639126508493:True)
 (tw12357784699359169582 tw13837186499785670766 tw4633755349200520334 tw3959623674363824270 tw14303204705373071726 tw8943328133082124686 tw15736470532503134606 tw3161680715063865870 tw7239854882167643662 tw4322485834230318638 tw2349500028804021806 tw5555798400416993902 tw11166565104587137646 tw7343331955460752014 tw17737865642607440590 tw5387289985032547022 tw15226066966205853454 tw3348835778039170862 tw17389872770141952878 tw7556331811113413486 tw15342309973625617262 tw13683845698052565934 tw12016412159989046222 tw1459676201616660527 tw4220473390859152463 tw9197131666432697519 tw12149134885861344463 tw14210029077652583663 tw6414817361795410159 tw3616326260893270287 tw8666752445992696079 tw11363605377411990831 tw8297403302451491151 tw16330503276118993295 tw7102312617536227759 tw11732069656029516207 tw11126864022703445487 tw280767120046348815 tw4865446085591973423 tw2753694925965157967:True)
 (tw13687976097696418415 tw16692812006799952527 tw4942265616800325391 tw4410847930667455279 tw14923538037847110511 tw12304682718196620143 tw14355257141944523759 tw1414489241959455792 tw12893442692115785808 tw208160430924932176 tw7950188689477635248 tw3817771385404450992 tw2268368150778968304 tw4933756480272599408 tw6757616334803925360 tw1262407845858288048 tw11930290049802125744 tw16711684111180766672 tw15565166597933242864 tw5088078240919498224 tw15355454032134853104 tw18001316586036538928 tw3517952256130514544 tw11685314900020226704 tw12817136940288368336 tw14515210399036187376 tw6700657522337831728 tw14792708923583170384 tw1264861169790462832 tw11493050234284234640 tw7636698522185113520 tw16837467958914886576 tw5351229671171104752 tw15914209697350354961 tw7570088290547779601 tw6410013245468441617 tw12354328254400419985 tw7141201136922452113 tw6613914386812134545 tw5702329689463899313:True)
 (tw11967317301344766161 tw9311615876007945617 tw12562548712511930801 tw75906344027758001 tw2062387239096868273 tw8362886315778747921 tw11339048678315897425 tw17458845497642558097 tw16466925486691105425 tw7538844859763349201 tw9094390916097904401 tw6044093056706461457 tw2992385212757295889 tw1835394292493040433 tw11789332772581460913 tw10121340183424749489 tw2830280970232229841 tw3742647612687394801 tw4101475631846649841 tw12946264038591836178 tw6141397805946958866 tw5188382450855206962 tw1059663414121831506 tw4989916865664032946 tw11828560781769129138 tw677203213871903954 tw10507831885872387314 tw2182187905246278962 tw13658756497624134962 tw18409258413636813170 tw8321863039699140978 tw16659468666927853010 tw11904385288354190866 tw14274350958722700850 tw649437566693201554 tw3630686430573777650 tw15034677764854277042 tw792046204851320754 tw2013573805333919763 tw12063414234608579699:True)
 (tw9759207098040132755 tw16913093988590408851 tw2238952901948416211 tw15770039721253699827 tw14405857371183064339 tw14804082831255060819 tw12129231411587865939 tw3094913777367114067 tw13074673703884255571 tw9801503426156215731 tw9209406455533437395 tw15791878247463835091 tw12227076587017008627 tw11961214797184708147 tw13165124886115378803 tw3510603044929472115 tw7956278145395795603 tw11475143111411002003 tw9009131451445622451 tw5117817675873305331 tw9756096032482104083 tw6321788543241059091 tw11089649948811385651 tw2435797132460871635 tw2946230153589064691 tw16666617159321323507 tw10398332864232662003 tw11513235607806255124 tw8906495730968660084 tw14267318902173145268 tw11278947550730604724 tw2523139449525563604 tw1588376955028085972 tw17968789348745188628 tw3888125344632270100 tw13563447723365618036 tw18009128054659605908 tw15457505972363481524 tw14596902560701129172 tw8002642349560214068:True)
 (tw17768610074032657972 tw3617552586968182388 tw5947247491057034900 tw829936920599933588 tw17898665535937631892 tw1262249054759501492 tw4795873169116254996 tw16779294840298639124 tw351595600349467476 tw1340699445095304180 tw7064395157766266901 tw8061642398507915509 tw11617614166872687925 tw7322210241360672117 tw3499239406579708277 tw17216229655254822293 tw7724828916398883253 tw9154017115171602901 tw6095593036374402581 tw16793987831488462421 tw10226817606650283637 tw10069148965646708373 tw17677786618471184021 tw1955533580759140021 tw2292998737810889429 tw10224250594159611637 tw10932386873550171925 tw9365764257046930229 tw11081200653009640245 tw16953490510755503957 tw8158323370434559893 tw2739753495057570741 tw820646509328158645 tw4593942041380249525 tw9615608465732036662 tw8116134469736474710 tw449439272752080982 tw17759450384856468630 tw14661454661798153366 tw13319885626961727670:True)
 (tw2086049500844344534 tw2183165406656918742 tw13773111169071166806 tw4690747100757833046 tw6779028359197477238 tw5064112767049477622 tw3129614757864463862 tw2774016931168351798 tw15833284784638547542 tw13229377405822677686 tw18051433691320948438 tw7524627980745177878 tw13179634145646439254 tw13360670380646121334 tw3756320009301026678 tw14261761474214068086 tw4136972057135517590 tw7064425003034982294 tw5749286680873872342 tw17096807751615378390 tw11082912306735472630 tw10336096610624221207 tw5919072858333341751 tw8688664105532509271 tw7386315815093775479 tw1713720664888177783 tw13391948613644763319 tw17554722970344071415 tw10286192655241533687 tw15806069198562352375 tw17266767285887754583 tw185926019735442807 tw7021461354364962199 tw9042315218806098327 tw10548152529435685271 tw1419591145081606615 tw2313781084272532951 tw5826824851910210039 tw1154262890015249015 tw2035539238647899799:True)
 (tw11980962258842351255 tw6608673338175537911 tw2351617336595184375 tw7562614519377866776 tw901275655731375128 tw18121569278368389176 tw12638855580674097368 tw15888725751268014296 tw10228772203920078072 tw10115221545388162392 tw12638356110675307864 tw14277951554978432376 tw15024995965879558584 tw2456334792030722584 tw11540631393814994456 tw643028712615672376 tw12254467679911518872 tw9916832987013535384 tw1188333705144473304 tw7052460669871648472 tw10114722121815376632 tw13078204189021534008 tw9884376692262699864 tw9590163495926706040 tw14661496034716310424 tw12931371770986171417 tw17989709953940816985 tw10954227717087002745 tw9167038921163684985 tw5453147041946923129 tw5891888823965751449 tw6981537040767901849 tw18129453442621183257 tw5578994270689180953 tw10103392776900337945 tw8531761791349907769 tw8062590206097112409 tw2411815579247470937 tw14962392297756402041 tw16586290260816791961:True)
 (tw16239619948815593913 tw11401866582134952505 tw10231827804036250169 tw5842665889731792505 tw1367231809090884249 tw4981034286408992409 tw6963040683356799705 tw377099376922728281 tw17843653700462591961 tw13668470779245238265 tw3710519011072497690 tw11393517769676952634 tw986900686559445210 tw9526752794889493850 tw1414968698161674586 tw11651967689868978554 tw11918956064650794458 tw44551575902756314 tw15767547420618163994 tw7573215949685476154 tw12451777330751737690 tw1334015963456690074 tw16511481352575572922 tw18336199284826480602 tw9261426089549755354 tw5817130559877286906 tw11872163204133603355 tw1251605445054174267 tw12991243673233857659 tw16565374598593487995 tw10377697157116801243 tw1567759230355072251 tw5684386336336902395 tw7887836883121114459 tw7705892031787253083 tw16605706287379295611 tw1914035142178189691 tw2750653697661508091 tw11121340341590389307 tw4699310021214840411:True)
 (tw6535413685288270427 tw18124079992070421115 tw14948320141361142395 tw11390549715832779483 tw9927293104742575867 tw14554529213462205371 tw3483915753717693435 tw17966920038215224508 tw6366757939587200348 tw15182905850600801628 tw4439174128012982620 tw15643407905716373884 tw5183942782765938044 tw2694956071125234140 tw2143216831630653948 tw16818384745282326012 tw16581328029016745468 tw17295162830856151580 tw9278393850885561916 tw9436988424438341212 tw10843621406605883100 tw9039967318523278076 tw6655212842529239836 tw4682766169171893116 tw16314535436897010652 tw14092784362982088829 tw17508051452491689085 tw16294045873357523101 tw4045319601493941661 tw1619214668636039581 tw2744928596409169341 tw17580017550981192253 tw17835855661366668893 tw9680966884322362013 tw511331331157394109 tw9048878626673224413 tw1738946940929614621 tw7585401154657490781 tw16297866336193300317 tw7096043184299749277:True)
 (tw3023578876634599421 tw8451400381150281725 tw16410077301338507294 tw11008938005457681438 tw17158595431621879838 tw4712403988168111134 tw8259545159268144190 tw14935353251585537086 tw8793279837035258974 tw16543274666454391966 tw8302611677831810302 tw11898429988081342814 tw36976348270851422 tw7846936316438747550 tw1088767679198052766 tw1754979333761862078 tw10391157870531435966 tw1738015610314718686 tw10432090765931250174 tw758879719343558142 tw11406593864353678942 tw5723468061281458782 tw18152533001255197278 tw14554792469650046590 tw5174993168128414430 tw13950452309770944222 tw4404587500951423710 tw1483523724194908926 tw18444059867066305278 tw10666950689470829310 tw6636789267450423038 tw15096965890297050942 tw11926581746693762878 tw7300419239790034782 tw10244450044982802366 tw13188431507959908318 tw14569484473695910878 tw423267068401800158 tw13551159739483168766 tw13311410748541000735:True)
 (tw1518865851712675935 tw9543757743663066239 tw6690186748215037087 tw6342157033523267743 tw4615568911178680511 tw12181879845411117247 tw5893223825264829695 tw6798895112529959231 tw13882774128309514655 tw12033030039167614367 tw693215263409872319 tw17897488706051415487 tw15375574929516198335 tw12792116980064845247 tw1796804190679690783 tw16654377042224181791 tw1920066039278299711 tw15946576124283616863 tw3548155707032968863 tw15416716413158825663 tw13590207468683757311 tw11370762199701359359 tw5059426843549252351 tw17614205020547867519 tw2348350757050271679 tw16767479199918247871 tw17692441839812452319 tw16092498361020228607 tw2088093526308114034:True)
open PySem PySem.W PyProof.Rows
set_option maxRecDepth 100000 in
set_option maxHeartbeats 0 in
theorem PySem.Challenge.cw_mendfield_k27_nearest_turned_holds : PySem.Challenge.rw_mendfield_k27_nearest_turned.Holds := by
 w_on;o_law;k_head;(case hw=>w_witness2)
 k_fill
 refine HK27.walk (l:=PySem.Challenge.rw_mendfield_k27_nearest_turned) rfl rfl (λw h Y=>⟨PySem.W.km_in_of Y,PySem.W.km_tabs_of Y⟩) ?C ?F
 case C =>
  intro w h hX
  repeat' (first | exact List.forall_mem_nil _ | refine List.forall_mem_cons.mpr ⟨?_,?_⟩)
  all_goals first | (refine' HK27.aI1 hX ?a ?b ?l ?lk ?lp ?n ?e;(case a=>k_is);(case b=>k_is);(case l=>k_is);(case lk=>k_is);(case lp=>first | rfl | with_unfolding_all rfl);(case n=>kernel_rfl);(case e=>kernel_rfl)) | (refine' HK27.aL9 hX ?a ?b ?l ?lk ?lp ?n ?e;(case a=>k_is);(case b=>k_is);(case l=>k_is);(case lk=>k_is);(case lp=>first | rfl | with_unfolding_all rfl);(case n=>kernel_rfl);(case e=>kernel_rfl))
 case F =>
  intro w mg fa h KX G zh
  refine' HK27.all_mk KX G zh ?AY ?AZ ?xW ?A6 ?a0 ?l0 ?c0 ?k0 ?a1 ?l1 ?c1 ?k1 ?a2 ?l2 ?c2 ?k2 ?a3 ?l3 ?c3 ?k3 ?a4 ?l4 ?c4 ?k4 ?a5 ?l5 ?c5 ?k5 ?a6 ?l6 ?c6 ?k6 ?a7 ?l7 ?c7 ?k7 ?ZX ?ZY ?Mm ?a8 ?l8 ?c8 ?k8 ?a9 ?l9 ?c9 ?k9 ?Mn ?Mo ?Mp ?Mq ?Mr ?Ms ?Mt ?Mu ?Mv ?Mw ?Mx ?Mz ?ZZ ?MA ?MB ?MC ?Z0 ?Z1 ?MD ?ME ?MF ?MG ?MH ?MI ?MJ ?MK ?ML ?MM ?MN ?MP ?MQ ?MR ?MS ?MT ?MU ?MV ?MW ?MX ?MY ?MZ ?M0 ?M1 ?M3 ?M4 ?M5 ?M6 ?M7 ?M8 ?M9 ?Na ?Nb ?Nc ?Nd ?Nf ?Ng ?Nh ?Ni ?Nj ?Nk ?Nl ?Nm ?Nn ?xZ ?Np ?Nq ?Nt ?Nu ?Nv ?Nw ?Nx ?Ny ?Nz ?NA ?NB ?NC ?ND ?NF ?NG ?NH ?Z2 ?NI ?NJ ?EO ?Z3 ?NK ?NL ?ER ?Z4 ?NM ?NN ?ES ?Z5 ?NO ?NP ?ET ?NQ ?NR ?NS ?NT ?NU ?NV ?NW ?NX ?NY ?NZ ?N0 ?N2 ?N3 ?N4 ?N5 ?N6 ?Z6 ?N7 ?N8 ?EU ?Z7 ?N9 ?Oa ?EV ?Ob ?Oc ?Od ?Oe ?Z8 ?Of ?Og ?EW ?Z9 ?Oh ?Oi ?EX ?Oj ?Ol ?Om ?Oo ?Oq ?Ot ?Ou ?Ov ?Ow ?Ox ?Oy ?Oz ?ε ?OA ?OB ?EY ?ζ ?OC ?OD ?EZ ?η ?OE ?OF ?Bf ?OG ?OH ?OI ?OJ ?OK ?OL ?OM ?ON ?OO ?OP ?OQ ?OR ?OS ?OT ?OU ?OV ?OW ?OX ?OY ?OZ ?θ ?O0 ?O1 ?E1 ?ι ?O2 ?O3 ?E2 ?O4 ?O5 ?O6 ?O7 ?O8 ?O9 ?Pa ?Pb ?Pc ?Pd ?Pe ?Pf ?Pg ?Ph ?Pj ?Pk ?Pl ?Pm ?Pn ?Po ?Pp ?Pq ?Pr ?Pt ?Pu ?Pw ?Px ?Py ?Pz ?PB ?PC ?PD ?PF ?PH ?PJ ?PK ?PL ?jW ?PM ?PN ?E3 ?PQ ?PR ?PU ?E4 ?at2 ?E5 ?E6 ?AA ?PV ?PX ?PY ?PZ ?P0 ?P1 ?P2 ?AB ?qu ?tU ?qv ?DR ?og ?AD ?AE ?AF ?P4 ?AG ?P5 ?AH ?P6 ?AI ?P7 ?AJ ?P8 ?AK ?P9 ?tV ?Qa ?AL ?Qb ?E7 ?E8 ?E9 ?Fb ?AM ?Qc ?Qe ?Qf ?Qg ?Qh ?Qi ?Qj ?DS ?tW ?tX ?tY ?kQ ?DT ?AN ?AO ?AQ ?Qk ?AR ?Ql ?AS ?Qm ?AU ?Qn ?AV ?Qo ?AW ?Qp ?tZ ?Qq ?AX ?Qr ?Qs ?Qt ?Qu ?Qv ?Qw ?Qx ?Qy ?Qz ?QB ?QC ?QD ?QE ?QF ?QG ?QH ?QI ?QJ ?QK ?μ ?QL ?QM ?QN ?QO ?QP ?QQ ?QR ?QS ?nl ?sub
  (case AY=>k_is)
  (case AZ=>k_is)
  (case xW=>k_is)
  (case A6=>k_is)
  (case a0=>k_is)
  (case l0=>k_is)
  (case c0=>k_is)
  (case k0=>k_is)
  (case a1=>k_is)
  (case l1=>k_is)
  (case c1=>k_is)
  (case k1=>k_is)
  (case a2=>k_is)
  (case l2=>k_is)
  (case c2=>k_is)
  (case k2=>k_is)
  (case a3=>k_is)
  (case l3=>k_is)
  (case c3=>k_is)
  (case k3=>k_is)
  (case a4=>k_is)
  (case l4=>k_is)
  (case c4=>k_is)
  (case k4=>k_is)
  (case a5=>k_is)
  (case l5=>k_is)
  (case c5=>k_is)
  (case k5=>k_is)
  (case a6=>k_is)
  (case l6=>k_is)
  (case c6=>k_is)
  (case k6=>k_is)
  (case a7=>k_is)
  (case l7=>k_is)
  (case c7=>k_is)
  (case k7=>k_is)
  (case ZX=>k_is)
  (case ZY=>first | rfl | with_unfolding_all rfl)
  (case Mm=>kernel_rfl)
  (case a8=>k_is)
  (case l8=>k_is)
  (case c8=>k_is)
  (case k8=>k_is)
  (case a9=>k_is)
  (case l9=>k_is)
  (case c9=>k_is)
  (case k9=>k_is)
  (case Mn=>k_is)
  (case Mo=>k_is)
  (case Mp=>k_is)
  (case Mq=>k_is)
  (case Mr=>k_is)
  (case Ms=>k_is)
  (case Mt=>k_is)
  (case Mu=>k_is)
  (case Mv=>k_is)
  (case Mw=>k_is)
  (case Mx=>k_is)
  (case Mz=>k_is)
  (case ZZ=>k_is)
  (case MA=>k_is)
  (case MB=>k_is)
  (case MC=>k_is)
  (case Z0=>k_is)
  (case Z1=>first | rfl | with_unfolding_all rfl)
  (case MD=>kernel_rfl)
  (case ME=>k_is)
  (case MF=>k_is)
  (case MG=>k_is)
  (case MH=>k_is)
  (case MI=>k_is)
  (case MJ=>k_is)
  (case MK=>k_is)
  (case ML=>k_is)
  (case MM=>k_is)
  (case MN=>k_is)
  (case MP=>k_is)
  (case MQ=>k_is)
  (case MR=>k_is)
  (case MS=>k_is)
  (case MT=>k_is)
  (case MU=>k_is)
  (case MV=>k_is)
  (case MW=>k_is)
  (case MX=>k_is)
  (case MY=>k_is)
  (case MZ=>k_is)
  (case M0=>k_is)
  (case M1=>k_is)
  (case M3=>k_is)
  (case M4=>k_is)
  (case M5=>k_is)
  (case M6=>k_is)
  (case M7=>k_is)
  (case M8=>k_is)
  (case M9=>k_is)
  (case Na=>k_is)
  (case Nb=>k_is)
  (case Nc=>k_is)
  (case Nd=>k_is)
  (case Nf=>k_is)
  (case Ng=>k_is)
  (case Nh=>k_is)
  (case Ni=>k_is)
  (case Nj=>k_is)
  (case Nk=>k_is)
  (case Nl=>k_is)
  (case Nm=>k_is)
  (case Nn=>k_is)
  (case xZ=>k_is)
  (case Np=>k_is)
  (case Nq=>k_is)
  (case Nt=>k_is)
  (case Nu=>k_is)
  (case Nv=>k_is)
  (case Nw=>k_is)
  (case Nx=>k_is)
  (case Ny=>k_is)
  (case Nz=>k_is)
  (case NA=>k_is)
  (case NB=>k_is)
  (case NC=>k_is)
  (case ND=>k_is)
  (case NF=>k_is)
  (case NG=>k_is)
  (case NH=>k_is)
  (case Z2=>k_is)
  (case NI=>k_is)
  (case NJ=>k_is)
  (case EO=>k_is)
  (case Z3=>k_is)
  (case NK=>k_is)
  (case NL=>k_is)
  (case ER=>k_is)
  (case Z4=>k_is)
  (case NM=>k_is)
  (case NN=>k_is)
  (case ES=>k_is)
  (case Z5=>k_is)
  (case NO=>k_is)
  (case NP=>k_is)
  (case ET=>k_is)
  (case NQ=>k_is)
  (case NR=>k_is)
  (case NS=>k_is)
  (case NT=>k_is)
  (case NU=>k_is)
  (case NV=>k_is)
  (case NW=>k_is)
  (case NX=>k_is)
  (case NY=>k_is)
  (case NZ=>k_is)
  (case N0=>k_is)
  (case N2=>k_is)
  (case N3=>k_is)
  (case N4=>k_is)
  (case N5=>k_is)
  (case N6=>k_is)
  (case Z6=>k_is)
  (case N7=>k_is)
  (case N8=>k_is)
  (case EU=>k_is)
  (case Z7=>k_is)
  (case N9=>k_is)
  (case Oa=>k_is)
  (case EV=>k_is)
  (case Ob=>k_is)
  (case Oc=>k_is)
  (case Od=>k_is)
  (case Oe=>k_is)
  (case Z8=>k_is)
  (case Of=>k_is)
  (case Og=>k_is)
  (case EW=>k_is)
  (case Z9=>k_is)
  (case Oh=>k_is)
  (case Oi=>k_is)
  (case EX=>k_is)
  (case Oj=>k_is)
  (case Ol=>k_is)
  (case Om=>k_is)
  (case Oo=>k_is)
  (case Oq=>k_is)
  (case Ot=>k_is)
  (case Ou=>k_is)
  (case Ov=>k_is)
  (case Ow=>k_is)
  (case Ox=>k_is)
  (case Oy=>k_is)
  (case Oz=>k_is)
  (case ε=>k_is)
  (case OA=>k_is)
  (case OB=>k_is)
  (case EY=>k_is)
  (case ζ=>k_is)
  (case OC=>k_is)
  (case OD=>k_is)
  (case EZ=>k_is)
  (case η=>k_is)
  (case OE=>k_is)
  (case OF=>k_is)
  (case Bf=>k_is)
  (case OG=>k_is)
  (case OH=>k_is)
  (case OI=>k_is)
  (case OJ=>k_is)
  (case OK=>k_is)
  (case OL=>k_is)
  (case OM=>k_is)
  (case ON=>k_is)
  (case OO=>k_is)
  (case OP=>k_is)
  (case OQ=>k_is)
  (case OR=>k_is)
  (case OS=>k_is)
  (case OT=>k_is)
  (case OU=>k_is)
  (case OV=>k_is)
  (case OW=>k_is)
  (case OX=>k_is)
  (case OY=>k_is)
  (case OZ=>k_is)
  (case θ=>k_is)
  (case O0=>k_is)
  (case O1=>k_is)
  (case E1=>k_is)
  (case ι=>k_is)
  (case O2=>k_is)
  (case O3=>k_is)
  (case E2=>k_is)
  (case O4=>k_is)
  (case O5=>k_is)
  (case O6=>k_is)
  (case O7=>k_is)
  (case O8=>k_is)
  (case O9=>k_is)
  (case Pa=>k_is)
  (case Pb=>k_is)
  (case Pc=>k_is)
  (case Pd=>k_is)
  (case Pe=>k_is)
  (case Pf=>k_is)
  (case Pg=>k_is)
  (case Ph=>k_is)
  (case Pj=>k_is)
  (case Pk=>k_is)
  (case Pl=>k_is)
  (case Pm=>k_is)
  (case Pn=>k_is)
  (case Po=>k_is)
  (case Pp=>k_is)
  (case Pq=>k_is)
  (case Pr=>k_is)
  (case Pt=>k_is)
  (case Pu=>k_is)
  (case Pw=>k_is)
  (case Px=>k_is)
  (case Py=>k_is)
  (case Pz=>k_is)
  (case PB=>k_is)
  (case PC=>k_is)
  (case PD=>k_is)
  (case PF=>k_is)
  (case PH=>k_is)
  (case PJ=>k_is)
  (case PK=>k_is)
  (case PL=>k_is)
  (case jW=>k_is)
  (case PM=>k_is)
  (case PN=>k_is)
  (case E3=>k_is)
  (case PQ=>k_is)
  (case PR=>k_is)
  (case PU=>k_is)
  (case E4=>k_is)
  (case at2=>k_is)
  (case E5=>k_is)
  (case E6=>k_is)
  (case AA=>k_is)
  (case PV=>k_is)
  (case PX=>k_is)
  (case PY=>k_is)
  (case PZ=>k_is)
  (case P0=>k_is)
  (case P1=>k_is)
  (case P2=>k_is)
  (case AB=>k_is)
  (case qu=>k_is)
  (case tU=>k_is)
  (case qv=>k_is)
  (case DR=>k_is)
  (case og=>k_is)
  (case AD=>k_is)
  (case AE=>k_is)
  (case AF=>k_is)
  (case P4=>k_is)
  (case AG=>k_is)
  (case P5=>k_is)
  (case AH=>k_is)
  (case P6=>k_is)
  (case AI=>k_is)
  (case P7=>k_is)
  (case AJ=>k_is)
  (case P8=>k_is)
  (case AK=>k_is)
  (case P9=>k_is)
  (case tV=>k_is)
  (case Qa=>k_is)
  (case AL=>k_is)
  (case Qb=>k_is)
  (case E7=>k_is)
  (case E8=>k_is)
  (case E9=>k_is)
  (case Fb=>k_is)
  (case AM=>k_is)
  (case Qc=>k_is)
  (case Qe=>k_is)
  (case Qf=>k_is)
  (case Qg=>k_is)
  (case Qh=>k_is)
  (case Qi=>k_is)
  (case Qj=>k_is)
  (case DS=>k_is)
  (case tW=>k_is)
  (case tX=>k_is)
  (case tY=>k_is)
  (case kQ=>k_is)
  (case DT=>k_is)
  (case AN=>k_is)
  (case AO=>k_is)
  (case AQ=>k_is)
  (case Qk=>k_is)
  (case AR=>k_is)
  (case Ql=>k_is)
  (case AS=>k_is)
  (case Qm=>k_is)
  (case AU=>k_is)
  (case Qn=>k_is)
  (case AV=>k_is)
  (case Qo=>k_is)
  (case AW=>k_is)
  (case Qp=>k_is)
  (case tZ=>k_is)
  (case Qq=>k_is)
  (case AX=>k_is)
  (case Qr=>k_is)
  (case Qs=>k_is)
  (case Qt=>k_is)
  (case Qu=>k_is)
  (case Qv=>k_is)
  (case Qw=>k_is)
  (case Qx=>k_is)
  (case Qy=>k_is)
  (case Qz=>k_is)
  (case QB=>k_is)
  (case QC=>k_is)
  (case QD=>k_is)
  (case QE=>k_is)
  (case QF=>k_is)
  (case QG=>k_is)
  (case QH=>k_is)
  (case QI=>k_is)
  (case QJ=>k_is)
  (case QK=>first | k_is | rfl | decide)
  (case μ=>k_is)
  (case QL=>k_exc)
  (case QM=>k_is)
  (case QN=>k_is)
  (case QO=>k_is)
  (case QP=>k_is)
  (case QQ=>k_is)
  (case QR=>k_is)
  (case QS=>k_is)
  (case nl=>first | k_is | rfl | decide)
  (case sub=>decide)
