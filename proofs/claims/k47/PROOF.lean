import PyProof.Rows.All
import Wide.All
import OpenK.AllK
import Wide.FinOn
import Lean
import PyProof.EqAt
import PyProof.EqKinds
import PyProof.TupleCall
import PyProof.NeKinds
import PyProof.Rows.Range3
import PyProof.FitsBits
import PyProof.StationsW
import PyProof.NsDelKeeps
import PyProof.Rows.CatchOwn
import KE.KTryMore
import PyProof.ExcArgsOwn
import PyProof.ExcAttrAll.ValueError
import OpenK.KOwn
import PyProof.ZipIter
import PyProof.WalksEnum
import PyProof.EnumMake
import KE.KIntText
import PyProof.Conv_int
import PyProof.StrWalks
import PyProof.StrLawsFirst
import KE.KLam
import KE.KNestM
import KE.KRevIter
import PyProof.ListRange
import PyProof.Rows.SortWalk
import PyProof.Rows.SetFrom
import PyProof.FactsAll.set
import PyProof.Rows.SeqMore
import PyProof.FString
import PySem.Challenge.RW_mendfield_k47_code_crossed
open Array renaming append_assoc→qH,length_toList→xy,getElem?_eq_some_iff→Nl,toList_append→YL
open Bool renaming and_eq_true→eT,false_ne_true→iW,true_and→kQ,or_true→kS,and_true→ni,false_eq_true→oR,eq_iff_iff→qN,false_and→tW,or_false→xC,not_false→Bo,not_true→Bp,true_or→Bq,false_or→Br
open Classical renaming byContradiction→E7,axiomOfChoice→YV
open False renaming elim→fG
open ForInStep renaming yield→E8
open Int renaming toNat→dS,emod_nonneg→gL,emod_lt_of_pos→g9,natAbs_natCast→iq,toNat_natCast→iX,natCast_emod→oU,natCast_mul→uo,toNat_of_nonneg→xK,natCast_add→Fo,natCast_nonneg→Nb,zero_add→Ny,emod_eq_of_lt→NC,fdiv_eq_ediv_of_nonneg→Yy
open List renaming range→aL,getElem?_eq_getElem→aR,getD_eq_getElem?_getD→aS,replicate→aU,length_map→br,mem_map→bB,length_range→cj,map_map→cu,mem_cons→cH,mem_append→cI,getElem?_map→cM,mem_range→di,all_eq_true→dj,mem_append_right→dq,zipWith→dr,map_cons→dy,all_cons→dA,length_append→dF,size_toArray→eD,append_assoc→eE,getElem_mem→eG,map_append→eH,mem_append_left→eR,append_nil→fH,mem_singleton→fI,length_replicate→fP,lookup_cons→gi,getElem?_eq_none→gw,mem_cons_of_mem→gK,not_mem_nil→iY,length_take→jK,getElem?_range→jL,set_cons_zero→jM,set_cons_succ→jN,mem_cons_self→kh,getElem?_eq_some_iff→ki,length_cons→kj,map_nil→km,length_set→kn,getElem_of_mem→kq,length_drop→kO,length_zipWith→kR,lookup→l9,nodup_cons→mh,length_singleton→mi,all_map→mm,getElem?_append_right→m5,cons.inj→nh,getElem?_replicate→oN,perm_append_comm→oS,getElem?_set_ne→qI,getElem?_append_left→qJ,replicate_succ→qL,append_eq_nil_iff→qO,take_add_one→qP,mem_of_mem_drop→qQ,map_congr_left→qR,getElem?_zipWith→qS,of_mem_zip→tZ,mem_of_getElem?→t7,flatten_cons→ua,foldl_cons→ub,nil_append→ud,take_length→ug,mem_replicate→uh,map→ui,all_nil→uj,cons_append→uk,getElem?_cons_zero→uq,getElem?_cons_succ→ur,map_replicate→uu,mem_filter→xx,mem_of_mem_take→xF,map_set→xM,getElem_map→xN,filterMap_cons→AQ,getElem?_set_self→AR,take_of_length_le→A8,getElem?_mapIdx→Bc,mem_map_of_mem→Bd,foldl_append→Be,range_succ→Bf,pairwise_append→Bh,length_nil→Bk,cons.injEq→Bl,length→EZ,append_inj→Ff,set_set→Fg,map_zipWith→Fj,zipWith_map→Fl,length_zip→Fq,contains_iff_mem→Fs,pairwise_cons→Fv,take_append_drop→Fw,Pairwise.nil→Ng,any_eq_true→Nj,Sublist.refl→Nn,mem_of_find?_eq_some→Nq,map_drop→Nr,map_take→Nt,ext_getElem?→Nu,getElem?_drop→Nv,drop_eq_nil_of_le→Nw,mem_or_eq_of_mem_set→Nz,ext_getElem→NB,sum_cons→ND,zipWith_cons_cons→NF,findIdx_lt_length_of_exists→NG,find?_eq_none→NH,getElem_range→NJ,pairwise_singleton→NK,mem_filterMap→Yx,getElem?_take_of_lt→Yz,set_eq_of_length_le→YG,eq_nil_iff_forall_not_mem→YH,filter_eq_self→YI,range_succ_eq_map→YJ,getElem?_take→YK,zip_cons_cons→YM,sublist_cons_self→YN,findIdx_getElem→YO,findIdx?_eq_some_iff_getElem→YQ,findIdx?_eq_none_iff→YR,pairwise_iff_getElem→YS,Pairwise.filter→YT,countP_eq_length_filter→YU,pairwise_lt_range→YW,find?_eq_some_iff_append→YX,length_filter_le→YY,flatMap_append→YZ
open Nat renaming le_refl→bM,lt_of_lt_of_le→cW,ne_of_lt→eQ,le_trans→fO,lt_irrefl→gJ,shiftLeft_eq→kP,zero_le→mf,xor_zero→mj,mul_comm→m6,testBit_xor→m8,lt_of_le_of_lt→m9,pow_succ→oO,zero_xor→oQ,xor_assoc→qM,mul_assoc→ue,mod_lt→um,two_pow_pos→xD,pow_le_pow_right→xE,not_lt→xG,mul_mod→xH,mod_eq_of_lt→xI,mod_add_mod→xJ,succ.inj→xO,le_of_lt→AO,le_of_eq→AU,lt_succ_self→AV,eq_of_testBit_eq→AY,testBit_zero→AZ,xor_self→A6,min_self→Ba,le_of_succ_le→Bg,log2_lt→E3,testBit_lt_two_pow→E4,testBit_succ→E5,strongRecOn→E6,add_assoc→Fh,zero_add→Fp,sub_self→Fu,one_shiftLeft→Fx,ne_of_gt→Na,add_comm→Nd,le_of_not_lt→Nf,xor_comm→Nh,testBit_and→Ni,lt_succ_of_lt→Nx,mod_mod→NA,lt_or_ge→NI,succ_pos→NL,testBit_eq_decide_div_mod_eq→YA,shiftLeft_xor_distrib→YB,mul_lt_mul_right→YC,testBit_shiftLeft→YD,shiftRight_eq_div_pow→YE
open Ne renaming symm→fF
open Option renaming some.inj→dn,getD_none→t9,getD_some→uf,some.injEq→xP,isSome_iff_exists→AW,map_eq_some_iff→Bb,map_some→Bi,map_none→Bj,toList_some→Np,bind_some→YF
open Or renaming inl→ax,inr→b9
open PyProof renaming Rows.callWith_type1→AS
open PySem renaming Heap.lt_size→bL,Value.ref→cB,PassesOwn.never→fJ,Heap.get?_push_of_some→fU,Heap.get?_push_size→g8,Str.ofString→jO,Builtin.bitAnd→oK,Builtin.bitXor→oM,Value.int→qF,Value.none→qG,Heap.get?_update_other→qK,Heap.size_push→tY,Str.empty→xB,Obj.mapSeq→AX,Value.bool→EY,Heap.get?_update_self→E1,SeqAt.EqAt→E2,Obj.data_mapFields→E9,Value.builtin→Fc,Value.type.inj→Fd,Builtin.Str.strSliceIndices→Fe,NameKind.cell→Ft,Builtin.List.listTooLong→Nc,Obj.isFreed_of_fields→Nk,Heap.MadeExcOf→Nm,Calls.Name_function_global→Yw
open Sum renaming inl→tU,inr→tV
open True renaming intro→tX
set_option Elab.async false
set_option linter.all false
set_option maxRecDepth 100000
local macro_rules | `(tactic| omega)=>`(tactic| lia)
noncomputable section
namespace L2
open PySem PySem.Spec PyProof.Rows
abbrev Key:=Sum Int Str
def NM:Key->Value->Bool
 | .inl k,v=>Value.isInt k v
 | .inr x,v=>Value.isStrOf x v
def Y0(w:World):Key->Int
 | .inl k=>hashInt k
 | .inr x=>hashStr w x
theorem nj:∀{k:Key} {v:Value},NM k v=true->(∃i t,k=tU i/\v=qF i t)\/(∃x t,k=tV x/\v=Value.str x t)
 | .inl i,v,h=>by
  obtain⟨t,e⟩:=Value.isInt_shape (k:=i) (v:=v) h
  exact .inl ⟨i,t,rfl,e⟩
 | .inr x,v,h=>by
  obtain⟨t,e⟩:=Value.isStrOf_shape (x:=x) (v:=v) h
  exact .inr ⟨x,t,rfl,e⟩
theorem Y1(a b:Int):decide ((tU a:Key)=tU b)=(a==b):=by
 by_cases e:a=b
 ·subst e;simp
 ·have h:¬ (tU a:Key)=tU b:=λq=>e (Sum.inl.inj q)
  rw[decide_eq_false h]
  exact(beq_eq_false_iff_ne.mpr e).symm
theorem Y2(a b:Str):decide ((tV a:Key)=tV b)=decide (a=b):=by
 by_cases e:a=b
 ·subst e;simp
 ·have h:¬ (tV a:Key)=tV b:=λq=>e (Sum.inr.inj q)
  rw[decide_eq_false h,decide_eq_false e]
theorem Y3(a:Int)(b:Str):decide ((tU a:Key)=tV b)=false:=decide_eq_false (λq=>nomatch q)
theorem Y4(a:Str)(b:Int):decide ((tV a:Key)=tU b)=false:=decide_eq_false (λq=>nomatch q)
def NN(prog:Program)(w:World):PySem.KeyKind prog w Key where
 is:=NM
 hash:=Y0 w
 inj:=λv a b ha hb=>by
  rcases nj ha with⟨i,t,rfl,rfl⟩ | ⟨x,t,rfl,rfl⟩
  ·rcases nj hb with⟨j,u,rfl,e⟩ | ⟨y,u,rfl,e⟩
   ·injection e with e1 _;rw[e1]
   ·exact nomatch e
  ·rcases nj hb with⟨j,u,rfl,e⟩ | ⟨y,u,rfl,e⟩
   ·exact nomatch e
   ·injection e with e1 _;rw[e1]
 byValue:=λk v h=>by
  rcases nj h with⟨i,t,rfl,rfl⟩ | ⟨x,t,rfl,rfl⟩<;>rfl
 pyHash:=λhv h=>by
  rcases nj hv with⟨i,t,rfl,rfl⟩ | ⟨x,t,rfl,rfl⟩
  ·exact wpAny_pyHash_int h
  ·exact wpAny_pyHash_str h
 eqBool:=λhu hv h=>by
  rcases nj hu with⟨i,t,rfl,rfl⟩ | ⟨x,t,rfl,rfl⟩
  ·rcases nj hv with⟨j,u,rfl,rfl⟩ | ⟨y,u,rfl,rfl⟩
   ·rw[Y1]at h;exact wpAny_eqBool_int h
   ·rw[Y3]at h;exact SeqAt.EqAt.int_str i t y u _ _ _ _ h
  ·rcases nj hv with⟨j,u,rfl,rfl⟩ | ⟨y,u,rfl,rfl⟩
   ·rw[Y4]at h;exact SeqAt.EqAt.str_int x t j u _ _ _ _ h
   ·rw[Y2]at h;exact wpAny_eqBool_str h
 «strs»:=λk x t v h=>by
  rcases nj h with⟨i,u,rfl,e⟩ | ⟨y,u,rfl,e⟩
  ·exact nomatch e
  ·injection e with e1 _
   subst e1
   cases v<;>rfl
end L2
namespace L2
open PySem PySem.Spec PyProof.Rows
inductive V where
 | au | bl (b:Bool) | int (i:Int) | str (x:Str) | Bt (b:Array UInt8) | qT (b:UInt64) | ref (a:Addr) | ty (n:String)
 deriving DecidableEq
def RelV:V->Value->Prop
 | .au,u=>u=qG
 | .bl b,u=>u=EY b
 | .int i,u=>∃t,u=qF i t
 | .str x,u=>∃t,u=Value.str x t
 | .Bt b,u=>∃t,u=Value.bytes b t
 | .qT b,u=>∃t,u=Value.float b t
 | .ref a,u=>u=cB a
 | .ty n,u=>u=Value.type n
abbrev Vals:List V->List Value->Prop:=Paired RelV
theorem Vals.length{xs:List V}{us:List Value}(r:Vals xs us):xs.length=us.length:=Paired.length r
theorem Vals.get:∀{xs:List V} {us:List Value} {i:Nat} {x:V},Vals xs us->xs[i]?=some x->∃u,us[i]?=some u/\RelV x u
 | _,_,_,_,.nil,e=>by simp at e
 | _,_,0,_,.cons r _,e=>by simp at e;subst e;exact⟨_,rfl,r⟩
 | _,_,i+1,x,.cons _ t,e=>by
  obtain⟨u,h1,h2⟩:=Vals.get (i:=i) (x:=x) t (by simpa using e)
  exact⟨u,by simpa using h1,h2⟩
theorem Vals.set{x:V}{u:Value}(r:RelV x u):∀{xs:List V} {us:List Value} (i:Nat),Vals xs us->Vals (xs.set i x) (us.set i u)
 | _,_,_,.nil=>.nil
 | _,_,0,.cons _ t=>.cons r t
 | _,_,i+1,.cons q t=>.cons q (Vals.set r i t)
theorem Vals.append:∀{xs ys:List V} {us ws:List Value},Vals xs us->Vals ys ws->Vals (xs++ys) (us++ws)
 | _,_,_,_,.nil,s=>s
 | _,_,_,_,.cons r t,s=>.cons r (Vals.append t s)
theorem Vals.take:∀{xs:List V} {us:List Value} (n:Nat),Vals xs us->Vals (xs.take n) (us.take n)
 | _,_,0,_=>.nil
 | _,_,_+1,.nil=>.nil
 | _,_,n+1,.cons r t=>.cons r (Vals.take n t)
theorem Vals.drop:∀{xs:List V} {us:List Value} (n:Nat),Vals xs us->Vals (xs.drop n) (us.drop n)
 | _,_,0,r=>r
 | _,_,_+1,.nil=>.nil
 | _,_,n+1,.cons _ t=>Vals.drop n t
def mn:Option V->Option Value->Prop
 | some v,some u=>RelV v u
 | none,none=>True
 | _,_=>False
def KV{κ:Type}:List (κ × V)->List (κ × Value)->Prop:=Paired λ(p:κ × V) (q:κ × Value)=>p.1=q.1/\RelV p.2 q.2
def kV:Key->V
 | .inl i=>.int i
 | .inr x=>.str x
inductive HO where
 | lst (xs:List V)
 | tup (xs:List V)
 | dK (dU:List (Key × V)) | dT (dU:List (List Key × V))
 | set (S:Int->Bool) (n:Nat)
 | ins (C dx:Addr) (fs:List (Str × V))
 | own (x:Addr)
 | xd (fs:List (Str × V))
 | met (f x:Addr)
 | xQ (lo hi:Int)
 | bq (o:Obj) (u:HO)
 | dG (ps:Array Value)
 | ext (φ:Heap->Prop)
abbrev Hp:=Addr->Option HO
def upd(H:Hp)(a:Addr)(o:HO):Hp:=λb=>if b=a then some o else H b
theorem bH{H:Hp}{a:Addr}{o:HO}:upd H a o a=some o:=by unfold upd;rw[if_pos rfl]
theorem aT{H:Hp}{a b:Addr}{o:HO}(h:b≠a):upd H a o b=H b:=by unfold upd;rw[if_neg h]
theorem dW{H:Hp}{a b:Addr}{o:HO}(h:H a=some o)(h':H b=none):a≠b:=by
 intro e;subst e;rw[h]at h';cases h'
section
variable(P:Program)(w:World)
def eK(H:Hp)(h:Heap)(a:Addr):HO->Prop
 | .lst xs=>xs.length<=sizeLine/\∃(its:List Value) (n:Nat),Vals xs its/\h.get? a=some { cls:=.type "list",data:=.seq its.toArray n }
 | .tup xs=>xs.length<=sizeLine/\∃its:List Value,Vals xs its/\IsTup h a its.toArray
 | .dK dU=>dU.length<=sizeLine/\(a==sysModules)=false/\∃vs,KV dU vs/\h.DictOf (NN P w) a vs
 | .dT dU=>dU.length<=sizeLine/\(a==sysModules)=false/\∃xs:List (List Key × Addr × Value),
   Paired (λ(p:List Key × V) (q:List Key × Addr × Value)=>p.1=q.1/\H q.2.1=some (.tup (p.1.map kV))/\RelV p.2 q.2.2) dU xs /\
   ∃o es ep,h.get? a=some o/\o.ExactDict/\o.data=.dict es ep/\es.toList=xs.map (entryOfKey (tupleKind (NN P w)))/\(xs.map (·.1)).Nodup
 | .set S n=>h.SetOf (intKind P w) a S n
 | .ins C dx fs=>H dx=some (.own a)/\fs.length<=1000/\dx≠a/\h.get? a=some (PySem.W.instObj C dx) /\
   ∃mA,h.Ns1 dx mA/\(∀f,mn (fs.lookup f) (mA f))/\PySem.Within mA (fs.map (·.1))
 | .own _=>∃o,h.get? a=some o
 | .xd fs=>∃mA,h.Ns1 a mA/\∀f,mn (fs.lookup f) (mA f)
 | .xQ lo hi=>∃t u v,h.get? a=some { cls:=.type "range",data:=.fields #[.int lo t,.int hi u,.int 1 v] }
 | .bq o u=>h.get? a=some o/\eK H h a u
 | .dG ps=>h.get? a=some { cls:=.none,data:=.fields ps }/\TriplesOk ps.toList/\∀pos cv,codeAmong pos ps.toList=some cv->∃c φ,cv=.ref c/\H c=some (.ext φ)/\∀h',φ h'->∃q,h'.CodeRec (.ref c) q
 | .met f x=>h.get? a=some (PySem.W.methodObj (.ref f) (.ref x))
 | .ext φ=>φ h/\(∃o,h.get? a=some o)/\∀h1 h2:Heap,φ h1->(∀b o,(b=a\/H b=some (.own a))->h1.get? b=some o->h2.get? b=some o)->φ h2
def cX(H:Hp)(h:Heap):Prop:=∀a o,H a=some o->eK P w H h a o
end
section
variable{P:Program}{w:World}{H H':Hp}{h h':Heap}{a:Addr}{o:HO}
theorem eK.lt(x:eK P w H h a o):a<h.objs.size:=by
 cases o with
 | lst xs=>obtain⟨_,_,_,_,e⟩:=x;exact bL e
 | tup xs=>obtain⟨_,_,_,p⟩:=x;exact p.lt
 | dK dU=>obtain⟨_,_,_,_,o,_,_,e,_⟩:=x;exact bL e
 | dT dU=>obtain⟨_,_,_,_,o,_,_,e,_⟩:=x;exact bL e
 | set S n=>obtain⟨o,_,_,_,e,_⟩:=x;exact bL e
 | ins C dx fs=>obtain⟨_,_,_,e,_⟩:=x;exact bL e
 | own y=>obtain⟨_,e⟩:=x;exact bL e
 | xd fs=>obtain⟨_,⟨_,_,_,e,_⟩,_⟩:=x;exact bL e
 | xQ lo hi=>obtain⟨_,_,_,e⟩:=x;exact bL e
 | bq ob u=>obtain⟨e,_⟩:=x;exact bL e
 | dG ps=>exact bL (show h.get? a=some _ from x.1)
 | met f y=>exact bL (show h.get? a=some _ from x)
 | ext φ=>obtain⟨_,⟨_,e⟩,_⟩:=x;exact bL e
theorem Paired.Fy{α β:Type}{F G:α->β->Prop}:∀{l₁:List α} {l₂:List β},Paired F l₁ l₂->(∀a b,F a b->G a b)->Paired G l₁ l₂
 | _,_,.nil,_=>.nil
 | _,_,.cons r t,f=>.cons (f _ _ r) (Paired.Fy t f)
theorem eK.jh(x:eK P w H h a o)(k:∀b u,(b=a\/H b=some (.own a))->h.get? b=some u->h'.get? b=some u)
  (ho:∀b,H b=some (.own a)->H' b=some (.own a)) (ht:∀b xs,H b=some (.tup xs)->H' b=some (.tup xs)) (hx:∀b φ,H b=some (.ext φ)->H' b=some (.ext φ)):eK P w H' h' a o:=by
 induction o with
 | lst xs=>obtain⟨z,its,n,r,e⟩:=x;exact⟨z,its,n,r,k _ _ (.inl rfl) e⟩
 | tup xs=>obtain⟨z,its,r,ob,e,c⟩:=x;exact⟨z,its,r,ob,k _ _ (.inl rfl) e,c⟩
 | dK dU=>obtain⟨z,y,vs,r,ob,es,ep,e,c⟩:=x;exact⟨z,y,vs,r,ob,es,ep,k _ _ (.inl rfl) e,c⟩
 | dT dU =>
  obtain⟨z,y,xs,r,ob,es,ep,e,c⟩:=x
  exact⟨z,y,xs,Paired.Fy r λp q z=>⟨z.1,ht _ _ z.2.1,z.2.2⟩,ob,es,ep,k _ _ (.inl rfl) e,c⟩
 | set S n=>obtain⟨ob,es,ep,t,e,c⟩:=x;exact⟨ob,es,ep,t,k _ _ (.inl rfl) e,c⟩
 | ins C dx fs =>
  obtain⟨d,z,ne,e,mA,⟨od,es,ep,e2,c⟩,r⟩:=x
  exact⟨ho _ d,z,ne,k _ _ (.inl rfl) e,mA,⟨od,es,ep,k _ _ (.inr d) e2,c⟩,r⟩
 | own y=>obtain⟨ob,e⟩:=x;exact⟨ob,k _ _ (.inl rfl) e⟩
 | xd fs=>obtain⟨mA,⟨od,es,ep,e,c⟩,r⟩:=x;exact⟨mA,⟨od,es,ep,k _ _ (.inl rfl) e,c⟩,r⟩
 | xQ lo hi=>obtain⟨t,u,v,e⟩:=x;exact⟨t,u,v,k _ _ (.inl rfl) e⟩
 | bq ob u ih=>obtain⟨e,q⟩:=x;exact⟨k _ _ (.inl rfl) e,ih q⟩
 | dG ps =>
  obtain⟨e,t,c⟩:=x
  refine⟨k a _ (.inl rfl) e,t,λpos cv q=>?_⟩
  obtain⟨d,φ,e1,e2,e3⟩:=c pos cv q
  exact⟨d,φ,e1,hx _ _ e2,e3⟩
 | met f y =>
  have e:h.get? a=some (PySem.W.methodObj (.ref f) (.ref y)):=x
  show h'.get? a=some (PySem.W.methodObj (.ref f) (.ref y))
  exact k a _ (.inl rfl) e
 | ext φ=>obtain⟨p,⟨o,e⟩,st⟩:=x;exact⟨st _ _ p λb o hb q=>k _ _ hb q,⟨o,k _ _ (.inl rfl) e⟩,λh1 h2 p1 kk=>st h1 h2 p1 λb o hb q=>kk b o (hb.imp id (ho b)) q⟩
theorem cX.lt(x:cX P w H h)(e:H a=some o):a<h.objs.size:=(x a o e).lt
theorem cX.fresh(x:cX P w H h)(e:h.objs.size<=a):H a=none:=by
 cases q:H a with
 | none=>rfl
 | some u=>exact absurd (cW (x.lt q) e) (gJ _)
theorem cX.kept(x:cX P w H h)(k:∀b u,h.get? b=some u->h'.get? b=some u):cX P w H h':=λa o e =>
 (x a o e).jh (λb u _ q=>k b u q) (λ_ q=>q) (λ_ _ q=>q) λ_ _ q=>q
theorem cX.laid(x:cX P w H h)(k:∀b u,h.get? b=some u->h'.get? b=some u)(hp:h.objs.size<=a)(new:eK P w (upd H a o) h' a o):cX P w (upd H a o) h':=λb u e=>by
 have hn:=x.fresh hp
 by_cases hb:b=a
 ·subst hb;rw[bH]at e;cases e;exact new
 ·rw[aT hb]at e
  exact(x b u e).jh (λc v _ q=>k c v q) (λc q=>by rw[aT (dW q hn)];exact q) (λc xs q=>by rw[aT (dW q hn)];exact q) λc xs q=>by rw[aT (dW q hn)];exact q
end
def Rd(H:Hp)(a:Addr)(u:HO):Prop:=H a=some u\/∃o,H a=some (.bq o u)
theorem Rd.ok{P:Program}{w:World}{H:Hp}{h:Heap}{a:Addr}{u:HO}(r:Rd H a u)(x:cX P w H h):eK P w H h a u:=by
 rcases r with r | ⟨o,r⟩
 ·exact x a u r
 ·obtain⟨_,q⟩:=x a _ r
  exact q
def Bu:Option HO->Prop
 | some (.lst _)=>True
 | some (.dK _)=>True
 | some (.dT _)=>True
 | some (.set _ _)=>True
 | some (.ins _ _ _)=>True
 | _=>False
section
variable{P:Program}{w:World}{H:Hp}{h h':Heap}{x e:Addr}{o':HO}
theorem cX.write(ok:cX P w H h)(mu:Bu (H x))(he:e=x\/H e=some (.own x))(k:∀b u,b≠e->h.get? b=some u->h'.get? b=some u)(uv:∃u,h'.get? e=some u)
  (new:eK P w (upd H x o') h' x o'):cX P w (upd H x o') h':=λb u q=>by
 have NO:∀c y,H c=some (.own y)->c≠x:=λc y r z=>by subst z;rw[r]at mu;exact mu
 have Y5:∀c xs,H c=some (.tup xs)->c≠x:=λc xs r z=>by subst z;rw[r]at mu;exact mu
 by_cases hb:b=x
 ·subst hb;rw[bH]at q;cases q;exact new
 ·rw[aT hb]at q
  by_cases qU:b=e
  ·have q':H b=some (.own x):=by
    rcases he with z | z
    ·exact absurd (qU.trans z) hb
    ·rw[qU];exact z
   rw[q]at q';cases q'
   obtain⟨v,hv⟩:=uv
   exact⟨v,by rw[qU];exact hv⟩
  ·refine(ok b u q).jh (λc v hc r=>k c v ?_ r) (λc r=>by rw[aT (NO c b r)];exact r) (λc xs r=>by rw[aT (Y5 c xs r)];exact r) λc φ r=>by rw[aT (λz=>by rw[z]at r;rw[r]at mu;exact mu)];exact r
   rcases hc with rfl | hc
   ·exact qU
   ·rintro rfl
    rcases he with z | z
    ·exact NO c b hc z
    ·rw[hc]at z;cases z;exact hb rfl
end
structure Un(fs ex:List Addr)(H H':Hp)(h h':Heap):Prop where
 keep:∀b o,h.get? b=some o->H b=none->b ∉ fs->b ∉ ex->h'.get? b=some o
 slot:∀b o,h.get? b=some o->H b=none->b∈fs->b ∉ ex->∃sl,h'.get? b=some { o with slots:=sl }
 free:∀b o,h.get? b=some o->H b=none->b ∉ ex->H' b=none
 there:∀b o,h.get? b=some o->b ∉ ex->∃o',h'.get? b=some o'
 iZ:∀b xs,H b=some (.tup xs)->H' b=some (.tup xs)
 ir:∀b o u,H b=some (.bq o u)->H' b=some (.bq o u)
 gM:∀b ps,H b=some (.dG ps)->∃more,H' b=some (.dG (ps++more))
section
variable{fs fs' ex ex':List Addr}{H H1 H2:Hp}{h h1 h2 h':Heap}{a x e:Addr}{o:HO}
theorem Un.any(u:Un fs ex H H1 h h1){b:Addr}{ob:Obj}(q:h.get? b=some ob)(n:H b=none)(hx:b ∉ ex):∃sl,h1.get? b=some { ob with slots:=sl }:=by
 by_cases hb:b∈fs
 ·exact u.slot b ob q n hb hx
 ·exact⟨ob.slots,u.keep b ob q n hb hx⟩
theorem Un.kept(k:∀b u,h.get? b=some u->h'.get? b=some u):Un fs ex H H h h' :=
 ⟨λb ob q _ _ _=>k b ob q,λb ob q _ _ _=>⟨ob.slots,k b ob q⟩,λ_ _ _ n _=>n,λb ob q _=>⟨ob,k b ob q⟩,λ_ _ q=>q,λ_ _ _ q=>q,λ_ ps q=>⟨#[],by rw[q];simp⟩⟩
theorem Un.refl:Un fs ex H H h h:=Un.kept λ_ _ q=>q
theorem Un.laid(k:∀b u,h.get? b=some u->h'.get? b=some u)(hp:h.objs.size<=a)(hn:H a=none):Un fs ex H (upd H a o) h h' where
 keep:=λb u q _ _ _=>k b u q
 slot:=λb u q _ _ _=>⟨u.slots,k b u q⟩
 free:=λb u q n _=>by rw[aT (eQ (cW (bL q) hp))];exact n
 there:=λb u q _=>⟨u,k b u q⟩
 iZ:=λb xs q=>by rw[aT (dW q hn)];exact q
 ir:=λb u xs q=>by rw[aT (dW q hn)];exact q
 gM:=λb ps q=>⟨#[],by rw[aT (dW q hn),q];simp⟩
theorem Un.write(mu:Bu (H x))(he:e=x\/H e=some (.own x))(k:∀b u,b≠e->h.get? b=some u->h'.get? b=some u)(uv:∃u,h'.get? e=some u):Un fs ex H (upd H x o) h h':=by
 have hx:∀b,H b=none->b≠x:=λb n z=>by subst z;rw[n]at mu;exact mu
 have hb:∀b,H b=none->b≠e:=λb n z=>by
  subst z
  rcases he with r | r
  ·exact hx b n r
  ·rw[n]at r;cases r
 have hm:∀b u,H b=some u->¬ Bu (some u)->b≠x:=λb u q nm z=>by subst z;rw[q]at mu;exact nm mu
 refine⟨λb u q n _ _=>k b u (hb b n) q,λb u q n _ _=>⟨u.slots,k b u (hb b n) q⟩,λb u q n _=>by rw[aT (hx b n)];exact n,λb u q _=>?_,
  λb xs q=>by rw[aT (hm b _ q λz=>z)];exact q,λb u xs q=>by rw[aT (hm b _ q λz=>z)];exact q,λb ps q=>⟨#[],by rw[aT (hm b _ q λz=>z),q];simp⟩⟩
 by_cases qU:b=e
 ·subst qU;exact uv
 ·exact⟨u,k b u qU q⟩
end
def Bv(h:Heap)(H:Hp):List Addr:=(aL h.objs.size).filter λa=>(H a).isSome
def mq(h:Heap)(H:Hp):Heap:=PySem.W.hideAll h (Bv h H)
theorem Y6(h:Heap)(H:Hp):(mq h H).objs.size=h.objs.size:=PySem.W.hideAll_size _ _
theorem Y7{h:Heap}{H:Hp}{b:Addr}{o:Obj}(e:h.get? b=some o)(n:H b=none):(mq h H).get? b=some o :=
 PySem.W.hideAll_get _ e λhm=>by
  have q:(H b).isSome=true:=(xx.mp hm).2
  rw[n]at q;simp at q
theorem Y8{h:Heap}{H:Hp}{b:Addr}{o:Obj}(e:(mq h H).get? b=some o):h.get? b=some o/\H b=none:=by
 have e':h.get? b=some o:=PySem.W.of_hideAll (Bv h H) e
 refine⟨e',?_⟩
 cases q:H b with
 | none=>rfl
 | some x =>
  have hm:b∈Bv h H:=xx.mpr ⟨di.mpr (bL e'),by simp[q]⟩
  have z:(mq h H).get? b=none:=PySem.W.hideAll_none (Bv h H) hm
  rw[z]at e;cases e
end L2
namespace L2
open PySem PySem.Spec PyProof.Rows
structure Mod(K:PySem.W.Frag)(mg:Str->Option Value)(base:Heap):Prop where
 mr:K.In base
 glob:base.Ns mainGlobals mg
 blt:∃mb,base.Ns builtinsNs mb/\∀x:Str,x≠"__name__"->mb x=bootBuiltins x
 nolimit:base.NoLimit
structure Cx where
 prog:Program
 w:World
 K:PySem.W.Frag
 mg:Str->Option Value
 base:Heap
 A:Around
 N:List Str
 cN:Shared
 jP:Hp
 env:Env
 outer:List Env
 stack:List Env
 ex:List Addr
 fn:Str->Bool
 calm:Bool
 pn:List (Addr × Obj)
 xe:Value->Shared->Prop
def dX(l:List Env):List Addr:=l.filterMap (·.frame)
abbrev Cx.fs(X:Cx):List Addr:=dX X.outer
def nk(sc:Scope)(x:Str):Prop:=sc.names.lookup x=some .local\/sc.names.lookup x=some .cell\/sc.names.lookup x=some .free
def Loc(sc:Scope)(x:Str):Prop:=sc.names.lookup x=some .local\/sc.names.lookup x=some .cell
def Y9(env:Env)(h:Heap)(m:Str->Option Value)(x:Str)(u:Value):Prop :=
 (env.kindOf x=some .local/\m x=some u)\/((env.kindOf x=some .cell\/env.kindOf x=some .free)/\∃c,env.cells.lookup x=some c/\h.IsCell c (some u))
structure Cx.Ok(X:Cx):Prop where
 mod:Mod X.K X.mg X.base
 kind:X.env.scope.kind=.function
 glob:X.env.globals=mainGlobals
 blt:X.env.builtins=builtinsNs
 above:X.cN.heap.objs.size<=X.env.locals
 inj:∀x y c,X.env.cells.lookup x=some c->X.env.cells.lookup y=some c->x=y
 has:∀x,(X.env.kindOf x=some .cell\/X.env.kindOf x=some .free)->∃c,X.env.cells.lookup x=some c
 nq:∀x c,X.fn x=true->X.env.cells.lookup x=some c->X.cN.heap.objs.size<=c
 hd:X.calm=true->X.A.handled=none
 frames:X.A.frames=some X.stack
 qV:X.stack=X.outer\/(X.stack=X.env::X.outer/\X.env.frame=some X.env.locals)
 qW:∀b∈X.ex,b≠X.env.locals/\∀x c,X.env.cells.lookup x=some c->c≠b
 bs:∀b o,X.base.get? b=some o->X.cN.heap.get? b=some o/\X.jP b=none
 ji:X.base.objs.size<=X.cN.heap.objs.size
 oV:∀b o,X.base.get? b=some o->b ∉ X.ex
 oW:∀b∈X.ex,b ∉ X.fs
 gx:X.cN.heap.FunFrames X.base X.outer
 jj:∀b∈X.fs,X.jP b=none
structure Inv(X:Cx)(pins:List (Addr × Obj))(σ:List (Option V))(H:Hp)(s:Shared):Prop where
 ok:X.Ok
 os:s.os=X.cN.os
 bare:AllBare s.gens
 base:Un X.fs X.ex X.jP H X.cN.heap s.heap
 loc:∃m,s.heap.Ns X.env.locals m/\∀(i:Nat) (x:Str) (v:V),X.N[i]?=some x->σ[i]?=some (some v)->nk X.env.scope x->∃u,RelV v u/\Y9 X.env s.heap m x u
 cell:∀x c,X.env.cells.lookup x=some c->∃v,s.heap.IsCell c v
 free:H X.env.locals=none
 gj:∀x c,X.env.cells.lookup x=some c->H c=none
 pin:∀p∈X.pn++pins,s.heap.get? p.1=some p.2/\H p.1=none/\p.1≠X.env.locals/\p.1 ∉ X.fs/\∀v,p.2.data≠.cell v
 aH:cX X.prog X.w H s.heap
 len:σ.length=X.N.length
section
variable{X:Cx}{pins:List (Addr × Obj)}{σ:List (Option V)}{H H':Hp}{s:Shared}{h':Heap}
theorem Cx.Ok.Za(ok:X.Ok){b:Addr}{o:Obj}(e:X.base.get? b=some o):b ∉ X.fs:=λhb=>by
 have:=(ok.gx.mem hb).1
 rw[e]at this;cases this
theorem Inv.bs(I:Inv X pins σ H s):∀b o,X.base.get? b=some o->s.heap.get? b=some o/\H b=none:=λb o e =>
 ⟨I.base.keep b o (I.ok.bs b o e).1 (I.ok.bs b o e).2 (I.ok.Za e) (I.ok.oV b o e),I.base.free b o (I.ok.bs b o e).1 (I.ok.bs b o e).2 (I.ok.oV b o e)⟩
theorem Inv.bk(I:Inv X pins σ H s):∀b o,X.base.get? b=some o->s.heap.get? b=some o:=λb o e=>(I.bs b o e).1
theorem Inv.mod(I:Inv X pins σ H s):Mod X.K X.mg X.base:=I.ok.mod
theorem Inv.cY(I:Inv X pins σ H s):X.K.In s.heap:=I.ok.mod.mr.keeps I.bk
theorem Inv.lt(I:Inv X pins σ H s):X.env.locals<s.heap.objs.size:=let⟨_,hn,_⟩:=I.loc;hn.lt
theorem Inv.sz(I:Inv X pins σ H s):X.cN.heap.objs.size<=s.heap.objs.size:=fO I.ok.above (AO I.lt)
theorem Inv.NP(I:Inv X pins σ H s){a:Addr}(h:s.heap.objs.size<=a):a ∉ X.fs:=λhb=>by
 obtain⟨_,o,ho,_⟩:=I.ok.gx.mem hb
 exact absurd (cW (bL ho) (fO I.sz h)) (gJ _)
theorem Inv.kr(I:Inv X pins σ H s):∀x c,X.env.cells.lookup x=some c->c≠X.env.locals:=λx c e z=>by
 obtain⟨v,o,ho,hd⟩:=I.cell x c e
 obtain⟨m,⟨o',es,ep,kT,xR,_⟩,_⟩:=I.loc
 rw[z,kT]at ho;cases ho;rw[xR]at hd;cases hd
theorem Inv.gx(I:Inv X pins σ H s):s.heap.FunFrames X.base X.outer:=by
 have all:∀(l:List Env),(∀b∈dX l,b∈X.fs)->X.cN.heap.FunFrames X.base l->s.heap.FunFrames X.base l:=by
  intro l
  induction l with
  | nil=>intro _ _;trivial
  | cons env r ih =>
   intro hs hl
   obtain⟨hk,⟨L,o,hf,hn,ho,hd⟩,hr⟩:=hl
   have hL:L∈X.fs:=hs L (by unfold dX;rw[AQ,hf];exact kh)
   obtain⟨sl,e⟩:=I.base.slot L o ho (I.ok.jj L hL) hL λz=>I.ok.oW L z hL
   exact⟨hk,⟨L,_,hf,hn,e,hd⟩,ih (λb hb=>hs b (by unfold dX;rw[AQ,hf];exact gK _ hb)) hr⟩
 exact all X.outer (λ_ hb=>hb) I.ok.gx
theorem Inv.stack(I:Inv X pins σ H s):s.heap.FunFrames X.base X.stack:=by
 rcases I.ok.qV with e | ⟨e,hf⟩
 ·rw[e];exact I.gx
 ·rw[e]
  obtain⟨m,hn,_⟩:=I.loc
  refine .cons (by rw[I.ok.kind];decide) hf hn ?_ I.gx
  exact Heap.get?_none_of_le (fO I.ok.ji I.ok.above)
theorem Inv.xS(I:Inv X pins σ H s):∀b∈dX X.stack,b∈X.env.locals::X.fs:=λb hb=>by
 rcases I.ok.qV with e | ⟨e,hf⟩
 ·rw[e]at hb;exact gK _ hb
 ·rw[e]at hb
  unfold dX at hb
  rw[AQ,hf]at hb
  exact hb
theorem Inv.Bw(I:Inv X pins σ H s):∀b∈dX X.stack,H b=none:=λb hb=>by
 rcases cH.mp (I.xS b hb)with e | hb
 ·rw[e];exact I.free
 ·obtain⟨_,o,ho,_⟩:=I.ok.gx.mem hb
  exact I.base.free b o ho (I.ok.jj b hb) λz=>I.ok.oW b z hb
theorem Inv.step{g':Array GenState}{t':Nat}{d':Drawn}{ch:List Addr}(I:Inv X pins σ H s)
  (mw:∀b∈ch,(b∈X.ex\/X.cN.heap.objs.size<=b)/\b≠X.env.locals/\(∀x c,X.env.cells.lookup x=some c->c≠b)/\∀p∈X.pn++pins,p.1≠b)
  (keep:∀b o,b≠X.env.locals->b ∉ X.fs->b ∉ ch->s.heap.get? b=some o->H b=none->h'.get? b=some o)
  (slot:∀b o,b≠X.env.locals->b∈X.fs->b ∉ ch->s.heap.get? b=some o->H b=none->∃sl,h'.get? b=some { o with slots:=sl }) (free:∀b o,b ∉ ch->s.heap.get? b=some o->H b=none->H' b=none)
  (there:∀b o,b ∉ ch->s.heap.get? b=some o->∃o',h'.get? b=some o')
  (iZ:∀b xs,H b=some (.tup xs)->H' b=some (.tup xs)) (ir:∀b o u,H b=some (.bq o u)->H' b=some (.bq o u)) (gM:∀b ps,H b=some (.dG ps)->∃more,H' b=some (.dG (ps++more)))
  (ns:∀m,s.heap.Ns X.env.locals m->h'.Ns X.env.locals m) (aH:cX X.prog X.w H' h') (hg:AllBare g') :
  Inv X pins σ H' { s with heap:=h',gens:=g',drawn:=d',toks:=t' }:=by
 have uw:∀b o,X.cN.heap.get? b=some o->b≠X.env.locals:=λb o e=>eQ (cW (bL e) I.ok.above)
 have uz:∀b o,X.cN.heap.get? b=some o->b ∉ X.ex->b ∉ ch:=λb o e hx hb=>by
  rcases(mw b hb).1 with z | z
  ·exact hx z
  ·exact absurd (cW (bL e) z) (gJ _)
 have cellK:∀x c,X.env.cells.lookup x=some c->∀v,s.heap.IsCell c v->h'.IsCell c v:=λx c e v ⟨o,ho,hd⟩=>by
  have xT:c ∉ ch:=λz=>(mw c z).2.2.1 x c e rfl
  by_cases hc:c∈X.fs
  ·obtain⟨sl,q⟩:=slot c o (I.kr x c e) hc xT ho (I.gj x c e)
   exact⟨_,q,hd⟩
  ·exact⟨o,keep c o (I.kr x c e) hc xT ho (I.gj x c e),hd⟩
 refine⟨I.ok,I.os,hg,⟨λb o e n hb hx=>?_,λb o e n hb hx=>?_,λb o e n hx=>?_,λb o e hx=>?_,λb xs e=>iZ b xs (I.base.iZ b xs e),λb o xs e=>ir b o xs (I.base.ir b o xs e),λb ps e=>?_⟩,?_,λx c e=>?_,?_,λx c e=>?_,λp hp=>?_,aH,I.len⟩
 ·exact keep b o (uw b o e) hb (uz b o e hx) (I.base.keep b o e n hb hx) (I.base.free b o e n hx)
 ·obtain⟨sl,e1⟩:=I.base.slot b o e n hb hx
  obtain⟨xU,e2⟩:=slot b _ (uw b o e) hb (uz b o e hx) e1 (I.base.free b o e n hx)
  exact⟨xU,e2⟩
 ·obtain⟨o',e1⟩:=I.base.there b o e hx
  exact free b o' (uz b o e hx) e1 (I.base.free b o e n hx)
 ·obtain⟨o',e1⟩:=I.base.there b o e hx
  exact there b o' (uz b o e hx) e1
 ·obtain⟨m1,e1⟩:=I.base.gM b ps e
  obtain⟨m2,e2⟩:=gM b _ e1
  exact⟨m1++m2,by rw[e2,qH]⟩
 ·obtain⟨m,hn,hl⟩:=I.loc
  refine⟨m,ns m hn,λi x v e1 e2 e3=>?_⟩
  obtain⟨u,r,l⟩:=hl i x v e1 e2 e3
  refine⟨u,r,?_⟩
  rcases l with l | ⟨k,c,e,z⟩
  ·exact .inl l
  ·exact .inr ⟨k,c,e,cellK x c e _ z⟩
 ·obtain⟨v,z⟩:=I.cell x c e
  exact⟨v,cellK x c e v z⟩
 ·obtain⟨m,⟨o,_,_,ho,_⟩,_⟩:=I.loc
  exact free _ o (λz=>(mw _ z).2.1 rfl) ho I.free
 ·obtain⟨v,o,ho,hd⟩:=I.cell x c e
  exact free c o (λz=>(mw c z).2.2.1 x c e rfl) ho (I.gj x c e)
 ·obtain⟨e,n,ne,nf,d⟩:=I.pin p hp
  have xT:p.1 ∉ ch:=λz=>(mw p.1 z).2.2.2 p hp rfl
  exact⟨keep p.1 p.2 ne nf xT e n,free p.1 p.2 xT e n,ne,nf,d⟩
theorem Inv.un{t':Nat}(I:Inv X pins σ H s)(u:Un X.fs [] H H' s.heap h')(aH:cX X.prog X.w H' h'):Inv X pins σ H' { s with heap:=h',toks:=t' }:=by
 obtain⟨m,⟨o,es,ep,ho,r⟩,_⟩:=id I.loc
 obtain⟨sl,hL⟩:=u.any ho I.free (by simp)
 exact I.step (g':=s.gens) (d':=s.drawn) (ch:=[]) (λ_ z=>nomatch z) (λb o _ hb _ e n=>u.keep b o e n hb (by simp)) (λb o _ hb _ e n=>u.slot b o e n hb (by simp)) (λb o _ e n=>u.free b o e n (by simp)) (λb o _ e=>u.there b o e (by simp)) u.iZ u.ir u.gM (λm' hm=>by
  obtain⟨o',Fz,FA,kT,r'⟩:=hm
  rw[ho]at kT;cases kT
  exact⟨_,Fz,FA,hL,r'⟩) aH I.bare
theorem Inv.call{g':Array GenState}{t':Nat}{d':Drawn}{ch:List Addr}(I:Inv X pins σ H s)(u:Un (dX X.stack) ch H H' s.heap h')(aH:cX X.prog X.w H' h')(hg:AllBare g')
  (mw:∀b∈ch,(b∈X.ex\/X.cN.heap.objs.size<=b)/\b≠X.env.locals/\(∀x c,X.env.cells.lookup x=some c->c≠b)/\∀p∈X.pn++pins,p.1≠b) :
  Inv X pins σ H' { s with heap:=h',gens:=g',drawn:=d',toks:=t' }:=by
 obtain⟨m,⟨o,es,ep,ho,r⟩,_⟩:=id I.loc
 obtain⟨sl,hL⟩:=u.any ho I.free λz=>(mw _ z).2.1 rfl
 exact I.step (ch:=ch) mw (λb o hL hb hc e n=>u.keep b o e n (λz=>(cH.mp (I.xS b z)).elim hL hb) hc) (λb o _ _ hc e n=>u.any e n hc) (λb o hc e n=>u.free b o e n hc) (λb o hc e=>u.there b o e hc) u.iZ u.ir u.gM (λm' hm=>by
  obtain⟨o',Fz,FA,kT,r'⟩:=hm
  rw[ho]at kT;cases kT
  exact⟨_,Fz,FA,hL,r'⟩) aH hg
theorem Inv.turned{t':Nat}{it:Addr}(I:Inv X pins σ H s)(k:∀b o,b≠it->s.heap.get? b=some o->h'.get? b=some o)(hn:H it=none)(hL:it≠X.env.locals)
  (h1:it∈X.ex\/X.cN.heap.objs.size<=it) (h2:∀x c,X.env.cells.lookup x=some c->c≠it) (h3:∀p∈X.pn++pins,p.1≠it):Inv X pins σ H { s with heap:=h',toks:=t' }:=by
 have oX:∀b u,H b=some u->b≠it:=λb u e z=>by rw[z,hn]at e;cases e
 refine I.step (g':=s.gens) (d':=s.drawn) (ch:=[it]) (λb hb=>?_) (λb o _ _ hc e _=>k b o (λz=>hc (by simp[z])) e) (λb o _ _ hc e _=>⟨o.slots,k b o (λz=>hc (by simp[z])) e⟩) (λ_ _ _ _ n=>n)
  (λb o hc e=>⟨o,k b o (λz=>hc (by simp[z])) e⟩) (λ_ _ e=>e) (λ_ _ _ e=>e) (λb ps e=>⟨#[],by rw[e];simp⟩) (λm hm=>?_) (λb u e=>?_) I.bare
 ·have e:b=it:=by simpa using hb
  subst e
  exact⟨h1,hL,h2,h3⟩
 ·obtain⟨o,es,ep,ho,r⟩:=hm
  exact⟨o,es,ep,k _ o (fF hL) ho,r⟩
 ·refine(I.aH b u e).jh (λc v hc q=>k c v ?_ q) (λ_ q=>q) (λ_ _ q=>q) λ_ _ q=>q
  rcases hc with z | z
  ·rw[z];exact oX b u e
  ·exact oX c _ z
theorem Inv.tok(I:Inv X pins σ H s)(t:Nat):Inv X pins σ H { s with toks:=t }:=I.un (h':=s.heap) (t':=t) Un.refl I.aH
theorem Inv.kept{t':Nat}(I:Inv X pins σ H s)(k:∀b u,s.heap.get? b=some u->h'.get? b=some u):Inv X pins σ H { s with heap:=h',toks:=t' }:=I.un (Un.kept k) (I.aH.kept k)
theorem Inv.laid{a:Addr}{o:HO}{t':Nat}(I:Inv X pins σ H s)(k:∀b u,s.heap.get? b=some u->h'.get? b=some u)(hp:s.heap.objs.size<=a)(new:eK X.prog X.w (upd H a o) h' a o) :
  Inv X pins σ (upd H a o) { s with heap:=h',toks:=t' }:=I.un (Un.laid k hp (I.aH.fresh hp)) (I.aH.laid k hp new)
theorem Inv.write{x e:Addr}{o:HO}{t':Nat}(I:Inv X pins σ H s)(mu:Bu (H x))(he:e=x\/H e=some (.own x))(k:∀b u,b≠e->s.heap.get? b=some u->h'.get? b=some u)(uv:∃u,h'.get? e=some u)
  (new:eK X.prog X.w (upd H x o) h' x o):Inv X pins σ (upd H x o) { s with heap:=h',toks:=t' }:=I.un (Un.write mu he k uv) (I.aH.write mu he k uv new)
theorem Inv.weak{aF:List (Option V)}(I:Inv X pins σ H s)(hl:aF.length=σ.length)(w:∀(i:Nat) v,aF[i]?=some (some v)->σ[i]?=some (some v)):Inv X pins aF H s :=
 ⟨I.ok,I.os,I.bare,I.base,let⟨m,hn,FC⟩:=I.loc;⟨m,hn,λi x v e1 e2 e3=>FC i x v e1 (w i v e2) e3⟩,I.cell,I.free,I.gj,I.pin,I.aH,hl.trans I.len⟩
theorem Inv.NQ{uA:List (Addr × Obj)}(I:Inv X pins σ H s)(h:∀p∈uA,s.heap.get? p.1=some p.2/\H p.1=none/\p.1≠X.env.locals/\p.1 ∉ X.fs/\∀v,p.2.data≠.cell v):Inv X uA σ H s :=
 ⟨I.ok,I.os,I.bare,I.base,I.loc,I.cell,I.free,I.gj,λp hp=>(cI.mp hp).elim (λz=>I.pin p (eR _ z)) (h p),I.aH,I.len⟩
theorem FD{N:List Str}(hN:N.Nodup){i j:Nat}{x:Str}(a:N[i]?=some x)(b:N[j]?=some x):i=j:=by
 obtain⟨h1,e1⟩:=ki.mp a
 obtain⟨h2,e2⟩:=ki.mp b
 exact(List.getElem_inj hN).mp (e1.trans e2.symm)
theorem Zb{M:Model}{A:Around}{E:Value->Shared->Prop}{i:Nat}{x:Str}{v:V}{u:Value}{Q:Unit->Shared->Prop}(I:Inv X pins σ H s)(hN:X.N.Nodup)(hi:X.N[i]?=some x)(hx:Loc X.env.scope x)(r:RelV v u)
  (h:∀s',Inv X pins (σ.set i (some v)) H s'->(∃a,Heap.SameBut a s.heap s'.heap/\(a=X.env.locals\/X.env.cells.lookup x=some a))->Q () s') (hf:X.fn x=true\/X.env.scope.names.lookup x=some .local:=by first | exact .inl rfl | exact .inr rfl | assumption):wpAny M A (storeName X.env x u) Q E s:=by
 obtain⟨m,hn,hl⟩:=id I.loc
 have Zc:(X.env.scope.kind==.class||(X.env.scope.kind==.module&&X.env.locals != X.env.globals))=false:=by rw[I.ok.kind];rfl
 have NR:i<σ.length:=by rw[I.len];exact(ki.mp hi).1
 have kr:=I.kr
 have tracked:∀{a:Addr} {h':Heap},(∃o,s.heap.get? a=some o/\H a=none)->Heap.SameBut a s.heap h'->cX X.prog X.w H h':=λ{a h'} ha hs b ob e=>by
  obtain⟨_,_,NS⟩:=ha
  refine(I.aH b ob e).jh (λc w' hc q=>(hs.2 c ?_).trans q) (λ_ q=>q) (λ_ _ q=>q) λ_ _ q=>q
  rintro rfl
  rcases hc with rfl | hc
  ·rw[NS]at e;cases e
  ·rw[NS]at hc;cases hc
 rcases hx with hk | hk
 ·refine wpAny_storeName_local hk hn (λh' FE hs=>?_) Zc
  obtain⟨oL,_,_,NT,_⟩:=id hn
  refine h _ ⟨I.ok,I.os,I.bare,⟨λb o e n hb hx=>?_,λb o e n hb hx=>?_,I.base.free,λb o e hx=>?_,I.base.iZ,I.base.ir,I.base.gM⟩,⟨_,FE,λj y v' e1 e2 e3=>?_⟩,λy c e=>?_,I.free,I.gj,λp hp=>?_,tracked ⟨oL,NT,I.free⟩ hs,by simpa using I.len⟩ ⟨_,hs,.inl rfl⟩
  ·exact(hs.2 b (eQ (cW (bL e) I.ok.above))).trans (I.base.keep b o e n hb hx)
  ·obtain⟨sl,e1⟩:=I.base.slot b o e n hb hx
   exact⟨sl,(hs.2 b (eQ (cW (bL e) I.ok.above))).trans e1⟩
  ·obtain⟨o',e1⟩:=I.base.there b o e hx
   exact⟨o',(hs.2 b (eQ (cW (bL e) I.ok.above))).trans e1⟩
  ·by_cases hj:j=i
   ·subst hj
    rw[hi]at e1;cases e1
    rw[AR NR]at e2
    cases e2
    exact⟨u,r,.inl ⟨hk,by simp⟩⟩
   ·rw[qI (fF hj)]at e2
    obtain⟨u',r',q⟩:=hl j y v' e1 e2 e3
    refine⟨u',r',?_⟩
    rcases q with⟨k,e⟩ | ⟨k,c,e,z⟩
    ·refine .inl ⟨k,?_⟩
     have:y≠x:=λe=>hj (FD hN e1 (e ▸ hi))
     simp[this,e]
    ·exact .inr ⟨k,c,e,z.sameBut hs (kr y c e)⟩
  ·obtain⟨w',z⟩:=I.cell y c e
   exact⟨w',z.sameBut hs (kr y c e)⟩
  ·obtain⟨e,n,ne,nf,d⟩:=I.pin p hp
   exact⟨(hs.2 p.1 ne).trans e,n,ne,nf,d⟩
 ·have xV:X.fn x=true:=by
   rcases hf with z | z
   ·exact z
   ·rw[z]at hk;cases hk
  obtain⟨c,hc⟩:=I.ok.has x (.inl hk)
  obtain⟨w',z⟩:=I.cell x c hc
  refine wpAny_storeName_cell I.ok.kind hk hc z (λh' oY hs=>?_)
  obtain⟨oc,jk,Ze⟩:=id z
  refine h { s with heap:=h' } ⟨I.ok,I.os,I.bare,⟨λb o e n hb hx=>?_,λb o e n hb hx=>?_,I.base.free,λb o e hx=>?_,I.base.iZ,I.base.ir,I.base.gM⟩,⟨m,hn.sameBut hs (fF (kr x c hc)),λj y v' e1 e2 e3=>?_⟩,λy c' e=>?_,I.free,I.gj,λp hp=>?_,tracked ⟨oc,jk,I.gj x c hc⟩ hs,by simpa using I.len⟩ ⟨c,hs,.inr hc⟩
  ·exact(hs.2 b (eQ (cW (bL e) (I.ok.nq x c xV hc)))).trans (I.base.keep b o e n hb hx)
  ·obtain⟨sl,e1⟩:=I.base.slot b o e n hb hx
   exact⟨sl,(hs.2 b (eQ (cW (bL e) (I.ok.nq x c xV hc)))).trans e1⟩
  ·obtain⟨o',e1⟩:=I.base.there b o e hx
   exact⟨o',(hs.2 b (eQ (cW (bL e) (I.ok.nq x c xV hc)))).trans e1⟩
  ·by_cases hj:j=i
   ·subst hj
    rw[hi]at e1;cases e1
    rw[AR NR]at e2
    cases e2
    exact⟨u,r,.inr ⟨.inl hk,c,hc,oY⟩⟩
   ·rw[qI (fF hj)]at e2
    obtain⟨u',r',q⟩:=hl j y v' e1 e2 e3
    refine⟨u',r',?_⟩
    rcases q with q | ⟨k,c',e,z'⟩
    ·exact .inl q
    ·refine .inr ⟨k,c',e,z'.sameBut hs ?_⟩
     rintro rfl
     exact hj (FD hN e1 (I.ok.inj _ _ _ e hc ▸ hi))
  ·by_cases NU:c'=c
   ·subst NU;exact⟨_,oY⟩
   ·obtain⟨w2,z2⟩:=I.cell y c' e
    exact⟨w2,z2.sameBut hs NU⟩
  ·obtain⟨e,n,ne,nf,d⟩:=I.pin p hp
   refine⟨(hs.2 p.1 ?_).trans e,n,ne,nf,d⟩
   intro q
   rw[q,jk]at e
   have q':oc=p.2:=dn e
   exact d w' (by rw[<-q'];exact Ze)
theorem Bz{M:Model}{A:Around}{E:Value->Shared->Prop}{i:Nat}{x:Str}{v:V}{u:Value}{Q:Unit->Shared->Prop}(I:Inv X pins σ H s)(hN:X.N.Nodup)(hi:X.N[i]?=some x)(hx:Loc X.env.scope x)(r:RelV v u)
  (h:∀s',Inv X pins (σ.set i (some v)) H s'->Q () s') (hf:X.fn x=true\/X.env.scope.names.lookup x=some .local:=by first | exact .inl rfl | exact .inr rfl | assumption):wpAny M A (storeName X.env x u) Q E s :=
 Zb I hN hi hx r (λs' I' _=>h s' I') hf
theorem Inv.NV{s':Shared}{ch:List Addr}(I:Inv X pins σ H s)(ho:s'.os=s.os)(u:Un (dX X.stack) ch H H' s.heap s'.heap)(aH:cX X.prog X.w H' s'.heap)(hg:AllBare s'.gens)
  (mw:∀b∈ch,(b∈X.ex\/X.cN.heap.objs.size<=b)/\b≠X.env.locals/\(∀x c,X.env.cells.lookup x=some c->c≠b)/\∀p∈X.pn++pins,p.1≠b):Inv X pins σ H' s':=by
 obtain⟨h',g',d',t',o'⟩:=s'
 have e:o'=s.os:=ho
 subst e
 exact I.call (g':=g') (t':=t') (d':=d') u aH hg mw
end
abbrev XK:=Value->Option Addr->Hp->Prop
abbrev St:=List (Option V)
abbrev VK:=V->Hp->Prop
abbrev TE:=St->Hp->VK->Prop
abbrev TT:=St->Hp->(Bool->Hp->Prop)->Prop
abbrev TA:=St->Hp->(List V->Hp->Prop)->Prop
structure Ends where
 nx:St->Hp->Prop
 rt:VK
 bk:St->Hp->Prop:=λ_ _=>False
 ct:St->Hp->Prop:=λ_ _=>False
abbrev TS:=Ends->St->Hp->Prop
def EP(X:Cx)(pins:List (Addr × Obj))(σ:St)(Q:VK)(u:Value)(s':Shared):Prop:=∃v H',Inv X pins σ H' s'/\RelV v u/\Q v H'
def TP(X:Cx)(pins:List (Addr × Obj))(σ:St)(Q:Bool->Hp->Prop)(b:Bool)(s':Shared):Prop:=∃H',Inv X pins σ H' s'/\Q b H'
def AP(X:Cx)(pins:List (Addr × Obj))(σ:St)(Q:List V->Hp->Prop)(us:List Value)(s':Shared):Prop:=∃vs H',Inv X pins σ H' s'/\Vals vs us/\Q vs H'
def SP(X:Cx)(pins:List (Addr × Obj))(D:Ends)(f:Flow)(s':Shared):Prop :=
 match f with
 | .next=>∃aF H',Inv X pins aF H' s'/\D.nx aF H'
 | .brk=>∃aF H',Inv X pins aF H' s'/\D.bk aF H'
 | .cont=>∃aF H',Inv X pins aF H' s'/\D.ct aF H'
 | .ret u=>∃v aF H',Inv X pins aF H' s'/\RelV v u/\D.rt v H'
def PE(X:Cx)(e:Expr)(t:TE):Prop :=
 ∀(pins:List (Addr × Obj)) (s:Shared) (σ:St) (H:Hp) (Q:VK),Inv X pins σ H s->t σ H Q->wpAny (model X.prog X.w) X.A (eval e X.env) (EP X pins σ Q) X.xe s
def PT(X:Cx)(e:Expr)(t:TT):Prop :=
 ∀(pins:List (Addr × Obj)) (s:Shared) (σ:St) (H:Hp) (Q:Bool->Hp->Prop),Inv X pins σ H s->t σ H Q->wpAny (model X.prog X.w) X.A (isTrue e X.env (eval e X.env)) (TP X pins σ Q) X.xe s
def PW(X:Cx)(e:Expr)(t:TT):Prop :=
 ∀(whole:Sem Value) (pins:List (Addr × Obj)) (s:Shared) (σ:St) (H:Hp) (Q:Bool->Hp->Prop),Inv X pins σ H s->t σ H Q->wpAny (model X.prog X.w) X.A (isTrue e X.env whole) (TP X pins σ Q) X.xe s
theorem PW.pt{X:Cx}{e:Expr}{t:TT}(h:PW X e t):PT X e t:=h _
def PA(X:Cx)(es:List Expr)(t:TA):Prop :=
 ∀(pos:Pos) (pins:List (Addr × Obj)) (s:Shared) (σ:St) (H:Hp) (Q:List V->Hp->Prop),Inv X pins σ H s->t σ H Q->wpAny (model X.prog X.w) X.A (spliced (backTo pos (starEach es X.env))) (AP X pins σ Q) X.xe s
def PS(X:Cx)(st:Stmt)(t:TS):Prop :=
 ∀(pins:List (Addr × Obj)) (s:Shared) (σ:St) (H:Hp) (D:Ends),Inv X pins σ H s->t D σ H->wpAny (model X.prog X.w) X.A (exec st X.env) (SP X pins D) X.xe s
def PSs(X:Cx)(st:List Stmt)(t:TS):Prop :=
 ∀(pins:List (Addr × Obj)) (s:Shared) (σ:St) (H:Hp) (D:Ends),Inv X pins σ H s->t D σ H->wpAny (model X.prog X.w) X.A (execs st X.env) (SP X pins D) X.xe s
theorem aP{α:Type}{t:Sem α}{Q Q':α->Shared->Prop}{M:Model}{A:Around}{E:Value->Shared->Prop}{s:Shared}(h:wpAny M A t Q E s)(hQ:∀a s,Q a s->Q' a s):wpAny M A t Q' E s:=wpAny_mono h hQ λ_ _ x=>x
end L2
namespace L2
open PySem PySem.Spec PyProof.Rows
section
variable{X:Cx}
def NW(i:Nat):TE:=λσ H Q=>∃v,σ[i]?=some (some v)/\Q v H
def tC(v:V):TE:=λ_ H Q=>Q v H
theorem uB{i:Nat}{x:Str}{pos:Pos}(hN:X.N[i]?=some x)(hv:nk X.env.scope x)(hd:(x==("__debug__":Str))=false:=by decide)(da:(x==("__classdict__":Str))=false:=by decide):PE X (.Name x pos) (NW i):=by
 intro pins s σ H Q I h
 obtain⟨v,e,h⟩:=h
 obtain⟨m,hn,hl⟩:=I.loc
 obtain⟨u,r,l⟩:=hl i x v hN e hv
 have fin:EP X pins σ Q u s:=⟨v,H,I,r,h⟩
 rcases l with⟨hk,hm⟩ | ⟨hk,c,hc,BA⟩
 ·exact wpAny_Name (wpAny_loadName_local I.ok.kind hk hn hm fin) hd
 ·rcases hk with hk | hk
  ·exact wpAny_Name (wpAny_loadName_cell I.ok.kind hk hc BA fin) hd
  ·exact wpAny_Name (wpAny_loadName_free I.ok.kind hk hc BA fin da) hd
theorem qX{i j pos}:PE X (.Constant (.int i) j pos) (tC (.int i)):=λ_ _ _ H _ I h=>wpAny_Constant_int ⟨.int i,H,I.tok _,⟨_,rfl⟩,h⟩
theorem Zf{b j pos}:PE X (.Constant (.bool b) j pos) (tC (.bl b)):=λ_ _ _ H _ I h=>Constant_bool ⟨.bl b,H,I,rfl,h⟩
theorem Zg{j pos}:PE X (.Constant .none j pos) (tC .au):=λ_ _ _ H _ I h=>Constant_none ⟨.au,H,I,rfl,h⟩
theorem Zh{x j pos}:PE X (.Constant (.str x) j pos) (tC (.str x)):=λ_ _ _ H _ I h=>Calls.Constant_str ⟨.str x,H,I.tok _,⟨_,rfl⟩,h⟩
def Gl(X:Cx)(x:Str):Prop:=X.env.kindOf x=some .globalImplicit
theorem qY{E:Value->Shared->Prop}{pins:List (Addr × Obj)}{s:Shared}{σ:St}{H:Hp}{x:Str}{u:Value}{pos:Pos}{Q:Value->Shared->Prop}(I:Inv X pins σ H s)(hg:Gl X x)(hm:X.mg x=some u)(h:Q u s)
  (hd:(x==("__debug__":Str))=false:=by decide):wpAny (model X.prog X.w) X.A (eval (.Name x pos) X.env) Q E s :=
 Yw I.ok.kind hg (Calls.loadGlobal_global (by rw[I.ok.glob];exact I.mod.glob.keeps I.bk) hm h) hd
theorem qZ{E:Value->Shared->Prop}{pins:List (Addr × Obj)}{s:Shared}{σ:St}{H:Hp}{x:Str}{u:Value}{pos:Pos}{Q:Value->Shared->Prop}(I:Inv X pins σ H s)(hg:Gl X x)(hm:X.mg x=none)(hv:bootBuiltins x=some u)(h:Q u s)
  (hn:x≠"__name__":=by decide) (hd:(x==("__debug__":Str))=false:=by decide):wpAny (model X.prog X.w) X.A (eval (.Name x pos) X.env) Q E s:=by
 obtain⟨mb,h1,h2⟩:=I.mod.blt
 exact Yw I.ok.kind hg (Calls.loadGlobal_builtin (by rw[I.ok.glob];exact I.mod.glob.keeps I.bk) hm (by rw[I.ok.blt];exact h1.keeps I.bk) ((h2 x hn).trans hv) h) hd
theorem NX{x:Str}{v:V}{u:Value}{pos:Pos}(hg:Gl X x)(hm:X.mg x=some u)(r:RelV v u)(hd:(x==("__debug__":Str))=false:=by decide):PE X (.Name x pos) (tC v) :=
 λ_ _ _ H _ I h=>qY I hg hm ⟨v,H,I,r,h⟩ hd
theorem Zi{x:Str}{v:V}{u:Value}{pos:Pos}(hg:Gl X x)(hm:X.mg x=none)(hv:bootBuiltins x=some u)(r:RelV v u)(hn:x≠"__name__":=by decide)(hd:(x==("__debug__":Str))=false:=by decide):PE X (.Name x pos) (tC v) :=
 λ_ _ _ H _ I h=>qZ I hg hm hv ⟨v,H,I,r,h⟩ hn hd
variable{a b:Expr}{ta tb:TE}{pos:Pos}
def tB(t:TE):TT:=λσ H Q=>t σ H λx H1=>∃c,x=.bl c/\Q c H1
theorem BB{e:Expr}{t:TE}(h:PE X e t)(he:∀whole,isTrue e X.env whole=(do let v<-whole;standAt e.pos;holding [v] (truthy v)):=by intro _;rfl):PT X e (tB t):=by
 intro pins s σ H Q I hw
 refine isTrue_plain (aP (h pins s σ H _ I hw) λv s1 ⟨x,H1,I1,r1,q1⟩=>?_) (he _)
 obtain⟨d,rfl,q⟩:=q1
 cases r1
 exact wpAny_truthy_bool ⟨H1,I1,q⟩
variable{tA BC:TT}{rest:List Expr}
def Zj(t u:TT):TT:=λσ H Q=>t σ H λc H1=>if c=true then u σ H1 Q else Q false H1
def Zk(t u:TT):TT:=λσ H Q=>t σ H λc H1=>if c=true then Q true H1 else u σ H1 Q
def Zl(t:TT):TT:=λσ H Q=>t σ H λc H1=>Q (!c) H1
theorem FF(ha:PT X a tA):PW X (.BoolOp .And [a] pos) tA:=by
 intro wh pins s σ H Q I h
 refine isTrue_and (aP (ha pins s σ H Q I h) λc s1 e=>?_)
 cases c with
 | true=>exact isTrue_and_nil e
 | false=>exact e
theorem oZ(ha:PT X a tA):PW X (.BoolOp .Or [a] pos) tA:=by
 intro wh pins s σ H Q I h
 refine isTrue_or (aP (ha pins s σ H Q I h) λc s1 e=>?_)
 cases c with
 | false=>exact isTrue_or_nil e
 | true=>exact e
theorem Zm(ha:PT X a tA)(hb:PW X (.BoolOp .And (b::rest) pos) BC):PW X (.BoolOp .And (a::b::rest) pos) (Zj tA BC):=by
 intro wh pins s σ H Q I h
 refine isTrue_and (aP (ha pins s σ H _ I h) λc s1 ⟨H1,I1,q1⟩=>?_)
 cases c with
 | true=>exact hb wh pins s1 σ H1 Q I1 q1
 | false=>exact⟨H1,I1,q1⟩
theorem NY(ha:PT X a tA)(hb:PW X (.BoolOp .Or (b::rest) pos) BC):PW X (.BoolOp .Or (a::b::rest) pos) (Zk tA BC):=by
 intro wh pins s σ H Q I h
 refine isTrue_or (aP (ha pins s σ H _ I h) λc s1 ⟨H1,I1,q1⟩=>?_)
 cases c with
 | true=>exact⟨H1,I1,q1⟩
 | false=>exact hb wh pins s1 σ H1 Q I1 q1
theorem BD(ha:PT X a tA):PT X (.UnaryOp .Not a pos) (Zl tA):=by
 intro pins s σ H Q I h
 exact isTrue_not (ha pins s σ H (λc H1=>Q (!c) H1) I h)
def Zn(ta tb:TE):TE:=λσ H Q=>ta σ H λx H1=>∃c,x=.bl c/\if c=true then tb σ H1 Q else Q (.bl false) H1
def Zo(ta tb:TE):TE:=λσ H Q=>ta σ H λx H1=>∃c,x=.bl c/\if c=true then Q (.bl true) H1 else tb σ H1 Q
def Zp(ta:TE):TE:=λσ H Q=>ta σ H λx H1=>∃c,x=.bl c/\Q (.bl (!c)) H1
theorem xW{op}{t:TE}(h:PE X a t):PE X (.BoolOp op [a] pos) t:=λpins s σ H Q I hw=>BoolOp_one (h pins s σ H Q I hw)
theorem Zq(ha:PE X a ta)(hb:PE X (.BoolOp .And (b::rest) pos) tb):PE X (.BoolOp .And (a::b::rest) pos) (Zn ta tb):=by
 intro pins s σ H Q I h
 refine BoolOp_and (aP (ha pins s σ H _ I h) λv s1 ⟨x,H1,I1,r1,q1⟩=>?_)
 obtain⟨c,rfl,q1⟩:=q1
 cases r1
 refine wpAny_truthy_bool ?_
 cases c with
 | true=>exact hb pins s1 σ H1 Q I1 q1
 | false=>exact⟨.bl false,H1,I1,rfl,q1⟩
theorem Zr(ha:PE X a ta)(hb:PE X (.BoolOp .Or (b::rest) pos) tb):PE X (.BoolOp .Or (a::b::rest) pos) (Zo ta tb):=by
 intro pins s σ H Q I h
 refine BoolOp_or (aP (ha pins s σ H _ I h) λv s1 ⟨x,H1,I1,r1,q1⟩=>?_)
 obtain⟨c,rfl,q1⟩:=q1
 cases r1
 refine wpAny_truthy_bool ?_
 cases c with
 | false=>exact hb pins s1 σ H1 Q I1 q1
 | true=>exact⟨.bl true,H1,I1,rfl,q1⟩
theorem Zs(ha:PE X a ta):PE X (.UnaryOp .Not a pos) (Zp ta):=by
 intro pins s σ H Q I h
 refine UnaryOp_ (aP (ha pins s σ H _ I h) λv s1 ⟨x,H1,I1,r1,q1⟩=>?_)
 obtain⟨c,rfl,q1⟩:=q1
 cases r1
 exact not_of (wpAny_truthy_bool ⟨.bl (!c),H1,I1,rfl,q1⟩)
def Zt(t:TT)(ta tb:TE):TE:=λσ H Q=>t σ H λc H1=>if c=true then ta σ H1 Q else tb σ H1 Q
theorem Zu{c:Expr}(hc:PT X c tA)(ha:PE X a ta)(hb:PE X b tb):PE X (.IfExp c a b pos) (Zt tA ta tb):=by
 intro pins s σ H Q I h
 refine wpAny_IfExp (aP (hc pins s σ H _ I h) λd s1 ⟨H1,I1,q1⟩=>?_)
 cases d with
 | true=>exact ha pins s1 σ H1 Q I1 q1
 | false=>exact hb pins s1 σ H1 Q I1 q1
end
end L2
namespace L2
open PySem PySem.Spec PyProof.Rows
def bQ(K:PySem.W.Frag)(H:Hp)(a:Addr)(xs:List V):Prop :=
 Rd H a (.lst xs) \/
  ∃(o:Obj) (its:Array Value) (n:Nat),K.lookup a=some o/\o.cls=.type "list"/\o.dict=none/\o.data=.seq its n/\its.size<=sizeLine/\Vals xs its.toList
def iu(K:PySem.W.Frag)(H:Hp)(a:Addr)(xs:List V):Prop :=
 Rd H a (.tup xs) \/
  ∃(o:Obj) (its:Array Value) (n:Nat),K.lookup a=some o/\o.cls=.type "tuple"/\o.data=.seq its n/\its.size<=sizeLine/\Vals xs its.toList
def Zv:Value->Option V
 | .none=>some .au
 | .bool b=>some (.bl b)
 | .int i _=>some (.int i)
 | .str x _=>some (.str x)
 | .bytes b _=>some (.Bt b)
 | .float b _=>some (.qT b)
 | .ref a=>some (.ref a)
 | .type n=>some (.ty n)
 | _=>none
theorem RelV.abs{x:V}{u:Value}(r:RelV x u):Zv u=some x:=by
 cases x with
 | au=>cases r;rfl
 | bl _=>cases r;rfl
 | int _=>obtain⟨t,rfl⟩:=r;rfl
 | str _=>obtain⟨t,rfl⟩:=r;rfl
 | Bt _=>obtain⟨t,rfl⟩:=r;rfl
 | qT _=>obtain⟨t,rfl⟩:=r;rfl
 | ref _=>cases r;rfl
 | ty _=>cases r;rfl
theorem RelV.inj{x y:V}{u:Value}(r:RelV x u)(q:RelV y u):x=y:=dn (r.abs.symm.trans q.abs)
theorem Vals.inj:∀{xs ys:List V} {us:List Value},Vals xs us->Vals ys us->xs=ys
 | _,_,_,.nil,.nil=>rfl
 | _,_,_,.cons r t,.cons r' t'=>by rw[r.inj r',Vals.inj t t']
section
variable{X:Cx}{pins:List (Addr × Obj)}{σ:St}{H:Hp}{s:Shared}{a:Addr}{xs ys:List V}
theorem bQ.of{K:PySem.W.Frag}(h:H a=some (.lst xs)):bQ K H a xs:=.inl (.inl h)
theorem iu.of{K:PySem.W.Frag}(h:H a=some (.tup xs)):iu K H a xs:=.inl (.inl h)
theorem Inv.list(I:Inv X pins σ H s)(h:bQ X.K H a xs):∃its:List Value,Vals xs its/\PlainL s.heap a its.toArray/\xs.length<=sizeLine:=by
 rcases h with h | ⟨o,its,n,hk,hc,hd,hs,hz,r⟩
 ·obtain⟨z,its,n,r,e⟩:=h.ok I.aH
  exact⟨its,r,⟨_,n,e,rfl,rfl,rfl⟩,z⟩
 ·refine⟨its.toList,r,⟨o,n,I.cY a o hk,hc,hd,by simpa using hs⟩,?_⟩
  have e:=r.length
  simp only[xy]at e
  omega
theorem Inv.tuple(I:Inv X pins σ H s)(h:iu X.K H a xs):∃its:List Value,Vals xs its/\IsTup s.heap a its.toArray/\xs.length<=sizeLine:=by
 rcases h with h | ⟨o,its,n,hk,hc,hs,hz,r⟩
 ·obtain⟨z,its,r,p⟩:=h.ok I.aH
  exact⟨its,r,p,z⟩
 ·refine⟨its.toList,r,⟨o,I.cY a o hk,hc,n,by simpa using hs⟩,?_⟩
  have e:=r.length
  simp only[xy]at e
  omega
theorem Inv.BE(I:Inv X pins σ H s)(h:bQ X.K H a xs)(h':bQ X.K H a ys):xs=ys:=by
 obtain⟨its,r,⟨o,n,e,_,_,d⟩,_⟩:=I.list h
 obtain⟨its',r',⟨o',n',e',_,_,d'⟩,_⟩:=I.list h'
 rw[e]at e';cases e'
 rw[d]at d'
 injection d' with d1 _
 have:its=its':=by simpa using congrArg Array.toList d1
 subst this
 exact r.inj r'
end
abbrev Cx.ku(X:Cx)(E:Value->Shared->Prop):Cx:={ X with xe:=E }
abbrev Cx.gy(X:Cx):Cx:=X.ku λ_ _=>False
theorem Cx.Ok.ku{X:Cx}(ok:X.Ok)(E:Value->Shared->Prop):(X.ku E).Ok :=
 ⟨ok.mod,ok.kind,ok.glob,ok.blt,ok.above,ok.inj,ok.has,ok.nq,ok.hd,ok.frames,ok.qV,ok.qW,ok.bs,ok.ji,ok.oV,ok.oW,ok.gx,ok.jj⟩
theorem Cx.Ok.mx{X:Cx}{E:Value->Shared->Prop}(ok:(X.ku E).Ok):X.Ok :=
 ⟨ok.mod,ok.kind,ok.glob,ok.blt,ok.above,ok.inj,ok.has,ok.nq,ok.hd,ok.frames,ok.qV,ok.qW,ok.bs,ok.ji,ok.oV,ok.oW,ok.gx,ok.jj⟩
section
variable{X:Cx}{pins:List (Addr × Obj)}{σ:St}{H:Hp}{s:Shared}{E:Value->Shared->Prop}
theorem Inv.ku(I:Inv X pins σ H s)(E:Value->Shared->Prop):Inv (X.ku E) pins σ H s:=⟨I.ok.ku E,I.os,I.bare,I.base,I.loc,I.cell,I.free,I.gj,I.pin,I.aH,I.len⟩
theorem Inv.mx(I:Inv (X.ku E) pins σ H s):Inv X pins σ H s:=⟨I.ok.mx,I.os,I.bare,I.base,I.loc,I.cell,I.free,I.gj,I.pin,I.aH,I.len⟩
theorem SP.mx{D:Ends}{f:Flow}{s':Shared}(h:SP (X.ku E) pins D f s'):SP X pins D f s':=by
 cases f with
 | next=>obtain⟨aF,H',I,q⟩:=h;exact⟨aF,H',I.mx,q⟩
 | brk=>obtain⟨aF,H',I,q⟩:=h;exact⟨aF,H',I.mx,q⟩
 | cont=>obtain⟨aF,H',I,q⟩:=h;exact⟨aF,H',I.mx,q⟩
 | ret u=>obtain⟨v,aF,H',I,r,q⟩:=h;exact⟨v,aF,H',I.mx,r,q⟩
theorem PE.gy{e:Expr}{t:TE}(h:PE X.gy e t):PE X e t:=λpins s σ H Q I hw =>
 wpAny_mono (h pins s σ H Q (I.ku _) hw) (λ_ _ ⟨v,H',I',r,q⟩=>⟨v,H',I'.mx,r,q⟩) λ_ _ z=>fG z
theorem PSs.gy{st:List Stmt}{t:TS}(h:PSs X.gy st t):PSs X st t:=λpins s σ H D I hw =>
 wpAny_mono (h pins s σ H D (I.ku _) hw) (λ_ _ q=>q.mx) λ_ _ z=>fG z
end
section
variable{X:Cx}{st:Stmt}{rest:List Stmt}{t u:TS}{e:Expr}{te:TE}{pos:Pos}
def Zw:TS:=λD σ H=>D.nx σ H
def Zx(t u:TS):TS:=λD σ H=>t { D with nx:=u D } σ H
theorem pd:PSs X [] Zw:=λ_ _ σ H _ I h=>wpAny_execs_nil ⟨σ,H,I,h⟩
theorem ff(h1:PS X st t)(h2:PSs X rest u):PSs X (st::rest) (Zx t u):=by
 intro pins s σ H D I h
 refine wpAny_execs_cons (aP (h1 pins s σ H { D with nx:=u D } I h) λf s1 q=>?_)
 cases f with
 | next =>
  obtain⟨aF,H',I',q⟩:=q
  exact h2 pins s1 aF H' D I' q
 | ret v=>exact q
 | brk=>exact q
 | cont=>exact q
theorem jl(h1:PS X st t):PSs X [st] t:=by
 intro pins s σ H D I h
 refine wpAny_execs_cons (aP (h1 pins s σ H D I h) λf s1 q=>?_)
 cases f with
 | next=>exact wpAny_execs_nil q
 | ret v=>exact q
 | brk=>exact q
 | cont=>exact q
theorem Inv.quiet{pins:List (Addr × Obj)}{σ:St}{H:Hp}{s:Shared}(I:Inv X pins σ H s):interactive X.env=false:=by simp[interactive,I.ok.kind]
def Zy(te:TE):TS:=λD σ H=>te σ H λ_ H1=>D.nx σ H1
theorem q0(he:PE X e te)(hs:swapsWith e none pos.line X.env=pure false:=by rfl):PS X (.Expr e pos) (Zy te):=by
 intro pins s σ H D I h
 exact wpAny_Expr_any (aP (he pins s σ H _ I h) λv s1 ⟨x,H1,I1,r1,q1⟩=>⟨σ,H1,I1,q1⟩) I.quiet hs
def Zz(te:TE):TS:=λD σ H=>te σ H D.rt
theorem ZA(he:PE X e te):PS X (.Return (some e) pos) (Zz te):=by
 intro pins s σ H D I h
 exact wpAny_Return_some (aP (he pins s σ H _ I h) λv s1 ⟨x,H1,I1,r1,q1⟩=>⟨x,σ,H1,I1,r1,q1⟩)
def ZC(c:TT)(t u:TS):TS:=λD σ H=>c σ H λb H1=>if b=true then t D σ H1 else u D σ H1
theorem q8{c:Expr}{a b:List Stmt}{tc:TT}(hc:PT X c tc)(ha:PSs X a t)(hb:PSs X b u):PS X (.If c a b pos) (ZC tc t u):=by
 intro pins s σ H D I h
 refine wpAny_If (aP (hc pins s σ H _ I h) λd s1 ⟨H1,I1,q1⟩=>?_)
 cases d with
 | true=>exact ha pins s1 σ H1 D I1 q1
 | false=>exact hb pins s1 σ H1 D I1 q1
def NZ:TS:=λ_ _ _=>False
theorem q9:PS X st NZ:=λ_ _ _ _ _ _ h=>h.elim
theorem ZD{pf:List Stmt}:PSs X pf NZ:=λ_ _ _ _ _ _ h=>h.elim
end
abbrev TG:=V->St->Hp->(St->Hp->Prop)->Prop
abbrev rh:=List V->St->Hp->(St->Hp->Prop)->Prop
def PG(X:Cx)(target:Expr)(t:TG):Prop :=
 ∀(pins:List (Addr × Obj)) (s:Shared) (σ:St) (H:Hp) (v:V) (u:Value) (Q:St->Hp->Prop),Inv X pins σ H s->RelV v u->t v σ H Q ->
  wpAny (model X.prog X.w) X.A (assign target X.env u) (λ_ s'=>∃aF H',Inv X pins aF H' s'/\Q aF H') X.xe s
def BF(X:Cx)(ts:List Expr)(t:rh):Prop :=
 ∀(pins:List (Addr × Obj)) (s:Shared) (σ:St) (H:Hp) (vs:List V) (us:List Value) (Q:St->Hp->Prop),Inv X pins σ H s->Vals vs us->t vs σ H Q ->
  wpAny (model X.prog X.w) X.A (assignInOrder ((assignEach ts X.env).map (·.2)) us) (λ_ s'=>∃aF H',Inv X pins aF H' s'/\Q aF H') X.xe s
abbrev FG:=V->V->V->Hp->(Hp->Prop)->Prop
def N1(X:Cx)(t:FG):Prop :=
 ∀(pins:List (Addr × Obj)) (s:Shared) (σ:St) (H:Hp) (o i v:V) (ov iv u:Value) (Q:Hp->Prop),Inv X pins σ H s->RelV o ov->RelV i iv->RelV v u->t o i v H Q ->
  wpAny (model X.prog X.w) X.A (setItem ov iv u) (λ_ s'=>∃H',Inv X pins σ H' s'/\Q H') X.xe s
abbrev FH:=V->V->Hp->VK->Prop
def ZE(X:Cx)(op:Operator)(t:FH):Prop :=
 ∀(pins:List (Addr × Obj)) (s:Shared) (σ:St) (H:Hp) (x y:V) (v u:Value) (Q:VK),Inv X pins σ H s->RelV x v->RelV y u->t x y H Q ->
  wpAny (model X.prog X.w) X.A (inplaceOp op v u) (EP X pins σ Q) X.xe s
section
variable{X:Cx}{pos:Pos}
def BG(i:Nat):TG:=λv σ H Q=>Q (σ.set i (some v)) H
theorem BH{i:Nat}{x:Str}(hN:X.N.Nodup)(hi:X.N[i]?=some x)(hx:Loc X.env.scope x)(hf:X.fn x=true\/X.env.scope.names.lookup x=some .local:=by first | exact .inl rfl | exact .inr rfl | assumption):PG X (.Name x pos) (BG i):=by
 intro pins s σ H v u Q I r h
 exact wpAny_assign_Name (Bz I hN hi hx r (λs' I'=>⟨_,H,I',h⟩) hf)
def ZF:rh:=λvs σ H Q=>vs=[]/\Q σ H
def ZG(t:TG)(u:rh):rh:=λvs σ H Q=>∃v r,vs=v::r/\t v σ H λaF H'=>u r aF H' Q
theorem ZH:BF X [] ZF:=by
 intro pins s σ H vs us Q I r h
 obtain⟨e,h⟩:=h
 subst e
 cases r
 exact assignInOrder_nil ⟨σ,H,I,h⟩
theorem N2{e:Expr}{es:List Expr}{t:TG}{u:rh}(h1:PG X e t)(h2:BF X es u)
  (hs:(assignEach (e::es) X.env).map (·.2)=assign e X.env::(assignEach es X.env).map (·.2):=by rfl):BF X (e::es) (ZG t u):=by
 intro pins s σ H vs us Q I r h
 obtain⟨v,vr,e1,h⟩:=h
 subst e1
 cases r with
 | cons r rr =>
  rw[hs]
  refine assignInOrder_cons (aP (h1 pins s σ H _ _ _ I r h) λ_ s1 ⟨hJ,H1,I1,q1⟩=>?_)
  exact h2 pins s1 hJ H1 _ _ Q I1 rr q1
def ZI(K:PySem.W.Frag)(n:Nat)(t:rh):TG:=λv σ H Q=>∃a xs,v=.ref a/\iu K H a xs/\xs.length=n/\t xs σ H Q
theorem ZJ{es:List Expr}{k:Nat}{t:rh}{n:Nat}(hc:X.calm=true)(h:BF X es t)
  (hn:(assignEach es X.env).length=n:=by rfl) (cw:(assignEach es X.env).findIdx? (·.1)=none:=by rfl):PG X (.Tuple es k pos) (ZI X.K n t):=by
 intro pins s σ H v u Q I r hw
 obtain⟨a,xs,e1,hq,hl,hw⟩:=hw
 subst e1
 cases r
 obtain⟨its,rv,ht,hz⟩:=I.tuple hq
 refine assign_Tuple_tuple (I.ok.hd hc) ht (by simp[hn,<- hl,rv.length]) cw λh' hx=>?_
 have I1:Inv X pins σ H { s with heap:=h' }:=I.kept (t':=s.toks) λb o e=>hx b o (eQ (bL e)) e
 exact h pins _ σ H xs _ Q I1 (by simpa using rv) hw
def ZK(to ti:TE)(t:FG):TG:=λv σ H Q=>to σ H λo H1=>ti σ H1 λi H2=>t o i v H2 λH3=>Q σ H3
theorem ZL{o i:Expr}{to ti:TE}{t:FG}(ho:PE X o to)(hi:PE X i ti)(hs:N1 X t)
  (ha:∀v,assign (.Subscript o i pos) X.env v=(do
   let ov<-holding [v] (eval o X.env)
   let iv<-holding [v,ov] (eval i X.env)
   standAt pos
   holding [v,ov,iv] (setItem ov iv v)
   release [v,ov,iv] []):=by intro _;rfl):PG X (.Subscript o i pos) (ZK to ti t):=by
 intro pins s σ H v u Q I r h
 rw[ha]
 refine wpAny_bind (wpAny_holding (aP (ho pins s σ H _ I h) λov s1 ⟨x,H1,I1,r1,q1⟩=>?_))
 refine wpAny_bind (wpAny_holding (aP (hi pins s1 σ H1 _ I1 q1) λiv s2 ⟨y,H2,I2,r2,q2⟩=>?_))
 refine wpAny_bind (wpAny_standAt (wpAny_bind (wpAny_holding (aP (hs pins s2 σ H2 x y v ov iv u _ I2 r1 r2 r q2) λ_ s3 ⟨H3,I3,q3⟩=>?_))))
 exact wpAny_release ⟨σ,H3,I3,q3⟩
def FI(te:TE)(g:TG):TS:=λD σ H=>te σ H λx H1=>g x σ H1 D.nx
theorem ZM{tg e:Expr}{te:TE}{g:TG}(he:PE X e te)(hg:PG X tg g)(hs:swapsWithSole [tg] e pos.line X.env=pure false:=by rfl)(hw:swappedStores [tg] e X.env=pure none:=by rfl)
  (h1:(assignEach [tg] X.env).map (·.2)=[assign tg X.env]:=by rfl):PS X (.Assign [tg] e pos) (FI te g):=by
 intro pins s σ H D I h
 refine wpAny_Assign_stores (aP (he pins s σ H _ I h) λv s1 ⟨x,H1,I1,r1,q1⟩=>?_) hs hw
 rw[h1]
 exact aP (hg pins s1 σ H1 x v _ I1 r1 q1) λ_ s2 q=>q
theorem FJ{i:Nat}{x:Str}{e:Expr}{te:TE}{pos':Pos}(hN:X.N.Nodup)(hi:X.N[i]?=some x)(hx:Loc X.env.scope x)(he:PE X e te)(hs:swapsWith e (some (.Name x pos')) pos.line X.env=pure false:=by rfl)(hf:X.fn x=true\/X.env.scope.names.lookup x=some .local:=by first | exact .inl rfl | exact .inr rfl | assumption) :
  PS X (.Assign [.Name x pos'] e pos) (FI te (BG i)):=by
 intro pins s σ H D I h
 refine wpAny_Assign_Name (aP (he pins s σ H _ I h) λv s1 ⟨y,H1,I1,r1,q1⟩=>?_) hs
 exact Bz I1 hN hi hx r1 (λs2 I2=>⟨_,H1,I2,q1⟩) hf
def ZN(i:Nat)(te:TE)(ti:FH):TS:=λD σ H=>∃x,σ[i]?=some (some x)/\te σ H λy H1=>ti x y H1 λz H2=>D.nx (σ.set i (some z)) H2
theorem ZO{i:Nat}{x:Str}{e:Expr}{te:TE}{op:Operator}{ti:FH}{pos':Pos}(hN:X.N.Nodup)(hi:X.N[i]?=some x)(hx:Loc X.env.scope x)(he:PE X e te)(ho:ZE X op ti)(hf:X.fn x=true\/X.env.scope.names.lookup x=some .local:=by first | exact .inl rfl | exact .inr rfl | assumption) :
  PS X (.AugAssign (.Name x pos') op e pos) (ZN i te ti):=by
 intro pins s σ H D I h
 obtain⟨v,e1,h⟩:=h
 obtain⟨m,hn,hl⟩:=I.loc
 have ZP:nk X.env.scope x:=by rcases hx with k | k;exact .inl k;exact .inr (.inl k)
 obtain⟨u,r,l⟩:=hl i x v hi e1 ZP
 refine wpAny_AugAssign_Name ?_
 have go:wpAny (model X.prog X.w) X.A (eval e X.env) (λw jQ=>wpAny (model X.prog X.w) X.A (inplaceOp op u w) (λr ZQ=>wpAny (model X.prog X.w) X.A (storeName X.env x r) (λ_=>SP X pins D .next) X.xe ZQ) X.xe jQ) X.xe s:=by
  refine aP (he pins s σ H _ I h) λw s1 ⟨y,H1,I1,r1,q1⟩=>?_
  refine aP (ho pins s1 σ H1 v y u w _ I1 r r1 q1) λz s2 ⟨zv,H2,I2,r2,q2⟩=>?_
  exact Bz I2 hN hi hx r2 (λs3 I3=>⟨_,H2,I3,q2⟩) hf
 rcases l with⟨hk,hm⟩ | ⟨hk,c,hc,BA⟩
 ·exact wpAny_loadName_local I.ok.kind hk hn hm go
 ·rcases hk with hk | hk
  ·exact wpAny_loadName_cell I.ok.kind hk hc BA go
  ·rcases hx with k | k
   ·have:X.env.scope.names.lookup x=some .free:=hk
    rw[k]at this;cases this
   ·have:X.env.scope.names.lookup x=some .free:=hk
    rw[k]at this;cases this
end
section
variable{X:Cx}{pos:Pos}
def ZR(c:TT)(tb:TS):TS:=λD σ H=>∃W:Nat->St->Hp->Prop,(∃m,W m σ H)/\∀m σ H,W m σ H ->
 c σ H λb H1=>if b=true then ∃N:St->Hp->Prop,(∀aF H',N aF H'->∃m',m'<m/\W m' aF H')/\tb { D with nx:=N,ct:=N,bk:=D.nx } σ H1 else D.nx σ H1
theorem ZS{c:Expr}{body:List Stmt}{tc:TT}{tb:TS}(hp:PassesOwn (model X.prog X.w) X.A X.env X.xe)(hc:PT X c tc)(hb:PSs X body tb):PS X (.While c body [] pos) (ZR tc tb):=by
 intro pins s σ H D I h
 obtain⟨W,⟨m0,w0⟩,turn⟩:=h
 refine wpAny_While (codeAny_whileLoop (λn s'=>∃aF H',Inv X pins aF H' s'/\W n aF H') ?_ m0 ⟨σ,H,I,w0⟩)
 rintro n s1 ⟨hJ,H1,I1,w1⟩
 refine wpAny_passesOwn hp (aP (hc pins s1 hJ H1 _ I1 (turn n hJ H1 w1)) λb s2 ⟨H2,I2,q2⟩=>?_)
 cases b with
 | true =>
  obtain⟨N,hN,q2⟩:=q2
  rw[if_pos rfl]
  refine wpAny_passesOwn hp (aP (hb pins s2 hJ H2 _ I2 q2) λf s3 q3=>?_)
  cases f with
  | next =>
   obtain⟨kU,H3,I3,n3⟩:=q3
   obtain⟨m',hm,w3⟩:=hN kU H3 n3
   exact⟨m',hm,kU,H3,I3,w3⟩
  | cont =>
   obtain⟨kU,H3,I3,n3⟩:=q3
   obtain⟨m',hm,w3⟩:=hN kU H3 n3
   exact⟨m',hm,kU,H3,I3,w3⟩
  | brk=>exact q3
  | ret v=>exact q3
 | false =>
  rw[if_neg iW]
  exact wpAny_execs_nil ⟨hJ,H2,I2,q2⟩
end
structure It where
 go:Nat->Hp->Prop
 ky:Nat->Hp->V->Hp->Prop
 stop:Nat->Hp->Prop
def jm(X:Cx)(pins:List (Addr × Obj))(H:Hp)(b:Addr):Prop :=
 H b=none/\b≠X.env.locals/\b ∉ X.fs/\(b∈X.ex\/X.cN.heap.objs.size<=b)/\(∀x c,X.env.cells.lookup x=some c->c≠b)/\∀p∈X.pn++pins,p.1≠b
theorem Inv.BI{X:Cx}{pins:List (Addr × Obj)}{σ:St}{H H':Hp}{s:Shared}{b:Addr}(I:Inv X pins σ H s)(hb:s.heap.objs.size<=b)(hn:H' b=none):jm X pins H' b:=by
 refine⟨hn,Na (cW I.lt hb),I.NP hb,.inr (fO I.sz hb),λx c e z=>?_,λp hp z=>?_⟩
 ·obtain⟨v,q⟩:=I.cell x c e
  exact absurd (cW q.lt (by rw[z];exact hb)) (gJ _)
 ·exact absurd (cW (bL (I.pin p hp).1) (by rw[z];exact hb)) (gJ _)
structure Turn(P:Program)(w:World)(K:PySem.W.Frag)(tg:Expr)(J:It)(fp:List Addr)(it:Addr)(tn:Nat->Heap->Prop):Prop where
 mem:it∈fp
 obj:∀i h,tn i h->∀b∈fp,∃o,h.get? b=some o/\∀v,o.data≠.cell v
 keep:∀i h h',tn i h->(∀b∈fp,∀o,h.get? b=some o->h'.get? b=some o)->tn i h'
 item:∀(X:Cx),X.prog=P->X.w=w->X.K=K->X.calm=true->∀(i:Nat) (pins:List (Addr × Obj)) (s:Shared) (σ:St) (H:Hp) (E:Value->Shared->Prop),Inv X pins σ H s->(∀b∈fp,jm X pins H b)->tn i s.heap->J.go i H ->
  wpAny (model P w) X.A (pyNext (.ref it)) (λr s1=>∃u,r=some u /\
   wpAny (model P w) X.A (letOwnedTupleGo tg (.ref it) u) (λ_ s2=>∃x H',Inv X pins σ H' s2/\RelV x u/\J.ky i H x H'/\tn (i+1) s2.heap/\∀b∈fp,H' b=none) E s1) E s
 done:∀(X:Cx),X.prog=P->X.w=w->X.K=K->X.calm=true->∀(i:Nat) (pins:List (Addr × Obj)) (s:Shared) (σ:St) (H:Hp) (E:Value->Shared->Prop),Inv X pins σ H s->(∀b∈fp,jm X pins H b)->tn i s.heap->J.stop i H ->
  wpAny (model P w) X.A (pyNext (.ref it)) (λr s1=>r=none/\Inv X pins σ H s1) E s
 self:∀(A:Around) (i:Nat) (s:Shared) (Q:Value->Shared->Prop) (E:Value->Shared->Prop),tn i s.heap->Q (.ref it) s->wpAny (model P w) A (pyIter (.ref it)) Q E s
abbrev TI:=St->Hp->(It->Hp->Prop)->Prop
def N3(X:Cx)(pins:List (Addr × Obj))(σ:St)(tg:Expr)(R:It->Hp->Prop)(FK:Value)(s2:Shared):Prop :=
 ∃(it:Addr) (fp:List Addr) (tn:Nat->Heap->Prop) (J:It) (H':Hp),FK=.ref it/\Inv X pins σ H' s2/\Turn X.prog X.w X.K tg J fp it tn/\tn 0 s2.heap/\(∀b∈fp,jm X pins H' b)/\R J H'
def PI(X:Cx)(tg iter:Expr)(wi:TI):Prop :=
 ∀(pins:List (Addr × Obj)) (s:Shared) (σ:St) (H:Hp) (R:It->Hp->Prop),Inv X pins σ H s->wi σ H R ->
  wpAny (model X.prog X.w) X.A (eval iter X.env) (λv s1=>wpAny (model X.prog X.w) X.A (pyIter v) (N3 X pins σ tg R) X.xe s1) X.xe s
theorem N4{M:Model}{A:Around}{E:Value->Shared->Prop}{s:Shared}{tg:Expr}{it:Addr}{u:Value}{o:Obj}{n:String}{vs:Array Value}{Q:Unit->Shared->Prop}(ho:s.heap.get? it=some o)(hc:o.cls=.type n)(hd:o.data=.fields vs)
  (hn:["enumerate","zip","dict_itemiterator","dict_reverseitemiterator","odict_iterator","itertools.zip_longest","itertools.pairwise"].contains n=false) (hQ:Q () s):wpAny M A (letOwnedTupleGo tg (.ref it) u) Q E s:=by
 unfold letOwnedTupleGo
 cases tg<;>first
  | exact wpAny_pure hQ
  | (cases u<;>first
    | exact wpAny_pure hQ
    | (refine wpAny_bind (wpAny_load ho ?_)
       rw[hc,hd]
       show wpAny M A (if(["enumerate","zip","dict_itemiterator","dict_reverseitemiterator","odict_iterator","itertools.zip_longest","itertools.pairwise"].contains n&&vs[0]?==some (rawInt _))=true then _ else _) Q E s
       rw[if_neg (by intro h;rw[hn,tW]at h;cases h)]
       exact wpAny_pure hQ))
def FL(K:PySem.W.Frag)(a:Addr):It :=
 ⟨λi H=>∃xs x,bQ K H a xs/\xs[i]?=some x,λi H x H'=>H'=H/\∀xs,bQ K H a xs->xs[i]?=some x,λi H=>∃xs,bQ K H a xs/\xs.length<=i⟩
def xX(lo:Int)(n:Nat):It:=⟨λi _=>i<n,λi H x H'=>H'=H/\x=.int (lo+i),λi _=>n<=i⟩
theorem ZT{P:Program}{w:World}{K:PySem.W.Frag}{tg:Expr}(a it:Addr):Turn P w K tg (FL K a) [it] it (λi h=>h.IsListIter it a i) where
 mem:=by simp
 obj:=λi h st b hb=>by
  have e:b=it:=by simpa using hb
  subst e
  obtain⟨o,e,c,d⟩:=st
  exact⟨o,e,λv z=>by rw[d]at z;cases z⟩
 keep:=λi h h' st k=>st.at λo e=>k it (by simp) o e
 item:=by
  intro X hP hw hK hc i pins s σ H E I hf st hg
  subst hP hw hK
  obtain⟨xs,x,hq,hx⟩:=hg
  obtain⟨its,rv,p,hz⟩:=I.list hq
  obtain⟨u,hu,ru⟩:=rv.get hx
  obtain⟨f0,f1,f2,f3,f4,f5⟩:=hf it (by simp)
  refine wpAny_pyNext_list_item st p.isList (x:=u) (by simpa using hu) λh' ph sb=>?_
  have I1:Inv X pins σ H { s with heap:=h' }:=I.turned (t':=s.toks) (λb o hb e=>(sb.2 b hb).trans e) f0 f1 f3 f4 f5
  obtain⟨o,e,c,d⟩:=id ph
  exact⟨u,rfl,N4 (s:={ s with heap:=h' }) e c d (by decide) ⟨x,H,I1,ru,⟨rfl,λys hy=>by rw[I.BE hy hq];exact hx⟩,ph,λb hb=>(hf b hb).1⟩⟩
 done:=by
  intro X hP hw hK hc i pins s σ H E I hf st hg
  subst hP hw hK
  obtain⟨xs,hq,hx⟩:=hg
  obtain⟨its,rv,p,hz⟩:=I.list hq
  obtain⟨f0,f1,f2,f3,f4,f5⟩:=hf it (by simp)
  have hl:=rv.length
  exact wpAny_pyNext_list_end (I.ok.hd hc) st p.isList (by simp;omega) λh' eb=>⟨rfl,I.turned (t':=s.toks) (λb o hb e=>eb b o hb e) f0 f1 f3 f4 f5⟩
 self:=λ_ _ _ _ _ st h=>wpAny_pyIter_listiter st h
theorem ZU{P:Program}{w:World}{K:PySem.W.Frag}{tg:Expr}(it:Addr)(lo:Int)(n:Nat):Turn P w K tg (xX lo n) [it] it (λi h=>IsRangeIter h it (lo+(i:Nat)*1) ((n:Int)-(i:Nat)) 1) where
 mem:=by simp
 obj:=λi h st b hb=>by
  have e:b=it:=by simpa using hb
  subst e
  exact⟨_,st,λv z=>by
   have z':Data.fields _=Data.cell v:=z
   cases z'⟩
 keep:=λi h h' st k=>k it (by simp) _ st
 item:=by
  intro X hP hw hK hc i pins s σ H E I hf st hg
  subst hP hw hK
  obtain⟨f0,f1,f2,f3,f4,f5⟩:=hf it (by simp)
  have W:=Walks.range (prog:=X.prog) (w:=X.w) (I.ok.hd hc) it lo 1 n
  refine W.item i s _ _ hg st λv h' tk hv ph kk=>?_
  obtain⟨t,rfl⟩:=hv
  have I1:Inv X pins σ H { s with heap:=h',toks:=tk }:=I.turned (λb o hb e=>kk b o (by simpa using hb) e) f0 f1 f3 f4 f5
  refine⟨_,rfl,N4 (s:={ s with heap:=h',toks:=tk }) (n:="range_iterator") ph rfl rfl (by decide) ⟨.int (lo+i),H,I1,⟨t,?_⟩,⟨rfl,rfl⟩,ph,λb hb=>(hf b hb).1⟩⟩
  rw[Int.mul_one]
 done:=by
  intro X hP hw hK hc i pins s σ H E I hf st hg
  subst hP hw hK
  obtain⟨f0,f1,f2,f3,f4,f5⟩:=hf it (by simp)
  exact wpAny_pyNext_range_end (I.ok.hd hc) st (by have:n<=i:=hg;omega) λh' eb=>⟨rfl,I.turned (t':=s.toks) (λb o hb e=>eb b o hb e) f0 f1 f3 f4 f5⟩
 self:=λ_ _ _ _ _ st h=>wpAny_pyIter_rangeiter st h
end L2
namespace L2
open PySem PySem.Spec PyProof.Rows
section
variable{X:Cx}{tg:Expr}
def ZV(K:PySem.W.Frag)(tl:TE):TI:=λσ H R=>tl σ H λx H1=>∃a,x=.ref a/\(∃xs,bQ K H1 a xs)/\R (FL K a) H1
theorem N5{l:Expr}{tl:TE}(hl:PE X l tl):PI X tg l (ZV X.K tl):=by
 intro pins s σ H R I h
 refine aP (hl pins s σ H _ I h) λv s1 ⟨x,H1,I1,r1,q1⟩=>?_
 obtain⟨a,e,⟨xs,hq⟩,q⟩:=q1
 subst e
 cases r1
 obtain⟨its,rv,p,hz⟩:=I1.list hq
 refine wpAny_pyIter_list p.isList ?_
 refine⟨s1.heap.objs.size,[s1.heap.objs.size],_,_,H1,rfl,I1.kept (t':=s1.toks) λb o e=>fU _ e,ZT a _,⟨_,g8 _ rfl,rfl,rfl⟩,λb hb=>?_,q⟩
 have e:b=s1.heap.objs.size:=by simpa using hb
 subst e
 exact I1.BI (bM _) (I1.aH.fresh (bM _))
theorem N6{pins:List (Addr × Obj)}{σ:St}{H:Hp}{s:Shared}{R:It->Hp->Prop}{E:Value->Shared->Prop}{lo hi:Int}{t u v:Tok}{tk:Nat}(I:Inv X pins σ H s)(h1:-(2 ^ 62)<=lo)(h2:lo<2 ^ 62)(h3:-(2 ^ 62)<=hi)(h4:hi<2 ^ 62)
  (q:R (xX lo (hi-lo).toNat) H):wpAny (model X.prog X.w) X.A (pyIter (.ref s.heap.objs.size)) (N3 X pins σ tg R) E { s with heap:=s.heap.push { cls:=.type "range",data:=.fields #[.int lo t,.int hi u,.int 1 v] },toks:=tk }:=by
 refine wpAny_pyIter_range (IsRange.new ..) (small_one h1 h2 h3 h4) ?_
 have I1:Inv X pins σ H { s with heap:=s.heap.push { cls:=.type "range",data:=.fields #[.int lo t,.int hi u,.int 1 v] },toks:=tk }:=I.kept λb o e=>fU _ e
 refine⟨(s.heap.push { cls:=.type "range",data:=.fields #[.int lo t,.int hi u,.int 1 v] }).objs.size,[(s.heap.push { cls:=.type "range",data:=.fields #[.int lo t,.int hi u,.int 1 v] }).objs.size],_,_,H,rfl,
  I1.kept (t':=tk) λb o e=>fU _ e,ZU _ lo (hi-lo).toNat,?_,λb hb=>?_,q⟩
 ·have e1:lo+((0:Nat):Int)*1=lo:=by simp
  have e2:(((hi-lo).toNat:Nat):Int)-((0:Nat):Int)=Builtin.Range.rangeSize lo hi 1:=by rw[rangeSize_one];split<;>omega
  show IsRangeIter _ _ (lo+((0:Nat):Int)*1) ((((hi-lo).toNat:Nat):Int)-((0:Nat):Int)) 1
  rw[e1,e2]
  exact g8 _ rfl
 ·have e:b=(s.heap.push { cls:=.type "range",data:=.fields #[.int lo t,.int hi u,.int 1 v] }).objs.size:=by simpa using hb
  subst e
  exact I1.BI (bM _) (I1.aH.fresh (bM _))
def ZW(ta:TA):TI:=λσ H R=>ta σ H λvs H1=>∃j:Int,vs=[.int j]/\-(2 ^ 62)<=j/\j<2 ^ 62/\R (xX 0 j.toNat) H1
def ZX(ta:TA):TI:=λσ H R=>ta σ H λvs H1=>∃i j:Int,vs=[.int i,.int j]/\(-(2 ^ 62)<=i/\i<2 ^ 62/\-(2 ^ 62)<=j/\j<2 ^ 62)/\R (xX i (j-i).toNat) H1
theorem ZY{a:Expr}{ta:TA}{p pos:Pos}(hg:Gl X "range")(hm:X.mg "range"=none)(ha:PA X [a] ta)(hs:starEach [a] X.env=[(false,eval a X.env)]:=by rfl):PI X tg (.Call (.Name "range" p) [a] [] pos) (ZW ta):=by
 intro pins s σ H R I h
 refine Call_ (qZ I hg hm boot_range (AS (aP (ha pos pins s σ H _ I h) λus s1 ⟨vs,H1,I1,r1,q1⟩=>?_) hs rfl))
 obtain⟨j,e,q1,q2,q⟩:=q1
 subst e
 cases r1 with
 | cons r rr =>
  cases rr
  obtain⟨t,rfl⟩:=r
  exact call_range_1 (N6 I1 (by omega) (by omega) q1 q2 (by simpa using q))
theorem ZZ{a b:Expr}{ta:TA}{p pos:Pos}(hg:Gl X "range")(hm:X.mg "range"=none)(ha:PA X [a,b] ta)(hs:starEach [a,b] X.env=[(false,eval a X.env),(false,eval b X.env)]:=by rfl)(eI:starEach [b] X.env=[(false,eval b X.env)]:=by rfl) :
  PI X tg (.Call (.Name "range" p) [a,b] [] pos) (ZX ta):=by
 intro pins s σ H R I h
 refine Call_ (qZ I hg hm boot_range (AS (aP (ha pos pins s σ H _ I h) λus s1 ⟨vs,H1,I1,r1,q1⟩=>?_) (by rw[hs,eI]) (by rw[eI];rfl)))
 obtain⟨i,j,e,⟨q1,q2,q3,q4⟩,q⟩:=q1
 subst e
 cases r1 with
 | cons r rr =>
  cases rr with
  | cons r' rr =>
   cases rr
   obtain⟨t,rfl⟩:=r
   obtain⟨t',rfl⟩:=r'
   exact call_range_2 (N6 I1 q1 q2 q3 q4 q)
def Z0(wi:TI)(g:TG)(tb:TS):TS:=λD σ H=>wi σ H λJ H1=>∃W:Nat->Nat->St->Hp->Prop,(∃m,W 0 m σ H1)/\∀i m σ H,W i m σ H ->
 (J.stop i H/\D.nx σ H)\/(J.go i H/\∃N:St->Hp->Prop,(∀aF H',N aF H'->∃m',m'<m/\W (i+1) m' aF H')/\∀x H',J.ky i H x H'->g x σ H' λjR H2=>tb { D with nx:=N,ct:=N,bk:=D.nx } jR H2)
def xY(fp:List Addr)(h:Heap):List (Addr × Obj):=fp.filterMap λb=>(h.get? b).map λo=>(b,o)
theorem BJ{fp:List Addr}{h:Heap}{b:Addr}{o:Obj}(hb:b∈fp)(e:h.get? b=some o):(b,o)∈xY fp h:=Yx.mpr ⟨b,hb,by rw[e];rfl⟩
theorem Z1{fp:List Addr}{h:Heap}{p:Addr × Obj}(hp:p∈xY fp h):p.1∈fp/\h.get? p.1=some p.2:=by
 obtain⟨b,hb,e⟩:=Yx.mp hp
 cases q:h.get? b with
 | none=>rw[q]at e;cases e
 | some o =>
  rw[q]at e
  have e':(b,o)=p:=dn e
  subst e'
  exact⟨hb,q⟩
theorem Inv.pinned{pins:List (Addr × Obj)}{σ:St}{H:Hp}{s:Shared}{fp:List Addr}(I:Inv X pins σ H s)(hf:∀b∈fp,jm X pins H b)(ho:∀b∈fp,∃o,s.heap.get? b=some o/\∀v,o.data≠.cell v):Inv X (pins++xY fp s.heap) σ H s :=
 I.NQ λp hp=>(cI.mp hp).elim (λz=>I.pin p (dq _ z)) λz=>by
  obtain⟨hb,e⟩:=Z1 z
  obtain⟨f0,f1,f2,_⟩:=hf p.1 hb
  obtain⟨o,e',d⟩:=ho p.1 hb
  rw[e]at e';cases e'
  exact⟨e,f0,f1,f2,d⟩
theorem Inv.xZ{pins pl:List (Addr × Obj)}{σ:St}{H:Hp}{s:Shared}(I:Inv X (pins++pl) σ H s):Inv X pins σ H s:=I.NQ λp hp=>I.pin p (dq _ (eR _ hp))
theorem Z2{iter:Expr}{body:List Stmt}{wi:TI}{g:TG}{tb:TS}{pos:Pos}(hp:PassesOwn (model X.prog X.w) X.A X.env X.xe)(hc:X.calm=true)(hi:PI X tg iter wi)(hg:PG X tg g)(hb:PSs X body tb)
  (hs:∀x,foldedSetIterable iter X.env x=pure x:=by intro _;rfl):PS X (.For tg iter body [] pos) (Z0 wi g tb):=by
 intro pins s σ H D I h
 refine wpAny_For (aP (hi pins s σ H _ I h) λv s1 h1=>aP h1 λFK s2 h2=>?_) hs
 obtain⟨it,fp,tn,J,H2,e,I2,T,x6,f2,W,⟨m0,w0⟩,turn⟩:=h2
 subst e
 have FN:∀{H':Hp},(∀b∈fp,H' b=none)->∀b∈fp,jm X pins H' b:=λhn b hb=>⟨hn b hb,(f2 b hb).2⟩
 refine codeAny_forLoop_any (λn s'=>∃i aF H',Inv X pins aF H' s'/\tn i s'.heap/\(∀b∈fp,H' b=none)/\W i n aF H') ?_ m0 ⟨0,σ,H2,I2,x6,λb hb=>(f2 b hb).1,w0⟩
 rintro n s3 ⟨i,kU,H3,I3,N7,FP,w3⟩
 rcases turn i n kU H3 w3 with⟨stop,qn⟩ | ⟨go,N,hN,step⟩
 ·refine wpAny_passesOwn hp (aP (T.done X rfl rfl rfl hc i pins s3 kU H3 X.xe I3 (FN FP) N7 stop) λr s4 ⟨hr,I4⟩=>?_)
  subst hr
  exact wpAny_execs_nil ⟨kU,H3,I4,qn⟩
 ·refine wpAny_passesOwn hp (aP (T.item X rfl rfl rfl hc i pins s3 kU H3 X.xe I3 (FN FP) N7 go) λr s4 ⟨u,hr,h4⟩=>?_)
  subst hr
  refine wpAny_passesOwn hp (aP h4 λ_ s5 ⟨x,H5,I5,r5,y5,rj,x8⟩=>?_)
  have FQ:=I5.pinned (FN x8) (T.obj _ _ rj)
  refine wpAny_passesOwn hp (aP (hg _ s5 kU H5 x u _ FQ r5 (step x H5 y5)) λ_ s6 ⟨BK,H6,I6,q6⟩=>?_)
  refine wpAny_passesOwn hp (aP (hb _ s6 BK H6 _ I6 q6) λf s7 q7=>?_)
  have again:∀{kW:St} {H7:Hp},Inv X (pins++xY fp s5.heap) kW H7 s7->N kW H7->∃m,m<n/\∃i aF H',Inv X pins aF H' s7/\tn i s7.heap/\(∀b∈fp,H' b=none)/\W i m aF H':=λ{kW H7} I7 n7=>by
   obtain⟨m',hm,w7⟩:=hN kW H7 n7
   refine⟨m',hm,i+1,kW,H7,I7.xZ,T.keep _ _ _ rj λb hb o e=>(I7.pin (b,o) (dq _ (dq _ (BJ hb e)))).1,λb hb=>?_,w7⟩
   obtain⟨o,e,d⟩:=T.obj _ _ rj b hb
   exact(I7.pin (b,o) (dq _ (dq _ (BJ hb e)))).2.1
  cases f with
  | next=>obtain⟨kW,H7,I7,n7⟩:=q7;exact again I7 n7
  | cont=>obtain⟨kW,H7,I7,n7⟩:=q7;exact again I7 n7
  | brk=>obtain⟨kW,H7,I7,q7⟩:=q7;exact⟨kW,H7,I7.xZ,q7⟩
  | ret v=>obtain⟨x7,kW,H7,I7,r7,q7⟩:=q7;exact⟨x7,kW,H7,I7.xZ,r7,q7⟩
end
end L2
namespace L2
open PySem PySem.Spec PyProof.Rows
abbrev R2:=V->V->Hp->VK->Prop
def cQ(X:Cx)(f:Value->Value->Sem Value)(r:R2):Prop :=
 ∀(pins:List (Addr × Obj)) (s:Shared) (σ:St) (H:Hp) (x y:V) (v u:Value) (Q:VK),Inv X pins σ H s->RelV x v->RelV y u->r x y H Q ->
  wpAny (model X.prog X.w) X.A (f v u) (EP X pins σ Q) X.xe s
def FR(X:Cx)(f:Value->Sem Value)(r:V->Hp->VK->Prop):Prop :=
 ∀(pins:List (Addr × Obj)) (s:Shared) (σ:St) (H:Hp) (x:V) (v:Value) (Q:VK),Inv X pins σ H s->RelV x v->r x H Q ->
  wpAny (model X.prog X.w) X.A (f v) (EP X pins σ Q) X.xe s
def gz(X:Cx)(f:Value)(r:List V->Hp->VK->Prop):Prop :=
 ∀(pins:List (Addr × Obj)) (s:Shared) (σ:St) (H:Hp) (xs:List V) (us:List Value) (Q:VK),Inv X pins σ H s->Vals xs us->r xs H Q ->
  wpAny (model X.prog X.w) X.A (call f us) (EP X pins σ Q) X.xe s
def x9(r:R2)(ta tb:TE):TE:=λσ H Q=>ta σ H λx H1=>tb σ H1 λy H2=>r x y H2 Q
def Z3(r:V->Hp->VK->Prop)(ta:TE):TE:=λσ H Q=>ta σ H λx H1=>r x H1 Q
def rI(C:Int->Int->Prop)(g:Int->Int->V):R2:=λx y H Q=>∃i j,x=.int i/\y=.int j/\C i j/\Q (g i j) H
def jS(g:Int->Int->V):R2:=λx y H Q=>∃i j,x=.int i/\y=.int j/\Q (g i j) H
def rU(g:Int->V):V->Hp->VK->Prop:=λx H Q=>∃i,x=.int i/\Q (g i) H
section
variable{X:Cx}{a b c:Expr}{ta tb tc:TE}{pos:Pos}
theorem FT(ha:PE X a ta)(hb:PE X b tb){pins:List (Addr × Obj)}{s:Shared}{σ:St}{H:Hp}{R:V->V->Hp->Prop}(I:Inv X pins σ H s)
  (h:ta σ H λx H1=>tb σ H1 λy H2=>R x y H2) {Q:Value->Shared->Prop} {f:Value->Value->Sem Value}
  (hf:∀v u s2 x y H2,Inv X pins σ H2 s2->RelV x v->RelV y u->R x y H2->wpAny (model X.prog X.w) X.A (f v u) Q X.xe s2) :
  wpAny (model X.prog X.w) X.A (eval a X.env) (λv bE=>wpAny (model X.prog X.w) X.A (eval b X.env) (λu jQ=>wpAny (model X.prog X.w) X.A (f v u) Q X.xe jQ) X.xe bE) X.xe s:=by
 refine aP (ha pins s σ H _ I h) λv s1 ⟨x,H1,I1,r1,q1⟩=>?_
 refine aP (hb pins s1 σ H1 _ I1 q1) λu s2 ⟨y,H2,I2,r2,q2⟩=>?_
 exact hf v u s2 x y H2 I2 r1 r2 q2
theorem ya{op:Operator}{r:R2}(ho:cQ X (binaryOp op) r)(ha:PE X a ta)(hb:PE X b tb):PE X (.BinOp a op b pos) (x9 r ta tb):=by
 intro pins s σ H Q I h
 exact wpAny_BinOp (FT ha hb I h λv u s2 x y H2 I2 rx ry q=>ho pins s2 σ H2 x y v u Q I2 rx ry q)
theorem Z4{op:UnaryOp}{r:V->Hp->VK->Prop}(ho:FR X (unaryOp op) r)(ha:PE X a ta):PE X (.UnaryOp op a pos) (Z3 r ta):=by
 intro pins s σ H Q I h
 exact UnaryOp_ (aP (ha pins s σ H _ I h) λv s1 ⟨x,H1,I1,r1,q1⟩=>ho pins s1 σ H1 x v Q I1 r1 q1)
theorem yb{f:Value->Value->Sem Value}{C:Int->Int->Prop}{g:Int->Int->Int}
  (rule:∀(i j:Int) (t u:Tok) (s:Shared) (Q:Value->Shared->Prop) (E:Value->Shared->Prop),C i j->Q (.int (g i j) s.toks) { s with toks:=s.toks+1 }->wpAny (model X.prog X.w) X.A (f (.int i t) (.int j u)) Q E s) :
  cQ X f (rI C λi j=>.int (g i j)):=by
 intro pins s σ H x y v u Q I rx ry h
 obtain⟨i,j,rfl,rfl,hc,q⟩:=h
 obtain⟨t,rfl⟩:=rx
 obtain⟨t',rfl⟩:=ry
 exact rule i j t t' s _ _ hc ⟨.int (g i j),H,I.tok _,⟨_,rfl⟩,q⟩
theorem uC{f:Value->Value->Sem Value}{g:Int->Int->Int}
  (rule:∀(i j:Int) (t u:Tok) (s:Shared) (Q:Value->Shared->Prop) (E:Value->Shared->Prop),Q (.int (g i j) s.toks) { s with toks:=s.toks+1 }->wpAny (model X.prog X.w) X.A (f (.int i t) (.int j u)) Q E s) :
  cQ X f (jS λi j=>.int (g i j)):=by
 intro pins s σ H x y v u Q I rx ry h
 obtain⟨i,j,rfl,rfl,q⟩:=h
 obtain⟨t,rfl⟩:=rx
 obtain⟨t',rfl⟩:=ry
 exact rule i j t t' s _ _ ⟨.int (g i j),H,I.tok _,⟨_,rfl⟩,q⟩
theorem BL{f:Value->Value->Sem Value}{g:Int->Int->Bool}
  (rule:∀(i j:Int) (t u:Tok) (s:Shared) (Q:Value->Shared->Prop) (E:Value->Shared->Prop),Q (.bool (g i j)) s->wpAny (model X.prog X.w) X.A (f (.int i t) (.int j u)) Q E s) :
  cQ X f (jS λi j=>.bl (g i j)):=by
 intro pins s σ H x y v u Q I rx ry h
 obtain⟨i,j,rfl,rfl,q⟩:=h
 obtain⟨t,rfl⟩:=rx
 obtain⟨t',rfl⟩:=ry
 exact rule i j t t' s _ _ ⟨.bl (g i j),H,I,rfl,q⟩
def iw(i j:Int):Prop:=(-(2 ^ 64)<i/\i<2 ^ 64)\/(-(2 ^ 64)<j/\j<2 ^ 64)
theorem iw.ok{i j:Int}(h:iw i j):IntMulOk i j:=by
 rcases h with⟨h1,h2⟩ | ⟨h1,h2⟩
 ·exact .of_left (intBits_le_64 h1 h2)
 ·exact .of_right (intBits_le_64 h1 h2)
theorem Z5(k:Nat):(0:Int)<=2 ^ k:=by
 rw[two_pow_cast]
 exact Nb _
theorem Z6:cQ X (binaryOp .Add) (jS λi j=>.int (i+j)):=uC λ_ _ _ _ _ _ _ q=>add_int q
theorem FU:cQ X (binaryOp .Sub) (jS λi j=>.int (i-j)):=uC λ_ _ _ _ _ _ _ q=>sub_int q
theorem Z7:cQ X (binaryOp .Mod) (rI (λ_ j=>0<j) λi j=>.int (i%j)):=yb λi j _ _ _ _ _ hc q=>by
 have h1:(0:Int)<j:=hc
 exact mod_int' (by omega) (by rw[Int.fmod_eq_emod_of_nonneg i (by omega)];exact q)
theorem Z8:cQ X (binaryOp .RShift) (rI (λ_ j=>0<=j) λi j=>.int (i/2 ^ j.toNat)):=yb λi j _ _ _ _ _ hc q =>
 rshift_int hc (by rw[Yy i (Z5 _)];exact q)
theorem Z9:cQ X (binaryOp .BitAnd) (jS λi j=>.int (oK i j)):=uC λ_ _ _ _ _ _ _ q=>and_int q
theorem γ:cQ X (binaryOp .BitXor) (jS λi j=>.int (oM i j)):=uC λ_ _ _ _ _ _ _ q=>xor_int q
theorem ε:cQ X (inplaceOp .Add) (jS λi j=>.int (i+j)):=uC λ_ _ _ _ _ _ _ q=>iadd_int q
theorem ζ:cQ X (inplaceOp .BitXor) (jS λi j=>.int (oM i j)):=uC λ_ _ _ _ _ _ _ q=>ixor_int q
theorem η{f:Value->Sem Value}{g:Int->Int}
  (rule:∀(i:Int) (t:Tok) (s:Shared) (Q:Value->Shared->Prop) (E:Value->Shared->Prop),Q (.int (g i) s.toks) { s with toks:=s.toks+1 }->wpAny (model X.prog X.w) X.A (f (.int i t)) Q E s) :
  FR X f (rU λi=>.int (g i)):=by
 intro pins s σ H x v Q I rx h
 obtain⟨i,rfl,q⟩:=h
 obtain⟨t,rfl⟩:=rx
 exact rule i t s _ _ ⟨.int (g i),H,I.tok _,⟨_,rfl⟩,q⟩
theorem θ:FR X (unaryOp .USub) (rU λi=>.int (-i)):=η λ_ _ _ _ _ q=>neg_int q
end
section
variable{X:Cx}{a b c:Expr}{ta tb tc:TE}{pos:Pos}
theorem ι{pins:List (Addr × Obj)}{σ:St}{H:Hp}{s:Shared}{Q:VK}{k k':Bool}(I:Inv X pins σ H s)(q:Q (.bl k) H)(e:k=k'):EP X pins σ Q (.bool k') s:=by
 subst e
 exact⟨.bl k,H,I,rfl,q⟩
theorem N8:cQ X (compareOp .Lt) (jS λi j=>.bl (decide (i<j))):=BL λ_ _ _ _ _ _ _ q=>lt_int q
theorem μ:cQ X (compareOp .LtE) (jS λi j=>.bl (decide (i<=j))):=BL λ_ _ _ _ _ _ _ q=>le_int q
theorem N9:cQ X (compareOp .Gt) (jS λi j=>.bl (decide (j<i))):=BL λ_ _ _ _ _ _ _ q=>gt_int q
theorem ν:cQ X (compareOp .GtE) (jS λi j=>.bl (decide (j<=i))):=BL λ_ _ _ _ _ _ _ q=>ge_int q
theorem ξ:cQ X (compareOp .IsNot) (λx y H Q=>y=.au/\Q (.bl (!decide (x=.au))) H):=by
 intro pins s σ H x y v u Q I rx ry h
 obtain⟨rfl,q⟩:=h
 cases ry
 refine isnot_none_gen (ι I q ?_)
 cases x<;>first
  | (cases rx;rfl)
  | (obtain⟨t,rfl⟩:=rx;rfl)
theorem cQ.or{f:Value->Value->Sem Value}{r r':R2}(h:cQ X f r)(h':cQ X f r'):cQ X f (λx y H Q=>r x y H Q\/r' x y H Q):=by
 intro pins s σ H x y v u Q I rx ry q
 rcases q with q | q
 ·exact h pins s σ H x y v u Q I rx ry q
 ·exact h' pins s σ H x y v u Q I rx ry q
theorem bt(b:Expr){op:CmpOp}(h:op≠.In:=by decide)(h2:op≠.NotIn:=by decide):behindInMarks op b=false:=by
 have e1:(op==CmpOp.In)=false:=by cases op<;>first | rfl | exact absurd rfl h
 have e2:(op==CmpOp.NotIn)=false:=by cases op<;>first | rfl | exact absurd rfl h2
 cases b<;>simp[behindInMarks,e1,e2]
theorem ο{op:CmpOp}{r:R2}(ho:cQ X (compareOp op) r)(ha:PE X a ta)(hb:PE X b tb)(hm:behindInMarks op b=false):PE X (.Compare a [op] [b] pos) (x9 r ta tb):=by
 intro pins s σ H Q I h
 exact wpAny_Compare1 (FT ha hb I h λv u s2 x y H2 I2 rx ry q=>ho pins s2 σ H2 x y v u Q I2 rx ry q) hm
def Oa(t:TE):TT:=λσ H Q=>t σ H λx H'=>∃k,x=.bl k/\Q k H'
theorem FV{op:CmpOp}{r:R2}(ho:cQ X (compareOp op) r)(ha:PE X a ta)(hb:PE X b tb)(hm:behindInMarks op b=false):PT X (.Compare a [op] [b] pos) (Oa (x9 r ta tb)):=by
 intro pins s σ H Q I h
 refine wpAny_isTrue_Compare1 (aP (ha pins s σ H _ I h) λv s1 ⟨x,H1,I1,r1,q1⟩=>aP (hb pins s1 σ H1 _ I1 q1) λu s2 ⟨y,H2,I2,r2,q2⟩ =>
  aP (ho pins s2 σ H2 x y v u _ I2 r1 r2 q2) λc s3 ⟨z,H3,I3,r3,k,e,q3⟩=>?_) hm
 subst e
 cases r3
 exact wpAny_truthy_bool ⟨H3,I3,q3⟩
def Ob(r r':R2)(ta tb tc:TE):TE:=λσ H Q=>ta σ H λx H1=>tb σ H1 λy H2=>r x y H2 λz H3=>∃k,z=.bl k /\
 (if k=true then tc σ H3 λw' H4=>r' y w' H4 Q else Q (.bl false) H3)
theorem π{op rk:CmpOp}{r r':R2}(ho:cQ X (compareOp op) r)(kT:cQ X (compareOp rk) r')(ha:PE X a ta)(hb:PE X b tb)(hc:PE X c tc)
  (hm:lastMarks [op,rk] [b,c]=false:=by with_unfolding_all rfl):PE X (.Compare a [op,rk] [b,c] pos) (Ob r r' ta tb tc):=by
 intro pins s σ H Q I h
 refine Compare_chain (aP (ha pins s σ H _ I h) λv s1 ⟨x,H1,I1,r1,q1⟩=>chain_link (aP (hb pins s1 σ H1 _ I1 q1) λu s2 ⟨y,H2,I2,r2,q2⟩ =>
  aP (ho pins s2 σ H2 x y v u _ I2 r1 r2 q2) λd s3 ⟨z,H3,I3,r3,k,e,q3⟩=>?_)) hm
 subst e
 cases r3
 refine wpAny_truthy_bool ?_
 cases k with
 | false=>exact ite_ff ⟨.bl false,H3,I3,rfl,q3⟩
 | true=>exact ite_tt (chain_last (aP (hc pins s3 σ H3 _ I3 q3) λw' s4 ⟨z',H4,I4,r4,q4⟩=>kT pins s4 σ H4 y z' u w' Q I4 r2 r4 q4))
theorem uD:(sizeLine:Nat)<2 ^ 63:=by rw[sizeLine_eq];decide
theorem ρ:cQ X (binaryOp .Add) (λx y H Q=>∃i j,x=.str i/\y=.str j/\i.length+j.length<=sizeLine/\Q (.str (i++j)) H):=by
 intro pins s σ H x y v u Q I rx ry h
 obtain⟨i,j,rfl,rfl,hz,q⟩:=h
 obtain⟨t,rfl⟩:=rx
 obtain⟨t',rfl⟩:=ry
 exact add_str (λt' tk=>⟨.str (i++j),H,I.tok _,⟨_,rfl⟩,q⟩) hz
theorem BM{x:V}{us:List Value}(r:Vals [x] us):∃u,us=[u]/\RelV x u:=by
 cases r with
 | cons r1 r2=>cases r2;exact⟨_,rfl,r1⟩
theorem τ{x y:V}{us:List Value}(r:Vals [x,y] us):∃u w',us=[u,w']/\RelV x u/\RelV y w':=by
 cases r with
 | cons r1 r2 =>
  cases r2 with
  | cons r3 r4=>cases r4;exact⟨_,_,rfl,r1,r3⟩
theorem υ(hc:X.calm=true):gz X (.builtin "min") (λxs H Q=>∃i j,xs=[.int i,.int j]/\Q (.int (if j<i then j else i)) H):=by
 intro pins s σ H xs us Q I r h
 obtain⟨i,j,rfl,q⟩:=h
 obtain⟨u,w',rfl,⟨t,rfl⟩,⟨t',rfl⟩⟩:=τ r
 refine min_two_ints (I.ok.hd hc) λh' tk k=>⟨_,H,I.kept k,?_,q⟩
 by_cases hj:j<i
 ·rw[if_pos hj,if_pos hj];exact⟨_,rfl⟩
 ·rw[if_neg hj,if_neg hj];exact⟨_,rfl⟩
theorem χ:gz X (.type "str") (λxs H Q=>∃i,xs=[.int i]/\i.natAbs.log2<1920/\Q (.str (toString i)) H):=by
 intro pins s σ H xs us Q I r h
 obtain⟨i,rfl,hz,q⟩:=h
 obtain⟨u,rfl,t,rfl⟩:=BM r
 exact PySem.P.str_of_int hz ⟨.str _,H,I.tok _,⟨_,rfl⟩,q⟩
end
end L2
namespace L2
open PySem PySem.Spec PyProof.Rows
structure rm(h:Heap)(x dx C:Addr)(mA:Str->Option Value):Prop where
 obj:h.get? x=some (PySem.W.instObj C dx)
 ns:h.Ns1 dx mA
 ne:dx≠x
theorem ω{h:Heap}{dx:Addr}{mA:Str->Option Value}(n:h.Ns1 dx mA):∃od,h.get? dx=some od/\∀name,PySem.W.lookIn name od=some (mA name):=by
 obtain⟨o,es,ep,ho,hd,hk,_,hm⟩:=n
 refine⟨o,ho,λname=>?_⟩
 have e:=hm name
 unfold nsFind findBy at e
 rw[<-Array.find?_toList]at e
 unfold PySem.W.lookIn
 rw[hd]
 dsimp only
 split
 ·rename_i y q
  rw[q]at e
  exact congrArg some e
 ·rename_i q
  rw[q]at e
  have a:es.toList.any (·.refKey)=false:=by
   rw[List.any_eq_false]
   intro y hy
   obtain⟨z,t,Γ⟩:=hk y (Array.mem_toList_iff.mp hy)
   simp[DictEntry.refKey,Γ]
  have a':¬ es.toList.any (·.refKey)=true:=by rw[a];exact iW
  rw[if_neg a']
  exact congrArg some e
theorem rm.look{h:Heap}{x dx C:Addr}{mA:Str->Option Value}(I:rm h x dx C mA):∃od,PySem.W.InstAt h x (PySem.W.instObj C dx) C (some od)/\∀name,PySem.W.lookIn name od=some (mA name) :=
 let⟨od,ho,hl⟩:=ω I.ns
 ⟨od,⟨I.obj,rfl,rfl,ho⟩,hl⟩
section
variable{prog:Program}{w:World}{A:Around}{E:Value->Shared->Prop}{s:Shared}{K:PySem.W.Frag}{x dx C f:Addr}{mA:Str->Option Value}{name:Str}{v:Value}
theorem Δ{expr:Bool}{Q:Value->Shared->Prop}(X:K.In s.heap)(I:rm s.heap x dx C mA)(hg:PySem.W.plainGet K C name=true)(hh:PySem.W.hasDictIn K C=true)
  (ha:PySem.W.findIn K (.ref C) name=some none) (hv:mA name=some v) (Θ:PySem.W.handedIn v=true) (h:Q v { s with toks:=s.toks+1 }) :
  wpAny (model prog w) A (getAttr (.ref x) name expr) Q E s:=by
 obtain⟨od,J,hl⟩:=I.look
 exact PySem.W.get_value X J (PySem.W.plainGet_of hg).1 (PySem.W.findObj_own hh ha rfl (by rw[hl,hv])) Θ h
theorem Λ{pl:Sem Bool}{Q:Value × List Value->Shared->Prop}(X:K.In s.heap)(I:rm s.heap x dx C mA)(hg:PySem.W.plainGet K C name=true)
  (hf:PySem.W.findIn K (.ref C) name=some (some (.ref f))) (ht:PySem.W.isFn K (.ref f)=true) (hv:mA name=none) (h:Q (.ref f,[.ref x]) s) :
  wpAny (model prog w) A (getMethod (.ref x) name pl) Q E s:=by
 obtain⟨od,J,hl⟩:=I.look
 exact PySem.W.method_fn X J (PySem.W.plainGet_of hg).1 (PySem.W.plainGet_of hg).2 hf (beq_iff_eq.mp ht) (by show(PySem.W.lookIn name od).map (·.isSome)=some false;rw[hl,hv];rfl) h
theorem Ξ{ns:List Str}{Q:Unit->Shared->Prop}(X:K.In s.heap)(I:rm s.heap x dx C mA)
  (hs:PySem.W.findIn K (.ref C) "__setattr__"=some (some (.builtin "object.__setattr__"))) (hp:PySem.W.plainOver K C=true) (ht:PySem.W.takerIn K C name=some none) (hh:PySem.W.hasDictIn K C=true)
  (hw:PySem.Within mA ns) (my:ns.length<=sizeLine)
  (h:∀h',rm h' x dx C (λy=>if y=name then some v else mA y)->Heap.SameBut dx s.heap h'->Q () { s with heap:=h',toks:=s.toks+2 }) :
  wpAny (model prog w) A (setAttr (.ref x) name v) Q E s:=by
 obtain⟨od,J,hl⟩:=I.look
 refine PySem.W.set_plain X J hs (PySem.W.osa_open (s:={ s with toks:=s.toks+1 }) (r:=none) X J hp ht λb=>?_)
 obtain⟨cd,hc,xR⟩:=PySem.W.any_some hh
 have hx:s.heap.get? x=some ⟨.ref C,some dx,.plain,#[]⟩:=I.obj
 refine wpAny_bind (wpAny_pure (wpAny_bind (wpAny_bind (wpAny_loadPart hx (wpAny_bind (PySem.W.Looks.here (s:={ s with toks:=s.toks+1 }) (PySem.W.looks_clsIn X hc) ?_))))))
 rw[xR]
 refine wpAny_pure (a:=some dx) (wpAny_bind (wpAny_pure (wpAny_bind ?_)))
 refine wpAny_nsSet1 (s:={ s with toks:=s.toks+1 }) I.ns λh' pj eI=>?_
 obtain⟨oD,esD,epD,Φ,Ψ,nt⟩:=pj.count (PySem.Within.cons name v hw)
 refine wpAny_bind (wpAny_lookBehind Φ (by rw[Ψ];exact pastItsLine_dict (fO nt (by rw[kj];omega))) ?_)
 exact wpAny_pure (h _ ⟨(eI.2 _ (fF I.ne)).trans I.obj,pj,I.ne⟩ eI)
theorem Ω{R:Result->Shared->Prop}{vs:List Value}{kw:List (Str × Value)}(X:K.In s.heap)(hm:PySem.W.makesIn K C=true)
  (hi:PySem.W.findIn K (.ref C) "__init__"=some (some (.ref f))) (hf:PySem.W.typeIn K (.ref f)=some (.type "function"))
  (h:codeAny (model prog w) (A.under (.builtin "type.__call__" ⟨.ref C::vs,kw⟩)) (.call (.ref f) ⟨.ref (s.heap.objs.size+1)::vs,kw⟩) (PySem.W.InitBack (s.heap.objs.size+1) R)
   { s with heap:=(s.heap.push PySem.W.emptyDict).push (PySem.W.instObj C s.heap.objs.size) }) :
  codeAny (model prog w) A (.call (.ref C) ⟨vs,kw⟩) R s:=by
 obtain⟨hh,g,d,t,os⟩:=s
 exact PySem.W.make_core (PySem.W.makes_of X hm) (PySem.W.looks_findIn X hi) (λself=>PySem.W.bind_fn X self hf) (.inl rfl) h
end
def bC(f:Str)(v:V):List (Str × V)->List (Str × V)
 | []=>[(f,v)]
 | (g,x)::r=>if g=f then(g,v)::r else(g,x)::bC f v r
theorem Oc(f g:Str)(v:V):∀fs:List (Str × V),(bC f v fs).lookup g=if g=f then some v else fs.lookup g
 | []=>by
  show l9 g [(f,v)]=_
  by_cases h:g=f
  ·have hb:(g==f)=true:=beq_iff_eq.mpr h
   simp only[l9,hb,if_pos h]
  ·have hb:(g==f)=false:=beq_eq_false_iff_ne.mpr h
   simp only[l9,hb,if_neg h]
 | (k,x)::r=>by
  have ih:=Oc f g v r
  rw[show bC f v ((k,x)::r)=(if k=f then(k,v)::r else(k,x)::bC f v r) from rfl]
  by_cases hk:k=f
  ·rw[if_pos hk]
   by_cases h:g=k
   ·have hb:(g==k)=true:=beq_iff_eq.mpr h
    simp only[l9,hb,if_pos (h.trans hk)]
   ·have hb:(g==k)=false:=beq_eq_false_iff_ne.mpr h
    simp only[l9,hb,if_neg (λe:g=f=>h (e.trans hk.symm))]
  ·rw[if_neg hk]
   by_cases h:g=k
   ·have hb:(g==k)=true:=beq_iff_eq.mpr h
    simp only[l9,hb,if_neg (λe:g=f=>hk (h.symm.trans e))]
   ·have hb:(g==k)=false:=beq_eq_false_iff_ne.mpr h
    simp only[l9,hb]
    exact ih
theorem FW(f:Str)(v:V):∀fs:List (Str × V),f∈(bC f v fs).map (·.1)/\∀g,g∈fs.map (·.1)->g∈(bC f v fs).map (·.1)
 | []=>⟨by simp[bC],λg h=>by simp at h⟩
 | (k,x)::r=>by
  obtain⟨i1,i2⟩:=FW f v r
  rw[show bC f v ((k,x)::r)=(if k=f then(k,v)::r else(k,x)::bC f v r) from rfl]
  by_cases hk:k=f
  ·rw[if_pos hk]
   subst hk
   exact⟨by simp,λg h=>by simpa using h⟩
  ·rw[if_neg hk]
   refine⟨?_,λg h=>?_⟩
   ·rw[dy]
    exact gK _ i1
   ·rw[dy]at h ⊢
    rcases cH.mp h with e | e
    ·exact cH.mpr (.inl e)
    ·exact gK _ (i2 g e)
theorem Od(f:Str)(v:V):∀fs:List (Str × V),(bC f v fs).length<=fs.length+1
 | []=>by simp[bC]
 | (k,x)::r=>by
  have ih:=Od f v r
  rw[show bC f v ((k,x)::r)=(if k=f then(k,v)::r else(k,x)::bC f v r) from rfl]
  by_cases hk:k=f
  ·rw[if_pos hk,kj,kj];omega
  ·rw[if_neg hk,kj,kj];omega
theorem mn.some_of{v:V}{o:Option Value}(r:mn (some v) o):∃u,o=some u/\RelV v u:=by
 cases o with
 | none=>exact(show False from r).elim
 | some u=>exact⟨u,rfl,r⟩
theorem mn.none_of{o:Option Value}(r:mn none o):o=none:=by
 cases o with
 | none=>rfl
 | some u=>exact(show False from r).elim
theorem bZ7{v:V}{u:Value}(r:RelV v u):PySem.W.handedIn u=true:=by
 cases v with
 | au=>cases(show u=qG from r);rfl
 | bl b=>cases(show u=EY b from r);rfl
 | int i=>obtain⟨t,e⟩:=(show ∃t,u=qF i t from r);cases e;rfl
 | str x=>obtain⟨t,e⟩:=(show ∃t,u=Value.str x t from r);cases e;rfl
 | Bt b=>obtain⟨t,e⟩:=(show ∃t,u=Value.bytes b t from r);cases e;rfl
 | qT b=>obtain⟨t,e⟩:=(show ∃t,u=Value.float b t from r);cases e;rfl
 | ref a=>cases(show u=cB a from r);rfl
 | ty n=>cases(show u=Value.type n from r);rfl
section
variable{P:Program}{w:World}{H H':Hp}{h h':Heap}{a C dx:Addr}{fs fs':List (Str × V)}
theorem BN(aH:cX P w H h)(e:H a=some (.ins C dx fs)):∃mA,rm h a dx C mA/\(∀f,mn (fs.lookup f) (mA f))/\PySem.Within mA (fs.map (·.1))/\fs.length<=1000/\H dx=some (.own a):=by
 obtain⟨d,z,ne,ob,mA,n,r,q⟩:=(show eK P w H h a (.ins C dx fs) from aH a _ e)
 exact⟨mA,⟨ob,n,ne⟩,r,q,z,d⟩
end
structure cC(K:PySem.W.Frag)(C:Addr):Prop where
 pg:PySem.W.plainGet K C xB=true
 hd:PySem.W.hasDictIn K C=true
 po:PySem.W.plainOver K C=true
 sa:PySem.W.findIn K (.ref C) "__setattr__"=some (some (.builtin "object.__setattr__"))
theorem cC.get{K:PySem.W.Frag}{C:Addr}(c:cC K C)(f:Str):PySem.W.plainGet K C f=true:=c.pg
def bg(K:PySem.W.Frag)(C:Addr)(f:Str):Prop:=PySem.W.findIn K (.ref C) f=some none
theorem bg.cU1{K:PySem.W.Frag}{C:Addr}{f:Str}(n:bg K C f):PySem.W.takerIn K C f=some none:=by
 unfold PySem.W.takerIn
 rw[show PySem.W.findIn K (.ref C) f=some none from n]
 rfl
structure Meth(K:PySem.W.Frag)(C:Addr)(m:Str)(f:Addr):Prop where
 at_:PySem.W.findIn K (.ref C) m=some (some (.ref f))
 fn:PySem.W.isFn K (.ref f)=true
 kp:PySem.W.keepIn K (.ref f)=true
section
variable{X:Cx}{pins:List (Addr × Obj)}{σ:St}{H:Hp}{s:Shared}{a C dx:Addr}{fs:List (Str × V)}{f:Str}{v:V}{A:Around}{E:Value->Shared->Prop}
theorem bV2{b:Bool}{Q:Value->Shared->Prop}(I:Inv X pins σ H s)(e:H a=some (.ins C dx fs))(c:cC X.K C)(n:bg X.K C f)(l:fs.lookup f=some v)
  (h:∀u s',Inv X pins σ H s'->RelV v u->Q u s'):wpAny (model X.prog X.w) A (getAttr (.ref a) f b) Q E s:=by
 obtain⟨mA,O,r,_,_,_⟩:=BN I.aH e
 obtain⟨u,hu,ru⟩:=mn.some_of (v:=v) (o:=mA f) (by rw[<-l];exact r f)
 exact Δ I.cY O (c.get f) c.hd n hu (bZ7 ru) (h u _ (I.tok _) ru)
theorem BO{m:Str}{g:Addr}{pl:Sem Bool}{Q:Value × List Value->Shared->Prop}(I:Inv X pins σ H s)(e:H a=some (.ins C dx fs))(c:cC X.K C)(k:Meth X.K C m g)(l:fs.lookup m=none)
  (h:Q (.ref g,[.ref a]) s):wpAny (model X.prog X.w) A (getMethod (.ref a) m pl) Q E s:=by
 obtain⟨mA,O,r,_,_,_⟩:=BN I.aH e
 have hn:mA m=none:=mn.none_of (by rw[<-l];exact r m)
 exact Λ I.cY O (c.get m) k.at_ k.fn hn h
theorem bW4{y:V}{u:Value}{Q:Unit->Shared->Prop}(I:Inv X pins σ H s)(e:H a=some (.ins C dx fs))(c:cC X.K C)(n:bg X.K C f)(hl:fs.length<1000)(ry:RelV y u)
  (h:∀s',Inv X pins σ (upd H a (.ins C dx (bC f y fs))) s'->Q () s'):wpAny (model X.prog X.w) A (setAttr (.ref a) f u) Q E s:=by
 obtain⟨mA,O,r,wi,_,ho⟩:=BN I.aH e
 have hz:(fs.map (·.1)).length<=sizeLine:=by rw[br,sizeLine_eq];omega
 refine Ξ I.cY O c.sa c.po n.cU1 c.hd wi hz λh' O' sb=>h _ ?_
 have hd:∃o,h'.get? dx=some o:=let⟨o,_,_,e',_⟩:=O'.ns;⟨o,e'⟩
 refine I.write (x:=a) (e:=dx) (by rw[e];exact tX) (.inr ho) (λb q hb z=>(sb.2 b hb).trans z) hd ?_
 refine⟨by rw[aT O.ne];exact ho,?_,O.ne,O'.obj,_,O'.ns,λg=>?_,λg hg=>?_⟩
 ·have:=Od f y fs;omega
 ·show mn ((bC f y fs).lookup g) (if g=f then some u else mA g)
  rw[Oc]
  by_cases q:g=f
  ·rw[if_pos q,if_pos q];exact ry
  ·rw[if_neg q,if_neg q];exact r g
 ·by_cases q:g=f
  ·rw[q];exact(FW f y fs).1
  ·refine(FW f y fs).2 g (wi g λz=>hg ?_)
   show(if g=f then some u else mA g)=none
   rw[if_neg q];exact z
theorem Inv.made(I:Inv X pins σ H s):Inv X pins σ (upd (upd H s.heap.objs.size (.own (s.heap.objs.size+1))) (s.heap.objs.size+1) (.ins C s.heap.objs.size []))
  { s with heap:=(s.heap.push PySem.W.emptyDict).push (PySem.W.instObj C s.heap.objs.size) }:=by
 have e1:(s.heap.push PySem.W.emptyDict).get? s.heap.objs.size=some PySem.W.emptyDict:=g8 s.heap rfl
 have e2:((s.heap.push PySem.W.emptyDict).push (PySem.W.instObj C s.heap.objs.size)).get? (s.heap.objs.size+1)=some (PySem.W.instObj C s.heap.objs.size):=by
  have:=g8 (s.heap.push PySem.W.emptyDict) (o:=PySem.W.instObj C s.heap.objs.size) rfl
  rwa [tY]at this
 have e3:(s.heap.push PySem.W.emptyDict).Ns s.heap.objs.size (λ_=>none):=⟨PySem.W.emptyDict,#[],_,e1,rfl,(λe he=>absurd he (by simp)),λ_=>rfl⟩
 have I1:=I.laid (a:=s.heap.objs.size) (o:=.own (s.heap.objs.size+1)) (h':=s.heap.push PySem.W.emptyDict) (t':=s.toks) (λb u q=>fU _ q) (bM _) ⟨_,e1⟩
 refine I1.laid (a:=s.heap.objs.size+1) (o:=.ins C s.heap.objs.size []) (t':=s.toks) (λb u q=>fU _ q) (AU (tY _ _)) ?_
 have ne:s.heap.objs.size≠s.heap.objs.size+1:=eQ (AV _)
 refine⟨by rw[aT ne,bH],mf _,ne,e2,λ_=>none,(Heap.Ns1.of_empty e3).at λo q=>fU _ q,λ_=>tX,λy hy=>absurd rfl hy⟩
theorem cv1{prog:Program}{w:World}{env:Env}{e:Expr}{f:Str}{pos:Pos}{s:Shared}{Q:Value->Shared->Prop}(hb:attributeBase e f env (eval e env)=eval e env)
  (h:wpAny (model prog w) A (eval e env) (λo bE=>wpAny (model prog w) A (getAttr o f true) Q E bE) E s):wpAny (model prog w) A (eval (.Attribute e f pos) env) Q E s :=
 Attribute_any_ h (by rw[arm_eval_Attribute,hb])
end
def cR1(K:PySem.W.Frag)(ta:TE)(f:Str):TE:=λσ H Q=>ta σ H λx H1=>∃a C dx fs v,x=.ref a/\H1 a=some (.ins C dx fs)/\cC K C/\bg K C f/\fs.lookup f=some v/\Q v H1
def cS9(K:PySem.W.Frag)(ta tv:TE)(f:Str):TS:=λD σ H=>tv σ H λy H1=>ta σ H1 λx H2=>∃a C dx fs,x=.ref a/\H2 a=some (.ins C dx fs)/\cC K C/\bg K C f/\fs.length<1000 /\
 D.nx σ (upd H2 a (.ins C dx (bC f y fs)))
section
variable{X:Cx}{o e value:Expr}{f:Str}{pos pos' rn:Pos}{ta tv:TE}
theorem rq(he:PE X e ta)(hb:attributeBase e f X.env (eval e X.env)=eval e X.env):PE X (.Attribute e f pos) (cR1 X.K ta f):=by
 intro pins s σ H Q I h
 refine cv1 hb (aP (he pins s σ H _ I h) λu s1 ⟨x,H1,I1,rx,a,C,dx,fs,v,ex,ea,c,n,l,q⟩=>?_)
 subst ex
 obtain rfl:u=cB a:=rx
 exact bV2 I1 ea c n l λu' s2 I2 ru=>⟨v,H1,I2,ru,q⟩
theorem hV(ha:PE X o ta)(hv:PE X value tv)(hs:swapsWith value (some (.Attribute o f pos')) pos.line X.env=pure false):PS X (.Assign [.Attribute o f pos'] value pos) (cS9 X.K ta tv f):=by
 intro pins s σ H D I h
 refine plainObj_wpAny_Assign_Attribute (aP (hv pins s σ H _ I h) λu s1 ⟨y,H1,I1,ry,q⟩=>aP (ha pins s1 σ H1 _ I1 q) λov s2 ⟨x,H2,I2,rx,a,C,dx,fs,ex,ea,c,n,l,q2⟩=>?_) hs
 subst ex
 obtain rfl:ov=cB a:=rx
 exact bW4 I2 ea c n l ry λs3 I3=>⟨σ,_,I3,q2⟩
end
section
variable{X:Cx}{pins:List (Addr × Obj)}{σ:St}{H:Hp}{s:Shared}{A:Around}{E:Value->Shared->Prop}{Q:Value->Shared->Prop}{c:Value}{b:Bool}
inductive iy(K:PySem.W.Frag)(H:Hp):V->Value->Prop where
 | au:iy K H .au (.type "NoneType")
 | bl (x:Bool):iy K H (.bl x) (.type "bool")
 | int (i:Int):iy K H (.int i) (.type "int")
 | str (x:Str):iy K H (.str x) (.type "str")
 | qT (x:UInt64):iy K H (.qT x) (.type "float")
 | lst {a:Addr} {xs:List V} (e:H a=some (.lst xs)):iy K H (.ref a) (.type "list")
 | bq {a:Addr} {o:Obj} {xs:List V} (e:H a=some (.bq o (.lst xs))):iy K H (.ref a) (.type "list")
 | tup {a:Addr} {xs:List V} (e:H a=some (.tup xs)):iy K H (.ref a) (.type "tuple")
 | dK {a:Addr} {dU:List (Key × V)} (e:H a=some (.dK dU)):iy K H (.ref a) (.type "dict")
 | dT {a:Addr} {dU:List (List Key × V)} (e:H a=some (.dT dU)):iy K H (.ref a) (.type "dict")
 | ins {a C dx:Addr} {fs:List (Str × V)} (e:H a=some (.ins C dx fs)) (cl:cC K C) (ha:PySem.W.findIn K (.ref C) "__class__"=some (some (.builtin "object.__class__")))
   (hn:PySem.W.specialIn K (.builtin "object.__class__") "__get__"=some (some (.builtin "getset_descriptor.__get__"))) (BP:PySem.W.takesIn K (.builtin "object.__class__")=some true)
   (hm:PySem.W.mroIn K C (.type "object")=some true):iy K H (.ref a) (.ref C)
theorem Oe{x:V}{u t:Value}(I:Inv X pins σ H s)(rx:RelV x u)(ty:iy X.K H x t)(e:PySem.W.kitOne X.K t c=some b)(h:∀tk,Q (.bool b) { s with toks:=tk }) :
  wpAny (model X.prog X.w) A (call (.builtin "isinstance") [u,c]) Q E s:=by
 cases ty with
 | au=>cases(show u=qG from rx);exact PySem.W.kia_one PySem.W.kitx_none I.cY tX e (λz=>nomatch z) h
 | bl y=>cases(show u=EY y from rx);exact PySem.W.kia_one PySem.W.kitx_bool I.cY tX e (λz=>nomatch z) h
 | int i=>obtain⟨t,q⟩:=(show ∃t,u=qF i t from rx);cases q;exact PySem.W.kia_one PySem.W.kitx_int I.cY tX e (λz=>nomatch z) h
 | str y=>obtain⟨t,q⟩:=(show ∃t,u=Value.str y t from rx);cases q;exact PySem.W.kia_one PySem.W.kitx_str I.cY tX e (λz=>nomatch z) h
 | qT y=>obtain⟨t,q⟩:=(show ∃t,u=Value.float y t from rx);cases q;exact PySem.W.kia_one PySem.W.kitx_float I.cY tX e (λz=>nomatch z) h
 | @lst a xs ea =>
  cases(show u=cB a from rx)
  obtain⟨_,_,n,_,h1⟩:=(show eK X.prog X.w H s.heap a (.lst xs) from I.aH a _ ea)
  exact PySem.W.kia_one PySem.W.kitx_list I.cY ⟨_,h1,rfl⟩ e (λz=>nomatch z) h
 | @bq a ob xs ea =>
  cases(show u=cB a from rx)
  obtain⟨_,_,_,n,_,h1⟩:=(show eK X.prog X.w H s.heap a (.bq ob (.lst xs)) from I.aH a _ ea)
  exact PySem.W.kia_one PySem.W.kitx_list I.cY ⟨_,h1,rfl⟩ e (λz=>nomatch z) h
 | @tup a xs ea =>
  cases(show u=cB a from rx)
  obtain⟨_,_,_,p⟩:=(show eK X.prog X.w H s.heap a (.tup xs) from I.aH a _ ea)
  obtain⟨o,h1,h2,_⟩:=p
  exact PySem.W.kia_one PySem.W.kitx_tuple I.cY ⟨o,h1,h2⟩ e (λz=>nomatch z) h
 | @dK a dU ea =>
  cases(show u=cB a from rx)
  obtain⟨_,_,vs,_,p⟩:=(show eK X.prog X.w H s.heap a (.dK dU) from I.aH a _ ea)
  obtain⟨o,es,ep,h1,h2,_⟩:=p
  exact PySem.W.kia_one PySem.W.kitx_dict I.cY ⟨o,h1,h2.1⟩ e (λz=>nomatch z) h
 | @dT a dU ea =>
  cases(show u=cB a from rx)
  obtain⟨_,_,xs,_,o,es,ep,h1,h2,_⟩:=(show eK X.prog X.w H s.heap a (.dT dU) from I.aH a _ ea)
  exact PySem.W.kia_one PySem.W.kitx_dict I.cY ⟨o,h1,h2.1⟩ e (λz=>nomatch z) h
 | @ins a C dx fs ea cl ha hn BP hm =>
  cases(show u=cB a from rx)
  obtain⟨mA,O,_⟩:=BN I.aH ea
  obtain⟨od,J,_⟩:=O.look
  exact PySem.W.kia_one (PySem.W.kitx_own (cl.get _) cl.hd ha hn BP hm) I.cY J e (λz=>nomatch z) h
end
end L2
namespace L2
open PySem PySem.Spec PyProof.Rows
structure bS(k:Nat)(A:Around):Prop where
 hd:A.handled=none
 dp:A.depth+3*k+5<recursionLimit
 un:A.units+16*k+200<cLine
theorem bS.mono{j k:Nat}{A:Around}(r:bS k A)(h:j<=k):bS j A:=⟨r.hd,by have:=r.dp;omega,by have:=r.un;omega⟩
theorem bS.deeper{k:Nat}{A:Around}(r:bS (k+1) A)(env:Env):bS k (A.deeper env) :=
 ⟨r.hd,by have:=r.dp;show A.depth+1+3*k+5<_;omega,by have:=r.un;show A.units+3+16*k+200<_;omega⟩
theorem bV7{A:Around}{C:Addr}{us:List Value}{kw:List (Str × Value)}:(A.under (.builtin "type.__call__" ⟨.ref C::us,kw⟩)).depth=A.depth+1:=by
 first | rfl | simp[Around.under,Code.weight,Code.isCreation,Code.isGuard,Code.isCaller,Code.frames,Code.isFrame,guardIds]
theorem bU2{A:Around}{C:Addr}{us:List Value}{kw:List (Str × Value)}:(A.under (.builtin "type.__call__" ⟨.ref C::us,kw⟩)).units=A.units+1:=by
 first | rfl | simp[Around.under,Code.cUnits,Code.frames,Code.isFrame]
theorem bS.make{k:Nat}{A:Around}(r:bS (k+1) A)(C:Addr)(us:List Value)(kw:List (Str × Value)):bS k (A.under (.builtin "type.__call__" ⟨.ref C::us,kw⟩)) :=
 ⟨r.hd,by have:=r.dp;rw[bV7];omega,by have:=r.un;rw[bU2];omega⟩
theorem bS.depth{k:Nat}{A:Around}(r:bS k A):A.depth<recursionLimit:=by have:=r.dp;omega
def cQ7:TA:=λ_ H Q=>Q [] H
def cL4(ta:TE)(tr:TA):TA:=λσ H Q=>ta σ H λx H1=>tr σ H1 λxs H2=>Q (x::xs) H2
section
variable{X:Cx}{e:Expr}{es:List Expr}{te:TE}{t:TA}{pos:Pos}
theorem fg:PA X [] cQ7:=λ_ _ _ _ H Q I h=>Calls.spliced_nil ⟨[],H,I,.nil,h⟩
theorem bV(ha:PE X e te)(hr:PA X es t)(hs:starEach (e::es) X.env=(false,eval e X.env)::starEach es X.env:=by rfl):PA X (e::es) (cL4 te t):=by
 intro pos pins s σ H Q I h
 rw[hs]
 show wpAny _ _ (spliced ((false,eval e X.env)::backTo pos (starEach es X.env))) _ _ s
 refine Calls.spliced_cons (aP (ha pins s σ H _ I h) λu s1 ⟨x,H1,I1,r1,q1⟩=>?_)
 exact aP (hr pos pins s1 σ H1 _ I1 q1) λus s2 ⟨xs,H2,I2,r2,q2⟩=>⟨x::xs,H2,I2,.cons r1 r2,q2⟩
def cR9(t:TA):TE:=λσ H Q=>t σ H λxs H1=>xs.length<=sizeLine/\∀p,H1 p=none->Q (.ref p) (upd H1 p (.tup xs))
def cR3(t:TA):TE:=λσ H Q=>t σ H λxs H1=>xs.length<=sizeLine/\∀p,H1 p=none->Q (.ref p) (upd H1 p (.lst xs))
theorem cD6{x1}(h:PA X es t):PE X (.Tuple es x1 pos) (cR9 t):=by
 intro pins s σ H Q I hq
 refine wpAny_Tuple_spliced (aP (h pos pins s σ H _ I hq) λus s1 ⟨xs,H1,I1,r,z,q⟩=>⟨by rw[<-r.length];exact z,?_⟩)
 have hf:H1 s1.heap.objs.size=none:=I1.aH.fresh (bM _)
 refine⟨.ref s1.heap.objs.size,upd H1 s1.heap.objs.size (.tup xs),I1.laid (t':=s1.toks) (λb u e=>fU _ e) (bM _) ?_,rfl,q _ hf⟩
 exact⟨z,us,r,⟨_,g8 _ rfl,rfl,_,rfl⟩⟩
theorem Of(h:PA X es t):PE X (.List es pos) (cR3 t):=by
 intro pins s σ H Q I hq
 refine wpAny_List_spliced (aP (h pos pins s σ H _ I hq) λus s1 ⟨xs,H1,I1,r,z,q⟩=>⟨by rw[<-r.length];exact z,?_⟩)
 have hf:H1 s1.heap.objs.size=none:=I1.aH.fresh (bM _)
 refine⟨.ref s1.heap.objs.size,upd H1 s1.heap.objs.size (.lst xs),I1.laid (t':=s1.toks) (λb u e=>fU _ e) (bM _) ?_,rfl,q _ hf⟩
 exact⟨z,us,0,r,g8 _ rfl⟩
end
abbrev Sp:=List V->Hp->VK->XK->Prop
abbrev eU:=List Env->Hp->Shared->XK->Value->Shared->Prop
structure jn(P:Program)(w:World)(K:PySem.W.Frag)(mg:Str->Option Value)(base:Heap)(A:Around)(outer:List Env)(s:Shared)(H:Hp):Prop where
 frames:A.frames=some outer
 mod:Mod K mg base
 bs:∀b o,base.get? b=some o->s.heap.get? b=some o/\H b=none
 ji:base.objs.size<=s.heap.objs.size
 gx:s.heap.FunFrames base outer
 jj:∀b∈dX outer,H b=none
 aH:cX P w H s.heap
 bare:AllBare s.gens
def CE(outer:List Env)(P:Program)(w:World)(H:Hp)(s:Shared)(Q:VK)(u:Value)(s':Shared):Prop :=
 ∃v H',s'.os=s.os/\AllBare s'.gens/\Un (dX outer) [] H H' s.heap s'.heap/\cX P w H' s'.heap/\RelV v u/\Q v H'
def CR(CX:eU)(outer:List Env)(P:Program)(w:World)(H:Hp)(s:Shared)(Q:VK)(E:XK)(r:Result)(s':Shared):Prop :=
 match r with
 | .ok (.ret u)=>CE outer P w H s Q u s'
 | .ok _=>False
 | .error e=>CX outer H s E e s'
structure aI(P:Program)(w:World)(K:PySem.W.Frag)(mg:Str->Option Value)(base:Heap)(CX:eU)(k:Nat)(f:Addr)(fd:FuncData)(ps:List Str)(sp:Sp):Prop where
 len:∀vs H Q E,sp vs H Q E->vs.length=ps.length
 run:∀(A:Around) (outer:List Env) (s:Shared) (H:Hp) (args:Args) (us:List Value) (vs:List V) (Q:VK) (E:XK),bS k A->jn P w K mg base A outer s H->BindsTo s fd args (ps.zip us)->Vals vs us->sp vs H Q E ->
  codeAny (model P w) A (.call (.ref f) args) (CR CX outer P w H s Q E) s
theorem aI.mono{P:Program}{w:World}{K:PySem.W.Frag}{mg:Str->Option Value}{base:Heap}{CX:eU}{j k:Nat}{f:Addr}{fd:FuncData}{ps:List Str}{sp:Sp}(F:aI P w K mg base CX j f fd ps sp)(h:j<=k) :
  aI P w K mg base CX k f fd ps sp:=⟨F.len,λA outer s H args us vs Q E hr=>F.run A outer s H args us vs Q E (hr.mono h)⟩
theorem aI.imp{P:Program}{w:World}{K:PySem.W.Frag}{mg:Str->Option Value}{base:Heap}{CX:eU}{k:Nat}{f:Addr}{fd:FuncData}{ps:List Str}{sp pk:Sp}(F:aI P w K mg base CX k f fd ps sp)
  (h:∀vs H Q E,pk vs H Q E->sp vs H Q E):aI P w K mg base CX k f fd ps pk :=
 ⟨λvs H Q E q=>F.len vs H Q E (h _ _ _ _ q),λA outer s H args us vs Q E hr he hb hv hs=>F.run A outer s H args us vs Q E hr he hb hv (h _ _ _ _ hs)⟩
theorem jn.make{P:Program}{w:World}{K:PySem.W.Frag}{mg:Str->Option Value}{base:Heap}{A:Around}{outer:List Env}{s:Shared}{H:Hp}(e:jn P w K mg base A outer s H)(C:Addr)(us:List Value)(kw:List (Str × Value)) :
  jn P w K mg base (A.under (.builtin "type.__call__" ⟨.ref C::us,kw⟩)) outer s H:=⟨by first | exact e.frames | (simpa[Around.under,Code.envs,Code.isFrame,pushEnvs]using e.frames),e.mod,e.bs,e.ji,e.gx,e.jj,e.aH,e.bare⟩
section
variable{X:Cx}{pins:List (Addr × Obj)}{σ:St}{H:Hp}{s s':Shared}
theorem Inv.uE(I:Inv X pins σ H s):jn X.prog X.w X.K X.mg X.base X.A X.stack s H :=
 ⟨I.ok.frames,I.ok.mod,I.bs,fO I.ok.ji I.sz,I.stack,I.Bw,I.aH,I.bare⟩
theorem Inv.after{Q:VK}{u:Value}(I:Inv X pins σ H s)(h:CE X.stack X.prog X.w H s Q u s'):EP X pins σ Q u s':=by
 obtain⟨v,H',os,bare,un,aH,r,q⟩:=h
 obtain⟨hh,g,d,t,os'⟩:=s'
 obtain rfl:os'=s.os:=os
 exact⟨v,H',I.call (h':=hh) (g':=g) (d':=d) (t':=t) (ch:=[]) un aH bare (λb z=>absurd z (by simp)),r,q⟩
end
def cO4(sp:Sp)(fu:List V)(E:XK)(t:TA):TE:=λσ H Q=>t σ H λvs H1=>sp (vs++fu) H1 Q E
def cK3(C:Addr)(m:Str)(sp:Sp)(fu:List V)(E:XK)(ta:TE)(t:TA):TE:=λσ H Q=>ta σ H λx H1=>∃a dx fs,x=.ref a/\H1 a=some (.ins C dx fs)/\fs.lookup m=none /\
 t σ H1 λvs H2=>sp (x::(vs++fu)) H2 Q E
def cN9(C:Addr)(sp:Sp)(fu:List V)(E:XK)(t:TA):TE:=λσ H Q=>t σ H λvs H1=>∀x dx,H1 x=none->H1 dx=none->dx≠x ->
 sp (.ref x::(vs++fu)) (upd (upd H1 dx (.own x)) x (.ins C dx [])) (λv H2=>v=.au/\Q (.ref x) H2) E
def Binds(K:PySem.W.Frag)(fd:FuncData)(ps:List Str)(ds:List Value):Prop :=
 ∀(s:Shared) (us:List Value),K.In s.heap->(us++ds).length=ps.length->BindsTo s fd ⟨us,[]⟩ (ps.zip (us++ds))
theorem Binds.all{K:PySem.W.Frag}{fd:FuncData}{ps:List Str}(h:∀us:List Value,us.length=ps.length->bindArgs fd ⟨us,[]⟩=pure (ps.zip us)):Binds K fd ps []:=λs us _ hl=>by
 rw[fH]at hl ⊢
 exact .of_eq (h us hl)
def jT(CX:eU)(X:Cx)(E:XK):Prop:=∀(pins:List (Addr × Obj)) (σ:St) (H:Hp) (s:Shared) (e:Value) (s':Shared),Inv X pins σ H s->CX X.stack H s E e s'->X.xe e s'
section
variable{X:Cx}{CX:eU}{k:Nat}{f C:Addr}{fd:FuncData}{ps:List Str}{sp:Sp}{fu:List V}{ds:List Value}{E:XK}{x m:Str}{p pos apos:Pos}{e o:Expr}{es:List Expr}{ta:TE}{t:TA}
theorem uF{pins:List (Addr × Obj)}{σ:St}{H:Hp}{s:Shared}{Q:VK}{us:List Value}{vs:List V}(F:aI X.prog X.w X.K X.mg X.base CX k f fd ps sp)(hr:bS k X.A)(hb:Binds X.K fd ps ds)(hd:Vals fu ds)(hx:jT CX X E)
  (I:Inv X pins σ H s) (r:Vals vs us) (h:sp (vs++fu) H Q E):wpAny (model X.prog X.w) X.A (call (.ref f) us) (EP X pins σ Q) X.xe s:=by
 have r2:Vals (vs++fu) (us++ds):=r.append hd
 have hl:(us++ds).length=ps.length:=by rw[<-r2.length];exact F.len _ _ _ _ h
 refine wpAny_call (codeAny_mono (F.run X.A X.stack s H ⟨us,[]⟩ (us++ds) (vs++fu) Q E hr I.uE (hb s us I.cY hl) r2 h) λr s' hq=>?_)
 cases r with
 | error e=>exact hx pins σ H s e s' I hq
 | ok fl =>
  cases fl with
  | ret u=>exact I.after hq
  | next=>exact fG hq
  | brk=>exact fG hq
  | cont=>exact fG hq
theorem jo(F:aI X.prog X.w X.K X.mg X.base CX k f fd ps sp)(hr:bS k X.A)(hg:Gl X x)(hm:X.mg x=some (.ref f))(hk:PySem.W.keepIn X.K (.ref f)=true)(hb:Binds X.K fd ps ds)(hd:Vals fu ds)(hx:jT CX X E)
  (ha:PA X (e::es) t) (de:(x==("__debug__":Str))=false:=by decide) (he:starEach (e::es) X.env=(false,eval e X.env)::starEach es X.env:=by rfl) (bu:(backTo pos (starEach es X.env)).any (·.1)=false:=by rfl) :
  PE X (.Call (.Name x p) (e::es) [] pos) (cO4 sp fu E t):=by
 intro pins s σ H Q I h
 refine wpAny_Call_Name_kw (qY I hg hm ?_ de)
 refine PySem.W.callWith_K (h₀:=X.base) I.ok.mod.mr hk (aP (ha pos pins s σ H _ I h) λus s1 ⟨vs,H1,I1,r,q⟩=>⟨I1.cY,?_⟩) he bu
 exact uF F hr hb hd hx I1 r q
theorem cv6{pl:Sem Bool}(he:PE X o ta)(c:cC X.K C)(hm:Meth X.K C m f)(F:aI X.prog X.w X.K X.mg X.base CX k f fd ps sp)(hr:bS k X.A)(hb:Binds X.K fd ps ds)(hd:Vals fu ds)(hx:jT CX X E)(ha:PA X (e::es) t)
  (cw:starEach (e::es) X.env=(false,eval e X.env)::starEach es X.env:=by rfl) (bu:(backTo pos (starEach es X.env)).any (·.1)=false:=by rfl)
  (ht:eval (.Call (.Attribute o m apos) (e::es) [] pos) X.env=(do
   let ov<-eval o X.env
   standAt apos.atName
   let (f,first)<-holding [ov] (getMethod ov m pl)
   callWith pos f first (backTo pos (starEach (e::es) X.env)) (backToKw pos (keywordEach [] X.env))):=by rfl) :
  PE X (.Call (.Attribute o m apos) (e::es) [] pos) (cK3 C m sp fu E ta t):=by
 intro pins s σ H Q I h
 refine PySem.W.methodCall_KW (pl:=pl) (aP (he pins s σ H _ I h) λu s1 ⟨x,H1,I1,rx,a,dx,fs,ex,ea,l,q⟩=>?_) ht
 subst ex
 obtain rfl:u=cB a:=rx
 refine BO I1 ea c hm l ?_
 refine PySem.W.callWith_K (first:=[.ref a]) (h₀:=X.base) I.ok.mod.mr hm.kp (aP (ha pos pins s1 σ H1 _ I1 q) λus s2 ⟨vs,H2,I2,r,q2⟩=>⟨I2.cY,?_⟩) cw bu
 exact uF (us:=.ref a::us) (vs:=.ref a::vs) F hr hb hd hx I2 (.cons rfl r) q2
structure Mk(K:PySem.W.Frag)(C f:Addr):Prop where
 makes:PySem.W.makesIn K C=true
 init:PySem.W.findIn K (.ref C) "__init__"=some (some (.ref f))
 fn:PySem.W.isFn K (.ref f)=true
 kp:PySem.W.keepIn K (.ref C)=true
theorem cf5{pins:List (Addr × Obj)}{σ:St}{H:Hp}{s:Shared}{Q:VK}{us:List Value}{vs:List V}(M:Mk X.K C f)(F:aI X.prog X.w X.K X.mg X.base CX k f fd ps sp)(hr:bS (k+1) X.A)(hb:Binds X.K fd ps ds)(hd:Vals fu ds)
  (hx:jT CX X E) (I:Inv X pins σ H s) (r:Vals vs us)
  (h:∀x dx,H x=none->H dx=none->dx≠x->sp (.ref x::(vs++fu)) (upd (upd H dx (.own x)) x (.ins C dx [])) (λv H2=>v=.au/\Q (.ref x) H2) E) :
  wpAny (model X.prog X.w) X.A (call (.ref C) us) (EP X pins σ Q) X.xe s:=by
 have hq:=h (s.heap.objs.size+1) s.heap.objs.size (I.aH.fresh (Nat.le_succ _)) (I.aH.fresh (bM _)) (eQ (AV _))
 have I2:=Inv.made (C:=C) I
 have r2:Vals (V.ref (s.heap.objs.size+1)::(vs++fu)) (cB (s.heap.objs.size+1)::(us++ds)):=.cons rfl (r.append hd)
 have hl:(cB (s.heap.objs.size+1)::us++ds).length=ps.length:=by
  have e:=r2.length
  rw[F.len _ _ _ _ hq]at e
  exact e.symm
 refine wpAny_call (Ω (f:=f) I.cY M.makes M.init (beq_iff_eq.mp M.fn) (codeAny_mono (F.run _ X.stack _ _ ⟨cB (s.heap.objs.size+1)::us,[]⟩ (cB (s.heap.objs.size+1)::(us++ds)) _ _ E (hr.make C us [])
  (I2.uE.make C us []) (hb _ (cB (s.heap.objs.size+1)::us) I2.cY hl) r2 hq) λr s' nu=>?_))
 cases r with
 | error e=>exact hx pins σ _ _ e s' I2 nu
 | ok fl =>
  cases fl with
  | ret u =>
   obtain⟨v,H',I3,rv,ev,q3⟩:=I2.after nu
   subst ev
   exact⟨rv,⟨V.ref (s.heap.objs.size+1),H',I3,rfl,q3⟩⟩
  | next=>exact fG nu
  | brk=>exact fG nu
  | cont=>exact fG nu
theorem FX(M:Mk X.K C f)(F:aI X.prog X.w X.K X.mg X.base CX k f fd ps sp)(hr:bS (k+1) X.A)(hg:Gl X x)(hm:X.mg x=some (.ref C))(hb:Binds X.K fd ps ds)(hd:Vals fu ds)(hx:jT CX X E)
  (ha:PA X (e::es) t) (de:(x==("__debug__":Str))=false:=by decide) (he:starEach (e::es) X.env=(false,eval e X.env)::starEach es X.env:=by rfl) (bu:(backTo pos (starEach es X.env)).any (·.1)=false:=by rfl) :
  PE X (.Call (.Name x p) (e::es) [] pos) (cN9 C sp fu E t):=by
 intro pins s σ H Q I h
 refine wpAny_Call_Name_kw (qY I hg hm ?_ de)
 refine PySem.W.callWith_K (h₀:=X.base) I.ok.mod.mr M.kp (aP (ha pos pins s σ H _ I h) λus s1 ⟨vs,H1,I1,r,q⟩=>⟨I1.cY,?_⟩) he bu
 exact cf5 M F hr hb hd hx I1 r q
end
section
variable{X:Cx}{CX:eU}{k:Nat}{f C:Addr}{fd:FuncData}{ps ks:List Str}{sp:Sp}{E:XK}{x m:Str}{p pos apos eo6:Pos}{e o:Expr}{es:List Expr}{kws:List Keyword}{te ta:TE}{t tk:TA}{nm:Option Str}
variable{g:List Value->List Value->List Value}{gV:List V->List V->List V}
end
structure aX(N P:List Str)(sc:Scope):Prop where
 kind:sc.kind=.function
 co:sc.isCoroutine=false
 gen:sc.isGenerator=false
 nd:N.Nodup
 pre:N.take P.length=P
 par:∀x∈P,sc.names.lookup x=some .local\/sc.names.lookup x=some .cell
 cW0:∀y∈sc.names,y.2≠.free
theorem Og{kindOf:Str->Option NameKind}{x:Str}:∀{binds:List (Str × Value)} {m:Str->Option Value},(∀v,(x,v) ∉ binds)->bindL kindOf binds m x=m x
 | [],_,_=>rfl
 | (n,v)::r,m,h=>by
  unfold bindL
  rw[Og λw hw=>h w (gK _ hw)]
  split
  ·have:x≠n:=by rintro rfl;exact h v kh
   simp[this]
  ·rfl
theorem Oh{kindOf:Str->Option NameKind}{x:Str}:∀{binds:List (Str × Value)} {m:Str->Option Value},(∀v,(x,v) ∉ binds)->bindC kindOf binds m x=m x
 | [],_,_=>rfl
 | (n,v)::r,m,h=>by
  unfold bindC
  rw[Oh λw hw=>h w (gK _ hw)]
  split
  ·rfl
  ·have:x≠n:=by rintro rfl;exact h v kh
   simp[this]
theorem Oi{kindOf:Str->Option NameKind}{x:Str}{v:Value}:∀{P:List Str} {vs:List Value} {i:Nat} {m:Str->Option Value},P.Nodup->P[i]?=some x->vs[i]?=some v->kindOf x=some .local ->
  bindL kindOf (P.zip vs) m x=some v
 | [],_,_,_,_,h,_,_=>by simp at h
 | _::_,[],_,_,_,_,h,_=>by simp at h
 | p::P,w::vs,0,m,nd,h1,h2,hk=>by
  simp at h1 h2;subst h1;subst h2
  show bindL kindOf ((p,w)::P.zip vs) m p=_
  unfold bindL
  rw[Og λv hv=>(mh.mp nd).1 (tZ hv).1,if_pos hk]
  simp
 | p::P,w::vs,i+1,m,nd,h1,h2,hk=>by
  show bindL kindOf ((p,w)::P.zip vs) m x=_
  unfold bindL
  exact Oi (i:=i) (mh.mp nd).2 (by simpa using h1) (by simpa using h2) hk
theorem Oj{kindOf:Str->Option NameKind}{x:Str}{v:Value}:∀{P:List Str} {vs:List Value} {i:Nat} {m:Str->Option Value},P.Nodup->P[i]?=some x->vs[i]?=some v->kindOf x≠some .local ->
  bindC kindOf (P.zip vs) m x=some v
 | [],_,_,_,_,h,_,_=>by simp at h
 | _::_,[],_,_,_,_,h,_=>by simp at h
 | p::P,w::vs,0,m,nd,h1,h2,hk=>by
  simp at h1 h2;subst h1;subst h2
  show bindC kindOf ((p,w)::P.zip vs) m p=_
  unfold bindC
  rw[Oh λv hv=>(mh.mp nd).1 (tZ hv).1,if_neg hk]
  simp
 | p::P,w::vs,i+1,m,nd,h1,h2,hk=>by
  show bindC kindOf ((p,w)::P.zip vs) m x=_
  unfold bindC
  exact Oj (i:=i) (mh.mp nd).2 (by simpa using h1) (by simpa using h2) hk
def start(N:List Str)(vs:List V):St:=vs.map some++aU (N.length-vs.length) none
def i5(CX:eU)(P:Program)(w:World)(K:PySem.W.Frag)(mg:Str->Option Value)(base:Heap)(N:List Str)(qual:Str)(scope:Scope)(f:Addr)(cd:Value)(A:Around)(outer:List Env)(s:Shared)(H:Hp)(E:XK):Cx where
 prog:=P
 w:=w
 K:=K
 mg:=mg
 base:=base
 A:=A.deeper (envOfC qual scope s.heap.objs.size f cd)
 N:=N
 cN:=s
 jP:=H
 env:=envOfC qual scope s.heap.objs.size f cd
 outer:=outer
 stack:=envOfC qual scope s.heap.objs.size f cd::outer
 ex:=[]
 calm:=true
 fn:=λ_=>true
 pn:=[]
 xe:=λe s'=>wpAny (model P w) (A.deeper (envOfC qual scope s.heap.objs.size f cd)) (leaving (envOfC qual scope s.heap.objs.size f cd) e) (λ_ rz=>CX outer H s E e rz) (λe' rz=>CX outer H s E e' rz) s'
theorem Ol{sc:Scope}{n:Nat}{x:Str}(h:sc.names.lookup x=some .cell):∃c,(cellsFrom n sc.names []).lookup x=some c:=by
 have q:=PySem.W.cellsFrom_some sc.names n [] (.inl h)
 exact AW.mp q
theorem b72{CX:eU}{P:Program}{w:World}{K:PySem.W.Frag}{mg:Str->Option Value}{base:Heap}{N ps:List Str}{qual:Str}{scope:Scope}{f:Addr}{cd:Value}{A:Around}{outer:List Env}{s s1:Shared}{H:Hp}{E:XK}{us:List Value}{vs:List V}
  (S:aX N ps scope) (hd:A.handled=none) (e0:jn P w K mg base A outer s H) (hl:vs.length=ps.length) (r:Vals vs us)
  (x:InCallC s s.heap.objs.size (bindL (envOfC qual scope s.heap.objs.size f cd).kindOf (ps.zip us) λ_=>none) (cellsFrom (s.heap.objs.size+1) scope.names []) (bindC (envOfC qual scope s.heap.objs.size f cd).kindOf (ps.zip us) λ_=>none) s1) :
  Inv (i5 CX P w K mg base N qual scope f cd A outer s H E) [] (start N vs) H s1:=by
 have bu:ps.length<=N.length:=by have:=congrArg EZ S.pre;rw[jK]at this;omega
 obtain⟨h1,tk,rfl,hk⟩:=x.done
 have yc:∀b:Addr,b ∉ (i5 CX P w K mg base N qual scope f cd A outer s H E).ex:=λb z=>absurd (show b∈([]:List Addr) from z) (by simp)
 refine⟨⟨e0.mod,S.kind,rfl,rfl,bM _,λy z c h1 h2=>?_,λy hy=>?_,λy c _ h=>?_,λ_=>hd,Around.frames_deeper e0.frames,.inr ⟨rfl,rfl⟩,λb z=>absurd z (yc b),e0.bs,e0.ji,λb _ _=>yc b,λb z=>absurd z (yc b),e0.gx,e0.jj⟩,
  rfl,e0.bare,Un.kept hk,⟨_,x.toInCall.ns,λi y v h1 h2 h3=>?_⟩,λy c h=>⟨_,x.cell y c h⟩,e0.aH.fresh (bM _),λy c h=>?_,λp hp=>absurd (show p∈([]:List (Addr × Obj)) from hp) (by simp),e0.aH.kept hk,?_⟩
 ·exact name_of_addr x.apart (PySem.mem_of_lookup h1) (PySem.mem_of_lookup h2)
 ·have hy:scope.names.lookup y=some .cell\/scope.names.lookup y=some .free:=hy
  rcases hy with hy | hy
  ·exact Ol hy
  ·exact absurd rfl (S.cW0 _ (PySem.mem_of_lookup hy))
 ·exact AO (x.above y c (PySem.mem_of_lookup h))
 ·have hi:i<vs.length:=by
   unfold start at h2
   by_cases hi:i<vs.length
   ·exact hi
   ·rw[m5 (by simpa using hi)]at h2
    rw[oN]at h2
    split at h2<;>cases h2
  have ha:vs[i]?=some v:=by
   unfold start at h2
   rw[qJ (by simpa using hi),cM]at h2
   cases e:vs[i]? with
   | none=>rw[e]at h2;cases h2
   | some a=>rw[e]at h2;cases h2;rfl
  obtain⟨u,hu,rv⟩:=r.get ha
  have hp:ps[i]?=some y:=by
   rw[<-S.pre,Yz (by omega)];exact h1
  have Om:ps.Nodup:=by rw[<-S.pre];exact S.nd.sublist (List.take_sublist _ _)
  refine⟨u,rv,?_⟩
  rcases S.par y (t7 hp)with k | k
  ·exact .inl ⟨k,Oi Om hp hu k⟩
  ·obtain⟨c,e⟩:=Ol (n:=s.heap.objs.size+1) k
   refine .inr ⟨.inl k,c,e,?_⟩
   have q:=x.cell y c e
   rw[Oj Om hp hu (by show scope.names.lookup y≠_;rw[k];decide)]at q
   exact q
 ·exact e0.aH.fresh (AO (x.above y c (PySem.mem_of_lookup h)))
 ·unfold start
  show _=N.length
  rw[dF,br,fP]
  omega
theorem BQ{CX:eU}{P:Program}{w:World}{K:PySem.W.Frag}{mg:Str->Option Value}{base:Heap}{k:Nat}{f:Addr}{name qual:Str}{params:Arguments}{body:List Stmt}{scope:Scope}{dV kV doc pm aC ct oc:Value}{an od:Option Addr}
  {iz:Array (Option Value)} {N ps:List Str} {sp:Sp} (lk:K.lookup f=some ⟨oc,od,.func (PySem.W.fnOf name qual params body scope dV kV doc pm an aC ct),iz⟩) (da:PySem.W.codeIn K aC qual=true) (S:aX N ps scope)
  (len:∀vs H Q E,sp vs H Q E->vs.length=ps.length)
  (hW:∀(A:Around) (outer:List Env) (s:Shared) (H:Hp) (vs:List V) (Q:VK) (E:XK),bS k (A.deeper (envOfC qual scope s.heap.objs.size f aC))->sp vs H Q E ->
   ∃t,PSs (i5 CX P w K mg base N qual scope f aC A outer s H E) body t/\t { nx:=λ_ H'=>Q .au H',rt:=Q } (start N vs) H) :
  aI P w K mg base CX (k+1) f (PySem.W.fnOf name qual params body scope dV kV doc pm an aC ct) ps sp:=by
 refine⟨len,λA outer s H args us vs Q E hr e0 hb r iA=>?_⟩
 have hl:=len _ _ _ _ iA
 have KX:K.In s.heap:=e0.mod.mr.keeps λb o e=>(e0.bs b o e).1
 have lim:s.heap.NoLimit:=e0.mod.nolimit.keeps λb o e=>(e0.bs b o e).1
 have iB:∀y∈ps.zip us,scope.names.lookup y.1=some .local\/(scope.names.lookup y.1=some .cell/\((cellsFrom (s.heap.objs.size+1) scope.names []).lookup y.1).isSome=true):=λ⟨n,v⟩ hy=>by
  rcases S.par n (tZ hy).1 with q | q
  ·exact .inl q
  ·exact .inr ⟨q,PySem.W.cellsFrom_some _ _ _ (.inl q)⟩
 refine codeAny_call_function hr.depth (KX _ _ lk) rfl S.co S.gen rfl (PySem.W.codeRec_of KX da) (hb _ _ _ _ ?_)
 refine wpAny_newFunctionEnv_cells S.kind iB λenv he s1 x=>?_
 subst he
 refine⟨lim.keeps x.toInCall.keep,codeAny_func ?_⟩
 obtain⟨t,ht,hq⟩:=hW A outer s H vs Q E (hr.deeper _) iA
 have I:Inv (i5 CX P w K mg base N qual scope f aC A outer s H E) [] (start N vs) H s1:=b72 S hr.hd e0 hl r x
 refine wpAny_mono (ht [] s1 (start N vs) H _ I hq) (λfl s' hs=>?_) λe s' hs=>hs
 have fin:∀{aF:St} {H':Hp} {v:V} {u:Value},Inv (i5 CX P w K mg base N qual scope f aC A outer s H E) [] aF H' s'->RelV v u->Q v H'->CE outer P w H s Q u s' :=
  λ{aF H' v u} J rv q=>⟨v,H',J.os,J.bare,J.base,J.aH,rv,q⟩
 cases fl with
 | ret u =>
  obtain⟨v,aF,H',J,rv,q⟩:=hs
  exact fin J rv q
 | next =>
  obtain⟨aF,H',J,q⟩:=hs
  exact fin (v:=V.au) (u:=qG) J rfl q
 | brk =>
  obtain⟨_,_,_,q⟩:=hs
  exact fG q
 | cont =>
  obtain⟨_,_,_,q⟩:=hs
  exact fG q
end L2
namespace L2
open PySem PySem.Spec PyProof.Rows
section
variable{X:Cx}{x:Str}{p pos:Pos}{e:Expr}{es:List Expr}{t:TA}{id T:String}{r:List V->Hp->VK->Prop}
def FY(r:List V->Hp->VK->Prop)(t:TA):TE:=λσ H Q=>t σ H λvs H1=>r vs H1 Q
theorem yd(hc:gz X (.builtin id) r)(hg:Gl X x)(hm:X.mg x=none)(hv:bootBuiltins x=some (.builtin id))(ha:PA X (e::es) t)(hn:x≠"__name__":=by decide)(de:(x==("__debug__":Str))=false:=by decide)
  (he:starEach (e::es) X.env=(false,eval e X.env)::starEach es X.env:=by rfl) (bu:(backTo pos (starEach es X.env)).any (·.1)=false:=by rfl):PE X (.Call (.Name x p) (e::es) [] pos) (FY r t):=by
 intro pins s σ H Q I h
 refine wpAny_Call_Name_kw (qZ I hg hm hv ?_ hn de)
 exact PyProof.Rows.callWith_builtin1 (aP (ha pos pins s σ H _ I h) λus s1 ⟨vs,H1,I1,r1,q1⟩=>hc pins s1 σ H1 vs us Q I1 r1 q1) he bu
theorem bZ0(hc:gz X (.type T) r)(hg:Gl X x)(hm:X.mg x=none)(hv:bootBuiltins x=some (.type T))(ha:PA X (e::es) t)(hn:x≠"__name__":=by decide)(de:(x==("__debug__":Str))=false:=by decide)
  (he:starEach (e::es) X.env=(false,eval e X.env)::starEach es X.env:=by rfl) (bu:(backTo pos (starEach es X.env)).any (·.1)=false:=by rfl):PE X (.Call (.Name x p) (e::es) [] pos) (FY r t):=by
 intro pins s σ H Q I h
 refine wpAny_Call_Name_kw (qZ I hg hm hv ?_ hn de)
 exact AS (aP (ha pos pins s σ H _ I h) λus s1 ⟨vs,H1,I1,r1,q1⟩=>hc pins s1 σ H1 vs us Q I1 r1 q1) he bu
end
end L2
namespace HT
open PySem PyProof.Rows
section
open PySem.SeqAt
open PySem.AutoSeq1 (wpAny_loadPart')
open PySem.MeetsSeq PySem.MeetsSeq2 PySem.MeetsSeq3
end
section
variable{prog:Program}{w:World}{A:Around}{E:Value->Shared->Prop}{s:Shared}
def du(n d:Nat):Option Int->Nat
 | none=>d
 | some v=>if v<0 then(v+(n:Int)).toNat else min v.toNat n
theorem FZ(n d k:Nat):du n d (some (k:Int))=min k n:=by
 show(if(k:Int)<0 then((k:Int)+(n:Int)).toNat else min (k:Int).toNat n)=min k n
 rw[if_neg (by omega),iX]
end
end HT
namespace L2
open PySem PySem.Spec PyProof.Rows
abbrev TO:=St->Hp->(Option Int->Hp->Prop)->Prop
def PO(X:Cx)(e:Option Expr)(t:TO):Prop :=
 ∀(pins:List (Addr × Obj)) (s:Shared) (σ:St) (H:Hp) (Q:Option Int->Hp->Prop),Inv X pins σ H s->t σ H Q ->
  wpAny (model X.prog X.w) X.A (evalPart e X.env) (λu s'=>∃o H',Inv X pins σ H' s'/\IsPart u o/\Q o H') X.xe s
def ct5:TO:=λ_ H Q=>Q none H
def cP1(t:TE):TO:=λσ H Q=>t σ H λx H1=>∃i,x=.int i/\Q (some i) H1
theorem bT7{ns:List Int}:∀{us:List Value},Vals (ns.map V.int) us->IntsAre us ns:=by
 induction ns with
 | nil=>intro us r;rw[km]at r;cases r;exact .nil
 | cons n ns ih =>
  intro us r
  rw[dy]at r
  cases r with
  | cons r1 r2 =>
   obtain⟨t,e⟩:=r1
   subst e
   exact .cons n t (ih r2)
section
variable{X:Cx}{e:Expr}{te:TE}{lo hi:Option Expr}{tl th:TO}{pos p2:Pos}
theorem cw2:PO X none ct5:=by
 intro pins s σ H Q I h
 rw[evalPart_none]
 exact wpAny_pure ⟨none,H,I,.none,h⟩
theorem cu4(h:PE X e te):PO X (some e) (cP1 te):=by
 intro pins s σ H Q I hw
 rw[evalPart_some]
 refine aP (h pins s σ H _ I hw) λu s1 ⟨x,H1,I1,r1,q1⟩=>?_
 obtain⟨i,rfl,q⟩:=q1
 obtain⟨t,rfl⟩:=r1
 exact⟨some i,H1,I1,.int i t,q⟩
def rA(X:Cx)(r:V->Option Int->Option Int->Hp->VK->Prop):Prop :=
 ∀(pins:List (Addr × Obj)) (s:Shared) (σ:St) (H:Hp) (x:V) (v vl vu:Value) (lo hi:Option Int) (sl:Addr) (Q:VK),Inv X pins σ H s->RelV x v->s.heap.IsSliceOf sl vl vu .none->IsPart vl lo->IsPart vu hi->r x lo hi H Q ->
  ∃T id,typeLookup (.type T) "__getitem__"=pure (some (.builtin id))/\s.TypeIs v T/\wpAny (model X.prog X.w) X.A (getItem v (.ref sl)) (EP X pins σ Q) X.xe s
theorem rA.or{r r':V->Option Int->Option Int->Hp->VK->Prop}(h:rA X r)(h':rA X r'):rA X (λx lo hi H Q=>r x lo hi H Q\/r' x lo hi H Q):=by
 intro pins s σ H x v vl vu lo hi sl Q I rx hs pl pu q
 rcases q with q | q
 ·exact h pins s σ H x v vl vu lo hi sl Q I rx hs pl pu q
 ·exact h' pins s σ H x v vl vu lo hi sl Q I rx hs pl pu q
def tSl(r:V->Option Int->Option Int->Hp->VK->Prop)(te:TE)(tl th:TO):TE:=λσ H Q=>te σ H λx H1=>tl σ H1 λl H2=>th σ H2 λu H3=>r x l u H3 Q
theorem cf7{r:V->Option Int->Option Int->Hp->VK->Prop}(hr:rA X r)(he:PE X e te)(hl:PO X lo tl)(hu:PO X hi th):PE X (.Subscript e (.Slice lo hi none p2) pos) (tSl r te tl th):=by
 intro pins s σ H Q I h
 refine Subscript_ (aP (he pins s σ H _ I h) λv s1 ⟨x,H1,I1,r1,q1⟩=>?_)
 refine wpAny_Slice (aP (hl pins s1 σ H1 _ I1 q1) λvl s2 ⟨l,H2,I2,pl,q2⟩=>aP (hu pins s2 σ H2 _ I2 q2) λvu s3 ⟨u,H3,I3,pu,q3⟩=>?_)
 rw[evalPart_none]
 refine wpAny_pure ?_
 have I4:Inv X pins σ H3 { s3 with heap:=s3.heap.push { cls:=.type "slice",data:=.fields #[vl,vu,.none] } }:=I3.kept (t':=s3.toks) λb ob q=>fU _ q
 obtain⟨T,id,hT,ht,hg⟩:=hr pins { s3 with heap:=s3.heap.push { cls:=.type "slice",data:=.fields #[vl,vu,.none] } } σ H3 x v vl vu l u s3.heap.objs.size Q I4 r1 (Heap.IsSliceOf.new ..) pl pu q3
 show wpAny (model X.prog X.w) X.A (subscriptTail e (.Slice lo hi none p2) v (.ref s3.heap.objs.size)) (EP X pins σ Q) X.xe { s3 with heap:=s3.heap.push { cls:=.type "slice",data:=.fields #[vl,vu,.none] } }
 exact tail_any (ops:=[.ref s3.heap.objs.size,v]) ht hT hg (by with_unfolding_all rfl)
def uG(xs:List V)(lo hi:Option Int):List V:=(xs.drop (HT.du xs.length 0 lo)).take (HT.du xs.length xs.length hi-HT.du xs.length 0 lo)
theorem bK3(xs:List V)(lo hi:Option Int):(uG xs lo hi).length<=xs.length:=by
 unfold uG
 rw[jK,kO]
 omega
end
end L2
namespace L2
open PySem PySem.Spec PyProof.Rows
def i6(n:Nat)(i:Int):Option Nat:=if 0<=i then(if i<n then some i.toNat else none)else if -(n:Int)<=i then some (i+n).toNat else none
def fh{α:Type}(xs:List α)(i:Int):Option α:=(i6 xs.length i).bind λj=>xs[j]?
theorem Oo{n:Nat}{i:Int}{j:Nat}(h:i6 n i=some j):seqIndex? i n=some j/\j<n/\-(n:Int)<=i/\i<n:=by
 unfold i6 at h
 by_cases h0:0<=i
 ·rw[if_pos h0]at h
  by_cases h1:i<n
  ·rw[if_pos h1]at h
   have e:i.toNat=j:=dn h
   exact⟨by rw[seqIndex_of h0 h1,e],by omega,by omega,h1⟩
  ·rw[if_neg h1]at h;cases h
 ·rw[if_neg h0]at h
  by_cases h1:-(n:Int)<=i
  ·rw[if_pos h1]at h
   have e:(i+n).toNat=j:=dn h
   exact⟨by rw[seqIndex_neg (by omega) h1,e],by omega,h1,by omega⟩
  ·rw[if_neg h1]at h;cases h
theorem nv{α:Type}{xs:List α}{i:Int}{v:α}(h:fh xs i=some v):∃j,seqIndex? i xs.length=some j/\xs[j]?=some v/\j<xs.length/\-(xs.length:Int)<=i/\i<xs.length:=by
 unfold fh at h
 cases e:i6 xs.length i with
 | none=>rw[e]at h;cases h
 | some j =>
  rw[e]at h
  obtain⟨h1,h2,h3,h4⟩:=Oo e
  exact⟨j,h1,h,h2,h3,h4⟩
def Oq(b:Expr):Prop:=∀o i,subscripted b false o i=operate [o,i] (getItem o i)
def nz(X:Cx)(r:R2):Prop :=
 ∀(value slice:Expr) (pins:List (Addr × Obj)) (s:Shared) (σ:St) (H:Hp) (x y:V) (v u:Value) (Q:VK),Inv X pins σ H s->RelV x v->RelV y u->r x y H Q ->
  subscripted slice false v u=operate [v,u] (getItem v u)->wpAny (model X.prog X.w) X.A (subscriptTail value slice v u) (EP X pins σ Q) X.xe s
def BR(X:Cx)(id:String)(r:V->List V->Hp->VK->Prop):Prop :=
 ∀(pins:List (Addr × Obj)) (s:Shared) (σ:St) (H:Hp) (x:V) (xs:List V) (v:Value) (us:List Value) (Q:VK),Inv X pins σ H s->RelV x v->Vals xs us->r x xs H Q ->
  wpAny (model X.prog X.w) X.A (call (.builtin id) (v::us)) (EP X pins σ Q) X.xe s
section
variable{X:Cx}{a b:Expr}{ta tb:TE}{pos:Pos}
theorem nz.or{r r':R2}(h:nz X r)(h':nz X r'):nz X (λx y H Q=>r x y H Q\/r' x y H Q):=by
 intro value slice pins s σ H x y v u Q I rx ry q hs
 rcases q with q | q
 ·exact h value slice pins s σ H x y v u Q I rx ry q hs
 ·exact h' value slice pins s σ H x y v u Q I rx ry q hs
theorem cP2{r:R2}(hr:nz X r)(ha:PE X a ta)(hb:PE X b tb)(hs:Oq b):PE X (.Subscript a b pos) (x9 r ta tb):=by
 intro pins s σ H Q I h
 exact Subscript_ (FT ha hb I h λv u s2 x y H2 I2 rx ry q=>hr a b pins s2 σ H2 x y v u Q I2 rx ry q (hs _ _))
def Ot(K:PySem.W.Frag):R2:=λx y H Q=>∃p xs i v,x=.ref p/\y=.int i/\bQ K H p xs/\fh xs i=some v/\Q v H
def Ou(K:PySem.W.Frag):R2:=λx y H Q=>∃p xs i v,x=.ref p/\y=.int i/\iu K H p xs/\fh xs i=some v/\Q v H
def Ov:R2:=λx y H Q=>∃z i c,x=.str z/\y=.int i/\z.length<=sizeLine/\fh z.cps.toList i=some c/\Q (.str ⟨#[c]⟩) H
theorem cX2:nz X (Ot X.K):=by
 intro value slice pins s σ H x y v u Q I rx ry h hs
 obtain⟨p,xs,i,z,rfl,rfl,hq,he,q⟩:=h
 cases rx
 obtain⟨t,rfl⟩:=ry
 obtain⟨its,r,pl,hz⟩:=I.list hq
 obtain⟨j,h1,h2,h3,h4,h5⟩:=nv he
 obtain⟨w,ew,gA⟩:=r.get h2
 have hl:=r.length
 have hn:=uD
 have fin:EP X pins σ Q w s:=⟨z,H,I,gA,q⟩
 by_cases h0:0<=i
 ·have hj:i.toNat=j:=by
   rw[seqIndex_of h0 h5]at h1
   exact dn h1
  exact item_listR pl.isList h0 (by omega) (by rw[hj];simpa using ew) fin hs
 ·have hj:(i+(its.toArray.size:Int)).toNat=j:=by
   rw[seqIndex_neg (by omega) h4]at h1
   rw[eD,<- hl]
   exact dn h1
  exact subscriptTail_builtinR (x:=w) pl.isList.typeIs slot_list_getitem.lookup
   (wpAny_getItem_list_neg (Q:=λr s'=>r=w/\EP X pins σ Q r s') pl.isList (by omega) (by rw[eD]<;>omega) (by omega) (by rw[hj];simpa using ew) ⟨rfl,fin⟩) hs
theorem cX3:nz X (Ou X.K):=by
 intro value slice pins s σ H x y v u Q I rx ry h hs
 obtain⟨p,xs,i,z,rfl,rfl,hq,he,q⟩:=h
 cases rx
 obtain⟨t,rfl⟩:=ry
 obtain⟨its,r,pl,hz⟩:=I.tuple hq
 obtain⟨j,h1,h2,h3,h4,h5⟩:=nv he
 obtain⟨w,ew,gA⟩:=r.get h2
 have hl:=r.length
 have hn:=uD
 have fin:EP X pins σ Q w s:=⟨z,H,I,gA,q⟩
 exact subscriptTail_builtinR (x:=w) pl.typeIs slot_tuple_getitem.lookup
  (getItem_tuple (j:=j) (Q:=λr s'=>r=w/\EP X pins σ Q r s') pl (by omega) (by omega) (by rw[eD,<- hl];exact h1) (by simpa using ew) ⟨rfl,fin⟩) hs
theorem cF9:nz X Ov:=by
 intro value slice pins s σ H x y v u Q I rx ry h hs
 obtain⟨z,i,c,rfl,rfl,hz,he,q⟩:=h
 obtain⟨t,rfl⟩:=rx
 obtain⟨t',rfl⟩:=ry
 obtain⟨j,h1,h2,h3,h4,h5⟩:=nv he
 have hl:z.cps.toList.length=z.length:=by simp[Str.length]
 rw[hl]at h1 h4 h5
 have hn:=uD
 exact tail_any (typeIs_str s z t) slot_str_getitem.lookup (getItem_str (c:=c) (by
  have e1:decide (i < -(2 ^ 63:Int))=false:=decide_eq_false (by omega)
  have e2:decide (i ≥ 2 ^ 63)=false:=decide_eq_false (by omega)
  rw[e1,e2,xC]) (by rw[h1];simpa using h2) ⟨.str ⟨#[c]⟩,H,I.tok _,⟨_,rfl⟩,q⟩) hs
def rIx(K:PySem.W.Frag):R2:=λx y H Q=>Ot K x y H Q\/Ou K x y H Q\/Ov x y H Q
theorem cG6:nz X (rIx X.K):=cX2.or (cX3.or cF9)
theorem bV6(its:List Value)(n j:Nat)(u:Value):AX (·.setIfInBounds j u) { cls:=.type "list",data:=.seq its.toArray n }={ cls:=.type "list",data:=.seq (its.set j u).toArray n }:=by
 simp[AX]
theorem Inv.lst{pins:List (Addr × Obj)}{σ:St}{H:Hp}{s:Shared}{p:Addr}{xs:List V}(I:Inv X pins σ H s)(h:H p=some (.lst xs)) :
  ∃(its:List Value) (n:Nat),Vals xs its/\s.heap.get? p=some { cls:=.type "list",data:=.seq its.toArray n }/\xs.length<=sizeLine:=by
 obtain⟨z,its,n,r,e⟩:=I.aH p _ h
 exact⟨its,n,r,e,z⟩
theorem Inv.cX8{pins:List (Addr × Obj)}{σ:St}{H:Hp}{s:Shared}{p:Addr}{xs ys:List V}{its its':List Value}{n n':Nat}{f:Obj->Obj}(I:Inv X pins σ H s)(h:H p=some (.lst xs))
  (ho:s.heap.get? p=some { cls:=.type "list",data:=.seq its.toArray n }) (hf:f { cls:=.type "list",data:=.seq its.toArray n }={ cls:=.type "list",data:=.seq its'.toArray n' }) (r:Vals ys its') (hz:ys.length<=sizeLine) (t:Nat) :
  Inv X pins σ (upd H p (.lst ys)) { s with heap:=s.heap.update p f,toks:=t }:=by
 have e:(s.heap.update p f).get? p=some { cls:=.type "list",data:=.seq its'.toArray n' }:=by
  rw[E1 f ho (by rw[hf]<;>rfl),hf]
 refine I.write (x:=p) (e:=p) (by rw[h];trivial) (.inl rfl) (λb u hb q=>(qK _ _ (fF hb)).trans q) ⟨_,e⟩ ?_
 exact⟨hz,its',n',r,e⟩
def cM8:V->V->V->Hp->(Hp->Prop)->Prop:=λo i v H Q=>∃p xs k j,o=.ref p/\i=.int k/\H p=some (.lst xs)/\i6 xs.length k=some j/\Q (upd H p (.lst (xs.set j v)))
theorem ci0:N1 X cM8:=by
 intro pins s σ H o i v ov iv u Q I ro ri rv h
 obtain⟨p,xs,k,j,rfl,rfl,hp,hj,q⟩:=h
 cases ro
 obtain⟨t,rfl⟩:=ri
 obtain⟨its,n,r,ho,hz⟩:=I.lst hp
 obtain⟨h1,h2,h3,h4⟩:=Oo hj
 have hl:=r.length
 have hn:=uD
 have I':Inv X pins σ (upd H p (.lst (xs.set j v))) { s with heap:=s.heap.update p (AX (·.setIfInBounds j u)) } :=
  I.cX8 hp ho (bV6 its n j u) (r.set rv j) (by rw[kn];exact hz) s.toks
 by_cases h0:0<=k
 ·have hk:k.toNat=j:=by
   rw[seqIndex_of h0 h4]at h1
   exact dn h1
  exact PySem.W.ki_setAt ho h0 (by omega) (by rw[eD,<- hl];exact h4) (by rw[hk];exact⟨_,I',q⟩)
 ·have hk:(k+(its.toArray.size:Int)).toNat=j:=by
   rw[seqIndex_neg (by omega) h3]at h1
   rw[eD,<- hl]
   exact dn h1
  exact PySem.W.ki_setBack ho (by omega) (by rw[eD,<- hl];exact h3) (by omega) (by rw[hk];exact⟨_,I',q⟩)
theorem Ga(lo hi:Option Int)(n:Nat):(sliceBounds lo hi none n).1=((HT.du n 0 lo:Nat):Int)/\(sliceBounds lo hi none n).2.1=((HT.du n n hi:Nat):Int)/\(sliceBounds lo hi none n).2.2=1:=by
 refine⟨?_,?_,rfl⟩
 ·cases lo with
  | none=>simp[sliceBounds,HT.du]
  | some i =>
   simp only[sliceBounds,HT.du,t9,show(1:Int)>0 by decide,if_true]
   by_cases h:i<0
   ·simp only[h,if_true]<;>omega
   ·simp only[h,if_false]<;>omega
 ·cases hi with
  | none=>simp[sliceBounds,HT.du]
  | some i =>
   simp only[sliceBounds,HT.du,t9,show(1:Int)>0 by decide,if_true]
   by_cases h:i<0
   ·simp only[h,if_true]<;>omega
   ·simp only[h,if_false]<;>omega
theorem bC4(its:List Value)(lo hi:Option Int):slicePick its.toArray lo hi none=((its.drop (HT.du its.length 0 lo)).take (HT.du its.length its.length hi-HT.du its.length 0 lo)).toArray:=by
 obtain⟨h1,h2,h3⟩:=Ga lo hi its.toArray.size
 unfold slicePick
 rw[h1,h2,h3]
 simp only[sliceRange_one,pick_run,eD]<;>rfl
def cT9(K:PySem.W.Frag):V->Option Int->Option Int->Hp->VK->Prop:=λx lo hi H Q=>∃a xs,x=.ref a/\bQ K H a xs/\∀p,H p=none->Q (.ref p) (upd H p (.lst (uG xs lo hi)))
theorem cY3:rA X (cT9 X.K):=by
 intro pins s σ H x v vl vu lo hi sl Q I rx hs pl pu h
 obtain⟨a,xs,rfl,hx,q⟩:=h
 cases rx
 obtain⟨its,r,ht,hz⟩:=I.list hx
 have hlen:=r.length
 refine⟨"list",_,slot_list_getitem.lookup,ht.isList.typeIs,?_⟩
 refine wpAny_getItem_list_slice ht.isList hs pl pu .none (by simp) ?_ (by rw[eD]<;>omega)
 rw[bC4,<- hlen]
 refine⟨.ref s.heap.objs.size,_,I.laid (t':=s.toks) (o:=.lst (uG xs lo hi)) (λb ob q=>fU _ q) (bM _) ?_,rfl,q _ (I.aH.fresh (bM _))⟩
 exact⟨fO (bK3 xs lo hi) hz,_,0,(r.drop (HT.du xs.length 0 lo)).take (HT.du xs.length xs.length hi-HT.du xs.length 0 lo),g8 _ rfl⟩
def nB:V->Bool
 | .au=>true
 | .bl _=>true
 | .int _=>true
 | .str _=>true
 | _=>false
def mB:V->V->Bool
 | .au,.au=>true
 | .bl a,.bl b=>a==b
 | .bl a,.int b=>(if a then 1 else 0)==b
 | .int a,.bl b=>a==(if b then 1 else 0)
 | .int a,.int b=>a==b
 | .str a,.str b=>a==b
 | _,_=>false
theorem cC6{A:Around}{s:Shared}{y x:V}{u v:Value}(ry:RelV y u)(rx:RelV x v)(fy:nB y=true)(fx:nB x=true):E2 A s u v (mB y x):=by
 cases y with
 | au =>
  cases ry
  cases x with
  | au=>cases rx;exact SeqAt.EqAt.same _
  | bl b=>cases rx;exact SeqAt.EqAt.none_bool b
  | int b=>obtain⟨t,rfl⟩:=rx;exact SeqAt.EqAt.none_int b t
  | str b=>obtain⟨t,rfl⟩:=rx;exact SeqAt.EqAt.none_str b t
  | _=>exact absurd (show false=true from fx) iW
 | bl a =>
  cases ry
  cases x with
  | au=>cases rx;exact SeqAt.EqAt.bool_none a
  | bl b=>cases rx;exact SeqAt.EqAt.bool_bool a b
  | int b=>obtain⟨t,rfl⟩:=rx;exact SeqAt.EqAt.bool_int a b t
  | str b=>obtain⟨t,rfl⟩:=rx;exact SeqAt.EqAt.bool_str a b t
  | _=>exact absurd (show false=true from fx) iW
 | int a =>
  obtain⟨t',rfl⟩:=ry
  cases x with
  | au=>cases rx;exact SeqAt.EqAt.int_none a t'
  | bl b=>cases rx;exact SeqAt.EqAt.int_bool a t' b
  | int b=>obtain⟨t,rfl⟩:=rx;exact SeqAt.EqAt.int_int a t' b t
  | str b=>obtain⟨t,rfl⟩:=rx;exact SeqAt.EqAt.int_str a t' b t
  | _=>exact absurd (show false=true from fx) iW
 | str a =>
  obtain⟨t',rfl⟩:=ry
  cases x with
  | au=>cases rx;exact SeqAt.EqAt.str_none a t'
  | bl b=>cases rx;exact SeqAt.EqAt.str_bool a t' b
  | int b=>obtain⟨t,rfl⟩:=rx;exact SeqAt.EqAt.str_int a t' b t
  | str b=>obtain⟨t,rfl⟩:=rx;exact SeqAt.EqAt.str_str a t' b t
  | _=>exact absurd (show false=true from fx) iW
 | _=>exact absurd (show false=true from fy) iW
def nC(x:V)(u:Value):Bool:=match u with
 | .none=>mB .au x
 | .bool b=>mB (.bl b) x
 | .int i _=>mB (.int i) x
 | .str z _=>mB (.str z) x
 | _=>false
theorem Ow{x y:V}{u:Value}(r:RelV y u)(f:nB y=true):nC x u=mB y x:=by
 cases y with
 | au=>cases r;rfl
 | bl b=>cases r;rfl
 | int i=>obtain⟨t,rfl⟩:=r;rfl
 | str z=>obtain⟨t,rfl⟩:=r;rfl
 | _=>exact absurd (show false=true from f) iW
theorem Gb{x:V}:∀{xs:List V} {us:List Value},Vals xs us->xs.all nB=true->us.any (nC x)=xs.any λy=>mB y x
 | _,_,.nil,_=>rfl
 | y::xs,u::us,.cons r t,f=>by
  rw[dA,eT]at f
  rw[List.any_cons,List.any_cons,Ow r f.1,Gb t f.2]
theorem Gd{A:Around}{s:Shared}{x:V}{v:Value}(rx:RelV x v)(fx:nB x=true):∀{xs:List V} {us:List Value},Vals xs us->xs.all nB=true->∀u∈us,E2 A s u v (nC x u)
 | _,_,.nil,_=>λu hu=>by cases hu
 | y::xs,u::us,.cons r t,f=>λu' hu=>by
  rw[dA,eT]at f
  rcases cH.mp hu with rfl | hu
  ·rw[Ow r f.1];exact cC6 r rx f.1 fx
  ·exact Gd rx fx t f.2 u' hu
def BS(x:V)(xs:List V):Bool:=xs.any λy=>mB y x
def rIn(K:PySem.W.Frag)(neg:Bool):R2:=λx y H Q=>∃p xs,y=.ref p/\(bQ K H p xs\/iu K H p xs)/\nB x=true/\xs.all nB=true/\Q (.bl (if neg then !BS x xs else BS x xs)) H
theorem bD7:cQ X (compareOp .NotIn) (rIn X.K true):=by
 intro pins s σ H x y v u Q I rx ry h
 obtain⟨p,xs,rfl,hq,fx,fs,q⟩:=h
 cases ry
 rcases hq with hq | hq
 ·obtain⟨its,r,pl,hz⟩:=I.list hq
  refine SeqAt.notIn_listAt (nC x) pl.isList (λw hw=>Gd rx fx r fs w (by simpa using hw)) ⟨.bl _,H,I,rfl,?_⟩
  rw[show its.toArray.any (nC x)=its.any (nC x) by simp,Gb r fs]
  exact q
 ·obtain⟨its,r,pl,hz⟩:=I.tuple hq
  refine SeqAt.notIn_tupleAt (nC x) pl (λw hw=>Gd rx fx r fs w (by simpa using hw)) ⟨.bl _,H,I,rfl,?_⟩
  rw[show its.toArray.any (nC x)=its.any (nC x) by simp,Gb r fs]
  exact q
theorem Ox:gz X (.builtin "len") (λxs H Q=>∃p ys,xs=[.ref p]/\(bQ X.K H p ys\/iu X.K H p ys)/\Q (.int ys.length) H):=by
 intro pins s σ H xs us Q I r h
 obtain⟨p,ys,rfl,hq,q⟩:=h
 obtain⟨u,rfl,rx⟩:=BM r
 cases rx
 have hn:=uD
 rcases hq with hq | hq
 ·obtain⟨its,r',pl,hz⟩:=I.list hq
  have hlen:=r'.length
  exact Calls.call_len_list pl.isList (by simp only[eD]<;>omega) ⟨.int ys.length,H,I.tok _,⟨s.toks+1,by rw[eD,hlen]⟩,q⟩
 ·obtain⟨its,r',pl,hz⟩:=I.tuple hq
  have hlen:=r'.length
  exact len_tuple pl (by simp only[eD]<;>omega) ⟨.int ys.length,H,I.tok _,⟨s.toks+1,by rw[eD,hlen]⟩,q⟩
theorem bJ4:gz X (.builtin "len") (λxs H Q=>∃z,xs=[.str z]/\z.length<=sizeLine/\Q (.int z.length) H):=by
 intro pins s σ H xs us Q I r h
 obtain⟨z,rfl,hz,q⟩:=h
 obtain⟨u,rfl,t,rfl⟩:=BM r
 have hn:=uD
 exact len_str (by omega) ⟨.int z.length,H,I.tok _,⟨_,rfl⟩,q⟩
theorem gz.or{f:Value}{r r':List V->Hp->VK->Prop}(h:gz X f r)(h':gz X f r'):gz X f (λxs H Q=>r xs H Q\/r' xs H Q):=by
 intro pins s σ H xs us Q I rs q
 rcases q with q | q
 ·exact h pins s σ H xs us Q I rs q
 ·exact h' pins s σ H xs us Q I rs q
theorem bF2:gz X (.type "list") (λxs H Q=>∃p ys,xs=[.ref p]/\(bQ X.K H p ys\/iu X.K H p ys)/\∀l,H l=none->Q (.ref l) (upd H l (.lst ys))):=by
 intro pins s σ H xs us Q I r h
 obtain⟨p,ys,rfl,hq,q⟩:=h
 obtain⟨u,rfl,rx⟩:=BM r
 cases rx
 have fin:∀(its:List Value),Vals ys its->ys.length<=sizeLine->∀(h':Heap) (c':Nat),(∀b o',s.heap.get? b=some o'->h'.get? b=some o') ->
   h'.get? s.heap.objs.size=some { cls:=.type "list",dict:=none,data:=.seq its.toArray c',slots:=#[] }->EP X pins σ Q (.ref s.heap.objs.size) { s with heap:=h' }:=λits r' hz h' c' kp e =>
  ⟨.ref s.heap.objs.size,_,I.laid (t':=s.toks) kp (bM _) (show eK X.prog X.w _ h' _ (.lst ys) from⟨hz,its,c',r',e⟩),rfl,q _ (I.aH.fresh (bM _))⟩
 rcases hq with hq | hq
 ·obtain⟨its,r',pl,hz⟩:=I.list hq
  have hlen:=r'.length
  obtain⟨o,ho,hc,n,hd⟩:=pl.isList
  exact call_list_seq p (.inl rfl) ho hc hd (λh' c' kp e=>fin its r' hz h' c' kp e) (by simp only[eD]<;>omega)
 ·obtain⟨its,r',pl,hz⟩:=I.tuple hq
  have hlen:=r'.length
  obtain⟨o,ho,hc,n,hd⟩:=pl
  exact call_list_seq p (.inr rfl) ho hc hd (λh' c' kp e=>fin its r' hz h' c' kp e) (by simp only[eD]<;>omega)
def Ge(K:PySem.W.Frag)(T:String)(x:V)(H:Hp):Prop:=match x with
 | .str _=>T="str"
 | .int _=>T="int"
 | .ref p=>(T="list"/\∃xs,bQ K H p xs)\/(T="tuple"/\∃o,K.lookup p=some o/\o.cls=.type "tuple"/\o.dict=none) \/
   (T="dict"/\((∃dU,H p=some (.dK dU))\/∃dU,H p=some (.dT dU)))\/(T="set"/\∃S n,H p=some (.set S n))
 | _=>False
theorem Oy{pins:List (Addr × Obj)}{σ:St}{H:Hp}{s:Shared}{T:String}{x:V}{v:Value}(I:Inv X pins σ H s)(r:RelV x v)(ty:Ge X.K T x H) :
  s.TypeIs v T/\∀a,v=.ref a->∃ob,s.heap.get? a=some ob/\ob.dict=none:=by
 cases x with
 | str z =>
  obtain⟨t,rfl⟩:=r
  cases(show T="str" from ty)
  exact⟨typeIs_str s z t,λ_ e=>nomatch e⟩
 | int i =>
  obtain⟨t,rfl⟩:=r
  cases(show T="int" from ty)
  exact⟨typeIs_int s i t,λ_ e=>nomatch e⟩
 | ref p =>
  cases r
  rcases ty with⟨rfl,xs,hq⟩ | ⟨rfl,o,hk,hc,hd⟩ | ⟨rfl,hk⟩ | ⟨rfl,S,n,hk⟩
  ·obtain⟨its,_,pl,_⟩:=I.list hq
   refine⟨pl.isList.typeIs,λa e=>?_⟩
   cases e
   obtain⟨o,n,e,c,hd,_⟩:=pl
   exact⟨o,e,hd⟩
  ·refine⟨⟨o,I.cY p o hk,hc⟩,λa e=>?_⟩
   cases e
   exact⟨o,I.cY _ o hk,hd⟩
  ·have z:∃o,s.heap.get? p=some o/\o.ExactDict:=by
    rcases hk with⟨dU,hk⟩ | ⟨dU,hk⟩
    ·obtain⟨_,_,_,_,o,_,_,e,ex,_⟩:=I.aH p _ hk
     exact⟨o,e,ex⟩
    ·obtain⟨_,_,_,_,o,_,_,e,ex,_⟩:=I.aH p _ hk
     exact⟨o,e,ex⟩
   obtain⟨o,e,ex⟩:=z
   refine⟨⟨o,e,ex.1⟩,λa e2=>?_⟩
   cases e2
   exact⟨o,e,ex.2.1⟩
  ·obtain⟨o,_,_,_,e,ex,_⟩:=I.aH p _ hk
   refine⟨⟨o,e,ex.1⟩,λa e2=>?_⟩
   cases e2
   exact⟨o,e,ex.2.1⟩
 | _=>exact fG ty
def Oz(K:PySem.W.Frag)(T:String)(r:V->List V->Hp->VK->Prop)(to:TE):TE:=λσ H Q=>to σ H λx H1=>Ge K T x H1/\r x [] H1 Q
def tBM(K:PySem.W.Frag)(T:String)(r:V->List V->Hp->VK->Prop)(to:TE)(t:TA):TE:=λσ H Q=>to σ H λx H1=>Ge K T x H1/\t σ H1 λxs H2=>r x xs H2 Q
variable{o e:Expr}{es:List Expr}{to:TE}{t:TA}{name:Str}{apos cE:Pos}{T id:String}{r:V->List V->Hp->VK->Prop}
theorem cI4(pa:PlainAttrs T)(slot:Slot T name id)(Gf:typeOf (.builtin id)=pure (.type "method_descriptor"))(hm:BR X id r)(ho:PE X o to)
  (nD:attributeBase o name X.env (eval o X.env)=eval o X.env:=by rfl) (nE:(apos.endLine==cE.line)=true:=by rfl):PE X (.Call (.Attribute o name apos) [] [] cE) (Oz X.K T r to):=by
 intro pins s σ H Q I h
 refine wpAny_Call_method0_late nD nE (aP (ho pins s σ H _ I h) λv s1 ⟨x,H1,I1,r1,ty,q1⟩=>?_)
 obtain⟨h1,h2⟩:=Oy I1 r1 ty
 exact⟨T,id,pa,slot,Gf,h1,h2,Calls.callWith_builtin rfl (PySem.evalArgs_none (hm pins s1 σ H1 x [] v [] Q I1 r1 .nil q1))⟩
theorem cL0(pa:PlainAttrs T)(slot:Slot T name id)(Gf:typeOf (.builtin id)=pure (.type "method_descriptor"))(hm:BR X id r)(ho:PE X o to)(ha:PA X (e::es) t)
  (nD:attributeBase o name X.env (eval o X.env)=eval o X.env:=by rfl)
  (Gg:((backTo cE (starEach (e::es) X.env)).all (λx=>!x.1)&&(backToKw cE (keywordEach [] X.env)).all (λx=>x.1.isSome)
   && decide ((e::es).length+([]:List Keyword).length+(if([]:List Keyword).isEmpty then 0 else 1)<30))=true:=by rfl)
  (nE:(apos.endLine==cE.line)=true:=by rfl) (hs:starEach (e::es) X.env=(false,eval e X.env)::starEach es X.env:=by rfl) (Gh:(backTo cE (starEach es X.env)).any (·.1)=false:=by rfl) :
  PE X (.Call (.Attribute o name apos) (e::es) [] cE) (tBM X.K T r to t):=by
 intro pins s σ H Q I h
 refine wpAny_Call_method_late nD Gg nE rfl (aP (ho pins s σ H _ I h) λv s1 ⟨x,H1,I1,r1,ty,q1⟩=>?_)
 obtain⟨h1,h2⟩:=Oy I1 r1 ty
 refine⟨T,id,pa,slot,Gf,h1,h2,?_⟩
 have hA:=ha cE pins s1 σ H1 _ I1 q1
 rw[hs]at hA ⊢
 refine Calls.callWith_builtin (by show(false||(backTo cE (starEach es X.env)).any (·.1))=false;rw[Gh]<;>rfl) (Calls.evalArgs_plain ?_)
 exact aP hA λus s2 ⟨vs,H2,I2,r2,q2⟩=>hm pins s2 σ H2 x vs v us Q I2 r1 r2 q2
/- xs.append(e),list.index on a eo8 tuple .. are BR facts of 06m -/
end
end L2
namespace L2
open PySem PySem.Spec PyProof.Rows
def MtM(X:Cx)(id:String)(r:V->List V->Hp->VK->Prop):Prop :=
 ∀(pins:List (Addr × Obj)) (s:Shared) (σ:St) (H:Hp) (x:V) (xs:List V) (v:Value) (us:List Value) (Q:VK),Inv X pins σ H s->RelV x v->Vals xs us->r x xs H Q ->
  wpAny (model X.prog X.w) X.A (call (.builtin id) (v::us)) (EP X pins σ Q) X.xe s
theorem Vals.one:∀{x:V} {us:List Value},Vals [x] us->∃u,us=[u]/\RelV x u
 | _,_,h=>by cases h with | cons r h=>cases h;exact⟨_,rfl,r⟩
theorem Vals.two:∀{x y:V} {us:List Value},Vals [x,y] us->∃u v,us=[u,v]/\RelV x u/\RelV y v
 | _,_,_,h=>by cases h with | cons r h=>cases h with | cons q h=>cases h;exact⟨_,_,rfl,r,q⟩
theorem Vals.rep{xs:List V}{us:List Value}(h:Vals xs us):∀k:Nat,Vals (aU k xs).flatten (aU k us).flatten
 | 0=>.nil
 | k+1=>by
  rw[qL,qL,ua,ua]
  exact Vals.append h (Vals.rep h k)
theorem OA(its:List Value):∀(k:Nat) (acc:List Value),
  List.foldl (λx1 x2=>x1++x2) acc.toArray (aU k its.toArray)=(acc++(aU k its).flatten).toArray
 | 0,acc=>by simp
 | k+1,acc=>by
  have e:acc.toArray++its.toArray=(acc++its).toArray:=by simp
  have e2:(acc++its)++(aU k its).flatten=acc++(aU (k+1) its).flatten:=by
   rw[qL,ua,eE]
  rw[<-e2,<- OA its k (acc++its),<- e,qL,ub]
section
variable{X:Cx}{pins:List (Addr × Obj)}{σ:St}{H:Hp}{s:Shared}{l b:Addr}{xs ys zs:List V}
theorem Inv.cZ3{its its':List Value}{n:Nat}{f:Array Value->Array Value}{t':Nat}(I:Inv X pins σ H s)(hH:H l=some (.lst xs))
  (e:s.heap.get? l=some { cls:=.type "list",data:=.seq its.toArray n }) (hf:f its.toArray=its'.toArray) (hv:Vals ys its') (hz:ys.length<=sizeLine) :
  Inv X pins σ (upd H l (.lst ys)) { s with heap:=s.heap.update l (AX f),toks:=t' }:=by
 have q:=PySem.IsL.update e f
 rw[hf]at q
 refine I.write (x:=l) (e:=l) (by rw[hH];exact trivial) (.inl rfl) (λb' u hb hu=>(qK s.heap (AX f) (fF hb)).trans hu) ⟨_,q⟩ ?_
 exact⟨hz,its',_,hv,q⟩
theorem Inv.OB{its:List Value}{t':Nat}(I:Inv X pins σ H s)(hv:Vals ys its)(hz:ys.length<=sizeLine) :
  Inv X pins σ (upd H s.heap.objs.size (.lst ys)) { s with heap:=s.heap.push { cls:=.type "list",data:=.seq its.toArray },toks:=t' } :=
 I.laid (λ_ _ q=>fU _ q) (bM _) ⟨hz,its,0,hv,g8 _ rfl⟩
theorem Inv.fresh(I:Inv X pins σ H s):H s.heap.objs.size=none:=I.aH.fresh (bM _)
theorem Inv.BU(I:Inv X pins σ H s)(hH:H l=some (.lst xs)):xs.length<=sizeLine/\∃(its:List Value) (n:Nat),Vals xs its/\xs.length=its.length/\s.heap.get? l=some { cls:=.type "list",data:=.seq its.toArray n }:=by
 obtain⟨z,its,n,r,e⟩:=I.aH l _ hH
 exact⟨z,its,n,r,r.length,e⟩
theorem cb6{n:Nat}(h:n<=sizeLine):Nc n=false:=by
 unfold Nc
 exact decide_eq_false (by omega)
end
section
variable{X:Cx}
def cs9:V->List V->Hp->VK->Prop:=λx vs H Q=>∃l xs y,x=.ref l/\vs=[y]/\H l=some (.lst xs)/\xs.length<sizeLine/\Q .au (upd H l (.lst (xs++[y])))
theorem OC:MtM X "list.append" cs9:=by
 intro pins s σ H x vs v us Q I rx rv h
 obtain⟨l,xs,y,rfl,rfl,hH,hz,q⟩:=h
 cases rx
 obtain⟨u,rfl,ru⟩:=rv.one
 obtain⟨z,its,n,r,hl,e⟩:=I.BU hH
 refine call_meets F.slot_list_append ⟨_,e,rfl⟩ F.entry_list_append (F.args_list_append_2 _ _) (PySem.list_append l its.toArray n u (by rw[eD];omega)) ⟨e,?_⟩
 refine⟨.au,_,I.cZ3 (its':=its++[u]) hH e (by simp) (r.append (.cons ru .nil)) ?_,rfl,q⟩
 rw[dF,mi]
 omega
def cQ9:R2:=λx y H Q=>∃l b xs zs,x=.ref l/\y=.ref b/\H l=some (.lst xs)/\H b=some (.lst zs)/\xs.length+zs.length<=sizeLine/\∀p,H p=none->Q (.ref p) (upd H p (.lst (xs++zs)))
theorem OD:cQ X (binaryOp .Add) cQ9:=by
 intro pins s σ H x y v u Q I rx ry h
 obtain⟨l,b,xs,zs,rfl,rfl,hH,hB,hz,q⟩:=h
 cases rx
 cases ry
 obtain⟨z,its,n,r,hl,e⟩:=I.BU hH
 obtain⟨z2,OE,n2,r2,BV,e2⟩:=I.BU hB
 refine PySem.P.add_list e e2 ?_ (by rw[eD,eD];omega)
 have ea:its.toArray++OE.toArray=(its++OE).toArray:=by simp
 rw[ea]
 exact⟨.ref _,_,I.OB (t':=s.toks) (r.append r2) (by rw[dF];omega),rfl,q _ I.fresh⟩
def cS2:R2:=λx y H Q=>∃l k xs,x=.ref l/\y=.int k/\H l=some (.lst xs)/\-(2 ^ 63)<=k/\k<2 ^ 63/\xs.length*k.toNat<=sizeLine /\
 ∀p,H p=none->Q (.ref p) (upd H p (.lst (aU k.toNat xs).flatten))
theorem cs1{α:Type}(xs:List α)(k:Nat):(aU k xs).flatten.length=k*xs.length:=by
 induction k with
 | zero=>simp
 | succ k ih=>rw[qL,ua,dF,ih,Nat.succ_mul,Nd]
theorem cF3:cQ X (binaryOp .Mult) cS2:=by
 intro pins s σ H x y v u Q I rx ry h
 obtain⟨l,k,xs,rfl,rfl,hH,h1,h2,hz,q⟩:=h
 cases rx
 obtain⟨t,rfl⟩:=ry
 obtain⟨z,its,n,r,hl,e⟩:=I.BU hH
 have hlen:its.toArray.size*k.toNat<=sizeLine:=by rw[eD,<- hl];exact hz
 have c00:¬ its.toArray.size*k.toNat>(2 ^ 63-1)/8:=by
  have:(sizeLine:Nat)<=(2 ^ 63-1)/8:=by decide
  omega
 have c01:¬ (!Builtin.List.listFitsIndex k)=true:=by
  rw[fitsIndex_both h1 h2]
  exact iW
 have c02:¬ Nc (its.toArray.size*k.toNat)=true:=by
  rw[cb6 hlen]
  exact iW
 have c03:List.foldl (λx1 x2=>x1++x2) #[] (aU (if its.toArray.isEmpty=true then 0 else k.toNat) its.toArray)=(aU k.toNat its).flatten.toArray:=by
  have f0:∀m:Nat,List.foldl (λx1 x2=>x1++x2) #[] (aU m its.toArray)=(aU m its).flatten.toArray:=λm=>by
   have:=OA its m []
   rw[ud]at this
   exact this
  rw[f0]
  cases its with
  | nil=>simp
  | cons a r'=>rw[if_neg (by simp)]
 refine wpAny_binaryOp_repeat_ref (T:="list") (U:="int") (by decide) ⟨_,e,rfl⟩ (λs'=>typeIs_int s' k t) noFill_list_mul F.fills_int_mul F.slot_int_rmul repeat_list F.slot_int_index.lookup
  (call_meets F.slot_int_rmul (typeIs_int s k t) F.entry_int_rmul (F.args_int_rmul_2 _ _) (int___rmul___int_list k t l its.toArray n)
   ⟨e,rfl,⟨_,e,rfl⟩,call_meets F.slot_list_mul ⟨_,e,rfl⟩ F.entry_list_mul (F.args_list_mul_2 _ _) (AutoListH.list___mul___list_int_3 l its.toArray n k t c01 c00 c02) ⟨e,?_⟩⟩)
 rw[c03]
 exact⟨.ref _,_,I.OB (t':=s.toks) (r.rep k.toNat) (by rw[cs1,m6];exact hz),rfl,q _ I.fresh⟩
end
section
variable{prog:Program}{w:World}{A:Around}{E:Value->Shared->Prop}{s:Shared}
end
section
variable{X:Cx}
end
end L2
namespace Att
open PySem PySem.W PySem.Calls PyProof.Rows
theorem bv1{P:Params}{h:Heap}:∀(ns:List Int) (vs:List Value),WellAll P h vs (ns.map WData.int)->IntsAre vs ns:=by
 intro ns
 induction ns with
 | nil =>
  intro vs w
  rw[km]at w
  cases w
  exact .nil
 | cons n ns ih =>
  intro vs w
  rw[dy]at w
  cases w with
  | cons a b =>
   cases a
   exact .cons _ _ (ih _ b)
theorem b18{l:OpenLaw}{n:Nat}(hn:l.most=some n){P:Params}{h:Heap}{args:List WData}{vals:List Value}
  (BW:l.row.toRowW.claim.pre args=true) (Gi:WellAll P h vals args) :
  ∃a vs ns,vals=[cB a]/\args=[WData.list (ns.map WData.int)]/\h.get? a=some { cls:=.type "list",data:=.seq vs.toArray }/\IntsAre vs ns/\ns.length<=n:=by
 have ye:WShape.hasAll [] args [.list .int]=true:=(pre_splitW BW).1
 have hc:l.pre.holds [] { args:=args }=true:=(pre_splitW BW).2
 obtain⟨d,r,rfl,h1,h2⟩:=hasAllW_cons ye
 obtain rfl:=hasAllW_nil h2
 obtain⟨xs,rfl,h3⟩:=hasW_list h1
 obtain⟨ns,rfl⟩:=items_int h3
 have hlen:ns.length<=n:=by
  unfold OpenLaw.pre at hc
  have h4:(WTm.not (.lt (.lit (.int (n:Int))) (.len (.arg 0)))).holds [] { args:=[.list (ns.map .int)] }=true:=by
   have h4:=(holds_andW hc).1
   rw[hn]at h4
   exact h4
  have h5:=condW_of h4 (w_not (w_lt w_lit (w_len_list (w_arg rfl))))
  rw[br]at h5
  refine Nf λq=>?_
  have q':(n:Int)<((ns.length:Nat):Int):=by omega
  first
   | (rw[decide_eq_true q']at h5;exact absurd h5 (by decide))
   | (simp at h5;omega)
 cases Gi with
 | cons w1 w2 =>
  cases w2
  cases w1 with
  | list ho c06=>exact⟨_,_,ns,rfl,rfl,ho,bv1 ns _ c06,hlen⟩
theorem b93(l:OpenLaw)(args:List WData):l.row.toRowW.claim.post args (.bool true) args=true :=
 postW_of (r:=l.row.toRowW) (X:=(true==true))
  (show WShape.has [] (.bool true) .bool=true by first | rfl | decide | simp[WShape.has,WShape.arms,WShape.armsAll])
  (show(WTm.eq .res (.lit (.bool true))).value [] { args:=args,res:=some (.bool true),after:=args }=some (.bool (true==true)) from w_eq_bool (w_res rfl) w_lit) rfl
theorem c08{l:OpenLaw}{n:Nat}{q:Program}{loose:List Str}{XP:(Str->Option Value)->Heap->Prop}{YP:World->Heap->Prop}{d:DefRec}
  (hn:l.most=some n) (yf:d.params.defaults=[])
  (call:∀(w:World) (cN bE:Shared) (mg mb:Str->Option Value) (fa:Addr) (o:Obj) (pm cd doc:Value) (a:Addr) (vs:List Value) (ns:List Int),
   Ground q loose [] XP w cN mg mb bE.heap->YP w bE.heap ->
   bE.heap.get? fa=some o->o.data=.func (docDef d.name d.params d.body d.scope pm cd doc)->bE.heap.CodeRec cd d.name->mg d.name=some (.ref fa) ->
   bE.heap.get? a=some { cls:=.type "list",data:=.seq vs.toArray }->IntsAre vs ns->ns.length<=n->bE.gens=#[] ->
   codeAny (model l.prog w) callerA (.call (.ref fa) ⟨[.ref a],[]⟩) (λr s'=>r=.ok (.ret (.bool true))/\OldK bE.heap s'.heap/\s'.os=bE.os/\AllBare s'.gens) bE) :
  WalkO q loose XP YP l.row.toRowW d [] (λf vs=>PySem.call f vs):=by
 intro w cN bE mg mb G Y fa o pm cd doc dV kV ho hd da hD yg hg args vals as BW eo9 hrd Gi fk
 obtain rfl:dV=.none:=Dflts.none hD yf
 obtain rfl:kV=.none:=Dflts.noKw hD
 obtain⟨a,vs,ns,rfl,rfl,Gj,hints,hlen⟩:=b18 hn BW Gi
 refine enter_call (codeAny_mono (call w cN bE mg mb fa o pm cd doc a vs ns G Y ho (fd_plain hd) da yg Gj hints hlen hg) λr s' hq=>?_)
 obtain⟨rfl,h2,h3,h4⟩:=hq
 exact⟨.inl ⟨.bool true,.bool true,[],rfl,λ_=>rfl,.bool true,b93 l _,λ_=>⟨Ng,λ_ hm=>(nomatch hm)⟩⟩,h2,h3,h4⟩
section
variable{prog:Program}{w:World}{A:Around}{E:Value->Shared->Prop}{s:Shared}{K:Frag}
end
end Att
namespace L2
open PySem PySem.Spec PyProof.Rows
theorem OF:∀{vs:List Value} {ns:List Int},IntsAre vs ns->Vals (ns.map V.int) vs
 | _,_,.nil=>.nil
 | _,_,.cons n t h=>.cons ⟨t,rfl⟩ (OF h)
end L2
namespace L2
open PySem PySem.Spec PyProof.Rows
end L2
/- THE ep2 ep3 (shape;LID,My.* are ep5):
   My.dY: a structure of OG addresses ep6 ep7 ep8 names (classes,ep9);My.Txt K t: a structure (Prop) of OG equations over K;
   My.eq0:{K} {implicit addresses ..} (e1:nsIn K mainGlobals "law"=some (some (.ref f))) (e2:K.lookup f=some ⟨oc,od,.func (fnOf "law" "law" params body scope dV kV doc pm an aC ct),sl⟩) (e3:codeIn K aC "law"=true) ..:∃t,My.Txt K t
(OG tactic k_is has no namespace: write k_is) -/
namespace L2
open PySem PySem.Spec PyProof.Rows
def dZ(s:Stmt)(j:Nat):Stmt:=match s with
 | .ClassDef _ _ _ body _ _ _ _ _ _ _=>body.getD j (.Pass ⟨0,0,0,0⟩)
 | _=>.Pass ⟨0,0,0,0⟩
def iC(s:Stmt):Arguments:=match s with
 | .FunctionDef _ a _ _ _ _ _ _ _ _=>a
 | _=>{ posonlyargs:=[],args:=[],vararg:=none,kwonlyargs:=[],kw_defaults:=[],kwarg:=none,defaults:=[] }
def fQ(s:Stmt):List Stmt:=match s with
 | .FunctionDef _ _ b _ _ _ _ _ _ _=>b
 | _=>[]
def aK(s:Stmt):Scope:=match s with
 | .FunctionDef _ _ _ _ _ _ sc _ _ _=>sc
 | _=>{ kind:=.function,names:=[],isGenerator:=false,isCoroutine:=false }
abbrev aO:eU:=λ_ _ _ _ _ _=>False
abbrev E0:XK:=λ_ _ _=>False
theorem b8{X:Cx}:jT aO X E0:=λ_ _ _ _ _ _ _ h=>h.elim
structure aY(K:PySem.W.Frag)(x qual:Str)(st:Stmt)(f:Addr)(fd:FuncData):Prop where
 ex:∃(oc:Value) (od:Option Addr) (kV doc pm:Value) (an:Option Addr) (aC ct:Value) (iz:Array (Option Value)),
  fd=PySem.W.fnOf x qual (iC st) (fQ st) (aK st) .none kV doc pm an aC ct/\K.lookup f=some ⟨oc,od,.func fd,iz⟩/\PySem.W.codeIn K aC qual=true
 kp:PySem.W.keepIn K (.ref f)=true
section
variable{P:Program}{w:World}{K:PySem.W.Frag}{mg:Str->Option Value}{base:Heap}
theorem aY.ok{x qual:Str}{st:Stmt}{f:Addr}{fd:FuncData}{N ps:List Str}{k:Nat}{sp:Sp}(F:aY K x qual st f fd)(S:aX N ps (aK st))(len:∀vs H Q E,sp vs H Q E->vs.length=ps.length)
  (hW:∀(aC:Value) (A:Around) (outer:List Env) (s:Shared) (H:Hp) (vs:List V) (Q:VK) (E:XK),bS k (A.deeper (envOfC qual (aK st) s.heap.objs.size f aC))->sp vs H Q E ->
   ∃t,PSs (i5 aO P w K mg base N qual (aK st) f aC A outer s H E).gy (fQ st) t/\t { nx:=λ_ H'=>Q .au H',rt:=Q } (start N vs) H):aI P w K mg base aO (k+1) f fd ps sp:=by
 obtain⟨oc,od,kV,doc,pm,an,aC,ct,iz,rfl,lk,da⟩:=F.ex
 refine BQ lk da S len λA outer s H vs Q E hr iA=>?_
 obtain⟨t,h,q⟩:=hW aC A outer s H vs Q E hr iA
 exact⟨t,h.gy,q⟩
theorem aY.binds{x qual:Str}{st:Stmt}{f:Addr}{fd:FuncData}{ps:List Str}(F:aY K x qual st f fd)
  (h:∀(kV doc pm:Value) (an:Option Addr) (aC ct:Value) (us:List Value),us.length=ps.length->bindArgs (PySem.W.fnOf x qual (iC st) (fQ st) (aK st) .none kV doc pm an aC ct) ⟨us,[]⟩=pure (ps.zip us)):Binds K fd ps []:=by
 obtain⟨oc,od,kV,doc,pm,an,aC,ct,iz,rfl,lk,da⟩:=F.ex
 exact .all (h kV doc pm an aC ct)
theorem BX{x qual:Str}{st:Stmt}{f:Addr}{oc:Value}{od an:Option Addr}{iz:Array (Option Value)}{kV doc pm aC ct:Value}(l:K.lookup f=some ⟨oc,od,.func (PySem.W.fnOf x qual (iC st) (fQ st) (aK st) .none kV doc pm an aC ct),iz⟩)
  (c:PySem.W.codeIn K aC qual=true) (k:PySem.W.keepIn K (.ref f)=true):aY K x qual st f (PySem.W.fnOf x qual (iC st) (fQ st) (aK st) .none kV doc pm an aC ct):=⟨⟨oc,od,kV,doc,pm,an,aC,ct,iz,rfl,l,c⟩,k⟩
end
section
variable{X:Cx}
theorem pv(i:Nat){x:Str}{pos:Pos}(hN:X.N[i]?=some x:=by rfl)(hv:nk X.env.scope x:=by first | exact ax rfl | exact b9 (ax rfl) | exact b9 (b9 rfl))(hd:(x==("__debug__":Str))=false:=by decide)
  (da:(x==("__classdict__":Str))=false:=by decide):PE X (.Name x pos) (NW i):=uB hN hv hd da
end
theorem iD{A B:Prop}(h:B):if false=true then A else B:=by
 rw[if_neg iW]
 exact h
theorem nF{A B:Prop}(h:A):if true=true then A else B:=by
 rw[if_pos rfl]
 exact h
end L2
namespace Mf
def bl(n:Nat):Nat:=if n=0 then 0 else n.log2+1
theorem fv{n m:Nat}:bl n<=m↔n<2 ^ m:=by
 unfold bl
 by_cases h:n=0
 ·simp[h,xD]
 ·rw[if_neg h]
  rw[<-E3 h]
  omega
theorem Gk{n m:Nat}:m<bl n↔2 ^ m<=n:=by
 have:=@fv n m
 omega
theorem jq(n:Nat):n<2 ^ bl n:=fv.mp (bM _)
theorem OH{n:Nat}(h:n≠0):2 ^ (bl n-1)<=n:=by
 have:0<bl n:=by unfold bl;rw[if_neg h];omega
 exact Gk.mp (by omega)
theorem iE{n:Nat}(h:n≠0):0<bl n:=by
 unfold bl;rw[if_neg h];omega
theorem nG:bl 0=0:=rfl
theorem uH{n:Nat}(h:n≠0):n.testBit (bl n-1)=true:=by
 have h1:=OH h
 have h2:=jq n
 have hp:=iE h
 have e:bl n=(bl n-1)+1:=by omega
 rw[e,oO]at h2
 rw[YA]
 have:n/2 ^ (bl n-1)=1:=by
  apply Nat.div_eq_of_lt_le
  ·omega
  ·omega
 rw[this];rfl
theorem bU8{x n:Nat}(h:∀i,n<=i->x.testBit i=false):x<2 ^ n:=by
 apply Nat.lt_pow_two_of_testBit
 intro i hi
 exact h i hi
theorem OI{x y n:Nat}(hx:x<2 ^ (n+1))(hy:y<2 ^ (n+1))(tx:x.testBit n=true)(ty:y.testBit n=true):x ^^^ y<2 ^ n:=by
 apply bU8
 intro i hi
 rw[m8]
 by_cases e:i=n
 ·rw[e,tx,ty];rfl
 ·have gO:n+1<=i:=by omega
  have p:2 ^ (n+1)<=2 ^ i:=xE (by decide) gO
  rw[E4 (cW hx p),E4 (cW hy p)]
  rfl
theorem OJ(x y z:Nat):(x ^^^ y) ^^^ (z ^^^ y)=x ^^^ z:=by
 apply AY;intro i;simp only[m8]
 cases x.testBit i<;>cases y.testBit i<;>cases z.testBit i<;>rfl
theorem OK(x y z t:Nat):(x ^^^ y) ^^^ (z ^^^ t)=(x ^^^ z) ^^^ (y ^^^ t):=by
 apply AY;intro i;simp only[m8]
 cases x.testBit i<;>cases y.testBit i<;>cases z.testBit i<;>cases t.testBit i<;>rfl
def P(a b:Nat):Nat->Nat
 | 0=>0
 | k+1=>P a b k ^^^ (if b.testBit k then a <<< k else 0)
def cl(a b:Nat):Nat:=P a b (bl b)
theorem OL{a b k:Nat}(h:b<2 ^ k):∀j,P a b (k+j)=P a b k
 | 0=>rfl
 | j+1=>by
  show P a b (k+j) ^^^ (if b.testBit (k+j)then a <<< (k+j)else 0)=_
  rw[OL h j]
  have p:2 ^ k<=2 ^ (k+j):=xE (by decide) (by omega)
  rw[E4 (cW h p)]
  simp
theorem uI{a b k:Nat}(h:b<2 ^ k):P a b k=cl a b:=by
 have h1:=fv.mpr h
 have e:k=bl b+(k-bl b):=by omega
 rw[e,OL (jq b)]
 rfl
theorem OM(a a' b:Nat):∀k,P (a ^^^ a') b k=P a b k ^^^ P a' b k
 | 0=>(mj 0).symm
 | k+1=>by
  show P (a ^^^ a') b k ^^^ _=(P a b k ^^^ _) ^^^ (P a' b k ^^^ _)
  rw[OM a a' b k]
  by_cases t:b.testBit k=true
  ·rw[if_pos t,if_pos t,if_pos t,YB]
   ac_rfl
  ·rw[if_neg t,if_neg t,if_neg t]
   simp
theorem ON(a b b':Nat):∀k,P a (b ^^^ b') k=P a b k ^^^ P a b' k
 | 0=>(mj 0).symm
 | k+1=>by
  show P a (b ^^^ b') k ^^^ _=(P a b k ^^^ _) ^^^ (P a b' k ^^^ _)
  rw[ON a b b' k,m8]
  cases b.testBit k<;>cases b'.testBit k<;>simp
  ·ac_rfl
  ·ac_rfl
  ·exact(OJ _ _ _).symm
theorem pq(a a' b:Nat):cl (a ^^^ a') b=cl a b ^^^ cl a' b:=OM a a' b _
theorem uJ{x y n:Nat}(hx:x<2 ^ n)(hy:y<2 ^ n):x ^^^ y<2 ^ n:=Nat.xor_lt_two_pow hx hy
theorem bG7(a b b':Nat):cl a (b ^^^ b')=cl a b ^^^ cl a b':=by
 let k:=bl b+bl b'
 have h1:b<2 ^ k:=fv.mp (by omega)
 have h2:b'<2 ^ k:=fv.mp (by omega)
 rw[<-uI (uJ h1 h2),<- uI h1,<- uI h2,ON]
theorem ct9(a:Nat):cl a 0=0:=rfl
theorem OO(b:Nat):∀k,P 0 b k=0
 | 0=>rfl
 | k+1=>by
  show P 0 b k ^^^ _=0
  rw[OO b k];simp
theorem pz(b:Nat):cl 0 b=0:=OO b _
theorem bH8(b k:Nat):(b/2).testBit k=b.testBit (k+1):=by
 rw[E5]
theorem OP(a b:Nat):∀k,P a b (k+1)=(if b%2=1 then a else 0) ^^^ P (2*a) (b/2) k
 | 0=>by
  show 0 ^^^ _=_ ^^^ 0
  rw[oQ,mj,AZ]
  simp
 | k+1=>by
  show P a b (k+1) ^^^ _=_ ^^^ (P (2*a) (b/2) k ^^^ _)
  rw[OP a b k,bH8,qM]
  have e:a <<< (k+1)=(2*a) <<< k:=by
   rw[kP,kP,oO]
   rw[m6 2 a,ue,m6 2]
  rw[e]
theorem OQ{b k:Nat}(h:b<2 ^ (k+1)):b/2<2 ^ k:=by
 rw[oO]at h;omega
theorem OR(a b:Nat):cl a b=(if b%2=1 then a else 0) ^^^ cl (2*a) (b/2):=by
 have h:b<2 ^ (bl b+1):=Nat.lt_trans (jq b) (by rw[oO];have:=xD (bl b);omega)
 rw[<-uI h,OP,uI (OQ h)]
theorem OS(a b:Nat):∀k,P (2*a) b k=2*P a b k
 | 0=>rfl
 | k+1=>by
  show P (2*a) b k ^^^ _=2*(P a b k ^^^ _)
  rw[OS a b k]
  have d:∀x y:Nat,2*(x ^^^ y)=2*x ^^^ 2*y:=by
   intro x y
   have h:=@YB 1 x y
   rw[kP,kP,kP,Nat.pow_one]at h
   rw[m6 2 (x ^^^ y),m6 2 x,m6 2 y]
   exact h
  rw[d]
  by_cases t:b.testBit k=true
  ·rw[if_pos t,if_pos t,kP,kP,ue]
  ·rw[if_neg t,if_neg t]
theorem Gm(a b:Nat):cl (2*a) b=2*cl a b:=OS a b _
theorem yh(a c t:Nat)(ht:t<2):cl a (2*c+t)=2*cl a c ^^^ (if t=1 then a else 0):=by
 rw[OR,Gm,Nh]
 have e1:(2*c+t)/2=c:=by omega
 have e2:(2*c+t)%2=t:=by omega
 rw[e1,e2]
theorem cI5(a c:Nat):cl a (2*c)=2*cl a c:=by
 have h:=yh a c 0 (by decide)
 simpa using h
theorem OT(c t:Nat)(ht:t<2):2*c ^^^ t=2*c+t:=by
 apply AY
 intro i
 cases i with
 | zero =>
  rw[m8,AZ,AZ,AZ]
  have:t=0\/t=1:=by omega
  rcases this with h | h<;>subst h<;>simp<;>omega
 | succ i =>
  rw[m8,E5,E5,E5]
  have e1:2*c/2=c:=by omega
  have e2:t/2=0:=by omega
  have e3:(2*c+t)/2=c:=by omega
  rw[e1,e2,e3];simp
theorem Gp:∀b:Nat,cl 1 b=b:=by
 intro b
 induction b using E6 with
 | ind b ih =>
  by_cases h:b=0
  ·subst h;rfl
  ·have e:b=2*(b/2)+b%2:=by omega
   rw[e,yh 1 (b/2) (b%2) (by omega),ih (b/2) (by omega)]
   have:b%2=0\/b%2=1:=by omega
   rcases this with h | h
   ·rw[h];simp
   ·rw[h];rw[if_pos rfl];exact OT _ _ (by decide)
theorem yi:∀b a:Nat,cl a b=cl b a:=by
 intro b
 induction b using E6 with
 | ind b ih =>
  intro a
  by_cases h:b=0
  ·subst h;rw[pz];rfl
  ·have e:b=2*(b/2)+b%2:=by omega
   have lt:b%2<2:=by omega
   have e':cl b a=cl (2*(b/2) ^^^ b%2) a:=by rw[OT _ _ lt,<- e]
   rw[e',pq,Gm,<- ih (b/2) (by omega) a]
   have e'':cl a b=cl a (2*(b/2)+b%2):=by rw[<-e]
   rw[e'',yh _ _ _ lt]
   have:b%2=0\/b%2=1:=by omega
   rcases this with h | h
   ·rw[h,pz];rfl
   ·rw[h,Gp];rfl
theorem Gq{a m:Nat}(h:a<2 ^ m)(b:Nat):∀k,P a b (k+1)<2 ^ (m+k)
 | 0=>by
  show 0 ^^^ _<_
  rw[oQ,Nat.add_zero]
  by_cases t:b.testBit 0=true
  ·rw[if_pos t];simpa using h
  ·rw[if_neg t];exact xD m
 | k+1=>by
  show P a b (k+1) ^^^ _<_
  have i:=Gq h b k
  have p:2 ^ (m+k)<=2 ^ (m+(k+1)):=xE (by decide) (by omega)
  apply uJ (cW i p)
  by_cases t:b.testBit (k+1)=true
  ·rw[if_pos t,kP,Nat.pow_add 2 m]
   exact(YC (xD _)).mpr h
  ·rw[if_neg t];exact xD _
theorem cO9{a b m n:Nat}(h:a<2 ^ m)(h':b<2 ^ (n+1)):cl a b<2 ^ (m+n):=by
 rw[<-uI h'];exact Gq h b n
theorem cM4{a b:Nat}(ha:a≠0)(hb:b≠0):2 ^ (bl a-1+(bl b-1))<=cl a b:=by
 have e:bl b=(bl b-1)+1:=by have:=iE hb;omega
 have ta:=uH ha
 have tb:=uH hb
 apply Nat.ge_two_pow_of_testBit
 unfold cl
 rw[e]
 show(P a b (bl b-1) ^^^ _).testBit _=true
 have e2:bl b-1+1-1=bl b-1:=by omega
 rw[e2,m8,if_pos tb]
 have f:(P a b (bl b-1)).testBit (bl a-1+(bl b-1))=false:=by
  cases q:bl b-1 with
  | zero=>show Nat.testBit 0 _=false;exact Nat.zero_testBit _
  | succ k =>
   apply E4
   have l:=Gq (jq a) b k
   have p:=iE ha
   have e3:bl a-1+(k+1)=bl a+k:=by omega
   rw[e3];exact l
 rw[f,YD]
 have e4:bl a-1+(bl b-1)-(bl b-1)=bl a-1:=by omega
 rw[e4,ta]
 simp
theorem OU{a b:Nat}(ha:a≠0)(hb:b≠0):bl (cl a b)=bl a+bl b-1:=by
 have p1:=iE ha
 have p2:=iE hb
 have h1:bl (cl a b)<=bl a+(bl b-1):=fv.mpr (cO9 (jq a) (by
  have e:bl b-1+1=bl b:=by omega
  rw[e];exact jq b))
 have h2:=Gk.mpr (cM4 ha hb)
 omega
theorem OV(s b:Nat):cl (2 ^ s) b=b <<< s:=by
 induction s with
 | zero=>rw[Nat.pow_zero,Gp];rfl
 | succ s ih =>
  rw[oO,m6,Gm,ih,kP,kP,oO]
  rw[<-ue,m6 2,ue,m6 2,<- ue,ue]
theorem cc0{a q b r s:Nat}(h:a=cl q b ^^^ r):a=cl (q ^^^ 2 ^ s) b ^^^ (r ^^^ b <<< s):=by
 rw[pq,OV,h,OJ]
theorem OW{b r:Nat}(hb:b≠0)(h:bl b<=bl r):bl (r ^^^ b <<< (bl r-bl b))<bl r:=by
 have p:=iE hb
 have hr:r≠0:=by
  intro z;rw[z,nG]at h;omega
 have:r ^^^ b <<< (bl r-bl b)<2 ^ (bl r-1):=by
  apply OI
  ·have e:bl r-1+1=bl r:=by omega
   rw[e];exact jq r
  ·have e:bl r-1+1=bl b+(bl r-bl b):=by omega
   rw[e,kP,Nat.pow_add]
   exact(YC (xD _)).mpr (jq b)
  ·exact uH hr
  ·rw[YD]
   have e:bl r-1-(bl r-bl b)=bl b-1:=by omega
   rw[e,uH hb]
   simp;omega
 have:=fv.mpr this
 omega
theorem bV5{x y z:Nat}(h:x ^^^ y=z):x=z ^^^ y:=by
 rw[<-h,qM,A6,mj]
theorem Gr{x y:Nat}(h:x ^^^ y=0):x=y:=by
 have:=bV5 h
 rwa [oQ]at this
theorem bV0{b q r q' r':Nat}(h:cl q b ^^^ r=cl q' b ^^^ r')(hr:bl r<bl b)(bj:bl r'<bl b):q=q'/\r=r':=by
 have hb:b≠0:=by intro z;rw[z,nG]at hr;omega
 have e:cl (q ^^^ q') b=r ^^^ r':=by
  rw[pq]
  have z:(cl q b ^^^ r) ^^^ (cl q' b ^^^ r')=0:=by rw[h,A6]
  rw[OK]at z
  exact Gr z
 have lt:bl (r ^^^ r')<bl b:=by
  have h1:r<2 ^ (bl b-1):=fv.mp (by omega)
  have h2:r'<2 ^ (bl b-1):=fv.mp (by omega)
  have:=fv.mpr (uJ h1 h2)
  have:=iE hb
  omega
 have z:q ^^^ q'=0:=by
  apply E7
  intro hq
  have h1:=OU hq hb
  have h2:=iE hq
  rw[e]at h1
  omega
 have zq:=Gr z
 subst zq
 rw[z,pz]at e
 exact⟨rfl,Gr e.symm⟩
end Mf
namespace Mf
open PySem PySem.Builtin.Int
theorem cp9(x y:Nat):(x ^^^ y)+2*(x &&& y)=x+y:=by
 induction x using E6 generalizing y with
 | ind x ih =>
  by_cases h:x=0
  ·subst h;simp
  ·have h1:=ih (x/2) (by omega) (y/2)
   have e1:(x ^^^ y)/2=x/2 ^^^ y/2:=Nat.xor_div_two
   have e2:(x &&& y)/2=x/2 &&& y/2:=Nat.and_div_two
   have t:∀n:Nat,n%2=if n.testBit 0=true then 1 else 0:=by
    intro n
    rw[AZ]
    by_cases h:n%2=1
    ·simp[h]
    ·simp[h];omega
   have m1:(x ^^^ y)%2=(x%2+y%2)%2:=by
    rw[t (x ^^^ y),t x,t y,m8]
    cases x.testBit 0<;>cases y.testBit 0<;>rfl
   have m2:(x &&& y)%2=x%2*(y%2):=by
    rw[t (x &&& y),t x,t y,Ni]
    cases x.testBit 0<;>cases y.testBit 0<;>rfl
   have d1:=Nat.div_add_mod (x ^^^ y) 2
   have d2:=Nat.div_add_mod (x &&& y) 2
   rw[e1]at d1
   rw[e2]at d2
   have hx:x%2=0\/x%2=1:=by omega
   have hy:y%2=0\/y%2=1:=by omega
   rcases hx with hx | hx<;>rcases hy with hy | hy<;>rw[hx,hy]at m1 m2<;>omega
theorem OX{x y:Int}(hx:0<=x)(hy:0<=y):oK x y=((x.toNat &&& y.toNat:Nat):Int):=by
 unfold oK
 rw[decide_eq_true hx,decide_eq_true hy]
theorem cg6{x y:Int}(hx:0<=x)(hy:0<=y):Builtin.bitOr x y=((x.toNat ||| y.toNat:Nat):Int):=by
 unfold Builtin.bitOr oK Builtin.bitNot
 rw[decide_eq_false (by omega),decide_eq_false (by omega)]
 show-(-((((- (-x-1)-1).toNat ||| (-(-y-1)-1).toNat:Nat):Int))-1)-1=_
 have e1:(- (-x-1)-1).toNat=x.toNat:=by omega
 have e2:(- (-y-1)-1).toNat=y.toNat:=by omega
 rw[e1,e2]
 omega
theorem cG2(x y:Nat):(x ||| y)=(x ^^^ y)+(x &&& y):=by
 have d:(x ^^^ y) &&& (x &&& y)=0:=by
  apply AY;intro i
  simp only[m8,Ni,Nat.zero_testBit]
  cases x.testBit i<;>cases y.testBit i<;>rfl
 have e:(x ||| y)=(x ^^^ y) ^^^ (x &&& y):=by
  apply AY;intro i
  simp only[m8,Ni,Nat.testBit_or]
  cases x.testBit i<;>cases y.testBit i<;>rfl
 have h:=cp9 (x ^^^ y) (x &&& y)
 rw[d]at h
 rw[e];omega
theorem ca2{x y:Int}(hx:0<=x)(hy:0<=y):oM x y=((x.toNat ^^^ y.toNat:Nat):Int):=by
 unfold oM
 rw[cg6 hx hy,OX hx hy,cG2]
 omega
theorem nH(x y:Nat):oM (x:Int) (y:Int)=((x ^^^ y:Nat):Int):=by
 rw[ca2 (by omega) (by omega)];rfl
theorem OY(x y:Nat):oK (x:Int) (y:Int)=((x &&& y:Nat):Int):=by
 rw[OX (by omega) (by omega)];rfl
theorem uK(x k:Nat):(x:Int)*2 ^ ((k:Int)).toNat=((x <<< k:Nat):Int):=by
 rw[kP]
 simp
theorem co1(x k:Nat):(x:Int)/2 ^ ((k:Int)).toNat=((x >>> k:Nat):Int):=by
 rw[YE]
 simp
theorem cw0(x k:Nat):((x >>> k) &&& 1=1)↔x.testBit k=true:=by
 rw[YA,YE]
 have:(x/2 ^ k) &&& 1=(x/2 ^ k)%2:=Nat.and_two_pow_sub_one_eq_mod _ 1
 rw[this]
 simp
end Mf
namespace Mf
end Mf
namespace Mf
theorem OZ(a b:Nat):∀c,cl (cl a b) c=cl a (cl b c):=by
 intro c
 induction c using E6 with
 | ind c ih =>
  by_cases h:c=0
  ·subst h;rfl
  ·have e:c=2*(c/2)+c%2:=by omega
   have lt:c%2<2:=by omega
   have i:=ih (c/2) (by omega)
   rw[e,yh _ _ _ lt,yh _ _ _ lt,i,bG7,cI5]
   have:c%2=0\/c%2=1:=by omega
   rcases this with h | h
   ·rw[h];rfl
   ·rw[h];rfl
def uL:Nat->Nat->Nat->Nat
 | 0,a,_=>a
 | n+1,a,b=>if bl a<bl b then a else uL n (a ^^^ b <<< (bl a-bl b)) b
def md(a b:Nat):Nat:=uL (bl a+1) a b
theorem O0{b:Nat}(hb:b≠0):∀n a,bl a<n->(∃q,a=cl q b ^^^ uL n a b)/\bl (uL n a b)<bl b
 | 0,_,h=>absurd h (by omega)
 | n+1,a,h=>by
  unfold uL
  by_cases l:bl a<bl b
  ·rw[if_pos l]
   exact⟨⟨0,by rw[pz,oQ]⟩,l⟩
  ·rw[if_neg l]
   have less:=OW hb (show bl b<=bl a by omega)
   obtain⟨⟨q,e⟩,l2⟩:=O0 hb n (a ^^^ b <<< (bl a-bl b)) (by omega)
   refine⟨⟨q ^^^ 2 ^ (bl a-bl b),?_⟩,l2⟩
   rw[pq,OV]
   have e2:a=(a ^^^ b <<< (bl a-bl b)) ^^^ b <<< (bl a-bl b):=by rw[qM,A6,mj]
   rw[e]at e2
   refine e2.trans ?_
   generalize uL n _ b=r
   rw[qM,Nh r,<- qM]
theorem yj{b:Nat}(hb:b≠0)(a:Nat):(∃q,a=cl q b ^^^ md a b)/\bl (md a b)<bl b:=O0 hb _ a (by omega)
theorem yk{a b q r:Nat}(h:a=cl q b ^^^ r)(hr:bl r<bl b):md a b=r:=by
 have hb:b≠0:=by intro z;rw[z,nG]at hr;omega
 obtain⟨⟨q',e⟩,l⟩:=yj hb a
 exact(bV0 (e.symm.trans h) l hr).2
theorem cN6(q:Nat){b:Nat}(hb:b≠0):md (cl q b) b=0 :=
 yk (q:=q) (by rw[mj]) (by rw[nG];exact iE hb)
end Mf
namespace Mf
theorem cw3(y:Nat):bl (y/2)=bl y-1:=by
 by_cases h:y=0
 ·subst h;rfl
 ·have p:=iE h
  have h1:bl (y/2)<=bl y-1:=fv.mpr (OQ (by
   have e:bl y-1+1=bl y:=by omega
   rw[e];exact jq y))
  have h2:bl y<=bl (y/2)+1:=fv.mpr (by
   have:=jq (y/2)
   rw[oO];omega)
  omega
theorem cG3(x:Nat):bl (2*x)<=bl x+1:=fv.mpr (by
 have:=jq x
 rw[oO];omega)
theorem Gu{x y:Nat}(h:x<=y):bl x<=bl y:=fv.mpr (m9 h (jq y))
end Mf
namespace Mf
def al(a:Nat):Bool:=decide (2<=a)&&(aL (2 ^ ((bl a-1)/2+1)-2)).all λi=>md a (2+i) != 0
theorem ce1{a:Nat}(h:a<2):al a=false:=by
 unfold al;rw[decide_eq_false (by omega)];rfl
theorem cq9{a:Nat}(h:2<=a)(k:∀i,i<2 ^ ((bl a-1)/2+1)-2->md a (2+i)≠0):al a=true:=by
 unfold al
 rw[decide_eq_true h,kQ,dj]
 intro i hi
 have:=k i (di.mp hi)
 simpa using this
theorem cg7{a i:Nat}(k:i<2 ^ ((bl a-1)/2+1)-2)(z:md a (2+i)=0):al a=false:=by
 unfold al
 rw[Bool.and_eq_false_iff]
 right
 rw[List.all_eq_false]
 exact⟨i,di.mpr k,by simp[z]⟩
theorem cd3{a:Nat}(h:2<=a){b:Nat}(hb:b<2 ^ ((bl a-1)/2+1)):b<a/\2*bl b<=bl a+1:=by
 have h2:2<=bl a:=by
  have:=Gk.mpr (show 2 ^ 1<=a by omega)
  omega
 have l:=fv.mpr hb
 refine⟨cW hb (fO (xE (by decide) ?_) (OH (by omega))),by omega⟩
 omega
end Mf
namespace L2
open PySem PySem.Spec PyProof.Rows Mf
theorem gP:bootBuiltins "len"=some (.builtin "len"):=by decide +kernel
theorem Gv:bootBuiltins "isinstance"=some (.builtin "isinstance"):=by decide +kernel
theorem BY:bootBuiltins "min"=some (.builtin "min"):=by decide +kernel
theorem uM:bootBuiltins "all"=some (.builtin "all"):=by decide +kernel
theorem cH7:bootBuiltins "any"=some (.builtin "any"):=by decide +kernel
theorem cA3:bootBuiltins "sum"=some (.builtin "sum"):=by decide +kernel
theorem cH5:bootBuiltins "int"=some (.type "int"):=by decide +kernel
theorem O1:bootBuiltins "str"=some (.type "str"):=by decide +kernel
theorem cr5:bootBuiltins "bool"=some (.type "bool"):=by decide +kernel
theorem Gw:bootBuiltins "list"=some (.type "list"):=by decide +kernel
theorem bA9:bootBuiltins "ValueError"=some (.type "ValueError"):=by decide +kernel
section
variable{X:Cx}{a b o:Expr}{ta tb to:TE}{pos apos cE:Pos}
theorem by4(i:Int):Builtin.Int.intBits i=bl i.natAbs:=by
 unfold Builtin.Int.intBits bl
 by_cases h:i=0
 ·subst h;rfl
 ·have h':¬ i.natAbs=0:=by omega
  rw[if_neg h',if_neg (by simpa using h)]
def O2:V->List V->Hp->VK->Prop:=λx vs H Q=>∃i,x=.int i/\vs=[]/\Q (.int (bl i.natAbs:Nat)) H
theorem b08:BR X "int.bit_length" O2:=by
 intro pins s σ H x xs v us Q I rx rs h
 obtain⟨i,rfl,rfl,q⟩:=h
 obtain⟨t,rfl⟩:=rx
 cases rs
 refine call_int_bit_length ?_
 rw[by4]
 exact⟨.int _,H,I.tok _,⟨_,rfl⟩,q⟩
theorem Gx(ho:PE X o to)(nD:attributeBase o "bit_length" X.env (eval o X.env)=eval o X.env:=by rfl)(nE:(apos.endLine==cE.line)=true:=by rfl) :
  PE X (.Call (.Attribute o "bit_length" apos) [] [] cE) (Oz X.K "int" O2 to) :=
 cI4 PySem.F.plainAttrs_int PySem.F.slot_int_bit_length PySem.F.type_int_bit_length b08 ho nD nE
def O3(i j:Int):Prop:=0<=j/\((bl i.natAbs:Nat):Int)+j<=134217728
theorem O4:cQ X (binaryOp .LShift) (rI O3 λi j=>.int (i*2 ^ j.toNat)):=yb λi j _ _ _ _ _ hc q =>
 lshift_int hc.1 (by rw[by4];exact Int.le_trans hc.2 (by decide)) q
theorem O5{x:Str}{n:String}(hg:Gl X x)(hm:X.mg x=none)(hv:bootBuiltins x=some (.type n))(hn:x≠"__name__":=by decide)(hd:(x==("__debug__":Str))=false:=by decide):PE X (.Name x pos) (tC (.ty n)) :=
 Zi hg hm hv rfl hn hd
def cT8(K:PySem.W.Frag):List V->Hp->VK->Prop:=λxs H Q=>∃x n t b,xs=[x,.ty n]/\iy K H x t/\PySem.W.kitOne K t (.type n)=some b/\Q (.bl b) H
theorem bw1:gz X (.builtin "isinstance") (cT8 X.K):=by
 intro pins s σ H xs us Q I r h
 obtain⟨x,n,t,b,rfl,ty,e,q⟩:=h
 obtain⟨u,v,rfl,ru,rv⟩:=r.two
 cases(show v=Value.type n from rv)
 exact Oe I ru ty e λtk=>⟨.bl b,H,I.tok _,rfl,q⟩
end
theorem cs7(b i:Nat):decide (V.int (oK ((b:Int)/2 ^ ((0:Int)+(i:Int)).toNat) 1)=V.int 1)=b.testBit i:=by
 have e:((0:Int)+(i:Int)).toNat=((i:Int)).toNat:=by omega
 rw[e,co1,show(1:Int)=((1:Nat):Int) from rfl,OY,qN,decide_eq_true_iff,<- cw0]
 constructor
 ·intro h;injection h with h;omega
 ·intro h;rw[h]
theorem cb5{a b i:Nat}(h:b.testBit i=true):oM ((P a b i:Nat):Int) ((a:Int)*2 ^ ((0:Int)+(i:Int)).toNat)=((P a b (i+1):Nat):Int):=by
 have e:((0:Int)+(i:Int)).toNat=((i:Int)).toNat:=by omega
 rw[e,uK,nH]
 show _=((P a b i ^^^ (if b.testBit i then a <<< i else 0):Nat):Int)
 rw[if_pos h]
theorem bT3{a b i:Nat}(h:¬ b.testBit i=true):P a b (i+1)=P a b i:=by
 show P a b i ^^^ (if b.testBit i then a <<< i else 0)=_
 rw[if_neg h,mj]
theorem dI{i j:Int}:decide (V.int i=V.int j)=true↔i=j:=by
 rw[decide_eq_true_iff]
 exact⟨λh=>by injection h,λh=>by rw[h]⟩
end L2
namespace L2
open PySem PySem.Spec PyProof.Rows
section
variable{X:Cx}
end
end L2
namespace L2
open PySem PySem.Spec PyProof.Rows
def BZ(X:Cx)(scope:Scope)(N:List Str)(cl:List (Str × Addr))(C:Addr)(s:Shared)(H:Hp)(fp:List Addr):Cx where
 prog:=X.prog
 w:=X.w
 K:=X.K
 mg:=X.mg
 base:=X.base
 A:=X.A
 N:=N
 cN:=s
 jP:=H
 env:=compEnvC scope cl C X.env
 outer:=X.stack
 stack:=X.stack
 ex:=fp
 fn:=λ_=>false
 calm:=X.calm
 pn:=[]
 xe:=λ_ _=>False
def mC(X:Cx)(scope:Scope)(cl:List (Str × Addr)):List (Str × Nat)->Prop
 | []=>True
 | (y,i)::r=>(X.N[i]?=some y/\(X.env.scope.names.lookup y=some .cell\/X.env.scope.names.lookup y=some .free)/\((relabel scope X.env).names.lookup y=some .cell\/(relabel scope X.env).names.lookup y=some .free)/\∃c,cl.lookup y=some c/\X.env.cells.lookup y=some c)/\mC X scope cl r
theorem mC.at{X:Cx}{scope:Scope}{cl:List (Str × Addr)}:∀{aD:List (Str × Nat)},mC X scope cl aD->∀p∈aD,X.N[p.2]?=some p.1/\(X.env.scope.names.lookup p.1=some .cell\/X.env.scope.names.lookup p.1=some .free)/\((relabel scope X.env).names.lookup p.1=some .cell\/(relabel scope X.env).names.lookup p.1=some .free)/\∃c,cl.lookup p.1=some c/\X.env.cells.lookup p.1=some c
 | [],_,p,hp=>absurd hp (by simp)
 | (y,i)::r,h,p,hp=>by
  rcases cH.mp hp with e | e
  ·subst e;exact h.1
  ·exact mC.at h.2 p e
def mD(Y:Cx)(ifs:List Expr)(t:TT):Prop :=
 ∀(pins:List (Addr × Obj)) (s:Shared) (σ:St) (H:Hp) (Q:Bool->Hp->Prop),Inv Y pins σ H s->t σ H Q ->
  wpAny (model Y.prog Y.w) Y.A (forIn ifs true λc r=>if r=true then do let ok<-isTrue c Y.env (eval c Y.env);pure (E8 ok)else pure (E8 r)) (TP Y pins σ Q) Y.xe s
def cS8:TT:=λ_ H Q=>Q true H
theorem cs4{Y:Cx}:mD Y [] cS8:=λ_ _ _ H _ I h=>wpAny_tests_nil ⟨H,I,h⟩
theorem cs5{Y:Cx}{c:Expr}{t:TT}(h:PT Y c t):mD Y [c] t:=λpins s σ H Q I q=>wpAny_tests_one (h pins s σ H Q I q)
section
variable{X:Cx}{elt iter:Expr}{x:Str}{px pos:Pos}{ifs:List Expr}{scope:Scope}{cl:List (Str × Addr)}{aD:List (Str × Nat)}{wi:TI}{tt:TT}{te:TE}
end
section
variable{prog:Program}{w:World}{A:Around}{R:Result->Shared->Prop}{s:Shared}
theorem bI3{elt target iter:Expr}{ifs:List Expr}{scope:Scope}{pos:Pos}{it acc:Value}{env:Env}(Iv:Nat->Shared->Prop)
  (turn:∀n s,Iv n s->wpAny (model prog w) A (pyNext it) (λr s1=>match r with
   | none=>R (.ok .next) s1
   | some v=>wpAny (model prog w) A (letOwnedTupleGo target it v) (λ_ t1=>wpAny (model prog w) A (assign target env v) (λ_ s2 =>
     wpAny (model prog w) A (forIn ifs true λc r=>if r=true then do let ok<-isTrue c env (eval c env);pure (E8 ok)else pure (E8 r)) (λok s3 =>
      if ok=true then wpAny (model prog w) A (eval elt env) (λy s4=>wpAny (model prog w) A (call (.builtin "list.append") [acc,y]) (λ_ s5=>∃m,m<n/\Iv m s5) (λ_ _=>False) s4) (λ_ _=>False) s3
      else ∃m,m<n/\Iv m s3) (λ_ _=>False) s2) (λ_ _=>False) t1) (λ_ _=>False) s1) (λ_ _=>False) s)
  (n:Nat) (h:Iv n s):codeAny (model prog w) A (.compLoop (.ListComp elt [⟨target,iter,ifs,0⟩] scope pos) 0 it acc env) R s:=by
 refine codeAny_loop rfl Iv (λn s hI=>?_) n h
 change wpAny _ A (Sem.onRaise (compTurn (.ListComp elt [⟨target,iter,ifs,0⟩] scope pos) 0 it acc env) λx=>do noteFrame x env;theTreesLotGoes x) _ _ s
 refine wpAny_noted (wpAny_mono (E:=λ_ _=>False) ?_ (λ_ _ q=>q) λ_ _ z=>z.elim)
 rw[compTurn_list]
 refine wpAny_bind (wpAny_standAt (wpAny_bind (aP (turn n s hI) λr s1 h1=>?_)))
 cases r with
 | none=>exact wpAny_pure h1
 | some v =>
  refine wpAny_bind (aP h1 λ_ t1 k1=>wpAny_bind (aP k1 λ_ s2 h2=>wpAny_bind (aP h2 λok s3 h3=>?_)))
  cases ok with
  | false=>exact wpAny_pure ⟨rfl,h3⟩
  | true=>exact wpAny_bind (wpAny_bind (aP h3 λy s4 h4=>wpAny_bind (aP h4 λ_ s5 h5=>wpAny_pure (wpAny_pure ⟨rfl,h5⟩))))
end
section
variable{X:Cx}{elt iter:Expr}{x:Str}{px pos:Pos}{ifs:List Expr}{scope:Scope}{cl:List (Str × Addr)}{aD:List (Str × Nat)}{wi:TI}{tt:TT}{te:TE}
end
end L2
namespace L2
open PySem PySem.Spec PyProof.Rows
section
variable{X:Cx}
theorem cF6:cQ X (compareOp .Is) (λx y H Q=>∃a b,x=.bl a/\y=.bl b/\Q (.bl (a==b)) H):=by
 intro pins s σ H x y v u Q I rx ry h
 obtain⟨a,b,rfl,rfl,q⟩:=h
 cases rx
 cases ry
 exact is_bool ⟨.bl _,H,I,rfl,q⟩
theorem O6{bs:List Bool}{us:List Value}(r:Vals (bs.map V.bl) us):bs.length=us.length/\∀(i:Nat) (v:Value),us[i]?=some v->∃b,bs[i]?=some b/\v=.bool b:=by
 have l:=r.length
 rw[br]at l
 refine⟨l,λi v e=>?_⟩
 have hi:i<us.length:=(ki.mp e).1
 have hb:i<bs.length:=by omega
 obtain⟨u,e2,q⟩:=r.get (i:=i) (x:=V.bl bs[i]) (by rw[cM,aR hb];rfl)
 rw[e]at e2
 cases e2
 exact⟨bs[i],aR hb,q⟩
theorem Gz{s:Shared}{h':Heap}{o:Obj}(hk:∀b x,b ∉ [s.heap.objs.size]->(s.heap.push o).get? b=some x->h'.get? b=some x)(b:Addr)(x:Obj)(e:s.heap.get? b=some x):h'.get? b=some x :=
 hk b x (λhm=>gJ _ (by have:=bL e;rw[fI.mp hm]at this;exact this)) (fU _ e)
theorem cf4(bs:List Bool):((aL bs.length).all λi=>(bs[i]?).getD true)=bs.all id:=by
 rw[qN,dj,dj]
 constructor
 ·intro h b hb
  obtain⟨i,hi,rfl⟩:=kq hb
  have:=h i (di.mpr hi)
  rwa [aR hi]at this
 ·intro h i hi
  have gO:=di.mp hi
  rw[aR gO]
  exact h _ (eG gO)
theorem cb8(bs:List Bool):((aL bs.length).any λi=>(bs[i]?).getD false)=bs.any id:=by
 rw[qN,Nj,Nj]
 constructor
 ·rintro⟨i,hi,h⟩
  have gO:=di.mp hi
  rw[aR gO]at h
  exact⟨_,eG gO,h⟩
 ·rintro⟨b,hb,h⟩
  obtain⟨i,hi,rfl⟩:=kq hb
  exact⟨i,di.mpr hi,by rw[aR hi];exact h⟩
theorem ci9(hc:X.calm=true):gz X (.builtin "all") (λxs H Q=>∃(p:Addr) (bs:List Bool),xs=[.ref p]/\bQ X.K H p (bs.map V.bl)/\Q (.bl (bs.all id)) H):=by
 intro pins s σ H xs us Q I r h
 obtain⟨p,bs,rfl,hS,q⟩:=h
 obtain⟨u,rfl,ru⟩:=r.one
 cases ru
 obtain⟨its,rv,pl,hz⟩:=I.list hS
 obtain⟨hlen,GA⟩:=O6 rv
 have hl:=pl.isList
 have gB:p<s.heap.objs.size:=by obtain⟨_,e,_⟩:=hl;exact bL e
 refine call_all_walk (wpAny_pyIter_list hl ?_)
 refine⟨s.heap.objs.size,[s.heap.objs.size,p],[s.heap.objs.size],its.toArray.size,_,_,λi=>(bs[i]?).getD true,rfl,Walks.list (A:=X.A.in1) (I.ok.hd hc) _ p (eQ gB) its.toArray,
  ⟨⟨_,g8 _ rfl,rfl,rfl⟩,hl.push _⟩,λi v s' Q' E' hP hQ=>?_,λh' tk hk=>?_⟩
 ·obtain⟨b,e,rfl⟩:=GA i v (by simpa using hP)
  simp only[e,uf]at hQ
  exact wpAny_truthy_bool hQ
 ·have e:((aL its.toArray.size).all λi=>(bs[i]?).getD true)=bs.all id:=by
   rw[eD,<- hlen];exact cf4 bs
  rw[e]
  exact⟨.bl _,H,I.kept (h':=h') (t':=tk) (Gz hk),rfl,q⟩
theorem ca9(hc:X.calm=true):gz X (.builtin "any") (λxs H Q=>∃(p:Addr) (bs:List Bool),xs=[.ref p]/\bQ X.K H p (bs.map V.bl)/\Q (.bl (bs.any id)) H):=by
 intro pins s σ H xs us Q I r h
 obtain⟨p,bs,rfl,hS,q⟩:=h
 obtain⟨u,rfl,ru⟩:=r.one
 cases ru
 obtain⟨its,rv,pl,hz⟩:=I.list hS
 obtain⟨hlen,GA⟩:=O6 rv
 have hl:=pl.isList
 have gB:p<s.heap.objs.size:=by obtain⟨_,e,_⟩:=hl;exact bL e
 refine call_any_walk (wpAny_pyIter_list hl ?_)
 refine⟨s.heap.objs.size,[s.heap.objs.size,p],[s.heap.objs.size],its.toArray.size,_,_,λi=>(bs[i]?).getD false,rfl,Walks.list (A:=X.A.in1) (I.ok.hd hc) _ p (eQ gB) its.toArray,
  ⟨⟨_,g8 _ rfl,rfl,rfl⟩,hl.push _⟩,λi v s' Q' E' hP hQ=>?_,λh' tk hk=>?_⟩
 ·obtain⟨b,e,rfl⟩:=GA i v (by simpa using hP)
  simp only[e,uf]at hQ
  exact wpAny_truthy_bool hQ
 ·have e:((aL its.toArray.size).any λi=>(bs[i]?).getD false)=bs.any id:=by
   rw[eD,<- hlen];exact cb8 bs
  rw[e]
  exact⟨.bl _,H,I.kept (h':=h') (t':=tk) (Gz hk),rfl,q⟩
end
def mE(X:Cx):List (Str × Addr)->Prop
 | []=>True
 | (y,c)::r=>X.env.cells.lookup y=some c/\mE X r
theorem mE.all{X:Cx}:∀{cl:List (Str × Addr)},mE X cl->∀y c,cl.lookup y=some c->X.env.cells.lookup y=some c
 | [],_,y,c,h=>by simp at h
 | (z,d)::r,h,y,c,e=>by
  rw[gi]at e
  cases q:y==z with
  | true =>
   rw[q]at e
   cases e
   rw[eq_of_beq q]
   exact h.1
  | false =>
   rw[q]at e
   exact mE.all h.2 y c e
def mF(cl:List (Str × Addr)):List (Str × NameKind)->Prop
 | []=>True
 | (y,k)::r=>(k=.local\/k=.globalImplicit\/∃c,cl.lookup y=some c)/\mF cl r
theorem mF.all{cl:List (Str × Addr)}:∀{ns:List (Str × NameKind)},mF cl ns->∀y,(ns.lookup y=some .cell\/ns.lookup y=some .free)->∃c,cl.lookup y=some c
 | [],_,y,h=>by simp at h
 | (z,k)::r,h,y,e=>by
  rw[gi]at e
  cases q:y==z with
  | true =>
   rw[q]at e
   rw[eq_of_beq q]
   rcases h.1 with g | g | g
   ·rw[g]at e;rcases e with e | e<;>cases e
   ·rw[g]at e;rcases e with e | e<;>cases e
   ·exact g
  | false =>
   rw[q]at e
   exact mF.all h.2 y e
section
variable{X:Cx}{elt iter:Expr}{x:Str}{px pos:Pos}{ifs:List Expr}{scope:Scope}{cl:List (Str × Addr)}{wi:TI}{tt:TT}{te:TE}
end
end L2
namespace L2
open PySem PySem.Spec PyProof.Rows Mf
end L2
namespace L2
end L2
namespace L2
open PySem PySem.Spec PyProof.Rows
def iF(aD:List (Str × Nat))(n:Nat)(σ:L2.St):St:=(aD.map λp=>(σ[p.2]?).getD none)++aU n none
def O7(J:It)(aD:List (Str × Nat))(n:Nat)(g:TG)(tt:TT)(te:TE)(σ:L2.St)(H1:Hp)(Q:VK):Prop:=∀D,H1 D=none->∃W:Nat->Nat->List V->Hp->Prop,(∃m,W 0 m [] (upd H1 D (.lst []))) /\
 ∀i m acc H2,W i m acc H2->H2 D=some (.lst acc)/\((J.stop i H2/\Q (.ref D) H2)\/(J.go i H2/\∀x H3,J.ky i H2 x H3->H3 D=some (.lst acc)/\g x (iF aD n σ) H3 λhJ H4 =>
  (hJ.length=(iF aD n σ).length/\∀j,j<aD.length->hJ[j]?=(iF aD n σ)[j]?)/\tt hJ H4 λb H5=>H5 D=some (.lst acc) /\
  if b=true then te hJ H5 λy H6=>H6 D=some (.lst acc)/\acc.length<sizeLine/\∃m',m'<m/\W (i+1) m' (acc++[y]) (upd H6 D (.lst (acc++[y])))else ∃m',m'<m/\W (i+1) m' acc H5))
def B0(wi:TI)(aD:List (Str × Nat))(n:Nat)(g:TG)(tt:TT)(te:TE):TE:=λσ H Q=>wi σ H λJ H1=>O7 J aD n g tt te σ H1 Q
section
variable{X:Cx}{elt iter tg:Expr}{pos:Pos}{ifs:List Expr}{scope:Scope}{cl:List (Str × Addr)}{wi:TI}{tt:TT}{te:TE}{g:TG}
end
end L2
namespace L2
open PySem PySem.Spec PyProof.Rows
section
variable{X:Cx}{tg:Expr}
end
end L2
namespace L2
open PySem PySem.Spec PyProof.Rows
def GB(h:Heap)(a T:Addr)(cls fl:Value):Prop :=
 ∃oe vs oT ts,h.get? a=some oe/\oe.cls=cls/\oe.dict=none/\oe.data=.fields vs/\vs[1]?=some (.ref T)/\T≠a/\h.get? T=some oT/\oT.data=.fields ts/\ts[3]?=some fl
abbrev iG(h:Heap)(a T:Addr)(cls:Value):Prop:=GB h a T cls .none
theorem bx7(o:Obj)(f:Array Value->Array Value):(o.mapFields f).dict=o.dict:=by
 obtain⟨c,d,dt,sl⟩:=o
 cases dt<;>rfl
section
variable{M:Model}{A:Around}{E:Value->Shared->Prop}{s:Shared}{base:Heap}{env:Env}{outer:List Env}{L a T:Addr}{cls:Value}{oe:Obj}{vs:Array Value}{Q:Unit->Shared->Prop}
structure Ent(fs:List Addr)(h h':Heap)(a T:Addr)(oe:Obj)(L:Addr):Prop where
 new:h.get? T=none
 ne:T≠a
 keep:∀b o,b≠a->b ∉ fs->h.get? b=some o->h'.get? b=some o
 slot:∀b o,b≠a->h.get? b=some o->∃sl,h'.get? b=some { o with slots:=sl }
 exc:h'.get? a=some (oe.mapFields λz=>z.setIfInBounds 1 (.ref T))
 ent:∃oT ts,h'.get? T=some oT/\oT.data=.fields ts/\ts[3]?=some (rawInt L)
theorem O8{head:Value}{c57:Bool}(eJ:A.frames=some (env::outer))(hl:s.heap.FunFrames base (env::outer))(hf:env.frame=some L)(he:s.heap.get? a=some oe)(hd:oe.data=.fields vs)(my:1<vs.size)
  (na:a ∉ (env::outer).filterMap (·.frame)) (k:∀h' T',Ent ((env::outer).filterMap (·.frame)) s.heap h' a T' oe L->Q () { s with heap:=h' }) :
  wpAny M A (do let x<-frameOf env;let pl<-entryPlaceOf L c57;let b<-EntryCells.newEntry head x .none (rawInt L) .none pl;setField (.ref a) 1 b) Q E s:=by
 refine wpAny_bind (wpAny_frameOf_fun eJ hl hf λg1 so=>wpAny_bind (wpAny_entryPlaceOf λpl ip=>?_))
 unfold EntryCells.newEntry newFields
 have e1:g1.get? a=some oe:=(so.2.1 a na).trans he
 refine wpAny_bind (wpAny_newObj_type ?_ (ip.sizeOk5 _ _ _ _ _))
 generalize O9:({ cls:=.type "traceback",dict:=none,data:=.fields ([head,cB L,.none,rawInt L,.none]++(if pl.isEmpty then aU 6 qG else pl)).toArray }:Obj)=te
 have e2:(g1.push te).get? a=some oe:=fU te e1
 have hda:te.data=.fields ([head,cB L,.none,rawInt L,.none]++(if pl.isEmpty then aU 6 qG else pl)).toArray:=by rw[<-O9]
 have nf:te.isFreed=false:=by rw[<-O9];rfl
 refine wpAny_setField e2 hd my ?_
 have d3:=E9 hd λz=>z.setIfInBounds 1 (cB g1.objs.size)
 have nT:g1.objs.size≠a:=Na (bL e1)
 refine k _ g1.objs.size ⟨?_,nT,λb o hb hz q=>?_,λb o hb q=>?_,E1 _ e2 (Nk d3),⟨te,_,?_,hda,?_⟩⟩
 ·cases q:s.heap.get? g1.objs.size with
  | none=>rfl
  | some o=>obtain⟨sl,z⟩:=so.2.2 _ _ q;exact absurd (bL z) (gJ _)
 ·rw[qK _ _ (fF hb)]
  exact fU te ((so.2.1 b hz).trans q)
 ·obtain⟨sl,z⟩:=so.2.2 b o q
  refine⟨sl,?_⟩
  rw[qK _ _ (fF hb)]
  exact fU te z
 ·rw[qK _ _ (fF nT)]
  exact g8 g1 nf
 ·first | (simp;done) | (rcases ip with rfl | ⟨_,_,_,_,_,_,_,rfl⟩<;>simp)
structure Pa(fs Z:List Addr)(h h':Heap)(a T:Addr)(cls:Value):Prop where
 new:h.get? T=none
 keep:∀b o,b ∉ Z->b ∉ fs->h.get? b=some o->h'.get? b=some o
 slot:∀b o,b ∉ Z->h.get? b=some o->∃sl,h'.get? b=some { o with slots:=sl }
 uN:iG h' a T cls
theorem GC{fl:Value}(tr:GB s.heap a T cls fl)(k:∀h',(∀b o,b≠T->s.heap.get? b=some o->h'.get? b=some o)->iG h' a T cls->Q () { s with heap:=h' }):wpAny M A (setFlight (.ref a) none) Q E s:=by
 obtain⟨oe,vs,oT,ts,h1,h2,h3,h4,h5,h6,h7,h8,h9⟩:=tr
 have sz:3<ts.size:=(Nl.mp h9).1
 unfold setFlight
 refine wpAny_bind (wpAny_field h1 h4 h5 ?_)
 rw[if_pos (by simp)]
 refine wpAny_setField h7 h8 sz (k _ (λb o hb q=>(qK _ _ (fF hb)).trans q) ?_)
 have d:=E9 h8 λz=>z.setIfInBounds 3 ((none:Option Addr).elim qG λf=>rawInt f)
 exact⟨oe,vs,_,_,(qK _ _ h6).trans h1,h2,h3,h4,h5,h6,E1 _ h7 (Nk d),d,by simp[sz]⟩
theorem Ent.fin{fs:List Addr}{h h':Heap}{a T L:Addr}{oe:Obj}{vs:Array Value}(e:Ent fs h h' a T oe L)(hd:oe.data=.fields vs)(my:1<vs.size)(hdi:oe.dict=none):GB h' a T oe.cls (rawInt L):=by
 obtain⟨oT,ts,e1,e2,e3⟩:=e.ent
 exact⟨_,_,oT,ts,e.exc,Obj.cls_mapFields _ _,by rw[bx7];exact hdi,E9 hd _,by simp[my],e.ne,e1,e2,e3⟩
theorem Pb(eJ:A.frames=some (env::outer))(hl:s.heap.FunFrames base (env::outer))(hf:env.frame=some L)(na:a ∉ (env::outer).filterMap (·.frame))(tr:iG s.heap a T cls)
  (k:∀h' T',Pa ((env::outer).filterMap (·.frame)) [a,T] s.heap h' a T' cls->Q () { s with heap:=h' }):wpAny M A (noteFrame (.ref a) env) (λ_ jQ=>wpAny M A (setFlight (.ref a) none) Q E jQ) E s:=by
 obtain⟨oe,vs,oT,ts,h1,h2,h3,h4,h5,h6,h7,h8,h9⟩:=tr
 have s1:1<vs.size:=(Nl.mp h5).1
 have s3:3<ts.size:=(Nl.mp h9).1
 unfold noteFrame
 simp only[hf]
 refine wpAny_bind (wpAny_field h1 h4 h5 ?_)
 rw[if_pos (by simp)]
 refine wpAny_bind (wpAny_field h7 h8 h9 ?_)
 rw[if_neg (by simp[rawInt])]
 refine wpAny_bind (wpAny_setField h7 h8 s3 ?_)
 generalize hg:s.heap.update T (Obj.mapFields λz=>z.setIfInBounds 3 qG)=g
 have rB:∀b,b≠T->g.get? b=s.heap.get? b:=λb hb=>by rw[<-hg];exact qK _ _ (fF hb)
 have bT:∀b o,s.heap.get? b=some o->(∀ws,o.data≠.fields ws)->b≠T:=λb o q hn z=>by subst z;rw[h7]at q;cases q;exact hn ts h8
 have gT:∃oT',g.get? T=some oT':=⟨_,by rw[<-hg];exact E1 _ h7 (Nk (E9 h8 _))⟩
 refine O8 (s:={ s with heap:=g }) eJ (hl.of_keeps λb o q hn=>⟨o,(rB b (bT b o q hn)).trans q,rfl⟩) hf ((rB a (fF h6)).trans h1) h4 s1 na λh' T' en=>?_
 have nT':T'≠T:=λz=>by subst z;obtain⟨o,q⟩:=gT;rw[en.new]at q;cases q
 refine GC (s:={ s with heap:=h' }) (h2 ▸ en.fin h4 s1 h3) λGD kp GF=>?_
 refine k GD T' ⟨(rB T' nT').symm.trans en.new,λb o hz hb q=>?_,λb o hz q=>?_,GF⟩
 ·have z1:b≠a:=λz=>hz (by simp[z])
  have z2:b≠T:=λz=>hz (by simp[z])
  have z3:b≠T':=λz=>by have:=en.new;rw[<-z,rB b z2,q]at this;cases this
  exact kp b o z3 (en.keep b o z1 hb ((rB b z2).trans q))
 ·have z1:b≠a:=λz=>hz (by simp[z])
  have z2:b≠T:=λz=>hz (by simp[z])
  have z3:b≠T':=λz=>by have:=en.new;rw[<-z,rB b z2,q]at this;cases this
  obtain⟨sl,r⟩:=en.slot b o z1 ((rB b z2).trans q)
  exact⟨sl,kp b _ z3 r⟩
theorem bK6{h1:Heap}{args:List Value}(eJ:A.frames=some (env::outer))(hl:s.heap.FunFrames base (env::outer))(hf:env.frame=some L)(hx:Nm s.heap h1 a cls args)
  (k:∀h' T',Pa ((env::outer).filterMap (·.frame)) [] s.heap h' a T' cls->Q () { s with heap:=h' }):wpAny M A (noteFrame (.ref a) env) (λ_ jQ=>wpAny M A (setFlight (.ref a) none) Q E jQ) E { s with heap:=h1 }:=by
 obtain⟨t,e1,_,_⟩:=hx.there
 have na:a ∉ (env::outer).filterMap (·.frame):=λhb=>by obtain⟨_,o,ho,_⟩:=hl.mem hb;rw[hx.new]at ho;cases ho
 unfold noteFrame
 simp only[hf]
 refine wpAny_bind (wpAny_field (s:={ s with heap:=h1 }) e1 rfl (x:=.none) (by rfl) ?_)
 rw[if_neg (by decide)]
 refine O8 (s:={ s with heap:=h1 }) eJ (hl.of_keeps λb o q _=>⟨o,hx.keeps b o q,rfl⟩) hf e1 rfl (by simp) na λh' T' en=>?_
 refine GC (s:={ s with heap:=h' }) (en.fin rfl (by simp) rfl) λGD kp GF=>?_
 have ba:∀b o,s.heap.get? b=some o->b≠a:=λb o q z=>by rw[z,hx.new]at q;cases q
 have bT:∀b o,s.heap.get? b=some o->b≠T':=λb o q z=>by have:=hx.keeps b o q;rw[z,en.new]at this;cases this
 refine k GD T' ⟨?_,λb o _ hb q=>kp b o (bT b o q) (en.keep b o (ba b o q) hb (hx.keeps b o q)),λb o _ q=>?_,GF⟩
 ·cases q:s.heap.get? T' with
  | none=>rfl
  | some o=>exact absurd rfl (bT T' o q)
 ·obtain⟨sl,r⟩:=en.slot b o (ba b o q) (hx.keeps b o q)
  exact⟨sl,kp b _ (bT b o q) r⟩
end
end L2
namespace L2
open PySem PySem.Spec PyProof.Rows
theorem eK.there{P:Program}{w:World}{H:Hp}{h:Heap}{a:Addr}{o:HO}(x:eK P w H h a o):∃u,h.get? a=some u:=by
 cases o with
 | lst xs=>obtain⟨_,_,_,_,e⟩:=x;exact⟨_,e⟩
 | tup xs=>obtain⟨_,_,_,o,e,_⟩:=x;exact⟨o,e⟩
 | dK dU=>obtain⟨_,_,_,_,o,_,_,e,_⟩:=x;exact⟨_,e⟩
 | dT dU=>obtain⟨_,_,_,_,o,_,_,e,_⟩:=x;exact⟨_,e⟩
 | set S n=>obtain⟨o,_,_,_,e,_⟩:=x;exact⟨_,e⟩
 | ins C dx fs=>obtain⟨_,_,_,e,_⟩:=x;exact⟨_,e⟩
 | own y=>exact x
 | xd fs=>obtain⟨_,⟨_,_,_,e,_⟩,_⟩:=x;exact⟨_,e⟩
 | xQ lo hi=>obtain⟨_,_,_,e⟩:=x;exact⟨_,e⟩
 | bq ob u=>obtain⟨e,_⟩:=x;exact⟨_,e⟩
 | dG ps=>exact⟨_,show h.get? a=some _ from x.1⟩
 | met f y=>exact⟨_,show h.get? a=some _ from x⟩
 | ext φ=>obtain⟨_,e,_⟩:=x;exact e
theorem cX.none{P:Program}{w:World}{H:Hp}{h:Heap}{a:Addr}(x:cX P w H h)(e:h.get? a=.none):H a=.none:=by
 cases q:H a with
 | none=>rfl
 | some u=>obtain⟨o,z⟩:=(x a u q).there;rw[e]at z;cases z
structure Apart(X:Cx)(pins:List (Addr × Obj))(H:Hp)(b:Addr):Prop where
 old:X.cN.heap.get? b=none
 free:H b=none
 loc:b≠X.env.locals
 cell:∀x c,X.env.cells.lookup x=some c->c≠b
 pin:∀p∈X.pn++pins,p.1≠b
 fr:b ∉ dX X.stack
section
variable{X:Cx}{pins:List (Addr × Obj)}{σ:St}{H H':Hp}{s:Shared}{a T b:Addr}{cls:Value}{M:Model}{Q:Unit->Shared->Prop}{E:Value->Shared->Prop}{h':Heap}
theorem bN9(I:Inv X pins σ H s)(hb:b∈dX X.stack):∃o,s.heap.get? b=some o/\∀vs,o.data≠.fields vs:=(I.stack.mem hb).2
theorem Inv.old(I:Inv X pins σ H s)(hex:X.ex=[])(e:s.heap.get? b=none):X.cN.heap.get? b=none:=by
 cases q:X.cN.heap.get? b with
 | none=>rfl
 | some o=>obtain⟨o',z⟩:=I.base.there b o q (by rw[hex];simp);rw[e]at z;cases z
theorem Inv.apart(I:Inv X pins σ H s)(hex:X.ex=[])(e:s.heap.get? b=none)(n:H' b=none):Apart X pins H' b where
 old:=I.old hex e
 free:=n
 loc:=λz=>by obtain⟨m,⟨o,_,_,ho,_⟩,_⟩:=I.loc;rw[z,ho]at e;cases e
 cell:=λx c hc z=>by obtain⟨v,o,ho,_⟩:=I.cell x c hc;rw[z,e]at ho;cases ho
 pin:=λp hp z=>by have:=(I.pin p hp).1;rw[z,e]at this;cases this
 fr:=λhb=>by obtain⟨o,ho,_⟩:=bN9 I hb;rw[e]at ho;cases ho
theorem Pc(I:Inv X pins σ H s)(cw:X.stack=X.env::X.outer)(hex:X.ex=[])(hf:X.env.frame=some X.env.locals)(Z:List Addr)(hZ:∀b∈Z,X.cN.heap.get? b=none/\H b=none)
  (keep:∀b o,b ∉ Z->b ∉ dX X.stack->s.heap.get? b=some o->h'.get? b=some o) (slots:∀b o,b ∉ Z->s.heap.get? b=some o->∃sl,h'.get? b=some { o with slots:=sl }) :
  Un (dX X.outer) [] X.jP H X.cN.heap h'/\cX X.prog X.w H h':=by
 have rC:∀b o,X.cN.heap.get? b=some o->b ∉ Z:=λb o e z=>by rw[(hZ b z).1]at e;cases e
 have sub:∀b,b∈dX X.stack->b=X.env.locals\/b∈dX X.outer:=λb hb=>by
  rw[cw]at hb
  unfold dX at hb
  rw[AQ,hf]at hb
  exact cH.mp hb
 have sup:∀b,b∈dX X.outer->b∈dX X.stack:=λb hb=>by
  rw[cw]
  unfold dX
  rw[AQ,hf]
  exact gK _ hb
 have uw:∀b o,X.cN.heap.get? b=some o->b≠X.env.locals:=λb o e=>eQ (cW (bL e) I.ok.above)
 have nx:∀b:Addr,b ∉ X.ex:=λb=>by rw[hex];simp
 refine⟨⟨λb o e n hb _=>?_,λb o e n hb _=>?_,λb o e n _=>I.base.free b o e n (nx b),λb o e _=>?_,I.base.iZ,I.base.ir,I.base.gM⟩,λb ob e=>?_⟩
 ·exact keep b o (rC b o e) (λz=>(sub b z).elim (uw b o e) hb) (I.base.keep b o e n hb (nx b))
 ·obtain⟨sl,e1⟩:=I.base.slot b o e n hb (nx b)
  exact(slots b _ (rC b o e) e1).imp λsl h=>h
 ·obtain⟨o',e1⟩:=I.base.there b o e (nx b)
  exact(slots b o' (rC b o e) e1).elim λsl q=>⟨_,q⟩
 ·refine(I.aH b ob e).jh (λc u hc q=>keep c u (λz=>?_) (λz=>?_) q) (λ_ q=>q) (λ_ _ q=>q) λ_ _ q=>q
  ·have n:=(hZ c z).2
   rcases hc with rfl | hc
   ·rw[n]at e;cases e
   ·rw[n]at hc;cases hc
  ·have n:=I.Bw c z
   rcases hc with rfl | hc
   ·rw[n]at e;cases e
   ·rw[n]at hc;cases hc
structure Pd(X:Cx)(H:Hp)(h':Heap)(a T:Addr)(cls:Value):Prop where
 un:Un (dX X.outer) [] X.jP H X.cN.heap h'
 aH:cX X.prog X.w H h'
 uN:iG h' a T cls
 a0:X.cN.heap.get? a=none
 a1:H a=none
 t0:X.cN.heap.get? T=none
 t1:H T=none
theorem b87(I:Inv X pins σ H s)(cw:X.stack=X.env::X.outer)(hex:X.ex=[])(hf:X.env.frame=some X.env.locals)(tr:iG s.heap a T cls)(pa:Apart X pins H a)(pT:Apart X pins H T)
  (hQ:∀h' T',Pd X H h' a T' cls->Q () { s with heap:=h' }):wpAny M X.A (leaving X.env (.ref a)) Q E s:=by
 have hZ:∀b∈[a,T],X.cN.heap.get? b=none/\H b=none:=λb hb=>by
  rcases cH.mp hb with rfl | hb
  ·exact⟨pa.old,pa.free⟩
  ·rw[fI.mp hb];exact⟨pT.old,pT.free⟩
 have na:a ∉ (X.env::X.outer).filterMap (·.frame):=by have:=pa.fr;rw[cw]at this;exact this
 refine wpAny_bind (Pb (base:=X.base) (by rw[I.ok.frames,cw]) (cw ▸ I.stack) hf na tr λh' T' st=>?_)
 have kp:∀b o,b ∉ [a,T]->b ∉ dX X.stack->s.heap.get? b=some o->h'.get? b=some o:=λb o hz hb q=>st.keep b o hz (by rw[cw]at hb;exact hb) q
 obtain⟨un,aH⟩:=Pc (h':=h') I cw hex hf [a,T] hZ kp st.slot
 exact hQ h' T' ⟨un,aH,st.uN,pa.old,pa.free,I.old hex st.new,I.aH.none st.new⟩
theorem b42{h1:Heap}{args:List Value}(I:Inv X pins σ H s)(cw:X.stack=X.env::X.outer)(hex:X.ex=[])(hf:X.env.frame=some X.env.locals)(hx:Nm s.heap h1 a cls args)
  (hQ:∀h' T',Pd X H h' a T' cls->Q () { s with heap:=h' }):wpAny M X.A (leaving X.env (.ref a)) Q E { s with heap:=h1 }:=by
 refine wpAny_bind (bK6 (base:=X.base) (by rw[I.ok.frames,cw]) (cw ▸ I.stack) hf hx λh' T' st=>?_)
 have kp:∀b o,b ∉ ([]:List Addr)->b ∉ dX X.stack->s.heap.get? b=some o->h'.get? b=some o:=λb o hz hb q=>st.keep b o hz (by rw[cw]at hb;exact hb) q
 obtain⟨un,aH⟩:=Pc (h':=h') I cw hex hf [] (λb hb=>absurd hb (by simp)) kp st.slot
 exact hQ h' T' ⟨un,aH,st.uN,I.old hex hx.new,I.aH.none hx.new,I.old hex st.new,I.aH.none st.new⟩
end
def jU(P:Program)(w:World):eU:=λouter H s E e s'=>∃a T cls H',e=.ref a/\s'.os=s.os/\AllBare s'.gens/\Un (dX outer) [] H H' s.heap s'.heap/\cX P w H' s'.heap/\iG s'.heap a T cls /\
 s.heap.get? a=none/\H' a=none/\s.heap.get? T=none/\H' T=none/\E cls none H'
section
variable{X:Cx}{pins:List (Addr × Obj)}{σ:St}{H H':Hp}{s:Shared}{a T b:Addr}{cls:Value}{M:Model}{Q:Unit->Shared->Prop}{E:Value->Shared->Prop}{h':Heap}
theorem Inv.Pe(I:Inv X pins σ H s)(hex:X.ex=[])(Z:List Addr)(hZ:∀b∈Z,Apart X pins H b)
  (keep:∀b o,b ∉ Z->b ∉ dX X.stack->s.heap.get? b=some o->h'.get? b=some o) (slots:∀b o,b ∉ Z->s.heap.get? b=some o->∃sl,h'.get? b=some { o with slots:=sl }) (g':Array GenState) (t':Nat) (d':Drawn) (hg:AllBare g') :
  Inv X pins σ H { s with heap:=h',gens:=g',toks:=t',drawn:=d' }:=by
 have nx:∀b:Addr,b ∉ X.ex:=λb=>by rw[hex];simp
 have any:=slots
 have rC:∀b o,X.cN.heap.get? b=some o->b ∉ Z:=λb o e z=>by rw[(hZ b z).old]at e;cases e
 have uw:∀b o,X.cN.heap.get? b=some o->b≠X.env.locals:=λb o e=>eQ (cW (bL e) I.ok.above)
 have cz:∀x c,X.env.cells.lookup x=some c->c ∉ Z:=λx c e z=>(hZ c z).cell x c e rfl
 have cellK:∀x c,X.env.cells.lookup x=some c->∀v,s.heap.IsCell c v->h'.IsCell c v:=λx c e v zz=>by
  obtain⟨o,ho,hd⟩:=zz
  obtain⟨sl,q⟩:=any c o (cz x c e) ho
  exact⟨_,q,hd⟩
 have Pf:∀b,b ∉ X.fs->b≠X.env.locals->b ∉ dX X.stack:=λb h1 h2 h3=>(cH.mp (I.xS b h3)).elim h2 h1
 refine⟨I.ok,I.os,hg,⟨λb o e n hb hx=>?_,λb o e n hb hx=>?_,I.base.free,λb o e hx=>?_,I.base.iZ,I.base.ir,I.base.gM⟩,?_,λx c e=>?_,I.free,I.gj,λp hp=>?_,λb ob e=>?_,I.len⟩
 ·exact keep b o (rC b o e) (Pf b hb (uw b o e)) (I.base.keep b o e n hb hx)
 ·obtain⟨sl,e1⟩:=I.base.slot b o e n hb hx
  obtain⟨xU,e2⟩:=any b _ (rC b o e) e1
  exact⟨xU,e2⟩
 ·obtain⟨o',e1⟩:=I.base.there b o e hx
  obtain⟨sl,e2⟩:=any b o' (rC b o e) e1
  exact⟨_,e2⟩
 ·obtain⟨m,hn,hl⟩:=I.loc
  obtain⟨o,es,ep,ho,hd,r⟩:=id hn
  obtain⟨sl,q⟩:=slots _ o (λz=>(hZ _ z).loc rfl) ho
  refine⟨m,⟨_,es,ep,q,hd,r⟩,λi x v e1 e2 e3=>?_⟩
  obtain⟨u,r,l⟩:=hl i x v e1 e2 e3
  refine⟨u,r,?_⟩
  rcases l with l | ⟨k,c,e,z⟩
  ·exact .inl l
  ·exact .inr ⟨k,c,e,cellK x c e _ z⟩
 ·obtain⟨v,z⟩:=I.cell x c e
  exact⟨v,cellK x c e v z⟩
 ·obtain⟨e,n,ne,nf,d⟩:=I.pin p hp
  exact⟨keep p.1 p.2 (λz=>(hZ _ z).pin p hp rfl) (Pf _ nf ne) e,n,ne,nf,d⟩
 ·refine(I.aH b ob e).jh (λc u hc q=>keep c u (λz=>?_) (λz=>?_) q) (λ_ q=>q) (λ_ _ q=>q) λ_ _ q=>q
  ·have n:=(hZ c z).free
   rcases hc with rfl | hc
   ·rw[n]at e;cases e
   ·rw[n]at hc;cases hc
  ·have n:=I.Bw c z
   rcases hc with rfl | hc
   ·rw[n]at e;cases e
   ·rw[n]at hc;cases hc
theorem b81(pa:Apart X pins H a)(pT:Apart X pins H T):∀b∈[a,T],Apart X pins H b:=λb hb=>by
 rcases cH.mp hb with rfl | hb
 ·exact pa
 ·rw[fI.mp hb];exact pT
theorem cS3(I:Inv X pins σ H s)(cw:X.stack=X.env::X.outer)(hex:X.ex=[])(hf:X.env.frame=some X.env.locals)(tr:iG s.heap a T cls)(pa:Apart X pins H a)(pT:Apart X pins H T)
  (hQ:∀h' T',Inv X pins σ H { s with heap:=h' }->iG h' a T' cls->Apart X pins H T'->Q () { s with heap:=h' }) :
  wpAny M X.A (noteFrame (.ref a) X.env) (λ_ jQ=>wpAny M X.A (setFlight (.ref a) none) Q E jQ) E s:=by
 have na:a ∉ (X.env::X.outer).filterMap (·.frame):=by have:=pa.fr;rw[cw]at this;exact this
 refine Pb (base:=X.base) (by rw[I.ok.frames,cw]) (cw ▸ I.stack) hf na tr λh' T' st=>?_
 exact hQ h' T' (I.Pe hex [a,T] (b81 pa pT) (λb o hz hb q=>st.keep b o hz (by rw[cw]at hb;exact hb) q) st.slot s.gens s.toks s.drawn I.bare) st.uN (I.apart hex st.new (I.aH.none st.new))
theorem cr0{A:Around}(I:Inv X pins σ H s)(hex:X.ex=[])(tr:iG s.heap a T cls)(pT:Apart X pins H T)
  (hQ:∀h',Inv X pins σ H { s with heap:=h' }->iG h' a T cls->Q () { s with heap:=h' }):wpAny M A (setFlight (.ref a) none) Q E s:=by
 refine GC tr λh' kp GG=>hQ h' (I.Pe hex [T] (λb hb=>by rw[fI.mp hb];exact pT) (λb o hz _ q=>kp b o (by simpa using hz) q) (λb o hz q=>⟨o.slots,kp b o (by simpa using hz) q⟩) s.gens s.toks s.drawn I.bare) GG
theorem b59{A:Around}{i:Nat}{n:Str}{pos:Pos}(I:Inv X pins σ H s)(hN:X.N.Nodup)(hi:X.N[i]?=some n)(hl:X.env.kindOf n=some .local)
  (hQ:∀s',Inv X pins (σ.set i none) H s'->Q () s'):wpAny M A (do bindName X.env n .none;unbindBehindTheSuite X.env n pos) Q E s:=by
 obtain⟨m,hn,hlk⟩:=id I.loc
 have kr:=I.kr
 refine PySem.wpAny_nameGoes_keeps hl hn (by rw[I.ok.kind];rfl) λh' v FE hs=>hQ _ ?_
 obtain⟨oL,_,_,NT,_⟩:=id hn
 refine⟨I.ok,I.os,I.bare,⟨λb o e n' hb hx=>?_,λb o e n' hb hx=>?_,I.base.free,λb o e hx=>?_,I.base.iZ,I.base.ir,I.base.gM⟩,⟨_,FE,λj y w e1 e2 e3=>?_⟩,λy c e=>?_,I.free,I.gj,λp hp=>?_,λb ob e=>?_,by simpa using I.len⟩
 ·exact(hs.2 b (eQ (cW (bL e) I.ok.above))).trans (I.base.keep b o e n' hb hx)
 ·obtain⟨sl,e1⟩:=I.base.slot b o e n' hb hx
  exact⟨sl,(hs.2 b (eQ (cW (bL e) I.ok.above))).trans e1⟩
 ·obtain⟨o',e1⟩:=I.base.there b o e hx
  exact⟨o',(hs.2 b (eQ (cW (bL e) I.ok.above))).trans e1⟩
 ·by_cases hj:j=i
  ·subst hj
   rw[List.getElem?_set_self']at e2
   cases q:σ[j]?<;>rw[q]at e2<;>cases e2
  ·rw[qI (fF hj)]at e2
   obtain⟨u',r',q⟩:=hlk j y w e1 e2 e3
   refine⟨u',r',?_⟩
   rcases q with⟨k,e⟩ | ⟨k,c,e,z⟩
   ·refine .inl ⟨k,?_⟩
    have:y≠n:=λe=>hj (FD hN e1 (e ▸ hi))
    simp[this,e]
   ·exact .inr ⟨k,c,e,z.sameBut hs (kr y c e)⟩
 ·obtain⟨w',z⟩:=I.cell y c e
  exact⟨w',z.sameBut hs (kr y c e)⟩
 ·obtain⟨e,n',ne,nf,d⟩:=I.pin p hp
  exact⟨(hs.2 p.1 ne).trans e,n',ne,nf,d⟩
 ·refine(I.aH b ob e).jh (λc w' hc q=>(hs.2 c ?_).trans q) (λ_ q=>q) (λ_ _ q=>q) λ_ _ q=>q
  rintro rfl
  rcases hc with rfl | hc
  ·rw[I.free]at e;cases e
  ·rw[I.free]at hc;cases hc
end
end L2
namespace L2
open PySem PySem.W PySem.Spec PySem.Calls PyProof.Rows
section
variable{prog:Program}{w:World}{A:Around}{E:Value->Shared->Prop}{s:Shared}{K:Frag}{x D:Addr}{ox:Obj}{pB:Option Obj}
theorem b09{tk:Tok}{Q:Fin->Shared->Prop}(X:K.In s.heap)(I:PySem.W.InstAt s.heap x ox D pB)(hf:findObj K D pB "__class__"=some (.bind (.builtin "getset_descriptor.__get__") (.builtin "object.__class__")))(hm:mroIn K D (.type "object")=some true)
  (hq:Q (.done (.ret (.ref D))) s):wpAny (model prog w) A (Builtin.«object.__getattribute__» ⟨[.ref x,.str "__class__" tk],[]⟩) Q E s:=by
 have cg:=λ(R:Result->Shared->Prop) (hR:R (.ok (.ret (.ref D))) s) (A:Around)=>PySem.W.class_get (prog:=prog) (w:=w) (A:=A) (R:=R) (tp:=.ref D) X I hm hR
 obtain⟨hh,g,d,t,os⟩:=s
 have L0:=I.type (M:=model prog w)
 have L1:=looks_find (M:=model prog w) X I hf
 unfold Builtin.«object.__getattribute__»
 repeat (any_goals (first | assumption | refine wpAny_bind (L0.at ?_) | refine wpAny_bind (L1.at ?_) | wp_step))
 exact cg _ (wpAny_pure hq) _
theorem b54{M:Model}{Pg:Value}{Q:Unit->Shared->Prop}(X:K.In s.heap)(I:PySem.W.InstAt s.heap x ox D pB)(hb:mroIn K D (.type "BaseException")=some true)(hq:Q () s) :
  wpAny M A (checkBuiltinCall "BaseException.__getattribute__" ⟨[.ref x,Pg],[]⟩) Q E s:=by
 obtain⟨hh,g,d,t,os⟩:=s
 have L0:=I.type (M:=M)
 have L1:=looks_mroIn (M:=M) X hb
 have hk:builtinKind "BaseException.__getattribute__"=some .slot:=by decide +kernel
 have c73:splitId "BaseException.__getattribute__"=some ("BaseException","__getattribute__"):=by decide +kernel
 have ha:=F.args_bexc_ga (.ref x) Pg
 simp only[checkBuiltinCall,hk,c73]
 refine wpAny_bind ?_
 ·unfold isInstance
  repeat (first | refine wpAny_bind (L0.at ?_) | refine wpAny_bind (L1.at ?_) | refine L1.at ?_ | wp_step)
  exact hq
theorem cc9{tk:Tok}{R:Result->Shared->Prop}(X:K.In s.heap)(I:PySem.W.InstAt s.heap x ox D pB)(hf:findObj K D pB "__class__"=some (.bind (.builtin "getset_descriptor.__get__") (.builtin "object.__class__")))(hm:mroIn K D (.type "object")=some true)(hb:mroIn K D (.type "BaseException")=some true)
  (hq:R (.ok (.ret (.ref D))) s):codeAny (model prog w) A (.call (.builtin "BaseException.__getattribute__") ⟨[.ref x,.str "__class__" tk],[]⟩) R s :=
 codeAny_call_builtin (by decide +kernel) F.entry_bexc_ga (b54 X I hb (b09 X I hf hm hq))
end
end L2
namespace L2
open PySem PySem.W PySem.Spec PySem.Calls PyProof.Rows
section
variable{prog:Program}{w:World}{A:Around}{E:Value->Shared->Prop}{s:Shared}{K:Frag}{x D:Addr}{ox:Obj}{pB:Option Obj}
theorem b79{Q:Option Value->Shared->Prop}(X:K.In s.heap)(I:PySem.W.InstAt s.heap x ox D pB)(hga:findIn K (.ref D) "__getattribute__"=some (some (.builtin "BaseException.__getattribute__")))(hgt:findIn K (.ref D) "__getattr__"=some none)
  (hf:findObj K D pB "__class__"=some (.bind (.builtin "getset_descriptor.__get__") (.builtin "object.__class__"))) (hm:mroIn K D (.type "object")=some true) (hb:mroIn K D (.type "BaseException")=some true)
  (h:Q (some (.ref D)) { s with toks:=s.toks+1 }):wpAny (model prog w) A (getAttr? (.ref x) "__class__") Q E s:=by
 have xc:=λ(R:Result->Shared->Prop) (tk:Tok) (hR:R (.ok (.ret (.ref D))) { s with toks:=s.toks+1 }) (A:Around)=>cc9 (prog:=prog) (w:=w) (A:=A) (R:=R) (tk:=tk) (s:={ s with toks:=s.toks+1 }) X I hf hm hb hR
 obtain⟨hh,g,d,t,os⟩:=s
 have L0:=I.type (M:=model prog w)
 have L1:=looks_findIn (M:=model prog w) X hga
 have L2:=looks_findIn (M:=model prog w) X hgt
 have f3:=(F.excAttr_ValueError).ga.bind (.ref x)
 have dH:(Fc "BaseException.__getattribute__"==Fc "object.__getattribute__")=false:=by decide +kernel
 have bU:(onTheHeap (cB D)&&Fc "BaseException.__getattribute__"==Fc "object.__getattribute__")=false:=by rw[dH];rfl
 unfold getAttr? getAttrBy? getAttrBy
 refine wpAny_bind (wpAny_mkText (wpAny_bind (wpAny_attempt (wpAny_holding (wpAny_bind (L0.at (wpAny_bind (L1.at ?_))))))))
 dsimp only
 rw[bU]
 simp only[oR,if_false]
 unfold getAttrByItsOwn
 repeat (any_goals (first | assumption | refine wpAny_bind (L0.at ?_) | refine wpAny_bind (L2.at ?_) | wp_step))
 refine xc _ t ?_ _
 show wpAny _ _ (handedOut (.ref D)) _ _ _
 exact handed_on rfl (wpAny_pure h)
structure rD(K:Frag)(C:Addr):Prop where
 cls:(clsIn K C).isSome=true
 ga:findIn K (.ref C) "__getattribute__"=some (some (.builtin "BaseException.__getattribute__"))
 gt:findIn K (.ref C) "__getattr__"=some none
 ca:findIn K (.ref C) "__class__"=some (some (.builtin "object.__class__"))
 hn:specialIn K (.builtin "object.__class__") "__get__"=some (some (.builtin "getset_descriptor.__get__"))
 tk:takesIn K (.builtin "object.__class__")=some true
 mo:mroIn K C (.type "object")=some true
 mb:mroIn K C (.type "BaseException")=some true
def mG(a C:Addr)(h:Heap):Prop:=∃o,h.get? a=some o/\o.cls=.ref C/\notCls o=true/\o.dict=none
theorem bI8{K:Frag}{C:Addr}{name:Str}{a g:Value}(hc:(clsIn K C).isSome=true)(ha:findIn K (.ref C) name=some (some a))(hg:specialIn K a "__get__"=some (some g))(ht:takesIn K a=some true):findObj K C none name=some (.bind g a):=by
 obtain⟨cd,hc⟩:=AW.mp hc
 unfold findObj
 rw[hc,YF,ha,YF]
 simp[hg,ht]
theorem Ph{a C:Addr}{h:Heap}(p:mG a C h):∃ox,PySem.W.InstAt h a ox C none:=by
 obtain⟨o,h1,h2,h3,h4⟩:=p
 exact⟨o,h1,h2,h3,by rw[h4];trivial⟩
theorem cd0{a C:Addr}(c:rD K C):KitX K (.ref a) (.ref C) (mG a C) where
 ty:=λ_ _ _ p=>let⟨_,I⟩:=Ph p;I.type
 it:=λ_ _ X _=>by
  obtain⟨uO,nt⟩:=AW.mp c.cls
  unfold clsIn at nt
  split at nt
  ·rename_i c' d' cd' xU ho
   intro A' Q' E' s' k q
   unfold isType loadHead
   exact wpAny_bind (wpAny_loadPart (k _ _ (X _ _ ho)) (wpAny_pure q))
  ·cases nt
 ne:=λh tp dd its n sl X htp=>by
  obtain⟨uO,nt⟩:=AW.mp c.cls
  refine Bool.eq_false_iff.mpr λq=>?_
  have e:C=tp:=Value.ref.inj (beq_iff_eq.mp q)
  subst e
  unfold clsIn at nt
  split at nt
  ·rename_i c' d' cd' xU ho
   have z:=(X _ _ ho).symm.trans htp
   cases z
  ·cases nt
 ca:=λX p k=>let⟨_,I⟩:=Ph p;b79 X I c.ga c.gt (bI8 c.cls c.ca c.hn c.tk) c.mo c.mb k
end
end L2
namespace L2
open PySem PySem.Spec PyProof.Rows
section
variable{X:Cx}{pins:List (Addr × Obj)}{σ:St}{H:Hp}{s:Shared}{h':Heap}{its:List Addr}{T:Addr}{o:HO}{t':Nat}
theorem Inv.B4(I:Inv X pins σ H s)(k:∀b o,b ∉ its->s.heap.get? b=some o->h'.get? b=some o)(hf:∀b∈its,jm X pins H b):Inv X pins σ H { s with heap:=h',toks:=t' }:=by
 have oX:∀b u,H b=some u->b ∉ its:=λb u e z=>by have:=(hf b z).1;rw[this]at e;cases e
 refine I.step (g':=s.gens) (d':=s.drawn) (ch:=its) (λb hb=>?_) (λb o _ _ hc e _=>k b o hc e) (λb o _ _ hc e _=>⟨o.slots,k b o hc e⟩) (λ_ _ _ _ n=>n)
  (λb o hc e=>⟨o,k b o hc e⟩) (λ_ _ e=>e) (λ_ _ _ e=>e) (λb ps e=>⟨#[],by rw[e];simp⟩) (λm hm=>?_) (λb u e=>?_) I.bare
 ·obtain⟨_,h1,_,h2,h3,h4⟩:=hf b hb
  exact⟨h2,h1,h3,h4⟩
 ·obtain⟨o,es,ep,ho,r⟩:=hm
  exact⟨o,es,ep,k _ o (λz=>(hf _ z).2.1 rfl) ho,r⟩
 ·refine(I.aH b u e).jh (λc v hc q=>k c v ?_ q) (λ_ q=>q) (λ_ _ q=>q) λ_ _ q=>q
  rcases hc with z | z
  ·rw[z];exact oX b u e
  ·exact oX c _ z
theorem Inv.Pj(I:Inv X pins σ H s)(k:∀b o,b ∉ its->s.heap.get? b=some o->h'.get? b=some o)(hf:∀b∈its,jm X pins H b)(hT:s.heap.objs.size<=T)(new:eK X.prog X.w (upd H T o) h' T o) :
  Inv X pins σ (upd H T o) { s with heap:=h',toks:=t' }:=by
 have oX:∀b u,H b=some u->b ∉ its:=λb u e z=>by have:=(hf b z).1;rw[this]at e;cases e
 have fT:H T=none:=I.aH.fresh hT
 have neT:∀b u,H b=some u->b≠T:=λb u e z=>by rw[z,fT]at e;cases e
 have neS:∀b u,s.heap.get? b=some u->b≠T:=λb u e z=>absurd (cW (bL e) hT) (by rw[z];exact gJ _)
 refine I.step (g':=s.gens) (d':=s.drawn) (ch:=its) (λb hb=>?_) (λb o _ _ hc e _=>k b o hc e) (λb o _ _ hc e _=>⟨o.slots,k b o hc e⟩) (λb u _ e n=>by rw[aT (neS b u e)];exact n)
  (λb o hc e=>⟨o,k b o hc e⟩) (λb _ e=>by rw[aT (neT b _ e)];exact e) (λb _ _ e=>by rw[aT (neT b _ e)];exact e) (λb ps e=>⟨#[],by rw[aT (neT b _ e),e];simp⟩) (λm hm=>?_) (λb u e=>?_) I.bare
 ·obtain⟨_,h1,_,h2,h3,h4⟩:=hf b hb
  exact⟨h2,h1,h3,h4⟩
 ·obtain⟨o,es,ep,ho,r⟩:=hm
  exact⟨o,es,ep,k _ o (λz=>(hf _ z).2.1 rfl) ho,r⟩
 ·by_cases hb:b=T
  ·subst hb;rw[bH]at e;cases e;exact new
  ·rw[aT hb]at e
   refine(I.aH b u e).jh (λc v hc q=>k c v ?_ q) (λc q=>by rw[aT (neT c _ q)];exact q) (λc _ q=>by rw[aT (neT c _ q)];exact q) λc _ q=>by rw[aT (neT c _ q)];exact q
   rcases hc with z | z
   ·rw[z];exact oX b u e
   ·exact oX c _ z
def GH(K:PySem.W.Frag)(a b:Addr):It :=
 ⟨λi H=>∃xs ys x y,bQ K H a xs/\bQ K H b ys/\xs[i]?=some x/\ys[i]?=some y,
  λi H v H'=>∃T x y,v=.ref T/\H T=none/\H'=upd H T (.tup [x,y])/\(∀xs,bQ K H a xs->xs[i]?=some x)/\∀ys,bQ K H b ys->ys[i]?=some y,
  λi H=>∃xs ys,bQ K H a xs/\bQ K H b ys/\(xs.length<=i\/ys.length<=i)⟩
theorem pE{K:PySem.W.Frag}{a c:Addr}{xs:List V}(hk:X.K=K)(I:Inv X pins σ H s)(h:bQ K H a xs)(hf:jm X pins H c)(ho:∃o,s.heap.get? c=some o/\o.cls≠.type "list"):a≠c:=by
 subst hk
 obtain⟨its,rv,p,hz⟩:=I.list h
 obtain⟨o,e,d⟩:=ho
 obtain⟨o',e',c',_⟩:=p.isList
 intro z
 subst z
 rw[e]at e';cases e'
 exact d c'
theorem cf9{P:Program}{w:World}{K:PySem.W.Frag}{elts:List Expr}{k:Nat}{pos:Pos}(a b z TI TO i1 i2:Addr)(D5:[z,TI,TO,i1,i2].Nodup) :
  Turn P w K (.Tuple elts k pos) (GH K a b) [z,TI,TO,i1,i2] z (λi h=>IsZip h z TI TO .none/\IsPair h TI (.ref i1) (.ref i2)/\(∃u v,IsPair h TO u v)/\h.IsListIter i1 a i/\h.IsListIter i2 b i):=by
 have ap:∀(X:Cx) (pins:List (Addr × Obj)) (s:Shared) (σ:St) (H:Hp) (i:Nat) (xs ys:List V),X.K=K->Inv X pins σ H s->(∀b∈[z,TI,TO,i1,i2],jm X pins H b)->IsZip s.heap z TI TO .none->(∃u v,IsPair s.heap TO u v)->s.heap.IsListIter i1 a i->s.heap.IsListIter i2 b i ->
   bQ K H a xs->bQ K H b ys->ZipApart z TI TO i1 i2 a b:=by
  intro X pins s σ H i xs ys hK I hf hz jr h1 h2 hx hy
  simp only[mh,cH,not_or,iY,not_false_eq_true,and_true]at D5
  obtain⟨⟨d1,d2,d3,d4⟩,⟨d5,d6,d7⟩,⟨d8,d9⟩,d10,_⟩:=D5
  have oz:∃o,s.heap.get? z=some o/\o.cls≠.type "list":=⟨_,hz,by intro q;exact absurd (Fd q) (by decide)⟩
  have Pk:∃o,s.heap.get? TO=some o/\o.cls≠.type "list":=by obtain⟨u,v,e⟩:=jr;exact⟨_,e,by intro q;exact absurd (Fd q) (by decide)⟩
  have o1:∃o,s.heap.get? i1=some o/\o.cls≠.type "list":=by obtain⟨o,e,c,d⟩:=h1;exact⟨_,e,by rw[c];intro q;exact absurd (Fd q) (by decide)⟩
  have o2:∃o,s.heap.get? i2=some o/\o.cls≠.type "list":=by obtain⟨o,e,c,d⟩:=h2;exact⟨_,e,by rw[c];intro q;exact absurd (Fd q) (by decide)⟩
  exact⟨fF d1,fF d2,fF d3,fF d4,d5,d6,d7,d8,d9,d10,
   pE hK I hx (hf z (by simp)) oz,pE hK I hx (hf TO (by simp)) Pk,pE hK I hx (hf i1 (by simp)) o1,pE hK I hx (hf i2 (by simp)) o2,
   pE hK I hy (hf z (by simp)) oz,pE hK I hy (hf TO (by simp)) Pk,pE hK I hy (hf i1 (by simp)) o1,pE hK I hy (hf i2 (by simp)) o2⟩
 refine⟨by simp,λi h st c hc=>?_,λi h h' st kk=>?_,?_,?_,λ_ _ _ _ _ st h=>wpAny_pyIter_zip st.1 h⟩
 ·obtain⟨hz,kX,⟨u,v,jr⟩,⟨o1,e1,c1,d1⟩,⟨o2,e2,c2,d2⟩⟩:=st
  simp only[cH,iY,or_false]at hc
  rcases hc with rfl | rfl | rfl | rfl | rfl
  ·exact⟨_,hz,λv q=>by cases q⟩
  ·exact⟨_,kX,λv q=>by cases q⟩
  ·exact⟨_,jr,λv q=>by cases q⟩
  ·exact⟨_,e1,λv q=>by rw[d1]at q;cases q⟩
  ·exact⟨_,e2,λv q=>by rw[d2]at q;cases q⟩
 ·obtain⟨hz,kX,⟨u,v,jr⟩,h1,h2⟩:=st
  exact⟨kk _ (by simp) _ hz,kk _ (by simp) _ kX,⟨u,v,kk _ (by simp) _ jr⟩,h1.at λo e=>kk _ (by simp) o e,h2.at λo e=>kk _ (by simp) o e⟩
 ·intro X hP hw hK hc i pins s σ H E I hf st hg
  obtain⟨xs,ys,x,y,hx,hy,ex,ey⟩:=hg
  obtain⟨hz,kX,⟨u,v,jr⟩,h1,h2⟩:=st
  have D:=ap X pins s σ H i xs ys hK I hf hz ⟨u,v,jr⟩ h1 h2 hx hy
  subst hP hw hK
  obtain⟨as,ra,pa,_⟩:=I.list hx
  obtain⟨bs,rb,pb,_⟩:=I.list hy
  obtain⟨ux,GI,rx⟩:=ra.get ex
  obtain⟨uy,euy,ry⟩:=rb.get ey
  refine wpAny_pyNext_zip_item D hz kX jr h1 h2 pa.isList pb.isList (x:=ux) (y:=uy) (by simpa using GI) (by simpa using euy) λh' z' TO' kz jV T' sz kk=>?_
  have fT:H s.heap.objs.size=none:=I.aH.fresh (bM _)
  have I1:Inv X pins σ (upd H s.heap.objs.size (.tup [x,y])) { s with heap:=h',toks:=s.toks }:=I.Pj (its:=[z,TO,i1,i2]) (λc o hc e=>kk c o (λq=>hc (by simp[q])) (λq=>hc (by simp[q])) (λq=>hc (by simp[q])) (λq=>hc (by simp[q])) e)
   (λc hc=>hf c (by simp only[cH,iY,or_false]at hc ⊢;rcases hc with rfl | rfl | rfl | rfl<;>simp)) (bM _) ⟨by show 2<=sizeLine;decide,[ux,uy],.cons rx (.cons ry .nil),⟨_,T',rfl,_,rfl⟩⟩
  have nT:∀c∈[z,TI,TO,i1,i2],c≠s.heap.objs.size:=λc hc q=>by
   have:∃o,s.heap.get? c=some o:=by
    simp only[cH,iY,or_false]at hc
    rcases hc with rfl | rfl | rfl | rfl | rfl
    ·exact⟨_,hz⟩
    ·exact⟨_,kX⟩
    ·exact⟨_,jr⟩
    ·obtain⟨o,e,_⟩:=h1;exact⟨o,e⟩
    ·obtain⟨o,e,_⟩:=h2;exact⟨o,e⟩
   obtain⟨o,e⟩:=this
   exact absurd (bL e) (by rw[q];exact gJ _)
  refine⟨_,rfl,wpAny_letOwnedTupleGo_zip z' λGJ GK sb=>?_⟩
  have GL:∀c∈[z],jm X pins (upd H s.heap.objs.size (.tup [x,y])) c:=λc hc=>by
   have e:c=z:=by simpa using hc
   subst e
   obtain⟨f0,fr⟩:=hf c (by simp)
   exact⟨by rw[aT (nT c (by simp))];exact f0,fr⟩
  have I2:=Inv.B4 (h':=GJ) (its:=[z]) (t':=s.toks) I1 (λc o hc e=>sb.extBut _ _ (λq=>hc (by simp[q])) e) GL
  refine⟨.ref s.heap.objs.size,_,I2,rfl,⟨_,x,y,rfl,fT,rfl,λGN df=>by rw[I.BE df hx];exact ex,λPl hy'=>by rw[I.BE hy' hy];exact ey⟩,⟨GK,sb.extBut _ _ D.TIz (kk _ _ D.TIz D.TITO D.TIi1 D.TIi2 kX),⟨ux,uy,sb.extBut _ _ D.TOz TO'⟩,kz.extBut sb.extBut D.i1z,jV.extBut sb.extBut D.i2z⟩,λc hc=>?_⟩
  rw[aT (nT c hc)]
  exact(hf c hc).1
 ·intro X hP hw hK hc i pins s σ H E I hf st hg
  obtain⟨xs,ys,hx,hy,hl⟩:=hg
  obtain⟨hz,kX,⟨u,v,jr⟩,h1,h2⟩:=st
  have D:=ap X pins s σ H i xs ys hK I hf hz ⟨u,v,jr⟩ h1 h2 hx hy
  subst hP hw hK
  obtain⟨as,ra,pa,_⟩:=I.list hx
  obtain⟨bs,rb,pb,_⟩:=I.list hy
  have la:=ra.length
  have lb:=rb.length
  refine wpAny_pyNext_zip_end (I.ok.hd hc) D hz kX jr h1 h2 pa.isList pb.isList (hl.imp (λq=>by simp;omega) λq=>by simp;omega) λh' kk=>⟨rfl,?_⟩
  exact I.B4 (its:=[z,TO,i1,i2]) (t':=s.toks) (λc o hc e=>kk c o (λq=>hc (by simp[q])) (λq=>hc (by simp[q])) (λq=>hc (by simp[q])) (λq=>hc (by simp[q])) e)
   (λc hc=>hf c (by simp only[cH,iY,or_false]at hc ⊢;rcases hc with rfl | rfl | rfl | rfl<;>simp))
def GO(K:PySem.W.Frag)(a:Addr):It :=
 ⟨λi H=>∃xs x,bQ K H a xs/\xs[i]?=some x,
  λi H v H'=>∃T x,v=.ref T/\H T=none/\H'=upd H T (.tup [.int i,x])/\∀xs,bQ K H a xs->xs[i]?=some x,
  λi H=>∃xs,bQ K H a xs/\xs.length<=i⟩
theorem b51{P:Program}{w:World}{K:PySem.W.Frag}{elts:List Expr}{k:Nat}{pos:Pos}(a z it:Addr)(jW:z≠it) :
  Turn P w K (.Tuple elts k pos) (GO K a) [z,it] z (λi h=>(∃old,IsEnum h z it i old)/\h.IsListIter it a i):=by
 refine⟨by simp,λi h st c hc=>?_,λi h h' st kk=>?_,?_,?_,λ_ _ _ _ _ st h=>by obtain⟨⟨old,e⟩,_⟩:=st;exact wpAny_pyIter_enum e h⟩
 ·obtain⟨⟨old,hz⟩,⟨o1,e1,c1,d1⟩⟩:=st
  simp only[cH,iY,or_false]at hc
  rcases hc with rfl | rfl
  ·exact⟨_,hz,λv q=>by cases q⟩
  ·exact⟨_,e1,λv q=>by rw[d1]at q;cases q⟩
 ·obtain⟨⟨old,hz⟩,h1⟩:=st
  exact⟨⟨old,kk _ (by simp) _ hz⟩,h1.at λo e=>kk _ (by simp) o e⟩
 ·intro X hP hw hK hc i pins s σ H E I hf st hg
  subst hP hw hK
  obtain⟨xs,x,hx,ex⟩:=hg
  obtain⟨⟨old,hz⟩,h1⟩:=st
  obtain⟨as,ra,pa,_⟩:=I.list hx
  obtain⟨ux,GI,rx⟩:=ra.get ex
  refine wpAny_pyNext_enum_item hz h1 pa.isList (x:=ux) (by simpa using GI) jW λh' z' kz T' sz kk=>?_
  have fT:H s.heap.objs.size=none:=I.aH.fresh (bM _)
  have I1:Inv X pins σ (upd H s.heap.objs.size (.tup [.int i,x])) { s with heap:=h',toks:=s.toks+1 }:=I.Pj (its:=[z,it]) (λc o hc e=>kk c o (λq=>hc (by simp[q])) (λq=>hc (by simp[q])) e)
   (λc hc=>hf c hc) (bM _) ⟨by show 2<=sizeLine;decide,[.int i s.toks,ux],.cons ⟨_,rfl⟩ (.cons rx .nil),⟨_,T',rfl,_,rfl⟩⟩
  have nT:∀c∈[z,it],c≠s.heap.objs.size:=λc hc q=>by
   have:∃o,s.heap.get? c=some o:=by
    simp only[cH,iY,or_false]at hc
    rcases hc with rfl | rfl
    ·exact⟨_,hz⟩
    ·obtain⟨o,e,_⟩:=h1;exact⟨o,e⟩
   obtain⟨o,e⟩:=this
   exact absurd (bL e) (by rw[q];exact gJ _)
  refine⟨_,rfl,wpAny_letOwnedTupleGo_enum z' λGJ GK sb=>?_⟩
  have GL:∀c∈[z],jm X pins (upd H s.heap.objs.size (.tup [.int i,x])) c:=λc hc=>by
   have e:c=z:=by simpa using hc
   subst e
   obtain⟨f0,fr⟩:=hf c (by simp)
   exact⟨by rw[aT (nT c (by simp))];exact f0,fr⟩
  have I2:=Inv.B4 (h':=GJ) (its:=[z]) (t':=s.toks+1) I1 (λc o hc e=>sb.extBut _ _ (λq=>hc (by simp[q])) e) GL
  refine⟨.ref s.heap.objs.size,_,I2,rfl,⟨_,x,rfl,fT,rfl,λGN df=>by rw[I.BE df hx];exact ex⟩,⟨⟨ux,by simpa using GK⟩,kz.extBut sb.extBut (fF jW)⟩,λc hc=>?_⟩
  rw[aT (nT c hc)]
  exact(hf c hc).1
 ·intro X hP hw hK hc i pins s σ H E I hf st hg
  subst hP hw hK
  obtain⟨xs,hx,hl⟩:=hg
  obtain⟨⟨old,hz⟩,h1⟩:=st
  obtain⟨as,ra,pa,_⟩:=I.list hx
  have la:=ra.length
  refine wpAny_pyNext_enum_end (I.ok.hd hc) hz h1 pa.isList (by simp;omega) λh' kk=>⟨rfl,?_⟩
  exact I.B4 (its:=[it]) (t':=s.toks) (λc o hc e=>kk c o (λq=>hc (by simp[q])) e) (λc hc=>hf c (by simp at hc ⊢;simp[hc]))
end
section
variable{X:Cx}{a b:Expr}{ta:TA}{p pos rn:Pos}{elts:List Expr}{x1:Nat}
def cR0(K:PySem.W.Frag)(ta:TA):TI:=λσ H R=>ta σ H λvs H1=>∃a b,vs=[.ref a,.ref b]/\(∃xs,bQ K H1 a xs)/\(∃ys,bQ K H1 b ys)/\R (GH K a b) H1
theorem ci2:bootBuiltins "zip"=some (.type "zip"):=by decide +kernel
theorem cB5(hg:Gl X "zip")(hm:X.mg "zip"=none)(ha:PA X [a,b] ta)(hs:starEach [a,b] X.env=[(false,eval a X.env),(false,eval b X.env)]:=by rfl)(eI:starEach [b] X.env=[(false,eval b X.env)]:=by rfl) :
  PI X (.Tuple elts x1 rn) (.Call (.Name "zip" p) [a,b] [] pos) (cR0 X.K ta):=by
 intro pins s σ H R I h
 refine Call_ (qZ I hg hm ci2 (AS (aP (ha pos pins s σ H _ I h) λus s1 zq=>?_) (by rw[hs,eI]) (by rw[eI];rfl)))
 obtain⟨vs,H1,I1,r1,q1⟩:=zq
 obtain⟨a,b,e,⟨xs,hx⟩,⟨ys,hy⟩,q⟩:=q1
 subst e
 cases r1 with
 | cons r rr =>
  cases rr with
  | cons r2 rr =>
   cases rr
   cases r
   cases r2
   obtain⟨as,ra,pa,_⟩:=I1.list hx
   obtain⟨bs,rb,pb,_⟩:=I1.list hy
   refine call_zip_2 pa.isList pb.isList λh' hz kX jr h1 h2 sz kk=>wpAny_pyIter_zip hz ?_
   refine⟨_,[s1.heap.objs.size+4,s1.heap.objs.size+2,s1.heap.objs.size+3,s1.heap.objs.size,s1.heap.objs.size+1],_,_,H1,rfl,I1.kept (t':=s1.toks) kk,cf9 a b _ _ _ _ _ (by simp),⟨hz,kX,⟨_,_,jr⟩,h1,h2⟩,λc hc=>?_,q⟩
   have hle:s1.heap.objs.size<=c:=by
    simp only[cH,iY,or_false]at hc
    rcases hc with rfl | rfl | rfl | rfl | rfl<;>omega
   exact I1.BI hle (I1.aH.fresh hle)
def cL2(K:PySem.W.Frag)(ta:TA):TI:=λσ H R=>ta σ H λvs H1=>∃a,vs=[.ref a]/\(∃xs,bQ K H1 a xs)/\R (GO K a) H1
theorem bx4:bootBuiltins "enumerate"=some (.type "enumerate"):=by decide +kernel
theorem cv3(hg:Gl X "enumerate")(hm:X.mg "enumerate"=none)(ha:PA X [a] ta)(hs:starEach [a] X.env=[(false,eval a X.env)]:=by rfl) :
  PI X (.Tuple elts x1 rn) (.Call (.Name "enumerate" p) [a] [] pos) (cL2 X.K ta):=by
 intro pins s σ H R I h
 refine Call_ (qZ I hg hm bx4 (AS (aP (ha pos pins s σ H _ I h) λus s1 zq=>?_) hs rfl))
 obtain⟨vs,H1,I1,r1,q1⟩:=zq
 obtain⟨a,e,⟨xs,hx⟩,q⟩:=q1
 subst e
 cases r1 with
 | cons r rr =>
  cases rr
  cases r
  obtain⟨as,ra,pa,_⟩:=I1.list hx
  refine call_enumerate_list pa.isList λh' hz h1 sz kk=>wpAny_pyIter_enum hz ?_
  refine⟨_,[s1.heap.objs.size+1,s1.heap.objs.size],_,_,H1,rfl,I1.kept (t':=s1.toks) kk,b51 a (s1.heap.objs.size+1) s1.heap.objs.size (Nat.succ_ne_self _),⟨⟨_,hz⟩,h1⟩,λc hc=>?_,q⟩
  have hle:s1.heap.objs.size<=c:=by
   simp only[cH,iY,or_false]at hc
   rcases hc with rfl | rfl<;>omega
  exact I1.BI hle (I1.aH.fresh hle)
end
end L2
namespace L2
open PySem PySem.Spec PyProof.Rows PySem.W PySem.Calls
section
variable{X:Cx}
def uP{α:Type}(xs:List α)(lo hi:Option Int):List α:=(xs.drop (HT.du xs.length 0 lo)).take (HT.du xs.length xs.length hi-HT.du xs.length 0 lo)
theorem bZ6(x:Str)(lo hi:Option Int):Txt.slice x lo hi=⟨(uP x.cps.toList lo hi).toArray⟩:=by
 have hx:x.length=x.cps.size:=rfl
 have e:(Fe lo hi 1 x.length).filterMap (x.cps[·]?)=uP x.cps.toList lo hi:=by
  obtain⟨h1,h2,h3⟩:=Ga lo hi x.length
  have e0:Fe lo hi 1 x.length=sliceRange (sliceBounds lo hi none x.length).1 (sliceBounds lo hi none x.length).2.1 1:=by
   cases lo<;>cases hi<;>rfl
  rw[e0,h1,h2]
  simp only[sliceRange_one,pick_run]
  unfold uP
  rw[hx,xy]
 unfold Txt.slice
 split
 ·rename_i h
  have hl:(Fe lo hi 1 x.length).length=x.length:=by
   rw[eT]at h;exact eq_of_beq h.2
  have hs:(uP x.cps.toList lo hi)=x.cps.toList:=by
   have e2:HT.du x.cps.toList.length x.cps.toList.length hi-HT.du x.cps.toList.length 0 lo=x.length:=by
    obtain⟨h1,h2,h3⟩:=Ga lo hi x.length
    have e0:Fe lo hi 1 x.length=sliceRange (sliceBounds lo hi none x.length).1 (sliceBounds lo hi none x.length).2.1 1:=by
     cases lo<;>cases hi<;>rfl
    rw[e0,h1,h2]at hl
    simp only[sliceRange_one,br,cj]at hl
    rw[xy,<- hx]
    omega
   unfold uP
   have le:HT.du x.cps.toList.length x.cps.toList.length hi<=x.cps.toList.length:=by
    cases hi with
    | none=>simp[HT.du]
    | some i=>simp only[HT.du];split<;>omega
   have le2:HT.du x.cps.toList.length 0 lo<=x.cps.toList.length:=by
    cases lo with
    | none=>simp[HT.du]
    | some i=>simp only[HT.du];split<;>omega
   rw[xy,<- hx]at e2 le le2 ⊢
   have z:HT.du x.length 0 lo=0:=by omega
   have z2:HT.du x.length x.length hi=x.length:=by omega
   rw[z,z2,List.drop_zero,Nat.sub_zero,hx,<- xy,ug]
  rw[hs]
 ·rw[e]
theorem cH9:rA X (λx lo hi H Q=>∃z,x=.str z/\z.length<=sizeLine/\Q (.str ⟨(uP z.cps.toList lo hi).toArray⟩) H):=by
 intro pins s σ H x v vl vu lo hi sl Q I rx hs pl pu h
 obtain⟨z,rfl,hz,q⟩:=h
 obtain⟨t,rfl⟩:=rx
 refine⟨"str",_,F.slot_str_getitem.lookup,typeIs_str _ _ _,?_⟩
 have fin:∀(l u:Option (Int × Tok)),l.map (·.1)=lo->u.map (·.1)=hi->partValue l=vl->partValue u=vu->wpAny (model X.prog X.w) X.A (getItem (.str z t) (.ref sl)) (EP X pins σ Q) X.xe s:=by
  intro l u h1 h2 h3 h4
  obtain⟨o,e1,e2,e3⟩:=hs
  refine wpAny_getItem_str_slice (l:=l) (u:=u) (st:=none) ⟨o,e1,e2,by rw[e3,h3,h4];rfl⟩ rfl ?_
  have e:Txt.slice z lo hi=(if(((none:Option (Int × Tok)).map (·.1)).getD 1==1&&(slicePicked z l u none).length==z.length)=true then z else⟨((slicePicked z l u none).filterMap (z.cps[·]?)).toArray⟩):=by
   unfold Txt.slice slicePicked;rw[h1,h2];rfl
  refine post_val_or_str ⟨?_,λt' k=>?_⟩
  ·rw[<-e];exact fO (Txt.slice_le z _ _) hz
  ·rw[<-e,bZ6];exact⟨.str _,H,I.tok _,⟨_,rfl⟩,q⟩
 cases pl with
 | none =>
  cases pu with
  | none=>exact fin none none rfl rfl rfl rfl
  | int j tj=>exact fin none (some (j,tj)) rfl rfl rfl rfl
 | int i ti =>
  cases pu with
  | none=>exact fin (some (i,ti)) none rfl rfl rfl rfl
  | int j tj=>exact fin (some (i,ti)) (some (j,tj)) rfl rfl rfl rfl
end
end L2
namespace L3
open PySem L2
def js:HO->Bool
 | .dG _=>false
 | _=>true
structure af(H H':Hp):Prop where
 get:∀b o,H b=some o->(h:js o=true:=by rfl)->H' b=some o
 tb:∀b ps,H b=some (.dG ps)->∃more,H' b=some (.dG (ps++more))
instance {H H':Hp}:CoeFun (af H H') λ_=>∀b o,H b=some o->(h:js o=true:=by rfl)->H' b=some o:=⟨λs=>@af.get _ _ s⟩
theorem GP{o:HO}(h:js o=false):∃ps,o=.dG ps:=by
 cases o with
 | dG ps=>exact⟨ps,rfl⟩
 | _=>cases h
theorem af.of{H H':Hp}(h:∀b o,H b=some o->H' b=some o):af H H':=⟨λb o e _=>h b o e,λb ps e=>⟨#[],by rw[h b _ e];simp⟩⟩
theorem af.refl(H:Hp):af H H:=.of λ_ _ h=>h
theorem af.trans{H H1 H2:Hp}(a:af H H1)(b:af H1 H2):af H H2 :=
 ⟨λc o h n=>b.get c o (a.get c o h n) n,λc ps h=>by
  obtain⟨m1,e1⟩:=a.tb c ps h
  obtain⟨m2,e2⟩:=b.tb c _ e1
  exact⟨m1++m2,by rw[e2,qH]⟩⟩
theorem af.any{H H':Hp}(e:af H H'){l:Addr}{o:HO}(h:H l=some o):∃o',H' l=some o':=by
 cases n:js o with
 | true=>exact⟨o,e.get l o h n⟩
 | false =>
  obtain⟨ps,rfl⟩:=GP n
  obtain⟨m,q⟩:=e.tb l ps h
  exact⟨_,q⟩
theorem af.free{H H':Hp}(e:af H H'){l:Addr}(h:H' l=Option.none):H l=Option.none:=by
 cases q:H l with
 | none=>rfl
 | some o =>
  obtain⟨o',z⟩:=e.any q
  rw[z]at h
  cases h
inductive uQ where
 | ext (φ:Addr->Heap->Prop)
 | lam (of oc:Obj) (c k:Addr)
instance:Coe (Addr->Heap->Prop) uQ:=⟨.ext⟩
def GQ(H:Hp)(k:Addr):Prop:=∃ψ,H k=some (.ext ψ)/\∀h,ψ h->∃q,h.CodeRec (.ref k) q
def jX(of oc:Obj)(c p:Addr):Heap->Prop:=λh=>h.get? p=some of/\h.get? c=some oc
structure kA(H:Hp)(p:Addr)(of oc:Obj)(c k:Addr):Prop where
 fn:H p=some (.ext (jX of oc c p))
 cell:H c=some (.own p)
 GR:GQ H k
def rE(H:Hp)(p:Addr):uQ->Prop
 | .ext φ=>H p=some (.ext (φ p))
 | .lam of oc c k=>kA H p of oc c k
theorem rE.mono{H H':Hp}{p:Addr}:∀{z:uQ},rE H p z->(∀a o,H a=some o->(∀ws,o≠.lst ws)->js o=true->H' a=some o)->rE H' p z
 | .ext φ,x,k=>k _ _ x (λws q=>by cases q) rfl
 | .lam of oc c k',x,k=>⟨k _ _ x.fn (λws q=>by cases q) rfl,k _ _ x.cell (λws q=>by cases q) rfl,let⟨ψ,e,h⟩:=x.GR;⟨ψ,k _ _ e (λws q=>by cases q) rfl,h⟩⟩
inductive D where
 | au | bl (b:Bool) | int (i:Int) | str (x:Str)
 | lst (o:Bool) (xs:List D)
 | tup (xs:List D)
 | obj (C:Addr) (ns:List Str) (xs:List D)
 | fz (xs:List D)
 | bD (z:uQ)
 deriving Inhabited
def D.pl:D->Bool
 | .lst o xs=>!o&&ym xs
 | .tup xs=>ym xs
 | _=>true
where ym:List D->Bool
 | []=>true
 | d::ds=>d.pl&&ym ds
def D.fr:D->Bool
 | .lst o xs=>o&&yn xs
 | .tup xs=>yn xs
 | .obj _ _ _=>false
 | .fz _=>false
 | _=>true
where yn:List D->Bool
 | []=>true
 | d::ds=>d.fr&&yn ds
def D.sh:D->D
 | .lst _ xs=>.lst false (yo xs)
 | .tup xs=>.tup (yo xs)
 | d=>d
where yo:List D->List D
 | []=>[]
 | d::ds=>d.sh::yo ds
theorem Pm(ds:List D):D.pl.ym ds=ds.all D.pl:=by induction ds with | nil=>rfl | cons d ds ih=>simp[D.pl.ym,ih]
theorem Pn(ds:List D):D.fr.yn ds=ds.all D.fr:=by induction ds with | nil=>rfl | cons d ds ih=>simp[D.fr.yn,ih]
theorem Po(ds:List D):D.sh.yo ds=ds.map D.sh:=by induction ds with | nil=>rfl | cons d ds ih=>simp[D.sh.yo,ih]
theorem fV(o:Bool)(xs:List D):(D.lst o xs).pl=(!o&&xs.all D.pl):=by simp[D.pl,Pm]
theorem kY(xs:List D):(D.tup xs).pl=xs.all D.pl:=by simp[D.pl,Pm]
theorem fW(o:Bool)(xs:List D):(D.lst o xs).fr=(o&&xs.all D.fr):=by simp[D.fr,Pn]
theorem rF(xs:List D):(D.tup xs).fr=xs.all D.fr:=by simp[D.fr,Pn]
theorem dD(o:Bool)(xs:List D):(D.lst o xs).sh=.lst false (xs.map D.sh):=by simp[D.sh,Po]
theorem mH(xs:List D):(D.tup xs).sh=.tup (xs.map D.sh):=by simp[D.sh,Po]
inductive R(F H:Hp):List D->List V->List Addr->Prop
 | nil:R F H [] [] []
 | au {ds vs B}:R F H ds vs B->R F H (.au::ds) (.au::vs) B
 | bl {b ds vs B}:R F H ds vs B->R F H (.bl b::ds) (.bl b::vs) B
 | int {i ds vs B}:R F H ds vs B->R F H (.int i::ds) (.int i::vs) B
 | str {x ds vs B}:R F H ds vs B->R F H (.str x::ds) (.str x::vs) B
 | shr {p ws xs ds vs B}:F p=some (.lst ws)->R F H xs ws []->R F H ds vs B->R F H (.lst false xs::ds) (.ref p::vs) B
 | own {p ws xs A ds vs B}:H p=some (.lst ws)->F p=none->R F H xs ws A->R F H ds vs B->R F H (.lst true xs::ds) (.ref p::vs) (p::(A++B))
 | tup {p ws xs A ds vs B}:H p=some (.tup ws)->R F H xs ws A->R F H ds vs B->R F H (.tup xs::ds) (.ref p::vs) (A++B)
 | obj {p C dx ns ws xs ds vs B}:H p=some (.ins C dx (ns.zip ws))->ns.length=ws.length->R F H xs ws []->R F H ds vs B->R F H (.obj C ns xs::ds) (.ref p::vs) B
 | fz {p o ws xs ds vs B}:F p=some (.bq o (.lst ws))->R F H xs ws []->R F H ds vs B->R F H (.fz xs::ds) (.ref p::vs) B
 | bD {p z ds vs B}:rE H p z->R F H ds vs B->R F H (.bD z::ds) (.ref p::vs) B
inductive S(F H:Hp):List D->List V->Prop
 | nil:S F H [] []
 | au {ds vs}:S F H ds vs->S F H (.au::ds) (.au::vs)
 | bl {b ds vs}:S F H ds vs->S F H (.bl b::ds) (.bl b::vs)
 | int {i ds vs}:S F H ds vs->S F H (.int i::ds) (.int i::vs)
 | str {x ds vs}:S F H ds vs->S F H (.str x::ds) (.str x::vs)
 | shr {p ws xs ds vs}:F p=some (.lst ws)->R F H xs ws []->S F H ds vs->S F H (.lst false xs::ds) (.ref p::vs)
 | own {p ws xs ds vs}:H p=some (.lst ws)->S F H xs ws->S F H ds vs->S F H (.lst true xs::ds) (.ref p::vs)
 | tup {p ws xs ds vs}:H p=some (.tup ws)->S F H xs ws->S F H ds vs->S F H (.tup xs::ds) (.ref p::vs)
 | obj {p C dx ns ws xs ds vs}:H p=some (.ins C dx (ns.zip ws))->ns.length=ws.length->R F H xs ws []->S F H ds vs->S F H (.obj C ns xs::ds) (.ref p::vs)
 | fz {p o ws xs ds vs}:F p=some (.bq o (.lst ws))->R F H xs ws []->S F H ds vs->S F H (.fz xs::ds) (.ref p::vs)
 | bD {p z ds vs}:rE H p z->S F H ds vs->S F H (.bD z::ds) (.ref p::vs)
section
variable{F F' H H':Hp}{d:D}{ds es:List D}{v:V}{vs ws:List V}{A B:List Addr}
theorem R.length(r:R F H ds vs A):ds.length=vs.length:=by
 induction r<;>simp_all
theorem S.length(r:S F H ds vs):ds.length=vs.length:=by
 induction r<;>simp_all
theorem R.kZ{vs:List V}{A:List Addr}(r:R F H [] vs A):vs=[]/\A=[]:=by cases r;exact⟨rfl,rfl⟩
def Rv(F H:Hp)(ds:List D)(v:V)(vs:List V)(B:List Addr):D->Prop
 | .lst true xs=>∃p ws A B',v=.ref p/\H p=some (.lst ws)/\F p=none/\R F H xs ws A/\R F H ds vs B'/\B=p::(A++B')
 | .tup xs=>∃p ws A B',v=.ref p/\H p=some (.tup ws)/\R F H xs ws A/\R F H ds vs B'/\B=A++B'
 | _=>R F H ds vs B
theorem R.rv{d:D}{ds:List D}{v:V}{vs:List V}{B:List Addr}(r:R F H (d::ds) (v::vs) B):Rv F H ds v vs B d:=by
 cases r with
 | au q=>exact q
 | bl q=>exact q
 | int q=>exact q
 | str q=>exact q
 | shr _ _ q=>exact q
 | own h f x q=>exact⟨_,_,_,_,rfl,h,f,x,q,rfl⟩
 | tup h x q=>exact⟨_,_,_,_,rfl,h,x,q,rfl⟩
 | obj _ _ _ q=>exact q
 | fz _ _ q=>exact q
 | bD _ q=>exact q
theorem R.cons(r:R F H [d] [v] A)(q:R F H ds vs B):R F H (d::ds) (v::vs) (A++B):=by
 cases r with
 | au r=>rw[r.kZ.2];exact .au q
 | bl r=>rw[r.kZ.2];exact .bl q
 | int r=>rw[r.kZ.2];exact .int q
 | str r=>rw[r.kZ.2];exact .str q
 | shr h x r=>rw[r.kZ.2];exact .shr h x q
 | own h f x r=>rw[r.kZ.2,fH];exact R.own h f x q
 | tup h x r=>rw[r.kZ.2,fH];exact R.tup h x q
 | obj h l x r=>rw[r.kZ.2];exact .obj h l x q
 | fz h x r=>rw[r.kZ.2];exact .fz h x q
 | bD h r=>rw[r.kZ.2];exact .bD h q
theorem R.dh(r:R F H (d::ds) vs A):∃v bW A1 A2,vs=v::bW/\A=A1++A2/\R F H [d] [v] A1/\R F H ds bW A2:=by
 cases r with
 | au r=>exact⟨_,_,[],_,rfl,rfl,.au .nil,r⟩
 | bl r=>exact⟨_,_,[],_,rfl,rfl,.bl .nil,r⟩
 | int r=>exact⟨_,_,[],_,rfl,rfl,.int .nil,r⟩
 | str r=>exact⟨_,_,[],_,rfl,rfl,.str .nil,r⟩
 | shr h x r=>exact⟨_,_,[],_,rfl,rfl,.shr h x .nil,r⟩
 | @own p _ _ A1 _ _ B1 h f x r=>exact⟨_,_,p::A1,B1,rfl,rfl,by simpa using R.own h f x .nil,r⟩
 | @tup p _ _ A1 _ _ B1 h x r=>exact⟨_,_,A1,B1,rfl,rfl,by simpa using R.tup h x .nil,r⟩
 | obj h l x r=>exact⟨_,_,[],_,rfl,rfl,.obj h l x .nil,r⟩
 | fz h x r=>exact⟨_,_,[],_,rfl,rfl,.fz h x .nil,r⟩
 | bD h r=>exact⟨_,_,[],_,rfl,rfl,.bD h .nil,r⟩
theorem S.cons(r:S F H [d] [v])(q:S F H ds vs):S F H (d::ds) (v::vs):=by
 cases r with
 | au r=>exact .au q
 | bl r=>exact .bl q
 | int r=>exact .int q
 | str r=>exact .str q
 | shr h x r=>exact .shr h x q
 | own h x r=>exact .own h x q
 | tup h x r=>exact .tup h x q
 | obj h l x r=>exact .obj h l x q
 | fz h x r=>exact .fz h x q
 | bD h r=>exact .bD h q
theorem S.dh(r:S F H (d::ds) vs):∃v bW,vs=v::bW/\S F H [d] [v]/\S F H ds bW:=by
 cases r with
 | au r=>exact⟨_,_,rfl,.au .nil,r⟩
 | bl r=>exact⟨_,_,rfl,.bl .nil,r⟩
 | int r=>exact⟨_,_,rfl,.int .nil,r⟩
 | str r=>exact⟨_,_,rfl,.str .nil,r⟩
 | shr h x r=>exact⟨_,_,rfl,.shr h x .nil,r⟩
 | own h x r=>exact⟨_,_,rfl,.own h x .nil,r⟩
 | tup h x r=>exact⟨_,_,rfl,.tup h x .nil,r⟩
 | obj h l x r=>exact⟨_,_,rfl,.obj h l x .nil,r⟩
 | fz h x r=>exact⟨_,_,rfl,.fz h x .nil,r⟩
 | bD h r=>exact⟨_,_,rfl,.bD h .nil,r⟩
theorem R.append:∀{ds:List D} {vs:List V} {A:List Addr},R F H ds vs A->R F H es ws B->R F H (ds++es) (vs++ws) (A++B)
 | [],_,_,r,q=>by cases r;exact q
 | d::ds,_,_,r,q=>by
  obtain⟨v,bW,A1,A2,rfl,rfl,h1,h2⟩:=r.dh
  simpa using h1.cons (R.append h2 q)
theorem S.append:∀{ds:List D} {vs:List V},S F H ds vs->S F H es ws->S F H (ds++es) (vs++ws)
 | [],_,r,q=>by cases r;exact q
 | d::ds,_,r,q=>by
  obtain⟨v,bW,rfl,h1,h2⟩:=r.dh
  exact h1.cons (S.append h2 q)
theorem R.split:∀{ds:List D} {vs:List V} {A:List Addr},R F H (ds++es) vs A->∃v1 v2 A1 A2,vs=v1++v2/\A=A1++A2/\R F H ds v1 A1/\R F H es v2 A2
 | [],vs,A,r=>⟨[],vs,[],A,rfl,rfl,.nil,r⟩
 | d::ds,_,_,r=>by
  obtain⟨v,bW,A1,A2,rfl,rfl,h1,h2⟩:=R.dh (ds:=ds++es) r
  obtain⟨v1,v2,B1,B2,rfl,rfl,h3,h4⟩:=R.split (ds:=ds) h2
  exact⟨v::v1,v2,A1++B1,B2,rfl,by simp,h1.cons h3,h4⟩
theorem R.get:∀{ds:List D} {vs:List V} {A:List Addr} {i:Nat},R F H ds vs A->ds[i]?=some d->∃v A1,vs[i]?=some v/\R F H [d] [v] A1/\A1 ⊆ A
 | [],_,_,_,_,e=>by simp at e
 | d'::ds,_,_,i,r,e=>by
  obtain⟨v,bW,A1,A2,rfl,rfl,h1,h2⟩:=r.dh
  cases i with
  | zero=>simp at e;subst e;exact⟨v,A1,rfl,h1,by simp⟩
  | succ i =>
   obtain⟨w,B1,e2,q,sb⟩:=R.get (ds:=ds) (i:=i) h2 (by simpa using e)
   exact⟨w,B1,by simpa using e2,q,λx hx=>dq _ (sb hx)⟩
theorem S.get:∀{ds:List D} {vs:List V} {i:Nat},S F H ds vs->ds[i]?=some d->∃v,vs[i]?=some v/\S F H [d] [v]
 | [],_,_,_,e=>by simp at e
 | d'::ds,_,i,r,e=>by
  obtain⟨v,bW,rfl,h1,h2⟩:=r.dh
  cases i with
  | zero=>simp at e;subst e;exact⟨v,rfl,h1⟩
  | succ i =>
   obtain⟨w,e2,q⟩:=S.get (ds:=ds) (i:=i) h2 (by simpa using e)
   exact⟨w,by simpa using e2,q⟩
theorem S.get':∀{ds:List D} {vs:List V} {i:Nat},S F H ds vs->vs[i]?=some v->∃d,ds[i]?=some d/\S F H [d] [v]
 | [],_,_,r,e=>by cases r;simp at e
 | d'::ds,_,i,r,e=>by
  obtain⟨v,bW,rfl,h1,h2⟩:=r.dh
  cases i with
  | zero=>simp at e;subst e;exact⟨d',rfl,h1⟩
  | succ i =>
   obtain⟨w,e2,q⟩:=S.get' (ds:=ds) (i:=i) h2 (by simpa using e)
   exact⟨w,by simpa using e2,q⟩
theorem S.take:∀{ds:List D} {vs:List V} (n:Nat),S F H ds vs->S F H (ds.take n) (vs.take n)
 | _,_,0,r=>by simpa using S.nil
 | [],_,n+1,r=>by cases r;exact .nil
 | d::ds,_,n+1,r=>by
  obtain⟨v,bW,rfl,h1,h2⟩:=r.dh
  exact h1.cons (S.take n h2)
theorem S.drop:∀{ds:List D} {vs:List V} (n:Nat),S F H ds vs->S F H (ds.drop n) (vs.drop n)
 | _,_,0,r=>by simpa using r
 | [],_,n+1,r=>by cases r;exact .nil
 | d::ds,_,n+1,r=>by
  obtain⟨v,bW,rfl,h1,h2⟩:=r.dh
  exact S.drop n h2
theorem i7{p:Addr}{o:HO}(h:Rd F p o)(s:af F F')(n:js o=true:=by rfl):Rd F' p o:=by
 rcases h with h | ⟨u,h⟩
 ·exact .inl (s.get _ _ h n)
 ·exact .inr ⟨u,s _ _ h⟩
theorem R.s(r:R F H ds vs A):S F H ds vs:=by
 induction r with
 | nil=>exact .nil
 | au _ ih=>exact .au ih
 | bl _ ih=>exact .bl ih
 | int _ ih=>exact .int ih
 | str _ ih=>exact .str ih
 | shr h x _ _ ih=>exact .shr h x ih
 | own h f _ _ i1 i2=>exact .own h i1 i2
 | tup h _ _ i1 i2=>exact .tup h i1 i2
 | obj h l x _ _ ih=>exact .obj h l x ih
 | fz h x _ _ ih=>exact .fz h x ih
 | bD h _ ih=>exact .bD h ih
structure gn(W:List Addr)(H H':Hp):Prop where
 get:∀a o,H a=some o->a ∉ W->(h:js o=true:=by rfl)->H' a=some o
instance {W:List Addr} {H H':Hp}:CoeFun (gn W H H') λ_=>∀a o,H a=some o->a ∉ W->(h:js o=true:=by rfl)->H' a=some o:=⟨λs=>@gn.get _ _ _ s⟩
def gQ(W:List Addr)(H:Hp):Prop:=∀a∈W,∃ws,H a=some (.lst ws)
theorem R.keep{W:List Addr}(hf:af F F')(hb:gn W H H')(hl:gQ W H)(r:R F H ds vs A)(hn:∀a∈A,F' a=none)(hd:∀a∈A,a ∉ W):R F' H' ds vs A:=by
 induction r with
 | nil=>exact .nil
 | au _ ih=>exact .au (ih hn hd)
 | bl _ ih=>exact .bl (ih hn hd)
 | int _ ih=>exact .int (ih hn hd)
 | str _ ih=>exact .str (ih hn hd)
 | shr h x _ i1 ih=>exact .shr (hf _ _ h) (i1 (by simp) (by simp)) (ih hn hd)
 | own h f _ _ i1 i2 =>
  refine .own (hb _ _ h (hd _ (by simp))) (hn _ (by simp)) (i1 (λa ha=>hn a ?_) λa ha=>hd a ?_) (i2 (λa ha=>hn a ?_) λa ha=>hd a ?_)<;>simp[ha]
 | @tup p ws _ _ _ _ _ h _ _ i1 i2 =>
  refine .tup (hb _ _ h λz=>?_) (i1 (λa ha=>hn a ?_) λa ha=>hd a ?_) (i2 (λa ha=>hn a ?_) λa ha=>hd a ?_)<;>try simp[ha]
  obtain⟨q,e⟩:=hl _ z
  rw[h]at e;cases e
 | obj h l x _ i1 ih =>
  refine .obj (hb _ _ h λz=>?_) l (i1 (by simp) (by simp)) (ih hn hd)
  obtain⟨q,e⟩:=hl _ z
  rw[h]at e;cases e
 | fz h x _ i1 ih=>exact .fz (hf _ _ h) (i1 (by simp) (by simp)) (ih hn hd)
 | bD h _ ih =>
  exact .bD (h.mono λa o e n t=>hb.get a o e (λz=>by
   obtain⟨q,e'⟩:=hl _ z
   rw[e]at e';cases e';exact n _ rfl) t) (ih hn hd)
theorem gn.same(h:af H H'):gn [] H H':=⟨λa o e _ n=>h.get a o e n⟩
theorem gQ.nil:gQ [] H:=λa h=>absurd h (by simp)
theorem R.grow(hf:af F F')(hb:af H H')(r:R F H ds vs A)(hn:∀a∈A,F' a=none):R F' H' ds vs A :=
 r.keep hf (gn.same hb) gQ.nil hn (by simp)
theorem R.shared(hf:af F F')(hb:af H H')(r:R F H ds vs []):R F' H' ds vs []:=r.grow hf hb (by simp)
theorem S.mono(hf:af F F')(hb:af H H')(r:S F H ds vs):S F' H' ds vs:=by
 induction r with
 | nil=>exact .nil
 | au _ ih=>exact .au ih
 | bl _ ih=>exact .bl ih
 | int _ ih=>exact .int ih
 | str _ ih=>exact .str ih
 | shr h x _ ih=>exact .shr (hf _ _ h) (x.shared hf hb) ih
 | own h _ _ i1 i2=>exact .own (hb _ _ h) i1 i2
 | tup h _ _ i1 i2=>exact .tup (hb _ _ h) i1 i2
 | obj h l x _ ih=>exact .obj (hb _ _ h) l (x.shared hf hb) ih
 | fz h x _ ih=>exact .fz (hf _ _ h) (x.shared hf hb) ih
 | bD h _ ih=>exact .bD (h.mono λa o e _ t=>hb.get a o e t) ih
theorem S.r(s:S F H ds vs)(p:ds.all D.pl=true):R F H ds vs []:=by
 induction s with
 | nil=>exact .nil
 | au _ ih=>exact .au (ih (by simpa[D.pl]using p))
 | bl _ ih=>exact .bl (ih (by simpa[D.pl]using p))
 | int _ ih=>exact .int (ih (by simpa[D.pl]using p))
 | str _ ih=>exact .str (ih (by simpa[D.pl]using p))
 | shr h x _ ih=>exact .shr h x (ih (by simp[fV]at p;simpa using p.2))
 | own h _ _ i1 i2=>simp[fV]at p
 | tup h _ _ i1 i2 =>
  rw[dA,kY,eT]at p
  simpa using R.tup h (i1 p.1) (i2 p.2)
 | obj h l x _ ih=>exact .obj h l x (ih (by simpa[D.pl]using p))
 | fz h x _ ih=>exact .fz h x (ih (by simpa[D.pl]using p))
 | bD h _ ih=>exact .bD h (ih (by simpa[D.pl]using p))
theorem R.pl(r:R F H ds vs []):ds.all D.pl=true:=by
 generalize e:([]:List Addr)=A at r
 induction r with
 | nil=>rfl
 | au _ ih=>simp[D.pl];simpa using ih e
 | bl _ ih=>simp[D.pl];simpa using ih e
 | int _ ih=>simp[D.pl];simpa using ih e
 | str _ ih=>simp[D.pl];simpa using ih e
 | shr h x _ i1 ih=>simp only[dA,fV,i1 rfl,ih e];rfl
 | own h f _ _ i1 i2=>cases e
 | tup h _ _ i1 i2 =>
  obtain⟨e1,e2⟩:=qO.mp e.symm
  simp only[dA,kY,i1 e1.symm,i2 e2.symm];rfl
 | obj h l x _ i1 ih=>simp[D.pl];simpa using ih e
 | fz h x _ i1 ih=>simp[D.pl];simpa using ih e
 | bD h _ ih=>simp[D.pl];simpa using ih e
theorem D.B5:∀{d:D},d.pl=true->d.sh=d
 | .au,_=>rfl
 | .bl _,_=>rfl
 | .int _,_=>rfl
 | .str _,_=>rfl
 | .obj _ _ _,_=>rfl
 | .fz _,_=>rfl
 | .bD _,_=>rfl
 | .lst o xs,h=>by
  rw[fV,eT]at h
  have:∀(l:List D),(∀x∈l,x∈xs)->l.all D.pl=true->l.map D.sh=l:=by
   intro l hl hp
   induction l with
   | nil=>rfl
   | cons x l ih =>
    simp only[dA,eT]at hp
    have hx:x∈xs:=hl x (by simp)
    rw[dy,D.B5 hp.1,ih (λy hy=>hl y (by simp[hy])) hp.2]
  rw[dD,this xs (λ_ h=>h) h.2]
  cases o<;>simp_all
 | .tup xs,h=>by
  rw[kY]at h
  have:∀(l:List D),(∀x∈l,x∈xs)->l.all D.pl=true->l.map D.sh=l:=by
   intro l hl hp
   induction l with
   | nil=>rfl
   | cons x l ih =>
    simp only[dA,eT]at hp
    have hx:x∈xs:=hl x (by simp)
    rw[dy,D.B5 hp.1,ih (λy hy=>hl y (by simp[hy])) hp.2]
  rw[mH,this xs (λ_ h=>h) h]
termination_by d=>sizeOf d
theorem k7{l:List D}(h:l.all D.pl=true):l.map D.sh=l:=by
 induction l with
 | nil=>rfl
 | cons x l ih =>
  simp only[dA,eT]at h
  rw[dy,D.B5 h.1,ih h.2]
theorem S.frozen(e:af F H)(s:S F H ds vs):R H H (ds.map D.sh) vs []:=by
 induction s with
 | nil=>exact .nil
 | au _ ih=>exact .au ih
 | bl _ ih=>exact .bl ih
 | int _ ih=>exact .int ih
 | str _ ih=>exact .str ih
 | shr h x _ ih =>
  rw[dy,dD,k7 x.pl]
  exact .shr (e _ _ h) (x.shared e (af.refl _)) ih
 | own h _ _ i1 i2=>rw[dy,dD];exact .shr h i1 i2
 | tup h _ _ i1 i2=>rw[dy,mH];simpa using R.tup h i1 i2
 | obj h l x _ ih=>exact .obj h l (x.shared e (af.refl _)) ih
 | fz h x _ ih=>exact .fz (e _ _ h) (x.shared e (af.refl _)) ih
 | bD h _ ih=>exact .bD h ih
def bq(F H:Hp)(A:List Addr):Hp:=λa=>if a∈A then H a else F a
theorem iH(e:af F H):af F (bq F H A):=⟨λa o h n=>by unfold bq;split;exact e.get _ _ h n;exact h,λa ps h=>by unfold bq;split;exact e.tb _ _ h;exact⟨#[],by rw[h];simp⟩⟩
theorem nI(e:af F H):af (bq F H A) H:=⟨λa o h n=>by unfold bq at h;split at h;exact h;exact e.get _ _ h n,λa ps h=>by unfold bq at h;split at h;exact⟨#[],by rw[h];simp⟩;exact e.tb _ _ h⟩
theorem pF{a:Addr}(h:a ∉ A):bq F H A a=F a:=by unfold bq;rw[if_neg h]
theorem cA9{a:Addr}(h:a∈A):bq F H A a=H a:=by unfold bq;rw[if_pos h]
theorem R.bq(e:af F H)(r:R F H ds vs A):∀A',A ⊆ A'->R (L3.bq F H A') H (ds.map D.sh) vs []:=by
 induction r with
 | nil=>exact λ_ _=>.nil
 | au _ ih=>exact λA' h=>.au (ih A' h)
 | bl _ ih=>exact λA' h=>.bl (ih A' h)
 | int _ ih=>exact λA' h=>.int (ih A' h)
 | str _ ih=>exact λA' h=>.str (ih A' h)
 | shr h x _ i1 ih =>
  intro A' hA
  rw[dy,dD,k7 x.pl]
  exact .shr (iH e _ _ h) (x.shared (iH e) (af.refl _)) (ih A' hA)
 | own h f _ _ i1 i2 =>
  intro A' hA
  rw[dy,dD]
  exact .shr ((cA9 (hA (by simp))).trans h) (i1 A' λa ha=>hA (by simp[ha])) (i2 A' λa ha=>hA (by simp[ha]))
 | tup h _ _ i1 i2 =>
  intro A' hA
  rw[dy,mH]
  simpa using R.tup h (i1 A' λa ha=>hA (by simp[ha])) (i2 A' λa ha=>hA (by simp[ha]))
 | obj h l x _ i1 ih=>exact λA' hA=>.obj h l (x.shared (iH e) (af.refl _)) (ih A' hA)
 | fz h x _ i1 ih=>exact λA' hA=>.fz (iH e _ _ h) (x.shared (iH e) (af.refl _)) (ih A' hA)
 | bD h _ ih=>exact λA' hA=>.bD h (ih A' hA)
theorem R.lists(r:R F H ds vs A):∀a∈A,(∃ws,H a=some (.lst ws))/\F a=none:=by
 induction r with
 | nil=>simp
 | au _ ih=>exact ih
 | bl _ ih=>exact ih
 | int _ ih=>exact ih
 | str _ ih=>exact ih
 | shr h x _ i1 ih=>exact ih
 | own h f _ _ i1 i2 =>
  intro a ha
  rcases cH.mp ha with rfl | ha
  ·exact⟨⟨_,h⟩,f⟩
  ·exact(cI.mp ha).elim (i1 a) (i2 a)
 | tup h _ _ i1 i2=>exact λa ha=>(cI.mp ha).elim (i1 a) (i2 a)
 | obj h l x _ i1 ih=>exact ih
 | fz h x _ i1 ih=>exact ih
 | bD h _ ih=>exact ih
theorem R.pG(r:R F H ds vs A)(hd:ds.all D.fr=true)(e:af F' F):R F' H ds vs A:=by
 induction r with
 | nil=>exact .nil
 | au _ ih=>exact .au (ih (by simpa[D.fr]using hd))
 | bl _ ih=>exact .bl (ih (by simpa[D.fr]using hd))
 | int _ ih=>exact .int (ih (by simpa[D.fr]using hd))
 | str _ ih=>exact .str (ih (by simpa[D.fr]using hd))
 | shr h x _ i1 ih=>simp[fW]at hd
 | own h f _ _ i1 i2 =>
  rw[dA,fW,eT,kQ]at hd
  exact .own h (e.free f) (i1 hd.1) (i2 hd.2)
 | tup h _ _ i1 i2 =>
  rw[dA,rF,eT]at hd
  exact .tup h (i1 hd.1) (i2 hd.2)
 | obj h l x _ i1 ih=>simp[D.fr]at hd
 | fz h x _ i1 ih=>simp[D.fr]at hd
 | bD h _ ih=>exact .bD h (ih (by simpa[D.fr]using hd))
theorem R.inj(r:R F H ds vs A):∀{B:List Addr},R F H ds vs B->A=B:=by
 induction r with
 | nil=>exact λq=>q.kZ.2.symm
 | au _ ih=>exact λq=>ih q.rv
 | bl _ ih=>exact λq=>ih q.rv
 | int _ ih=>exact λq=>ih q.rv
 | str _ ih=>exact λq=>ih q.rv
 | shr h x _ i1 ih=>exact λq=>ih q.rv
 | own h f _ _ i1 i2 =>
  intro B q
  obtain⟨p,ws,A,B',e,h',f',x',q',rfl⟩:=q.rv
  cases e
  rw[h]at h';cases h'
  rw[i1 x',i2 q']
 | tup h _ _ i1 i2 =>
  intro B q
  obtain⟨p,ws,A,B',e,h',x',q',rfl⟩:=q.rv
  cases e
  rw[h]at h';cases h'
  rw[i1 x',i2 q']
 | obj h l x _ i1 ih=>exact λq=>ih q.rv
 | fz h x _ i1 ih=>exact λq=>ih q.rv
 | bD h _ ih=>exact λq=>ih q.rv
theorem R.perm{ps qs:List (D × V)}(hp:ps.Perm qs):∀{A:List Addr},R F H (ps.map (·.1)) (ps.map (·.2)) A->∃A',R F H (qs.map (·.1)) (qs.map (·.2)) A'/\A.Perm A':=by
 induction hp with
 | nil=>exact λr=>⟨_,r,.refl _⟩
 | cons x _ ih =>
  intro A r
  obtain⟨v,bW,A1,A2,e,rfl,h1,h2⟩:=R.dh r
  obtain⟨rfl,rfl⟩:=nh e
  obtain⟨A',r',p⟩:=ih h2
  exact⟨A1++A',h1.cons r',p.append_left _⟩
 | swap x y l =>
  intro A r
  obtain⟨v,bW,A1,A2,e,rfl,h1,h2⟩:=R.dh r
  obtain⟨rfl,rfl⟩:=nh e
  obtain⟨v2,GS,B1,B2,e,rfl,h3,h4⟩:=R.dh h2
  obtain⟨rfl,rfl⟩:=nh e
  exact⟨B1++(A1++B2),h3.cons (h1.cons h4),by rw[<-eE,<- eE];exact oS.append_right _⟩
 | trans _ _ i1 i2 =>
  intro A r
  obtain⟨A',r',p⟩:=i1 r
  obtain⟨A2,r2,p2⟩:=i2 r'
  exact⟨A2,r2,p.trans p2⟩
def Full(F H:Hp):Prop:=∀a o,H a=some o->(∀ws,o≠.lst ws)->F a=some o
theorem Full.refl(H:Hp):Full H H:=λ_ _ h _=>h
theorem R.full(hF:Full F H)(hs:af F H')(r:R F H ds vs A)(e:A=[]):R F H' ds vs []:=by
 induction r with
 | nil=>exact .nil
 | au _ ih=>exact .au (ih e)
 | bl _ ih=>exact .bl (ih e)
 | int _ ih=>exact .int (ih e)
 | str _ ih=>exact .str (ih e)
 | shr h x _ i1 ih=>exact .shr h (i1 rfl) (ih e)
 | own h f _ _ i1 i2=>cases e
 | tup h _ _ i1 i2 =>
  obtain⟨e1,e2⟩:=qO.mp e
  exact R.tup (A:=[]) (B:=[]) (hs _ _ (hF _ _ h (by intro ws z;cases z))) (i1 e1) (i2 e2)
 | obj h l x _ i1 ih=>exact .obj (hs _ _ (hF _ _ h (by intro ws z;cases z))) l (i1 rfl) (ih e)
 | fz h x _ i1 ih=>exact .fz h (i1 rfl) (ih e)
 | bD h _ ih=>exact .bD (h.mono λa o e n t=>hs.get a o (hF a o e n) t) (ih e)
open Classical in
def snap(F H:Hp):Hp:=λa=>if(∃o,H a=some o/\∀ws,o≠.lst ws)then H a else F a
theorem uR:Full (snap F H) H:=λa o h n=>by unfold snap;rw[if_pos ⟨o,h,n⟩];exact h
theorem rG(e:af F H):af F (snap F H):=⟨λa o h n=>by
 unfold snap;split
 ·exact e.get a o h n
 ·exact h,λa ps h=>by
 unfold snap;split
 ·exact e.tb a ps h
 ·exact⟨#[],by rw[h];simp⟩⟩
theorem ch8(e:af F H):af (snap F H) H:=⟨λa o h n=>by
 unfold snap at h;split at h
 ·exact h
 ·exact e.get a o h n,λa ps h=>by
 unfold snap at h;split at h
 ·exact⟨#[],by rw[h];simp⟩
 ·exact e.tb a ps h⟩
theorem b57(e:af F H){a:Addr}{ws:List V}(h:snap F H a=some (.lst ws)):F a=some (.lst ws):=by
 unfold snap at h;split at h
 ·rename_i z
  obtain⟨o,h1,h2⟩:=z
  rw[h]at h1;exact absurd (dn h1).symm (h2 ws)
 ·exact h
theorem b19{a:Addr}{ws:List V}(h:H a=some (.lst ws))(n:F a=none):snap F H a=none:=by
 unfold snap;split
 ·rename_i z
  obtain⟨o,h1,h2⟩:=z
  rw[h]at h1;exact absurd (dn h1).symm (h2 ws)
 ·exact n
end
end L3
namespace L3
open PySem L2
abbrev Dl:=List (Option D)
inductive RS(F H:Hp):Dl->St->List Addr->Prop
 | nil:RS F H [] [] []
 | au {δ σ o C}:RS F H δ σ C->RS F H (none::δ) (o::σ) C
 | eo {d v A δ σ C}:R F H [d] [v] A->RS F H δ σ C->RS F H (some d::δ) (some v::σ) (A++C)
theorem iJ{A B:List Addr}:(A++B).Nodup↔A.Nodup/\B.Nodup/\∀a∈A,a ∉ B:=by
 rw[List.nodup_append]
 constructor
 ·rintro⟨h1,h2,h3⟩;exact⟨h1,h2,λa ha hb=>h3 a ha a hb rfl⟩
 ·rintro⟨h1,h2,h3⟩;exact⟨h1,h2,λa ha b hb e=>h3 a ha (e ▸ hb)⟩
section
variable{F F' H H':Hp}{d:D}{v:V}{δ:Dl}{σ:St}{A C:List Addr}{i:Nat}
theorem RS.length(r:RS F H δ σ C):δ.length=σ.length:=by induction r<;>simp_all
theorem RS.pick:∀{δ:Dl} {σ:St} {C:List Addr} {i:Nat},RS F H δ σ C->δ[i]?=some (some d)->∃v A C',σ[i]?=some (some v)/\R F H [d] [v] A/\RS F H (δ.set i none) σ C'/\C.Perm (A++C')
 | _,_,_,_,.nil,e=>by simp at e
 | _,_,_,i,.au r,e=>by
  cases i with
  | zero=>simp at e
  | succ i =>
   obtain⟨v,A,C',e1,h1,h2,p⟩:=RS.pick r (by simpa using e)
   exact⟨v,A,C',by simpa using e1,h1,.au h2,p⟩
 | _,_,_,i,.eo (A:=A0) (C:=C0) h r,e=>by
  cases i with
  | zero =>
   simp at e;subst e
   exact⟨_,A0,C0,rfl,h,.au r,.refl _⟩
  | succ i =>
   obtain⟨v,A,C',e1,h1,h2,p⟩:=RS.pick r (by simpa using e)
   refine⟨v,A,A0++C',by simpa using e1,h1,.eo h h2,(p.append_left A0).trans ?_⟩
   rw[<-eE,<- eE]
   exact oS.append_right _
theorem RS.fill:∀{δ:Dl} {σ:St} {C:List Addr} {i:Nat},RS F H δ σ C->δ[i]?=some none->σ[i]?=some (some v)->R F H [d] [v] A->∃C',RS F H (δ.set i (some d)) σ C'/\C'.Perm (A++C)
 | _,_,_,_,.nil,e,_,_=>by simp at e
 | _,_,_,i,.au r,e,e2,h=>by
  cases i with
  | zero=>simp at e2;subst e2;exact⟨_,.eo h r,.refl _⟩
  | succ i =>
   obtain⟨C',h1,p⟩:=RS.fill r (by simpa using e) (by simpa using e2) h
   exact⟨C',.au h1,p⟩
 | _,_,_,i,.eo (A:=A0) (C:=C0) h0 r,e,e2,h=>by
  cases i with
  | zero=>simp at e
  | succ i =>
   obtain⟨C',h1,p⟩:=RS.fill r (by simpa using e) (by simpa using e2) h
   refine⟨A0++C',.eo h0 h1,(p.append_left A0).trans ?_⟩
   rw[<-eE,<- eE]
   exact oS.append_right _
theorem RS.drop:∀{δ:Dl} {σ:St} {C:List Addr} (i:Nat),RS F H δ σ C->∃C',RS F H (δ.set i none) σ C'/\C'.Sublist C
 | _,_,_,_,.nil=>⟨_,.nil,.refl _⟩
 | _,_,_,i,.au r=>by
  cases i with
  | zero=>exact⟨_,.au r,.refl _⟩
  | succ i=>obtain⟨C',h,s⟩:=RS.drop i r;exact⟨C',.au h,s⟩
 | _,_,_,i,.eo (A:=A0) h0 r=>by
  cases i with
  | zero=>exact⟨_,.au r,List.sublist_append_right _ _⟩
  | succ i=>obtain⟨C',h,s⟩:=RS.drop i r;exact⟨_,.eo h0 h,(Nn A0).append s⟩
theorem RS.uS:∀{δ:Dl} {σ:St} {C:List Addr} {i:Nat} (o:Option V),RS F H δ σ C->(δ[i]?=some none\/δ[i]?=none)->RS F H δ (σ.set i o) C
 | _,_,_,_,_,.nil,_=>.nil
 | _,_,_,i,_,.au r,e=>by
  cases i with
  | zero=>exact .au r
  | succ i=>exact .au (RS.uS _ r (by simpa using e))
 | _,_,_,i,_,.eo h0 r,e=>by
  cases i with
  | zero=>simp at e
  | succ i=>exact .eo h0 (RS.uS _ r (by simpa using e))
theorem RS.keep{W:List Addr}(hf:af F F')(hb:gn W H H')(hl:gQ W H)(r:RS F H δ σ C)(hn:∀a∈C,F' a=none)(hd:∀a∈C,a ∉ W):RS F' H' δ σ C:=by
 induction r with
 | nil=>exact .nil
 | au _ ih=>exact .au (ih hn hd)
 | eo h _ ih=>exact .eo (h.keep hf hb hl (λa ha=>hn a (by simp[ha])) λa ha=>hd a (by simp[ha])) (ih (λa ha=>hn a (by simp[ha])) λa ha=>hd a (by simp[ha]))
theorem RS.lists(r:RS F H δ σ C):∀a∈C,(∃ws,H a=some (.lst ws))/\F a=none:=by
 induction r with
 | nil=>simp
 | au _ ih=>exact ih
 | eo h _ ih=>exact λa ha=>(cI.mp ha).elim (h.lists a) (ih a)
end
structure Bs where
 H0:Hp
 F0:Hp
inductive da3(H0 F H:Hp)(σ:St)(δ:Dl)(ts:List (D × V)):Prop
 | mk (A C) (r:R F H (ts.map (·.1)) (ts.map (·.2)) A) (s:RS F H δ σ C) (nd:(A++C).Nodup) (fr:∀a∈A++C,H0 a=none)
structure ao(B:Bs)(F H:Hp)(σ:St)(δ:Dl)(ts:List (D × V)):Prop where
 ext:af F H
 b1:af B.H0 H
 b2:af B.F0 F
 b3:∀a ws,F a=some (.lst ws)->B.F0 a=some (.lst ws)\/B.H0 a=none
 own:da3 B.H0 F H σ δ ts
section
variable{B:Bs}{F F' H H':Hp}{d:D}{v:V}{δ:Dl}{σ:St}{ts ps:List (D × V)}{A C W:List Addr}{i:Nat}{p:Addr}{xs ys:List D}{vs ws:List V}
theorem ao.look(c:ao B F H σ δ ts)(e:δ[i]?=some (some d)):∃v,σ[i]?=some (some v)/\S F H [d] [v]:=by
 obtain⟨A,C,r,s,nd,fr⟩:=c.own
 obtain⟨v,A',C',e1,h1,h2,p⟩:=s.pick e
 exact⟨v,e1,h1.s⟩
theorem ao.len(c:ao B F H σ δ ts):δ.length=σ.length:=let⟨_,_,_,s,_,_⟩:=c.own;s.length
theorem ao.grow(c:ao B F H σ δ ts)(h:af H H'):ao B F H' σ δ ts:=by
 obtain⟨A,C,r,s,nd,fr⟩:=c.own
 exact⟨c.ext.trans h,c.b1.trans h,c.b2,c.b3,A,C,r.grow (af.refl _) h λa ha=>(r.lists a ha).2,s.keep (af.refl _) (gn.same h) gQ.nil (λa ha=>(s.lists a ha).2) (by simp),nd,fr⟩
theorem ao.pop(c:ao B F H σ δ ((d,v)::ts)):ao B F H σ δ ts:=by
 obtain⟨A,C,r,s,nd,fr⟩:=c.own
 obtain⟨w,bW,A1,A2,e,rfl,h1,h2⟩:=R.dh r
 obtain⟨rfl,rfl⟩:=nh e
 refine⟨c.ext,c.b1,c.b2,c.b3,A2,C,h2,s,?_,λa ha=>fr a (by simp at ha ⊢;exact .inr ha)⟩
 rw[eE]at nd
 exact(iJ.mp nd).2.1
theorem ao.top(c:ao B F H σ δ ((d,v)::ts)):S F H [d] [v]:=by
 obtain⟨A,C,r,s,nd,fr⟩:=c.own
 obtain⟨w,bW,A1,A2,e,rfl,h1,h2⟩:=R.dh r
 obtain⟨rfl,rfl⟩:=nh e
 exact h1.s
theorem ao.pushS(c:ao B F H σ δ ts)(s:S F H [d] [v])(pl:d.pl=true):ao B F H σ δ ((d,v)::ts):=by
 obtain⟨A,C,r,q,nd,fr⟩:=c.own
 exact⟨c.ext,c.b1,c.b2,c.b3,A,C,(s.r (by simp[pl])).cons r,q,nd,fr⟩
theorem af.upd{o:HO}(h:H p=none):af H (upd H p o):=.of λb u e=>by rw[aT (dW e h)];exact e
theorem ao.pack(c:ao B F H σ δ (ps++ts))(hs:af H H')(k:∀A1,R F H' (ps.map (·.1)) (ps.map (·.2)) A1->A1.Nodup->∃A',R F H' [d] [v] A'/\A'.Nodup/\∀a∈A',a∈A1\/H a=none):ao B F H' σ δ ((d,v)::ts):=by
 obtain⟨A,C,r,s,nd,fr⟩:=c.own
 rw[eH,eH]at r
 obtain⟨v1,v2,A1,A2,e,rfl,h1,h2⟩:=R.split r
 have l1:(ps.map (·.2)).length=v1.length:=by rw[<-h1.length];simp
 obtain⟨rfl,rfl⟩:=Ff e l1
 rw[eE]at nd fr
 obtain⟨n1,n2,n3⟩:=iJ.mp nd
 have g1:=h1.grow (af.refl F) hs λa ha=>(h1.lists a ha).2
 have g2:=h2.grow (af.refl F) hs λa ha=>(h2.lists a ha).2
 have gs:=s.keep (af.refl F) (gn.same hs) gQ.nil (λa ha=>(s.lists a ha).2) (by simp)
 obtain⟨A',r',GU,sub⟩:=k A1 g1 n1
 refine⟨c.ext.trans hs,c.b1.trans hs,c.b2,c.b3,A'++A2,C,r'.cons g2,gs,?_,?_⟩
 ·rw[eE]
  refine iJ.mpr ⟨GU,n2,λa ha hb=>?_⟩
  rcases sub a ha with z | z
  ·exact n3 a z hb
  ·rcases cI.mp hb with y | y
   ·obtain⟨⟨_,q⟩,_⟩:=h2.lists a y;rw[z]at q;cases q
   ·obtain⟨⟨_,q⟩,_⟩:=s.lists a y;rw[z]at q;cases q
 ·intro a ha
  rw[eE]at ha
  rcases cI.mp ha with y | y
  ·rcases sub a y with z | z
   ·exact fr a (by simp[z])
   ·exact c.b1.free z
  ·exact fr a (dq _ y)
theorem ao.B6(c:ao B F H σ δ ts)(hs:af H H')(r:R F H' [d] [v] A)(nd:A.Nodup)(fr:∀a∈A,H a=none):ao B F H' σ δ ((d,v)::ts) :=
 ao.pack (ps:=[]) c hs λ_ _ _=>⟨A,r,nd,λa ha=>.inr (fr a ha)⟩
theorem ao.pH(c:ao B F H σ δ ts)(hp:H p=none)(s:S F H xs vs)(pl:xs.all D.pl=true):ao B F (upd H p (.lst vs)) σ δ ((.lst true xs,.ref p)::ts) :=
 c.B6 (af.upd hp) (A:=[p]) (by simpa using R.own bH (c.ext.free hp) ((s.r pl).shared (af.refl _) (af.upd hp)) .nil) (by simp) (by simp[hp])
theorem ao.da4(c:ao B F H σ δ (ps++ts))(hp:H p=none):ao B F (upd H p (.lst (ps.map (·.2)))) σ δ ((.lst true (ps.map (·.1)),.ref p)::ts):=by
 refine c.pack (af.upd hp) λA1 r nd=>⟨p::A1,by simpa using R.own bH (c.ext.free hp) r .nil,mh.mpr ⟨λh=>?_,nd⟩,λa ha=>?_⟩
 ·obtain⟨A,C,r0,_,_,_⟩:=c.own
  rw[eH,eH]at r0
  obtain⟨v1,v2,B1,B2,e,rfl,h1,h2⟩:=R.split r0
  have l1:(ps.map (·.2)).length=v1.length:=by rw[<-h1.length];simp
  obtain⟨rfl,rfl⟩:=Ff e l1
  have g1:=h1.grow (af.refl F) (af.upd (o:=.lst (ps.map (·.2))) hp) λa ha=>(h1.lists a ha).2
  have:A1=B1:=R.inj r g1
  subst this
  obtain⟨⟨_,q⟩,_⟩:=h1.lists p h
  rw[hp]at q;cases q
 ·rcases cH.mp ha with rfl | h
  ·exact .inr hp
  ·exact .inl h
theorem ao.da5(c:ao B F H σ δ (ps++ts))(hp:H p=none):ao B F (upd H p (.tup (ps.map (·.2)))) σ δ ((.tup (ps.map (·.1)),.ref p)::ts) :=
 c.pack (af.upd hp) λA1 r nd=>⟨A1,by simpa using R.tup (F:=F) bH r .nil,nd,λa ha=>.inl ha⟩
theorem ao.perm(c:ao B F H σ δ ps)(h:ps.Perm ts):ao B F H σ δ ts:=by
 obtain⟨A,C,r,s,nd,fr⟩:=c.own
 obtain⟨A',r',p⟩:=r.perm h
 have pp:=p.append_right C
 exact⟨c.ext,c.b1,c.b2,c.b3,A',C,r',s,pp.nodup_iff.mp nd,λa ha=>fr a (pp.mem_iff.mpr ha)⟩
theorem ao.move(c:ao B F H σ δ ts)(e:δ[i]?=some (some d)):∃v,σ[i]?=some (some v)/\ao B F H σ (δ.set i none) ((d,v)::ts):=by
 obtain⟨A,C,r,s,nd,fr⟩:=c.own
 obtain⟨v,A',C',e1,h1,h2,p⟩:=s.pick e
 have pp:(A++C).Perm ((A'++A)++C'):=by
  refine(p.append_left A).trans ?_
  rw[<-eE]
  exact oS.append_right _
 exact⟨v,e1,c.ext,c.b1,c.b2,c.b3,A'++A,C',h1.cons r,h2,pp.nodup_iff.mp nd,λa ha=>fr a (pp.mem_iff.mpr ha)⟩
theorem ao.forget(c:ao B F H σ δ ts)(i:Nat):ao B F H σ (δ.set i none) ts:=by
 obtain⟨A,C,r,s,nd,fr⟩:=c.own
 obtain⟨C',h,sb⟩:=s.drop i
 exact⟨c.ext,c.b1,c.b2,c.b3,A,C',r,h,nd.sublist ((Nn A).append sb),λa ha=>fr a (((Nn A).append sb).subset ha)⟩
theorem ao.fill(c:ao B F H σ δ ((d,v)::ts))(e:δ[i]?=some none)(e2:σ[i]?=some (some v)):ao B F H σ (δ.set i (some d)) ts:=by
 obtain⟨A,C,r,s,nd,fr⟩:=c.own
 obtain⟨w,bW,A1,A2,e',rfl,h1,h2⟩:=R.dh r
 obtain⟨rfl,rfl⟩:=nh e'
 obtain⟨C',s',p⟩:=s.fill e e2 h1
 have pp:((A1++A2)++C).Perm (A2++C'):=by
  refine((oS (l₁:=A1) (l₂:=A2)).append_right C).trans ?_
  rw[eE]
  exact(p.symm).append_left A2
 exact⟨c.ext,c.b1,c.b2,c.b3,A2,C',h2,s',pp.nodup_iff.mp nd,λa ha=>fr a (pp.mem_iff.mpr ha)⟩
theorem ao.uS(c:ao B F H σ δ ts)(o:Option V)(e:δ[i]?=some none\/δ[i]?=none):ao B F H (σ.set i o) δ ts:=by
 obtain⟨A,C,r,s,nd,fr⟩:=c.own
 exact⟨c.ext,c.b1,c.b2,c.b3,A,C,r,s.uS o e,nd,fr⟩
theorem ao.store(c:ao B F H σ δ ((d,v)::ts))(i:Nat):ao B F H (σ.set i (some v)) (δ.set i (some d)) ts:=by
 by_cases hi:i<δ.length
 ·have c1:=c.forget i
  have hs:i<σ.length:=by rw[<-c.len];exact hi
  have e:(δ.set i none)[i]?=some none:=by simp[hi]
  have c2:=(c1.uS (some v) (.inl e)).fill (i:=i) e (by simp[hs])
  rwa [Fg]at c2
 ·have hs:¬ i<σ.length:=by rw[<-c.len];exact hi
  rw[YG (by omega),YG (by omega)]
  exact c.pop
theorem ao.mut(c:ao B F H σ δ (ps++ts))(e:δ[i]?=some (some (.lst true xs)))(e2:σ[i]?=some (some (.ref p)))
  (k:∀ws A1 A2,H p=some (.lst ws)->R F H xs ws A1->R F H (ps.map (·.1)) (ps.map (·.2)) A2->(A1++A2).Nodup->∃A',R F H ys vs A'/\A'.Nodup/\∀a∈A',a∈A1++A2) :
  ao B F (upd H p (.lst vs)) σ (δ.set i (some (.lst true ys))) ts:=by
 have hi:i<δ.length:=(ki.mp e).1
 obtain⟨v,e3,c1⟩:=c.move e
 rw[e2]at e3;cases e3
 obtain⟨A,C,r,s,nd,fr⟩:=c1.own
 have r':R F H (([.lst true xs]++ps.map (·.1))++ts.map (·.1)) ((.ref p::ps.map (·.2))++ts.map (·.2)) A:=by simpa using r
 obtain⟨v1,v2,A1,A2,e4,rfl,h1,h2⟩:=R.split r'
 have l1:(V.ref p::ps.map (·.2)).length=v1.length:=by rw[<-h1.length];simp
 obtain⟨rfl,rfl⟩:=Ff e4 l1
 obtain⟨p',GV,B1,B2,ep,hH,hF,hx,hr,rfl⟩:=h1.rv
 cases ep
 ·skip
  rw[eE]at nd fr
  obtain⟨n1,n2,n3⟩:=iJ.mp nd
  obtain⟨m1,m2⟩:=mh.mp n1
  obtain⟨A',ra,nda,sub⟩:=k GV B1 B2 hH hx hr m2
  have pA:p ∉ A':=λz=>m1 (sub _ z)
  have pR:p ∉ A2++C:=λz=>n3 p (by simp) z
  have but:gn [p] H (upd H p (.lst vs)):=⟨λa o q z _=>by rw[aT (by simpa using z)];exact q⟩
  have hl:gQ [p] H:=λa ha=>by rw[fI.mp ha];exact⟨_,hH⟩
  have g1:=ra.keep (af.refl F) but hl (λa ha=>(ra.lists a ha).2) λa ha z=>pA (by rw[<-fI.mp z];exact ha)
  have g2:=h2.keep (af.refl F) but hl (λa ha=>(h2.lists a ha).2) λa ha z=>pR (by rw[<-fI.mp z];exact eR _ ha)
  have gs:=s.keep (af.refl F) but hl (λa ha=>(s.lists a ha).2) λa ha z=>pR (by rw[<-fI.mp z];exact dq _ ha)
  have fp:B.H0 p=none:=fr p (by simp)
  have b1:af B.H0 (upd H p (.lst vs)):=⟨λa o q n=>by
   rw[aT (λz=>by rw[z,fp]at q;cases q)]
   exact c1.b1.get a o q n,λa ps q=>by
   rw[aT (λz=>by rw[z,fp]at q;cases q)]
   exact c1.b1.tb a ps q⟩
  have ext:af F (upd H p (.lst vs)):=⟨λa o q n=>by
   rw[aT (λz=>by rw[z,hF]at q;cases q)]
   exact c1.ext.get a o q n,λa ps q=>by
   rw[aT (λz=>by rw[z,hF]at q;cases q)]
   exact c1.ext.tb a ps q⟩
  have c2:ao B F (upd H p (.lst vs)) σ (δ.set i none) ((.lst true ys,.ref p)::ts):=by
   refine⟨ext,b1,c1.b2,c1.b3,(p::A')++A2,C,R.cons (by simpa using R.own bH hF g1 .nil) g2,gs,?_,?_⟩
   ·rw[eE]
    refine iJ.mpr ⟨mh.mpr ⟨pA,nda⟩,n2,λa ha hb=>?_⟩
    rcases cH.mp ha with rfl | ha
    ·exact pR hb
    ·exact n3 a (gK _ (sub a ha)) hb
   ·intro a ha
    rw[eE]at ha
    rcases cI.mp ha with z | z
    ·rcases cH.mp z with rfl | z
     ·exact fp
     ·exact fr a (eR _ (gK _ (sub a z)))
    ·exact fr a (dq _ z)
  have c3:=c2.fill (i:=i) (by simp[hi]) e2
  rwa [Fg]at c3
theorem ao.GW(c:ao B F H σ δ ((d,v)::ts)):∃F',af F F'/\ao B F' H σ δ ((d.sh,v)::ts):=by
 obtain⟨A,C,r,s,nd,fr⟩:=c.own
 obtain⟨w,bW,A1,A2,e',rfl,h1,h2⟩:=R.dh r
 obtain⟨rfl,rfl⟩:=nh e'
 rw[eE]at nd fr
 obtain⟨n1,n2,n3⟩:=iJ.mp nd
 have out:∀a∈A2++C,bq F H A1 a=F a:=λa ha=>pF λz=>n3 a z ha
 have b3:∀a o,bq F H A1 a=some (.lst o)->B.F0 a=some (.lst o)\/B.H0 a=none:=λa o q=>by
  by_cases z:a∈A1
  ·exact .inr (fr a (eR _ z))
  ·rw[pF z]at q;exact c.b3 a o q
 refine⟨bq F H A1,iH c.ext,nI c.ext,c.b1,c.b2.trans (iH c.ext),b3,A2,C,?_,?_,n2,λa ha=>fr a (dq _ ha)⟩
 ·have g1:=h1.bq c.ext A1 (λ_ h=>h)
  exact R.cons (A:=[]) g1 (h2.keep (iH c.ext) (gn.same (af.refl H)) gQ.nil (λa ha=>by rw[out a (eR _ ha)];exact(h2.lists a ha).2) (by simp))
 ·exact s.keep (iH c.ext) (gn.same (af.refl H)) gQ.nil (λa ha=>by rw[out a (dq _ ha)];exact(s.lists a ha).2) (by simp)
theorem ao.freeze(c:ao B F H σ δ ts)(e:δ[i]?=some (some d)):∃F',af F F'/\ao B F' H σ (δ.set i (some d.sh)) ts:=by
 have hi:i<δ.length:=(ki.mp e).1
 obtain⟨v,e2,c1⟩:=c.move e
 obtain⟨F',s,c2⟩:=c1.GW
 refine⟨F',s,?_⟩
 have c3:=c2.fill (i:=i) (by simp[hi]) e2
 rwa [Fg]at c3
theorem ao.rebase(c:ao B F H σ δ ts):ao ⟨B.H0,F⟩ F H σ δ ts:=⟨c.ext,c.b1,af.refl _,λ_ _ q=>.inl q,c.own⟩
theorem ao.da7{F1:Hp}(c:ao ⟨B.H0,F1⟩ F H σ δ ts)(h:af B.F0 F1)(h3:∀a ws,F1 a=some (.lst ws)->B.F0 a=some (.lst ws)\/B.H0 a=none):ao B F H σ δ ts :=
 ⟨c.ext,c.b1,h.trans c.b2,λa o q=>(c.b3 a o q).elim (h3 a o) .inr,c.own⟩
theorem ao.call(c:ao B F H σ δ ts)(hs:af H H')(hf:af F F')(he:af F' H')(h3:∀a ws,F' a=some (.lst ws)->F a=some (.lst ws)\/H a=none)(r:R F' H' [d] [v] A)(nd:A.Nodup)(fr:∀a∈A,H a=none) :
  ao B F' H' σ δ ((d,v)::ts):=by
 obtain⟨A0,C,r0,s,nd0,fr0⟩:=c.own
 have no:∀a,(∃ws,H a=some (.lst ws))/\F a=none->F' a=none:=λa zz=>by
  obtain⟨⟨ws,e⟩,n⟩:=zz
  cases q:F' a with
  | none=>rfl
  | some o =>
   have q2:H' a=some o:=by
    cases n:js o with
    | true=>exact he.get a o q n
    | false =>
     obtain⟨ps,rfl⟩:=GP n
     obtain⟨m,z⟩:=he.tb a ps q
     rw[hs a _ e]at z
     cases z
   rw[hs a _ e]at q2
   cases q2
   rcases h3 a ws q with z | z
   ·rw[n]at z;cases z
   ·rw[e]at z;cases z
 refine⟨he,c.b1.trans hs,c.b2.trans hf,λa o q=>(h3 a o q).elim (c.b3 a o) λz=>.inr (c.b1.free z),A++A0,C,R.cons r (r0.grow hf hs λa ha=>no a (r0.lists a ha)),
  s.keep hf (gn.same hs) gQ.nil (λa ha=>no a (s.lists a ha)) (by simp),?_,?_⟩
 ·rw[eE]
  refine iJ.mpr ⟨nd,nd0,λa ha hb=>?_⟩
  have z:=fr a ha
  rcases cI.mp hb with y | y
  ·obtain⟨⟨_,q⟩,_⟩:=r0.lists a y;rw[z]at q;cases q
  ·obtain⟨⟨_,q⟩,_⟩:=s.lists a y;rw[z]at q;cases q
 ·intro a ha
  rw[eE]at ha
  rcases cI.mp ha with y | y
  ·exact c.b1.free (fr a y)
  ·exact fr0 a y
theorem ao.inS(c:ao B F H σ δ ((d,v)::ts)):ao B F H (some v::σ) (some d::δ) ts:=by
 obtain⟨A,C,r,s,nd,fr⟩:=c.own
 obtain⟨w,bW,A1,A2,e',rfl,h1,h2⟩:=R.dh r
 obtain⟨rfl,rfl⟩:=nh e'
 have pp:((A1++A2)++C).Perm (A2++(A1++C)):=by
  rw[<-eE];exact oS.append_right C
 exact⟨c.ext,c.b1,c.b2,c.b3,A2,A1++C,h2,.eo h1 s,pp.nodup_iff.mp nd,λa ha=>fr a (pp.mem_iff.mpr ha)⟩
theorem ao.db1{w:V}(c:ao B F H (some w::σ) (some d::δ) ts):ao B F H σ δ ((d,w)::ts):=by
 obtain⟨A,C,r,s,nd,fr⟩:=c.own
 cases s with
 | @eo _ _ A1 _ _ C1 h1 s =>
  have pp:(A++(A1++C1)).Perm ((A1++A)++C1):=by
   rw[<-eE];exact oS.append_right C1
  exact⟨c.ext,c.b1,c.b2,c.b3,A1++A,C1,R.cons h1 r,s,pp.nodup_iff.mp nd,λa ha=>fr a (pp.mem_iff.mpr ha)⟩
theorem ao.db2(c:ao B F H σ δ ((d,v)::(.lst true xs,.ref p)::ts))(hp:H p=some (.lst ws)):ao B F (upd H p (.lst (ws++[v]))) σ δ ((.lst true (xs++[d]),.ref p)::ts):=by
 have c1:=(c.perm (List.Perm.swap _ _ _)).inS
 refine(ao.mut (ps:=[(d,v)]) (i:=0) (ys:=xs++[d]) (vs:=ws++[v]) c1 rfl rfl λgR A1 A2 h r1 r2 nd=>?_).db1
 rw[hp]at h;cases h
 exact⟨A1++A2,r1.append r2,nd,λa ha=>ha⟩
theorem ao.app(c:ao B F H σ δ ((d,v)::ts))(e:δ[i]?=some (some (.lst true xs)))(e2:σ[i]?=some (some (.ref p)))(hp:H p=some (.lst ws)) :
  ao B F (upd H p (.lst (ws++[v]))) σ (δ.set i (some (.lst true (xs++[d])))) ts :=
 ao.mut (ps:=[(d,v)]) c e e2 λgR A1 A2 h r1 r2 nd=>by
  rw[hp]at h;cases h
  exact⟨A1++A2,r1.append r2,nd,λa ha=>ha⟩
theorem R.Pp:∀{xs:List D} {ws:List V} {A1 A2:List Addr} (j:Nat),R F H xs ws A1->R F H [d] [v] A2->(A1++A2).Nodup->∃A',R F H (xs.set j d) (ws.set j v) A'/\A'.Nodup/\∀a∈A',a∈A1++A2
 | [],_,A1,A2,j,r,q,nd=>by cases r;exact⟨[],.nil,by simp,by simp⟩
 | x::xs,_,A1,A2,j,r,q,nd=>by
  obtain⟨w,gR,B1,B2,rfl,rfl,h1,h2⟩:=r.dh
  rw[eE]at nd
  obtain⟨n1,n2,n3⟩:=iJ.mp nd
  cases j with
  | zero =>
   refine⟨A2++B2,q.cons h2,(oS (l₁:=B2) (l₂:=A2)).nodup_iff.mp n2,λa ha=>?_⟩
   simp only[cI]at ha ⊢
   rcases ha with z | z
   ·exact .inr z
   ·exact .inl (.inr z)
  | succ j =>
   obtain⟨A',r',GU,sub⟩:=R.Pp j h2 q n2
   refine⟨B1++A',h1.cons r',iJ.mpr ⟨n1,GU,λa ha hb=>n3 a ha (sub a hb)⟩,λa ha=>?_⟩
   rcases cI.mp ha with z | z
   ·simp[z]
   ·have:=sub a z
    simp only[cI]at this ⊢
    rcases this with z | z
    ·exact .inl (.inr z)
    ·exact .inr z
theorem ao.db3(c:ao B F H σ δ ((d,v)::ts))(e:δ[i]?=some (some (.lst true xs)))(e2:σ[i]?=some (some (.ref p)))(hp:H p=some (.lst ws))(j:Nat) :
  ao B F (upd H p (.lst (ws.set j v))) σ (δ.set i (some (.lst true (xs.set j d)))) ts :=
 ao.mut (ps:=[(d,v)]) c e e2 λgR A1 A2 h r1 r2 nd=>by
  rw[hp]at h;cases h
  exact r1.Pp j r2 nd
theorem ao.ownAt(c:ao B F H σ δ ts)(e:δ[i]?=some (some (.lst true xs))):∃p ws,σ[i]?=some (some (.ref p))/\H p=some (.lst ws)/\xs.length=ws.length:=by
 obtain⟨v,e1,s⟩:=c.look e
 cases s with
 | own h x _=>exact⟨_,_,e1,h,x.length⟩
theorem RS.start{ds:List D}{vs:List V}(r:R F H ds vs [])(n:Nat):RS F H (ds.map some++aU n none) (vs.map some++aU n none) []:=by
 have z:∀n,RS F H (aU n none) (aU n none) []:=λn=>by
  induction n with
  | zero=>exact .nil
  | succ n ih=>exact .au ih
 have:∀(ds:List D) (vs:List V),R F H ds vs []->RS F H (ds.map some++aU n none) (vs.map some++aU n none) []:=by
  intro ds
  induction ds with
  | nil=>intro vs r;cases r;exact z n
  | cons d ds ih =>
   intro vs r
   obtain⟨v,bW,A1,A2,rfl,e,h1,h2⟩:=r.dh
   obtain⟨rfl,rfl⟩:=qO.mp e.symm
   exact .eo (A:=[]) h1 (ih _ h2)
 exact this ds vs r
theorem ao.start{ds:List D}{vs:List V}(e:af F H)(r:R F H ds vs [])(n:Nat):ao ⟨H,F⟩ F H (vs.map some++aU n none) (ds.map some++aU n none) [] :=
 ⟨e,af.refl _,af.refl _,λ_ _ q=>.inl q,[],[],.nil,RS.start r n,by simp,by simp⟩
theorem ao.snap(c:ao B F H σ δ ts):ao B (L3.snap F H) H σ δ ts:=by
 obtain⟨A,C,r,s,nd,fr⟩:=c.own
 have no:∀a,(∃ws,H a=some (.lst ws))/\F a=none->L3.snap F H a=none:=λa ⟨⟨ws,e⟩,n⟩=>b19 e n
 exact⟨ch8 c.ext,c.b1,c.b2.trans (rG c.ext),λa ws q=>c.b3 a ws (b57 c.ext q),A,C,r.grow (rG c.ext) (af.refl _) λa ha=>no a (r.lists a ha),
  s.keep (rG c.ext) (gn.same (af.refl _)) gQ.nil (λa ha=>no a (s.lists a ha)) (by simp),nd,fr⟩
end
end L3
namespace L3
open PySem L2 PySem.Spec PyProof.Rows
abbrev aN:=Dl->(D->Dl->Prop)->Prop
abbrev fX:=Dl->(Bool->Dl->Prop)->Prop
abbrev cF:=Dl->(List D->Dl->Prop)->Prop
structure pI where
 nx:Dl->Prop
 rt:D->Prop
 bk:Dl->Prop:=λ_=>False
 ct:Dl->Prop:=λ_=>False
 xc:Addr->Dl->Prop:=λ_ _=>False
 xr:Addr->Dl->Prop:=λ_ _=>False
abbrev cO:=pI->Dl->Prop
inductive lE(t:aN)(σ:L2.St)(H:Hp)(Q:VK):Prop
 | mk (B F δ ts Qd) (c:ao B F H σ δ ts) (q:t δ Qd) (k:∀d ah v F' H',Qd d ah->af F F'->af H H'->ao B F' H' σ ah ((d,v)::ts)->Q v H')
inductive lB(t:aN)(σ:L2.St)(H:Hp)(Q:VK):Prop
 | mk (B F δ ts Qd) (c:ao B F H σ δ ts) (q:t δ Qd) (k:∀d ah v F' H',Qd d ah->af F F'->af H H'->ao B F' H' σ ah ts->S F' H' [d] [v]->Q v H')
inductive lT(t:fX)(σ:L2.St)(H:Hp)(Q:Bool->Hp->Prop):Prop
 | mk (B F δ ts Qd) (c:ao B F H σ δ ts) (q:t δ Qd) (k:∀b ah F' H',Qd b ah->af F F'->af H H'->ao B F' H' σ ah ts->Q b H')
inductive lA(t:cF)(σ:L2.St)(H:Hp)(Q:List V->Hp->Prop):Prop
 | mk (B F δ ts Qd) (c:ao B F H σ δ ts) (q:t δ Qd) (k:∀ds ah vs F' H',Qd ds ah->af F F'->af H H'->ao B F' H' σ ah ts->S F' H' ds vs->Q vs H')
inductive lO(t:cF)(σ:L2.St)(H:Hp)(Q:List V->Hp->Prop):Prop
 | mk (B F δ ts Qd) (c:ao B F H σ δ ts) (q:t δ Qd) (k:∀(ps:List (D × V)) ah F' H',Qd (ps.map (·.1)) ah->af F F'->af H H'->ao B F' H' σ ah (ps++ts)->Q (ps.map (·.2)) H')
def XL(X:Cx)(B:Bs)(Dd:pI):Prop :=
 (∀C ah pins aF F' H' s' a T,Dd.xc C ah->ao B F' H' aF ah []->Inv X pins aF H' s'->iG s'.heap a T (.ref C)->Apart X pins H' a->Apart X pins H' T->X.xe (.ref a) s') /\
 (∀C ah pins aF F' H' s' h' e vs,Dd.xr C ah->ao B F' H' aF ah []->Inv X pins aF H' s'->Nm s'.heap h' e (.ref C) vs->X.xe (.ref e) { s' with heap:=h' })
theorem XL.none{X:Cx}{B:Bs}{Dd:pI}(h1:∀C δ,¬ Dd.xc C δ)(h2:∀C δ,¬ Dd.xr C δ):XL X B Dd:=⟨λC δ _ _ _ _ _ _ _ h=>absurd h (h1 C δ),λC δ _ _ _ _ _ _ _ _ h=>absurd h (h2 C δ)⟩
structure LK(X:Cx)(B:Bs)(Dd:pI)(D:Ends):Prop where
 k1:∀ah aF F' H',Dd.nx ah->ao B F' H' aF ah []->D.nx aF H'
 k2:∀d v ah aF F' H',Dd.rt d->ao B F' H' aF ah [(d,v)]->D.rt v H'
 k3:∀ah aF F' H',Dd.bk ah->ao B F' H' aF ah []->D.bk aF H'
 k4:(∀ah aF F' H',Dd.ct ah->ao B F' H' aF ah []->D.ct aF H')/\XL X B Dd
inductive lS(X:Cx)(t:cO)(D:Ends)(σ:L2.St)(H:Hp):Prop
 | mk (B F δ Dd) (c:ao B F H σ δ []) (q:t Dd δ) (k:LK X B Dd D)
section
variable{X:Cx}{e a b c:Expr}{es:List Expr}{pos:Pos}{st:Stmt}{pf:List Stmt}
theorem dv{t t':TE}(h:PE X e t)(m:∀σ H Q,t' σ H Q->t σ H Q):PE X e t':=λpins s σ H Q I q=>h pins s σ H Q I (m σ H Q q)
theorem GX{t t':TT}(h:PT X e t)(m:∀σ H Q,t' σ H Q->t σ H Q):PT X e t':=λpins s σ H Q I q=>h pins s σ H Q I (m σ H Q q)
theorem Pq{t t':TT}(h:PW X e t)(m:∀σ H Q,t' σ H Q->t σ H Q):PW X e t':=λwh pins s σ H Q I q=>h wh pins s σ H Q I (m σ H Q q)
theorem yp{t t':TA}(h:PA X es t)(m:∀σ H Q,t' σ H Q->t σ H Q):PA X es t':=λp pins s σ H Q I q=>h p pins s σ H Q I (m σ H Q q)
theorem kB{t t':TS}(h:PS X st t)(m:∀D σ H,t' D σ H->t D σ H):PS X st t':=λpins s σ H D I q=>h pins s σ H D I (m D σ H q)
theorem B7{t t':TS}(h:PSs X pf t)(m:∀D σ H,t' D σ H->t D σ H):PSs X pf t':=λpins s σ H D I q=>h pins s σ H D I (m D σ H q)
variable{t u ta tb tc:aN}
theorem aa(h:PE X e (lE t)):PE X e (lB t):=dv h λσ H Q zq=>by
 obtain⟨B,F,δ,ts,Qd,c,q,k⟩:=zq
 exact⟨B,F,δ,ts,Qd,c,q,λd ah v F' H' hd sf sh c'=>k d ah v F' H' hd sf sh c'.pop c'.top⟩
def rH(t:aN):aN:=λδ Q=>t δ λd ah=>d.pl=true/\Q d ah
theorem dJ(h:PE X e (lB t)):PE X e (lE (rH t)):=dv h λσ H Q zq=>by
 obtain⟨B,F,δ,ts,Qd,c,q,k⟩:=zq
 exact⟨B,F,δ,ts,_,c,q,λd ah v F' H' hd sf sh c' s=>k d ah v F' H' hd.2 sf sh (c'.pushS s hd.1)⟩
def pJ(i:Nat):aN:=λδ Q=>match δ[i]? with
 | some (some d)=>Q d δ
 | _=>False
def pK(i:Nat):aN:=λδ Q=>match δ[i]? with
 | some (some d)=>Q d (δ.set i none)
 | _=>False
theorem cq6{i:Nat}{δ:Dl}{Q:D->Dl->Prop}(h:pJ i δ Q):∃d,δ[i]?=some (some d)/\Q d δ:=by
 unfold pJ at h
 split at h
 ·rename_i d e;exact⟨d,e,h⟩
 ·exact h.elim
theorem cf8{i:Nat}{δ:Dl}{Q:D->Dl->Prop}(h:pK i δ Q):∃d,δ[i]?=some (some d)/\Q d (δ.set i none):=by
 unfold pK at h
 split at h
 ·rename_i d e;exact⟨d,e,h⟩
 ·exact h.elim
def dC(d:D):aN:=λδ Q=>Q d δ
theorem bv(i:Nat){x:Str}(hN:X.N[i]?=some x:=by rfl)(hv:nk X.env.scope x:=by first | exact ax rfl | exact b9 (ax rfl) | exact b9 (b9 rfl))(hd:(x==("__debug__":Str))=false:=by decide)
  (da:(x==("__classdict__":Str))=false:=by decide):PE X (.Name x pos) (lB (pJ i)):=dv (uB hN hv hd da) λσ H Q zq=>by
 obtain⟨B,F,δ,ts,Qd,c,q,k⟩:=zq
 obtain⟨d,e,q⟩:=cq6 q
 obtain⟨v,e1,s⟩:=c.look e
 exact⟨v,e1,k d δ v F H q (af.refl _) (af.refl _) c s⟩
theorem em(i:Nat){x:Str}(hN:X.N[i]?=some x:=by rfl)(hv:nk X.env.scope x:=by first | exact ax rfl | exact b9 (ax rfl) | exact b9 (b9 rfl))(hd:(x==("__debug__":Str))=false:=by decide)
  (da:(x==("__classdict__":Str))=false:=by decide):PE X (.Name x pos) (lE (pK i)):=dv (uB hN hv hd da) λσ H Q zq=>by
 obtain⟨B,F,δ,ts,Qd,c,q,k⟩:=zq
 obtain⟨d,e,q⟩:=cf8 q
 obtain⟨v,e1,c'⟩:=c.move e
 exact⟨v,e1,k d _ v F H q (af.refl _) (af.refl _) c'⟩
theorem B8{B:Bs}{F H:Hp}{σ:L2.St}{δ:Dl}{ts:List (D × V)}{Qd:D->Dl->Prop}{Q:VK}{d:D}{v:V}(c:ao B F H σ δ ts)(q:Qd d δ)(s:S F H [d] [v])(p:d.pl=true)
  (k:∀d ah v F' H',Qd d ah->af F F'->af H H'->ao B F' H' σ ah ((d,v)::ts)->Q v H'):Q v H:=k d δ v F H q (af.refl _) (af.refl _) (c.pushS s p)
theorem ai{i j}:PE X (.Constant (.int i) j pos) (lE (dC (.int i))):=dv qX λσ H Q ⟨B,F,δ,ts,Qd,c,q,k⟩=>B8 c q (.int .nil) rfl k
theorem kC{i j}:PE X (.Constant (.bool i) j pos) (lE (dC (.bl i))):=dv Zf λσ H Q ⟨B,F,δ,ts,Qd,c,q,k⟩=>B8 c q (.bl .nil) rfl k
theorem B9{j}:PE X (.Constant .none j pos) (lE (dC .au)):=dv Zg λσ H Q ⟨B,F,δ,ts,Qd,c,q,k⟩=>B8 c q (.au .nil) rfl k
theorem jt{x j}:PE X (.Constant (.str x) j pos) (lE (dC (.str x))):=dv Zh λσ H Q ⟨B,F,δ,ts,Qd,c,q,k⟩=>B8 c q (.str .nil) rfl k
abbrev cS:=D->D->(D->Prop)->Prop
def Ca(r:R2)(rd:cS):Prop:=∀{B:Bs} {F H:Hp} {σ:L2.St} {δ:Dl} {ts:List (D × V)} {x y:D} {v w:V} {Q:VK} {Qd:D->Prop},ao B F H σ δ ts->S F H [x] [v]->S F H [y] [w]->rd x y Qd ->
 (∀d z H',Qd d->af H H'->ao B F H' σ δ ((d,z)::ts)->Q z H')->r v w H Q
def bX(X:Cx)(f:Value->Value->Sem Value)(rd:cS):Prop:=∃r,cQ X f r/\Ca r rd
theorem bX.or{f:Value->Value->Sem Value}{r1 r2:cS}(h1:bX X f r1)(h2:bX X f r2):bX X f λx y Q=>r1 x y Q\/r2 x y Q:=by
 obtain⟨q1,a1,b1⟩:=h1
 obtain⟨q2,a2,b2⟩:=h2
 refine⟨_,a1.or a2,λ{B F H σ δ ts x y v w Q Qd} c sx sy h k=>?_⟩
 rcases h with h | h
 ·exact .inl (b1 c sx sy h k)
 ·exact .inr (b2 c sx sy h k)
theorem bX.imp{f:Value->Value->Sem Value}{r1 r2:cS}(h1:bX X f r1)(h:∀x y Q,r2 x y Q->r1 x y Q):bX X f r2:=by
 obtain⟨q1,a1,b1⟩:=h1
 exact⟨q1,a1,λ{B F H σ δ ts x y v w Q Qd} c sx sy h2 k=>b1 c sx sy (h _ _ _ h2) k⟩
def nJ(rd:cS)(ta tb:aN):aN:=λδ Q=>ta δ λx ak=>tb ak λy aV=>rd x y λd=>Q d aV
theorem GY{r:R2}{rd:cS}(hl:Ca r rd):∀σ H Q,lE (nJ rd ta tb) σ H Q->x9 r (lB ta) (lB tb) σ H Q:=λσ H Q ⟨B,F,δ,ts,Qd,c,q,k⟩ =>
 ⟨B,F,δ,ts,_,c,q,λx ak v F1 H1 q1 f1 h1 c1 s1=>⟨B,F1,ak,ts,_,c1,q1,λy aV w F2 H2 q2 f2 h2 c2 s2 =>
  hl c2 (s1.mono f2 h2) s2 q2 λd z H' hd hs c3=>k d aV z F2 H' hd (f1.trans f2) ((h1.trans h2).trans hs) c3⟩⟩
theorem aw{op:Operator}{rd:cS}(ho:bX X (binaryOp op) rd)(ha:PE X a (lB ta))(hb:PE X b (lB tb)):PE X (.BinOp a op b pos) (lE (nJ rd ta tb)):=by
 obtain⟨r,h1,h2⟩:=ho
 exact dv (ya h1 ha hb) (GY h2)
theorem k9{op:CmpOp}{rd:cS}(ho:bX X (compareOp op) rd)(ha:PE X a (lB ta))(hb:PE X b (lB tb))(hm:behindInMarks op b=false):PE X (.Compare a [op] [b] pos) (lE (nJ rd ta tb)):=by
 obtain⟨r,h1,h2⟩:=ho
 exact dv (ο h1 ha hb hm) (GY h2)
def dT(t:aN):fX:=λδ Q=>t δ λd ah=>∃k,d=.bl k/\Q k ah
theorem cb3{te:TE}(h:∀σ H Q,lE t σ H Q->te σ H Q):∀σ H Q,lT (dT t) σ H Q->Oa te σ H Q:=λσ H Q zz=>by
 obtain⟨B,F,δ,ts,Qd,c,q,k⟩:=zz
 refine h σ H _ ⟨B,F,δ,ts,_,c,q,λd ah v F' H' hd sf sh c'=>?_⟩
 obtain⟨b,rfl,qb⟩:=hd
 have s:=c'.top
 cases s with
 | bl _=>exact⟨b,rfl,k b ah F' H' qb sf sh c'.pop⟩
theorem bN{op:CmpOp}{rd:cS}(ho:bX X (compareOp op) rd)(ha:PE X a (lB ta))(hb:PE X b (lB tb))(hm:behindInMarks op b=false):PT X (.Compare a [op] [b] pos) (lT (dT (nJ rd ta tb))):=by
 obtain⟨r,h1,h2⟩:=ho
 exact GX (FV h1 ha hb hm) (cb3 (GY h2))
def rJ(r r':cS)(ta tb tc:aN):aN:=λδ Q=>ta δ λx ak=>tb ak λy aV=>r x y λd=>∃k,d=.bl k/\if k=true then tc aV λz i8=>r' y z λd'=>Q d' i8 else Q (.bl false) aV
theorem ia(h:PE X e (lB t))(he:∀whole,isTrue e X.env whole=(do let v<-whole;standAt e.pos;holding [v] (truthy v)):=by intro _;rfl):PT X e (lT (dT t)) :=
 GX (BB h he) λσ H Q zq=>by
 obtain⟨B,F,δ,ts,Qd,c,q,k⟩:=zq
 exact⟨B,F,δ,ts,_,c,q,λd ah v F' H' hd sf sh c' s=>by
  obtain⟨b,rfl,qb⟩:=hd
  cases s with
  | bl _=>exact⟨b,rfl,k b ah F' H' qb sf sh c'⟩⟩
variable{tA tB:fX}{rest:List Expr}
def uT(t u:fX):fX:=λδ Q=>t δ λc ak=>if c=true then u ak Q else Q false ak
def uU(t u:fX):fX:=λδ Q=>t δ λc ak=>if c=true then Q true ak else u ak Q
def uV(t:fX):fX:=λδ Q=>t δ λc ak=>Q (!c) ak
theorem Cb(ha:PT X a (lT tA))(hb:PW X (.BoolOp .And (b::rest) pos) (lT tB)):PW X (.BoolOp .And (a::b::rest) pos) (lT (uT tA tB)) :=
 Pq (Zm ha hb) λσ H Q zq=>by
 obtain⟨B,F,δ,ts,Qd,c,q,k⟩:=zq
 exact⟨B,F,δ,ts,_,c,q,λb ak F1 H1 q1 f1 h1 c1=>by
  cases b with
  | true=>exact nF ⟨B,F1,ak,ts,Qd,c1,by simpa using q1,λb ah F' H' hd sf sh c'=>k b ah F' H' hd (f1.trans sf) (h1.trans sh) c'⟩
  | false=>exact iD (k false ak F1 H1 (by simpa using q1) f1 h1 c1)⟩
theorem nK(ha:PT X a (lT tA))(hb:PW X (.BoolOp .Or (b::rest) pos) (lT tB)):PW X (.BoolOp .Or (a::b::rest) pos) (lT (uU tA tB)) :=
 Pq (NY ha hb) λσ H Q zq=>by
 obtain⟨B,F,δ,ts,Qd,c,q,k⟩:=zq
 exact⟨B,F,δ,ts,_,c,q,λb ak F1 H1 q1 f1 h1 c1=>by
  cases b with
  | true=>exact nF (k true ak F1 H1 (by simpa using q1) f1 h1 c1)
  | false=>exact iD ⟨B,F1,ak,ts,Qd,c1,by simpa using q1,λb ah F' H' hd sf sh c'=>k b ah F' H' hd (f1.trans sf) (h1.trans sh) c'⟩⟩
theorem rK(ha:PT X a (lT tA)):PT X (.UnaryOp .Not a pos) (lT (uV tA)) :=
 GX (BD ha) λσ H Q zq=>by
 obtain⟨B,F,δ,ts,Qd,c,q,k⟩:=zq
 exact⟨B,F,δ,ts,_,c,q,λb ak F1 H1 q1 f1 h1 c1=>k _ ak F1 H1 q1 f1 h1 c1⟩
def uW(ta tb:aN):aN:=λδ Q=>ta δ λx ak=>∃c,x=.bl c/\if c=true then tb ak Q else Q (.bl false) ak
def uX(ta tb:aN):aN:=λδ Q=>ta δ λx ak=>∃c,x=.bl c/\if c=true then Q (.bl true) ak else tb ak Q
def uY(ta:aN):aN:=λδ Q=>ta δ λx ak=>∃c,x=.bl c/\Q (.bl (!c)) ak
theorem uZ(ha:PE X a (lB ta))(hb:PE X (.BoolOp .And (b::rest) pos) (lE tb)):PE X (.BoolOp .And (a::b::rest) pos) (lE (uW ta tb)) :=
 dv (Zq ha hb) λσ H Q zq=>by
 obtain⟨B,F,δ,ts,Qd,c,q,k⟩:=zq
 exact⟨B,F,δ,ts,_,c,q,λd ak v F1 H1 q1 f1 h1 c1 s1=>by
  obtain⟨b,rfl,qb⟩:=q1
  cases s1 with
  | bl _ =>
   refine⟨b,rfl,?_⟩
   cases b with
   | true=>exact nF ⟨B,F1,ak,ts,Qd,c1,by simpa using qb,λd ah v F' H' hd sf sh c'=>k d ah v F' H' hd (f1.trans sf) (h1.trans sh) c'⟩
   | false=>exact iD (k _ ak _ F1 H1 (by simpa using qb) f1 h1 (c1.pushS (.bl .nil) rfl))⟩
theorem cS7(ha:PE X a (lB ta))(hb:PE X (.BoolOp .Or (b::rest) pos) (lE tb)):PE X (.BoolOp .Or (a::b::rest) pos) (lE (uX ta tb)) :=
 dv (Zr ha hb) λσ H Q zq=>by
 obtain⟨B,F,δ,ts,Qd,c,q,k⟩:=zq
 exact⟨B,F,δ,ts,_,c,q,λd ak v F1 H1 q1 f1 h1 c1 s1=>by
  obtain⟨b,rfl,qb⟩:=q1
  cases s1 with
  | bl _ =>
   refine⟨b,rfl,?_⟩
   cases b with
   | true=>exact nF (k _ ak _ F1 H1 (by simpa using qb) f1 h1 (c1.pushS (.bl .nil) rfl))
   | false=>exact iD ⟨B,F1,ak,ts,Qd,c1,by simpa using qb,λd ah v F' H' hd sf sh c'=>k d ah v F' H' hd (f1.trans sf) (h1.trans sh) c'⟩⟩
theorem cN5(ha:PE X a (lB ta)):PE X (.UnaryOp .Not a pos) (lE (uY ta)) :=
 dv (Zs ha) λσ H Q zq=>by
 obtain⟨B,F,δ,ts,Qd,c,q,k⟩:=zq
 exact⟨B,F,δ,ts,_,c,q,λd ak v F1 H1 q1 f1 h1 c1 s1=>by
  obtain⟨b,rfl,qb⟩:=q1
  cases s1 with
  | bl _=>exact⟨b,rfl,k _ ak _ F1 H1 qb f1 h1 (c1.pushS (.bl .nil) rfl)⟩⟩
def u0(t:fX)(ta tb:aN):aN:=λδ Q=>t δ λc ak=>if c=true then ta ak Q else tb ak Q
theorem cS1(hc:PT X c (lT tA))(ha:PE X a (lE ta))(hb:PE X b (lE tb)):PE X (.IfExp c a b pos) (lE (u0 tA ta tb)) :=
 dv (Zu hc ha hb) λσ H Q zq=>by
 obtain⟨B,F,δ,ts,Qd,c,q,k⟩:=zq
 exact⟨B,F,δ,ts,_,c,q,λb ak F1 H1 q1 f1 h1 c1=>by
  cases b with
  | true=>exact nF ⟨B,F1,ak,ts,Qd,c1,by simpa using q1,λd ah v F' H' hd sf sh c'=>k d ah v F' H' hd (f1.trans sf) (h1.trans sh) c'⟩
  | false=>exact iD ⟨B,F1,ak,ts,Qd,c1,by simpa using q1,λd ah v F' H' hd sf sh c'=>k d ah v F' H' hd (f1.trans sf) (h1.trans sh) c'⟩⟩
def rL:cF:=λδ Q=>Q [] δ
def rM(t:aN)(r:cF):cF:=λδ Q=>t δ λd ak=>r ak λds aV=>Q (d::ds) aV
theorem aq:PA X [] (lA rL):=yp fg λσ H Q ⟨B,F,δ,ts,Qd,c,q,k⟩=>k [] δ [] F H q (af.refl _) (af.refl _) c .nil
variable{tr:cF}
theorem ag(ha:PE X e (lB t))(hr:PA X es (lA tr))(hs:starEach (e::es) X.env=(false,eval e X.env)::starEach es X.env:=by rfl):PA X (e::es) (lA (rM t tr)) :=
 yp (bV ha hr hs) λσ H Q zq=>by
 obtain⟨B,F,δ,ts,Qd,c,q,k⟩:=zq
 exact⟨B,F,δ,ts,_,c,q,λd ak v F1 H1 q1 f1 h1 c1 s1=>⟨B,F1,ak,ts,_,c1,q1,λds aV vs F2 H2 q2 f2 h2 c2 s2 =>
  k (d::ds) aV (v::vs) F2 H2 q2 (f1.trans f2) (h1.trans h2) c2 ((s1.mono f2 h2).cons s2)⟩⟩
theorem cZ:PA X [] (lO rL):=yp fg λσ H Q ⟨B,F,δ,ts,Qd,c,q,k⟩=>k [] δ F H q (af.refl _) (af.refl _) c
theorem cJ(ha:PE X e (lE t))(hr:PA X es (lO tr))(hs:starEach (e::es) X.env=(false,eval e X.env)::starEach es X.env:=by rfl):PA X (e::es) (lO (rM t tr)) :=
 yp (bV ha hr hs) λσ H Q zq=>by
 obtain⟨B,F,δ,ts,Qd,c,q,k⟩:=zq
 exact⟨B,F,δ,ts,_,c,q,λd ak v F1 H1 q1 f1 h1 c1=>⟨B,F1,ak,(d,v)::ts,_,c1,q1,λps aV F2 H2 q2 f2 h2 c2 =>
  k ((d,v)::ps) aV F2 H2 q2 (f1.trans f2) (h1.trans h2) (c2.perm (List.perm_middle))⟩⟩
def rN(t:cF):aN:=λδ Q=>t δ λds ah=>ds.length<=sizeLine/\Q (.lst true ds) ah
def u3(t:cF):aN:=λδ Q=>t δ λds ah=>ds.length<=sizeLine/\Q (.tup ds) ah
theorem eN(h:PA X es (lO tr)):PE X (.List es pos) (lE (rN tr)) :=
 dv (Of h) λσ H Q zq=>by
 obtain⟨B,F,δ,ts,Qd,c,q,k⟩:=zq
 exact⟨B,F,δ,ts,_,c,q,λps ak F1 H1 q1 f1 h1 c1=>⟨by simpa using q1.1,λp hp=>k _ ak _ F1 _ q1.2 f1 (h1.trans (af.upd hp)) (c1.da4 hp)⟩⟩
theorem nL{x1}(h:PA X es (lO tr)):PE X (.Tuple es x1 pos) (lE (u3 tr)) :=
 dv (cD6 h) λσ H Q zq=>by
 obtain⟨B,F,δ,ts,Qd,c,q,k⟩:=zq
 exact⟨B,F,δ,ts,_,c,q,λps ak F1 H1 q1 f1 h1 c1=>⟨by simpa using q1.1,λp hp=>k _ ak _ F1 _ q1.2 f1 (h1.trans (af.upd hp)) (c1.da5 hp)⟩⟩
end
end L3
namespace L3
open PySem L2 PySem.Spec PyProof.Rows
abbrev bc:=List D->(D->Prop)->Prop
inductive bf(sp:bc)(vs:List V)(H:Hp)(Q:VK)(E:XK):Prop
 | mk (F ds Qd) (e:af F H) (r:R F H ds vs []) (q:sp ds Qd) (k:∀d v F' H' A,Qd d->af H H'->af F F'->af F' H'->(∀a ws,F' a=some (.lst ws)->F a=some (.lst ws)\/H a=none)->R F' H' [d] [v] A->A.Nodup->(∀a∈A,H a=none)->Q v H')
def pL(sp:bc)(t:cF):aN:=λδ Q=>t δ λds ah=>sp (ds.map D.sh) λd=>(ds.all D.pl||d.fr)=true/\Q d ah
theorem yq{B:Bs}{F H:Hp}{σ:L2.St}{δ:Dl}{ts:List (D × V)}{Qd:D->Prop}{Q:VK}{E:XK}{ds:List D}{vs:List V}{sp:bc}(c:ao B F H σ δ ts)(s:S F H ds vs)(q:sp (ds.map D.sh) λd=>(ds.all D.pl||d.fr)=true/\Qd d)
  (k:∀d v F' H',Qd d->af F F'->af H H'->ao B F' H' σ δ ((d,v)::ts)->Q v H'):bf sp vs H Q E:=by
 by_cases hp:ds.all D.pl=true
 ·rw[k7 hp]at q
  exact⟨F,ds,_,c.ext,s.r hp,q,λd v F' H' A hd hs hf he h3 r nd fr=>k d v F' H' hd.2 hf hs (c.call hs hf he h3 r nd fr)⟩
 ·refine⟨H,ds.map D.sh,_,af.refl _,s.frozen c.ext,q,λd v F' H' A hd hs hf he h3 r nd fr=>?_⟩
  have eJ:d.fr=true:=by
   have:=hd.1
   rw[Bool.or_eq_true]at this
   exact this.resolve_left hp
  exact k d v F H' hd.2 (af.refl _) hs (c.B6 hs (r.pG (by simp[eJ]) (c.ext.trans hf)) nd fr)
section
variable{X:Cx}{CX:eU}{n:Nat}{f:Addr}{fd:FuncData}{ps:List Str}{sp:bc}{E:XK}{x:Str}{p pos:Pos}{e:Expr}{es:List Expr}{t:cF}
theorem pM(F:aI X.prog X.w X.K X.mg X.base CX n f fd ps (bf sp))(hr:bS n X.A)(hg:Gl X x)(hm:X.mg x=some (.ref f))(hk:PySem.W.keepIn X.K (.ref f)=true)(hb:Binds X.K fd ps [])(hx:jT CX X E)
  (ha:PA X (e::es) (lA t)) (de:(x==("__debug__":Str))=false:=by decide) (he:starEach (e::es) X.env=(false,eval e X.env)::starEach es X.env:=by rfl) (bu:(backTo pos (starEach es X.env)).any (·.1)=false:=by rfl) :
  PE X (.Call (.Name x p) (e::es) [] pos) (lE (pL sp t)) :=
 dv (jo F hr hg hm hk hb .nil hx ha de he bu) λσ H Q zq=>by
 obtain⟨B,F,δ,ts,Qd,c,q,k⟩:=zq
 exact⟨B,F,δ,ts,_,c,q,λds ak vs F1 H1 q1 f1 h1 c1 s1=>by
  show bf sp (vs++[]) H1 Q E
  rw[fH]
  exact yq c1 s1 q1 λd v F' H' hd hf hs c'=>k d ak v F' H' hd (f1.trans hf) (h1.trans hs) c'⟩
end
def lh(N:List Str)(ds:List D):Dl:=ds.map some++aU (N.length-ds.length) none
section
variable{P:Program}{w:World}{K:PySem.W.Frag}{mg:Str->Option Value}{base:Heap}
theorem bA{x qual:Str}{st:Stmt}{f:Addr}{fd:FuncData}{N ps:List Str}{k:Nat}{sp:bc}(F:aY K x qual st f fd)(S:aX N ps (aK st))(len:∀ds Q,sp ds Q->ds.length=ps.length)
  (hW:∀(aC:Value) (A:Around) (outer:List Env) (s:Shared) (H:Hp) (E:XK),bS k (A.deeper (envOfC qual (aK st) s.heap.objs.size f aC)) ->
   ∃t:cO,PSs (i5 aO P w K mg base N qual (aK st) f aC A outer s H E).gy (fQ st) (lS (i5 aO P w K mg base N qual (aK st) f aC A outer s H E).gy t)/\∀ds Q,sp ds Q->t { nx:=λ_=>Q .au,rt:=Q } (lh N ds)):aI P w K mg base aO (k+1) f fd ps (bf sp):=by
 refine F.ok S (λvs H Q E ⟨F,ds,Qd,e,r,h,_⟩=>by rw[<-r.length];exact len ds Qd h) λaC A outer s H vs Q E hr zz=>?_
 obtain⟨F,ds,Qd,e,r,h,k⟩:=zz
 obtain⟨t,ht,hq⟩:=hW aC A outer s H E hr
 have fin:∀d v ah aF F' H',Qd d->ao ⟨H,F⟩ F' H' aF ah [(d,v)]->Q v H':=λd v ah aF F' H' hd c=>by
  obtain⟨A,C,r',s',nd,fr⟩:=c.own
  exact k d v F' H' A hd c.b1 c.b2 c.ext c.b3 r' (iJ.mp nd).1 λa ha=>fr a (eR _ ha)
 have e1:L2.start N vs=vs.map some++aU (N.length-ds.length) none:=by unfold L2.start;rw[r.length]
 refine⟨_,ht,⟨H,F⟩,F,lh N ds,_,?_,hq ds Qd h,λah aF F' H' hd c=>fin .au .au ah aF F' H' hd (c.pushS (.au .nil) rfl),fin,λ_ _ _ _ z=>z.elim,λ_ _ _ _ z=>z.elim,XL.none (λ_ _ z=>z) λ_ _ z=>z⟩
 rw[e1]
 exact ao.start e r _
end
section
variable{X:Cx}{e a b c:Expr}{es:List Expr}{pos:Pos}{st:Stmt}{pf rest:List Stmt}{t u:cO}{te:aN}{tt:fX}
def u4:cO:=λD δ=>D.nx δ
def Pr(t u:cO):cO:=λD δ=>t { D with nx:=u D } δ
theorem ay{t u:cO}{En:pI}{δ:Dl}(h:∀U:Dl->Prop,(∀ah,u En ah->U ah)->t { En with nx:=U } δ):Pr t u En δ:=h (u En) λ_ z=>z
theorem cy:PSs X [] (lS X u4):=B7 pd λD σ H ⟨B,F,δ,Dd,c,q,k⟩=>k.k1 δ σ F H q c
theorem aA(h1:PS X st (lS X t))(h2:PSs X rest (lS X u)):PSs X (st::rest) (lS X (Pr t u)) :=
 B7 (ff h1 h2) λD σ H zq=>by
 obtain⟨B,F,δ,Dd,c,q,k1,k2,k3,k4⟩:=zq
 exact⟨B,F,δ,{ Dd with nx:=u Dd },c,q,λah aF F' H' hq c'=>⟨B,F',ah,Dd,c',hq,k1,k2,k3,k4⟩,k2,k3,k4⟩
theorem aB(h1:PS X st (lS X t)):PSs X [st] (lS X t):=jl h1
theorem GZ:PS X st (lS X λ_ _=>False):=kB q9 λD σ H ⟨_,_,_,_,_,q,_⟩=>q.elim
theorem cg5:PSs X pf (lS X λ_ _=>False):=B7 ZD λD σ H ⟨_,_,_,_,_,q,_⟩=>q.elim
def rO(i:Nat)(t:cO):cO:=λD δ=>∃d,δ[i]?=some (some d)/\t D (δ.set i (some d.sh))
theorem Cc(i:Nat)(h:PSs X pf (lS X t)):PSs X pf (lS X (rO i t)):=B7 h λD σ H zz=>by
 obtain⟨B,F,δ,Dd,c,⟨d,e,q⟩,k⟩:=zz
 obtain⟨F',s,c'⟩:=c.freeze e
 exact⟨B,F',_,Dd,c',q,k⟩
def rP(i:Nat)(t:aN):cO:=λD δ=>t δ λd ah=>D.nx (ah.set i (some d))
theorem aZ{i:Nat}{x:Str}{pos':Pos}(hN:X.N.Nodup)(hi:X.N[i]?=some x)(hx:Loc X.env.scope x)(he:PE X e (lE te))(hs:swapsWith e (some (.Name x pos')) pos.line X.env=pure false:=by rfl)
  (hf:X.fn x=true\/X.env.scope.names.lookup x=some .local:=by first | exact .inl rfl | exact .inr rfl | assumption):PS X (.Assign [.Name x pos'] e pos) (lS X (rP i te)) :=
 kB (FJ hN hi hx he hs hf) λD σ H zq=>by
 obtain⟨B,F,δ,Dd,c,q,k1,k2,k3,k4⟩:=zq
 exact⟨B,F,δ,[],_,c,q,λd ah v F' H' hd sf sh c'=>k1 _ _ F' H' hd (c'.store i)⟩
def u5(t:aN):cO:=λD δ=>t δ λd _=>D.rt d
theorem aQ(he:PE X e (lE te)):PS X (.Return (some e) pos) (lS X (u5 te)) :=
 kB (ZA he) λD σ H zq=>by
 obtain⟨B,F,δ,Dd,c,q,k1,k2,k3,k4⟩:=zq
 exact⟨B,F,δ,[],_,c,q,λd ah v F' H' hd sf sh c'=>k2 d v ah σ F' H' hd c'⟩
def u6(t:aN):cO:=λD δ=>t δ λ_ ah=>D.nx ah
theorem G0(he:PE X e (lB te))(hs:swapsWith e none pos.line X.env=pure false:=by rfl):PS X (.Expr e pos) (lS X (u6 te)) :=
 kB (q0 he hs) λD σ H zq=>by
 obtain⟨B,F,δ,Dd,c,q,k1,k2,k3,k4⟩:=zq
 exact⟨B,F,δ,[],_,c,q,λd ah v F' H' hd sf sh c' s=>k1 ah σ F' H' hd c'⟩
def u7(tc:fX)(t u:cO):cO:=λD δ=>tc δ λb ah=>if b=true then t D ah else u D ah
theorem cA{l r:List Stmt}(hc:PT X c (lT tt))(ha:PSs X l (lS X t))(hb:PSs X r (lS X u)):PS X (.If c l r pos) (lS X (u7 tt t u)) :=
 kB (q8 hc ha hb) λD σ H zq=>by
 obtain⟨B,F,δ,Dd,c,q,k⟩:=zq
 exact⟨B,F,δ,[],_,c,q,λb ah F' H' hq sf sh c'=>by
  cases b with
  | true=>exact nF ⟨B,F',ah,Dd,c',by simpa using hq,k⟩
  | false=>exact iD ⟨B,F',ah,Dd,c',by simpa using hq,k⟩⟩
def u9(i:Nat)(rd:cS)(t:aN):cO:=λD δ=>∃x,δ[i]?=some (some x)/\t δ λy ak=>rd x y λz=>D.nx (ak.set i (some z))
theorem yr{i:Nat}{x:Str}{op:Operator}{rd:cS}{pos':Pos}(hN:X.N.Nodup)(hi:X.N[i]?=some x)(hx:Loc X.env.scope x)(he:PE X e (lB te))(ho:bX X (inplaceOp op) rd)
  (hf:X.fn x=true\/X.env.scope.names.lookup x=some .local:=by first | exact .inl rfl | exact .inr rfl | assumption):PS X (.AugAssign (.Name x pos') op e pos) (lS X (u9 i rd te)):=by
 obtain⟨r,h1,h2⟩:=ho
 refine kB (ZO hN hi hx he (ti:=r) h1 hf) λD σ H zz=>?_
 obtain⟨B,F,δ,Dd,c,⟨d0,e0,q⟩,k1,k2,k3,k4⟩:=zz
 obtain⟨v0,e1,s0⟩:=c.look e0
 exact⟨v0,e1,B,F,δ,[],_,c,q,λd ah v F' H' hd sf sh c' s=>h2 c' (s0.mono sf sh) s hd λz w H2 hz h3 c3=>k1 _ _ F' H2 hz (c3.store i)⟩
def va(tc:fX)(tb:cO):cO:=λD δ=>∃W:Nat->Dl->Prop,(∃m,W m δ)/\∀m δ,W m δ->tc δ λb ah=>if b=true then tb { D with nx:=λah=>∃m',m'<m/\W m' ah,ct:=λah=>∃m',m'<m/\W m' ah,bk:=D.nx } ah else D.nx ah
theorem vb{body:List Stmt}(hp:PassesOwn (model X.prog X.w) X.A X.env X.xe)(hc:PT X c (lT tt))(hb:PSs X body (lS X t)):PS X (.While c body [] pos) (lS X (va tt t)) :=
 kB (ZS hp hc hb) λD σ H zz=>by
  obtain⟨B,F,δ,Dd,c,⟨W,⟨m0,w0⟩,hw⟩,k1,k2,k3,k4⟩:=zz
  refine⟨λm σ H=>∃F δ,ao B F H σ δ []/\W m δ,⟨m0,F,δ,c,w0⟩,λm σ H ⟨F,δ,c,w⟩=>⟨B,F,δ,[],_,c,hw m δ w,λb ah F' H' hq sf sh c'=>?_⟩⟩
  cases b with
  | true =>
   refine nF ⟨λaF H'=>∃m',m'<m/\∃F δ,ao B F H' aF δ []/\W m' δ,λaF H' z=>z,B,F',ah,{ Dd with nx:=λah=>∃m',m'<m/\W m' ah,ct:=λah=>∃m',m'<m/\W m' ah,bk:=Dd.nx },c',by simpa using hq,λaV jR F2 H2 ⟨m',hm,w2⟩ c2=>⟨m',hm,F2,aV,c2,w2⟩,k2,λaV jR F2 H2 z c2=>k1 aV jR F2 H2 z c2,λaV jR F2 H2 ⟨m',hm,w2⟩ c2=>⟨m',hm,F2,aV,c2,w2⟩,k4.2⟩
  | false=>exact iD (k1 ah σ F' H' (by simpa using hq) c')
end
structure JD(J:It)(F:Hp)(xs:List D):Prop where
 go:∀i H,af F H->i<xs.length->J.go i H
 ky:∀i H x H',af F H->i<xs.length->J.ky i H x H'->∃d,xs[i]?=some d/\af H H'/\R F H' [d] [x] []
 stop:∀i H,af F H->xs.length<=i->J.stop i H
abbrev ju:=Dl->(Bool->List D->Dl->Prop)->Prop
inductive lI(t:ju)(σ:L2.St)(H:Hp)(Rr:It->Hp->Prop):Prop
 | mk (B F δ ts Qd) (c:ao B F H σ δ ts) (q:t δ Qd) (k:∀g xs ah J F' H',Qd g xs ah->af F F'->af H H'->ao B F' H' σ ah ts->JD J H' (xs.map D.sh)->(g=true->xs.all D.pl=true/\JD J F' xs)->Rr J H')
abbrev iK:=D->Dl->(Dl->Prop)->Prop
inductive lG(m:Nat)(t:iK)(v:V)(σ:L2.St)(H:Hp)(Q:L2.St->Hp->Prop):Prop
 | mk (B F δ ts d Qd) (c:ao B F H σ δ ((d,v)::ts)) (q:t d δ Qd) (k:∀ah aF,Qd ah->aF.length=σ.length->(∀j,j<m->aF[j]?=σ[j]?)->ao B F H aF ah ts->Q aF H)
def kD:D->Option (List D)
 | .lst _ xs=>some xs
 | .fz xs=>some xs
 | _=>none
section
variable{B:Bs}{F H F1:Hp}{σ:L2.St}{δ:Dl}{ts:List (D × V)}
end
section
variable{X:Cx}{e a b c tg l iter:Expr}{es:List Expr}{pos:Pos}{t u:cO}{te:aN}{tt:fX}{ta:cF}{m:Nat}
theorem vd{w w':TI}(h:PI X tg iter w)(m:∀σ H Q,w' σ H Q->w σ H Q):PI X tg iter w':=λpins s σ H Q I q=>h pins s σ H Q I (m σ H Q q)
theorem Pt{w w':TG}(h:PG X tg w)(m:∀v σ H Q,w' v σ H Q->w v σ H Q):PG X tg w':=λpins s σ H v u Q I r q=>h pins s σ H v u Q I r (m v σ H Q q)
def gN(i:Nat):iK:=λd δ Q=>Q (δ.set i (some d))
theorem jY{i:Nat}{x:Str}(hN:X.N.Nodup)(hi:X.N[i]?=some x)(hx:Loc X.env.scope x)(hm:m<=i:=by decide)(hf:X.fn x=true\/X.env.scope.names.lookup x=some .local:=by first | exact .inl rfl | exact .inr rfl | assumption):PG X (.Name x pos) (lG m (gN i)) :=
 Pt (BH hN hi hx hf) λv σ H Q ⟨B,F,δ,ts,d,Qd,c,q,k⟩=>k _ _ q (by simp) (λj hj=>by rw[qI (by omega)]) (c.store i)
theorem nM{K:PySem.W.Frag}{F H:Hp}{p:Addr}{xs:List D}{ws:List V}(hp:Rd F p (.lst ws))(r:R F H xs ws [])(hF:Full F H):JD (FL K p) F xs where
 go:=λi H' hs hi=>by
  have l:=r.length
  have gO:i<ws.length:=by omega
  exact⟨ws,ws[i],.inl (i7 hp hs),aR gO⟩
 ky:=λi H' x H2 hs hi zz=>by
  obtain⟨e,y⟩:=zz
  subst e
  have hx:=y ws (.inl (i7 hp hs))
  obtain⟨v,A1,e2,r1,sub⟩:=(r.full hF hs rfl).get (aR hi)
  rw[hx]at e2;cases e2
  have:A1=[]:=YH.mpr λa ha=>by simpa using sub ha
  subst this
  exact⟨_,aR hi,af.refl _,r1⟩
 stop:=λi H' hs hi=>⟨ws,.inl (i7 hp hs),by have:=r.length;omega⟩
theorem Cd{F:Hp}(lo:Int)(n:Nat):JD (xX lo n) F ((aL n).map λ(k:Nat)=>D.int (lo+(k:Int))) where
 go:=λi H' hs hi=>by
  have gO:i<n:=by simpa using hi
  exact gO
 ky:=λi H' x H2 hs hi zz=>by
  obtain⟨e,y⟩:=zz
  subst e y
  have gO:i<n:=by simpa using hi
  exact⟨.int (lo+i),by simp[jL gO],af.refl _,.int .nil⟩
 stop:=λi H' hs hi=>by
  have gO:n<=i:=by simpa using hi
  exact gO
def ve(t:aN):ju:=λδ Q=>t δ λd ah=>∃xs,kD d=some xs/\Q true (xs.map D.sh) ah
theorem cS4(xs:List D){F H:Hp}{ws:List V}(r:R F H (xs.map D.sh) ws []):(xs.map D.sh).map D.sh=xs.map D.sh:=k7 r.pl
theorem G1(h:PE X l (lE te)):PI X tg l (lI (ve te)) :=
 vd (N5 h) λσ H Q zq=>by
 obtain⟨B,F,δ,ts,Qd,c,q,k⟩:=zq
 exact⟨B,F,δ,ts,_,c,q,λd ak v F1 H1 hd f1 h1 c1=>by
  obtain⟨xs,e,hq⟩:=hd
  obtain⟨F2,f2,c2⟩:=c1.GW
  have tp:=c2.top
  have c3:=c2.pop.snap
  have e2:=c2.ext
  have sn:=rG e2
  cases d with
  | lst o ys =>
   obtain rfl:=dn e
   rw[dD]at tp
   cases tp with
   | @shr p ws _ _ _ hp r _ =>
    have r3:=r.shared sn (af.refl _)
    refine⟨p,rfl,⟨ws,bQ.of (e2 _ _ hp)⟩,k true _ ak _ _ H1 hq ((f1.trans f2).trans sn) h1 c3 ?_ λ_=>⟨r.pl,nM (.inl (sn _ _ hp)) r3 uR⟩⟩
    rw[cS4 _ r]
    exact nM (.inl (e2 _ _ hp)) (r.shared e2 (af.refl _)) (Full.refl _)
  | fz ys =>
   obtain rfl:=dn e
   cases tp with
   | @fz p o ws _ _ _ hp r _ =>
    have r3:=r.shared sn (af.refl _)
    have es:=k7 r.pl
    rw[es]at hq
    refine⟨p,rfl,⟨ws,.inl (.inr ⟨o,e2 _ _ hp⟩)⟩,k true _ ak _ _ H1 hq ((f1.trans f2).trans sn) h1 c3 ?_ λ_=>⟨r.pl,nM (.inr ⟨o,sn _ _ hp⟩) r3 uR⟩⟩
    rw[es]
    exact nM (.inr ⟨o,e2 _ _ hp⟩) (r.shared e2 (af.refl _)) (Full.refl _)
  | au=>cases e
  | bl _=>cases e
  | int _=>cases e
  | str _=>cases e
  | tup _=>cases e
  | obj _ _ _=>cases e
  | bD _=>cases e⟩
def vg(t:aN):ju:=λδ Q=>t δ λd ah=>∃xs,kD d=some xs/\Q d.pl xs ah
theorem iM(h:PE X l (lB te)):PI X tg l (lI (vg te)) :=
 vd (N5 h) λσ H Q zq=>by
 obtain⟨B,F,δ,ts,Qd,c,q,k⟩:=zq
 exact⟨B,F,δ,ts,_,c,q,λd ak v F1 H1 hd f1 h1 c1 s=>by
  obtain⟨xs,e,hq⟩:=hd
  have c3:=c1.snap
  have e2:=c1.ext
  have sn:=rG e2
  cases s with
  | @shr p ws ys _ _ hp r _ =>
   obtain rfl:=dn e
   refine⟨p,rfl,⟨ws,bQ.of (e2 _ _ hp)⟩,k _ _ ak _ _ H1 hq (f1.trans sn) h1 c3 ?_ λ_=>⟨r.pl,nM (.inl (sn _ _ hp)) (r.shared sn (af.refl _)) uR⟩⟩
   rw[k7 r.pl]
   exact nM (.inl (e2 _ _ hp)) (r.shared e2 (af.refl _)) (Full.refl _)
  | @own p ws ys _ _ hp r _ =>
   obtain rfl:=dn e
   refine⟨p,rfl,⟨ws,bQ.of hp⟩,k _ _ ak _ _ H1 hq (f1.trans sn) h1 c3 (nM (.inl hp) (r.frozen e2) (Full.refl _)) λz=>by simp[fV]at z⟩
  | @fz p o ws ys _ _ hp r _ =>
   obtain rfl:=dn e
   refine⟨p,rfl,⟨ws,.inl (.inr ⟨o,e2 _ _ hp⟩)⟩,k _ _ ak _ _ H1 hq (f1.trans sn) h1 c3 ?_ λ_=>⟨r.pl,nM (.inr ⟨o,sn _ _ hp⟩) (r.shared sn (af.refl _)) uR⟩⟩
   rw[k7 r.pl]
   exact nM (.inr ⟨o,e2 _ _ hp⟩) (r.shared e2 (af.refl _)) (Full.refl _)
  | au _=>cases e
  | bl _=>cases e
  | int _=>cases e
  | str _=>cases e
  | tup _ _ _=>cases e
  | obj _ _ _ _=>cases e
  | bD _ _=>cases e⟩
theorem yt(f:Nat->Int)(l:List Nat):(l.map λk=>D.int (f k)).map D.sh=l.map λk=>D.int (f k):=by simp[D.sh]
theorem Pu(f:Nat->Int)(l:List Nat):(l.map λk=>D.int (f k)).all D.pl=true:=by simp[D.pl]
def vh(t:cF):ju:=λδ Q=>t δ λds ah=>∃j:Int,ds=[.int j]/\(-(2 ^ 62)<=j/\j<2 ^ 62)/\Q true ((aL j.toNat).map λ(k:Nat)=>D.int (0+(k:Int))) ah
theorem jv{p:Pos}(hg:Gl X "range")(hm:X.mg "range"=none)(ha:PA X [a] (lA ta))(hs:starEach [a] X.env=[(false,eval a X.env)]:=by rfl):PI X tg (.Call (.Name "range" p) [a] [] pos) (lI (vh ta)) :=
 vd (ZY hg hm ha hs) λσ H Q zq=>by
 obtain⟨B,F,δ,ts,Qd,c,q,k⟩:=zq
 exact⟨B,F,δ,ts,_,c,q,λds ak vs F1 H1 hd f1 h1 c1 s=>by
  obtain⟨j,rfl,⟨b1,b2⟩,hq⟩:=hd
  cases s with
  | int s =>
   cases s
   refine⟨j,rfl,b1,b2,k true _ ak _ _ H1 hq f1 h1 c1 ?_ λ_=>⟨Pu _ _,Cd 0 _⟩⟩
   rw[yt]
   exact Cd 0 _⟩
def vi(t:cF):ju:=λδ Q=>t δ λds ah=>∃i j:Int,ds=[.int i,.int j]/\(-(2 ^ 62)<=i/\i<2 ^ 62/\-(2 ^ 62)<=j/\j<2 ^ 62)/\Q true ((aL (j-i).toNat).map λ(k:Nat)=>D.int (i+(k:Int))) ah
theorem yu{p:Pos}(hg:Gl X "range")(hm:X.mg "range"=none)(ha:PA X [a,b] (lA ta))(hs:starEach [a,b] X.env=[(false,eval a X.env),(false,eval b X.env)]:=by rfl)(eI:starEach [b] X.env=[(false,eval b X.env)]:=by rfl) :
  PI X tg (.Call (.Name "range" p) [a,b] [] pos) (lI (vi ta)) :=
 vd (ZZ hg hm ha hs eI) λσ H Q zq=>by
 obtain⟨B,F,δ,ts,Qd,c,q,k⟩:=zq
 exact⟨B,F,δ,ts,_,c,q,λds ak vs F1 H1 hd f1 h1 c1 s=>by
  obtain⟨i,j,rfl,bd,hq⟩:=hd
  cases s with
  | int s =>
   cases s with
   | int s =>
    cases s
    refine⟨i,j,rfl,bd,k true _ ak _ _ H1 hq f1 h1 c1 ?_ λ_=>⟨Pu _ _,Cd i _⟩⟩
    rw[yt]
    exact Cd i _⟩
def gS(xs:List D)(g:iK)(tb:cO):cO:=λEn ak=>∃Iv:Nat->Dl->Prop,Iv 0 ak /\
 (∀i d ah,xs[i]?=some d->Iv i ah->g d ah λaV=>tb { En with nx:=Iv (i+1),ct:=Iv (i+1),bk:=En.nx } aV)/\∀ah,Iv xs.length ah->En.nx ah
theorem gS.mk{xs:List D}{g:iK}{tb:cO}{En:pI}{δ:Dl}(Iv:Nat->Dl->Prop)(h0:Iv 0 δ)(ht:∀i d ah,xs[i]?=some d->Iv i ah->g d ah λaV=>tb { En with nx:=Iv (i+1),ct:=Iv (i+1),bk:=En.nx } aV)
  (hf:∀ah,Iv xs.length ah->En.nx ah):gS xs g tb En δ:=⟨Iv,h0,ht,hf⟩
def vj(ti:ju)(g:iK)(tb:cO):cO:=λEn δ=>ti δ λsh xs ak=>sh=true/\gS xs g tb En ak
theorem gU{ti:ju}{g:iK}{body:List Stmt}(hp:PassesOwn (model X.prog X.w) X.A X.env X.xe)(hc:X.calm=true)(hi:PI X tg iter (lI ti))(hg:PG X tg (lG 0 g))(hb:PSs X body (lS X t))
  (hs:∀x,foldedSetIterable iter X.env x=pure x:=by intro _;rfl):PS X (.For tg iter body [] pos) (lS X (vj ti g t)) :=
 kB (Z2 hp hc hi hg hb hs) λEn σ H zq=>by
 obtain⟨B,F,δ,Dd,c,q,k1,k2,k3,k4⟩:=zq
 exact⟨B,F,δ,[],_,c,q,λsh xs ak J F1 H1 hq f1 h1 c1 _ jd=>by
  obtain⟨ye,Iv,i0,turn,fin⟩:=hq
  obtain⟨bu,jd⟩:=jd ye
  have un:∀{F' H':Hp} {aF:L2.St} {ah:Dl} {ts:List (D × V)},ao ⟨B.H0,F1⟩ F' H' aF ah ts->ao B F' H' aF ah ts:=λc'=>c'.da7 c1.b2 c1.b3
  refine⟨λi m σ H=>m=xs.length-i/\i<=xs.length/\∃F δ,ao ⟨B.H0,F1⟩ F H σ δ []/\Iv i δ,⟨_,rfl,mf _,F1,ak,c1.rebase,i0⟩,?_⟩
  rintro i m jR H2 ⟨rfl,hi,F2,aV,c2,iv⟩
  have s2:af F1 H2:=c2.b2.trans c2.ext
  by_cases gB:i<xs.length
  ·refine .inr ⟨jd.go i H2 s2 gB,λaF H'=>∃F δ,ao ⟨B.H0,F1⟩ F H' aF δ []/\Iv (i+1) δ,λaF H' z=>⟨xs.length-(i+1),by omega,rfl,gB,z⟩,λx H3 y=>?_⟩
   obtain⟨d,e,s3,r⟩:=jd.ky i H2 x H3 s2 gB y
   have c3:=(c2.grow s3).pushS (d:=d) (v:=x) ((r.s).mono c2.b2 (af.refl _)) (by have:=r.pl;simpa using this)
   refine⟨⟨B.H0,F1⟩,F2,aV,[],d,_,c3,turn i d aV e iv,λah aF hq _ _ c4=>?_⟩
   exact⟨⟨B.H0,F1⟩,F2,ah,_,c4,hq,λjZ nN F5 H5 h5 c5=>⟨F5,jZ,c5,h5⟩,λd5 v5 jZ nN F5 H5 h5 c5=>k2 d5 v5 jZ nN F5 H5 h5 (un c5),λjZ nN F5 H5 h5 c5=>k1 jZ nN F5 H5 h5 (un c5),λjZ nN F5 H5 h5 c5=>⟨F5,jZ,c5,h5⟩,⟨λC jZ pins nN F5 H5 s5 a T h5 c5=>k4.2.1 C jZ pins nN F5 H5 s5 a T h5 (un c5),λC jZ pins nN F5 H5 s5 h' e vs h5 c5=>k4.2.2 C jZ pins nN F5 H5 s5 h' e vs h5 (un c5)⟩⟩
  ·have e:i=xs.length:=by omega
   subst e
   exact .inl ⟨jd.stop _ H2 s2 (bM _),k1 aV jR F2 H2 (fin aV iv) (un c2)⟩⟩
end
end L3
namespace L3
open PySem L2 PySem.Spec PyProof.Rows
def j3(δ:Dl)(q:Str × Nat):Option D:=(δ[q.2]?).getD none
def jw(δ:Dl)(q:Str × Nat):Bool:=match j3 δ q with
 | some d=>d.pl
 | none=>true
def gC(aD:List (Str × Nat))(n:Nat)(δ:Dl):Dl:=(aD.map λq=>(j3 δ q).map D.sh)++aU n none
def vk(sh:Bool)(xs:List D)(aD:List (Str × Nat))(n:Nat)(g:iK)(tt:fX)(te:aN)(ak:Dl)(Q:D->Dl->Prop):Prop:=∃(p:D->Bool) (f:D->D),
 (∀x∈xs.map D.sh,g x (gC aD n ak) λaV=>tt aV λb i8=>b=p x/\(p x=true->te i8 λd _=>d=f x)) /\
 ((sh&&aD.all (jw ak))=true\/∀x∈xs.map D.sh,p x=true->(f x).fr=true)/\xs.length<=sizeLine/\Q (.lst true (((xs.map D.sh).filter p).map f)) ak
def pO(ti:ju)(aD:List (Str × Nat))(n:Nat)(g:iK)(tt:fX)(te:aN):aN:=λδ Q=>ti δ λsh xs ak=>vk sh xs aD n g tt te ak Q
def mI:fX:=λδ Q=>Q true δ
theorem cf1{sh:Bool}{xs:List D}{aD:List (Str × Nat)}{n m:Nat}{te:aN}{ak:Dl}{Q:D->Dl->Prop}(f:D->D)(hx:∀x∈xs.map D.sh,te ((gC aD n ak).set m (some x)) λd _=>d=f x)
  (eJ:(sh&&aD.all (jw ak))=true\/∀x∈xs.map D.sh,(f x).fr=true) (hl:xs.length<=sizeLine) (hq:Q (.lst true ((xs.map D.sh).map f)) ak):vk sh xs aD n (gN m) mI te ak Q :=
 ⟨λ_=>true,f,λx h=>⟨rfl,λ_=>hx x h⟩,eJ.imp id λh x hx _=>h x hx,hl,by rw[YI.mpr (λ_ _=>rfl)];exact hq⟩
section
variable{B:Bs}{F H:Hp}{σ:L2.St}{δ:Dl}{ts:List (D × V)}
theorem Pw(c:ao B F H σ δ ts)(n:Nat):∀(aD:List (Str × Nat)),aD.all (jw δ)=true->RS F H (gC aD n δ) (iF aD n σ) []
 | [],_=>by
  have z:∀n,RS F H (aU n none) (aU n none) []:=λn=>by
   induction n with
   | zero=>exact .nil
   | succ n ih=>exact .au ih
  exact z n
 | q::r,h=>by
  rw[dA,eT]at h
  have ih:=Pw c n r h.2
  show RS F H ((j3 δ q).map D.sh::gC r n δ) ((σ[q.2]?).getD none::iF r n σ) []
  cases e:j3 δ q with
  | none=>exact .au ih
  | some d =>
   have e2:δ[q.2]?=some (some d):=by
    unfold j3 at e
    cases z:δ[q.2]? with
    | none=>rw[z]at e;cases e
    | some o=>rw[z]at e;exact congrArg some e
   have hp:d.pl=true:=by have:=h.1;unfold jw at this;rw[e]at this;exact this
   obtain⟨v,e3,s⟩:=c.look e2
   rw[e3]
   show RS F H (some d.sh::_) (some v::_) []
   rw[D.B5 hp]
   exact .eo (A:=[]) (s.r (by simp[hp])) ih
theorem Px(c:ao B F H σ δ ts)(n:Nat):∀(aD:List (Str × Nat)),RS H H (gC aD n δ) (iF aD n σ) []
 | []=>by
  have z:∀n,RS H H (aU n none) (aU n none) []:=λn=>by
   induction n with
   | zero=>exact .nil
   | succ n ih=>exact .au ih
  exact z n
 | q::r=>by
  have ih:=Px c n r
  show RS H H ((j3 δ q).map D.sh::gC r n δ) ((σ[q.2]?).getD none::iF r n σ) []
  cases e:j3 δ q with
  | none=>exact .au ih
  | some d =>
   have e2:δ[q.2]?=some (some d):=by
    unfold j3 at e
    cases z:δ[q.2]? with
    | none=>rw[z]at e;cases e
    | some o=>rw[z]at e;exact congrArg some e
   obtain⟨v,e3,s⟩:=c.look e2
   rw[e3]
   exact .eo (A:=[]) (s.frozen c.ext) ih
theorem Py{α:Type}(xs:List α)(p:α->Bool)(i:Nat)(x:α)(h:xs[i]?=some x):(xs.take (i+1)).filter p=(xs.take i).filter p++(if p x=true then [x]else []):=by
 rw[qP,h,List.filter_append]
 simp only[Np]
 by_cases hp:p x=true<;>simp[hp]
end
section
variable{X:Cx}{elt iter tg:Expr}{pos:Pos}{ifs:List Expr}{scope:Scope}{cl:List (Str × Addr)}{ti:ju}{tt:fX}{te:aN}{g:iK}
theorem G2{B:Bs}{F1 H1:Hp}{σ:L2.St}{ak:Dl}{ts:List (D × V)}{J:It}{Qd:D->Dl->Prop}{Q:VK}{xs:List D}{sh:Bool}{aD:List (Str × Nat)}{n:Nat}(c1:ao B F1 H1 σ ak ts)
  (nO:JD J H1 (xs.map D.sh)) (rQ:sh=true->xs.all D.pl=true/\JD J F1 xs) (p:D->Bool) (f:D->D)
  (hx:∀x∈xs.map D.sh,g x (gC aD n ak) λaV=>tt aV λb i8=>b=p x/\(p x=true->te i8 λd _=>d=f x))
  (eJ:(sh&&aD.all (jw ak))=true\/∀x∈xs.map D.sh,p x=true->(f x).fr=true) (hlen:xs.length<=sizeLine) (hq:Qd (.lst true (((xs.map D.sh).filter p).map f)) ak)
  (k:∀d ah v F' H',Qd d ah->af F1 F'->af H1 H'->ao B F' H' σ ah ((d,v)::ts)->Q v H'):O7 J aD n (lG aD.length g) (lT tt) (lE te) σ H1 Q:=by
 intro Dp hD
 have cD:ao B F1 (upd H1 Dp (.lst [])) σ ak ((.lst true [],.ref Dp)::ts):=c1.pH hD .nil rfl
 refine⟨λi m acc H2=>m=xs.length-i/\i<=xs.length/\H2 Dp=some (.lst acc)/\af H1 H2/\acc.length<=i/\∃F2,af F1 F2 /\
  ao B F2 H2 σ ak ((.lst true ((((xs.map D.sh).take i).filter p).map f),.ref Dp)::ts),⟨xs.length,rfl,mf _,bH,af.upd hD,bM _,F1,af.refl _,by simpa using cD⟩,?_⟩
 rintro i m acc H2 ⟨rfl,hi,G3,yv,hal,F2,nQ,c2⟩
 refine⟨G3,?_⟩
 by_cases gB:i<xs.length
 case neg =>
  have e:i=xs.length:=by omega
  subst e
  refine .inl ⟨nO.stop _ H2 yv (by simp),k _ ak _ F2 H2 ?_ nQ yv c2⟩
  have:(xs.map D.sh).take xs.length=xs.map D.sh:=by rw[A8 (by simp)]
  rw[this]
  exact hq
 case pos =>
  refine .inr ⟨nO.go i H2 yv (by simpa using gB),λx H3 y=>?_⟩
  obtain⟨d0,e0,G4,r0⟩:=nO.ky i H2 x H3 yv (by simpa using gB) y
  have Pz:d0∈xs.map D.sh:=t7 e0
  have PB:H3 Dp=some (.lst acc):=G4 _ _ G3
  have c3:=c2.grow G4
  have G5:=yv.trans G4
  refine⟨PB,?_⟩
  have gD:=hx d0 Pz
  have turn:∀Fi,af Fi H3->RS Fi H3 (gC aD n ak) (iF aD n σ) []->S Fi H3 [d0] [x]->d0.pl=true ->
    (∀d v F' H' A,d=f d0->p d0=true->af H3 H'->af Fi F'->af F' H'->(∀a ws,F' a=some (.lst ws)->Fi a=some (.lst ws)\/H3 a=none)->R F' H' [d] [v] A->A.Nodup->(∀a∈A,H3 a=none) ->
     ∃F4,af F2 F4/\ao B F4 H' σ ak ((d,v)::(.lst true ((((xs.map D.sh).take i).filter p).map f),.ref Dp)::ts)) ->
    lG aD.length g x (iF aD n σ) H3 λhJ H4 =>
     (hJ.length=(iF aD n σ).length/\∀j,j<aD.length->hJ[j]?=(iF aD n σ)[j]?)/\lT tt hJ H4 λb H5=>H5 Dp=some (.lst acc) /\
     if b=true then lE te hJ H5 λy H6=>H6 Dp=some (.lst acc)/\acc.length<sizeLine/\∃m',m'<xs.length-i /\
      (m'=xs.length-(i+1)/\i+1<=xs.length/\upd H6 Dp (.lst (acc++[y])) Dp=some (.lst (acc++[y]))/\af H1 (upd H6 Dp (.lst (acc++[y])))/\(acc++[y]).length<=i+1/\∃F2,af F1 F2 /\
       ao B F2 (upd H6 Dp (.lst (acc++[y]))) σ ak ((.lst true ((((xs.map D.sh).take (i+1)).filter p).map f),.ref Dp)::ts))
     else ∃m',m'<xs.length-i/\(m'=xs.length-(i+1)/\i+1<=xs.length/\H5 Dp=some (.lst acc)/\af H1 H5/\acc.length<=i+1/\∃F2,af F1 F2 /\
       ao B F2 H5 σ ak ((.lst true ((((xs.map D.sh).take (i+1)).filter p).map f),.ref Dp)::ts)):=by
   intro Fi hFi hRS hS bu back
   have ci:ao ⟨H3,Fi⟩ Fi H3 (iF aD n σ) (gC aD n ak) []:=⟨hFi,af.refl _,af.refl _,λ_ _ q=>.inl q,[],[],.nil,hRS,by simp,by simp⟩
   refine⟨⟨H3,Fi⟩,Fi,gC aD n ak,[],d0,_,ci.pushS hS bu,gD,λah hJ hq1 l1 k1 c4=>⟨⟨l1,k1⟩,⟨H3,Fi⟩,Fi,ah,[],_,c4,hq1,λb jZ F5 H5 hb f5 h5 c5=>?_⟩⟩
   obtain⟨hb,ht⟩:=hb
   have Ce:H5 Dp=some (.lst acc):=h5 _ _ PB
   refine⟨Ce,?_⟩
   by_cases hp:p d0=true
   ·rw[hb,hp]
    refine nF ⟨⟨H3,Fi⟩,F5,jZ,[],_,c5,ht hp,λd δ6 v F6 H6 hd f6 h6 c6=>?_⟩
    have PC:H6 Dp=some (.lst acc):=h6 _ _ Ce
    obtain⟨A,C,r,s,nd,fr⟩:=c6.own
    obtain⟨F4,yw,c7⟩:=back d v F6 H6 A hd hp c6.b1 c6.b2 c6.ext c6.b3 r (iJ.mp nd).1 λa ha=>fr a (eR _ ha)
    have c8:=c7.db2 PC
    refine⟨PC,by omega,xs.length-(i+1),by omega,rfl,gB,bH,?_,by simpa using hal,F4,nQ.trans yw,?_⟩
    ·have PD:=G5.trans c6.b1
     exact⟨λa o q n=>by rw[aT (dW q hD)];exact PD.get a o q n,λa ps q=>by rw[aT (dW q hD)];exact PD.tb a ps q⟩
    ·have e9:(((xs.map D.sh).take (i+1)).filter p).map f=(((xs.map D.sh).take i).filter p).map f++[d]:=by
      rw[Py _ p i d0 e0,hp,hd];simp
     rw[e9]
     exact c8
   ·have Cf:p d0=false:=by simpa using hp
    rw[hb,Cf]
    refine iD ⟨xs.length-(i+1),by omega,rfl,gB,Ce,G5.trans h5,by omega,F2,nQ,?_⟩
    have e9:(((xs.map D.sh).take (i+1)).filter p).map f=(((xs.map D.sh).take i).filter p).map f:=by
     rw[Py _ p i d0 e0,Cf];simp
    rw[e9]
    exact c3.grow h5
  by_cases hA:(sh&&aD.all (jw ak))=true
  ·rw[eT]at hA
   obtain⟨bu,jd⟩:=rQ hA.1
   have ye:=k7 bu
   rw[ye]at e0
   obtain⟨d1,e1,_,r1⟩:=jd.ky i H2 x H3 (nQ.trans c2.ext) gB y
   rw[e0]at e1;cases e1
   have dc7:d0.pl=true:=by have:=r1.pl;simpa using this
   refine turn F2 c3.ext (Pw c3 n aD hA.2) ((r1.s).mono nQ (af.refl _)) dc7 λd v F' H' A hd hp hs hf he h3 r nd fr=>⟨F',hf,c3.call hs hf he h3 r nd fr⟩
  ·have dc8:=eJ.resolve_left hA
   refine turn H3 (af.refl _) (Px c3 n aD) ((r0.shared G5 (af.refl _)).s) (by have:=r0.pl;simpa using this) λd v F' H' A hd hp hs hf he h3 r nd fr=>⟨F2,af.refl _,?_⟩
   exact c3.B6 hs (r.pG (by rw[hd];simp[dc8 d0 Pz hp]) (c3.ext.trans hf)) nd fr
theorem dM{Y:Cx}:mD Y [] (lT mI):=λ_ _ _ H _ I ⟨B,F,δ,ts,Qd,c,q,k⟩=>cs4 _ _ _ H _ I (k true δ F H q (af.refl _) (af.refl _) c)
theorem G6{Y:Cx}{c:Expr}(h:PT Y c (lT tt)):mD Y [c] (lT tt):=cs5 h
end
end L3
namespace L3
open PySem L2 PySem.Spec PyProof.Rows
section
variable{X:Cx}{F H:Hp}{v w:V}
def l2(rd:cS):R2:=λv w H Q=>∃B F σ δ ts x y Qd,ao B F H σ δ ts/\S F H [x] [v]/\S F H [y] [w]/\rd x y Qd/\∀d z H',Qd d->af H H'->ao B F H' σ δ ((d,z)::ts)->Q z H'
theorem bX.of{f:Value->Value->Sem Value}{rd:cS}(h:cQ X f (l2 rd)):bX X f rd:=⟨_,h,λ{B F H σ δ ts x y v w Q Qd} c sx sy q k=>⟨B,F,σ,δ,ts,x,y,Qd,c,sx,sy,q,k⟩⟩
theorem yx{f:Value->Value->Sem Value}{C:Int->Int->Prop}{g:Int->Int->V}{gd:Int->Int->D}(ho:cQ X f (rI C g))(hg:∀i j F H,S F H [gd i j] [g i j])(hp:∀i j,(gd i j).pl=true):bX X f λx y Q=>∃i j,x=.int i/\y=.int j/\C i j/\Q (gd i j) :=
 ⟨_,ho,λ{B F H σ δ ts x y v w Q Qd} c sx sy h k=>by
  obtain⟨i,j,rfl,rfl,hc,q⟩:=h
  cases sx;cases sy
  exact⟨i,j,rfl,rfl,hc,k _ _ _ q (af.refl _) (c.pushS (hg i j F H) (hp i j))⟩⟩
theorem mJ{f:Value->Value->Sem Value}{g:Int->Int->V}{gd:Int->Int->D}(ho:cQ X f (jS g))(hg:∀i j F H,S F H [gd i j] [g i j])(hp:∀i j,(gd i j).pl=true):bX X f λx y Q=>∃i j,x=.int i/\y=.int j/\Q (gd i j) :=
 ⟨_,ho,λ{B F H σ δ ts x y v w Q Qd} c sx sy h k=>by
  obtain⟨i,j,rfl,rfl,q⟩:=h
  cases sx;cases sy
  exact⟨i,j,rfl,rfl,k _ _ _ q (af.refl _) (c.pushS (hg i j F H) (hp i j))⟩⟩
theorem jx{o:Bool}{xs:List D}(s:S F H [.lst o xs] [v])(e:af F H):∃p ws,v=.ref p/\H p=some (.lst ws)/\S F H xs ws:=by
 cases s with
 | shr h r _=>exact⟨_,_,rfl,e _ _ h,r.s⟩
 | own h r _=>exact⟨_,_,rfl,h,r⟩
theorem lj{xs:List D}(s:S F H [.tup xs] [v]):∃p ws,v=.ref p/\H p=some (.tup ws)/\S F H xs ws:=by
 cases s with
 | tup h r _=>exact⟨_,_,rfl,h,r⟩
theorem mK{d:D}{xs:List D}(s:S F H [d] [v])(e:af F H)(h:kD d=some xs):∃p ws,v=.ref p/\Rd H p (.lst ws)/\S F H xs ws:=by
 cases s with
 | shr h' r _=>cases h;exact⟨_,_,rfl,.inl (e _ _ h'),r.s⟩
 | own h' r _=>cases h;exact⟨_,_,rfl,.inl h',r⟩
 | fz h' r _=>cases h;exact⟨_,_,rfl,.inr ⟨_,e _ _ h'⟩,r.s⟩
 | au _=>cases h
 | bl _=>cases h
 | int _=>cases h
 | str _=>cases h
 | tup _ _ _=>cases h
 | obj _ _ _ _=>cases h
 | bD _ _=>cases h
theorem S.rep{xs:List D}{ws:List V}(s:S F H xs ws):∀k:Nat,S F H (aU k xs).flatten (aU k ws).flatten
 | 0=>by simpa using S.nil
 | k+1=>by
  rw[qL,qL,ua,ua]
  exact s.append (S.rep s k)
def rS:cS:=λx y Q=>match x,y with
 | .int i,.int j=>Q (.int (i+j))
 | .str a,.str b=>a.length+b.length<=sizeLine/\Q (.str (a++b))
 | .lst _ xs,.lst _ ys=>(xs.length+ys.length<=sizeLine/\xs.all D.pl=true/\ys.all D.pl=true)/\Q (.lst true (xs++ys))
 | _,_=>False
theorem cL1:bX X (binaryOp .Add) λx y Q=>∃o xs o' ys,x=.lst o xs/\y=.lst o' ys/\(xs.length+ys.length<=sizeLine/\xs.all D.pl=true/\ys.all D.pl=true)/\Q (.lst true (xs++ys)) :=
 ⟨_,OD,λ{B F H σ δ ts x y v w Q Qd} c sx sy h k=>by
  obtain⟨o,xs,o',ys,rfl,rfl,⟨hz,h1,h2⟩,q⟩:=h
  obtain⟨p,ws,rfl,e1,s1⟩:=jx sx c.ext
  obtain⟨p',gR,rfl,e2,s2⟩:=jx sy c.ext
  refine⟨p,p',ws,gR,rfl,rfl,e1,e2,by rw[<-s1.length,<- s2.length];exact hz,λr hr=>?_⟩
  exact k _ _ _ q (af.upd hr) (c.pH hr (s1.append s2) (by simp[h1,h2]))⟩
theorem dd0:bX X (binaryOp .Add) λx y Q=>∃i j,x=.str i/\y=.str j/\i.length+j.length<=sizeLine/\Q (.str (i++j)) :=
 ⟨_,ρ,λ{B F H σ δ ts x y v w Q Qd} c sx sy h k=>by
  obtain⟨i,j,rfl,rfl,hz,q⟩:=h
  cases sx;cases sy
  exact⟨i,j,rfl,rfl,hz,k _ _ _ q (af.refl _) (c.pushS (.str .nil) rfl)⟩⟩
theorem cm:bX X (binaryOp .Add) rS:=((mJ (gd:=λi j=>.int (i+j)) Z6 (λ_ _ _ _=>.int .nil) λ_ _=>rfl).or (dd0.or cL1)).imp λx y Q h=>by
 unfold rS at h
 split at h
 ·exact .inl ⟨_,_,rfl,rfl,h⟩
 ·exact .inr (.inl ⟨_,_,rfl,rfl,h.1,h.2⟩)
 ·exact .inr (.inr ⟨_,_,_,_,rfl,rfl,h.1,h.2⟩)
 ·exact h.elim
def iI(C:Int->Int->Prop)(g:Int->Int->D):cS:=λx y Q=>match x,y with
 | .int i,.int j=>C i j/\Q (g i j)
 | _,_=>False
def iN(g:Int->Int->D):cS:=λx y Q=>match x,y with
 | .int i,.int j=>Q (g i j)
 | _,_=>False
theorem Cg{f:Value->Value->Sem Value}{C:Int->Int->Prop}{g:Int->Int->D}(h:bX X f λx y Q=>∃i j,x=.int i/\y=.int j/\C i j/\Q (g i j)):bX X f (iI C g):=h.imp λx y Q h=>by
 unfold iI at h
 split at h
 ·exact⟨_,_,rfl,rfl,h.1,h.2⟩
 ·exact h.elim
theorem nR{f:Value->Value->Sem Value}{g:Int->Int->D}(h:bX X f λx y Q=>∃i j,x=.int i/\y=.int j/\Q (g i j)):bX X f (iN g):=h.imp λx y Q h=>by
 unfold iN at h
 split at h
 ·exact⟨_,_,rfl,rfl,h⟩
 ·exact h.elim
def vm:cS:=iN λi j=>.int (i-j)
theorem dN:bX X (binaryOp .Sub) vm:=nR (mJ FU (λ_ _ _ _=>.int .nil) λ_ _=>rfl)
def G7(_ j:Int):Prop:=0<j/\j.natAbs.log2<9000
theorem rT{i j:Int}(h1:0<j)(h2:j<1073741824):G7 i j:=⟨h1,by
 have h:j.natAbs<2 ^ 30:=by omega
 have:=(E3 (show j.natAbs≠0 by omega)).mpr h
 omega⟩
theorem ce8:cQ X (binaryOp .FloorDiv) (rI G7 λi j=>.int (i/j)):=yb λi j _ _ _ _ _ hc q =>
 floordiv_int (show j≠0 by have:=hc.1;omega) (by rw[Yy i (by have:=hc.1;omega)];exact q) (.inl (PyProof.noPylong_of_log2 hc.2))
def vn:cS:=iI G7 λi j=>.int (i/j)
theorem rV:bX X (binaryOp .FloorDiv) vn:=Cg (yx ce8 (λ_ _ _ _=>.int .nil) λ_ _=>rfl)
def vo:cS:=iI (λ_ j=>0<j) λi j=>.int (i%j)
theorem cK:bX X (binaryOp .Mod) vo:=Cg (yx Z7 (λ_ _ _ _=>.int .nil) λ_ _=>rfl)
def vp:cS:=iI O3 λi j=>.int (i*2 ^ j.toNat)
theorem vq:bX X (binaryOp .LShift) vp:=Cg (yx O4 (λ_ _ _ _=>.int .nil) λ_ _=>rfl)
def vt:cS:=iI (λ_ j=>0<=j) λi j=>.int (i/2 ^ j.toNat)
theorem PF:bX X (binaryOp .RShift) vt:=Cg (yx Z8 (λ_ _ _ _=>.int .nil) λ_ _=>rfl)
def vv:cS:=iN λi j=>.int (oK i j)
theorem PH:bX X (binaryOp .BitAnd) vv:=nR (mJ Z9 (λ_ _ _ _=>.int .nil) λ_ _=>rfl)
def vw:cS:=iN λi j=>.int (oM i j)
theorem yy:bX X (binaryOp .BitXor) vw:=nR (mJ γ (λ_ _ _ _=>.int .nil) λ_ _=>rfl)
theorem cg0:cQ X (binaryOp .Mult) (rI IntMulOk λi j=>.int (i*j)):=yb λ_ _ _ _ _ _ _ hc q=>mul_int q hc
def rW:cS:=λx y Q=>match x,y with
 | .int i,.int j=>IntMulOk i j/\Q (.int (i*j))
 | .lst _ xs,.int k=>(-(2 ^ 63)<=k/\k<2 ^ 63/\xs.length*k.toNat<=sizeLine/\xs.all D.pl=true)/\Q (.lst true (aU k.toNat xs).flatten)
 | _,_=>False
theorem cO7:bX X (binaryOp .Mult) λx y Q=>∃o xs k,x=.lst o xs/\y=.int k/\(-(2 ^ 63)<=k/\k<2 ^ 63/\xs.length*k.toNat<=sizeLine/\xs.all D.pl=true)/\Q (.lst true (aU k.toNat xs).flatten) :=
 ⟨_,cF3,λ{B F H σ δ ts x y v w Q Qd} c sx sy h k=>by
  obtain⟨o,xs,n,rfl,rfl,⟨b1,b2,hz,h1⟩,q⟩:=h
  obtain⟨p,ws,rfl,e1,s1⟩:=jx sx c.ext
  cases sy
  refine⟨p,n,ws,rfl,rfl,e1,b1,b2,by rw[<-s1.length];exact hz,λr hr=>?_⟩
  refine k _ _ _ q (af.upd hr) (c.pH hr (s1.rep _) ?_)
  rw[dj]
  intro x hx
  obtain⟨l,hl,yz⟩:=List.mem_flatten.mp hx
  rw[(uh.mp hl).2]at yz
  exact dj.mp h1 x yz⟩
theorem fY:bX X (binaryOp .Mult) rW:=((yx (gd:=λi j=>.int (i*j)) cg0 (λ_ _ _ _=>.int .nil) λ_ _=>rfl).or cO7).imp λx y Q h=>by
 unfold rW at h
 split at h
 ·exact .inl ⟨_,_,rfl,rfl,h.1,h.2⟩
 ·exact .inr ⟨_,_,_,rfl,rfl,h.1,h.2⟩
 ·exact h.elim
theorem cG7:bX X (inplaceOp .Add) (iN λi j=>.int (i+j)):=nR (mJ ε (λ_ _ _ _=>.int .nil) λ_ _=>rfl)
theorem Ci:bX X (inplaceOp .BitXor) (iN λi j=>.int (oM i j)):=nR (mJ ζ (λ_ _ _ _=>.int .nil) λ_ _=>rfl)
def vx:cS:=iN λi j=>.bl (decide (i<j))
def vy:cS:=iN λi j=>.bl (decide (i<=j))
def vz:cS:=iN λi j=>.bl (decide (j<i))
def vA:cS:=iN λi j=>.bl (decide (j<=i))
theorem vB:bX X (compareOp .Lt) vx:=nR (mJ N8 (λ_ _ _ _=>.bl .nil) λ_ _=>rfl)
theorem lu:bX X (compareOp .LtE) vy:=nR (mJ μ (λ_ _ _ _=>.bl .nil) λ_ _=>rfl)
theorem yA:bX X (compareOp .Gt) vz:=nR (mJ N9 (λ_ _ _ _=>.bl .nil) λ_ _=>rfl)
theorem PJ:bX X (compareOp .GtE) vA:=nR (mJ ν (λ_ _ _ _=>.bl .nil) λ_ _=>rfl)
def pP:D->Bool
 | .au=>true
 | _=>false
def rX:cS:=λx y Q=>match y with
 | .au=>Q (.bl (!pP x))
 | _=>False
theorem ct0{d:D}(s:S F H [d] [v]):decide (v=.au)=pP d:=by cases s<;>simp[pP]
theorem cI3:bX X (compareOp .IsNot) rX:=⟨_,ξ,λ{B F H σ δ ts x y v w Q Qd} c sx sy h k=>by
 unfold rX at h
 split at h
 ·cases sy
  refine⟨rfl,?_⟩
  rw[ct0 sx]
  exact k _ _ _ h (af.refl _) (c.pushS (.bl .nil) rfl)
 ·exact h.elim⟩
def bF:D->D->Bool
 | .au,.au=>true
 | .bl a,.bl b=>a==b
 | .bl a,.int b=>(if a then 1 else 0)==b
 | .int a,.bl b=>a==(if b then 1 else 0)
 | .int a,.int b=>a==b
 | .str a,.str b=>a==b
 | .lst _ xs,.lst _ ys=>gq xs ys
 | .tup xs,.tup ys=>gq xs ys
 | _,_=>false
where gq:List D->List D->Bool
 | [],[]=>true
 | x::xs,y::ys=>bF x y&&gq xs ys
 | _,_=>false
def eA:Nat->D->Bool
 | _,.au=>true
 | _,.bl _=>true
 | _,.int _=>true
 | _,.str _=>true
 | n+1,.lst _ xs=>xs.all (eA n)
 | n+1,.tup xs=>xs.all (eA n)
 | _,_=>false
theorem G8:∀(xs ys:List D),xs.length=ys.length->bF.gq xs ys=(aL xs.length).all λj=>bF (xs.getD j .au) (ys.getD j .au)
 | [],[],_=>rfl
 | x::xs,y::ys,h=>by
  rw[kj,YJ,dA,mm]
  show(bF x y&&bF.gq xs ys)=_
  rw[G8 xs ys (by simpa using h)]
  rfl
theorem G9:∀(xs ys:List D),xs.length≠ys.length->bF.gq xs ys=false
 | [],[],h=>absurd rfl h
 | [],_::_,_=>rfl
 | _::_,[],_=>rfl
 | x::xs,y::ys,h=>by
  show(bF x y&&bF.gq xs ys)=false
  rw[G9 xs ys (by simpa using h),Bool.and_false]
def ofV:V->D
 | .bl b=>.bl b
 | .int i=>.int i
 | .str z=>.str z
 | _=>.au
theorem yB{x:D}{v:V}(h:eA 0 x=true)(s:S F H [x] [v]):x=ofV v:=by
 cases s with
 | au _=>rfl
 | bl _=>rfl
 | int _=>rfl
 | str _=>rfl
 | _=>cases h
theorem PK{x:D}(h:eA 0 x=true):bF x x=true:=by
 cases x with
 | au=>rfl
 | bl b=>exact beq_self_eq_true b
 | int i=>exact beq_self_eq_true i
 | str z=>exact beq_self_eq_true z
 | _=>cases h
theorem pQ{n:Nat}{x:D}(h:eA (n+1) x=true):eA 0 x=true\/(∃o xs,x=.lst o xs/\xs.all (eA n)=true)\/∃xs,x=.tup xs/\xs.all (eA n)=true:=by
 cases x with
 | lst o xs=>exact .inr (.inl ⟨o,xs,rfl,h⟩)
 | tup xs=>exact .inr (.inr ⟨xs,rfl,h⟩)
 | obj _ _ _=>exact absurd h iW
 | fz _=>exact absurd h iW
 | bD _=>exact absurd h iW
 | _=>exact .inl rfl
theorem Cj{x:D}{p:Addr}(h:eA 0 x=true)(s:S F H [x] [.ref p]):False:=by
 rw[yB h s]at s
 cases s
theorem PL:∀(n:Nat) {xs ys:List D} {vs:List V},xs.all (eA n)=true->ys.all (eA n)=true->S F H xs vs->S F H ys vs->af F H->bF.gq xs ys=true:=by
 intro n xs
 induction n generalizing xs with
 | zero =>
  induction xs with
  | nil=>intro ys vs _ _ s1 s2 _;cases s1;cases s2;rfl
  | cons x xs ih =>
   intro ys vs h1 h2 s1 s2 e
   obtain⟨v,bW,rfl,q1,r1⟩:=s1.dh
   cases ys with
   | nil=>cases s2
   | cons y ys =>
    obtain⟨v',GS,ee,q2,r2⟩:=s2.dh
    obtain⟨rfl,rfl⟩:=nh ee
    rw[dA,eT]at h1 h2
    show(bF x y&&bF.gq xs ys)=true
    rw[ih h1.2 h2.2 r1 r2 e,ni,yB h2.1 q2,<- yB h1.1 q1]
    exact PK h1.1
 | succ n PM =>
  induction xs with
  | nil=>intro ys vs _ _ s1 s2 _;cases s1;cases s2;rfl
  | cons x xs ih =>
   intro ys vs h1 h2 s1 s2 e
   obtain⟨v,bW,rfl,q1,r1⟩:=s1.dh
   cases ys with
   | nil=>cases s2
   | cons y ys =>
    obtain⟨v',GS,ee,q2,r2⟩:=s2.dh
    obtain⟨rfl,rfl⟩:=nh ee
    rw[dA,eT]at h1 h2
    show(bF x y&&bF.gq xs ys)=true
    rw[ih h1.2 h2.2 r1 r2 e,ni]
    have h1:=h1.1
    have h2:=h2.1
    clear ih r1 r2 s1 s2
    rcases pQ h1 with k1 | ⟨o1,a1,rfl,k1⟩ | ⟨a1,rfl,k1⟩
    ·rcases pQ h2 with k2 | ⟨o2,a2,rfl,k2⟩ | ⟨a2,rfl,k2⟩
     ·rw[yB k2 q2,<- yB k1 q1]
      exact PK k1
     ·obtain⟨p,ws,rfl,_⟩:=jx q2 e
      exact(Cj k1 q1).elim
     ·obtain⟨p,ws,rfl,_⟩:=lj q2
      exact(Cj k1 q1).elim
    ·obtain⟨p,ws,rfl,e1,t1⟩:=jx q1 e
     rcases pQ h2 with k2 | ⟨o2,a2,rfl,k2⟩ | ⟨a2,rfl,k2⟩
     ·exact(Cj k2 q2).elim
     ·obtain⟨p2,Ha,ev,e2,t2⟩:=jx q2 e
      cases ev
      cases e1.symm.trans e2
      exact PM k1 k2 t1 t2 e
     ·obtain⟨p2,Ha,ev,e2,t2⟩:=lj q2
      cases ev
      cases e1.symm.trans e2
    ·obtain⟨p,ws,rfl,e1,t1⟩:=lj q1
     rcases pQ h2 with k2 | ⟨o2,a2,rfl,k2⟩ | ⟨a2,rfl,k2⟩
     ·exact(Cj k2 q2).elim
     ·obtain⟨p2,Ha,ev,e2,t2⟩:=jx q2 e
      cases ev
      cases e1.symm.trans e2
     ·obtain⟨p2,Ha,ev,e2,t2⟩:=lj q2
      cases ev
      cases e1.symm.trans e2
      exact PM k1 k2 t1 t2 e
end
end L3
namespace L3
open PySem L2 PySem.Spec PyProof.Rows
structure PN(A:Around)(s:Shared)(u w:Value)(b:Bool):Prop where
 rc:SeqAt.RcAt A s u w b
 ne:SeqAt.RcNeAt A s u w (!b)
 eq:E2 A s u w b
section
variable{X:Cx}{F H:Hp}{v w:V}
theorem PQ{xs:List V}{us:List Value}(r:Vals xs us){j:Nat}(h:j<us.toArray.size):∃x,xs[j]?=some x/\RelV x us.toArray[j]:=by
 have l:=r.length
 have hj:j<xs.length:=by rw[l];simpa using h
 obtain⟨u,e,q⟩:=r.get (aR hj)
 obtain⟨_,z⟩:=ki.mp e
 refine⟨_,aR hj,?_⟩
 have:us.toArray[j]=u:=by simpa using z
 rw[this];exact q
theorem PR{xs:List D}{j:Nat}{d:D}(h:xs[j]?=some d):xs.getD j .au=d:=by rw[aS,h];rfl
theorem vC{x:D}{v:V}{u:Value}(h:eA 0 x=true)(s:S F H [x] [v])(r:RelV v u):(x=.au/\u=.none)\/(∃b,x=.bl b/\u=.bool b)\/(∃i t,x=.int i/\u=.int i t)\/∃z t,x=.str z/\u=.str z t:=by
 cases s with
 | au _=>cases r;exact .inl ⟨rfl,rfl⟩
 | bl _=>cases r;exact .inr (.inl ⟨_,rfl,rfl⟩)
 | int _=>obtain⟨t,rfl⟩:=r;exact .inr (.inr (.inl ⟨_,t,rfl,rfl⟩))
 | str _=>obtain⟨t,rfl⟩:=r;exact .inr (.inr (.inr ⟨_,t,rfl,rfl⟩))
 | _=>exact absurd h iW
theorem PU{x y:D}{u u':Value}{A:Around}{s:Shared}(h1:(x=.au/\u=.none)\/(∃b,x=.bl b/\u=.bool b)\/(∃i t,x=.int i/\u=.int i t)\/∃z t,x=.str z/\u=.str z t)(h2:(y=.au/\u'=.none)\/(∃b,y=.bl b/\u'=.bool b)\/(∃i t,y=.int i/\u'=.int i t)\/∃z t,y=.str z/\u'=.str z t):PN A s u u' (bF x y):=by
 rcases h1 with⟨rfl,rfl⟩ | ⟨a,rfl,rfl⟩ | ⟨a,t,rfl,rfl⟩ | ⟨a,t,rfl,rfl⟩<;>rcases h2 with⟨rfl,rfl⟩ | ⟨b,rfl,rfl⟩ | ⟨b,t',rfl,rfl⟩ | ⟨b,t',rfl,rfl⟩
 ·exact⟨.none_none,.none_none,.same _⟩
 ·exact⟨.none_bool _,.none_bool _,.none_bool _⟩
 ·exact⟨.none_int _ _,.none_int _ _,.none_int _ _⟩
 ·exact⟨.none_str _ _,.none_str _ _,.none_str _ _⟩
 ·exact⟨.bool_none _,.bool_none _,.bool_none _⟩
 ·exact⟨.bool_bool _ _,.bool_bool _ _,.bool_bool _ _⟩
 ·exact⟨.bool_int _ _ _,.bool_int _ _ _,.bool_int _ _ _⟩
 ·exact⟨.bool_str _ _ _,.bool_str _ _ _,.bool_str _ _ _⟩
 ·exact⟨.int_none _ _,.int_none _ _,.int_none _ _⟩
 ·exact⟨.int_bool _ _ _,.int_bool _ _ _,.int_bool _ _ _⟩
 ·exact⟨.int_int _ _ _ _,.int_int _ _ _ _,.int_int _ _ _ _⟩
 ·exact⟨.int_str _ _ _ _,.int_str _ _ _ _,.int_str _ _ _ _⟩
 ·exact⟨.str_none _ _,.str_none _ _,.str_none _ _⟩
 ·exact⟨.str_bool _ _ _,.str_bool _ _ _,.str_bool _ _ _⟩
 ·exact⟨.str_int _ _ _ _,.str_int _ _ _ _,.str_int _ _ _ _⟩
 ·exact⟨.str_str _ _ _ _,.str_str _ _ _ _,.str_str _ _ _ _⟩
theorem PV{pins:List (Addr × Obj)}{σ:L2.St}{s:Shared}(I:Inv X pins σ H s)(e:af F H):∀(n:Nat) (x y:D) (v w:V) (u u':Value) (A:Around),eA n x=true->eA n y=true->S F H [x] [v]->S F H [y] [w]->RelV v u->RelV w u' ->
  A.units+n<cLine->PN A s u u' (bF x y):=by
 intro n
 induction n with
 | zero =>
  intro x y v w u u' A hx hy sx sy rv gA hu
  exact PU (vC hx sx rv) (vC hy sy gA)
 | succ n ih =>
  intro x y v w u u' A hx hy sx sy rv gA hu
  have bz:A.units<cLine:=m9 (Nat.le_add_right ..) hu
  have PY:A.in1.units+n<cLine:=by show A.units+1+n<cLine;rw[Fh,Nd 1];exact hu
  have items:∀{xs ys:List D} {vs ws:List V} {us vD:List Value},xs.all (eA n)=true->ys.all (eA n)=true->S F H xs vs->S F H ys ws->Vals vs us->Vals ws vD ->
    ∀j (h1:j<us.toArray.size) (h2:j<vD.toArray.size),E2 A.in1 s us.toArray[j] vD.toArray[j] (bF (xs.getD j .au) (ys.getD j .au)):=by
   intro xs ys vs ws us vD hx hy sx sy r1 r2 j h1 h2
   obtain⟨a,e1,q1⟩:=PQ r1 h1
   obtain⟨b,e2,q2⟩:=PQ r2 h2
   obtain⟨d1,g1,t1⟩:=sx.get' e1
   obtain⟨d2,g2,t2⟩:=sy.get' e2
   rw[PR g1,PR g2]
   exact(ih d1 d2 a b _ _ A.in1 (dj.mp hx d1 (t7 g1)) (dj.mp hy d2 (t7 g2)) t1 t2 q1 q2 PY).eq
  clear ih hu PY
  rcases pQ hx with k1 | ⟨o,xs,rfl,k1⟩ | ⟨xs,rfl,k1⟩
  ·have f:=vC k1 sx rv
   rcases pQ hy with k2 | ⟨o',ys,rfl,k2⟩ | ⟨ys,rfl,k2⟩
   ·exact PU f (vC k2 sy gA)
   ·obtain⟨p',gR,rfl,e2,t2⟩:=jx sy e
    cases gA
    obtain⟨ly,r2,p2,z2⟩:=I.list (bQ.of (K:=X.K) e2)
    have p2:=p2.isList
    rcases f with⟨rfl,rfl⟩ | ⟨a,rfl,rfl⟩ | ⟨a,t,rfl,rfl⟩ | ⟨a,t,rfl,rfl⟩
    ·exact⟨.none_list p2 bz,.none_list p2 bz,.none_list p2 bz⟩
    ·exact⟨.bool_list _ p2 bz,.bool_list _ p2 bz,.bool_list _ p2 bz⟩
    ·exact⟨.int_list _ _ p2 bz,.int_list _ _ p2 bz,.int_list _ _ p2 bz⟩
    ·exact⟨.str_list _ _ p2 bz,.str_list _ _ p2 bz,.str_list _ _ p2 bz⟩
   ·obtain⟨p',gR,rfl,e2,t2⟩:=lj sy
    cases gA
    obtain⟨ly,r2,p2,z2⟩:=I.tuple (iu.of (K:=X.K) e2)
    rcases f with⟨rfl,rfl⟩ | ⟨a,rfl,rfl⟩ | ⟨a,t,rfl,rfl⟩ | ⟨a,t,rfl,rfl⟩
    ·exact⟨.none_tuple p2 bz,.none_tuple p2 bz,.none_tuple p2 bz⟩
    ·exact⟨.bool_tuple _ p2 bz,.bool_tuple _ p2 bz,.bool_tuple _ p2 bz⟩
    ·exact⟨.int_tuple _ _ p2 bz,.int_tuple _ _ p2 bz,.int_tuple _ _ p2 bz⟩
    ·exact⟨.str_tuple _ _ p2 bz,.str_tuple _ _ p2 bz,.str_tuple _ _ p2 bz⟩
  ·obtain⟨p,ws,rfl,e1,t1⟩:=jx sx e
   cases rv
   obtain⟨its,r1,p1,z1⟩:=I.list (bQ.of (K:=X.K) e1)
   have p1:=p1.isList
   rcases pQ hy with k2 | ⟨o',ys,rfl,k2⟩ | ⟨ys,rfl,k2⟩
   ·rcases vC k2 sy gA with⟨rfl,rfl⟩ | ⟨a,rfl,rfl⟩ | ⟨a,t,rfl,rfl⟩ | ⟨a,t,rfl,rfl⟩
    ·exact⟨.list_none p1 bz,.list_none p1 bz,.list_none p1 bz⟩
    ·exact⟨.list_bool _ p1 bz,.list_bool _ p1 bz,.list_bool _ p1 bz⟩
    ·exact⟨.list_int _ _ p1 bz,.list_int _ _ p1 bz,.list_int _ _ p1 bz⟩
    ·exact⟨.list_str _ _ p1 bz,.list_str _ _ p1 bz,.list_str _ _ p1 bz⟩
   ·obtain⟨p',gR,rfl,e2,t2⟩:=jx sy e
    cases gA
    obtain⟨ly,r2,p2,z2⟩:=I.list (bQ.of (K:=X.K) e2)
    have p2:=p2.isList
    have rY:xs.length=its.length:=t1.length.trans r1.length
    have vE:ys.length=ly.length:=t2.length.trans r2.length
    by_cases hl:xs.length=ys.length
    ·have my:its.toArray.size=ly.toArray.size:=by rw[eD,eD,<- rY,<- vE];exact hl
     have ev:(aL its.toArray.size).all (λj=>bF (xs.getD j .au) (ys.getD j .au))=bF (.lst o xs) (.lst o' ys):=by
      show _=bF.gq xs ys
      rw[G8 xs ys hl,eD,<- rY]
     have a:=SeqAt.RcAt.lists (e:=λj=>bF (xs.getD j .au) (ys.getD j .au)) p1 p2 my bz (items k1 k2 t1 t2 r1 r2)
     have b:=SeqAt.RcNeAt.lists (e:=λj=>bF (xs.getD j .au) (ys.getD j .au)) p1 p2 my bz (items k1 k2 t1 t2 r1 r2)
     rw[ev]at a b
     refine⟨a,b,?_⟩
     by_cases rZ:p=p'
     ·subst rZ
      cases e1.symm.trans e2
      rw[show bF (.lst o xs) (.lst o' ys)=true from PL n k1 k2 t1 t2 e]
      exact .same _
     ·exact .of_refs rZ a
    ·have my:(its.toArray.size != ly.toArray.size)=true:=bne_iff_ne.mpr (by rw[eD,eD,<- rY,<- vE];exact hl)
     rw[show bF (.lst o xs) (.lst o' ys)=false from G9 xs ys hl]
     have a:=SeqAt.RcAt.lists_lengths p1 p2 my bz
     refine⟨a,SeqAt.RcNeAt.lists_lengths p1 p2 my bz,.of_refs (λrZ=>?_) a⟩
     subst rZ
     cases e1.symm.trans e2
     exact hl (t1.length.trans t2.length.symm)
   ·obtain⟨p',gR,rfl,e2,t2⟩:=lj sy
    cases gA
    obtain⟨ly,r2,p2,z2⟩:=I.tuple (iu.of (K:=X.K) e2)
    exact⟨.list_tuple p1 p2 bz,.list_tuple p1 p2 bz,.list_tuple p1 p2 bz⟩
  ·obtain⟨p,ws,rfl,e1,t1⟩:=lj sx
   cases rv
   obtain⟨its,r1,p1,z1⟩:=I.tuple (iu.of (K:=X.K) e1)
   rcases pQ hy with k2 | ⟨o',ys,rfl,k2⟩ | ⟨ys,rfl,k2⟩
   ·rcases vC k2 sy gA with⟨rfl,rfl⟩ | ⟨a,rfl,rfl⟩ | ⟨a,t,rfl,rfl⟩ | ⟨a,t,rfl,rfl⟩
    ·exact⟨.tuple_none p1 bz,.tuple_none p1 bz,.tuple_none p1 bz⟩
    ·exact⟨.tuple_bool _ p1 bz,.tuple_bool _ p1 bz,.tuple_bool _ p1 bz⟩
    ·exact⟨.tuple_int _ _ p1 bz,.tuple_int _ _ p1 bz,.tuple_int _ _ p1 bz⟩
    ·exact⟨.tuple_str _ _ p1 bz,.tuple_str _ _ p1 bz,.tuple_str _ _ p1 bz⟩
   ·obtain⟨p',gR,rfl,e2,t2⟩:=jx sy e
    cases gA
    obtain⟨ly,r2,p2,z2⟩:=I.list (bQ.of (K:=X.K) e2)
    have p2:=p2.isList
    exact⟨.tuple_list p1 p2 bz,.tuple_list p1 p2 bz,.tuple_list p1 p2 bz⟩
   ·obtain⟨p',gR,rfl,e2,t2⟩:=lj sy
    cases gA
    obtain⟨ly,r2,p2,z2⟩:=I.tuple (iu.of (K:=X.K) e2)
    have rY:xs.length=its.length:=t1.length.trans r1.length
    have vE:ys.length=ly.length:=t2.length.trans r2.length
    have ev:((aL (min its.toArray.size ly.toArray.size)).all (λj=>bF (xs.getD j .au) (ys.getD j .au))&&its.toArray.size==ly.toArray.size)=bF (.tup xs) (.tup ys):=by
     show _=bF.gq xs ys
     rw[eD,eD,<- rY,<- vE]
     by_cases hl:xs.length=ys.length
     ·rw[G8 xs ys hl,<- hl,Ba,beq_self_eq_true,ni]
     ·rw[G9 xs ys hl,beq_false_of_ne hl,Bool.and_false]
    have a:=SeqAt.RcAt.tuples (e:=λj=>bF (xs.getD j .au) (ys.getD j .au)) p1 p2 bz (items k1 k2 t1 t2 r1 r2)
    have b:=SeqAt.RcNeAt.tuples (e:=λj=>bF (xs.getD j .au) (ys.getD j .au)) p1 p2 bz (items k1 k2 t1 t2 r1 r2)
    rw[ev]at a b
    refine⟨a,b,?_⟩
    by_cases rZ:p=p'
    ·subst rZ
     cases e1.symm.trans e2
     rw[show bF (.tup xs) (.tup ys)=true from PL n k1 k2 t1 t2 e]
     exact .same _
    ·exact .of_refs rZ a
def vF:cS:=λx y Q=>(eA 6 x=true/\eA 6 y=true)/\Q (.bl (bF x y))
def vG:cS:=λx y Q=>(eA 6 x=true/\eA 6 y=true)/\Q (.bl (!bF x y))
theorem dO(hu:X.A.units+6<cLine):bX X (compareOp .Eq) vF:=bX.of λpins s σ H v w u u' Q I rv gA zz=>by
 obtain⟨B,F,aF,δ,ts,x,y,Qd,c,sx,sy,⟨⟨hx,hy⟩,q⟩,k⟩:=zz
 exact(PV I c.ext 6 x y v w u u' X.A hx hy sx sy rv gA hu).rc _ _ _ _ ⟨.bl _,H,I,rfl,k _ _ _ q (af.refl _) (c.pushS (.bl .nil) rfl)⟩
theorem iO(hu:X.A.units+6<cLine):bX X (compareOp .NotEq) vG:=bX.of λpins s σ H v w u u' Q I rv gA zz=>by
 obtain⟨B,F,aF,δ,ts,x,y,Qd,c,sx,sy,⟨⟨hx,hy⟩,q⟩,k⟩:=zz
 exact(PV I c.ext 6 x y v w u u' X.A hx hy sx sy rv gA hu).ne _ _ _ _ ⟨.bl _,H,I,rfl,k _ _ _ q (af.refl _) (c.pushS (.bl .nil) rfl)⟩
end
end L3
namespace L3
open PySem L2 PySem.Spec PyProof.Rows
section
variable{X:Cx}{F H:Hp}{v w:V}{e a b c o:Expr}{es:List Expr}{pos p p2 apos cE:Pos}{t ta tb tc te:aN}{tr:cF}{x:Str}
theorem b24{r r':R2}{rd yC:cS}(hl:Ca r rd)(FC:Ca r' yC):∀σ H Q,lE (rJ rd yC ta tb tc) σ H Q->Ob r r' (lB ta) (lB tb) (lB tc) σ H Q:=λσ H Q ⟨B,F,δ,ts,Qd,c,q,k⟩ =>
 ⟨B,F,δ,ts,_,c,q,λx ak v F1 H1 q1 f1 h1 c1 s1=>⟨B,F1,ak,ts,_,c1,q1,λy aV w F2 H2 q2 f2 h2 c2 s2=>by
  refine hl c2 (s1.mono f2 h2) s2 q2 λd z H' hd hs c3=>?_
  obtain⟨b,rfl,qb⟩:=hd
  have st:=c3.top
  cases st with
  | bl _ =>
   refine⟨b,rfl,?_⟩
   cases b with
   | true =>
    refine nF ⟨B,F2,aV,ts,_,c3.pop,by simpa using qb,λz i8 w3 F3 H3 q3 f3 h3 c4 s3=>?_⟩
    exact FC c4 (s2.mono f3 (hs.trans h3)) s3 q3 λd z H' hd hs' c5=>k d i8 z F3 H' hd ((f1.trans f2).trans f3) ((((h1.trans h2).trans hs).trans h3).trans hs') c5
   | false=>exact iD (k _ aV _ F2 H' (by simpa using qb) (f1.trans f2) ((h1.trans h2).trans hs) (c3.pop.pushS (.bl .nil) rfl))⟩⟩
theorem vH{op rk:CmpOp}{rd yC:cS}(ho:bX X (compareOp op) rd)(kT:bX X (compareOp rk) yC)(ha:PE X a (lB ta))(hb:PE X b (lB tb))(hc:PE X c (lB tc))
  (hm:lastMarks [op,rk] [b,c]=false:=by with_unfolding_all rfl):PE X (.Compare a [op,rk] [b,c] pos) (lE (rJ rd yC ta tb tc)):=by
 obtain⟨r,h1,h2⟩:=ho
 obtain⟨r',kz,jV⟩:=kT
 exact dv (π h1 kz ha hb hc hm) (b24 h2 jV)
def vI(t:aN):aN:=λδ Q=>t δ λd ah=>match d with
 | .int i=>Q (.int (-i)) ah
 | _=>False
theorem PZ(ha:PE X a (lB ta)):PE X (.UnaryOp .USub a pos) (lE (vI ta)):=dv (Z4 θ ha) λσ H Q zq=>by
 obtain⟨B,F,δ,ts,Qd,c,q,k⟩:=zq
 exact⟨B,F,δ,ts,_,c,q,λd ak v F1 H1 q1 f1 h1 c1 s1=>by
 cases s1 with
 | int _=>exact⟨_,rfl,k _ ak _ F1 H1 q1 f1 h1 (c1.pushS (.int .nil) rfl)⟩
 | _=>exact q1.elim⟩
abbrev jy:=List D->(D->Prop)->Prop
def lc(rd:jy):List V->Hp->VK->Prop:=λvs H Q=>∃B F σ δ ts ds Qd,ao B F H σ δ ts/\S F H ds vs/\rd ds Qd/\∀d z H',Qd d->af H H'->ao B F H' σ δ ((d,z)::ts)->Q z H'
def gE(X:Cx)(f:Value)(rd:jy):Prop:=gz X f (lc rd)
theorem gE.of{f:Value}{r:List V->Hp->VK->Prop}{rd:jy}(h:gz X f r)(m:∀vs H Q,lc rd vs H Q->r vs H Q):gE X f rd:=λpins s σ H xs us Q I r q=>h pins s σ H xs us Q I r (m xs H Q q)
def pS(rd:jy)(t:cF):aN:=λδ Q=>t δ λds ah=>rd ds λd=>Q d ah
theorem P0{rd:jy}:∀σ H Q,lE (pS rd tr) σ H Q->FY (lc rd) (lA tr) σ H Q:=λσ H Q zq=>by
 obtain⟨B,F,δ,ts,Qd,c,q,k⟩:=zq
 exact⟨B,F,δ,ts,_,c,q,λds ak vs F1 H1 q1 f1 h1 c1 s1 =>
 ⟨B,F1,σ,ak,ts,ds,_,c1,s1,q1,λd z H' hd hs c'=>k d ak z F1 H' hd f1 (h1.trans hs) c'⟩⟩
theorem eB{id:String}{rd:jy}(hc:gE X (.builtin id) rd)(hg:Gl X x)(hm:X.mg x=none)(hv:bootBuiltins x=some (.builtin id))(ha:PA X (e::es) (lA tr))(hn:x≠"__name__":=by decide)(de:(x==("__debug__":Str))=false:=by decide)
  (he:starEach (e::es) X.env=(false,eval e X.env)::starEach es X.env:=by rfl) (bu:(backTo pos (starEach es X.env)).any (·.1)=false:=by rfl):PE X (.Call (.Name x p) (e::es) [] pos) (lE (pS rd tr)) :=
 dv (yd hc hg hm hv ha hn de he bu) P0
theorem yD{T:String}{rd:jy}(hc:gE X (.type T) rd)(hg:Gl X x)(hm:X.mg x=none)(hv:bootBuiltins x=some (.type T))(ha:PA X (e::es) (lA tr))(hn:x≠"__name__":=by decide)(de:(x==("__debug__":Str))=false:=by decide)
  (he:starEach (e::es) X.env=(false,eval e X.env)::starEach es X.env:=by rfl) (bu:(backTo pos (starEach es X.env)).any (·.1)=false:=by rfl):PE X (.Call (.Name x p) (e::es) [] pos) (lE (pS rd tr)) :=
 dv (bZ0 hc hg hm hv ha hn de he bu) P0
theorem kE{d:D}{vs:List V}(s:S F H [d] vs):∃v,vs=[v]/\S F H [d] [v]:=by
 obtain⟨v,bW,rfl,h1,h2⟩:=s.dh
 cases h2
 exact⟨v,rfl,h1⟩
theorem cK8{d d':D}{vs:List V}(s:S F H [d,d'] vs):∃v v',vs=[v,v']/\S F H [d] [v]/\S F H [d'] [v']:=by
 obtain⟨v,bW,rfl,h1,h2⟩:=s.dh
 obtain⟨v',rfl,h3⟩:=kE h2
 exact⟨v,v',rfl,h1,h3⟩
theorem lC{K:PySem.W.Frag}{p:Addr}{ws:List V}(h:Rd H p (.lst ws)):bQ K H p ws:=.inl h
def se:jy:=λds Q=>match ds with
 | [.lst _ xs]=>Q (.int xs.length)
 | [.fz xs]=>Q (.int xs.length)
 | [.tup xs]=>Q (.int xs.length)
 | [.str z]=>z.length<=sizeLine/\Q (.int z.length)
 | _=>False
theorem ib:gE X (.builtin "len") se:=gE.of (Ox.or bJ4) λvs H Q zz=>by
 obtain⟨B,F,σ,δ,ts,ds,Qd,c,s,q,k⟩:=zz
 unfold se at q
 split at q
 ·obtain⟨v,rfl,s1⟩:=kE s
  obtain⟨p,ws,rfl,h,t⟩:=mK s1 c.ext rfl
  refine .inl ⟨p,ws,rfl,.inl (lC h),?_⟩
  rw[<-t.length]
  exact k _ _ _ q (af.refl _) (c.pushS (.int .nil) rfl)
 ·obtain⟨v,rfl,s1⟩:=kE s
  obtain⟨p,ws,rfl,h,t⟩:=mK s1 c.ext rfl
  refine .inl ⟨p,ws,rfl,.inl (lC h),?_⟩
  rw[<-t.length]
  exact k _ _ _ q (af.refl _) (c.pushS (.int .nil) rfl)
 ·obtain⟨v,rfl,s1⟩:=kE s
  obtain⟨p,ws,rfl,h,t⟩:=lj s1
  refine .inl ⟨p,ws,rfl,.inr (iu.of h),?_⟩
  rw[<-t.length]
  exact k _ _ _ q (af.refl _) (c.pushS (.int .nil) rfl)
 ·obtain⟨v,rfl,s1⟩:=kE s
  cases s1
  exact .inr ⟨_,rfl,q.1,k _ _ _ q.2 (af.refl _) (c.pushS (.int .nil) rfl)⟩
 ·exact q.elim
def sg:jy:=λds Q=>match ds with
 | [.lst _ xs]=>xs.all D.pl=true/\Q (.lst true xs)
 | [.fz xs]=>Q (.lst true xs)
 | [.tup xs]=>xs.all D.pl=true/\Q (.lst true xs)
 | _=>False
theorem Hb:gE X (.type "list") sg:=gE.of bF2 λvs H Q zz=>by
 obtain⟨B,F,σ,δ,ts,ds,Qd,c,s,q,k⟩:=zz
 unfold sg at q
 split at q
 ·obtain⟨v,rfl,s1⟩:=kE s
  obtain⟨p,ws,rfl,h,t⟩:=mK s1 c.ext rfl
  exact⟨p,ws,rfl,.inl (lC h),λl hl=>k _ _ _ q.2 (af.upd hl) (c.pH hl t q.1)⟩
 ·obtain⟨v,rfl,s1⟩:=kE s
  cases s1 with
  | fz h r _=>exact⟨_,_,rfl,.inl (lC (.inr ⟨_,c.ext _ _ h⟩)),λl hl=>k _ _ _ q (af.upd hl) (c.pH hl r.s r.pl)⟩
 ·obtain⟨v,rfl,s1⟩:=kE s
  obtain⟨p,ws,rfl,h,t⟩:=lj s1
  exact⟨p,ws,rfl,.inr (iu.of h),λl hl=>k _ _ _ q.2 (af.upd hl) (c.pH hl t q.1)⟩
 ·exact q.elim
def ii(g:Int->Int->Int):jy:=λds Q=>match ds with
 | [.int i,.int j]=>Q (.int (g i j))
 | _=>False
theorem cN2{f:Value}{g:Int->Int->Int}(h:gz X f (λxs H Q=>∃i j,xs=[.int i,.int j]/\Q (.int (g i j)) H)):gE X f (ii g):=gE.of h λvs H Q zz=>by
 obtain⟨B,F,σ,δ,ts,ds,Qd,c,s,q,k⟩:=zz
 unfold ii at q
 split at q
 ·obtain⟨v,v',rfl,s1,s2⟩:=cK8 s
  cases s1;cases s2
  exact⟨_,_,rfl,k _ _ _ q (af.refl _) (c.pushS (.int .nil) rfl)⟩
 ·exact q.elim
theorem Ck(hc:X.calm=true):gE X (.builtin "min") (ii λi j=>if j<i then j else i):=cN2 (υ hc)
def mL(bs:List Bool):List D:=bs.map D.bl
theorem Hc:∀{bs:List Bool} {ws:List V},S F H (mL bs) ws->ws=bs.map V.bl
 | [],_,s=>by cases s;rfl
 | b::bs,_,s=>by
  cases s with
  | bl s=>rw[Hc s];rfl
def si:jy:=λds Q=>match ds with
 | [.lst _ xs]=>∃bs,xs=mL bs/\Q (.bl (bs.all id))
 | _=>False
def sj:jy:=λds Q=>match ds with
 | [.lst _ xs]=>∃bs,xs=mL bs/\Q (.bl (bs.any id))
 | _=>False
theorem vJ(hc:X.calm=true):gE X (.builtin "all") si:=gE.of (ci9 hc) λvs H Q zz=>by
 obtain⟨B,F,σ,δ,ts,ds,Qd,c,s,q,k⟩:=zz
 unfold si at q
 split at q
 ·obtain⟨v,rfl,s1⟩:=kE s
  obtain⟨bs,rfl,q⟩:=q
  obtain⟨p,ws,rfl,h,t⟩:=mK s1 c.ext rfl
  rw[Hc t]at h
  exact⟨p,bs,rfl,lC h,k _ _ _ q (af.refl _) (c.pushS (.bl .nil) rfl)⟩
 ·exact q.elim
theorem cJ9(hc:X.calm=true):gE X (.builtin "any") sj:=gE.of (ca9 hc) λvs H Q zz=>by
 obtain⟨B,F,σ,δ,ts,ds,Qd,c,s,q,k⟩:=zz
 unfold sj at q
 split at q
 ·obtain⟨v,rfl,s1⟩:=kE s
  obtain⟨bs,rfl,q⟩:=q
  obtain⟨p,ws,rfl,h,t⟩:=mK s1 c.ext rfl
  rw[Hc t]at h
  exact⟨p,bs,rfl,lC h,k _ _ _ q (af.refl _) (c.pushS (.bl .nil) rfl)⟩
 ·exact q.elim
def Cm:D->Option String
 | .int _=>some "int"
 | .bl _=>some "bool"
 | .au=>some "NoneType"
 | .str _=>some "str"
 | .lst _ _=>some "list"
 | .fz _=>some "list"
 | .tup _=>some "tuple"
 | _=>none
def He(k n:String):Option Bool:=([("int","int",true),("int","bool",false),("int","list",false),("int","tuple",false),("int","str",false),("bool","int",true),("bool","bool",true),("bool","list",false),("bool","tuple",false),("bool","str",false),
 ("NoneType","int",false),("NoneType","bool",false),("NoneType","list",false),("NoneType","tuple",false),("NoneType","str",false),("str","int",false),("str","bool",false),("str","list",false),("str","tuple",false),("str","str",true),
 ("list","int",false),("list","bool",false),("list","list",true),("list","tuple",false),("list","str",false),("tuple","int",false),("tuple","bool",false),("tuple","list",false),("tuple","tuple",true),("tuple","str",false)].find? λz=>z.1==k&&z.2.1==n).map (·.2.2)
def mM(n:String)(d:D):Option Bool:=(Cm d).bind λk=>He k n
theorem cA1{K:PySem.W.Frag}{k n:String}{r:Bool}(h:He k n=some r):PySem.W.kitOne K (.type k) (.type n)=some r:=by
 unfold He at h
 obtain⟨z,hz,rfl⟩:=Bb.mp h
 have hm:=Nq hz
 have hp:=List.find?_some hz
 rw[eT,beq_iff_eq,beq_iff_eq]at hp
 obtain⟨rfl,rfl⟩:=hp
 simp only[cH,iY,or_false]at hm
 repeat' (rcases hm with hm | hm)
 all_goals rfl
theorem nS{K:PySem.W.Frag}{d:D}(s:S F H [d] [v])(e:af F H){k:String}(h:Cm d=some k):iy K H v (.type k):=by
 cases s with
 | int _=>cases h;exact .int _
 | bl _=>cases h;exact .bl _
 | au _=>cases h;exact .au
 | str _=>cases h;exact .str _
 | shr h' _ _=>cases h;exact .lst (e _ _ h')
 | own h' _ _=>cases h;exact .lst h'
 | fz h' _ _=>cases h;exact .bq (e _ _ h')
 | tup h' _ _=>cases h;exact .tup h'
 | obj _ _ _ _=>cases h
 | bD _ _=>cases h
theorem cN7{K:PySem.W.Frag}{d:D}(s:S F H [d] [v])(e:af F H){n:String}{r:Bool}(h:mM n d=some r):∃t,iy K H v t/\PySem.W.kitOne K t (.type n)=some r:=by
 unfold mM at h
 cases hk:Cm d with
 | none=>rw[hk]at h;cases h
 | some k=>rw[hk]at h;exact⟨_,nS s e hk,cA1 h⟩
def vK(n:String)(t:aN):aN:=λδ Q=>t δ λd ah=>∃r,mM n d=some r/\Q (.bl r) ah
theorem P1{n:String}{y:Str}{q:Pos}(hg:Gl X "isinstance")(hm:X.mg "isinstance"=none)(sk:Gl X y)(mO:X.mg y=none)(Hf:bootBuiltins y=some (.type n))(ha:PE X a (lB ta))
  (hn:y≠"__name__":=by decide) (hd:(y==("__debug__":Str))=false:=by decide)
  (hs:starEach [a,.Name y q] X.env=(false,eval a X.env)::starEach [.Name y q] X.env:=by rfl) (eI:starEach [.Name y q] X.env=(false,eval (.Name y q) X.env)::starEach [] X.env:=by rfl) (bu:(backTo pos (starEach [.Name y q] X.env)).any (·.1)=false:=by rfl) :
  PE X (.Call (.Name "isinstance" p) [a,.Name y q] [] pos) (lE (vK n ta)) :=
 dv (yd bw1 hg hm Gv (bV ha (bV (O5 sk mO Hf hn hd) fg eI) hs) (by decide) (by decide) hs bu) λσ H Q zq=>by
 obtain⟨B,F,δ,ts,Qd,c,q,k⟩:=zq
 exact⟨B,F,δ,ts,_,c,q,λd ak v F1 H1 q1 f1 h1 c1 s1=>by
  obtain⟨r,e,qr⟩:=q1
  obtain⟨t,h2,h3⟩:=cN7 (K:=X.K) s1 c1.ext e
  exact⟨v,n,t,r,rfl,h2,h3,k _ ak _ F1 H1 qr f1 h1 (c1.pushS (.bl .nil) rfl)⟩⟩
theorem Hg{xs:List D}{ws:List V}{i:Int}{d:D}(s:S F H xs ws)(h:fh xs i=some d):∃v,fh ws i=some v/\S F H [d] [v]:=by
 unfold fh at h ⊢
 rw[<-s.length]
 cases e:i6 xs.length i with
 | none=>rw[e]at h;cases h
 | some j =>
  rw[e]at h
  exact s.get h
def sq(x y:D)(Q:D->Prop):Prop:=match x,y with
 | .lst _ xs,.int i=>∃d,fh xs i=some d/\Q d
 | .fz xs,.int i=>∃d,fh xs i=some d/\Q d
 | .tup xs,.int i=>∃d,fh xs i=some d/\Q d
 | .str z,.int i=>z.length<=sizeLine/\∃ch,fh z.cps.toList i=some ch/\Q (.str ⟨#[ch]⟩)
 | _,_=>False
def vL(ta tb:aN):aN:=λδ Q=>ta δ λx ak=>tb ak λy aV=>sq x y λd=>Q d aV
theorem bJ(ha:PE X a (lB ta))(hb:PE X b (lB tb))(hs:Oq b):PE X (.Subscript a b pos) (lB (vL ta tb)) :=
 dv (cP2 cG6 ha hb hs) λσ H Q zq=>by
 obtain⟨B,F,δ,ts,Qd,c,q,k⟩:=zq
 exact⟨B,F,δ,ts,_,c,q,λx ak v F1 H1 q1 f1 h1 c1 s1=>⟨B,F1,ak,ts,_,c1,q1,λy aV w F2 H2 q2 f2 h2 c2 s2=>by
  have nU:=s1.mono f2 h2
  have fin:∀d z,Qd d aV->S F2 H2 [d] [z]->Q z H2:=λd z hd s=>k d aV z F2 H2 hd (f1.trans f2) (h1.trans h2) c2 s
  unfold sq at q2
  split at q2
  ·obtain⟨d,ed,qd⟩:=q2
   cases s2
   obtain⟨p,ws,rfl,h,t⟩:=mK nU c2.ext rfl
   obtain⟨z,ez,sz⟩:=Hg t ed
   exact .inl ⟨p,ws,_,z,rfl,rfl,lC h,ez,fin d z qd sz⟩
  ·obtain⟨d,ed,qd⟩:=q2
   cases s2
   obtain⟨p,ws,rfl,h,t⟩:=mK nU c2.ext rfl
   obtain⟨z,ez,sz⟩:=Hg t ed
   exact .inl ⟨p,ws,_,z,rfl,rfl,lC h,ez,fin d z qd sz⟩
  ·obtain⟨d,ed,qd⟩:=q2
   cases s2
   obtain⟨p,ws,rfl,h,t⟩:=lj nU
   obtain⟨z,ez,sz⟩:=Hg t ed
   exact .inr (.inl ⟨p,ws,_,z,rfl,rfl,iu.of h,ez,fin d z qd sz⟩)
  ·obtain⟨hz,ch,ec,qc⟩:=q2
   cases nU
   cases s2
   exact .inr (.inr ⟨_,_,ch,rfl,rfl,hz,ec,fin _ _ qc (.str .nil)⟩)
  ·exact q2.elim⟩⟩
abbrev vM:=Dl->(Option Int->Dl->Prop)->Prop
inductive lP(t:vM)(σ:L2.St)(H:Hp)(Q:Option Int->Hp->Prop):Prop
 | mk (B F δ ts Qd) (c:ao B F H σ δ ts) (q:t δ Qd) (k:∀o ah F' H',Qd o ah->af F F'->af H H'->ao B F' H' σ ah ts->Q o H')
theorem P2{oe:Option Expr}{u u':TO}(h:PO X oe u)(m:∀σ H Q,u' σ H Q->u σ H Q):PO X oe u':=λpins s σ H Q I q=>h pins s σ H Q I (m σ H Q q)
def vN:vM:=λδ Q=>Q none δ
def vO(t:aN):vM:=λδ Q=>t δ λd ah=>match d with
 | .int i=>Q (some i) ah
 | _=>False
theorem yE:PO X none (lP vN):=P2 cw2 λσ H Q ⟨B,F,δ,ts,Qd,c,q,k⟩=>k none δ F H q (af.refl _) (af.refl _) c
theorem yF(h:PE X e (lB t)):PO X (some e) (lP (vO t)):=P2 (cu4 h) λσ H Q zq=>by
 obtain⟨B,F,δ,ts,Qd,c,q,k⟩:=zq
 exact⟨B,F,δ,ts,_,c,q,λd ak v F1 H1 q1 f1 h1 c1 s1=>by
 cases s1 with
 | int _=>exact⟨_,rfl,k _ ak F1 H1 q1 f1 h1 c1⟩
 | _=>exact q1.elim⟩
def fZ{α:Type}(xs:List α)(lo hi:Option Int):List α:=(xs.drop (HT.du xs.length 0 lo)).take (HT.du xs.length xs.length hi-HT.du xs.length 0 lo)
theorem S.cut{xs:List D}{ws:List V}(s:S F H xs ws)(lo hi:Option Int):S F H (fZ xs lo hi) (uG ws lo hi):=by
 unfold fZ uG
 rw[<-s.length]
 exact(s.drop _).take _
theorem P4{xs:List D}{p:D->Bool}(h:xs.all p=true)(lo hi:Option Int):(fZ xs lo hi).all p=true:=by
 rw[dj]at h ⊢
 intro x hx
 exact h x (qQ (xF hx))
def vP(t:aN):aN:=λδ Q=>t δ λd ah=>match d with
 | .int i=>Q (.int (Mf.bl i.natAbs:Nat)) ah
 | _=>False
theorem nV(ho:PE X o (lB t))(nD:attributeBase o "bit_length" X.env (eval o X.env)=eval o X.env:=by rfl)(nE:(apos.endLine==cE.line)=true:=by rfl):PE X (.Call (.Attribute o "bit_length" apos) [] [] cE) (lE (vP t)) :=
 dv (Gx ho nD nE) λσ H Q zq=>by
 obtain⟨B,F,δ,ts,Qd,c,q,k⟩:=zq
 exact⟨B,F,δ,ts,_,c,q,λd ak v F1 H1 q1 f1 h1 c1 s1=>by
  cases s1 with
  | int _=>exact⟨rfl,_,rfl,rfl,k _ ak _ F1 H1 q1 f1 h1 (c1.pushS (.int .nil) rfl)⟩
  | _=>exact q1.elim⟩
end
end L3
namespace L3
open PySem L2 PySem.Spec PyProof.Rows
section
variable{X:Cx}{F H:Hp}{v w:V}{e a b c o tg:Expr}{es:List Expr}{pos p p2 apos cE pos':Pos}{t ta tb tc te ti:aN}{tr:cF}{x:Str}{i:Nat}
def vQ(i:Nat)(t:aN):cO:=λD δ=>(∃xs,δ[i]?=some (some (.lst true xs)))/\t δ λd ah=>∃xs,ah[i]?=some (some (.lst true xs))/\xs.length<sizeLine/\D.nx (ah.set i (some (.lst true (xs++[d]))))
theorem nW(hN:X.N[i]?=some x)(hv:nk X.env.scope x)(he:PE X e (lE t))(hd:(x==("__debug__":Str))=false:=by decide)(da:(x==("__classdict__":Str))=false:=by decide)
  (nD:attributeBase (.Name x p) "append" X.env (eval (.Name x p) X.env)=eval (.Name x p) X.env:=by rfl)
  (Gg:((backTo cE (starEach [e] X.env)).all (λx=>!x.1)&&(backToKw cE (keywordEach [] X.env)).all (λx=>x.1.isSome)
   && decide ([e].length+([]:List Keyword).length+(if([]:List Keyword).isEmpty then 0 else 1)<30))=true:=by rfl)
  (nE:(apos.endLine==cE.line)=true:=by rfl) (hs:starEach [e] X.env=(false,eval e X.env)::starEach [] X.env:=by rfl) (Gh:(backTo cE (starEach [] X.env)).any (·.1)=false:=by rfl)
  (sr:swapsWith (.Call (.Attribute (.Name x p) "append" apos) [e] [] cE) none pos.line X.env=pure false:=by rfl) :
  PS X (.Expr (.Call (.Attribute (.Name x p) "append" apos) [e] [] cE) pos) (lS X (vQ i t)) :=
 kB (q0 (cL0 PySem.F.plainAttrs_list PySem.F.slot_list_append PySem.F.type_list_append OC (uB hN hv hd da) (bV he fg hs) nD Gg nE hs Gh) sr) λEn σ H zz=>by
  obtain⟨B,F,δ,Dd,c,⟨⟨ys,ey⟩,q⟩,k1,k2,k3,k4⟩:=zz
  obtain⟨p0,GV,g1,g2,g3⟩:=c.ownAt ey
  refine⟨.ref p0,g1,.inl ⟨rfl,_,bQ.of g2⟩,B,F,δ,[],_,c,q,λd ah v F' H' hd sf sh c'=>?_⟩
  obtain⟨xs,ex,hl,hn⟩:=hd
  obtain⟨p1,ws,r1,r2,r3⟩:=c'.ownAt ex
  rw[g1]at r1;cases r1
  exact⟨p0,ws,v,rfl,rfl,r2,by omega,k1 _ _ F' _ hn (c'.app ex g1 r2)⟩
def vR(i:Nat)(te ti:aN):cO:=λD δ=>te δ λd ak=>∃ys,ak[i]?=some (some (.lst true ys))/\rH ti ak λk aV=>match k with
 | .int n=>∃xs j,aV[i]?=some (some (.lst true xs))/\i6 xs.length n=some j/\D.nx (aV.set i (some (.lst true (xs.set j d))))
 | _=>False
theorem vS(hN:X.N[i]?=some x)(hv:nk X.env.scope x)(he:PE X e (lE te))(hi:PE X b (lB ti))(hd:(x==("__debug__":Str))=false:=by decide)(da:(x==("__classdict__":Str))=false:=by decide)
  (ha:∀v,assign (.Subscript (.Name x p) b pos') X.env v=(do
   let ov<-holding [v] (eval (.Name x p) X.env)
   let iv<-holding [v,ov] (eval b X.env)
   standAt pos'
   holding [v,ov,iv] (setItem ov iv v)
   release [v,ov,iv] []):=by intro _;rfl)
  (hs:swapsWithSole [.Subscript (.Name x p) b pos'] e pos.line X.env=pure false:=by rfl) (hw:swappedStores [.Subscript (.Name x p) b pos'] e X.env=pure none:=by rfl)
  (h1:(assignEach [.Subscript (.Name x p) b pos'] X.env).map (·.2)=[assign (.Subscript (.Name x p) b pos') X.env]:=by rfl) :
  PS X (.Assign [.Subscript (.Name x p) b pos'] e pos) (lS X (vR i te ti)) :=
 kB (ZM he (ZL (uB hN hv hd da) (dJ hi) ci0 ha) hs hw h1) λEn σ H zq=>by
 obtain⟨B,F,δ,Dd,c,q,k1,k2,k3,k4⟩:=zq
 exact⟨B,F,δ,[],_,c,q,λd ak v F1 H1 hq f1 h1 c1=>by
  obtain⟨ys,ey,hq⟩:=hq
  obtain⟨p0,GV,g1,g2,g3⟩:=c1.ownAt ey
  refine⟨.ref p0,g1,B,F1,ak,[(d,v)],_,c1,hq,λkd aV kv F2 H2 hk f2 h2 c2=>?_⟩
  have st:=c2.top
  split at hk
  ·obtain⟨xs,j,ex,ej,hn⟩:=hk
   cases st
   have c3:=c2.pop
   obtain⟨p1,ws,r1,r2,r3⟩:=c3.ownAt ex
   rw[g1]at r1;cases r1
   exact⟨p0,ws,_,j,rfl,rfl,r2,by rw[<-r3];exact ej,k1 _ _ F2 _ hn (c3.db3 ex g1 r2 j)⟩
  ·exact hk.elim⟩
end
end L3
namespace L3
open PySem L2 PySem.Spec PyProof.Rows
theorem bY{A:Around}{k:Nat}(hr:bS k A):A.units+6<cLine:=by have:=hr.un;omega
def aG(ns:List Int):List D:=ns.map D.int
def Hh(o:Obj):Bool:=match o.cls with
 | .type n=>n != "list"
 | _=>true
def P5:bc:=λds Q=>∃ns:List Int,ds=[.fz (aG ns)]/\ns.length<=63/\Q (.bl true)
theorem lD{F H:Hp}:∀ns:List Int,R F H (aG ns) (ns.map V.int) []
 | []=>.nil
 | n::ns=>.int (lD ns)
theorem bL7{K:PySem.W.Frag}{a:Addr}{o:Obj}(h:K.lookup a=some o):(a,o)∈K:=by
 induction K with
 | nil=>cases h
 | cons p K ih =>
  obtain⟨b,u⟩:=p
  rw[gi]at h
  split at h
  ·rename_i z
   have:a=b:=by simpa using z
   cases h;subst this;simp
  ·exact gK _ (ih h)
end L3
namespace L3
open PySem L2 PySem.Spec PyProof.Rows
section
variable{B:Bs}{F H:Hp}{σ:L2.St}{δ:Dl}{ts ps:List (D × V)}{i k:Nat}{p q:Addr}{l1 l2 ys Pl:List D}{ws vD:List V}
end
section
variable{X:Cx}{F H:Hp}{e b:Expr}{pos p pr apos cE Hi:Pos}{t ti te:aN}{x y:Str}{i j:Nat}
end
end L3
namespace L3
open PySem L2 PySem.Spec PyProof.Rows
theorem yG(i:Int):(D.int i).pl=true:=rfl
theorem yH(i:Bool):(D.bl i).pl=true:=rfl
theorem yI(i:Str):(D.str i).pl=true:=rfl
theorem yJ:D.au.pl=true:=rfl
theorem yK(xs:List D):(D.fz xs).pl=true:=rfl
theorem yL(C:Addr)(ns:List Str)(xs:List D):(D.obj C ns xs).pl=true:=rfl
theorem yM(i:Int):(D.int i).fr=true:=rfl
theorem yN(i:Bool):(D.bl i).fr=true:=rfl
theorem yO(i:Str):(D.str i).fr=true:=rfl
theorem yP:D.au.fr=true:=rfl
theorem pU(i:Int):(D.int i).sh=.int i:=rfl
theorem yQ(i:Bool):(D.bl i).sh=.bl i:=rfl
theorem yR(i:Str):(D.str i).sh=.str i:=rfl
theorem yS:D.au.sh=.au:=rfl
theorem yT(xs:List D):(D.fz xs).sh=.fz xs:=rfl
theorem yU(C:Addr)(ns:List Str)(xs:List D):(D.obj C ns xs).sh=.obj C ns xs:=rfl
theorem yV{α:Type}(n:Nat)(x:α):(aU n [x]).flatten=aU n x:=by
 induction n with
 | zero=>rfl
 | succ n ih=>rw[qL,ua,ih];rfl
theorem lF(ns:List Int):(aG ns).length=ns.length:=by simp[aG]
theorem nX(ns:List Int):(aG ns).all D.pl=true:=by simp[aG,D.pl]
theorem su(ns:List Int):(aG ns).all D.fr=true:=by simp[aG,D.fr]
theorem kF(ns:List Int):(aG ns).map D.sh=aG ns:=by simp[aG,D.sh]
theorem sA(a b:List Int):aG a++aG b=aG (a++b):=by simp[aG]
theorem yW(n:Nat)(i:Int):aU n (D.int i)=aG (aU n i):=by simp[aG]
theorem sC(n:Nat)(i:Int):eA n (.int i)=true:=by cases n<;>rfl
theorem yX(n:Nat)(i:Str):eA n (.str i)=true:=by cases n<;>rfl
theorem ie(i j:Int):bF (.int i) (.int j)=decide (i=j):=by
 show(i==j)=_
 rw[Bool.beq_eq_decide_eq]
theorem P6:∀(a b:List Int),bF.gq (aG a) (aG b)=decide (a=b)
 | [],[]=>rfl
 | [],_::_=>by simp[aG,bF.gq]
 | _::_,[]=>by simp[aG,bF.gq]
 | x::xs,y::ys=>by
  show(bF (.int x) (.int y)&&bF.gq (aG xs) (aG ys))=_
  rw[P6 xs ys,ie,qN];simp
theorem vT(o o':Bool)(a b:List Int):bF (.lst o (aG a)) (.lst o' (aG b))=decide (a=b):=P6 a b
theorem P7{ns:List Int}{k:Nat}(h:k<ns.length):(aG ns)[k]?=some (.int ns[k]):=by simp[aG,h]
theorem mP{ns:List Int}{k:Int}(h0:0<=k)(h:k<ns.length):fh (aG ns) k=some (.int (ns.getD k.toNat 0)):=by
 unfold fh i6
 rw[if_pos h0,lF,if_pos h]
 show(aG ns)[k.toNat]?=_
 have hk:k.toNat<ns.length:=by omega
 rw[P7 hk,aS,aR hk];rfl
theorem vU(ns:List Int)(lo hi:Option Int):fZ (aG ns) lo hi=aG (fZ ns lo hi):=by simp[fZ,aG,Nr,Nt]
theorem yY(i:Int):mM "int" (.int i)=some true:=by rfl
theorem yZ(i:Int):mM "bool" (.int i)=some false:=by rfl
theorem y0(i:Int):mM "list" (.int i)=some false:=by rfl
theorem y6(o:Bool)(xs:List D):mM "list" (.lst o xs)=some true:=by rfl
theorem y7:mM "int" .au=some false:=by rfl
theorem y8(x:Str):mM "str" (.str x)=some true:=by rfl
theorem y9(xs:List D):mM "tuple" (.tup xs)=some true:=by rfl
theorem sL:sizeLine=16777216:=rfl
theorem za{p:Prop}[Decidable p]:(decide p=true)=p:=by simp
theorem cs2{α:Type}(xs:List α)(a b:Nat):fZ xs (some (a:Int)) (some (b:Int))=(xs.drop a).take (b-a):=by
 unfold fZ
 rw[HT.FZ,HT.FZ]
 by_cases h:a<=xs.length
 ·rw[Nat.min_eq_left h]
  apply Nu
  intro i
  rw[YK,YK,Nv]
  by_cases hi:i<b-a
  ·rw[if_pos hi]
   by_cases hb:a+i<xs.length
   ·rw[if_pos (by omega)]
   ·rw[gw (by omega)];simp
  ·rw[if_neg hi,if_neg (by omega)]
 ·rw[Nat.min_eq_right (show xs.length<=a by omega),Nw (bM _),Nw (show xs.length<=a by omega)];simp
end L3
namespace L2
open PySem PySem.Spec PyProof.Rows
section
variable{X:Cx}{e:Expr}{te:TE}{lo hi:Option Expr}{st:Expr}{tl th ts:TO}{pos p2:Pos}
theorem P8(ns:List Int):∀k,k<=ns.length->preSum (λi=>ns.getD i 0) k=(ns.take k).sum
 | 0,_=>rfl
 | k+1,h=>by
  show preSum (λi=>ns.getD i 0) k+ns.getD k 0=_
  rw[P8 ns k (by omega),qP,aR (by omega),List.sum_append,aS,aR (by omega)]
  simp
theorem b48(hc:X.calm=true):gz X (.builtin "sum") (λxs H Q=>∃(p:Addr) (ns:List Int),xs=[.ref p]/\bQ X.K H p (ns.map V.int)/\Q (.int ns.sum) H):=by
 intro pins s σ H xs us Q I r h
 obtain⟨p,ns,rfl,hS,q⟩:=h
 obtain⟨u,rfl,ru⟩:=r.one
 cases ru
 obtain⟨its,rv,pl,hz⟩:=I.list hS
 have hi:=bT7 rv
 have hlen:ns.length=its.length:=by have:=rv.length;simpa using this
 have hl:=pl.isList
 have gB:p<s.heap.objs.size:=by obtain⟨_,e,_⟩:=hl;exact bL e
 refine call_sum_walkG (wpAny_pyIter_list hl ?_)
 refine⟨s.heap.objs.size,[s.heap.objs.size,p],[s.heap.objs.size],its.toArray.size,_,_,λi=>ns.getD i 0,rfl,Walks.list (A:=X.A.in1) (I.ok.hd hc) _ p (eQ gB) its.toArray,
  ⟨⟨_,g8 _ rfl,rfl,rfl⟩,hl.push _⟩,λb hb=>?_,λi v hP=>?_,λh' tk t' hk=>?_⟩
 ·simp only[tY]
  rcases cH.mp hb with rfl | hb
  ·exact AV _
  ·rw[fI.mp hb];exact Nx gB
 ·have e:its[i]?=some v:=by simpa using hP
  obtain⟨x,ex,q2⟩:∃x,(ns.map V.int)[i]?=some x/\RelV x v:=by
   have gO:i<its.length:=(ki.mp e).1
   obtain⟨u,e2,q2⟩:=rv.get (i:=i) (x:=V.int ns[i]) (by rw[cM,aR (by omega)];rfl)
   rw[e]at e2;cases e2
   exact⟨_,by rw[cM,aR (by omega)];rfl,q2⟩
  rw[cM]at ex
  obtain⟨n,en,rfl⟩:=Bb.mp ex
  obtain⟨t,rfl⟩:=q2
  exact⟨t,by show qF n t=qF (ns.getD i 0) t;rw[aS,en];rfl⟩
 ·rw[eD,<- hlen,P8 ns _ (bM _),ug]
  exact⟨.int _,H,I.kept (h':=h') (t':=tk) (Gz hk),⟨_,rfl⟩,q⟩
end
end L2
namespace L3
open PySem L2 PySem.Spec PyProof.Rows
section
variable{X:Cx}{F H:Hp}{e:Expr}{t:aN}{lo hi:Option Expr}{st:Expr}{tl th td:vM}{pos p2:Pos}
theorem Hj:∀{a:List Int} {ws:List V},S F H (aG a) ws->ws=a.map V.int
 | [],_,s=>by cases s;rfl
 | b::bs,_,s=>by
  cases s with
  | int s=>rw[Hj s];rfl
def nY:jy:=λds Q=>match ds with
 | [.lst _ xs]=>∃a,xs=aG a/\Q (.int a.sum)
 | _=>False
theorem cN8(hc:X.calm=true):gE X (.builtin "sum") nY:=gE.of (b48 hc) λvs H Q zz=>by
 obtain⟨B,F,σ,δ,ts,ds,Qd,c,s,q,k⟩:=zz
 unfold nY at q
 split at q
 ·obtain⟨v,rfl,s1⟩:=kE s
  obtain⟨a,rfl,q⟩:=q
  obtain⟨p,ws,rfl,h,t⟩:=mK s1 c.ext rfl
  rw[Hj t]at h
  exact⟨p,a,rfl,lC h,k _ _ _ q (af.refl _) (c.pushS (.int .nil) rfl)⟩
 ·exact q.elim
def Hk:Expr->Option Int
 | .Constant (.int i) _ _=>some i
 | _=>none
def Cn:List Expr->Option (List Int)
 | []=>some []
 | e::es=>(Hk e).bind λi=>(Cn es).map (i :: ·)
theorem cf6{e:Expr}{i:Int}(h:Hk e=some i):∃a b,e=.Constant (.int i) a b:=by
 cases e with
 | Constant c a b =>
  cases c with
  | int j=>cases h;exact⟨_,_,rfl⟩
  | _=>cases h
 | _=>cases h
def cN4(ns:List Int):cF:=λδ Q=>Q (aG ns) δ
theorem P9:∀(es:List Expr) (ns:List Int),Cn es=some ns->PA X es (lO (cN4 ns))
 | [],ns,h=>by cases h;exact cZ
 | e::es,ns,h=>by
  obtain⟨i,hi,h2⟩:=Option.bind_eq_some_iff.mp (show(Hk e).bind (λi=>(Cn es).map (i :: ·))=some ns from h)
  obtain⟨ms,hm,rfl⟩:=Bb.mp h2
  obtain⟨a,b,rfl⟩:=cf6 hi
  exact yp (cJ (ai (i:=i)) (P9 es ms hm)) λ_ _ _ q=>q
def vV(ns:List Int):aN:=λδ Q=>ns.length<=sizeLine/\Q (.lst true (aG ns)) δ
theorem Qa{es:List Expr}{ns:List Int}(h:Cn es=some ns):PE X (.List es pos) (lE (vV ns)) :=
 dv (eN (P9 es ns h)) λ_ _ _ zq=>by
 obtain⟨B,F,δ,ts,Qd,c,q,k⟩:=zq
 exact⟨B,F,δ,ts,Qd,c,by
  show(aG ns).length<=sizeLine/\_
  rw[lF];exact q,k⟩
theorem b98{ns:List Int}(h:0<ns.length):fh (aG ns) (-1)=some (.int (ns.getD (ns.length-1) 0)):=by
 unfold fh i6
 rw[if_neg (by decide),lF,if_pos (by omega)]
 have hk:((-1:Int)+ns.length).toNat=ns.length-1:=by omega
 show(aG ns)[((-1:Int)+ns.length).toNat]?=_
 rw[hk,P7 (by omega),aS,aR (by omega)];rfl
theorem zb{n:Nat}{g:iK}{tb:cO}{En:pI}{δ:Dl}(Iv:Nat->Dl->Prop)(h0:Iv 0 δ)(ht:∀k ah,k<n->Iv k ah->g (.int k) ah λaV=>tb { En with nx:=Iv (k+1),ct:=Iv (k+1),bk:=En.nx } aV)
  (hf:∀ah,Iv n ah->En.nx ah):gS (ui (λ(k:Nat)=>D.int (0+(k:Int))) (aL (n:Int).toNat)) g tb En δ:=by
 rw[iX]
 refine gS.mk Iv h0 (λi d ah hd iv=>?_) λah iv=>hf ah (by simpa using iv)
 rw[cM]at hd
 obtain⟨k,hk,rfl⟩:=Bb.mp hd
 have hi:i<n:=by have:=(ki.mp hk).1;simpa using this
 rw[jL hi]at hk
 cases hk
 rw[Ny]
 exact ht i ah hi iv
theorem nv{xs:List D}{k:Int}{d:D}(h0:0<=k)(h:xs[k.toNat]?=some d):fh xs k=some d:=by
 unfold fh i6
 have hk:k.toNat<xs.length:=(ki.mp h).1
 rw[if_pos h0,if_pos (by omega)]
 exact h
end
end L3
namespace L3
open PySem L2 PySem.Spec PyProof.Rows
abbrev lH:=List D->(D->Prop)->(Addr->Prop)->Prop
def mQ(sp:lH):Sp:=λvs H Q E=>∃F ds Qd Ed,af F H/\R F H ds vs []/\sp ds Qd Ed/\(∀d v F' H' A,Qd d->af H H'->af F F'->af F' H'->(∀a ws,F' a=some (.lst ws)->F a=some (.lst ws)\/H a=none)->R F' H' [d] [v] A->A.Nodup->(∀a∈A,H a=none)->Q v H') /\
 ∀C H',Ed C->af H H'->E (.ref C) none H'
section
variable{P:Program}{w:World}{K:PySem.W.Frag}{mg:Str->Option Value}{base:Heap}
theorem Co{x qual:Str}{st:Stmt}{f:Addr}{fd:FuncData}{N ps:List Str}{k:Nat}{sp:lH}(F:aY K x qual st f fd)(S:aX N ps (aK st))(len:∀ds Q E,sp ds Q E->ds.length=ps.length)
  (hW:∀(aC:Value) (A:Around) (outer:List Env) (s:Shared) (H:Hp) (E:XK),bS k (A.deeper (envOfC qual (aK st) s.heap.objs.size f aC)) ->
   ∃t:cO,PSs (i5 (jU P w) P w K mg base N qual (aK st) f aC A outer s H E) (fQ st) (lS (i5 (jU P w) P w K mg base N qual (aK st) f aC A outer s H E) t) /\
    ∀ds Q Ex,sp ds Q Ex->t { nx:=λ_=>Q .au,rt:=Q,xc:=λC _=>Ex C,xr:=λC _=>Ex C } (lh N ds)):aI P w K mg base (jU P w) (k+1) f fd ps (mQ sp):=by
 obtain⟨oc,od,kV,doc,pm,an,aC,ct,iz,rfl,lk,da⟩:=F.ex
 refine BQ lk da S (λvs H Q E ⟨F,ds,Qd,Ed,e,r,h,_⟩=>by rw[<-r.length];exact len ds Qd Ed h) λA outer s H vs Q E hr zz=>?_
 obtain⟨F,ds,Qd,Ed,e,r,h,k,kx⟩:=zz
 obtain⟨t,ht,hq⟩:=hW aC A outer s H E hr
 have fin:∀d v ah aF F' H',Qd d->ao ⟨H,F⟩ F' H' aF ah [(d,v)]->Q v H':=λd v ah aF F' H' hd c=>by
  obtain⟨A,C,r',s',nd,fr⟩:=c.own
  exact k d v F' H' A hd c.b1 c.b2 c.ext c.b3 r' (iJ.mp nd).1 λa ha=>fr a (eR _ ha)
 have e1:L2.start N vs=vs.map some++aU (N.length-ds.length) none:=by unfold L2.start;rw[r.length]
 refine⟨_,ht,⟨H,F⟩,F,lh N ds,_,?_,hq ds Qd Ed h,λah aF F' H' hd c=>fin .au .au ah aF F' H' hd (c.pushS (.au .nil) rfl),fin,λ_ _ _ _ z=>z.elim,λ_ _ _ _ z=>z.elim,λC ah pins aF F' H' s' a T hx c I tr pa pT=>?_,λC ah pins aF F' H' s' h' e vs hx c I hm=>?_⟩
 ·rw[e1]
  exact ao.start e r _
 ·exact b87 I rfl rfl rfl tr pa pT λh' T' g=>⟨a,T',.ref C,H',rfl,I.os,I.bare,g.un,g.aH,g.uN,g.a0,g.a1,g.t0,g.t1,kx C H' hx c.b1⟩
 ·exact b42 I rfl rfl rfl hm λh' T' g=>⟨e,T',.ref C,H',rfl,I.os,I.bare,g.un,g.aH,g.uN,g.a0,g.a1,g.t0,g.t1,kx C H' hx c.b1⟩
end
abbrev Qb:=L2.St->Hp->VK->(Value->Hp->Prop)->Prop
def PX(X:Cx)(e:Expr)(t:Qb):Prop:=∀(pins:List (Addr × Obj)) (s:Shared) (σ:L2.St) (H:Hp) (Q:VK) (Z:Value->Hp->Prop),Inv X pins σ H s ->
 (∀a T cls H' s',Inv X pins σ H' s'->iG s'.heap a T cls->Apart X pins H' a->Apart X pins H' T->Z cls H'->X.xe (.ref a) s')->t σ H Q Z->wpAny (model X.prog X.w) X.A (eval e X.env) (EP X pins σ Q) X.xe s
abbrev Cp:=Dl->(D->Dl->Prop)->(Addr->Dl->Prop)->Prop
def lX(t:Cp):Qb:=λσ H Q Z=>∃B F δ Qd Zd,ao B F H σ δ []/\t δ Qd Zd/\(∀d ah v F' H',Qd d ah->af F F'->af H H'->ao B F' H' σ ah [(d,v)]->Q v H')/\∀C ah F' H',Zd C ah->af F F'->af H H'->ao B F' H' σ ah []->Z (.ref C) H'
section
variable{X:Cx}{n:Nat}{f:Addr}{fd:FuncData}{ps:List Str}{sp:lH}{x:Str}{p pos:Pos}{e:Expr}{es:List Expr}{t:cF}{tx:Cp}
theorem cK1{pins:List (Addr × Obj)}{σ:L2.St}{H:Hp}{s:Shared}{Q:VK}{E:XK}{us:List Value}{vs:List V}{sp:Sp}(F:aI X.prog X.w X.K X.mg X.base (jU X.prog X.w) n f fd ps sp)(hr:bS n X.A)(hb:Binds X.K fd ps [])(hex:X.ex=[])
  (I:Inv X pins σ H s) (r:Vals vs us) (h:sp vs H Q E) (hx:∀a T cls H' s',Inv X pins σ H' s'->iG s'.heap a T cls->Apart X pins H' a->Apart X pins H' T->E cls none H'->X.xe (.ref a) s'):wpAny (model X.prog X.w) X.A (call (.ref f) us) (EP X pins σ Q) X.xe s:=by
 have hl:(us++[]).length=ps.length:=by rw[fH,<- r.length];exact F.len _ _ _ _ h
 have pV:=hb s us I.cY hl
 rw[fH]at pV
 refine wpAny_call (codeAny_mono (F.run X.A X.stack s H ⟨us,[]⟩ us vs Q E hr I.uE pV r h) λr s' hq=>?_)
 cases r with
 | error e =>
  obtain⟨a,T,cls,H',rfl,os,bare,un,aH,tr,a0,a1,t0,t1,hE⟩:=hq
  exact hx a T cls H' s' (I.NV (ch:=[]) os un aH bare λb z=>absurd z (by simp)) tr (I.apart hex a0 a1) (I.apart hex t0 t1) hE
 | ok fl =>
  cases fl with
  | ret u=>exact I.after hq
  | next=>exact fG hq
  | brk=>exact fG hq
  | cont=>exact fG hq
def vW(sp:lH)(t:cF):Cp:=λδ Q Z=>t δ λds ah=>sp (ds.map D.sh) (λd=>(ds.all D.pl||d.fr)=true/\Q d ah) λC=>Z C ah
theorem cd1{B:Bs}{F H:Hp}{σ:L2.St}{δ:Dl}{ts:List (D × V)}{Qd:D->Prop}{Ed:Addr->Prop}{Q:VK}{E:XK}{ds:List D}{vs:List V}(c:ao B F H σ δ ts)(s:S F H ds vs)(q:sp (ds.map D.sh) (λd=>(ds.all D.pl||d.fr)=true/\Qd d) Ed)
  (k:∀d v F' H',Qd d->af F F'->af H H'->ao B F' H' σ δ ((d,v)::ts)->Q v H') (kx:∀C H',Ed C->af H H'->E (.ref C) none H'):mQ sp vs H Q E:=by
 by_cases hp:ds.all D.pl=true
 ·rw[k7 hp]at q
  exact⟨F,ds,_,_,c.ext,s.r hp,q,λd v F' H' A hd hs hf he h3 r nd fr=>k d v F' H' hd.2 hf hs (c.call hs hf he h3 r nd fr),kx⟩
 ·refine⟨H,ds.map D.sh,_,_,af.refl _,s.frozen c.ext,q,λd v F' H' A hd hs hf he h3 r nd fr=>?_,kx⟩
  have eJ:d.fr=true:=by
   have:=hd.1
   rw[Bool.or_eq_true]at this
   exact this.resolve_left hp
  exact k d v F H' hd.2 (af.refl _) hs (c.B6 hs (r.pG (by simp[eJ]) (c.ext.trans hf)) nd fr)
theorem Qc(F:aI X.prog X.w X.K X.mg X.base (jU X.prog X.w) n f fd ps (mQ sp))(hr:bS n X.A)(hg:Gl X x)(hm:X.mg x=some (.ref f))(hk:PySem.W.keepIn X.K (.ref f)=true)(hb:Binds X.K fd ps [])(hex:X.ex=[])
  (ha:PA X (e::es) (lA t)) (de:(x==("__debug__":Str))=false:=by decide) (he:starEach (e::es) X.env=(false,eval e X.env)::starEach es X.env:=by rfl) (bu:(backTo pos (starEach es X.env)).any (·.1)=false:=by rfl) :
  PX X (.Call (.Name x p) (e::es) [] pos) (lX (vW sp t)):=by
 intro pins s σ H Q Z I hz zz
 obtain⟨B,F0,δ,Qd,Zd,c,q,k,kx⟩:=zz
 refine wpAny_Call_Name_kw (qY I hg hm ?_ de)
 refine PySem.W.callWith_K (h₀:=X.base) I.ok.mod.mr hk (aP (ha pos pins s σ H (λvs H1=>mQ sp vs H1 Q λcls _ H'=>Z cls H') I ⟨B,F0,δ,[],_,c,q,λds ak vs F1 H1 q1 f1 h1 c1 s1=>?_⟩) λus s1 ⟨vs,H1,I1,r,q⟩=>⟨I1.cY,?_⟩) he bu
 ·exact cd1 c1 s1 q1 (λd v F' H' hd hf hs c'=>k d ak v F' H' hd (f1.trans hf) (h1.trans hs) c') λC H' hC hs=>kx C ak F1 H' hC f1 (h1.trans hs) (c1.grow hs)
 ·exact cK1 F hr hb hex I1 r q λa T cls H' s' I' tr pa pT hE=>hz a T cls H' s' I' tr pa pT hE
theorem cK7{B:Bs}{F H:Hp}{σ:L2.St}{Dd:pI}{pins:List (Addr × Obj)}(xl:XL X B Dd):∀a T cls H' s',Inv X pins σ H' s'->iG s'.heap a T cls->Apart X pins H' a->Apart X pins H' T->(∃C ah F',cls=.ref C/\Dd.xc C ah/\ao B F' H' σ ah [])->X.xe (.ref a) s':=by
 rintro a T cls H' s' I tr pa pT ⟨C,ah,F',rfl,hx,c⟩
 exact xl.1 C ah pins σ F' H' s' a T hx c I tr pa pT
def vX(t:Cp):cO:=λD δ=>t δ (λ_ ah=>D.nx ah) D.xc
theorem Qe(he:PX X e (lX tx))(hs:swapsWith e none pos.line X.env=pure false:=by rfl):PS X (.Expr e pos) (lS X (vX tx)):=by
 intro pins s σ H D I zz
 obtain⟨B,F,δ,Dd,c,q,k1,k2,k3,k4,xl⟩:=zz
 refine wpAny_Expr_any (aP (he pins s σ H (λ_ H1=>D.nx σ H1) (λcls H'=>∃C ah F',cls=.ref C/\Dd.xc C ah/\ao B F' H' σ ah []) I (cK7 (H:=H) (F:=F) xl) ⟨B,F,δ,_,_,c,q,λd ah v F' H' hd _ _ c'=>k1 ah σ F' H' hd c'.pop,λC ah F' H' hC _ _ c'=>⟨C,ah,F',rfl,hC,c'⟩⟩) λv s1 ⟨x,H1,I1,r1,q1⟩=>⟨σ,H1,I1,q1⟩) I.quiet hs
def vY(t:cO):cO:=λD δ=>t { D with xc:=λ_ _=>False,xr:=λ_ _=>False } δ
theorem cL7{st:Stmt}{u:cO}(h:PS X.gy st (lS X.gy u)):PS X st (lS X (vY u)):=by
 intro pins s σ H D I zz
 obtain⟨B,F,δ,Dd,c,q,k1,k2,k3,k4,xl⟩:=zz
 exact wpAny_mono (h pins s σ H D (I.ku _) ⟨B,F,δ,_,c,q,k1,k2,k3,k4,XL.none (λ_ _ z=>z) λ_ _ z=>z⟩) (λ_ _ q=>q.mx) λ_ _ z=>fG z
def vZ(C:Addr)(t:cF):cO:=λD δ=>t δ λds ah=>ds.length<=9/\D.xr C ah
structure zc(K:PySem.W.Frag)(mg:Str->Option Value)(x:Str)(C:Addr):Prop where
 own:∀h:Heap,K.In h->h.Ns mainGlobals mg->∃newId Bn Qf Qg B Qh Qi Cq,OwnCls x C Cq newId mg h/\ExcBaseFacts Bn newId Qf Qg/\Cq.contains (.type Bn)=true/\ExcBaseFacts B Qh Qi Cq
theorem Cr{C:Addr}{np cE:Pos}(hm:zc X.K X.mg x C)(hc:X.calm=true)(hg:Gl X x)(ha:PA X (e::es) (lA t))(de:(x==("__debug__":Str))=false:=by decide)
  (he:starEach (e::es) X.env=(false,eval e X.env)::starEach es X.env:=by rfl) (bu:(backTo cE (starEach es X.env)).any (·.1)=false:=by rfl) :
  PS X (.Raise (some (.Call (.Name x np) (e::es) [] cE)) none pos) (lS X (vZ C t)):=by
 intro pins s σ H D I zz
 obtain⟨B,F,δ,Dd,c,q,k1,k2,k3,k4,xl⟩:=zz
 obtain⟨newId,Bn,Qf,Qg,B',Qh,Qi,Cq,O,Fn,hBn,FB⟩:=hm.own X.base I.ok.mod.mr I.ok.mod.glob
 obtain⟨tl,N,nm,qn,bs,hdct,sn,sub,ab,col,dd,k0,rY,vE,k3',k5,mN,hC,hN,mR,T⟩:=O.obj
 refine wpAny_Raise_call_subU (k5:=k5) (k3:=k3') (k2:=vE) (k1:=rY) (k0:=k0) (dd:=dd) (col:=col) (ab:=ab) (sub:=sub) (sn:=sn) (hdct:=hdct) (bs:=bs) (N:=N) (q:=qn) (nm:=nm) (C:=C) Fn hBn FB (mN:=mN) (T.hasType FB.hasBase) (I.ok.hd hc) (by rw[he];show(false||(backTo cE (starEach es X.env)).any (·.1))=false;rw[bu];rfl) mR (qY I hg O.bound ⟨rfl,?_⟩ de)
 have Ct:=ha cE pins s σ H (λvs H1=>vs.length<=9/\∃ah F',Dd.xr C ah/\ao B F' H1 σ ah []) I ⟨B,F,δ,[],_,c,q,λds ak vs F1 H1 q1 f1 h1 c1 s1=>⟨by rw[<-s1.length];exact q1.1,ak,F1,q1.2,c1⟩⟩
 rw[he]at Ct ⊢
 refine Calls.evalArgs_plain (wpAny_mono Ct (λus s2 h2=>?_) λ_ _ y=>y)
 obtain⟨vs,H1,I1,r,hl,ah,F',hx,c'⟩:=h2
 exact⟨rfl,by rw[<-r.length];exact fO hl (by decide),I1.bk _ _ hC,hN.keeps I1.bk,T.keeps I1.bk,λh' e' hm'=>xl.2 C ah pins σ F' H1 s2 h' e' _ hx c' I1 hm'⟩
end
end L3
namespace L3
open PySem L2 PySem.Spec PyProof.Rows
section
variable{X:Cx}{pins uA:List (Addr × Obj)}{σ:L2.St}{H:Hp}{s:Shared}{a:Addr}
abbrev tr(X:Cx)(xe:Value->Shared->Prop)(pn:List (Addr × Obj)):Cx:={ X with xe:=xe,pn:=pn }
abbrev v3(X:Cx)(A:Around)(xe:Value->Shared->Prop):Cx:={ X with A:=A,calm:=false,xe:=xe }
theorem cK2(ok:X.Ok)(xe:Value->Shared->Prop)(pn:List (Addr × Obj)):(tr X xe pn).Ok :=
 ⟨ok.mod,ok.kind,ok.glob,ok.blt,ok.above,ok.inj,ok.has,ok.nq,ok.hd,ok.frames,ok.qV,ok.qW,ok.bs,ok.ji,ok.oV,ok.oW,ok.gx,ok.jj⟩
theorem cJ5(I:Inv X pins σ H s)(xe:Value->Shared->Prop):Inv (tr X xe (X.pn++pins)) [] σ H s :=
 ⟨cK2 I.ok _ _,I.os,I.bare,I.base,I.loc,I.cell,I.free,I.gj,λp hp=>I.pin p (by simpa using hp),I.aH,I.len⟩
theorem zd{xe:Value->Shared->Prop}(ok:X.Ok)(I:Inv (tr X xe (X.pn++pins)) uA σ H s):Inv X pins σ H s :=
 ⟨ok,I.os,I.bare,I.base,I.loc,I.cell,I.free,I.gj,λp hp=>I.pin p (eR _ hp),I.aH,I.len⟩
theorem Qj{xe:Value->Shared->Prop}(p:Apart (tr X xe (X.pn++pins)) uA H a):Apart X pins H a:=⟨p.old,p.free,p.loc,p.cell,λq hq=>p.pin q (eR _ hq),p.fr⟩
theorem cI2(ok:X.Ok){A:Around}(hA:A.frames=X.A.frames)(xe:Value->Shared->Prop):(v3 X A xe).Ok :=
 ⟨ok.mod,ok.kind,ok.glob,ok.blt,ok.above,ok.inj,ok.has,ok.nq,(λh=>Bool.noConfusion h),hA.trans ok.frames,ok.qV,ok.qW,ok.bs,ok.ji,ok.oV,ok.oW,ok.gx,ok.jj⟩
theorem Qk(I:Inv X pins σ H s){A:Around}(hA:A.frames=X.A.frames)(xe:Value->Shared->Prop):Inv (v3 X A xe) pins σ H s :=
 ⟨cI2 I.ok hA xe,I.os,I.bare,I.base,I.loc,I.cell,I.free,I.gj,I.pin,I.aH,I.len⟩
theorem b99{A:Around}{xe:Value->Shared->Prop}(ok:X.Ok)(I:Inv (v3 X A xe) pins σ H s):Inv X pins σ H s:=⟨ok,I.os,I.bare,I.base,I.loc,I.cell,I.free,I.gj,I.pin,I.aH,I.len⟩
theorem b92{φ:Heap->Prop}(I:Inv X pins σ H s)(pa:Apart X pins H a)(ho:∃o,s.heap.get? a=some o)(h1:φ s.heap)(h2:∀g g':Heap,φ g->(∀o,g.get? a=some o->g'.get? a=some o)->φ g'):Inv X pins σ (upd H a (.ext φ)) s:=by
 have ne:∀{b:Addr} {u:HO},H b=some u->b≠a:=λ{b u} q=>dW q pa.free
 refine⟨I.ok,I.os,I.bare,⟨I.base.keep,I.base.slot,λb o e n hx=>?_,I.base.there,λb xs e=>?_,λb o xs e=>?_,λb ps e=>?_⟩,I.loc,I.cell,?_,λx c e=>?_,λp hp=>?_,λb u e=>?_,I.len⟩
 ·rw[aT (λz=>by rw[z,pa.old]at e;cases e)];exact I.base.free b o e n hx
 ·have q:=I.base.iZ b xs e;rw[aT (ne q)];exact q
 ·have q:=I.base.ir b o xs e;rw[aT (ne q)];exact q
 ·obtain⟨m,q⟩:=I.base.gM b ps e;exact⟨m,by rw[aT (ne q)];exact q⟩
 ·rw[aT (fF pa.loc)];exact I.free
 ·rw[aT (pa.cell x c e)];exact I.gj x c e
 ·obtain⟨q1,q2,q3,q4,q5⟩:=I.pin p hp
  exact⟨q1,by rw[aT (pa.pin p hp)];exact q2,q3,q4,q5⟩
 ·by_cases hb:b=a
  ·subst hb;rw[bH]at e;cases e;exact⟨h1,ho,λg g' p kk=>h2 g g' p λo q=>kk _ o (.inl rfl) q⟩
  ·rw[aT hb]at e
   exact(I.aH b u e).jh (λ_ _ _ q=>q) (λc q=>by rw[aT (ne q)];exact q) (λc xs q=>by rw[aT (ne q)];exact q) λc xs q=>by rw[aT (ne q)];exact q
end
theorem ao.unset{B:Bs}{F H:Hp}{σ:L2.St}{δ:Dl}{ts:List (D × V)}(c:ao B F H σ δ ts)(i:Nat):ao B F H (σ.set i none) (δ.set i none) ts:=by
 obtain⟨A,C,r,q,nd,fr⟩:=(c.forget i).own
 refine⟨c.ext,c.b1,c.b2,c.b3,A,C,r,q.uS none ?_,nd,fr⟩
 by_cases h:i<δ.length
 ·exact .inl (by rw[AR h])
 ·exact .inr (by rw[gw (by simpa using h)])
abbrev exc(C:Addr):D:=.bD (.ext λa=>mG a C)
theorem Ql{h:Heap}{a T C:Addr}(t:iG h a T (.ref C)):mG a C h:=by
 obtain⟨oe,vs,oT,ts,h1,h2,h3,h4,_⟩:=t
 exact⟨oe,h1,h2,by obtain⟨c,d,dt,sl⟩:=oe;cases h4;rfl,h3⟩
theorem cc8{a C:Addr}(g g':Heap)(h:mG a C g)(k:∀o,g.get? a=some o->g'.get? a=some o):mG a C g':=let⟨o,h1,r⟩:=h;⟨o,k o h1,r⟩
section
variable{X:Cx}{tb th:cO}{body Hl:List Stmt}{Hm:Stmt}{K n:Str}{Kc:Addr}{i:Nat}{kp Qm pos:Pos}
def v7(K:PySem.W.Frag)(c:Value)(i:Nat)(tb th:cO):cO:=λD δ=>tb { D with
 xc:=λC ah=>PySem.W.exmOne K (.ref C) c=some true/\th { nx:=λaV=>D.nx (aV.set i none),rt:=λ_=>False } (ah.set i (some (exc C)))
 xr:=λ_ _=>False } δ
theorem cM1(hb:∀xe pn,PSs (tr X xe pn) body (lS (tr X xe pn) tb))(hsu:∀A' xe,PSs (v3 X A' xe) (Hm::Hl) (lS (v3 X A' xe) th))(hg:Gl X K)(hm:X.mg K=some (.ref Kc))(hN:X.N.Nodup)(hi:X.N[i]?=some n)
  (hl:X.env.scope.names.lookup n=some .local) (hex:X.ex=[]) (cw:X.stack=X.env::X.outer) (hf:X.env.frame=some X.env.locals) (de:(K==("__debug__":Str))=false:=by decide) :
  PS X (.Try body [.ExceptHandler (some (.Name K kp)) (some n) (Hm::Hl) Qm] [] [] pos) (lS X (v7 X.K (.ref Kc) i tb th)):=by
 intro pins s σ H D I zz
 obtain⟨B,F,δ,Dd,c,q,k1,k2,k3,k4,xl⟩:=zz
 refine wpAny_Try_except (wpAny_mono (hb (λe s'=>∃a T C aF F' H' ah,e=.ref a/\Inv X pins aF H' s'/\iG s'.heap a T (.ref C)/\Apart X pins H' a/\Apart X pins H' T/\ao B F' H' aF ah []/\PySem.W.exmOne X.K (.ref C) (.ref Kc)=some true/\th { nx:=λaV=>Dd.nx (aV.set i none),rt:=λ_=>False } (ah.set i (some (exc C)))) (X.pn++pins) [] s σ H D (cJ5 I _) ⟨B,F,δ,_,c,q,k1,k2,k3,k4,λC ah uA aF F' H' s' a T hx c' I' GG pa pT=>⟨a,T,C,aF,F',H',ah,rfl,zd I.ok I',GG,Qj pa,Qj pT,c',hx⟩,λ_ _ _ _ _ _ _ _ _ _ z=>z.elim⟩) (λf s1 hS=>?_) λe s1 hx=>?_)
 ·cases f with
  | next=>obtain⟨aF,H',I',q'⟩:=hS;exact pd (X:=X) pins s1 aF H' D (zd I.ok I') q'
  | brk=>obtain⟨aF,H',I',q'⟩:=hS;exact⟨aF,H',zd I.ok I',q'⟩
  | cont=>obtain⟨aF,H',I',q'⟩:=hS;exact⟨aF,H',zd I.ok I',q'⟩
  | ret u=>obtain⟨v,aF,H',I',r',q'⟩:=hS;exact⟨v,aF,H',zd I.ok I',r',q'⟩
 ·obtain⟨a,T,C,aF,F',H',ah,rfl,I1,t1,pa,pT,c1,bU,hth⟩:=hx
  refine cS3 I1 cw hex hf t1 pa pT λh2 T2 I2 t2 pT2=>?_
  refine wpAny_handleBy_cons (codeAny_handlers_test (qY (X:=v3 X (X.A.mark (some (.ref a))) X.xe) (Qk (A:=X.A.mark (some (.ref a))) I2 rfl X.xe) hg hm ?_ de)) (by intro z;cases z)
  have x2:=Ql t2
  obtain⟨o2,e2,hc2,_⟩:=id x2
  have LT:PySem.W.Looks (model X.prog X.w) h2 (typeOf (.ref a)) (.ref C):=hc2 ▸ (PySem.W.Looks.ld e2).andThen .now
  refine(PySem.W.exm_one I2.cY LT bU).here ?_
  refine codeAny_handlers_suite_as (cr0 I2 hex t2 pT2 λh3 I3 t3=>?_)
  have x3:=Ql t3
  have I4:=b92 (φ:=mG a C) I3 pa (x3.imp λo z=>z.1) x3 (λg g' z k=>cc8 g g' z k)
  refine Bz I4 hN hi (.inl hl) (v:=.ref a) rfl (λs5 I5=>?_) (.inr hl)
  refine wpAny_mono (hsu _ _ pins s5 _ _ { nx:=λjR H2=>D.nx (jR.set i none) H2,rt:=λ_ _=>False } (Qk (A:=X.A.mark (some (.ref a))) I5 rfl _) ⟨B,F',ah.set i (some (exc C)),_,?_,hth,λaV jR F2 H2 hn c2=>k1 _ _ F2 H2 hn (c2.unset i),λ_ _ _ _ _ _ z=>z.elim,λ_ _ _ _ z=>z.elim,λ_ _ _ _ z=>z.elim,XL.none (λ_ _ z=>z) λ_ _ z=>z⟩) (λf s6 hS=>?_) λ_ _ z=>z
  ·exact((c1.grow (af.upd pa.free)).pushS (d:=exc C) (v:=.ref a) (.bD bH .nil) rfl).store i
  ·cases f with
   | next =>
    obtain⟨BK,H6,I6,q6⟩:=hS
    exact b59 (b99 I.ok I6) hN hi hl λs7 I7=>⟨_,H6,I7,q6⟩
   | brk=>obtain⟨_,_,_,z⟩:=hS;exact z.elim
   | cont=>obtain⟨_,_,_,z⟩:=hS;exact z.elim
   | ret u=>obtain⟨_,_,_,_,_,z⟩:=hS;exact z.elim
end
end L3
namespace L3
open PySem L2 PySem.Spec PyProof.Rows
def Ho:V->Option Value
 | .ref a=>some (.ref a)
 | .ty n=>some (.type n)
 | _=>none
theorem cp6{c:V}{u cv:Value}(h:Ho c=some cv)(r:RelV c u):u=cv:=by
 cases c<;>cases h<;>exact r
inductive Cu(K:PySem.W.Frag)(H:Hp):V->Value->Prop where
 | ty {v:V} {t:Value} (h:iy K H v t):Cu K H v t
 | exc {a C:Addr} (e:H a=some (.ext (mG a C))) (x:rD K C):Cu K H (.ref a) (.ref C)
def cT2(K:PySem.W.Frag):List V->Hp->VK->Prop:=λxs H Q=>∃x c cv t b,xs=[x,c]/\Ho c=some cv/\Cu K H x t/\PySem.W.kitOne K t cv=some b/\Q (.bl b) H
section
variable{X:Cx}{F H:Hp}{v:V}{a:Expr}{ta:aN}{p pos:Pos}
theorem Qn:gz X (.builtin "isinstance") (cT2 X.K):=by
 intro pins s σ H xs us Q I r h
 obtain⟨x,c,cv,t,b,rfl,hv,ty,e,q⟩:=h
 obtain⟨u,v,rfl,ru,rv⟩:=r.two
 cases cp6 hv rv
 cases ty with
 | ty ty=>exact Oe I ru ty e λtk=>⟨.bl b,H,I.tok _,rfl,q⟩
 | @exc a C ea x =>
  cases(show u=cB a from ru)
  obtain⟨xa,_,_⟩:=(show eK X.prog X.w H s.heap a (.ext (mG a C)) from I.aH a _ ea)
  exact PySem.W.kia_one (cd0 x) I.cY xa e (λz=>nomatch z) λtk=>⟨.bl b,H,I.tok _,rfl,q⟩
def Hq(K:PySem.W.Frag)(cv:Value)(d:D)(r:Bool):Prop:=match d with
 | .bD φ=>∃C,(φ=.ext λa=>mG a C)/\rD K C/\PySem.W.kitOne K (.ref C) cv=some r
 | d=>∃k,Cm d=some k/\PySem.W.kitOne K (.type k) cv=some r
theorem cD2{K:PySem.W.Frag}{cv:Value}{d:D}{r:Bool}(s:S F H [d] [v])(e:af F H)(h:Hq K cv d r):∃t,Cu K H v t/\PySem.W.kitOne K t cv=some r:=by
 cases s with
 | bD h' _=>obtain⟨C,rfl,x,k⟩:=h;exact⟨_,.exc h' x,k⟩
 | int z=>obtain⟨k,hk,h⟩:=h;exact⟨_,.ty (nS (.int .nil) e hk),h⟩
 | bl z=>obtain⟨k,hk,h⟩:=h;exact⟨_,.ty (nS (.bl .nil) e hk),h⟩
 | au z=>obtain⟨k,hk,h⟩:=h;exact⟨_,.ty (nS (.au .nil) e hk),h⟩
 | str z=>obtain⟨k,hk,h⟩:=h;exact⟨_,.ty (nS (.str .nil) e hk),h⟩
 | shr h' q z=>obtain⟨k,hk,h⟩:=h;exact⟨_,.ty (nS (.shr h' q .nil) e hk),h⟩
 | own h' q z=>obtain⟨k,hk,h⟩:=h;exact⟨_,.ty (nS (.own h' q .nil) e hk),h⟩
 | fz h' q z=>obtain⟨k,hk,h⟩:=h;exact⟨_,.ty (nS (.fz h' q .nil) e hk),h⟩
 | tup h' q z=>obtain⟨k,hk,h⟩:=h;exact⟨_,.ty (nS (.tup h' q .nil) e hk),h⟩
 | obj _ _ _ _=>obtain⟨k,hk,h⟩:=h;cases hk
def pW(K:PySem.W.Frag)(cv:Value)(t:aN):aN:=λδ Q=>t δ λd ah=>∃r,Hq K cv d r/\Q (.bl r) ah
theorem Qo{y:Str}{q:Pos}{c:V}{cv:Value}(hg:Gl X "isinstance")(hm:X.mg "isinstance"=none)(hc:PE X (.Name y q) (tC c))(hcv:Ho c=some cv)(ha:PE X a (lB ta))
  (hs:starEach [a,.Name y q] X.env=(false,eval a X.env)::starEach [.Name y q] X.env) (eI:starEach [.Name y q] X.env=(false,eval (.Name y q) X.env)::starEach [] X.env) (bu:(backTo pos (starEach [.Name y q] X.env)).any (·.1)=false) :
  PE X (.Call (.Name "isinstance" p) [a,.Name y q] [] pos) (lE (pW X.K cv ta)) :=
 dv (yd Qn hg hm Gv (bV ha (bV hc fg eI) hs) (by decide) (by decide) hs bu) λσ H Q zq=>by
 obtain⟨B,F,δ,ts,Qd,c,q,k⟩:=zq
 exact⟨B,F,δ,ts,_,c,q,λd ak v F1 H1 q1 f1 h1 c1 s1=>by
  obtain⟨r,e,qr⟩:=q1
  obtain⟨t,h2,h3⟩:=cD2 (K:=X.K) s1 c1.ext e
  exact⟨v,_,_,t,r,rfl,hcv,h2,h3,k _ ak _ F1 H1 qr f1 h1 (c1.pushS (.bl .nil) rfl)⟩⟩
theorem Cv{y:Str}{q:Pos}{C:Addr}(hg:Gl X "isinstance")(hm:X.mg "isinstance"=none)(sk:Gl X y)(mO:X.mg y=some (.ref C))(ha:PE X a (lB ta))(hd:(y==("__debug__":Str))=false:=by decide)
  (hs:starEach [a,.Name y q] X.env=(false,eval a X.env)::starEach [.Name y q] X.env:=by rfl) (eI:starEach [.Name y q] X.env=(false,eval (.Name y q) X.env)::starEach [] X.env:=by rfl) (bu:(backTo pos (starEach [.Name y q] X.env)).any (·.1)=false:=by rfl) :
  PE X (.Call (.Name "isinstance" p) [a,.Name y q] [] pos) (lE (pW X.K (.ref C) ta)) :=
 Qo hg hm (NX (v:=.ref C) sk mO rfl hd) rfl ha hs eI bu
theorem cH8{n:String}{y:Str}{q:Pos}(hg:Gl X "isinstance")(hm:X.mg "isinstance"=none)(sk:Gl X y)(mO:X.mg y=none)(Hf:bootBuiltins y=some (.type n))(ha:PE X a (lB ta))
  (hn:y≠"__name__":=by decide) (hd:(y==("__debug__":Str))=false:=by decide)
  (hs:starEach [a,.Name y q] X.env=(false,eval a X.env)::starEach [.Name y q] X.env:=by rfl) (eI:starEach [.Name y q] X.env=(false,eval (.Name y q) X.env)::starEach [] X.env:=by rfl) (bu:(backTo pos (starEach [.Name y q] X.env)).any (·.1)=false:=by rfl) :
  PE X (.Call (.Name "isinstance" p) [a,.Name y q] [] pos) (lE (pW X.K (.type n) ta)) :=
 Qo hg hm (O5 sk mO Hf hn hd) rfl ha hs eI bu
end
section
variable{K:PySem.W.Frag}{mg:Str->Option Value}{x:Str}{C:Addr}
theorem Hr(hm:mg x=some (.ref C))(q:PySem.W.excIn K C [.type "ValueError",.type "Exception",.type "BaseException",.type "object"] "ValueError.__new__"=true):zc K mg x C:=by
 refine⟨λh X G=>⟨"ValueError.__new__","ValueError",_,_,"ValueError",_,_,[.type "ValueError",.type "Exception",.type "BaseException",.type "object"],?_,PySem.F.excBase_ValueError,rfl,PySem.F.excBase_ValueError⟩⟩
 refine⟨hm,?_⟩
 unfold PySem.W.excIn at q
 split at q
 ·rename_i dd cd sl ho
  split at q
  ·rename_i C' bm k0 k1 k2 k3 n k5 hm hs
   simp only[eT,beq_iff_eq,Bool.not_eq_true']at q
   obtain⟨⟨⟨⟨⟨rfl,rfl⟩,Qp⟩,ht⟩,aH⟩,mR⟩:=q
   obtain⟨nm,bs,mro,ns,qn,hd,sn,sub,ab,col,del⟩:=cd
   dsimp only at hm Qp aH mR
   subst hm Qp
   have hsl:sl=#[k0,k1,k2,k3,some (.builtin "ValueError.__new__"),k5]:=by
    obtain⟨l⟩:=sl
    simp only at hs
    rw[hs]
   subst hsl
   exact⟨bm,ns,nm,qn,bs,hd,sn,sub,ab,col,dd,k0,k1,k2,k3,k5,_,X _ _ ho,.of_isNs (PySem.W.isNs_of_in X aH),PySem.W.nsMap_none_of_in X aH mR,PySem.W.tail_of_in X ht⟩
  ·cases q
 ·cases q
open PySem.W in
theorem Hs{c:Value}:kitOne K c c=some true:=by
 unfold kitOne
 rw[if_pos (by simp)]
open PySem.W in
theorem mS{t:Value}{b:Bool}(jW:(t==.ref C)=false)(h1:(clsIn K C).isSome=true)(h2:typeIn K (.ref C)=some (.type "type"))(h3:subIn K t (.ref C)=some b):kitOne K t (.ref C)=some b:=by
 unfold kitOne kitCls
 rw[jW]
 simp only[oR,if_false]
 rw[h1,h2,if_pos (by rfl),h3]
open PySem.W in
theorem Ht{t:Value}{n:String}{b:Bool}(jW:(t==.type n)=false)(h1:kitMeta n=true)(h3:subIn K t (.type n)=some b):kitOne K t (.type n)=some b:=by
 unfold kitOne kitCls
 rw[jW]
 simp only[oR,if_false]
 rw[if_pos h1,h3]
open PySem.W in
theorem Hu{t:Value}{b:Bool}(h1:(clsIn K C).isSome=true)(h2:typeIn K (.ref C)=some (.type "type"))(h0:subIn K (.ref C) (.type "BaseException")=some true)(h3:subIn K t (.ref C)=some b):exmOne K t (.ref C)=some b:=by
 unfold exmOne kitCls
 rw[h0,if_pos (by rfl)]
 simp only
 rw[h1,h2,if_pos (by rfl),h3]
end
theorem Cw{P:Program}{w:World}{X:Cx}:jT (jU P w) X E0:=by
 rintro _ _ _ _ _ _ _ ⟨_,_,_,_,_,_,_,_,_,_,_,_,_,_,z⟩
 exact z.elim
theorem Cy{P:Program}{w:World}{K:PySem.W.Frag}{mg:Str->Option Value}{base:Heap}{k:Nat}{f:Addr}{fd:FuncData}{ps:List Str}{sp:lH}(h:aI P w K mg base (jU P w) k f fd ps (mQ sp)) :
  aI P w K mg base (jU P w) k f fd ps (bf λds Q=>sp ds Q λ_=>False) :=
 h.imp λvs H Q E zq=>by
 obtain⟨F,ds,Qd,e,r,q,k⟩:=zq
 exact⟨F,ds,Qd,_,e,r,q,k,λ_ _ z=>z.elim⟩
end L3
namespace L3
open PySem L2 PySem.Spec PyProof.Rows
theorem kG{CX:eU}{P:Program}{w:World}{K:PySem.W.Frag}{mg:Str->Option Value}{base:Heap}{N:List Str}{q:Str}{sc:Scope}{f:Addr}{aC:Value}{A:Around}{outer:List Env}{s:Shared}{H:Hp}{E:XK}:(i5 CX P w K mg base N q sc f aC A outer s H E).K=K:=rfl
theorem pX{K:PySem.W.Frag}{cv:Value}{C:Addr}{r:Bool}(x:rD K C)(h:PySem.W.kitOne K (.ref C) cv=some r):Hq K cv (exc C) r:=⟨C,rfl,x,h⟩
theorem ze(φ:uQ):(D.bD φ).pl=true:=rfl
theorem zf(φ:uQ):(D.bD φ).sh=.bD φ:=rfl
end L3
namespace L3
open PySem L2 PySem.Spec PyProof.Rows
theorem kH{X:Cx}:X.gy.K=X.K:=rfl
end L3
namespace L3
open PySem L2 PySem.Spec PyProof.Rows
def fm(xs ys:List D):List D:=dr (λx y=>D.tup [x,y]) xs ys
def gb(xs:List D):List D:=xs.mapIdx λi x=>D.tup [.int i,x]
theorem Qq(xs ys:List D):(fm xs ys).map D.sh=fm (xs.map D.sh) (ys.map D.sh):=by
 unfold fm
 rw[Fj,Fl]
 congr 1
theorem ct7{xs ys:List D}(h1:xs.all D.pl=true)(h2:ys.all D.pl=true):(fm xs ys).all D.pl=true:=by
 unfold fm
 rw[dj]at h1 h2 ⊢
 intro d hd
 obtain⟨i,hi,e⟩:=kq hd
 rw[List.getElem_zipWith]at e
 subst e
 rw[kY]
 simp only[dA,uj,ni,eT]
 exact⟨h1 _ (eG _),h2 _ (eG _)⟩
theorem ce2(xs:List D):(gb xs).map D.sh=gb (xs.map D.sh):=by
 unfold gb
 apply Nu
 intro i
 simp only[cM,Bc,Option.map_map]
 cases xs[i]? with
 | none=>rfl
 | some x =>
  show some (D.sh (.tup [.int i,x]))=some (D.tup [.int i,x.sh])
  rw[mH];rfl
theorem ca7{xs:List D}(h1:xs.all D.pl=true):(gb xs).all D.pl=true:=by
 unfold gb
 rw[dj]at h1 ⊢
 intro d hd
 obtain⟨i,hi,e⟩:=kq hd
 rw[List.getElem_mapIdx]at e
 subst e
 rw[kY]
 simp only[dA,uj,ni,eT]
 exact⟨rfl,h1 _ (eG _)⟩
theorem sD(xs:List D):(gb xs).length=xs.length:=by simp[gb]
theorem Hv(xs ys:List D):(fm xs ys).length=min xs.length ys.length:=by simp[fm]
section
variable{F H:Hp}{d:D}{v:V}{xs ys:List D}{ws us:List V}{p q:Addr}{K:PySem.W.Frag}
theorem Hw(s:S F H [d] [v])(e2:af F H)(e:kD d=some xs):∃p ws,v=.ref p/\Rd H p (.lst ws)/\R H H (xs.map D.sh) ws []/\(d.pl=true->xs.all D.pl=true/\Rd F p (.lst ws)/\R F H xs ws []):=by
 cases s with
 | @shr p ws ys _ _ hp r _ =>
  obtain rfl:=dn e
  refine⟨p,ws,rfl,.inl (e2 _ _ hp),?_,λ_=>⟨r.pl,.inl hp,r⟩⟩
  rw[k7 r.pl]
  exact r.shared e2 (af.refl _)
 | @own p ws ys _ _ hp r _ =>
  obtain rfl:=dn e
  exact⟨p,ws,rfl,.inl hp,r.frozen e2,λz=>by simp[fV]at z⟩
 | @fz p o ws ys _ _ hp r _ =>
  obtain rfl:=dn e
  refine⟨p,ws,rfl,.inr ⟨o,e2 _ _ hp⟩,?_,λ_=>⟨r.pl,.inr ⟨o,hp⟩,r⟩⟩
  rw[k7 r.pl]
  exact r.shared e2 (af.refl _)
 | au _=>cases e
 | bl _=>cases e
 | int _=>cases e
 | str _=>cases e
 | tup _ _ _=>cases e
 | obj _ _ _ _=>cases e
 | bD _ _=>cases e
theorem Hx(r:R F H xs ws []){i:Nat}(hi:i<xs.length){x:V}(hx:ws[i]?=some x):R F H [xs[i]] [x] []:=by
 obtain⟨v,A1,e2,r1,sub⟩:=r.get (aR hi)
 rw[hx]at e2;cases e2
 have:A1=[]:=YH.mpr λa ha=>by simpa using sub ha
 subst this
 exact r1
theorem Qr(hp:Rd F p (.lst ws))(r:R F H xs ws [])(hq:Rd F q (.lst us))(t:R F H ys us [])(hF:Full F H):JD (GH K p q) F (fm xs ys) where
 go:=λi H' hs hi=>by
  rw[Hv]at hi
  have l1:=r.length
  have l2:=t.length
  exact⟨ws,us,_,_,.inl (i7 hp hs),.inl (i7 hq hs),aR (show i<ws.length by omega),aR (show i<us.length by omega)⟩
 ky:=λi H' v H2 hs hi zz=>by
  obtain⟨T,x,y,e1,e2,e3,hx,hy⟩:=zz
  subst e1 e3
  have zi:=hi
  rw[Hv]at zi
  have h1:=Hx (r.full hF hs rfl) (show i<xs.length by omega) (hx ws (.inl (i7 hp hs)))
  have h2:=Hx (t.full hF hs rfl) (show i<ys.length by omega) (hy us (.inl (i7 hq hs)))
  have sm:=af.upd (o:=.tup [x,y]) e2
  refine⟨_,aR hi,sm,?_⟩
  have eg:(fm xs ys)[i]=.tup [xs[i]'(by omega),ys[i]'(by omega)]:=by simp[fm]
  rw[eg]
  exact R.tup (A:=[]) (B:=[]) bH ((h1.shared (af.refl _) sm).cons (h2.shared (af.refl _) sm)) .nil
 stop:=λi H' hs hi=>by
  rw[Hv]at hi
  have l1:=r.length
  have l2:=t.length
  exact⟨ws,us,.inl (i7 hp hs),.inl (i7 hq hs),by omega⟩
theorem Qs(hp:Rd F p (.lst ws))(r:R F H xs ws [])(hF:Full F H):JD (GO K p) F (gb xs) where
 go:=λi H' hs hi=>by
  rw[sD]at hi
  have l1:=r.length
  exact⟨ws,_,.inl (i7 hp hs),aR (show i<ws.length by omega)⟩
 ky:=λi H' v H2 hs hi zz=>by
  obtain⟨T,x,e1,e2,e3,hx⟩:=zz
  subst e1 e3
  have zi:=hi
  rw[sD]at zi
  have h1:=Hx (r.full hF hs rfl) zi (hx ws (.inl (i7 hp hs)))
  have sm:=af.upd (o:=.tup [.int i,x]) e2
  refine⟨_,aR hi,sm,?_⟩
  have eg:(gb xs)[i]=.tup [.int i,xs[i]]:=by simp[gb]
  rw[eg]
  exact R.tup (A:=[]) (B:=[]) bH (.int (h1.shared (af.refl _) sm)) .nil
 stop:=λi H' hs hi=>by
  rw[sD]at hi
  have l1:=r.length
  exact⟨ws,.inl (i7 hp hs),by omega⟩
end
section
variable{X:Cx}{a b:Expr}{ta:cF}{p pos rn:Pos}{elts:List Expr}{x1:Nat}
def v9(t:cF):ju:=λδ Q=>t δ λds ah=>match ds with
 | [d1,d2]=>∃xs ys,kD d1=some xs/\kD d2=some ys/\Q (d1.pl&&d2.pl) (fm xs ys) ah
 | _=>False
theorem wa(hg:Gl X "zip")(hm:X.mg "zip"=none)(ha:PA X [a,b] (lA ta))(hs:starEach [a,b] X.env=[(false,eval a X.env),(false,eval b X.env)]:=by rfl)(eI:starEach [b] X.env=[(false,eval b X.env)]:=by rfl) :
  PI X (.Tuple elts x1 rn) (.Call (.Name "zip" p) [a,b] [] pos) (lI (v9 ta)) :=
 vd (cB5 hg hm ha hs eI) λσ H Q zq=>by
 obtain⟨B,F,δ,ts,Qd,c,q,k⟩:=zq
 exact⟨B,F,δ,ts,_,c,q,λds ak vs F1 H1 hd f1 h1 c1 s=>by
  match ds,hd,s with
  | [d1,d2],⟨xs,ys,i1,i2,hq⟩,s =>
   obtain⟨v1,bW,rfl,s1,s2⟩:=s.dh
   obtain⟨v2,eq7,rfl,s2,s3⟩:=s2.dh
   cases s3
   have e2:=c1.ext
   have sn:=rG e2
   obtain⟨p1,w1,rfl,r1,t1,u1⟩:=Hw s1 e2 i1
   obtain⟨p2,w2,rfl,r2,t2,u2⟩:=Hw s2 e2 i2
   refine⟨p1,p2,rfl,⟨w1,.inl r1⟩,⟨w2,.inl r2⟩,k _ _ ak _ _ H1 hq (f1.trans sn) h1 c1.snap ?_ λz=>?_⟩
   ·rw[Qq]
    exact Qr r1 t1 r2 t2 (Full.refl _)
   ·rw[eT]at z
    obtain⟨a1,a2,a3⟩:=u1 z.1
    obtain⟨b1,b2,b3⟩:=u2 z.2
    exact⟨ct7 a1 b1,Qr (i7 a2 sn) (a3.shared sn (af.refl _)) (i7 b2 sn) (b3.shared sn (af.refl _)) uR⟩⟩
def wb(t:cF):ju:=λδ Q=>t δ λds ah=>match ds with
 | [d1]=>∃xs,kD d1=some xs/\Q d1.pl (gb xs) ah
 | _=>False
theorem sE(hg:Gl X "enumerate")(hm:X.mg "enumerate"=none)(ha:PA X [a] (lA ta))(hs:starEach [a] X.env=[(false,eval a X.env)]:=by rfl) :
  PI X (.Tuple elts x1 rn) (.Call (.Name "enumerate" p) [a] [] pos) (lI (wb ta)) :=
 vd (cv3 hg hm ha hs) λσ H Q zq=>by
 obtain⟨B,F,δ,ts,Qd,c,q,k⟩:=zq
 exact⟨B,F,δ,ts,_,c,q,λds ak vs F1 H1 hd f1 h1 c1 s=>by
  match ds,hd,s with
  | [d1],⟨xs,i1,hq⟩,s =>
   obtain⟨v1,bW,rfl,s1,s2⟩:=s.dh
   cases s2
   have e2:=c1.ext
   have sn:=rG e2
   obtain⟨p1,w1,rfl,r1,t1,u1⟩:=Hw s1 e2 i1
   refine⟨p1,rfl,⟨w1,.inl r1⟩,k _ _ ak _ _ H1 hq (f1.trans sn) h1 c1.snap ?_ λz=>?_⟩
   ·rw[ce2]
    exact Qs r1 t1 (Full.refl _)
   ·obtain⟨a1,a2,a3⟩:=u1 z
    exact⟨ca7 a1,Qs (i7 a2 sn) (a3.shared sn (af.refl _)) uR⟩⟩
end
end L3
namespace L3
open PySem L2 PySem.Spec PyProof.Rows
section
variable{X:Cx}{F H:Hp}{e b:Expr}{pos p p2 p3 pr apos cE Hi:Pos}{t ti te:aN}{x y:Str}{i j:Nat}
theorem Hy{α:Type}{xs:List α}{k:Nat}{v:α}(h:xs[k]?=some v):fh xs (k:Int)=some v:=by
 unfold fh i6
 have hk:k<xs.length:=(ki.mp h).1
 rw[if_pos (by omega),if_pos (by omega)]
 exact h
end
section
variable{X:Cx}{CX:eU}{k:Nat}{f:Addr}{fd:FuncData}{ps:List Str}{sp:bc}{E:XK}{fn x1 x2 y1 y2:Str}{i1 i2 j1 j2:Nat}{tk:Nat}
 {tp t1 t2 zp eq8 q1 q2 fp eq9 a1 a2 dh9 er0 er1 cp Hi pr apos cE er2 pos:Pos}
end
end L3
namespace L3
open PySem L2 PySem.Spec PyProof.Rows
theorem ao.di0{B:Bs}{F H:Hp}{σ:L2.St}{δ:Dl}{ts:List (D × V)}{a b:D}{v:V}(c:ao B F H σ δ ((.tup [a,b],v)::ts)):∃p u w,v=.ref p/\H p=some (.tup [u,w])/\ao B F H σ δ ((a,u)::(b,w)::ts):=by
 obtain⟨A,C,r,s,nd,fr⟩:=c.own
 cases r with
 | @tup p ws xs A1 _ _ B1 hp r1 r2 =>
  obtain⟨u,gR,A2,A3,rfl,rfl,h1,h2⟩:=r1.dh
  obtain⟨w,er3,A4,A5,rfl,rfl,h3,h4⟩:=h2.dh
  cases h4
  refine⟨p,u,w,rfl,hp,c.ext,c.b1,c.b2,c.b3,A2++(A4++B1),C,h1.cons (h3.cons r2),s,?_,?_⟩
  ·simpa using nd
  ·intro a ha;exact fr a (by simpa using ha)
section
variable{X:Cx}{y1 y2:Str}{i1 i2 tk m:Nat}{t1 t2 tp:Pos}
def jz(i1 i2:Nat):iK:=λd δ Q=>match d with
 | .tup [a,b]=>Q ((δ.set i1 (some a)).set i2 (some b))
 | _=>False
theorem nZ(hc:X.calm=true)(Cz:X.N.Nodup)(m1:X.N[i1]?=some y1)(l1:Loc X.env.scope y1)(m2:X.N[i2]?=some y2)(l2:Loc X.env.scope y2)(Qt:m<=i1:=by decide)(mO:m<=i2:=by decide)
  (f1:X.fn y1=true\/X.env.scope.names.lookup y1=some .local:=by first | exact .inl rfl | exact .inr rfl | assumption) (f2:X.fn y2=true\/X.env.scope.names.lookup y2=some .local:=by first | exact .inl rfl | exact .inr rfl | assumption)
  (Hz:(assignEach [.Name y1 t1,.Name y2 t2] X.env).map (·.2)=assign (.Name y1 t1) X.env::(assignEach [.Name y2 t2] X.env).map (·.2):=by rfl) (HA:(assignEach [.Name y2 t2] X.env).map (·.2)=assign (.Name y2 t2) X.env::(assignEach [] X.env).map (·.2):=by rfl)
  (hn:(assignEach [.Name y1 t1,.Name y2 t2] X.env).length=2:=by rfl) (cw:(assignEach [.Name y1 t1,.Name y2 t2] X.env).findIdx? (·.1)=none:=by rfl) :
  PG X (.Tuple [.Name y1 t1,.Name y2 t2] tk tp) (lG m (jz i1 i2)) :=
 Pt (ZJ hc (N2 (BH Cz m1 l1 f1) (N2 (BH Cz m2 l2 f2) ZH HA) Hz) hn cw) λv σ H Q zz=>by
  obtain⟨B,F,δ,ts,d,Qd,c,q,k⟩:=zz
  obtain⟨a,b,rfl,q⟩:∃a b,d=D.tup [a,b]/\Qd ((δ.set i1 (some a)).set i2 (some b)):=by
   unfold jz at q
   split at q
   ·exact⟨_,_,rfl,q⟩
   ·exact q.elim
  obtain⟨p,u,w,rfl,hp,c2⟩:=c.di0
  refine⟨p,[u,w],rfl,iu.of hp,rfl,u,[w],rfl,w,[],rfl,rfl,k _ _ q (by simp) (λj hj=>?_) ((c2.store i1).store i2)⟩
  rw[qI (by omega),qI (by omega)]
end
open Classical in
theorem eV{α:Type}{sh:Bool}{xs:List D}{aD:List (Str × Nat)}{n m:Nat}{te:aN}{ak:Dl}{Q:D->Dl->Prop}(l:List α)(e g:α->D)(jA:xs.map D.sh=l.map e)(inj:∀a b,e a=e b->a=b)
  (hx:∀a∈l,te ((gC aD n ak).set m (some (e a))) λd _=>d=g a) (eJ:(sh&&aD.all (jw ak))=true\/∀a∈l,(g a).fr=true) (hl:l.length<=sizeLine) (hq:Q (.lst true (l.map g)) ak):vk sh xs aD n (gN m) mI te ak Q:=by
 let f:D->D:=λx=>if h:∃a∈l,e a=x then g h.choose else .au
 have hf:∀a∈l,f (e a)=g a:=λa ha=>by
  have h:∃b∈l,e b=e a:=⟨a,ha,rfl⟩
  show(if h:∃b∈l,e b=e a then g h.choose else .au)=g a
  rw[dif_pos h]
  exact congrArg g (inj _ _ h.choose_spec.2)
 refine cf1 f (λx h=>?_) (eJ.imp id λh x hx=>?_) ?_ ?_
 ·rw[jA]at h
  obtain⟨a,ha,rfl⟩:=bB.mp h
  rw[hf a ha];exact hx a ha
 ·rw[jA]at hx
  obtain⟨a,ha,rfl⟩:=bB.mp hx
  rw[hf a ha];exact h a ha
 ·have:=congrArg EZ jA
  simp at this
  omega
 ·rw[jA,cu,show l.map (f ∘ e)=l.map g from qR λa ha=>hf a ha]
  exact hq
end L3
namespace L3
open PySem L2 PySem.Spec PyProof.Rows
end L3
namespace L2
open PySem PySem.Spec PyProof.Rows
section
variable{X:Cx}
end
end L2
namespace L3
open PySem L2 PySem.Spec PyProof.Rows
abbrev tx(l:List Nat):D:=.str ⟨l.toArray⟩
section
variable{X:Cx}{F H:Hp}{e:Expr}{es:List Expr}{t:aN}{pos p p2 apos cE:Pos}
def sF(x:D)(lo hi:Option Int)(Q:D->Prop):Prop:=match x with
 | .lst _ xs=>xs.all D.pl=true/\Q (.lst true (fZ xs lo hi))
 | .fz xs=>Q (.lst true (fZ xs lo hi))
 | .str z=>z.length<=sizeLine/\Q (tx (fZ z.cps.toList lo hi))
 | _=>False
def wc(t:aN)(tl th:vM):aN:=λδ Q=>t δ λx ak=>tl ak λl aV=>th aV λu i8=>sF x l u λd=>Q d i8
theorem zj{lo hi:Option Expr}{tl th:vM}(he:PE X e (lB t))(hl:PO X lo (lP tl))(hu:PO X hi (lP th)):PE X (.Subscript e (.Slice lo hi none p2) pos) (lE (wc t tl th)) :=
 dv (cf7 (cY3.or cH9) he hl hu) λσ H Q zq=>by
 obtain⟨B,F,δ,ts,Qd,c,q,k⟩:=zq
 exact⟨B,F,δ,ts,_,c,q,λx ak v F1 H1 q1 f1 h1 c1 s1=>⟨B,F1,ak,ts,_,c1,q1,λl aV F2 H2 q2 f2 h2 c2=>⟨B,F2,aV,ts,_,c2,q2,λu i8 F3 H3 q3 f3 h3 c3=>by
  have nU:=s1.mono (f2.trans f3) (h2.trans h3)
  unfold sF at q3
  split at q3
  ·obtain⟨p,ws,rfl,h,t⟩:=mK nU c3.ext rfl
   exact .inl ⟨p,ws,rfl,lC h,λr hr=>k _ i8 _ F3 _ q3.2 ((f1.trans f2).trans f3) (((h1.trans h2).trans h3).trans (af.upd hr)) (c3.pH hr (t.cut _ _) (P4 q3.1 _ _))⟩
  ·obtain⟨p,ws,rfl,h,t⟩:=mK nU c3.ext rfl
   cases nU with
   | fz h' r _=>exact .inl ⟨_,_,rfl,lC (.inr ⟨_,c3.ext _ _ h'⟩),λr' hr=>k _ i8 _ F3 _ q3 ((f1.trans f2).trans f3) (((h1.trans h2).trans h3).trans (af.upd hr)) (c3.pH hr (r.s.cut _ _) (P4 r.pl _ _))⟩
  ·cases nU with
   | str _=>exact .inr ⟨_,rfl,q3.1,k _ i8 _ F3 H3 q3.2 ((f1.trans f2).trans f3) ((h1.trans h2).trans h3) (c3.pushS (.str .nil) rfl)⟩
  ·exact q3.elim⟩⟩⟩
def zk:cS:=λx y Q=>match x,y with
 | .str z,.int n=>(-(2 ^ 63)<=n/\n<2 ^ 62/\z.length*n.toNat<=sizeLine)/\Q (tx (aU n.toNat z.cps.toList).flatten)
 | _,_=>False
def sG:jy:=λds Q=>match ds with
 | [.int i]=>i.natAbs.log2<1920/\Q (.str (toString i))
 | _=>False
theorem Qu:gE X (.type "str") sG:=gE.of χ λvs H Q zz=>by
 obtain⟨B,F,σ,δ,ts,ds,Qd,c,s,q,k⟩:=zz
 unfold sG at q
 split at q
 ·obtain⟨v,rfl,s1⟩:=kE s
  cases s1
  exact⟨_,rfl,q.1,k _ _ _ q.2 (af.refl _) (c.pushS (.str .nil) rfl)⟩
 ·exact q.elim
end
theorem zo(a:List Nat):(⟨a.toArray⟩:Str).length=a.length:=by show a.toArray.size=_;simp
end L3
namespace L3
open PySem L2 PySem.Spec PyProof.Rows
def av(l:List Nat):List D:=aG (l.map λ(n:Nat)=>(n:Int))
theorem fw(l:List Nat):(av l).length=l.length:=by unfold av;rw[lF,br]
theorem cT(l:List Nat):av l=l.map λ(n:Nat)=>D.int (n:Int):=by unfold av aG;rw[cu];rfl
theorem we(l:List Nat):(av l).map D.sh=l.map λ(n:Nat)=>D.int (n:Int):=by unfold av;rw[kF];exact cT l
theorem jB(a b:Nat)(h:D.int (a:Int)=D.int (b:Int)):a=b:=by injection h with h;omega
theorem n6(l:List Nat):(av l).all D.pl=true:=nX _
theorem sH(l:List Nat):(av l).map D.sh=av l:=kF _
theorem pY(a b:List Nat):av a++av b=av (a++b):=by unfold av;rw[sA,eH]
theorem zr(l:List Nat)(lo hi:Option Int):fZ (av l) lo hi=av (fZ l lo hi):=by
 unfold av
 rw[vU]
 congr 1
 unfold fZ
 rw[br,Nt,Nr]
theorem Qv{α:Type}(xs:List α)(b:Nat):fZ xs none (some (b:Int))=xs.take b:=by
 have:=cs2 xs 0 b
 unfold fZ at this ⊢
 simpa[HT.du]using this
theorem HB{α:Type}(xs:List α)(a:Nat):fZ xs (some (a:Int)) none=xs.drop a:=by
 unfold fZ
 rw[HT.FZ]
 show(xs.drop (min a xs.length)).take (xs.length-min a xs.length)=_
 by_cases h:a<=xs.length
 ·rw[Nat.min_eq_left h,A8 (by rw[kO];exact bM _)]
 ·rw[Nat.min_eq_right (by omega),List.drop_length,Nw (by omega)];simp
end L3
namespace L2
open PySem PySem.Spec PyProof.Rows
section
variable{X:Cx}{tg l o e:Expr}{tl to te:TE}{apos cE:Pos}
end
end L2
namespace L3
open PySem L2 PySem.Spec PyProof.Rows
section
variable{X:Cx}{F H:Hp}{tg l e:Expr}{te t tb:aN}{apos cE pos:Pos}
variable{o:Expr}
theorem Qw:∀{ns:List Int} {ws:List V},S F H (aG ns) ws->ws=ns.map V.int
 | [],_,s=>by cases s;rfl
 | n::ns,_,s=>by
  cases s with
  | int s=>rw[Qw s];rfl
end
end L3
namespace L3
open PySem L2 PySem.Spec PyProof.Rows
end L3
namespace L2
open PySem PySem.Spec PyProof.Rows
def Tb(ts:List Addr)(H:Hp):Prop:=∀P∈ts,∃ps,H P=some (.dG ps)
structure wg(ts:List Addr)(H:Hp):Prop where
 any:∀b,H b=none\/(∃o xs,H b=some (.bq o (.lst xs)))\/(b∈ts/\H b=some (.dG #[]))
 tab:∀P∈ts,H P=some (.dG #[])
theorem wg.tb{ts:List Addr}{H:Hp}(h:wg ts H):Tb ts H:=λP hP=>⟨#[],h.tab P hP⟩
def Bm(mg:Str->Option Value)(base:Heap):Prop:=∃bm o,mg "__builtins__"=some (.ref bm)/\bm≠builtinsNs/\bm≠mainGlobals/\base.get? bm=some o/\o.cls=.type "module"/\o.dict=some builtinsNs/\o.data=.plain
theorem bY5{P:Program}{w:World}{K:PySem.W.Frag}{mg mb:Str->Option Value}{CX:eU}{k:Nat}{fa a:Addr}{fd:FuncData}{x:Str}{sp:Sp}{bE:Shared}{vs:List Value}{ns:List Int}{ts:List Addr}
  (KX:K.In bE.heap) (CA:bE.heap.Ns mainGlobals mg) (hb:bE.heap.Ns builtinsNs mb) (hbb:∀x:Str,x≠"__name__"->mb x=bootBuiltins x) (di3:bE.heap.NoLimit) (hg:bE.gens=#[])
  (ht:∀P∈ts,bE.heap.get? P=some (PySem.W.tabObj #[])) (HC:∀P∈ts,isCodeTable bE.heap P) (hkt:∀P∈ts,K.lookup P=none)
  (ha:bE.heap.get? a=some { cls:=.type "list",data:=.seq vs.toArray }) (hi:IntsAre vs ns) (hl:ns.length<=sizeLine) (hr:bS k callerA)
  (zt:Bm mg bE.heap) (F:∀base:Heap,K.In base->base.Ns mainGlobals mg->Bm mg base->aI P w K mg base CX k fa fd [x] sp) (di5:∀(s:Shared) (u:Value),BindsTo s fd ⟨[u],[]⟩ [(x,u)])
  (iA:∀H:Hp,wg ts H->bQ K H a (ns.map V.int)->sp [.ref a] H (λv _=>v=.bl true) λ_ _ _=>False)
  (HD:∀H e s',CX [] H bE (λ_ _ _=>False) e s'->False) :
  codeAny (model P w) callerA (.call (.ref fa) ⟨[.ref a],[]⟩) (λr s'=>r=.ok (.ret (.bool true))/\OldK bE.heap s'.heap/\s'.os=bE.os/\AllBare s'.gens) bE:=by
 have rv:=OF hi
 have di6:=hi.length
 have nat:a ∉ ts:=λz=>by
  have:=ht a z
  rw[ha]at this
  cases this
 have core:∀H:Hp,wg ts H->bQ K H a (ns.map V.int)->cX P w H bE.heap->(∀b,H b≠none->b=a\/b∈ts)->(H a≠none->K.lookup a=none) ->
   codeAny (model P w) callerA (.call (.ref fa) ⟨[.ref a],[]⟩) (λr s'=>r=.ok (.ret (.bool true))/\OldK bE.heap s'.heap/\s'.os=bE.os/\AllBare s'.gens) bE:=by
  intro H hO hS aH hA hK
  have HE:∀{b:Addr} {o:Obj},bE.heap.get? b=some o->H b=none->(mq bE.heap H).get? b=some o:=λe n=>Y7 e n
  have yc:∀{b:Addr} {o:Obj} {es:Array DictEntry} {ep:Nat},bE.heap.get? b=some o->o.data=.dict es ep->H b=none:=λ{b o es ep} e d=>by
   cases q:H b with
   | none=>rfl
   | some u =>
    rcases hA b (by rw[q];simp)with e' | e'
    ·subst e'
     rw[ha]at e;cases e
     have d':Data.seq vs.toArray _=Data.dict es ep:=d
     cases d'
    ·rw[ht b e']at e;cases e
     have d':Data.fields #[]=Data.dict es ep:=d
     cases d'
  have CB:∀{b:Addr} {m:Str->Option Value},bE.heap.Ns b m->(mq bE.heap H).Ns b m:=λ{b m} ⟨o,es,ep,e,d,r⟩=>⟨o,es,ep,HE e (yc e d),d,r⟩
  have Qx:K.In (mq bE.heap H):=λb o e=>HE (KX b o e) (by
   cases q:H b with
   | none=>rfl
   | some u =>
    rcases hA b (by rw[q];simp)with e' | e'
    ·subst e'
     rw[hK (by rw[q];simp)]at e;cases e
    ·rw[hkt b e']at e;cases e)
  have hBm:Bm mg (mq bE.heap H):=by
   obtain⟨bm,o,b1,b2,b3,b4,b5,b6,b7⟩:=zt
   refine⟨bm,o,b1,b2,b3,HE b4 ?_,b5,b6,b7⟩
   cases q:H bm with
   | none=>rfl
   | some u =>
    rcases hA bm (by rw[q];simp)with e' | e'
    ·rw[e',ha]at b4;cases b4
     have d':Data.seq vs.toArray _=Data.plain:=b7
     cases d'
    ·rw[ht bm e']at b4;cases b4
     have d':Data.fields #[]=Data.plain:=b7
     cases d'
  have hM:Mod K mg (mq bE.heap H):=⟨Qx,CB CA,⟨mb,CB hb,hbb⟩,let⟨mc,h1,h2⟩:=di3;⟨mc,CB h1,h2⟩⟩
  have e0:jn P w K mg (mq bE.heap H) callerA [] bE H:=⟨rfl,hM,λb o e=>Y8 e,AU (Y6 _ _),trivial,λb hb=>absurd (show b∈([]:List Addr) from hb) (by simp),aH,.of_eq hg⟩
  refine codeAny_mono ((F _ Qx (CB CA) hBm).run callerA [] bE H ⟨[.ref a],[]⟩ [.ref a] [.ref a] _ _ hr e0 (di5 bE (.ref a)) (.cons rfl .nil) (iA H hO hS)) λr s' h=>?_
  cases r with
  | error e=>exact(HD H e s' h).elim
  | ok fl =>
   cases fl with
   | next=>exact fG h
   | brk=>exact fG h
   | cont=>exact fG h
   | ret u =>
    obtain⟨v,H',os,bare,un,Qy,r',q⟩:=h
    have q':v=.bl true:=q
    subst q'
    obtain rfl:u=EY true:=r'
    have each:∀b o,bE.heap.get? b=some o->asItWas bE.heap s'.heap b o/\∃o',s'.heap.get? b=some o':=λb o e=>by
     cases q:H b with
     | none =>
      have z:=un.keep b o e q (by intro z;exact absurd (show b∈([]:List Addr) from z) (by simp)) (by simp)
      exact⟨.inl z,o,z⟩
     | some u =>
      rcases hO.any b with z | ⟨ob,xs,z⟩ | ⟨j4,z⟩
      ·rw[q]at z;cases z
      ·have z2:=un.ir b ob _ z
       obtain⟨e1,_⟩:=aH b _ z
       obtain⟨e2,_⟩:=Qy b _ z2
       rw[e]at e1;cases e1
       exact⟨.inl e2,_,e2⟩
      ·obtain⟨more,z2⟩:=un.gM b _ z
       have e2:=(Qy b _ z2).1
       rw[ht b j4]at e;cases e
       exact⟨.inr (.inl ⟨HC b j4,rfl,#[],more,rfl,e2⟩),_,e2⟩
    exact⟨rfl,⟨λb o e=>(each b o e).1,λb o e=>(each b o e).2⟩,os,bare⟩
 have tok:∀(H:Hp) (b:Addr),b∈ts->eK P w H bE.heap b (.dG #[]):=λH b hb=>⟨ht b hb,trivial,λpos cv q=>by cases q⟩
 cases hk:K.lookup a with
 | some o =>
  have e:=KX a o hk
  rw[ha]at e
  cases e
  refine core (λb=>if b∈ts then some (.dG #[])else none) ⟨λb=>?_,λb hb=>if_pos hb⟩ (.inr ⟨_,vs.toArray,_,hk,rfl,rfl,rfl,by rw[eD,di6];exact hl,by simpa using rv⟩) (λb u z=>?_) (λb z=>?_) λz=>absurd (if_neg nat) z
  ·by_cases hb:b∈ts
   ·exact .inr (.inr ⟨hb,if_pos hb⟩)
   ·exact .inl (if_neg hb)
  ·by_cases hb:b∈ts
   ·have z':=(if_pos hb).symm.trans z
    cases z'
    exact tok _ b hb
   ·have z':=(if_neg hb).symm.trans z
    cases z'
  ·by_cases hb:b∈ts
   ·exact .inr hb
   ·exact absurd (if_neg hb) z
 | none =>
  refine core (λb=>if b=a then some (.bq { cls:=.type "list",data:=.seq vs.toArray } (.lst (ns.map V.int)))else if b∈ts then some (.dG #[])else none) ⟨λb=>?_,λb hb=>?_⟩ (.inl (.inr ⟨{ cls:=.type "list",data:=.seq vs.toArray },if_pos rfl⟩)) (λb u z=>?_) (λb z=>?_) λ_=>hk
  ·by_cases hb:b=a
   ·exact .inr (.inl ⟨_,_,if_pos hb⟩)
   ·by_cases j4:b∈ts
    ·exact .inr (.inr ⟨j4,(if_neg hb).trans (if_pos j4)⟩)
    ·exact .inl ((if_neg hb).trans (if_neg j4))
  ·have jW:b≠a:=λz=>nat (z ▸ hb)
   exact(if_neg jW).trans (if_pos hb)
  ·by_cases hb:b=a
   ·have z':=(if_pos hb).symm.trans z
    cases z'
    subst hb
    exact⟨ha,by rw[br];exact hl,vs,_,rv,ha⟩
   ·by_cases j4:b∈ts
    ·have z':=((if_neg hb).trans (if_pos j4)).symm.trans z
     cases z'
     exact tok _ b j4
    ·have z':=((if_neg hb).trans (if_neg j4)).symm.trans z
     cases z'
  ·by_cases hb:b=a
   ·exact .inl hb
   ·by_cases j4:b∈ts
    ·exact .inr j4
    ·exact absurd ((if_neg hb).trans (if_neg j4)) z
theorem di8{l:PySem.W.OpenLaw}{n k:Nat}{q:Program}{loose:List Str}{XP:(Str->Option Value)->Heap->Prop}{YP:World->Heap->Prop}{d:DefRec}{K:Params->PySem.W.Frag}{CX:World->eU}{sp:World->Sp}{x:Str}{ts:List Addr}
  (hn:l.most=some n) (pj:n<=sizeLine) (yf:d.params.defaults=[]) (hr:bS k callerA)
  (hY:∀(w:World) (h:Heap),YP w h->(K w.params).In h/\∀P∈ts,h.get? P=some (PySem.W.tabObj #[]))
  (hC:∀(w:World) (h:Heap),(K w.params).In h->∀P∈ts,(K w.params).lookup P=none/\∃c,PySem.W.CodeHd h c P)
  (F:∀(w:World) (mg:Str->Option Value) (fa:Addr) (h:Heap),(K w.params).In h->h.Ns mainGlobals mg->mg d.name=some (.ref fa) ->
   ∃fd:FuncData,(∀(s:Shared) (u:Value),BindsTo s fd ⟨[u],[]⟩ [(x,u)]) /\
    ∀base:Heap,(K w.params).In base->base.Ns mainGlobals mg->Bm mg base->aI l.prog w (K w.params) mg base (CX w) k fa fd [x] (sp w))
  (iA:∀(w:World) (H:Hp) (a:Addr) (ns:List Int),ns.length<=n->wg ts H->bQ (K w.params) H a (ns.map V.int)->sp w [.ref a] H (λv _=>v=.bl true) λ_ _ _=>False)
  (HD:∀(w:World) (H:Hp) (s:Shared) (e:Value) (s':Shared),CX w [] H s (λ_ _ _=>False) e s'->False) :
  PySem.W.WalkO q loose XP YP l.row.toRowW d [] (λf vs=>PySem.call f vs):=by
 refine Att.c08 hn yf λw cN bE mg mb fa o pm cd doc a vs ns G Y ho hd da yg Gj hints hlen hg=>?_
 obtain⟨KX,hT⟩:=hY w _ Y
 obtain⟨fd,hb,hF⟩:=F w mg fa _ KX G.T.g yg
 have HC:∀P∈ts,isCodeTable bE.heap P:=λP hP=>by
  obtain⟨_,c,C⟩:=hC w _ KX P hP
  exact(C.tab (hT P hP)).isCodeTable
 have zt:Bm mg bE.heap:=by
  obtain⟨bm,ob,b1,b2,b3,b4,b5,b6⟩:=G.T.bmain
  refine⟨bm,ob,b1,b2,λq=>?_,b3,b4,b5,b6⟩
  obtain⟨o,es,ep,e,hd,_⟩:=G.T.g
  rw[q,e]at b3;cases b3;rw[hd]at b6;cases b6
 exact bY5 KX G.T.g G.T.b G.T.builtins G.T.nolimit hg hT HC (λP hP=>(hC w _ KX P hP).1) Gj hints (fO hlen pj) hr zt hF hb (λH hO hS=>iA w H a ns hlen hO hS) λH e s'=>HD w H bE e s'
end L2
namespace L3
open PySem L2 PySem.Spec PyProof.Rows
def pZ(ts:List Addr)(sp:Sp):Sp:=λvs H Q E=>Tb ts H/\sp vs H Q E
theorem CC{X:Cx}{pins:List (Addr × Obj)}{σ:L2.St}{H:Hp}{s:Shared}{ts:List Addr}(I:Inv X pins σ H s)(h:Tb ts X.jP):Tb ts H:=λP hP=>by
 obtain⟨ps,e⟩:=h P hP
 obtain⟨m,e2⟩:=I.base.gM P ps e
 exact⟨_,e2⟩
def CD(ts:List Addr)(K:PySem.W.Frag):Sp:=λvs H Q _=>∃(a:Addr) (ns:List Int),vs=[.ref a]/\wg ts H/\bQ K H a (ns.map V.int)/\ns.length<=63/\∀H',Q (.bl true) H'
theorem cc7{ts:List Addr}{K:PySem.W.Frag}(nl:K.all (λp=>Hh p.2)=true){vs:List V}{H:Hp}{Q:VK}{E:XK}(h:CD ts K vs H Q E):pZ ts (bf P5) vs H Q E:=by
 obtain⟨a,ns,rfl,hO,hS,hl,q⟩:=h
 have hz:∃o,H a=some (.bq o (.lst (ns.map V.int))):=by
  rcases hS with (hS | hS) | ⟨o,its,n,hk,hc,_⟩
  ·rcases hO.any a with z | ⟨o,xs,z⟩ | ⟨_,z⟩
   ·rw[hS]at z;cases z
   ·rw[hS]at z;cases z
   ·rw[hS]at z;cases z
  ·exact hS
  ·have hm:=bL7 hk
   have:=dj.mp nl _ hm
   simp[Hh,hc]at this
 obtain⟨o,ho⟩:=hz
 refine⟨hO.tb,H,[.fz (aG ns)],λd=>d=.bl true,af.refl _,.fz ho (lD ns) .nil,⟨ns,rfl,hl,rfl⟩,λd v F' H' A hd hs hf he h3 r nd fr=>?_⟩
 subst hd
 cases r
 exact q H'
end L3
namespace L2
open PySem PySem.Spec PyProof.Rows
def rem(H:Hp)(f c:Addr):Hp:=λb=>if b=f\/b=c then none else H b
def n8(H H':Hp)(f c:Addr):Hp:=λb=>if b=f\/b=c then H b else H' b
section
variable{P:Program}{w:World}{H H':Hp}{h:Heap}{a b f c:Addr}{o:HO}{of oc:Obj}
theorem Qz:rem H f c f=none:=if_pos (.inl rfl)
theorem CF:rem H f c c=none:=if_pos (.inr rfl)
theorem iP(h1:b≠f)(h2:b≠c):rem H f c b=H b:=if_neg (by simp[h1,h2])
theorem wj(e:H b=none):rem H f c b=none:=by unfold rem;split;rfl;exact e
theorem QB(e:rem H f c b=some o):b≠f/\b≠c/\H b=some o:=by
 unfold rem at e
 split at e
 ·cases e
 ·rename_i n
  exact⟨λz=>n (.inl z),λz=>n (.inr z),e⟩
theorem p5(h1:b≠f)(h2:b≠c):n8 H H' f c b=H' b:=if_neg (by simp[h1,h2])
theorem QC:n8 H H' f c f=H f:=if_pos (.inl rfl)
theorem HF:n8 H H' f c c=H c:=if_pos (.inr rfl)
theorem eK.rem{φ:Heap->Prop}(x:eK P w H h a o)(ha:a≠f)(hf:H f=some (.ext φ))(hc:H c=some (.own f)\/H c=none)(HG:¬ ∀h',φ h'->∃q,h'.CodeRec (.ref f) q):eK P w (rem H f c) h a o:=by
 have own:∀b,H b=some (.own a)->L2.rem H f c b=some (.own a):=λb e=>by
  rw[iP (λz=>by subst z;rw[hf]at e;cases e) (λz=>by subst z;rcases hc with hc | hc<;>(rw[hc]at e;cases e);exact ha rfl)];exact e
 have tup:∀b xs,H b=some (.tup xs)->L2.rem H f c b=some (.tup xs):=λb xs e=>by
  rw[iP (λz=>by subst z;rw[hf]at e;cases e) (λz=>by subst z;rcases hc with hc | hc<;>(rw[hc]at e;cases e))];exact e
 induction o with
 | lst xs=>exact x
 | tup xs=>exact x
 | dK dU=>exact x
 | dT dU =>
  obtain⟨z,y,xs,r,ob⟩:=x
  exact⟨z,y,xs,Paired.Fy r λp q z=>⟨z.1,tup _ _ z.2.1,z.2.2⟩,ob⟩
 | set S n=>exact x
 | ins C dx fs =>
  obtain⟨d,r⟩:=x
  exact⟨own _ d,r⟩
 | own y=>exact x
 | xd fs=>exact x
 | xQ lo hi=>exact x
 | bq ob u ih=>obtain⟨e,q⟩:=x;exact⟨e,ih q⟩
 | dG ps =>
  obtain⟨e,t,cc⟩:=x
  refine⟨e,t,λpos cv q=>?_⟩
  obtain⟨d,φ,e1,e2,e3⟩:=cc pos cv q
  refine⟨d,φ,e1,?_,e3⟩
  rw[iP (λz=>?_) (λz=>by subst z;rcases hc with hc | hc<;>(rw[hc]at e2;cases e2))]
  ·exact e2
  ·subst z
   rw[hf]at e2;cases e2
   exact HG e3
 | met f y=>exact x
 | ext φ=>obtain⟨p,r,st⟩:=x;exact⟨p,r,λh1 h2 p1 kk=>st h1 h2 p1 λb o hb q=>kk b o (hb.imp id (own b)) q⟩
theorem QD{φ:Heap->Prop}{fd:FuncData}(p:φ h)(g:∀h',φ h'->h'.get? f=some of)(hd:of.data=.func fd):¬ ∀h',φ h'->∃q,h'.CodeRec (.ref f) q:=λz=>by
 obtain⟨q,k,ok,vs,t,q1,q2,q3,_⟩:=z h p
 cases q1
 rw[g h p]at q2;cases q2
 rw[hd]at q3;cases q3
theorem cX.lam(ok:cX P w H h)(hf:H f=some (.ext (L3.jX of oc c f))):L3.jX of oc c f h:=(ok f _ hf).1
theorem cX.rem{fd:FuncData}(ok:cX P w H h)(hf:H f=some (.ext (L3.jX of oc c f)))(hc:H c=some (.own f))(hd:of.data=.func fd):cX P w (rem H f c) h:=λb o e =>
 let⟨h1,_,h3⟩:=QB e;(ok b o h3).rem h1 hf (.inl hc) (QD (ok.lam hf) (λ_ p=>p.1) hd)
end
theorem jn.rem{P:Program}{w:World}{K:PySem.W.Frag}{mg:Str->Option Value}{base:Heap}{A:Around}{outer:List Env}{s:Shared}{H:Hp}{f c:Addr}{of oc:Obj}{fd:FuncData}(e:jn P w K mg base A outer s H)
  (hf:H f=some (.ext (L3.jX of oc c f))) (hc:H c=some (.own f)) (hd:of.data=.func fd):jn P w K mg base A outer s (rem H f c) :=
 ⟨e.frames,e.mod,λb o q=>⟨(e.bs b o q).1,wj (e.bs b o q).2⟩,e.ji,e.gx,λb hb=>wj (e.jj b hb),e.aH.rem hf hc hd,e.bare⟩
theorem CE.add{P:Program}{w:World}{K:PySem.W.Frag}{mg:Str->Option Value}{base:Heap}{A:Around}{outer:List Env}{s s':Shared}{H:Hp}{f c:Addr}{of oc:Obj}{Q Q':VK}{u:Value}(e0:jn P w K mg base A outer s H)
  (hf:H f=some (.ext (L3.jX of oc c f))) (hc:H c=some (.own f)) (h:CE outer P w (rem H f c) s Q u s') (hQ:∀v H',Q v H'->H' f=none->H' c=none->Q' v (n8 H H' f c)):CE outer P w H s Q' u s':=by
 obtain⟨v,H',os,bare,un,aH,r,q⟩:=h
 obtain⟨gf,gc⟩:=e0.aH.lam hf
 have QE:∀{b o},H b=some o->b ∉ dX outer:=λ{b o} e z=>by rw[e0.jj b z]at e;cases e
 have nf:H' f=none:=un.free f _ gf Qz (by simp)
 have nc:H' c=none:=un.free c _ gc CF (by simp)
 have kf:=un.keep f _ gf Qz (QE hf) (by simp)
 have kc:=un.keep c _ gc CF (QE hc) (by simp)
 refine⟨v,n8 H H' f c,os,bare,⟨λb o e n=>un.keep b o e (wj n),λb o e n=>un.slot b o e (wj n),λb o e n x=>?_,un.there,λb xs e=>?_,λb ob xs e=>?_,λb ps e=>?_⟩,λb o e=>?_,r,hQ v H' q nf nc⟩
 ·rw[p5 (λz=>by subst z;rw[hf]at n;cases n) (λz=>by subst z;rw[hc]at n;cases n)]
  exact un.free b o e (wj n) x
 ·have n1:b≠f:=λz=>by subst z;rw[hf]at e;cases e
  have n2:b≠c:=λz=>by subst z;rw[hc]at e;cases e
  rw[p5 n1 n2]
  exact un.iZ b xs (by rw[iP n1 n2];exact e)
 ·have n1:b≠f:=λz=>by subst z;rw[hf]at e;cases e
  have n2:b≠c:=λz=>by subst z;rw[hc]at e;cases e
  rw[p5 n1 n2]
  exact un.ir b ob xs (by rw[iP n1 n2];exact e)
 ·have n1:b≠f:=λz=>by subst z;rw[hf]at e;cases e
  have n2:b≠c:=λz=>by subst z;rw[hc]at e;cases e
  rw[p5 n1 n2]
  exact un.gM b ps (by rw[iP n1 n2];exact e)
 ·by_cases z:b=f
  ·subst z
   rw[QC,hf]at e;cases e
   refine⟨⟨kf,kc⟩,⟨_,kf⟩,λh1 h2 p kk=>⟨kk b _ (.inl rfl) p.1,kk c _ (.inr ?_) p.2⟩⟩
   rw[HF];exact hc
  ·by_cases z2:b=c
   ·subst z2
    rw[HF,hc]at e;cases e
    exact⟨_,kc⟩
   ·rw[p5 z z2]at e
    have up:∀{b' o'},H' b'=some o'->n8 H H' f c b'=some o':=λ{b' o'} q=>by
     rw[p5 (λz=>by subst z;rw[nf]at q;cases q) (λz=>by subst z;rw[nc]at q;cases q)];exact q
    exact(aH b o e).jh (λ_ _ _ q=>q) (λ_ q=>up q) (λ_ _ q=>up q) λ_ _ q=>up q
theorem ce5{prog:Program}{w:World}{A:Around}{R:Result->Shared->Prop}{s:Shared}{a:Addr}{args:Args}{o:Obj}{fd:FuncData}{body:Expr}{q:Str}(dj1:A.depth<recursionLimit)
  (ho:s.heap.get? a=some o)
  (xR:o.data=.func fd) (hco:fd.scope.isCoroutine=false) (dj3:fd.scope.isGenerator=false) (hW:fd.body=.expr body) (da:s.heap.CodeRec fd.code q)
  (h:wpAny (model prog w) A.in1 (bindArgs fd args) (λbinds bE =>
   wpAny (model prog w) A.in1 (newFunctionEnv fd.scope fd.globals fd.closure binds (q++".<locals>.") (some a) fd.code none fd.builtins)
    (λenv jQ=>jQ.heap.NoLimit/\codeAny (model prog w) A (.expr body env) R jQ) (λe s'=>R (.error e) s') bE) (λe s'=>R (.error e) s') s) :
  codeAny (model prog w) A (.call (.ref a) args) R s:=by
 refine codeAny_of_tree ?_
 show wpAny _ A.in1 (callAny (.ref a) args) _ _ s
 simp only[callAny]
 refine wpAny_bind (wpAny_load ho ?_)
 obtain⟨c,oc,vs,tq,hc,jk,HH,hq⟩:=da
 simp only[xR,callFunction,hco,dj3,hW,hc]
 rw[hc]at h
 refine wpAny_bind (m:=field (.ref c) 1) (wpAny_field jk HH hq (wpAny_bind (wpAny_pure ?_)))
 exact wpAny_bind (wpAny_mono h (λbinds bE CG=>wpAny_bind (wpAny_mono CG (λenv jQ QF=>wpAny_bind (wpAny_enterFrame QF.1 dj1
  (wpAny_pure (And.intro rfl QF.2)))) λ_ _ h'=>h')) λ_ _ h'=>h')
structure QG(p1 p2 x:Str)(sc:Scope):Prop where
 kind:sc.kind=.function
 co:sc.isCoroutine=false
 gen:sc.isGenerator=false
 nd:[p1,p2,x].Nodup
 l1:sc.names.lookup p1=some .local
 l2:sc.names.lookup p2=some .local
 QH:∀y∈sc.names,y.2≠.cell
 only:∀y∈sc.names,y.2=.free->y.1=x
 lx:sc.names.lookup x=some .free
def sI(CX:eU)(P:Program)(w:World)(K:PySem.W.Frag)(mg:Str->Option Value)(base:Heap)(N:List Str)(qual:Str)(scope:Scope)(f:Addr)(cd:Value)(cl:List (Str × Addr))(A:Around)(outer:List Env)(s:Shared)(H:Hp)(E:XK):Cx where
 prog:=P
 w:=w
 K:=K
 mg:=mg
 base:=base
 A:=A.deeper (PySem.W.envX qual scope s.heap.objs.size f cd cl)
 N:=N
 cN:=s
 jP:=H
 env:=PySem.W.envX qual scope s.heap.objs.size f cd cl
 outer:=outer
 stack:=PySem.W.envX qual scope s.heap.objs.size f cd cl::outer
 ex:=[]
 calm:=true
 fn:=λ_=>false
 pn:=[]
 xe:=λe s'=>wpAny (model P w) (A.deeper (PySem.W.envX qual scope s.heap.objs.size f cd cl)) (leaving (PySem.W.envX qual scope s.heap.objs.size f cd cl) e) (λ_ rz=>CX outer H s E e rz) (λe' rz=>CX outer H s E e' rz) s'
theorem cp5{CX:eU}{P:Program}{w:World}{K:PySem.W.Frag}{mg:Str->Option Value}{base:Heap}{p1 p2 x qn q:Str}{params:Arguments}{body:Expr}{scope:Scope}{pm jC:Value}{f c c':Addr}{k:Nat}{A:Around}{outer:List Env}{s:Shared}{H:Hp}{E:XK}
  {u1 u2 uc:Value} {v1 v2 vc:V} {Q:VK} {t:TE} {args:Args} (S:QG p1 p2 x scope) (e0:jn P w K mg base A outer s H) (hr:bS (k+1) A)
  (hf:s.heap.get? f=some (PySem.W.kla_obj "<lambda>" qn params body scope [(x,c)] pm c' jC)) (hc:s.heap.IsCell c (some uc)) (rc:RelV vc uc) (hH:H c=none) (da:s.heap.CodeRec (.ref c') q)
  (hb:bindArgs (PySem.W.kla_fn "<lambda>" qn params body scope [(x,c)] pm (.ref c') jC) args=pure [(p1,u1),(p2,u2)]) (r1:RelV v1 u1) (r2:RelV v2 u2)
  (ht:PE (sI CX P w K mg base [p1,p2,x] q scope f (.ref c') [(x,c)] A outer s H E) body t) (h:t [some v1,some v2,some vc] H Q) :
  codeAny (model P w) A (.call (.ref f) args) (CR CX outer P w H s Q E) s:=by
 have lim:s.heap.NoLimit:=e0.mod.nolimit.keeps λb o e=>(e0.bs b o e).1
 refine ce5 hr.depth hf rfl S.co S.gen rfl da ?_
 rw[hb]
 have dj5:∀y∈[(p1,u1),(p2,u2)],scope.names.lookup y.1=some .local:=λy hy=>by
  simp at hy
  rcases hy with rfl | rfl
  ·exact S.l1
  ·exact S.l2
 refine wpAny_pure (wpAny_newFunctionEnv S.QH dj5 (λCG CA QI=>⟨lim.fresh _ QI,?_⟩) S.kind)
 show codeAny _ _ (.expr body (PySem.W.envX q scope s.heap.objs.size f (.ref c') [(x,c)])) _ _
 have hk:∀b o,s.heap.get? b=some o->CG.get? b=some o:=λb o e=>QI.extBut b o (eQ (bL e)) (fU _ e)
 have bU:p1≠p2/\p1≠x/\p2≠x:=by have:=S.nd;simp at this;exact⟨this.1.1,this.1.2,this.2⟩
 have look:∀y d,([(x,c)]:List (Str × Addr)).lookup y=some d->y=x/\d=c:=λy d e=>by
  rw[gi]at e
  split at e
  ·rename_i z;exact⟨beq_iff_eq.mp z,(dn e).symm⟩
  ·cases e
 have I:Inv (sI CX P w K mg base [p1,p2,x] q scope f (.ref c') [(x,c)] A outer s H E) [] [some v1,some v2,some vc] H { s with heap:=CG,toks:=s.toks+[(p1,u1),(p2,u2)].length }:=by
  refine⟨⟨e0.mod,S.kind,rfl,rfl,bM _,λy z d h1 h2=>?_,λy hy=>?_,λy d z _=>absurd z (by simp[sI]),λ_=>hr.hd,Around.frames_deeper e0.frames,.inr ⟨rfl,rfl⟩,λb z=>absurd z (by simp[sI]),e0.bs,e0.ji,λb _ _=>by simp[sI],λb z=>absurd z (by simp[sI]),e0.gx,e0.jj⟩,
   rfl,e0.bare,Un.kept hk,⟨_,CA,λi y v h1 h2 h3=>?_⟩,λy d h=>?_,e0.aH.fresh (bM _),λy d h=>?_,λp hp=>absurd (show p∈([]:List (Addr × Obj)) from hp) (by simp),e0.aH.kept hk,rfl⟩
  ·exact(look y d h1).1.trans (look z d h2).1.symm
  ·have hy:scope.names.lookup y=some .cell\/scope.names.lookup y=some .free:=hy
   rcases hy with hy | hy
   ·exact absurd rfl (S.QH _ (PySem.mem_of_lookup hy))
   ·obtain rfl:y=x:=S.only _ (PySem.mem_of_lookup hy) rfl
    exact⟨c,by show([(y,c)]:List (Str × Addr)).lookup y=_;rw[gi,beq_self_eq_true]⟩
  ·match i,h1,h2 with
   | 0,h1,h2 =>
    cases h1;cases h2
    exact⟨u1,r1,.inl ⟨S.l1,by
     show([(p1,u1),(p2,u2)]:List (Str × Value)).reverse.lookup p1=_
     simp[gi,beq_eq_false_iff_ne.mpr bU.1]⟩⟩
   | 1,h1,h2 =>
    cases h1;cases h2
    exact⟨u2,r2,.inl ⟨S.l2,by
     show([(p1,u1),(p2,u2)]:List (Str × Value)).reverse.lookup p2=_
     simp[gi]⟩⟩
   | 2,h1,h2 =>
    cases h1;cases h2
    exact⟨uc,rc,.inr ⟨.inr S.lx,c,by show([(x,c)]:List (Str × Addr)).lookup x=_;rw[gi,beq_self_eq_true],hc.keeps hk⟩⟩
   | n+3,h1,h2=>cases h2
  ·obtain⟨rfl,rfl⟩:=look y d h
   exact⟨_,hc.keeps hk⟩
  ·obtain⟨rfl,rfl⟩:=look y d h
   exact hH
 refine PySem.W.kla_codeExpr (wpAny_mono (ht [] _ _ H _ I h) (λu s' hs=>?_) λe s' hs=>hs)
 obtain⟨v,H',J,rv,q⟩:=hs
 exact⟨v,H',J.os,J.bare,J.base,J.aH,rv,q⟩
end L2
namespace L3
open PySem L2 PySem.Spec PyProof.Rows
theorem af.n8{H H':Hp}{f c:Addr}{o1 o2:HO}(h:af (rem H f c) H')(h1:H f=some o1)(n1:js o1=true)(h2:H c=some o2)(n2:js o2=true):af H (n8 H H' f c) where
 get b o e n:=by
  by_cases z:b=f
  ·rw[z,QC,<- z];exact e
  ·by_cases z2:b=c
   ·rw[z2,HF,<- z2];exact e
   ·rw[p5 z z2];exact h.get b o (by rw[iP z z2];exact e) n
 tb b ps e:=by
  have z:b≠f:=λz=>by subst z;rw[h1]at e;cases e;cases n1
  have z2:b≠c:=λz=>by subst z;rw[h2]at e;cases e;cases n2
  rw[p5 z z2]
  exact h.tb b ps (by rw[iP z z2];exact e)
abbrev wk:=Int->Int->(Int->Prop)->Prop
structure zu(P:Program)(w:World)(K:PySem.W.Frag)(mg:Str->Option Value)(base:Heap)(n:Nat)(of oc:Obj)(c k:Addr)(sp:wk):Prop where
 fn:∃o1 od fd sl,of=⟨o1,od,.func fd,sl⟩
 run:∀(A:Around) (outer:List Env) (s:Shared) (H:Hp) (f:Addr) (t u:Tok) (i j:Int) (Qd:Int->Prop),bS n A->jn P w K mg base A outer s H->s.heap.get? f=some of->s.heap.get? c=some oc->H c=none->(∃q,s.heap.CodeRec (.ref k) q)->sp i j Qd ->
  codeAny (model P w) A (.call (.ref f) ⟨[.int i t,.int j u],[]⟩) (CR aO outer P w H s (λv H'=>∃r,v=.int r/\Qd r/\af H H') (λ_ _ _=>False)) s
def wm(L:Obj->Obj->Addr->Addr->wk->Prop)(i:Nat)(ta:cF):aN:=λδ Q=>∃of oc c k sp,δ[i]?=some (some (.bD (.lam of oc c k)))/\L of oc c k sp/\ta δ λds ah=>∃a b,ds=[.int a,.int b]/\sp a b λr=>Q (.int r) ah
theorem QJ{X:Cx}{n i:Nat}{x:Str}{p pos:Pos}{e1 e2:Expr}{ta:cF}(hN:X.N[i]?=some x)(hv:nk X.env.scope x)(hr:bS n X.A)(ha:PA X [e1,e2] (lA ta))
  (hd:(x==("__debug__":Str))=false:=by decide) (da:(x==("__classdict__":Str))=false:=by decide) (he:starEach [e1,e2] X.env=(false,eval e1 X.env)::starEach [e2] X.env:=by rfl) (bu:(backTo pos (starEach [e2] X.env)).any (·.1)=false:=by rfl) :
  PE X (.Call (.Name x p) [e1,e2] [] pos) (lE (wm (zu X.prog X.w X.K X.mg X.base n) i ta)):=by
 intro pins s σ H Q I zz
 obtain⟨B,F,δ,ts,Qd,c,⟨of,oc,cc,k,sp,ed,L,q⟩,kk⟩:=zz
 obtain⟨v,ev,sv⟩:=c.look ed
 obtain⟨f,rfl,lam⟩:∃f,v=.ref f/\kA H f of oc cc k:=by
  cases sv with
  | bD h _=>exact⟨_,rfl,h⟩
 refine wpAny_Call_Name_kw (aP (uB hN hv hd da pins s σ H (λv' H'=>v'=.ref f/\H'=H) I ⟨_,ev,rfl,rfl⟩) λu s1 zz=>?_)
 obtain⟨v',H',I1,r1,e1,e2⟩:=zz
 subst e1 e2
 obtain rfl:u=.ref f:=r1
 have fnAt:∀{H1:Hp} {s2:Shared},Inv X pins σ H1 s2->kA H1 f of oc cc k->PySem.W.FnAt f s2.heap:=λ{H1 s2} J l=>by
  obtain⟨o1,od,fd,sl,e⟩:=L.fn
  exact⟨o1,od,fd,sl,by rw[<-e];exact(J.aH.lam l.fn).1⟩
 refine PySem.W.callWith_F (fnAt I1 lam) (aP (ha pos pins s1 σ H' (λvs H2=>∃a b ah F',vs=[.int a,.int b]/\(sp a b λr=>Qd (.int r) ah)/\af F F'/\af H' H2/\ao B F' H2 σ ah ts) I1
  ⟨B,F,δ,ts,_,c,q,λds ah vs F' H2 ⟨a,b,eds,q2⟩ f1 h1 c1 s1=>?_⟩) λus s2 ⟨vs,H2,I2,r2,a,b,ah,F',evs,q2,f1,h1,c1⟩=>⟨fnAt I2 ((show rE H' f (.lam of oc cc k) from lam).mono λa o e _ t=>h1.get a o e t),?_⟩) he bu
 ·subst eds
  refine⟨a,b,ah,F',?_,q2,f1,h1,c1⟩
  cases s1 with
  | int s1=>cases s1 with
   | int s1=>cases s1;rfl
 ·subst evs
  have p7:kA H2 f of oc cc k:=(show rE H' f (.lam of oc cc k) from lam).mono λa o e _ t=>h1.get a o e t
  obtain⟨o1,od,fd,sl,eof⟩:=L.fn
  have dj8:of.data=.func fd:=by rw[eof]
  obtain⟨gf,gc⟩:=I2.aH.lam p7.fn
  obtain⟨ψ,eψ,zw⟩:=p7.GR
  obtain⟨u1,u2,t1,t2,rfl⟩:∃(u1 u2:Unit) (t1 t2:Tok),us=[.int a t1,.int b t2]:=by
   cases r2 with
   | cons ra r2=>cases r2 with
    | cons rb r2 =>
     cases r2
     obtain⟨t1,rfl⟩:=ra
     obtain⟨t2,rfl⟩:=rb
     exact⟨(),(),t1,t2,rfl⟩
  refine wpAny_call (codeAny_mono (L.run X.A X.stack s2 (rem H2 f cc) f t1 t2 a b _ hr (I2.uE.rem p7.fn p7.cell dj8) gf gc CF (zw _ (I2.aH k _ eψ).1) q2) λr s' hq=>?_)
  cases r with
  | error e=>exact hq.elim
  | ok fl =>
   cases fl with
   | ret u =>
    refine I2.after (CE.add I2.uE p7.fn p7.cell hq (Q':=Q) ?_)
    rintro v H3 ⟨r,rfl,hqd,hs⟩ nf nc
    have sm:=hs.n8 p7.fn rfl p7.cell rfl
    exact kk _ ah _ F' _ hqd f1 (h1.trans sm) ((c1.grow sm).pushS (.int .nil) rfl)
   | next=>exact fG hq
   | brk=>exact fG hq
   | cont=>exact fG hq
end L3
namespace L2
open PySem PySem.Spec PyProof.Rows
theorem bE3{p:Pos}{c:Value}(l:List Value)(h:TriplesOk l):TriplesOk (l++[rawInt p.line,rawInt p.col,c]):=by
 fun_induction TriplesOk l with
 | case1=>simp[TriplesOk,rawInt]
 | case2 a b d e f rest ih=>exact ih h
 | case3=>exact h.elim
theorem bW5{p q:Pos}{c cv:Value}(l:List Value)(h:TriplesOk l)(e:codeAmong q (l++[rawInt p.line,rawInt p.col,c])=some cv):codeAmong q l=some cv\/cv=c:=by
 fun_induction TriplesOk l with
 | case1 =>
  simp only[ud,rawInt,codeAmong]at e
  split at e
  ·exact .inr (dn e).symm
  ·cases e
 | case2 a b d e' f rest ih =>
  simp only[uk,codeAmong]at e ⊢
  split at e
  ·rename_i z;rw[if_pos z];exact .inl e
  ·rename_i z;rw[if_neg z];exact ih h e
 | case3=>exact h.elim
def og(f:Addr)(o:Obj):Heap->Prop:=λh=>h.get? f=some o
def cT5(P c:Addr)(x:Str)(params:Arguments)(body:Expr)(scope:Scope):TE:=λ_ H Q=>(∃ps,H P=some (.dG ps)) /\
 ∀f k qn pm jC H',H f=none->H' f=some (.ext (og f (PySem.W.kla_obj "<lambda>" qn params body scope [(x,c)] pm k jC)))->L3.GQ H' k->k≠f->L3.af H H'->(∀a ws,H' a=some (.lst ws)->H a=some (.lst ws))->Q (.ref f) H'
theorem QK{X:Cx}{P c cc:Addr}{x:Str}{params:Arguments}{body:Expr}{scope:Scope}{pos:Pos}(gr:closureFor scope X.env=pure [(x,c)])(CH:X.env.code=.ref cc)(hK:PySem.W.codeHdIn X.K cc P=true)(zt:Bm X.mg X.base)
  (dk4:defaultsOf params X.env=([],[]):=by rfl):PE X (.Lambda params body scope pos) (cT5 P c x params body scope):=by
 intro pins s σ H Q I zz
 obtain⟨⟨ps,hP⟩,q⟩:=zz
 obtain⟨bm,ob,b1,b2,b3,b4,b5,b6,b7⟩:=zt
 have C:=PySem.W.codeHd_of_K I.cY hK
 obtain⟨oP,CI,codes⟩:=I.aH P _ hP
 have hg:=I.mod.glob.keeps I.bk
 have QL:∀{b o},X.base.get? b=some o->b≠P:=λ{b o} e z=>by
  have:=(I.bs b o e).2
  rw[z,hP]at this;cases this
 have hgP:mainGlobals≠P:=by
  obtain⟨o,es,ep,e,_⟩:=I.mod.glob
  exact QL e
 have QM:s.heap.BuiltinsAt X.mg P:=⟨bm,ob,b1,b2,b3,QL b4,I.bk _ _ b4,b5,b6,b7⟩
 refine PySem.W.kla_eval dk4 ?_
 have fresh:∀{b:Addr},s.heap.objs.size<=b->H b=none:=λ{b} h=>I.aH.fresh h
 cases HI:codeAmong pos ps.toList with
 | none =>
  refine PySem.W.kla_makeFunction (mg:=X.mg) gr I.ok.glob hg CH C oP CI HI hgP QM λk jC h' tk hx zx gB dk6 QN=>?_
  have HJ:P<s.heap.objs.size:=bL oP
  have hPk:k≠P:=λz=>by rw[z]at zx;exact absurd HJ (xG.mpr zx)
  have sJ:s.heap.objs.size<=h'.objs.size:=fO zx (AO gB)
  have hPf:h'.objs.size≠P:=λz=>by rw[<-z]at HJ;exact absurd HJ (xG.mpr sJ)
  have QO:k≠h'.objs.size:=eQ gB
  generalize QP:PySem.W.kla_obj "<lambda>" (X.env.qual++"<lambda>") params body scope [(x,c)] ((X.mg "__name__").getD .none) k jC=obj
  have eJ:obj.isFreed=false:=by rw[<-QP];rfl
  have zy:∀b,b≠P->b≠k->b≠h'.objs.size->upd (upd (upd H P (.dG (ps++#[rawInt pos.line,rawInt pos.col,.ref k]))) k (.ext λh=>∃q,h.CodeRec (.ref k) q)) h'.objs.size (.ext (og h'.objs.size obj)) b=H b:=λb n1 n2 n3=>by
   rw[aT n3,aT n2,aT n1]
  have CJ:upd (upd (upd H P (.dG (ps++#[rawInt pos.line,rawInt pos.col,.ref k]))) k (.ext λh=>∃q,h.CodeRec (.ref k) q)) h'.objs.size (.ext (og h'.objs.size obj)) h'.objs.size=some (.ext (og h'.objs.size obj)):=bH
  have atK:upd (upd (upd H P (.dG (ps++#[rawInt pos.line,rawInt pos.col,.ref k]))) k (.ext λh=>∃q,h.CodeRec (.ref k) q)) h'.objs.size (.ext (og h'.objs.size obj)) k=some (.ext λh=>∃q,h.CodeRec (.ref k) q):=by rw[aT QO,bH]
  have CK:upd (upd (upd H P (.dG (ps++#[rawInt pos.line,rawInt pos.col,.ref k]))) k (.ext λh=>∃q,h.CodeRec (.ref k) q)) h'.objs.size (.ext (og h'.objs.size obj)) P=some (.dG (ps++#[rawInt pos.line,rawInt pos.col,.ref k])):=by rw[aT hPf.symm,aT hPk.symm,bH]
  generalize hHn:upd (upd (upd H P (.dG (ps++#[rawInt pos.line,rawInt pos.col,.ref k]))) k (.ext λh=>∃q,h.CodeRec (.ref k) q)) h'.objs.size (.ext (og h'.objs.size obj))=Hn at zy CJ atK CK
  have old:∀{b o},H b=some o->b≠P->Hn b=some o:=λ{b o} e n=>by
   have hb:b<s.heap.objs.size:=I.aH.lt e
   rw[zy b n (λz=>absurd hb (xG.mpr (z ▸ zx))) (λz=>absurd hb (xG.mpr (z ▸ sJ)))];exact e
  have kept:∀b o,b≠P->s.heap.get? b=some o->(h'.push obj).get? b=some o:=λb o n e=>fU _ (hx b o n e)
  have un:Un X.fs [] H Hn s.heap (h'.push obj):=by
   refine⟨λb o e n _ _=>kept b o (λz=>by rw[z,hP]at n;cases n) e,λb o e n _ _=>⟨o.slots,kept b o (λz=>by rw[z,hP]at n;cases n) e⟩,λb o e n _=>?_,λb o e _=>?_,λb xs e=>old e (λz=>by rw[z,hP]at e;cases e),λb ob xs e=>old e (λz=>by rw[z,hP]at e;cases e),λb QQ e=>?_⟩
   ·have hb:=bL e
    rw[zy b (λz=>by rw[z,hP]at n;cases n) (λz=>absurd hb (xG.mpr (z ▸ zx))) (λz=>absurd hb (xG.mpr (z ▸ sJ)))];exact n
   ·by_cases z:b=P
    ·rw[z];exact⟨_,fU _ QN⟩
    ·exact⟨o,kept b o z e⟩
   ·by_cases z:b=P
    ·subst z
     rw[hP]at e;cases e
     exact⟨_,CK⟩
    ·exact⟨#[],by rw[old e z];simp⟩
  have aH:cX X.prog X.w Hn (h'.push obj):=λb o e=>by
   by_cases z1:b=h'.objs.size
   ·subst z1
    rw[CJ]at e;cases e
    exact⟨g8 _ eJ,⟨_,g8 _ eJ⟩,λh1 h2 p kk=>kk _ _ (.inl rfl) p⟩
   ·by_cases z2:b=k
    ·subst z2
     rw[atK]at e;cases e
     have hr:=dk6.push obj
     refine⟨⟨_,hr⟩,?_,λh1 h2 ⟨q,c1,o1,vs,t,e1,e2,r⟩ kk=>?_⟩
     ·obtain⟨c1,o1,vs,t,e1,e2,_⟩:=hr
      cases e1
      exact⟨o1,e2⟩
     ·cases e1
      exact⟨q,_,o1,vs,t,rfl,kk _ _ (.inl rfl) e2,r⟩
    ·by_cases z3:b=P
     ·subst z3
      rw[CK]at e;cases e
      refine⟨fU _ QN,by rw[YL];exact bE3 _ CI,λp' cv e'=>?_⟩
      rw[YL]at e'
      rcases bW5 _ CI e' with e' | e'
      ·obtain⟨d,φ,e1,e2,e3⟩:=codes p' cv e'
       exact⟨d,φ,e1,old e2 (λz=>by rw[z,hP]at e2;cases e2),e3⟩
      ·exact⟨k,_,e',atK,λh' p=>p⟩
     ·rw[zy b z3 z2 z1]at e
      have nP:∀{b' o'},H b'=some o'->(∀ps,o'≠.dG ps)->b'≠P:=λ{b' o'} e n z=>by rw[z,hP]at e;cases e;exact n _ rfl
      refine(I.aH b o e).jh (λb' u pV e'=>kept b' u ?_ e') (λb' e'=>old e' (nP e' (λps z=>by cases z))) (λb' xs e'=>old e' (nP e' (λps z=>by cases z))) λb' φ e'=>old e' (nP e' (λps z=>by cases z))
      rcases pV with rfl | pV
      ·exact z3
      ·exact nP pV (λps z=>by cases z)
  refine⟨.ref h'.objs.size,Hn,I.un un aH,rfl,q _ k _ _ _ _ (fresh sJ) (by rw[QP];exact CJ) ⟨_,atK,λh p=>p⟩ QO ⟨λb o e n=>old e (λz=>by rw[z,hP]at e;cases e;cases n),λb QQ e=>?_⟩ λa ws e=>?_⟩
  ·exact un.gM b QQ e
  ·by_cases z1:a=h'.objs.size
   ·subst z1;rw[CJ]at e;cases e
   ·by_cases z2:a=k
    ·subst z2;rw[atK]at e;cases e
    ·by_cases z3:a=P
     ·subst z3;rw[CK]at e;cases e
     ·rw[zy a z3 z2 z1]at e;exact e
 | some cv =>
  obtain⟨k,φ,rfl,hk,HG⟩:=codes pos cv HI
  refine PySem.W.kla_makeFunctionHit (mg:=X.mg) gr I.ok.glob hg CH C oP CI HI QM λjC h' tk hx sJ=>?_
  have hf:=fresh sJ
  refine⟨.ref h'.objs.size,upd H h'.objs.size (.ext (og h'.objs.size (PySem.W.kla_obj "<lambda>" (X.env.qual++"<lambda>") params body scope [(x,c)] ((X.mg "__name__").getD .none) k jC))),I.laid (λb u e=>fU _ (hx b u e)) sJ ?_,rfl,q _ k (X.env.qual++"<lambda>") ((X.mg "__name__").getD .none) jC _ hf bH ⟨φ,?_,HG⟩ (dW hk hf) (L3.af.of λb o e=>?_) λa ws e=>?_⟩
  ·exact⟨g8 _ rfl,⟨_,g8 _ rfl⟩,λh1 h2 p kk=>kk _ _ (.inl rfl) p⟩
  ·rw[aT (dW hk hf)];exact hk
  ·rw[aT (dW e hf)];exact e
  ·by_cases z:a=h'.objs.size
   ·subst z;rw[bH]at e;cases e
   ·rw[aT z]at e;exact e
end L2
namespace L2
open PySem PySem.Spec PyProof.Rows
structure wo(K:PySem.W.Frag)(C:Addr)(m:Str)(f:Addr):Prop where
 ga:PySem.W.specialIn K (.ref C) "__getattribute__"=some (some (.builtin "type.__getattribute__"))
 rd:PySem.W.readsIn K C (.type "type")=true
 at_:PySem.W.findCls K (.ref C) (.type "type") m=some (.val (.ref f))
 kp:PySem.W.keepIn K (.ref f)=true
section
variable{X:Cx}{CX:eU}{k:Nat}{f C:Addr}{fd:FuncData}{ps:List Str}{sp:Sp}{E:XK}{x m:Str}{p pos apos:Pos}{e o:Expr}{es:List Expr}{ta:TE}{t:TA}
theorem cf0{pins:List (Addr × Obj)}{σ:St}{H:Hp}{s:Shared}{pl:Sem Bool}{A:Around}{E':Value->Shared->Prop}{Q:Value × List Value->Shared->Prop}(I:Inv X pins σ H s)(M:wo X.K C m f)(h:∀s',Inv X pins σ H s'->Q (.ref f,[]) s') :
  wpAny (model X.prog X.w) A (getMethod (.ref C) m pl) Q E' s :=
 PySem.W.method_cls I.cY M.ga (PySem.W.cls_value (mc:=.type "type") I.cY M.rd M.at_ rfl (h _ (I.tok _)))
theorem QR{pins:List (Addr × Obj)}{σ:St}{H:Hp}{s:Shared}{pl:Sem Bool}{Q:Value->Shared->Prop}{QA:List V->Hp->Prop}(I:Inv X pins σ H s)(M:wo X.K C m f)(hg:Gl X x)(hm:X.mg x=some (.ref C))(ha:PA X (e::es) t)(h:t σ H QA)
  (hq:∀us s1 vs H1,Inv X pins σ H1 s1->Vals vs us->QA vs H1->wpAny (model X.prog X.w) X.A (call (.ref f) us) Q X.xe s1)
  (de:(x==("__debug__":Str))=false:=by decide) (cw:starEach (e::es) X.env=(false,eval e X.env)::starEach es X.env:=by rfl) (bu:(backTo pos (starEach es X.env)).any (·.1)=false:=by rfl)
  (ht:eval (.Call (.Attribute (.Name x p) m apos) (e::es) [] pos) X.env=(do
   let ov<-eval (.Name x p) X.env
   standAt apos.atName
   let (f,first)<-holding [ov] (getMethod ov m pl)
   callWith pos f first (backTo pos (starEach (e::es) X.env)) (backToKw pos (keywordEach [] X.env))):=by rfl) :
  wpAny (model X.prog X.w) X.A (eval (.Call (.Attribute (.Name x p) m apos) (e::es) [] pos) X.env) Q X.xe s:=by
 refine PySem.W.methodCall_KW (pl:=pl) (qY I hg hm ?_ de) ht
 refine cf0 I M λs1 I1=>?_
 refine PySem.W.callWith_K (first:=[]) (h₀:=X.base) I.ok.mod.mr M.kp (aP (ha pos pins s1 σ H _ I1 h) λus s2 ⟨vs,H2,I2,r,q2⟩=>⟨I2.cY,?_⟩) cw bu
 exact hq us s2 vs H2 I2 r q2
def cM2(sp:Sp)(E:XK)(c:Addr)(i:Nat)(t:TA):TE:=λσ H Q=>t σ H λvs H1=>∃f of fd v,H1 f=some (.ext (og f of))/\of.data=.func fd/\σ[i]?=some (some v) /\
 ∀oc u,oc.data=.cell (some u)->RelV v u->H1 c=none->c≠f->sp vs (upd (upd H1 f (.ext (L3.jX of oc c f))) c (.own f)) (λr H2=>H2 f=some (.ext (L3.jX of oc c f))/\H2 c=some (.own f)/\Q r (rem H2 f c)) E
theorem QS{pl:Sem Bool}{y:Str}{c:Addr}{i:Nat}(M:wo X.K C m f)(F:aI X.prog X.w X.K X.mg X.base aO k f fd ps sp)(hr:bS k X.A)(hb:Binds X.K fd ps [])(hg:Gl X x)(hm:X.mg x=some (.ref C))
  (hN:X.N[i]?=some y) (hy:X.env.scope.names.lookup y=some .cell) (gr:X.env.cells.lookup y=some c) (xV:X.fn y=true) (ha:PA X (e::es) t)
  (de:(x==("__debug__":Str))=false:=by decide) (cw:starEach (e::es) X.env=(false,eval e X.env)::starEach es X.env:=by rfl) (bu:(backTo pos (starEach es X.env)).any (·.1)=false:=by rfl)
  (ht:eval (.Call (.Attribute (.Name x p) m apos) (e::es) [] pos) X.env=(do
   let ov<-eval (.Name x p) X.env
   standAt apos.atName
   let (f,first)<-holding [ov] (getMethod ov m pl)
   callWith pos f first (backTo pos (starEach (e::es) X.env)) (backToKw pos (keywordEach [] X.env))):=by rfl) :
  PE X (.Call (.Attribute (.Name x p) m apos) (e::es) [] pos) (cM2 sp E c i t):=by
 intro pins s σ H Q I h
 refine QR (pl:=pl) I M hg hm ha h (λus s1 vs H1 I1 r zq=>?_) de cw bu ht
 obtain⟨fa,of,fdd,v,hf,hd,hv,hq⟩:=zq
 obtain⟨ml,_,hl⟩:=I1.loc
 obtain⟨u,rv,lk⟩:=hl i y v hN hv (.inr (.inl hy))
 obtain⟨oc,gc,jk⟩:∃oc,s1.heap.get? c=some oc/\oc.data=.cell (some u):=by
  rcases lk with⟨hk,_⟩ | ⟨_,c',oY,ic⟩
  ·rw[show X.env.kindOf y=some .cell from hy]at hk;cases hk
  ·rw[gr]at oY;cases oY;exact ic
 have nc:H1 c=none:=I1.gj y c gr
 have p8:c≠fa:=λz=>by rw[z,hf]at nc;cases nc
 have gf:s1.heap.get? fa=some of:=(I1.aH fa _ hf).1
 have nu:=hq oc u jk rv nc p8
 have QT:=I1.ok.nq y c xV gr
 generalize hH:upd (upd H1 fa (.ext (L3.jX of oc c fa))) c (.own fa)=Hp at nu
 have QU:Hp c=some (.own fa):=by rw[<-hH,bH]
 have atf:Hp fa=some (.ext (L3.jX of oc c fa)):=by rw[<-hH,aT p8.symm,bH]
 have mT:∀b,b≠fa->b≠c->Hp b=H1 b:=λb n1 n2=>by rw[<-hH,aT n2,aT n1]
 have nfs:c ∉ X.fs:=λhb=>by
  obtain⟨_,o,ho,_⟩:=I1.ok.gx.mem hb
  exact absurd (cW (bL ho) QT) (gJ _)
 have nst:∀b∈dX X.stack,b≠c:=λb hb z=>by
  rcases cH.mp (I1.xS b hb)with e | hb
  ·exact I1.kr y c gr (z ▸ e)
  ·exact nfs (z ▸ hb)
 have dl4:cX X.prog X.w Hp s1.heap:=λb ob q=>by
  by_cases z1:b=c
  ·subst z1;rw[QU]at q;cases q;exact⟨_,gc⟩
  ·by_cases z2:b=fa
   ·subst z2;rw[atf]at q;cases q
    exact⟨⟨gf,gc⟩,⟨_,gf⟩,λh1 h2 p kk=>⟨kk _ _ (.inl rfl) p.1,kk _ _ (.inr QU) p.2⟩⟩
   ·rw[mT b z2 z1]at q
    have x1:=(I1.aH b ob q).rem (f:=fa) (c:=c) z2 hf (.inr nc) (QD gf (λ_ p=>p) hd)
    have up:∀{b' o'},rem H1 fa c b'=some o'->Hp b'=some o':=λ{b' o'} q=>by
     obtain⟨n1,n2,q'⟩:=QB q
     rw[mT b' n1 n2];exact q'
    exact x1.jh (λ_ _ _ q=>q) (λ_ q=>up q) (λ_ _ q=>up q) λ_ _ q=>up q
 have e0:jn X.prog X.w X.K X.mg X.base X.A X.stack s1 Hp:=by
  have e1:=I1.uE
  refine⟨e1.frames,e1.mod,λb ob q=>⟨(e1.bs b ob q).1,?_⟩,e1.ji,e1.gx,λb hb=>?_,dl4,e1.bare⟩
  ·have hb0:=(I1.ok.bs b ob q).1
   rw[mT b (λz=>by have:=(e1.bs b ob q).2;rw[z,hf]at this;cases this) (λz=>absurd (cW (bL hb0) (z ▸ QT)) (gJ _))]
   exact(e1.bs b ob q).2
  ·have nb:=e1.jj b hb
   rw[mT b (λz=>by rw[z,hf]at nb;cases nb) (nst b hb)];exact nb
 have hlen:us.length=ps.length:=by rw[<-r.length];exact F.len _ _ _ _ nu
 refine wpAny_call (codeAny_mono (F.run X.A X.stack s1 Hp ⟨us,[]⟩ us vs _ E hr e0 (by have:=hb s1 us I1.cY (by rw[fH];exact hlen);rwa [fH]at this) r nu) λrr s' hz=>?_)
 cases rr with
 | error e=>exact hz.elim
 | ok fl =>
  cases fl with
  | next=>exact fG hz
  | brk=>exact fG hz
  | cont=>exact fG hz
  | ret u' =>
   obtain⟨v',H2,os,bare,un,QV,rv',q1,q2,q3⟩:=hz
   obtain⟨_,QW⟩:=QV.lam q1
   refine I1.after ⟨v',rem H2 fa c,os,bare,⟨λb ob g n hb hx=>?_,λb ob g n hb hx=>?_,λb ob g n hx=>?_,un.there,λb xs g=>?_,λb ob xs g=>?_,λb ps g=>?_⟩,QV.rem q1 q2 hd,rv',q3⟩
   ·by_cases z:b=c
    ·rw[z,gc]at g;cases g;rw[z];exact QW
    ·exact un.keep b ob g (by rw[mT b (λz=>by rw[z,hf]at n;cases n) z];exact n) hb hx
   ·by_cases z:b=c
    ·rw[z,gc]at g;cases g;rw[z];exact⟨_,QW⟩
    ·exact un.slot b ob g (by rw[mT b (λz=>by rw[z,hf]at n;cases n) z];exact n) hb hx
   ·by_cases z:b=c
    ·rw[z];exact CF
    ·exact wj (un.free b ob g (by rw[mT b (λz=>by rw[z,hf]at n;cases n) z];exact n) hx)
   ·have n1:b≠fa:=λz=>by rw[z,hf]at g;cases g
    have n2:b≠c:=λz=>by rw[z,nc]at g;cases g
    rw[iP n1 n2]
    exact un.iZ b xs (by rw[mT b n1 n2];exact g)
   ·have n1:b≠fa:=λz=>by rw[z,hf]at g;cases g
    have n2:b≠c:=λz=>by rw[z,nc]at g;cases g
    rw[iP n1 n2]
    exact un.ir b ob xs (by rw[mT b n1 n2];exact g)
   ·have n1:b≠fa:=λz=>by rw[z,hf]at g;cases g
    have n2:b≠c:=λz=>by rw[z,nc]at g;cases g
    rw[iP n1 n2]
    exact un.gM b ps (by rw[mT b n1 n2];exact g)
end
end L2
namespace L3
open PySem L2 PySem.Spec PyProof.Rows
theorem sM{ts:List Addr}{H H':Hp}(h:Tb ts H)(s:af H H'):Tb ts H':=λP hP=>by
 obtain⟨ps,e⟩:=h P hP
 obtain⟨m,e2⟩:=s.tb P ps e
 exact⟨_,e2⟩
theorem QX{P:Program}{w:World}{K:PySem.W.Frag}{mg:Str->Option Value}{base:Heap}{n:Nat}{p1 p2 x qn:Str}{params:Arguments}{body:Expr}{scope:Scope}{pm jC:Value}{oc:Obj}{c k:Addr}{m:Int}{tm:Tok}{sp:wk}(S:QG p1 p2 x scope)
  (jk:oc.data=.cell (some (.int m tm))) (hb:∀u1 u2:Value,bindArgs (PySem.W.kla_fn "<lambda>" qn params body scope [(x,c)] pm (.ref k) jC) ⟨[u1,u2],[]⟩=pure [(p1,u1),(p2,u2)])
  (hW:∀(q:Str) (f:Addr) (A:Around) (outer:List Env) (s:Shared) (H:Hp) (E:XK),bS n (A.deeper (PySem.W.envX q scope s.heap.objs.size f (.ref k) [(x,c)])) ->
   ∃t:aN,PE (sI aO P w K mg base [p1,p2,x] q scope f (.ref k) [(x,c)] A outer s H E).gy body (lE t)/\∀i j Qd,sp i j Qd->t [some (.int i),some (.int j),some (.int m)] λd _=>∃r,d=.int r/\Qd r) :
  zu P w K mg base (n+1) (PySem.W.kla_obj "<lambda>" qn params body scope [(x,c)] pm k jC) oc c k sp where
 fn:=⟨_,_,_,_,rfl⟩
 run A outer s H f t u i j Qd hr e0 gf gc hH da h:=by
  obtain⟨q,da⟩:=da
  obtain⟨tt,ht,hq⟩:=hW q f A outer s H (λ_ _ _=>False) (hr.deeper _)
  refine cp5 (v1:=.int i) (v2:=.int j) (vc:=.int m) (E:=λ_ _ _=>False) S e0 hr gf ⟨oc,gc,jk⟩ ⟨tm,rfl⟩ hH da (hb _ _) ⟨t,rfl⟩ ⟨u,rfl⟩ ht.gy ?_
  refine⟨⟨H,H⟩,H,_,[],_,?_,hq i j Qd h,λd ah v F' H' hd f1 h1 c1=>?_⟩
  ·exact ao.start (ds:=[.int i,.int j,.int m]) (vs:=[.int i,.int j,.int m]) (af.refl H) (.int (.int (.int .nil))) 0
  ·obtain⟨r,rfl,hd⟩:=hd
   have s1:=c1.top
   cases s1
   exact⟨r,rfl,hd,h1⟩
section
variable{X:Cx}{CX:eU}{n:Nat}{f:Addr}{fd:FuncData}{ps:List Str}{sp:bc}{E:XK}{x:Str}{p pos:Pos}{e:Expr}{es:List Expr}{t:cF}{tl:List Addr}
theorem lJ(hT:Tb tl X.jP)(F:aI X.prog X.w X.K X.mg X.base CX n f fd ps (pZ tl (bf sp)))(hr:bS n X.A)(hg:Gl X x)(hm:X.mg x=some (.ref f))(hk:PySem.W.keepIn X.K (.ref f)=true)(hb:Binds X.K fd ps [])(hx:jT CX X E)
  (ha:PA X (e::es) (lA t)) (de:(x==("__debug__":Str))=false:=by decide) (he:starEach (e::es) X.env=(false,eval e X.env)::starEach es X.env:=by rfl) (bu:(backTo pos (starEach es X.env)).any (·.1)=false:=by rfl) :
  PE X (.Call (.Name x p) (e::es) [] pos) (lE (pL sp t)):=by
 intro pins s σ H Q I zz
 obtain⟨B,F',δ,ts,Qd,c,q,k⟩:=zz
 have tb:=CC I hT
 refine jo F hr hg hm hk hb .nil hx ha de he bu pins s σ H Q I ⟨B,F',δ,ts,_,c,q,λds ak vs F1 H1 q1 f1 h1 c1 s1=>?_⟩
 refine⟨sM tb h1,?_⟩
 rw[fH]
 exact yq c1 s1 q1 λd v F' H' hd hf hs c'=>k d ak v F' H' hd (f1.trans hf) (h1.trans hs) c'
end
section
variable{P:Program}{w:World}{K:PySem.W.Frag}{mg:Str->Option Value}{base:Heap}
theorem zA{x qual:Str}{st:Stmt}{f:Addr}{fd:FuncData}{N ps:List Str}{k:Nat}{sp:bc}{tl:List Addr}(F:aY K x qual st f fd)(S:aX N ps (aK st))(len:∀ds Q,sp ds Q->ds.length=ps.length)
  (hW:∀(aC:Value) (A:Around) (outer:List Env) (s:Shared) (H:Hp) (E:XK),Tb tl H->bS k (A.deeper (envOfC qual (aK st) s.heap.objs.size f aC)) ->
   ∃t:cO,PSs (i5 aO P w K mg base N qual (aK st) f aC A outer s H E).gy (fQ st) (lS (i5 aO P w K mg base N qual (aK st) f aC A outer s H E).gy t)/\∀ds Q,sp ds Q->t { nx:=λ_=>Q .au,rt:=Q } (lh N ds)):aI P w K mg base aO (k+1) f fd ps (pZ tl (bf sp)):=by
 refine F.ok S (λvs H Q E ⟨_,F,ds,Qd,e,r,h,_⟩=>by rw[<-r.length];exact len ds Qd h) λaC A outer s H vs Q E hr zz=>?_
 obtain⟨tb,F,ds,Qd,e,r,h,k⟩:=zz
 obtain⟨t,ht,hq⟩:=hW aC A outer s H E tb hr
 have fin:∀d v ah aF F' H',Qd d->ao ⟨H,F⟩ F' H' aF ah [(d,v)]->Q v H':=λd v ah aF F' H' hd c=>by
  obtain⟨A,C,r',s',nd,fr⟩:=c.own
  exact k d v F' H' A hd c.b1 c.b2 c.ext c.b3 r' (iJ.mp nd).1 λa ha=>fr a (eR _ ha)
 have e1:L2.start N vs=vs.map some++aU (N.length-ds.length) none:=by unfold L2.start;rw[r.length]
 refine⟨_,ht,⟨H,F⟩,F,lh N ds,_,?_,hq ds Qd h,λah aF F' H' hd c=>fin .au .au ah aF F' H' hd (c.pushS (.au .nil) rfl),fin,λ_ _ _ _ z=>z.elim,λ_ _ _ _ z=>z.elim,XL.none (λ_ _ z=>z) λ_ _ z=>z⟩
 rw[e1]
 exact ao.start e r _
theorem QY{x qual:Str}{st:Stmt}{f cc:Addr}{fd:FuncData}{N ps:List Str}{k:Nat}{sp:Sp}(F:aY K x qual st f fd)(CH:fd.code=.ref cc)(S:aX N ps (aK st))(len:∀vs H Q E,sp vs H Q E->vs.length=ps.length)
  (hW:∀(A:Around) (outer:List Env) (s:Shared) (H:Hp) (vs:List V) (Q:VK) (E:XK),bS k (A.deeper (envOfC qual (aK st) s.heap.objs.size f (.ref cc)))->sp vs H Q E ->
   ∃t,PSs (i5 aO P w K mg base N qual (aK st) f (.ref cc) A outer s H E).gy (fQ st) t/\t { nx:=λ_ H'=>Q .au H',rt:=Q } (L2.start N vs) H):aI P w K mg base aO (k+1) f fd ps sp:=by
 obtain⟨oc,od,kV,doc,pm,an,aC,ct,iz,rfl,lk,da⟩:=F.ex
 obtain rfl:aC=.ref cc:=CH
 refine BQ lk da S len λA outer s H vs Q E hr iA=>?_
 obtain⟨t,h,q⟩:=hW A outer s H vs Q E hr iA
 exact⟨t,h.gy,q⟩
end
end L3
namespace L3
open PySem L2 PySem.Spec PyProof.Rows
theorem bV3{ns:List Str}{xs:List D}{ws:List V}{F H:Hp}{f:Str}{d:D}(r:R F H xs ws [])(h:(ns.zip xs).lookup f=some d):∃w,(ns.zip ws).lookup f=some w/\R F H [d] [w] []:=by
 generalize e:([]:List Addr)=A at r
 induction ns generalizing xs ws A with
 | nil=>simp at h
 | cons n ns ih =>
  cases xs with
  | nil=>simp at h
  | cons x xs =>
   obtain⟨v,bW,A1,A2,rfl,rfl,h1,h2⟩:=R.dh r
   obtain⟨rfl,rfl⟩:=qO.mp e.symm
   rw[YM]at h ⊢
   by_cases z:f=n
   ·subst z
    rw[gi,beq_self_eq_true]at h
    cases h
    refine⟨v,?_,h1⟩
    rw[gi,beq_self_eq_true]
   ·have z':(f==n)=false:=beq_eq_false_iff_ne.mpr z
    rw[gi,z']at h
    obtain⟨w,e1,e2⟩:=ih h [] rfl h2
    refine⟨w,?_,e2⟩
    rw[gi,z']
    exact e1
theorem HK{ns:List Str}{ws:List V}{f:Str}(h:f ∉ ns):(ns.zip ws).lookup f=none:=by
 induction ns generalizing ws with
 | nil=>simp
 | cons n ns ih =>
  cases ws with
  | nil=>simp
  | cons w ws =>
   rw[YM,gi]
   have hn:(f==n)=false:=beq_eq_false_iff_ne.mpr λz=>h (by rw[z];simp)
   simp only[hn]
   exact ih λz=>h (by simp[z])
theorem zB{F H:Hp}{C:Addr}{ns:List Str}{xs:List D}{v:V}(s:S F H [.obj C ns xs] [v]):∃p dx ws,v=.ref p/\H p=some (.ins C dx (ns.zip ws))/\ns.length=ws.length/\R F H xs ws []:=by
 cases s with
 | obj h l r _=>exact⟨_,_,_,rfl,h,l,r⟩
section
variable{X:Cx}{e o:Expr}{es:List Expr}{f m x:Str}{pos p apos:Pos}{t to:aN}{ta:cF}{n:Nat}
def sN(K:PySem.W.Frag)(t:aN)(f:Str):aN:=λδ Q=>t δ λd ah=>∃C ns xs v,d=.obj C ns xs/\cC K C/\bg K C f/\(ns.zip xs).lookup f=some v/\Q v ah
theorem cM9(he:PE X e (lB t))(hb:attributeBase e f X.env (eval e X.env)=eval e X.env:=by rfl):PE X (.Attribute e f pos) (lB (sN X.K t f)) :=
 dv (rq he hb) λσ H Q zq=>by
 obtain⟨B,F,δ,ts,Qd,c,q,k⟩:=zq
 exact⟨B,F,δ,ts,_,c,q,λd ah v F' H' ⟨C,ns,xs,w,ed,hc,hn,hl,hq⟩ f1 h1 c1 s1=>by
  subst ed
  obtain⟨p,dx,ws,rfl,hp,_,r⟩:=zB s1
  obtain⟨u,hu,ru⟩:=bV3 r hl
  exact⟨p,C,dx,_,u,rfl,hp,hc,hn,hu,k w ah u F' H' hq f1 h1 c1 ru.s⟩⟩
structure i9(P:Program)(w:World)(K:PySem.W.Frag)(mg:Str->Option Value)(base:Heap)(n:Nat)(m:Str)(C:Addr)(sp:bc):Prop where
 cls:cC K C
 ex:∃f fd ps,Meth K C m f/\aI P w K mg base aO n f fd ps (bf sp)/\Binds K fd ps []
def sO(MO:Addr->bc->Prop)(m:Str)(to:aN)(ta:cF):aN:=λδ Q=>to δ λd ak=>∃C ns xs sp,d=.obj C ns xs/\MO C sp/\m ∉ ns/\ta ak λds aV=>sp ((D.obj C ns xs::ds).map D.sh) λr=>((D.obj C ns xs::ds).all D.pl||r.fr)=true/\Q r aV
theorem cI0{pl:Sem Bool}(ho:PE X o (lB to))(hr:bS n X.A)(ha:PA X (e::es) (lA ta))
  (cw:starEach (e::es) X.env=(false,eval e X.env)::starEach es X.env:=by rfl) (bu:(backTo pos (starEach es X.env)).any (·.1)=false:=by rfl)
  (ht:eval (.Call (.Attribute o m apos) (e::es) [] pos) X.env=(do
   let ov<-eval o X.env
   standAt apos.atName
   let (f,first)<-holding [ov] (getMethod ov m pl)
   callWith pos f first (backTo pos (starEach (e::es) X.env)) (backToKw pos (keywordEach [] X.env))):=by rfl) :
  PE X (.Call (.Attribute o m apos) (e::es) [] pos) (lE (sO (i9 X.prog X.w X.K X.mg X.base n m) m to ta)):=by
 intro pins s σ H Q I zz
 obtain⟨B,F,δ,ts,Qd,c,q,k⟩:=zz
 refine PySem.W.methodCall_KW (pl:=pl) (aP (ho pins s σ H (λx H1=>∃d ak F1,S F1 H1 [d] [x]/\ao B F1 H1 σ ak ts/\af F F1/\af H H1/\∃C ns xs sp,d=.obj C ns xs/\i9 X.prog X.w X.K X.mg X.base n m C sp/\m ∉ ns/\ta ak λds aV=>sp ((D.obj C ns xs::ds).map D.sh) λr=>((D.obj C ns xs::ds).all D.pl||r.fr)=true/\Qd r aV) I
  ⟨B,F,δ,ts,_,c,q,λd ak v F1 H1 hq f1 h1 c1 s1=>⟨d,ak,F1,s1,c1,f1,h1,hq⟩⟩) λu s1 zq=>?_) ht
 obtain⟨x,H1,I1,rx,d,ak,F1,sd,c1,f1,h1,C,ns,xs,sp,ed,M,hm,hq⟩:=zq
 subst ed
 obtain⟨a,dx,ws,rfl,ea,hl,r0⟩:=zB sd
 obtain rfl:u=cB a:=rx
 obtain⟨f,fd,ps,p9,FO,hb⟩:=M.ex
 refine BO I1 ea M.cls p9 (HK hm) ?_
 refine PySem.W.callWith_K (first:=[.ref a]) (h₀:=X.base) I.ok.mod.mr p9.kp (aP (ha pos pins s1 σ H1 (λvs H2=>∃ds aV F2,S F2 H2 ds vs/\ao B F2 H2 σ aV ts/\af F1 F2/\af H1 H2/\sp ((D.obj C ns xs::ds).map D.sh) λr=>((D.obj C ns xs::ds).all D.pl||r.fr)=true/\Qd r aV) I1
  ⟨B,F1,ak,ts,_,c1,hq,λds aV vs F2 H2 hq f2 h2 c2 s2=>⟨ds,aV,F2,s2,c2,f2,h2,hq⟩⟩) λus s2 ⟨vs,H2,I2,r,ds,aV,F2,HL,c2,f2,h2,iA⟩=>⟨I2.cY,?_⟩) cw bu
 refine uF (us:=.ref a::us) (vs:=.ref a::vs) (fu:=[]) FO hr hb .nil b8 I2 (.cons rfl r) ?_
 rw[fH]
 exact yq c2 (.obj (h2 _ _ ea) hl (r0.shared f2 h2) HL) iA λd v F' H' hd hf hs c'=>k d aV v F' H' hd (f1.trans (f2.trans hf)) (h1.trans (h2.trans hs)) c'
def sP(MO:Addr->bc->Prop)(m:Str)(to:aN):aN:=λδ Q=>to δ λd ak=>∃C ns xs sp,d=.obj C ns xs/\MO C sp/\m ∉ ns/\sp [D.obj C ns xs] λr=>Q r ak
theorem co3{pl:Sem Bool}(ho:PE X o (lB to))(hr:bS n X.A)
  (ht:eval (.Call (.Attribute o m apos) [] [] pos) X.env=(do
   let ov<-eval o X.env
   standAt apos.atName
   let (f,first)<-holding [ov] (getMethod ov m pl)
   callWith pos f first (backTo pos (starEach [] X.env)) (backToKw pos (keywordEach [] X.env))):=by rfl) :
  PE X (.Call (.Attribute o m apos) [] [] pos) (lE (sP (i9 X.prog X.w X.K X.mg X.base n m) m to)):=by
 intro pins s σ H Q I zz
 obtain⟨B,F,δ,ts,Qd,c,q,k⟩:=zz
 refine PySem.W.methodCall_KW (pl:=pl) (aP (ho pins s σ H (λx H1=>∃d ak F1,S F1 H1 [d] [x]/\ao B F1 H1 σ ak ts/\af F F1/\af H H1/\∃C ns xs sp,d=.obj C ns xs/\i9 X.prog X.w X.K X.mg X.base n m C sp/\m ∉ ns/\sp [D.obj C ns xs] λr=>Qd r ak) I
  ⟨B,F,δ,ts,_,c,q,λd ak v F1 H1 hq f1 h1 c1 s1=>⟨d,ak,F1,s1,c1,f1,h1,hq⟩⟩) λu s1 zq=>?_) ht
 obtain⟨x,H1,I1,rx,d,ak,F1,sd,c1,f1,h1,C,ns,xs,sp,ed,M,hm,hq⟩:=zq
 subst ed
 obtain⟨a,dx,ws,rfl,ea,hl,r0⟩:=zB sd
 obtain rfl:u=cB a:=rx
 obtain⟨f,fd,ps,p9,FO,hb⟩:=M.ex
 refine BO I1 ea M.cls p9 (HK hm) ?_
 refine PySem.W.callWith_K0 (first:=[.ref a]) I1.cY p9.kp (uF (us:=[.ref a]) (vs:=[.ref a]) (fu:=[]) FO hr hb .nil b8 I1 (.cons rfl .nil) ?_)
 show bf sp [.ref a] H1 Q E0
 exact yq (Qd:=λr=>Qd r ak) c1 (.obj ea hl r0 .nil) (by simpa[D.sh,D.pl]using hq) λd v F' H' hd hf hs c'=>k d ak v F' H' hd (f1.trans hf) (h1.trans hs) c'
end
structure bO(x:Addr)(H H':Hp):Prop where
 get:∀b o,b≠x->H b=some o->js o=true->H' b=some o
 tb:∀b ps,H b=some (.dG ps)->∃more,H' b=some (.dG (ps++more))
theorem bO.trans{x:Addr}{H H1 H2:Hp}(a:bO x H H1)(b:bO x H1 H2):bO x H H2 :=
 ⟨λc o n h t=>b.get c o n (a.get c o n h t) t,λc ps h=>by
  obtain⟨m1,e1⟩:=a.tb c ps h
  obtain⟨m2,e2⟩:=b.tb c _ e1
  exact⟨m1++m2,by rw[e2,qH]⟩⟩
theorem af.x{x:Addr}{H H':Hp}(h:af H H'):bO x H H':=⟨λb o _ e n=>h.get b o e n,h.tb⟩
theorem bO.upd{x C dx:Addr}{H:Hp}{o o':HO}(h:H x=some o)(n:js o=true):bO x H (upd H x o') :=
 ⟨λb o z e _=>by rw[aT z];exact e,λb ps e=>⟨#[],by rw[aT (λz=>by rw[z,h]at e;cases e;cases n),e];simp⟩⟩
def HM(tl:List Addr)(C:Addr)(iQ:List D->List Str->List D->Prop):Sp:=λvs H Q _=>∃x dx bW ds ns xs,vs=.ref x::bW/\Tb tl H/\H x=some (.ins C dx [])/\R H H ds bW []/\iQ ds ns xs /\
 ∀H' ws A,bO x H H'->H' x=some (.ins C dx (ns.zip ws))->ns.length=ws.length->R (λ_=>none) H' xs ws A->A.Nodup->(∀a∈A,H a=none)->Q .au H'
def wq(C:Addr)(iQ:List D->List Str->List D->Prop)(ta:cF):aN:=λδ Q=>ta δ λds ah=>∃ns xs,iQ (ds.map D.sh) ns xs/\Q (.obj C ns (xs.map D.sh)) ah
theorem ao.made{B:Bs}{F H H':Hp}{σ:L2.St}{δ:Dl}{ts:List (D × V)}{C dx x:Addr}{ns:List Str}{xs:List D}{ws:List V}{A:List Addr}(c:ao B F H σ δ ts)(hs:af H H')(hx:H' x=some (.ins C dx (ns.zip ws)))(hl:ns.length=ws.length)
  (r:R (λ_=>none) H' xs ws A) (fr:∀a∈A,H a=none):af F (L3.bq F H' A)/\ao B (L3.bq F H' A) H' σ δ ((.obj C ns (xs.map D.sh),.ref x)::ts):=by
 have c1:=c.grow hs
 have hF:∀a∈A,F a=none:=λa ha=>c.ext.free (fr a ha)
 have r1:R F H' xs ws A:=r.keep (af.of λb o e=>by cases e) (gn.same (af.refl _)) gQ.nil hF (by simp)
 have r2:=r1.bq c1.ext A (λ_ h=>h)
 have fs:af F (L3.bq F H' A):=iH c1.ext
 obtain⟨A',C',r',s',nd,wt⟩:=c.own
 have out:∀a,(∃ws,H a=some (.lst ws))/\F a=none->L3.bq F H' A a=none:=λa zz=>by
  obtain⟨⟨ws,h⟩,hf⟩:=zz
  rw[pF (λz=>by rw[fr a z]at h;cases h)];exact hf
 have g1:=r'.grow fs hs λa ha=>out a (r'.lists a ha)
 have g2:=s'.keep fs (gn.same hs) gQ.nil (λa ha=>out a (s'.lists a ha)) (by simp)
 refine⟨fs,nI c1.ext,c1.b1,c1.b2.trans fs,λa ws h=>?_,A',C',?_,g2,nd,wt⟩
 ·by_cases z:a∈A
  ·exact .inr (c.b1.free (fr a z))
  ·rw[pF z]at h;exact c.b3 a ws h
 ·exact R.obj hx hl r2 g1
section
variable{X:Cx}{CX:eU}{n:Nat}{f C:Addr}{fd:FuncData}{ps:List Str}{iQ:List D->List Str->List D->Prop}{E:XK}{x:Str}{p pos:Pos}{e:Expr}{es:List Expr}{t:cF}{tl:List Addr}
theorem QZ(hT:Tb tl X.jP)(M:Mk X.K C f)(F:aI X.prog X.w X.K X.mg X.base CX n f fd ps (HM tl C iQ))(hr:bS (n+1) X.A)(hg:Gl X x)(hm:X.mg x=some (.ref C))(hb:Binds X.K fd ps [])(hx:jT CX X E)
  (ha:PA X (e::es) (lA t)) (de:(x==("__debug__":Str))=false:=by decide) (he:starEach (e::es) X.env=(false,eval e X.env)::starEach es X.env:=by rfl) (bu:(backTo pos (starEach es X.env)).any (·.1)=false:=by rfl) :
  PE X (.Call (.Name x p) (e::es) [] pos) (lE (wq C iQ t)):=by
 intro pins s σ H Q I zz
 obtain⟨B,F',δ,ts,Qd,c,q,k⟩:=zz
 have tb:=CC I hT
 refine FX M F hr hg hm hb .nil hx ha de he bu pins s σ H Q I ⟨B,F',δ,ts,_,c,q,λds ak vs F1 H1 q1 f1 h1 c1 s1=>?_⟩
 intro x dx bU dH jW
 obtain⟨ns,xs,hI,hq⟩:=q1
 have sm:af H1 (upd (upd H1 dx (.own x)) x (.ins C dx [])):=.of λb o e=>by rw[aT (dW e bU),aT (dW e dH)];exact e
 refine⟨x,dx,vs,ds.map D.sh,ns,xs,by rw[fH],sM (sM tb h1) sm,bH,(s1.frozen c1.ext).shared sm sm,hI,λH' ws A qa df hl r nd fr=>⟨rfl,?_⟩⟩
 have s2:af H1 H':=⟨λb o e n=>qa.get b o (dW e bU) (sm.get b o e n) n,λb ps e=>by
  obtain⟨m1,e1⟩:=sm.tb b ps e
  obtain⟨m2,e2⟩:=qa.tb b _ e1
  exact⟨m1++m2,by rw[e2,qH]⟩⟩
 obtain⟨fs,c2⟩:=c1.made s2 df hl r λa ha=>sm.free (fr a ha)
 exact k _ ak _ _ H' hq (f1.trans fs) (h1.trans s2) c2
end
end L3
namespace Mf
open PySem L2 L3
def gm(m:Bool × Nat)(a b:Nat):Nat:=if m.1 then md (cl a b) m.2 else a*b%m.2
def ae(m:Bool × Nat):Nat:=if m.1 then 2 ^ (bl m.2-1)else m.2
def CL(g:Nat->Nat->Nat)(a:Nat):Nat->Nat->List Int->Option (List Int)
 | 0,_,_=>none
 | f+1,p,acc=>if p=1 then some acc else if p<64 then CL g a f (g p a) (acc++[(p:Int)])else none
def HN(g:Nat->Nat->Nat)(a:Nat):Option (List Int):=CL g a 64 (g 1 a) [1]
def CM(g:Nat->Nat->Nat)(many:Nat):Nat->Nat->List Int->Option (List Int)
 | 0,_,_=>none
 | f+1,st,l=>if l.length+1<many then(match HN g (st+1)with | some l'=>CM g many f (st+1) l' | none=>none)else some l
def zC(g:Nat->Nat->Nat)(many:Nat):Option (List Int):=match HN g 1 with | some l=>CM g many 62 1 l | none=>none
def zD(g:Nat->Nat->Nat):wk:=λi j Q=>∃a b:Nat,i=a/\j=b/\a<64/\b<64/\Q (g a b:Nat)
def gW:List Nat:=[7,11,13,19,25,31,37,41,47,55,59,61,67,73,87,91,97,103,109,115,117]
def oh:List Nat:=[2,3,5,7,11,13,17,19,23,29,31,37,41,43,47,53,59,61]
def aE:List (Bool × Nat):=gW.map (λn=>(true,n))++oh.map λn=>(false,n)
def oi(l:List Int):Nat->List Int
 | 0=>aU (l.length+1) 0
 | i+1=>(oi l i).set (l.getD i 0).toNat (i:Int)
def eW(l:List Int):List Int:=oi l l.length
theorem zE(l:List Int):∀i,(oi l i).length=l.length+1
 | 0=>by simp[oi]
 | i+1=>by simp[oi,zE l i]
def qe(l g:List Int)(a:Nat):List Int:=if a=0 then aU (l.length+1) 0 else 0::(aL l.length).map λ(b:Nat)=>l.getD ((g.getD a 0+g.getD (b+1) 0)%(l.length:Int)).toNat 0
def wu(l g:List Int)(n:Nat):List D:=(aL n).map λa=>D.lst true (aG (qe l g a))
def qf(l g:List Int):List D:=wu l g (l.length+1)
end Mf
namespace L3
open PySem L2 Mf
def LI(H:Hp)(p:Addr)(ns:List Int):Prop:=H p=some (.lst (ns.map V.int))
theorem LI.same{H H':Hp}{p:Addr}{ns:List Int}(h:LI H p ns)(s:af H H'):LI H' p ns:=s.get _ _ h
theorem LI.upd{H:Hp}{p x:Addr}{ns:List Int}{o o':HO}(h:LI H p ns)(hx:H x=some o)(n:∀ws,o≠.lst ws):LI (upd H x o') p ns:=by
 unfold LI
 rw[aT (λz=>by rw[z]at h;unfold LI at h;rw[hx]at h;cases h;exact n _ rfl)];exact h
theorem Q0{F' H' H:Hp}{v:V}{A:List Addr}{ns:List Int}(r:R F' H' [.lst true (aG ns)] [v] A)(fr:∀a∈A,H a=none):∃p,v=.ref p/\LI H' p ns/\H p=none:=by
 cases r with
 | @own p ws xs A1 _ _ B1 hp hf r1 r2 =>
  have:=Hj r1.s
  subst this
  exact⟨p,rfl,hp,fr p (by simp)⟩
structure dm1(K:PySem.W.Frag)(C f:Addr):Prop where
 cls:cC K C
 many:bg K C "many"
 wide:bg K C "wide"
 HP:bg K C "powers"
 dm2:bg K C "logs"
 step:bg K C "step"
 sp:Meth K C "step_power" f
structure Q1(g:Nat->Nat->Nat)(many:Nat)(l:List Int)(st:Int):Prop where
 lo:2<=many
 hi:many<=64
 step:zC g many=some l
 len:l.length+1=many
 ins:∀x∈l,0<=x/\x.toNat<=l.length
 st:l[((1:Int)%((many:Int)-1)).toNat]?=some st
def iS(b:Str):List Str:=[b,"many","wide","powers","logs","step"]
def CN(n0:Int)(many:Nat)(p1 p2:Addr)(st:Int):List V:=[.int n0,.int many,.int ((bl many:Nat)-1),.ref p1,.ref p2,.int st]
theorem wz{f:Str}{v:V}:∀{fs:List (Str × V)},(∀p∈fs,p.1≠f)->bC f v fs=fs++[(f,v)]
 | [],_=>rfl
 | (g,x)::r,h=>by
  unfold bC
  rw[if_neg (h (g,x) (by simp)),wz λp hp=>h p (by simp[hp])];rfl
theorem kA.sQ{H:Hp}{x C dx f c k:Addr}{fs:List (Str × V)}{o':HO}{of oc:Obj}(h:kA H f of oc c k)(hx:H x=some (.ins C dx fs)):kA (L2.upd H x o') f of oc c k:=by
 obtain⟨ψ,e,zw⟩:=h.GR
 exact⟨by rw[aT (λz=>by rw[<-z,h.fn]at hx;cases hx)];exact h.fn,by rw[aT (λz=>by rw[<-z,h.cell]at hx;cases hx)];exact h.cell,ψ,by rw[aT (λz=>by rw[<-z,e]at hx;cases hx)];exact e,zw⟩
theorem zF{H:Hp}{x p:Addr}{o o':HO}(hx:H x=some o)(h:L2.upd H x o' p=none):H p=none:=by
 by_cases z:p=x
 ·subst z;rw[bH]at h;cases h
 ·rw[aT z]at h;exact h
theorem CO{α:Type}{b f:Str}{v:α}{r:List (Str × α)}(h:b≠f):((b,v)::r).lookup f=r.lookup f:=by
 rw[gi,beq_eq_false_iff_ne.mpr (fF h)]
section
variable{H2 H3 H':Hp}{x f c p:Addr}{o1 o2:HO}
theorem zG{b:Addr}{o:HO}(e:H3 b=some o)(nb:b≠f)(nc:H3 c=none):L2.upd (L2.upd H3 f o1) c o2 b=some o:=by
 rw[aT (dW e nc),aT nb];exact e
theorem Q2(hs:af H2 H3)(nf:H2 f=none)(nc:H3 c=none)(s:bO x (L2.upd (L2.upd H3 f o1) c o2) H'):bO x H2 (rem H' f c) where
 get b o n e t:=by
  have z1:=dW e nf
  have e3:=hs.get b o e t
  rw[iP z1 (dW e3 nc)]
  exact s.get b o n (zG e3 z1 nc) t
 tb b ps e:=by
  have z1:=dW e nf
  obtain⟨m,e3⟩:=hs.tb b ps e
  obtain⟨m2,e4⟩:=s.tb b _ (zG e3 z1 nc)
  exact⟨m++m2,by rw[iP z1 (dW e3 nc),e4,qH]⟩
theorem CP(hs:af H2 H3)(h:L2.upd (L2.upd H3 f o1) c o2 p=none):H2 p=none:=by
 refine hs.free ?_
 by_cases z:p=c
 ·subst z;rw[bH]at h;cases h
 ·rw[aT z]at h
  by_cases z2:p=f
  ·subst z2;rw[bH]at h;cases h
  ·rw[aT z2]at h;exact h
theorem LI.rem{l:List Int}{φ:Heap->Prop}{y:Addr}(h:LI H' p l)(hf:H' f=some (.ext φ))(hc:H' c=some (.own y)):LI (rem H' f c) p l:=by
 unfold LI at h ⊢
 rw[iP (λz=>by rw[z,hf]at h;cases h) (λz=>by rw[z,hc]at h;cases h)];exact h
theorem Q3{of oc:Obj}{k:Addr}(jW:c≠f)(nc:H3 c=none)(hk:GQ H3 k)(kf:k≠f):kA (L2.upd (L2.upd H3 f (.ext (jX of oc c f))) c (.own f)) f of oc c k:=by
 obtain⟨ψ,e,zw⟩:=hk
 exact⟨by rw[aT jW.symm,bH],bH,ψ,zG e kf nc,zw⟩
end
def fl(m:Bool × Nat):List Int:=(zC (gm m) (ae m)).getD []
def fst(m:Bool × Nat):Int:=(fl m).getD ((1:Int)%((ae m:Int)-1)).toNat 0
def Q4(m:Bool × Nat):Bool:=decide (2<=ae m)&&decide (ae m<=64)&&(zC (gm m) (ae m)).isSome&&decide ((fl m).length+1=ae m)&&(fl m).all (λx=>decide (0<=x)&&decide (x.toNat<=(fl m).length))&&decide (((1:Int)%((ae m:Int)-1)).toNat<(fl m).length)
theorem cv7:aE.all Q4=true:=by decide +kernel
theorem c9{m:Bool × Nat}(h:m∈aE):Q1 (gm m) (ae m) (fl m) (fst m):=by
 have h:=dj.mp cv7 m h
 simp only[Q4,eT,decide_eq_true_eq,dj]at h
 obtain⟨⟨⟨⟨⟨h1,h2⟩,h3⟩,h4⟩,h5⟩,h6⟩:=h
 obtain⟨l,e⟩:=AW.mp h3
 have el:fl m=l:=by unfold fl;rw[e];rfl
 refine⟨h1,h2,by rw[e,el],h4,λx hx=>h5 x hx,?_⟩
 unfold fst
 rw[aS,aR h6];rfl
theorem ch7:∀p∈oh,(decide (2<=(p:Int))&&decide ((p:Int)<=61)&&(aL ((p:Int).toNat-2)).all λi=>(p:Int)%(2+(i:Int)) != 0)=true:=by decide +kernel
theorem cs3:∀p∈gW,(decide (4<=(p:Int))&&decide ((p:Int)<=127)&&al (p:Int).toNat)=true:=by decide +kernel
theorem R.sQ{F H:Hp}{x C dx:Addr}{fs:List (Str × V)}{o':HO}{ds:List D}{vs:List V}{A:List Addr}(r:R F H ds vs A)(hx:H x=some (.ins C dx fs))(hd:ds.all D.fr=true):R F (L2.upd H x o') ds vs A:=by
 have up:∀{a o},H a=some o->(∀C dx fs,o≠.ins C dx fs)->L2.upd H x o' a=some o:=λ{a o} e n=>by
  rw[aT (λz=>by rw[z,hx]at e;cases e;exact n _ _ _ rfl)];exact e
 induction r with
 | nil=>exact .nil
 | au _ ih=>exact .au (ih (by simpa[D.fr]using hd))
 | bl _ ih=>exact .bl (ih (by simpa[D.fr]using hd))
 | int _ ih=>exact .int (ih (by simpa[D.fr]using hd))
 | str _ ih=>exact .str (ih (by simpa[D.fr]using hd))
 | shr h x _ i1 ih=>simp[fW]at hd
 | own h f _ _ i1 i2 =>
  rw[dA,fW,eT,kQ]at hd
  exact .own (up h λ_ _ _ z=>by cases z) f (i1 hd.1) (i2 hd.2)
 | tup h _ _ i1 i2 =>
  rw[dA,rF,eT]at hd
  exact .tup (up h λ_ _ _ z=>by cases z) (i1 hd.1) (i2 hd.2)
 | obj h l x _ i1 ih=>simp[D.fr]at hd
 | fz h x _ i1 ih=>simp[D.fr]at hd
 | @bD p z _ _ _ h r ih =>
  refine .bD ?_ (ih (by simpa[D.fr]using hd))
  cases z with
  | ext φ=>exact up h λ_ _ _ z=>by cases z
  | lam of oc c k=>exact kA.sQ h hx
theorem Q5(l g:List Int):(qf l g).all D.fr=true:=by
 unfold qf wu
 rw[mm,dj]
 intro a _
 show(D.lst true (aG _)).fr=true
 rw[fW,su];rfl
theorem bO.free{x a:Addr}{H H':Hp}(s:bO x H H')(hx:H' x≠none)(h:H' a=none):H a=none:=by
 cases q:H a with
 | none=>rfl
 | some o =>
  by_cases z:a=x
  ·subst z;exact absurd h hx
  ·cases n:js o with
   | true=>rw[s.get a o z q n]at h;cases h
   | false =>
    obtain⟨ps,rfl⟩:=GP n
    obtain⟨m,e⟩:=s.tb a ps q
    rw[e]at h;cases h
theorem Q6(l:List Int):∀i,∀x∈oi l i,0<=x
 | 0=>λx hx=>by rw[(uh.mp hx).2];exact Int.le_refl _
 | i+1=>λx hx=>by
  unfold oi at hx
  rcases Nz hx with h | h
  ·exact Q6 l i x h
  ·rw[h];exact Nb _
theorem Q7:∀p∈gW,bl p<=7:=by decide +kernel
theorem Q8:∀p∈gW,1<=bl p:=by decide +kernel
theorem ch1(a b:Nat):bl (cl a b)<=bl a+bl b:=by
 by_cases ha:a=0
 ·subst ha;rw[pz];exact mf _
 ·by_cases hb:b=0
  ·subst hb
   have:cl a 0=0:=rfl
   rw[this];exact mf _
  ·rw[OU ha hb];omega
def oj(l g:List Int):List D:=(aL (l.length+1)).map λa=>D.lst false (aG (qe l g a))
theorem ch5(l g:List Int):(D.lst true (qf l g)).sh=.lst false (oj l g):=by
 rw[dD]
 unfold qf wu oj
 rw[cu]
 congr 1
 apply qR
 intro a _
 show D.sh (.lst true (aG _))=_
 rw[dD,kF]
theorem b91(l g:List Int):(oj l g).all D.pl=true:=by
 unfold oj
 rw[mm,dj]
 intro a _
 show(D.lst false (aG _)).pl=true
 rw[fV,nX];rfl
abbrev pD(m:Bool × Nat):List D:=[.int m.2,.int (ae m),.int ((bl (ae m):Nat)-1),.lst false (aG (fl m)),.lst false (aG (eW (fl m))),.int (fst m)]
def sR(C:Addr)(p:Nat):D:=.obj C (iS "prime") (pD (false,p))
def sS(C:Addr)(p:Nat):D:=.obj C (iS "bits"++[("products":Str)]) (pD (true,p)++[.lst false (oj (fl (true,p)) (eW (fl (true,p))))])
def fD(cb cp:Addr)(m:Bool × Nat):D:=if m.1 then sS cb m.2 else sR cp m.2
end L3
namespace L3
open PySem L2 Mf
theorem zH{u p:Nat}(h:bl u<bl p):md u p=u:=yk (q:=0) (by rw[pz,oQ]) h
theorem b41{u v n:Nat}(hu:bl u<n)(hv:bl v<n):bl (u ^^^ v)<n:=by
 have h1:u<2 ^ (n-1):=fv.mp (by omega)
 have h2:v<2 ^ (n-1):=fv.mp (by omega)
 have:=fv.mpr (uJ h1 h2)
 omega
theorem CQ{p:Nat}(hp:p≠0)(u v:Nat):md (u ^^^ v) p=md u p ^^^ md v p:=by
 obtain⟨⟨q1,e1⟩,l1⟩:=yj hp u
 obtain⟨⟨q2,e2⟩,l2⟩:=yj hp v
 refine yk (q:=q1 ^^^ q2) ?_ (b41 l1 l2)
 rw[pq,<- OK,<- e1,<- e2]
theorem Q9{p:Nat}(hp:p≠0)(w:Nat):md (cl p w) p=0:=by rw[yi];exact cN6 w hp
theorem dm:∀m∈aE,0<m.2:=by decide +kernel
theorem gg(m:Bool × Nat)(a b:Nat):gm m a b=gm m b a:=by
 unfold gm
 split
 ·rw[yi]
 ·rw[m6]
theorem Ra{n:Nat}(hn:n≠0)(u c:Nat):md (cl (md u n) c) n=md (cl u c) n:=by
 obtain⟨⟨q,e⟩,_⟩:=yj hn u
 have h:cl u c=cl n (cl q c) ^^^ cl (md u n) c:=by
  conv=>lhs;rw[e]
  rw[pq,yi n q,OZ]
 rw[h,CQ hn,Q9 hn,oQ]
theorem jD{m:Bool × Nat}(h:0<m.2)(a b c:Nat):gm m (gm m a b) c=gm m a (gm m b c):=by
 unfold gm
 split
 ·rw[Ra (by omega),yi (md (cl b c) m.2) a,Ra (by omega),OZ a b c,yi (cl b c) a]
 ·rw[xH,NA,<- xH,xH a (b*c%m.2),NA,<- xH,ue]
theorem Rb{m:Bool × Nat}(h:m.1=true){a:Nat}:a<ae m↔bl a<=bl m.2-1:=by
 unfold ae
 rw[if_pos h];exact fv.symm
theorem mU{m:Bool × Nat}{a:Nat}(ha:a<ae m):gm m 1 a=a:=by
 obtain⟨k,n⟩:=m
 cases k with
 | true =>
  show md (cl 1 a) n=a
  rw[Gp]
  have h1:=(Rb (m:=(true,n)) rfl).mp ha
  have h1:bl a<=bl n-1:=h1
  by_cases z:bl n=0
  ·have a0:a=0:=by
    have:=fv (n:=a) (m:=0)
    have:=this.mp (by omega)
    omega
   subst a0
   have n0:n=0:=by
    have:=(fv (n:=n) (m:=0)).mp (by omega)
    omega
   subst n0
   decide
  ·exact zH (by omega)
 | false=>show 1*a%n=a;rw[Nat.one_mul];exact xI ha
theorem qg{m:Bool × Nat}{a:Nat}(ha:a<ae m):gm m a 1=a:=by rw[gg];exact mU ha
def lg(m:Bool × Nat)(a:Nat):Int:=(eW (fl m)).getD a 0
def pw(m:Bool × Nat)(k:Nat):Int:=(fl m).getD k 0
def HQ(m:Bool × Nat):Bool:=((aL (ae m-1)).all λk=>decide (1<=pw m k)&&decide (pw m k<ae m)&&decide (lg m (pw m k).toNat=k))&&((aL (ae m-1)).all λa=>decide (0<=lg m (a+1))&&decide (lg m (a+1)<(ae m:Int)-1)&&decide (pw m (lg m (a+1)).toNat=((a+1:Nat):Int)))
theorem Rc:aE.all HQ=true:=by decide +kernel
theorem CS{m:Bool × Nat}(hm:m∈aE){k:Nat}(hk:k<ae m-1):1<=pw m k/\pw m k<ae m/\lg m (pw m k).toNat=k:=by
 have h:=dj.mp Rc m hm
 simp only[HQ,eT,dj,decide_eq_true_eq,di]at h
 have:=h.1 k hk
 exact⟨this.1.1,this.1.2,this.2⟩
theorem CT{m:Bool × Nat}(hm:m∈aE){a:Nat}(h1:1<=a)(h2:a<ae m):0<=lg m a/\lg m a<(ae m:Int)-1/\pw m (lg m a).toNat=a:=by
 have h:=dj.mp Rc m hm
 simp only[HQ,eT,dj,decide_eq_true_eq,di]at h
 have:=h.2 (a-1) (by omega)
 rw[show a-1+1=a by omega]at this
 exact⟨this.1.1,this.1.2,this.2⟩
theorem gX(m:Bool × Nat)(b:Nat)(h:0<m.2):gm m 0 b=0:=by
 unfold gm
 split
 ·rw[pz];exact zH (by rw[nG];exact iE (by omega))
 ·rw[Nat.zero_mul,Nat.zero_mod]
theorem lK(m:Bool × Nat)(b:Nat)(h:0<m.2):gm m b 0=0:=by rw[gg];exact gX m b h
def stC(m:Bool × Nat):Bool:=decide (pw m 0=1)&&(aL (ae m-1)).all λk=>decide (gm m (pw m k).toNat (pw m (1%(ae m-1))).toNat=(pw m ((k+1)%(ae m-1))).toNat)
theorem Rh:aE.all stC=true:=by decide +kernel
theorem cw6(m:Bool × Nat)(hm:m∈aE):pw m 0=1:=by
 have h:=dj.mp Rh m hm
 simp only[stC,eT,decide_eq_true_eq]at h
 exact h.1
def pN(m:Bool × Nat)(k:Nat):Nat:=(pw m (k%(ae m-1))).toNat
theorem cM5{m:Bool × Nat}(hm:m∈aE)(k:Nat):pN m k<ae m:=by
 have fk:=(c9 hm).lo
 have:=CS hm (um k (show 0<ae m-1 by omega))
 unfold pN
 omega
theorem Ri{m:Bool × Nat}(hm:m∈aE)(k:Nat):gm m (pN m k) (pN m 1)=pN m (k+1):=by
 have fk:=(c9 hm).lo
 have h:=dj.mp Rh m hm
 simp only[stC,eT,decide_eq_true_eq,dj,di]at h
 have h2:=h.2 (k%(ae m-1)) (um k (by omega))
 rw[xJ]at h2
 exact h2
theorem Rj{m:Bool × Nat}(hm:m∈aE)(i:Nat):∀j,gm m (pN m i) (pN m j)=pN m (i+j)
 | 0=>by
  have e:pN m 0=1:=by unfold pN;rw[Nat.zero_mod,cw6 m hm];rfl
  rw[e,qg (cM5 hm i)];rfl
 | j+1=>by rw[<-Ri hm j,<- jD (dm m hm),Rj hm i j,Ri hm];rfl
theorem HR{m:Bool × Nat}(hm:m∈aE){a b:Nat}(a1:1<=a)(a2:a<ae m)(b1:1<=b)(b2:b<ae m):((gm m a b:Nat):Int)=pw m ((lg m a+lg m b)%((ae m:Int)-1)).toNat:=by
 have fk:=(c9 hm).lo
 obtain⟨g0,g1,g2⟩:=CT hm a1 a2
 obtain⟨f0,f1,f2⟩:=CT hm b1 b2
 have ea:pN m (lg m a).toNat=a:=by unfold pN;rw[xI (by omega),g2];rfl
 have eb:pN m (lg m b).toNat=b:=by unfold pN;rw[xI (by omega),f2];rfl
 have e:=Rj hm (lg m a).toNat (lg m b).toNat
 rw[ea,eb]at e
 rw[e]
 have ei:((lg m a+lg m b)%((ae m:Int)-1)).toNat=((lg m a).toNat+(lg m b).toNat)%(ae m-1):=by
  have:(((lg m a).toNat+(lg m b).toNat)%(ae m-1):Nat)=((lg m a+lg m b)%((ae m:Int)-1)):=by
   rw[oU,Fo,xK g0,xK f0,Int.natCast_sub (by omega)];rfl
  omega
 rw[ei]
 have:=CS hm (um ((lg m a).toNat+(lg m b).toNat) (show 0<ae m-1 by omega))
 unfold pN
 omega
theorem co8{p a:Nat}(hp:p∈gW)(ha:a<ae (true,p)):qe (fl (true,p)) (eW (fl (true,p))) a=(aL (ae (true,p))).map λb=>((gm (true,p) a b:Nat):Int):=by
 have hm:(true,p)∈aE:=eR _ (Bd hp)
 have h0:=dm _ hm
 have hF:=c9 hm
 have hlen:=hF.len
 unfold qe
 split
 ·rename_i h
  subst h
  rw[hlen]
  refine NB (by simp) λi h1 h2=>?_
  simp[gX _ _ h0]
 ·rename_i h
  rw[<-hlen,YJ,dy,cu,lK _ _ h0]
  congr 1
  apply qR
  intro b hb
  have hb:=di.mp hb
  show(fl (true,p)).getD (((eW (fl (true,p))).getD a 0+(eW (fl (true,p))).getD (b+1) 0)%((fl (true,p)).length:Int)).toNat 0=((gm (true,p) a (b+1):Nat):Int)
  rw[HR hm (by omega) ha (by omega) (by omega),show(((fl (true,p)).length:Nat):Int)=(ae (true,p):Int)-1 by omega]
  rfl
theorem CU{p a b:Nat}(hp:p∈gW)(ha:a<ae (true,p))(hb:b<ae (true,p)):fh (aG (qe (fl (true,p)) (eW (fl (true,p))) a)) (b:Int)=some (.int (gm (true,p) a b:Nat)):=by
 refine nv (by omega) ?_
 rw[co8 hp ha]
 unfold aG
 rw[iX,cM,cM,jL hb];rfl
theorem CV{p a:Nat}(hp:p∈gW)(ha:a<ae (true,p)):fh (oj (fl (true,p)) (eW (fl (true,p)))) (a:Int)=some (.lst false (aG (qe (fl (true,p)) (eW (fl (true,p))) a))):=by
 have hF:=c9 (m:=(true,p)) (eR _ (Bd hp))
 refine nv (by omega) ?_
 unfold oj
 rw[iX,cM,jL (by rw[hF.len];exact ha)];rfl
end L3
namespace L3
open PySem L2 Mf
theorem cG0(C:Addr)(p:Nat):D.obj C (iS "bits"++[("products":Str)]) (ui D.sh [.int p,.int (ae (true,p)),.int ((bl (ae (true,p)):Nat)-1),.lst true (aG (fl (true,p))),.lst true (aG (eW (fl (true,p)))),.int (fst (true,p)),.lst true (qf (fl (true,p)) (eW (fl (true,p))))])=sS C p:=by
 simp only[dy,km]
 rw[ch5]
 simp only[dD,pU,kF];rfl
theorem ci4(C:Addr)(p:Nat):D.obj C (iS "prime") (ui D.sh [.int p,.int p,.int ((bl p:Nat)-1),.lst true (aG (fl (false,p))),.lst true (aG (eW (fl (false,p)))),.int (fst (false,p))])=sR C p:=by
 simp only[dy,km,dD,pU,kF];rfl
theorem wA{n:Nat}(h:(true,n)∈aE):n∈gW:=by
 rcases cI.mp h with h | h
 ·obtain⟨x,hx,e⟩:=bB.mp h
  cases e;exact hx
 ·obtain⟨x,hx,e⟩:=bB.mp h
  cases e
theorem bO0{n:Nat}(h:(false,n)∈aE):n∈oh:=by
 rcases cI.mp h with h | h
 ·obtain⟨x,hx,e⟩:=bB.mp h
  cases e
 ·obtain⟨x,hx,e⟩:=bB.mp h
  cases e;exact hx
open Classical in
theorem HS{α:Type}{sh:Bool}{xs:List D}{aD:List (Str × Nat)}{n:Nat}{g0:iK}{te:aN}{ak:Dl}{Q:D->Dl->Prop}(l:List α)(e g:α->D)(jA:xs.map D.sh=l.map e)(inj:∀a b,e a=e b->a=b)
  (hx:∀a∈l,g0 (e a) (gC aD n ak) λaV=>te aV λd _=>d=g a) (hg:∀d δ (P P':Dl->Prop),(∀ah,P ah->P' ah)->g0 d δ P->g0 d δ P') (eJ:(sh&&aD.all (jw ak))=true\/∀a∈l,(g a).fr=true) (hl:l.length<=sizeLine) (hq:Q (.lst true (l.map g)) ak):vk sh xs aD n g0 mI te ak Q:=by
 let f:D->D:=λx=>if h:∃a∈l,e a=x then g h.choose else .au
 have hf:∀a∈l,f (e a)=g a:=λa ha=>by
  have h:∃b∈l,e b=e a:=⟨a,ha,rfl⟩
  show(if h:∃b∈l,e b=e a then g h.choose else .au)=g a
  rw[dif_pos h]
  exact congrArg g (inj _ _ h.choose_spec.2)
 refine⟨λ_=>true,f,λx h=>?_,eJ.imp id λh x hx _=>?_,?_,?_⟩
 ·rw[jA]at h
  obtain⟨a,ha,rfl⟩:=bB.mp h
  rw[hf a ha]
  exact hg _ _ _ _ (λah h=>⟨rfl,λ_=>h⟩) (hx a ha)
 ·rw[jA]at hx
  obtain⟨a,ha,rfl⟩:=bB.mp hx
  rw[hf a ha];exact h a ha
 ·have:=congrArg EZ jA
  simp at this
  omega
 ·rw[jA,YI.mpr (λ_ _=>rfl),cu,show l.map (f ∘ e)=l.map g from qR λa ha=>hf a ha]
  exact hq
theorem HU{i1 i2:Nat}(d:D)(δ:Dl)(P P':Dl->Prop)(h:∀ah,P ah->P' ah)(q:jz i1 i2 d δ P):jz i1 i2 d δ P':=by
 unfold jz at q ⊢
 split at q
 ·exact h _ q
 ·exact q
theorem Rk(xs ys:List Int):(fm (aG xs) (aG ys)).map D.sh=(xs.zip ys).map λz=>D.tup [.int z.1,.int z.2]:=by
 rw[Qq,kF,kF]
 unfold fm aG
 rw[Fl,List.zip,Fj]
theorem cv0{p x y:Nat}(hp:p≠0)(hx:bl x<bl p):md (cl x y) p=(if y%2=1 then x else 0) ^^^ md (cl (if bl (2*x)=bl p then 2*x ^^^ p else 2*x) (y/2)) p:=by
 have e0:md (if y%2=1 then x else 0) p=(if y%2=1 then x else 0):=by
  split
  ·exact zH hx
  ·exact zH (by rw[nG];exact iE hp)
 rw[OR,CQ hp,e0]
 congr 1
 split
 ·rw[pq,CQ hp,Q9 hp,mj]
 ·rfl
theorem cp4{p x:Nat}(hp:p≠0)(hx:bl x<bl p):bl (if bl (2*x)=bl p then 2*x ^^^ p else 2*x)<bl p:=by
 have h2:=cG3 x
 have h0:=iE hp
 split
 ·rename_i h
  have n0:2*x≠0:=λz=>by rw[z,nG]at h;omega
  have a1:=jq (2*x)
  have a2:=jq p
  have b1:=uH n0
  have b2:=uH hp
  rw[h]at a1 b1
  obtain⟨k,hk⟩:∃k,bl p=k+1:=⟨bl p-1,by omega⟩
  rw[hk]at a1 a2 b1 b2 ⊢
  have:=fv.mpr (OI a1 a2 b1 b2)
  omega
 ·omega
end L3
namespace L3
open PySem L2 PySem.Spec PyProof.Rows
structure CW(P:Program)(w:World)(K:PySem.W.Frag)(mg:Str->Option Value)(base:Heap)(n:Nat)(m:Str)(C:Addr)(sp:lH):Prop where
 cls:cC K C
 ex:∃f fd ps,Meth K C m f/\aI P w K mg base (jU P w) n f fd ps (mQ sp)/\Binds K fd ps []
section
variable{X:Cx}{e o:Expr}{es:List Expr}{f m x:Str}{pos p apos:Pos}{to:aN}{ta:cF}{n:Nat}
def sT(MO:Addr->lH->Prop)(m:Str)(to:aN)(ta:cF):aN:=λδ Q=>to δ λd ak=>∃C ns xs sp,d=.obj C ns xs/\MO C sp/\m ∉ ns/\ta ak λds aV=>sp ((D.obj C ns xs::ds).map D.sh) (λr=>((D.obj C ns xs::ds).all D.pl||r.fr)=true/\Q r aV) λ_=>False
theorem ct4{pl:Sem Bool}(ho:PE X o (lB to))(hr:bS n X.A)(ha:PA X (e::es) (lA ta))
  (cw:starEach (e::es) X.env=(false,eval e X.env)::starEach es X.env:=by rfl) (bu:(backTo pos (starEach es X.env)).any (·.1)=false:=by rfl)
  (ht:eval (.Call (.Attribute o m apos) (e::es) [] pos) X.env=(do
   let ov<-eval o X.env
   standAt apos.atName
   let (f,first)<-holding [ov] (getMethod ov m pl)
   callWith pos f first (backTo pos (starEach (e::es) X.env)) (backToKw pos (keywordEach [] X.env))):=by rfl) :
  PE X (.Call (.Attribute o m apos) (e::es) [] pos) (lE (sT (CW X.prog X.w X.K X.mg X.base n m) m to ta)):=by
 intro pins s σ H Q I zz
 obtain⟨B,F,δ,ts,Qd,c,q,k⟩:=zz
 refine PySem.W.methodCall_KW (pl:=pl) (aP (ho pins s σ H (λx H1=>∃d ak F1,S F1 H1 [d] [x]/\ao B F1 H1 σ ak ts/\af F F1/\af H H1/\∃C ns xs sp,d=.obj C ns xs/\CW X.prog X.w X.K X.mg X.base n m C sp/\m ∉ ns/\ta ak λds aV=>sp ((D.obj C ns xs::ds).map D.sh) (λr=>((D.obj C ns xs::ds).all D.pl||r.fr)=true/\Qd r aV) λ_=>False) I
  ⟨B,F,δ,ts,_,c,q,λd ak v F1 H1 hq f1 h1 c1 s1=>⟨d,ak,F1,s1,c1,f1,h1,hq⟩⟩) λu s1 zq=>?_) ht
 obtain⟨x,H1,I1,rx,d,ak,F1,sd,c1,f1,h1,C,ns,xs,sp,ed,M,hm,hq⟩:=zq
 subst ed
 obtain⟨a,dx,ws,rfl,ea,hl,r0⟩:=zB sd
 obtain rfl:u=cB a:=rx
 obtain⟨f,fd,ps,p9,FO,hb⟩:=M.ex
 refine BO I1 ea M.cls p9 (HK hm) ?_
 refine PySem.W.callWith_K (first:=[.ref a]) (h₀:=X.base) I.ok.mod.mr p9.kp (aP (ha pos pins s1 σ H1 (λvs H2=>∃ds aV F2,S F2 H2 ds vs/\ao B F2 H2 σ aV ts/\af F1 F2/\af H1 H2/\sp ((D.obj C ns xs::ds).map D.sh) (λr=>((D.obj C ns xs::ds).all D.pl||r.fr)=true/\Qd r aV) λ_=>False) I1
  ⟨B,F1,ak,ts,_,c1,hq,λds aV vs F2 H2 hq f2 h2 c2 s2=>⟨ds,aV,F2,s2,c2,f2,h2,hq⟩⟩) λus s2 ⟨vs,H2,I2,r,ds,aV,F2,HL,c2,f2,h2,iA⟩=>⟨I2.cY,?_⟩) cw bu
 refine uF (us:=.ref a::us) (vs:=.ref a::vs) (fu:=[]) (Cy FO) hr hb .nil Cw I2 (.cons rfl r) ?_
 rw[fH]
 exact yq (sp:=λds Q=>sp ds Q λ_=>False) c2 (.obj (h2 _ _ ea) hl (r0.shared f2 h2) HL) iA λd v F' H' hd hf hs c'=>k d aV v F' H' hd (f1.trans (f2.trans hf)) (h1.trans (h2.trans hs)) c'
end
section
variable{X:Cx}{tb th:cO}{body Hl:List Stmt}{Hm:Stmt}{K:Str}{Kc:Addr}{kp Qm pos:Pos}
end
structure wB(K:PySem.W.Frag)(C:Addr):Prop where
 cls:cC K C
 ha:PySem.W.findIn K (.ref C) "__class__"=some (some (.builtin "object.__class__"))
 hn:PySem.W.specialIn K (.builtin "object.__class__") "__get__"=some (some (.builtin "getset_descriptor.__get__"))
 BP:PySem.W.takesIn K (.builtin "object.__class__")=some true
 hm:PySem.W.mroIn K C (.type "object")=some true
def wC(K:PySem.W.Frag)(cv:Value)(t:aN):aN:=λδ Q=>t δ λd ah=>∃C ns xs r,d=.obj C ns xs/\wB K C/\PySem.W.kitOne K (.ref C) cv=some r/\Q (.bl r) ah
theorem cG5{X:Cx}{a:Expr}{ta:aN}{p pos:Pos}{y:Str}{q:Pos}{C:Addr}(hg:Gl X "isinstance")(hm:X.mg "isinstance"=none)(sk:Gl X y)(mO:X.mg y=some (.ref C))(ha:PE X a (lB ta))(hd:(y==("__debug__":Str))=false:=by decide)
  (hs:starEach [a,.Name y q] X.env=(false,eval a X.env)::starEach [.Name y q] X.env:=by rfl) (eI:starEach [.Name y q] X.env=(false,eval (.Name y q) X.env)::starEach [] X.env:=by rfl) (bu:(backTo pos (starEach [.Name y q] X.env)).any (·.1)=false:=by rfl) :
  PE X (.Call (.Name "isinstance" p) [a,.Name y q] [] pos) (lE (wC X.K (.ref C) ta)) :=
 dv (yd Qn hg hm Gv (bV ha (bV (NX (v:=.ref C) sk mO rfl hd) fg eI) hs) (by decide) (by decide) hs bu) λσ H Q zq=>by
 obtain⟨B,F,δ,ts,Qd,c,q,k⟩:=zq
 exact⟨B,F,δ,ts,_,c,q,λd ak v F1 H1 q1 f1 h1 c1 s1=>by
  obtain⟨C',ns,xs,r,ed,oc,e,qr⟩:=q1
  subst ed
  obtain⟨a,dx,ws,rfl,ea,_,_⟩:=zB s1
  exact⟨.ref a,_,_,.ref C',r,rfl,rfl,.ty (.ins ea oc.cls oc.ha oc.hn oc.BP oc.hm),e,k _ ak _ F1 H1 qr f1 h1 (c1.pushS (.bl .nil) rfl)⟩⟩
end L3
namespace L3
open PySem L2 Mf
theorem Rl{m:Bool × Nat}(hm:m∈aE){a b:Nat}(a1:1<=a)(a2:a<ae m)(b1:1<=b)(b2:b<ae m):∃r:Nat,pw m ((lg m a-lg m b)%((ae m:Int)-1)).toNat=r/\r<ae m/\gm m r b=a:=by
 have hF:=c9 hm
 have fk:=hF.lo
 have n0:=gL (lg m a-lg m b) (show(ae m:Int)-1≠0 by omega)
 have n1:=g9 (lg m a-lg m b) (show(0:Int)<(ae m:Int)-1 by omega)
 obtain⟨p1,p2,p3⟩:=CS hm (k:=((lg m a-lg m b)%((ae m:Int)-1)).toNat) (by omega)
 obtain⟨g0,g1,g2⟩:=CT hm a1 a2
 refine⟨(pw m ((lg m a-lg m b)%((ae m:Int)-1)).toNat).toNat,by omega,by omega,?_⟩
 have e:=HR hm (a:=(pw m ((lg m a-lg m b)%((ae m:Int)-1)).toNat).toNat) (by omega) (by omega) b1 b2
 rw[p3,xK n0,Int.emod_add_emod,Int.sub_add_cancel,NC g0 g1,g2]at e
 omega
end L3
namespace L3
open PySem L2 PySem.Spec PyProof.Rows
section
variable{X:Cx}{e o a:Expr}{es:List Expr}{f m y:Str}{pos p apos q:Pos}{t to ta':aN}{ta:cF}{n:Nat}{P:Program}{w:World}{K:PySem.W.Frag}{mg:Str->Option Value}{base:Heap}
theorem bZ(he:PE X e (lB t))(hK:K=X.K:=by rfl)(hb:attributeBase e f X.env (eval e X.env)=eval e X.env:=by rfl):PE X (.Attribute e f pos) (lB (sN K t f)):=by
 subst hK;exact cM9 he hb
theorem iT{pl:Sem Bool}(ho:PE X o (lB to))(hr:bS n X.A)(ha:PA X (e::es) (lA ta))(hP:P=X.prog:=by rfl)(hw:w=X.w:=by rfl)(hK:K=X.K:=by rfl)(hm:mg=X.mg:=by rfl)(hb:base=X.base:=by rfl)
  (cw:starEach (e::es) X.env=(false,eval e X.env)::starEach es X.env:=by rfl) (bu:(backTo pos (starEach es X.env)).any (·.1)=false:=by rfl)
  (ht:eval (.Call (.Attribute o m apos) (e::es) [] pos) X.env=(do
   let ov<-eval o X.env
   standAt apos.atName
   let (f,first)<-holding [ov] (getMethod ov m pl)
   callWith pos f first (backTo pos (starEach (e::es) X.env)) (backToKw pos (keywordEach [] X.env))):=by rfl) :
  PE X (.Call (.Attribute o m apos) (e::es) [] pos) (lE (sO (i9 P w K mg base n m) m to ta)):=by
 subst hP hw hK hm hb;exact cI0 ho hr ha cw bu ht
theorem wD{pl:Sem Bool}(ho:PE X o (lB to))(hr:bS n X.A)(hP:P=X.prog:=by rfl)(hw:w=X.w:=by rfl)(hK:K=X.K:=by rfl)(hm:mg=X.mg:=by rfl)(hb:base=X.base:=by rfl)
  (ht:eval (.Call (.Attribute o m apos) [] [] pos) X.env=(do
   let ov<-eval o X.env
   standAt apos.atName
   let (f,first)<-holding [ov] (getMethod ov m pl)
   callWith pos f first (backTo pos (starEach [] X.env)) (backToKw pos (keywordEach [] X.env))):=by rfl) :
  PE X (.Call (.Attribute o m apos) [] [] pos) (lE (sP (i9 P w K mg base n m) m to)):=by
 subst hP hw hK hm hb;exact co3 ho hr ht
theorem Rm{pl:Sem Bool}(ho:PE X o (lB to))(hr:bS n X.A)(ha:PA X (e::es) (lA ta))(hP:P=X.prog:=by rfl)(hw:w=X.w:=by rfl)(hK:K=X.K:=by rfl)(hm:mg=X.mg:=by rfl)(hb:base=X.base:=by rfl)
  (cw:starEach (e::es) X.env=(false,eval e X.env)::starEach es X.env:=by rfl) (bu:(backTo pos (starEach es X.env)).any (·.1)=false:=by rfl)
  (ht:eval (.Call (.Attribute o m apos) (e::es) [] pos) X.env=(do
   let ov<-eval o X.env
   standAt apos.atName
   let (f,first)<-holding [ov] (getMethod ov m pl)
   callWith pos f first (backTo pos (starEach (e::es) X.env)) (backToKw pos (keywordEach [] X.env))):=by rfl) :
  PE X (.Call (.Attribute o m apos) (e::es) [] pos) (lE (sT (CW P w K mg base n m) m to ta)):=by
 subst hP hw hK hm hb;exact ct4 ho hr ha cw bu ht
end
theorem HV:∀m∈Mf.aE,1<=Mf.bl m.2/\Mf.bl m.2<=7:=by decide +kernel
end L3
namespace L3
open PySem L2 Mf
def gp(m:Bool × Nat)(a b:Nat):Nat:=if m.1 then a ^^^ b else(a+b)%m.2
def gl(m:Bool × Nat)(a b:Nat):Int:=if m.1 then(a ^^^ b:Nat)else((a:Int)-b)%m.2
def gd(m:Bool × Nat)(xs ys:List Nat):Nat:=(dr (gm m) xs ys).foldl (gp m) 0
def qh(c:Int):Bool × Nat:=if c%2=0 then(true,gW.getD (c/2%21).toNat 0)else(false,oh.getD (c/2%18).toNat 0)
theorem cb0(c:Int):qh c∈aE:=by
 unfold qh
 split
 ·refine eR _ (bB.mpr ⟨_,?_,rfl⟩)
  have h:(c/2%21).toNat<gW.length:=by
   have:=g9 (c/2) (show(0:Int)<21 by decide)
   show _<21
   omega
  rw[aS,aR h]
  exact eG _
 ·refine dq _ (bB.mpr ⟨_,?_,rfl⟩)
  have h:(c/2%18).toNat<oh.length:=by
   have:=g9 (c/2) (show(0:Int)<18 by decide)
   show _<18
   omega
  rw[aS,aR h]
  exact eG _
def cU(m:Bool × Nat):D:=.tup [.bl m.1,.int m.2]
theorem wF(cb cp:Addr)(m:Bool × Nat):fD cb cp m=.obj (if m.1 then cb else cp) (if m.1 then iS "bits"++[("products":Str)]else iS "prime") (if m.1 then pD (true,m.2)++[.lst false (oj (fl (true,m.2)) (eW (fl (true,m.2))))]else pD (false,m.2)):=by
 obtain⟨k,n⟩:=m
 cases k<;>rfl
theorem Rn(m:Bool × Nat)(x:Str)(h:x ∉ (["bits","prime","many","wide","powers","logs","step","products"]:List Str)):x ∉ (if m.1 then iS "bits"++[("products":Str)]else iS "prime"):=by
 obtain⟨k,n⟩:=m
 intro z
 apply h
 cases k
 ·have z:x∈iS "prime":=z
  simp[iS]at z
  simp only[cH]
  rcases z with z | z | z | z | z | z<;>simp[z]
 ·have z:x∈iS "bits"++[("products":Str)]:=z
  simp[iS]at z
  simp only[cH]
  rcases z with z | z | z | z | z | z | z<;>simp[z]
theorem zI(cb cp:Addr)(m:Bool × Nat):(fD cb cp m).sh=fD cb cp m:=by rw[wF];rfl
theorem wH(cb cp:Addr)(m:Bool × Nat):(fD cb cp m).pl=true:=by rw[wF];rfl
theorem cp1(m:Bool × Nat):(cU m).sh=cU m:=rfl
theorem cs6(m:Bool × Nat):(cU m).pl=true:=rfl
def Ro(P:Program)(w:World)(K:PySem.W.Frag)(mg:Str->Option Value)(base:Heap)(n:Nat)(cb cp:Addr)(m:Bool × Nat)(x:Str)(ds:List D)(Q:D->Prop):Prop:=∃C ns xs sp,fD cb cp m=.obj C ns xs/\i9 P w K mg base n x C sp/\x ∉ ns/\sp (.obj C ns xs::ds) Q
theorem Rp{p:Nat}(hp:0<p):∀(l:List Nat) (acc:Nat),acc<p->l.foldl (gp (false,p)) acc=(acc+l.sum)%p
 | [],acc,h=>by simp[xI h]
 | x::l,acc,h=>by
  rw[ub,show gp (false,p) acc x=(acc+x)%p from rfl,Rp hp l _ (um _ hp),ND]
  show((acc+x)%p+l.sum)%p=_
  rw[xJ,Fh]
theorem Rq(p:Nat):∀xs ys:List Nat,(dr (gm (false,p)) xs ys).sum%p=(dr (· * ·) xs ys).sum%p
 | [],_=>by simp
 | _::_,[]=>by simp
 | x::xs,y::ys=>by
  simp only[NF,ND]
  show(x*y%p+_)%p=_
  rw[xJ,Nat.add_mod,Rq p xs ys,<- Nat.add_mod]
theorem Rt:∀xs ys:List Nat,(dr (· * ·) (xs.map λ(n:Nat)=>(n:Int)) (ys.map λ(n:Nat)=>(n:Int))).sum=(((dr (· * ·) xs ys).sum:Nat):Int)
 | [],_=>by simp
 | _::_,[]=>by simp
 | x::xs,y::ys=>by
  simp only[dy,NF,ND]
  rw[Rt xs ys,Fo,uo]
theorem qi(m:Bool × Nat)(a b:Nat):gp m a b=gp m b a:=by
 unfold gp
 split
 ·rw[Nh]
 ·rw[Nd]
theorem HW(m:Bool × Nat)(a b c:Nat):gp m (gp m a b) c=gp m a (gp m b c):=by
 unfold gp
 split
 ·rw[qM]
 ·rw[xJ,Nat.add_mod_mod,Fh]
theorem HX{m:Bool × Nat}(h:0<m.2)(a b c:Nat):gm m (gp m a b) c=gp m (gm m a c) (gm m b c):=by
 unfold gm gp
 split
 ·rw[pq,CQ (by omega)]
 ·rw[xH,NA,<- xH,Nat.add_mul,xJ,Nat.add_mod_mod]
theorem Ru{m:Bool × Nat}(h:0<m.2)(a b c:Nat):gm m c (gp m a b)=gp m (gm m c a) (gm m c b):=by rw[gg,HX h,gg m a,gg m b]
theorem cc3:∀m∈aE,m.1=true->2<=bl m.2:=by decide +kernel
theorem Rw{m:Bool × Nat}(hm:m∈aE){a b:Nat}(ha:a<ae m)(hb:b<ae m):gp m a b<ae m:=by
 have h0:=dm m hm
 obtain⟨k,n⟩:=m
 cases k with
 | true=>exact uJ ha hb
 | false=>exact um _ h0
theorem cV{m:Bool × Nat}(hm:m∈aE)(a b:Nat):gm m a b<ae m:=by
 have h0:=dm m hm
 obtain⟨k,n⟩:=m
 cases k with
 | true =>
  have h2:=cc3 (true,n) hm rfl
  have:=(yj (show n≠0 by have:0<n:=h0;omega) (cl a b)).2
  refine(Rb rfl).mpr ?_
  show bl (md (cl a b) n)<=bl n-1
  omega
 | false=>exact um _ h0
theorem Rx{m:Bool × Nat}{a:Nat}(ha:a<ae m):gp m 0 a=a:=by
 obtain⟨k,n⟩:=m
 cases k with
 | true=>exact oQ a
 | false=>show(0+a)%n=a;rw[Fp];exact xI ha
theorem zJ{m:Bool × Nat}{a:Nat}(ha:a<ae m):gp m a 0=a:=by rw[qi];exact Rx ha
theorem cK9{m:Bool × Nat}(hm:m∈aE){a b:Nat}(ha:a<ae m)(hb:b<ae m):∃r:Nat,gl m a b=r/\r<ae m/\gp m r b=a:=by
 have h0:=dm m hm
 obtain⟨k,n⟩:=m
 cases k with
 | true=>exact⟨a ^^^ b,rfl,uJ ha hb,by show a ^^^ b ^^^ b=a;rw[qM,A6,mj]⟩
 | false =>
  have h0:0<n:=h0
  have ha:a<n:=ha
  have hb:b<n:=hb
  refine⟨(a+(n-b))%n,?_,um _ h0,?_⟩
  ·show((a:Int)-b)%n=_
   rw[oU,Fo,Int.natCast_sub (by omega),show((a:Int)+((n:Int)-b))=((a:Int)-b)+n by omega,Int.add_emod_right]
  ·show((a+(n-b))%n+b)%n=a
   rw[xJ,show a+(n-b)+b=a+n by omega,Nat.add_mod_right,xI ha]
def eS(m:Bool × Nat)(n:Int):Nat:=(pw m (n%((ae m:Int)-1)).toNat).toNat
theorem wI{m:Bool × Nat}(hm:m∈aE)(n:Int):1<=eS m n/\eS m n<ae m/\lg m (eS m n)=n%((ae m:Int)-1)/\pw m (n%((ae m:Int)-1)).toNat=eS m n:=by
 have fk:=(c9 hm).lo
 have n0:=gL n (show(ae m:Int)-1≠0 by omega)
 have n1:=g9 n (show(0:Int)<(ae m:Int)-1 by omega)
 obtain⟨p1,p2,p3⟩:=CS hm (k:=(n%((ae m:Int)-1)).toNat) (by omega)
 unfold eS
 rw[p3]
 omega
theorem cR4{m:Bool × Nat}(hm:m∈aE)(n:Int):eS m n<ae m:=(wI hm n).2.1
theorem cO0{m:Bool × Nat}(hm:m∈aE)(a b:Int):gm m (eS m a) (eS m b)=eS m (a+b):=by
 obtain⟨a1,a2,a3,_⟩:=wI hm a
 obtain⟨b1,b2,b3,_⟩:=wI hm b
 have e:=HR hm a1 a2 b1 b2
 rw[a3,b3,<- Int.add_emod]at e
 have c:=(wI hm (a+b)).2.2.2
 rw[c]at e
 omega
theorem Ry{m:Bool × Nat}(hm:m∈aE){a:Nat}(h1:1<=a)(h2:a<ae m):eS m (lg m a)=a:=by
 obtain⟨g0,g1,g2⟩:=CT hm h1 h2
 unfold eS
 rw[NC g0 g1,g2];rfl
theorem Rz{m:Bool × Nat}(hm:m∈aE)(n:Int):(fl m)[(n%((ae m:Int)-1)).toNat]?=some ((eS m n:Nat):Int):=by
 have hF:=c9 hm
 have fk:=hF.lo
 have n0:=gL n (show(ae m:Int)-1≠0 by omega)
 have n1:=g9 n (show(0:Int)<(ae m:Int)-1 by omega)
 have hk:(n%((ae m:Int)-1)).toNat<(fl m).length:=by have:=hF.len;omega
 rw[<-(wI hm n).2.2.2]
 unfold pw
 rw[aS,aR hk];rfl
theorem cK4{m:Bool × Nat}(hm:m∈aE){a b:Nat}(a1:1<=a)(a2:a<ae m)(b1:1<=b)(b2:b<ae m):gm m a b≠0:=by
 rw[<-Ry hm a1 a2,<- Ry hm b1 b2,cO0 hm]
 have:=(wI hm (lg m a+lg m b)).1
 omega
end L3
namespace L2
open PySem PySem.Spec PyProof.Rows
section
variable{X:Cx}{a:Expr}{ta:TA}{p pos:Pos}{tg:Expr}
end
end L2
namespace L3
open PySem L2 PySem.Spec PyProof.Rows
section
variable{F H:Hp}{K:PySem.W.Frag}{p:Addr}{ws:List V}{xs:List D}
end
section
variable{X:Cx}{a:Expr}{ta:cF}{p pos:Pos}{tg:Expr}
end
end L3
namespace L3
open PySem L2 Mf
def AllLt(n:Nat)(l:List Nat):Prop:=∀a∈l,a<n
theorem AllLt.getD{n:Nat}{l:List Nat}(h:AllLt n l)(h0:0<n)(k:Nat):l.getD k 0<n:=by
 rw[aS]
 cases e:l[k]? with
 | none=>exact h0
 | some v=>exact h v (t7 e)
end L3
namespace L3
open PySem L2 PySem.Spec PyProof.Rows
theorem b88(n:Nat)(l:List Nat):(av l).all (eA n)=true:=by
 rw[cT,mm,dj]
 intro a _
 exact sC n _
theorem HY(n:Nat)(o:Bool)(l:List Nat):eA (n+1) (.lst o (av l))=true:=b88 n l
theorem CY(o o':Bool)(a b:List Nat):bF (.lst o (av a)) (.lst o' (av b))=decide (a=b):=by
 unfold av
 rw[vT]
 congr 1
 apply propext
 constructor
 ·intro h
  have:=congrArg (ui dS) h
  have e:(dS ∘ λ(n:Nat)=>(n:Int))=id:=by funext x;rfl
  rw[cu,cu,e,List.map_id,List.map_id]at this
  exact this
 ·intro h;rw[h]
theorem sU{l:List Nat}{k:Int}(h0:0<=k)(h:k.toNat<l.length):fh (av l) k=some (.int ((l.getD k.toNat 0:Nat):Int)):=by
 refine nv h0 ?_
 rw[cT,cM,aR h,aS,aR h];rfl
theorem CZ{n:Nat}{k:Int}(h0:0<=k)(h:k.toNat<n):i6 n k=some k.toNat:=by
 unfold i6
 rw[if_pos h0,if_pos (by omega)]
theorem om{n:Nat}(k:Int)(h:k=n):(((aL k.toNat).map λ(k:Nat)=>D.int (0+(k:Int))).map D.sh)=(aL n).map λ(i:Nat)=>D.int (i:Int):=by
 subst h
 rw[yt,iX]
 simp
theorem RA(l:List Nat)(k v:Nat):(av l).set k (.int (v:Nat))=av (l.set k v):=by
 rw[cT,cT,xM]
theorem ca6(l:List Nat):(av l).all D.fr=true:=su _
theorem wJ(o:Bool)(l:List Nat):(D.lst o (av l)).sh=.lst false (av l):=by rw[dD,sH]
theorem iU(l:List Nat):(D.lst true (av l)).fr=true:=by rw[fW,ca6];rfl
theorem cp8{xs:List D}{i:Nat}{d:D}(h:(gb xs)[i]?=some d):∃hi:i<xs.length,d=.tup [.int i,xs[i]]:=by
 have hi:i<(gb xs).length:=(ki.mp h).1
 rw[sD]at hi
 refine⟨hi,?_⟩
 unfold gb at h
 rw[Bc,aR hi]at h
 exact(dn h).symm
theorem ch3{l:List Nat}{i:Nat}{d:D}(h:(gb (av l))[i]?=some d):∃hi:i<l.length,d=.tup [.int i,.int (l[i]:Nat)]:=by
 obtain⟨hi,e⟩:=cp8 h
 rw[fw]at hi
 refine⟨hi,?_⟩
 rw[e]
 simp only[cT,xN]
theorem cf3{a:Int}{n i:Nat}{d:D}(h:((aL n).map λ(k:Nat)=>D.int (a+(k:Int)))[i]?=some d):i<n/\d=.int (a+i):=by
 have hi:i<n:=by
  have:=(ki.mp h).1
  simpa using this
 refine⟨hi,?_⟩
 rw[cM,jL hi]at h
 exact(dn h).symm
section
variable{X:Cx}
end
end L3
namespace L3
open PySem L2 Mf
def bP(m:Bool × Nat)(a b:Nat):Nat:=(gl m a b).toNat
theorem mV{m:Bool × Nat}(hm:m∈aE){a b:Nat}(ha:a<ae m)(hb:b<ae m):gl m a b=(bP m a b:Nat)/\bP m a b<ae m/\gp m (bP m a b) b=a:=by
 obtain⟨r,e,h1,h2⟩:=cK9 hm ha hb
 have:bP m a b=r:=by unfold bP;rw[e];rfl
 rw[this]
 exact⟨e,h1,h2⟩
theorem HZ{n:Nat}{f:Nat->Nat->Nat}:∀{a b:List Nat},(∀x∈a,∀y∈b,f x y<n)->AllLt n (dr f a b)
 | [],_,_=>by intro x hx;simp at hx
 | _::_,[],_=>by intro x hx;simp at hx
 | x::a,y::b,h=>by
  intro z hz
  rw[NF]at hz
  rcases cH.mp hz with rfl | hz
  ·exact h x (by simp) y (by simp)
  ·exact HZ (λx hx y hy=>h x (by simp[hx]) y (by simp[hy])) z hz
theorem bX0(xs ys:List Nat):(fm (av xs) (av ys)).map D.sh=(xs.zip ys).map λz=>D.tup [.int (z.1:Int),.int (z.2:Int)]:=by
 unfold av
 rw[Rk,List.zip_map,cu];rfl
theorem RB{sh:Bool}{aD:List (Str × Nat)}{n i1 i2:Nat}{te:aN}{ak:Dl}{Q:D->Dl->Prop}(f:Nat->Nat->Nat){A B:List Nat}(hx:∀x∈A,∀y∈B,jz i1 i2 (.tup [.int (x:Int),.int (y:Int)]) (gC aD n ak) λaV=>te aV λd _=>d=.int ((f x y:Nat):Int))
  (hl:A.length<=100000) (hq:Q (.lst true (av (dr f A B))) ak):vk sh (fm (av A) (av B)) aD n (jz i1 i2) mI te ak Q:=by
 refine HS (A.zip B) (λz=>D.tup [.int (z.1:Int),.int (z.2:Int)]) (λz=>D.int ((f z.1 z.2:Nat):Int)) (bX0 A B) (λa b h=>?_) (λz hz=>hx z.1 (tZ hz).1 z.2 (tZ hz).2) HU (.inr λ_ _=>rfl) (by rw[Fq,sL];omega) ?_
 ·injection h with h
  simp at h
  exact Prod.ext (by omega) (by omega)
 ·rw[show((A.zip B).map λz=>D.int ((f z.1 z.2:Nat):Int))=av (dr f A B) by rw[cT,List.zip,Fj,Fj]]
  exact hq
end L3
namespace L3
open PySem L2 PySem.Spec PyProof.Rows
theorem ao.dp4{B:Bs}{F H:Hp}{σ:L2.St}{δ:Dl}{ps ts:List (D × V)}{p:Addr}{o:HO}{A1:List Addr}(c:ao B F H σ δ (ps++ts))(hp:H p=none)(r:R F (upd H p o) (ps.map (·.1)) (ps.map (·.2)) A1):p ∉ A1:=λh=>by
 obtain⟨A,C,r0,_,_,_⟩:=c.own
 rw[eH,eH]at r0
 obtain⟨v1,v2,B1,B2,e,rfl,h1,h2⟩:=R.split r0
 have l1:(ps.map (·.2)).length=v1.length:=by rw[<-h1.length];simp
 obtain⟨rfl,rfl⟩:=Ff e l1
 have g1:=h1.grow (af.refl F) (af.upd (o:=o) hp) λa ha=>(h1.lists a ha).2
 have:A1=B1:=R.inj r g1
 subst this
 obtain⟨ws,e⟩:=(h1.lists p h).1
 rw[hp]at e;cases e
theorem ao.join{B:Bs}{F H:Hp}{σ:L2.St}{δ:Dl}{ts:List (D × V)}{p p' r:Addr}{xs ys:List D}{ws gR:List V}(c:ao B F H σ δ ((.lst true ys,.ref p')::(.lst true xs,.ref p)::ts))(e1:H p=some (.lst ws))(e2:H p'=some (.lst gR))(hr:H r=none) :
  ao B F (upd H r (.lst (ws++gR))) σ δ ((.lst true (xs++ys),.ref r)::ts):=by
 refine ao.pack (ps:=[(.lst true ys,.ref p'),(.lst true xs,.ref p)]) c (af.upd hr) λA1 r1 nd=>?_
 have nin:=ao.dp4 (ps:=[(.lst true ys,.ref p'),(.lst true xs,.ref p)]) (ts:=ts) c hr r1
 have n1:p≠r:=λz=>by rw[z,hr]at e1;cases e1
 have n2:p'≠r:=λz=>by rw[z,hr]at e2;cases e2
 have r1:R F (upd H r (.lst (ws++gR))) [.lst true ys,.lst true xs] [.ref p',.ref p] A1:=r1
 cases r1 with
 | @own _ wy _ Ay _ _ By hy fy ry rb =>
  cases rb with
  | @own _ wx _ Ax _ _ Bx hx fx rx rc =>
   cases rc
   rw[aT n2,e2]at hy;cases hy
   rw[aT n1,e1]at hx;cases hx
   refine⟨r::(Ax++Ay),by simpa using R.own bH (c.ext.free hr) (rx.append ry) .nil,?_,λa ha=>?_⟩
   ·refine mh.mpr ⟨λz=>nin ?_,?_⟩
    ·rcases cI.mp z with z | z<;>simp[z]
    ·have sl:(Ay++Ax).Sublist (p'::Ay++(p::Ax++[])):=by
      rw[fH]
      exact(((YN p Ax).append_left Ay).trans (YN p' _))
     exact oS.nodup_iff.mp (nd.sublist sl)
   ·simp only[cH,cI]at ha ⊢
    rcases ha with rfl | ha | ha
    ·exact .inr hr
    ·simp[ha]
    ·simp[ha]
section
variable{X:Cx}{a b:Expr}{ta tb:aN}{pos:Pos}
def wK(ta tb:aN):aN:=λδ Q=>ta δ λx ak=>tb ak λy aV=>∃xs ys,x=.lst true xs/\y=.lst true ys/\xs.length+ys.length<=sizeLine/\Q (.lst true (xs++ys)) aV
theorem cD0(ha:PE X a (lE ta))(hb:PE X b (lE tb)):PE X (.BinOp a .Add b pos) (lE (wK ta tb)) :=
 dv (ya OD ha hb) λσ H Q ⟨B,F,δ,ts,Qd,c,q,k⟩ =>
  ⟨B,F,δ,ts,_,c,q,λx ak v F1 H1 q1 f1 h1 c1=>⟨B,F1,ak,(x,v)::ts,_,c1,q1,λy aV w F2 H2 q2 f2 h2 c2=>by
   obtain⟨xs,ys,rfl,rfl,hz,hq⟩:=q2
   obtain⟨p',gR,rfl,e2,s2⟩:=jx c2.top c2.ext
   obtain⟨p,ws,rfl,e1,s1⟩:=jx c2.pop.top c2.ext
   refine⟨p,p',ws,gR,rfl,rfl,e1,e2,by rw[<-s1.length,<- s2.length];exact hz,λr hr=>?_⟩
   exact k _ aV _ F2 _ hq (f1.trans f2) ((h1.trans h2).trans (af.upd hr)) (c2.join e1 e2 hr)⟩⟩
end
theorem bX4{a b:List Nat}(h:av a=av b):a=b:=by
 have:=CY true true a b
 rw[h,show bF (D.lst true (av b)) (D.lst true (av b))=true from(CY _ _ _ _).trans (decide_eq_true rfl)]at this
 exact of_decide_eq_true this.symm
theorem mW{o:Bool}(a b:List Nat)(h:D.lst o (av a)=D.lst o (av b)):a=b:=bX4 (by injection h)
end L3
namespace L3
open PySem L2 Mf
end L3
namespace L2
open PySem PySem.Spec PyProof.Rows
end L2
namespace L3
open PySem L2 PySem.Spec PyProof.Rows Mf
end L3
namespace L3
open PySem L2 Mf
def cf(l:List Nat)(k:Nat):Nat:=l.getD k 0
theorem qj{l:List Nat}{k:Nat}(h:l.length<=k):cf l k=0:=by
 unfold cf;rw[aS,gw h];rfl
theorem fK{m:Bool × Nat}(hm:m∈aE){l:List Nat}(h:AllLt (ae m) l)(k:Nat):cf l k<ae m:=h.getD (by have:=(c9 hm).lo;omega) k
theorem RC(m:Bool × Nat)(x:Nat):bP m x x=0:=by
 obtain⟨k,n⟩:=m
 cases k with
 | true=>show(((x ^^^ x:Nat):Int)).toNat=0;rw[A6];rfl
 | false=>show(((x:Int)-(x:Int))%(n:Int)).toNat=0;rw[Int.sub_self,Int.zero_emod];rfl
end L3
namespace L3
open PySem L2 PySem.Spec PyProof.Rows
section
variable{B:Bs}{F H:Hp}{σ:L2.St}{δ:Dl}{ts ps:List (D × V)}{i k:Nat}{p q:Addr}{l1 l2 ys Pl:List D}{ws vD:List V}
end
section
variable{X:Cx}{F H:Hp}{e b:Expr}{pos p p2 p3 pr apos cE Hi:Pos}{t ti te:aN}{x y:Str}{i j:Nat}
end
end L3
namespace L3
structure Rg(N:Nat)(p q:Nat->Nat->Nat):Prop where
 pc:∀a b,p a b=p b a
 pa:∀a b c,p (p a b) c=p a (p b c)
 mc:∀a b,q a b=q b a
 ma:∀{a b c},a<N->b<N->c<N->q (q a b) c=q a (q b c)
 dl:∀a b c,q a (p b c)=p (q a b) (q a c)
 z:∀{a},a<N->p 0 a=a
 qz:∀a,q a 0=0
 one:∀{a},a<N->q 1 a=a
 lp:∀{a b},a<N->b<N->p a b<N
 lq:∀a b,q a b<N
 ng:∀{a},a<N->∃b,b<N/\p a b=0
section
variable{N:Nat}{p q:Nat->Nat->Nat}
def sm(p:Nat->Nat->Nat):Nat->(Nat->Nat)->Nat
 | 0,_=>0
 | n+1,f=>p (sm p n f) (f n)
theorem Rg.pos(r:Rg N p q):0<N:=m9 (mf _) (r.lq 0 0)
theorem Rg.z'(r:Rg N p q){a:Nat}(h:a<N):p a 0=a:=by rw[r.pc];exact r.z h
theorem Rg.RD(r:Rg N p q){a b c:Nat}(ha:a<N)(hb:b<N)(hc:c<N)(h:p a c=p b c):a=b:=by
 obtain⟨d,_,e⟩:=r.ng hc
 have:=congrArg (λx=>p x d) h
 simp only[r.pa,e]at this
 rw[r.z' ha,r.z' hb]at this
 exact this
theorem Rg.cn(r:Rg N p q){a b:Nat}(ha:a<N)(hb:b<N)(h:p a b=b):a=0:=r.RD ha r.pos hb (by rw[h,r.z hb])
theorem cP{f g:Nat->Nat}:∀{n:Nat},(∀j,j<n->f j=g j)->sm p n f=sm p n g
 | 0,_=>rfl
 | n+1,h=>by rw[sm,sm,cP λj hj=>h j (by omega),h n (by omega)]
theorem oo(r:Rg N p q){f:Nat->Nat}:∀{n:Nat},(∀j,j<n->f j<N)->sm p n f<N
 | 0,_=>r.pos
 | n+1,h=>r.lp (oo r λj hj=>h j (by omega)) (h n (by omega))
theorem gu(r:Rg N p q){f:Nat->Nat}:∀{n:Nat},(∀j,j<n->f j=0)->sm p n f=0
 | 0,_=>rfl
 | n+1,h=>by rw[sm,gu r λj hj=>h j (by omega),h n (by omega)];exact r.z r.pos
theorem Rg.four(r:Rg N p q)(a b c d:Nat):p (p a b) (p c d)=p (p a c) (p b d):=by
 rw[r.pa,r.pa,<- r.pa b,<- r.pa c,r.pc b c]
theorem qk(r:Rg N p q)(f g:Nat->Nat):∀n,sm p n (λj=>p (f j) (g j))=p (sm p n f) (sm p n g)
 | 0=>(r.z r.pos).symm
 | n+1=>by rw[sm,qk r f g n,sm,sm,r.four]
theorem mX(r:Rg N p q)(c:Nat)(f:Nat->Nat):∀n,sm p n (λj=>q c (f j))=q c (sm p n f)
 | 0=>(r.qz c).symm
 | n+1=>by rw[sm,mX r c f n,sm,r.dl]
theorem Ia(r:Rg N p q)(F:Nat->Nat->Nat)(k:Nat):∀n,sm p n (λi=>sm p k λj=>F i j)=sm p k λj=>sm p n λi=>F i j
 | 0=>(gu r λ_ _=>rfl).symm
 | n+1=>by
  rw[sm,Ia r F k n,<- qk r];rfl
theorem RE(r:Rg N p q){f:Nat->Nat}(n:Nat):∀k,(∀j,j<n+k->f j<N)->sm p (n+k) f=p (sm p n f) (sm p k λj=>f (n+j))
 | 0,h=>(r.z' (oo r λj hj=>h j (by omega))).symm
 | k+1,h=>by
  rw[<-Fh,sm,RE r n k λj hj=>h j (by omega),sm,r.pa]
end
end L3
namespace L3
section
variable{N:Nat}{p q:Nat->Nat->Nat}
end
end L3
namespace L3
open PySem L2 Mf
theorem rg{m:Bool × Nat}(hm:m∈aE):Rg (ae m) (gp m) (gm m) where
 pc:=qi m
 pa:=HW m
 mc:=gg m
 ma:=λ_ _ _=>jD (dm m hm) _ _ _
 dl:=λa b c=>Ru (dm m hm) b c a
 z:=Rx
 qz:=λa=>lK m a (dm m hm)
 one:=mU
 lp:=Rw hm
 lq:=cV hm
 ng:=λ{a} ha=>by
  have g:=mV hm (a:=0) (b:=a) (by omega) ha
  exact⟨_,g.2.1,(qi m _ _).trans g.2.2⟩
theorem ch9(p:Nat->Nat->Nat)(l:List Nat):l.foldl p 0=sm p l.length λj=>l.getD j 0:=by
 have key:∀n,n<=l.length->(l.take n).foldl p 0=sm p n λj=>l.getD j 0:=by
  intro n
  induction n with
  | zero=>intro _;rfl
  | succ n ih =>
   intro h
   rw[qP,aR (by omega),Be,ih (by omega),sm,aS,aR (show n<l.length by omega)]
   rfl
 have:=key l.length (bM _)
 rw[ug]at this
 exact this
theorem cH0{m:Bool × Nat}(hm:m∈aE)(f:Nat)(b:List Nat)(j:Nat):cf (b.map (gm m f)) j=gm m f (cf b j):=by
 unfold cf
 rw[aS,cM,aS]
 cases b[j]? with
 | none=>exact(lK m f (dm m hm)).symm
 | some x=>rfl
theorem RF{m:Bool × Nat}(hm:m∈aE){a b:Nat}(ha:a<ae m)(hb:b<ae m)(h0:b≠0):∃r,r<ae m/\gm m r b=a:=by
 by_cases a0:a=0
 ·exact⟨0,by have:=(c9 hm).lo;omega,by rw[a0];exact gX m b (dm m hm)⟩
 ·obtain⟨r,_,h1,h2⟩:=Rl hm (show 1<=a by omega) ha (show 1<=b by omega) hb
  exact⟨r,h1,h2⟩
end L3
namespace L3
open PySem L2 PySem.Spec PyProof.Rows
section
variable{X:Cx}{i j:Nat}{x y:Str}{p pos pos' apos cE:Pos}
end
section
variable{X:Cx}{e:Expr}{t:aN}{p pos:Pos}
end
section
variable{X:Cx}
theorem cb4(i:Int)(ns:List Int):BS (.int i) (ns.map V.int)=decide (i∈ns):=by
 unfold BS
 rw[List.any_map,qN,Nj,decide_eq_true_iff]
 exact⟨λ⟨x,hx,he⟩=>(show x=i by simpa[mB]using he) ▸ hx,λhx=>⟨i,hx,by simp[mB]⟩⟩
def sV:cS:=λx y Q=>match x,y with
 | .int i,.lst _ xs=>∃ns:List Int,xs=aG ns/\Q (.bl (!decide (i∈ns)))
 | _,_=>False
theorem cA0:bX X (compareOp .NotIn) sV :=
 ⟨_,bD7,λ{B F H σ δ ts x y v w Q Qd} c sx sy h k=>by
  unfold sV at h
  split at h
  ·rename_i i o xs
   obtain⟨ns,rfl,q⟩:=h
   obtain⟨p,ws,rfl,e1,s1⟩:=jx sy c.ext
   have e:=Qw s1
   subst e
   cases sx
   refine⟨p,_,rfl,.inl (bQ.of e1),rfl,by simp[nB],?_⟩
   rw[if_pos rfl,cb4]
   exact k _ _ _ q (af.refl _) (c.pushS (.bl .nil) rfl)
  ·exact h.elim⟩
end
end L3
namespace L3
open PySem L2 Mf
def az(o:Bool)(T:List (List Nat)):List D:=T.map λr=>.lst o (av r)
theorem lL(o:Bool)(T:List (List Nat)):(az o T).length=T.length:=by unfold az;rw[br]
theorem dP(o:Bool)(T:List (List Nat)):(az o T).map D.sh=az false T:=by
 unfold az
 rw[cu]
 exact qR λr _=>wJ o r
theorem oq(T:List (List Nat)):(az false T).all D.pl=true:=by
 unfold az
 rw[mm,dj]
 intro r _
 show(D.lst false (av r)).pl=true
 rw[fV,n6];rfl
theorem ql(T:List (List Nat)):(az true T).all D.fr=true:=by
 unfold az
 rw[mm,dj]
 intro r _
 exact iU r
theorem sW(o:Bool)(S T:List (List Nat)):az o S++az o T=az o (S++T):=by unfold az;rw[eH]
theorem zK(o:Bool)(T:List (List Nat))(lo hi:Option Int):fZ (az o T) lo hi=az o (fZ T lo hi):=by
 unfold az fZ
 rw[br,Nt,Nr]
theorem zL(o:Bool){T:List (List Nat)}{i:Nat}(h:i<T.length):fh (az o T) (i:Int)=some (.lst o (av T[i])):=by
 refine L3.Hy ?_
 unfold az
 rw[cM,aR h];rfl
theorem b11(n:Nat)(o:Bool)(T:List (List Nat)):(az o T).all (eA (n+1))=true:=by
 unfold az
 rw[mm,dj]
 intro r _
 exact HY _ _ _
theorem C2(n:Nat)(o o':Bool)(T:List (List Nat)):eA (n+2) (.lst o (az o' T))=true:=b11 n o' T
theorem RG(o o':Bool):∀(a b:List (List Nat)),bF.gq (az o a) (az o' b)=decide (a=b)
 | [],[]=>rfl
 | [],_::_=>by simp[az,bF.gq]
 | _::_,[]=>by simp[az,bF.gq]
 | x::xs,y::ys=>by
  show(bF (.lst o (av x)) (.lst o' (av y))&&bF.gq (az o xs) (az o' ys))=_
  rw[RG o o' xs ys,CY,qN];simp
theorem RH(o o' o1 o2:Bool)(a b:List (List Nat)):bF (.lst o (az o1 a)) (.lst o' (az o2 b))=decide (a=b):=RG o1 o2 a b
open Classical in
theorem Ib{α:Type}{sh:Bool}{xs:List D}{aD:List (Str × Nat)}{n:Nat}{g0:iK}{tt:fX}{te:aN}{ak:Dl}{Q:D->Dl->Prop}(l:List α)(e g:α->D)(kp:α->Bool)(jA:xs.map D.sh=l.map e)(inj:∀a b,e a=e b->a=b)
  (hx:∀a∈l,g0 (e a) (gC aD n ak) λaV=>tt aV λb i8=>b=kp a/\(kp a=true->te i8 λd _=>d=g a)) (eJ:(sh&&aD.all (jw ak))=true\/∀a∈l,kp a=true->(g a).fr=true) (hl:l.length<=sizeLine) (hq:Q (.lst true ((l.filter kp).map g)) ak):vk sh xs aD n g0 tt te ak Q:=by
 have pick:∀{β:Type} (h:α->β) (z:β),∃f:D->β,∀a∈l,f (e a)=h a:=λh z=>⟨λx=>if w:∃a∈l,e a=x then h w.choose else z,λa ha=>by
  have w:∃b∈l,e b=e a:=⟨a,ha,rfl⟩
  show(if w:∃b∈l,e b=e a then h w.choose else z)=h a
  rw[dif_pos w]
  exact congrArg h (inj _ _ w.choose_spec.2)⟩
 obtain⟨f,hf⟩:=pick g .au
 obtain⟨p,hp⟩:=pick kp false
 refine⟨p,f,λx h=>?_,eJ.imp id λh x df=>?_,?_,?_⟩
 ·rw[jA]at h
  obtain⟨a,ha,rfl⟩:=bB.mp h
  rw[hp a ha,hf a ha]
  exact hx a ha
 ·rw[jA]at df
  obtain⟨a,ha,rfl⟩:=bB.mp df
  rw[hp a ha,hf a ha];exact h a ha
 ·have:=congrArg EZ jA
  simp at this
  omega
 ·rw[jA,List.filter_map,cu,show l.filter (p ∘ e)=l.filter kp from List.filter_congr λa ha=>hp a ha,show(l.filter kp).map (f ∘ e)=(l.filter kp).map g from qR λa ha=>hf a (xx.mp ha).1]
  exact hq
theorem RI{o:Bool}{G:List (List Nat)}{i:Nat}{d:D}(h:(gb (az o G))[i]?=some d):∃hi:i<G.length,d=.tup [.int i,.lst o (av G[i])]:=by
 unfold gb az at h
 rw[Bc,cM]at h
 by_cases hi:i<G.length
 ·rw[aR hi]at h
  exact⟨hi,(dn h).symm⟩
 ·rw[gw (by omega)]at h;cases h
theorem Ic(r:List Nat):(gb (av r)).map D.sh=(aL r.length).map λ(i:Nat)=>D.tup [.int (i:Int),.int ((r.getD i 0:Nat):Int)]:=by
 apply Nu
 intro i
 unfold gb
 rw[cT,cM,Bc,cM,cM]
 by_cases hi:i<r.length
 ·have e:r.getD i 0=r[i]:=by rw[aS,aR hi];rfl
  rw[aR hi,jL hi]
  show _=some (D.tup [D.int (i:Int),D.int ((r.getD i 0:Nat):Int)])
  rw[e];rfl
 ·rw[gw (show r.length<=i by omega),gw (show(aL r.length).length<=i by simpa using hi)];rfl
theorem RJ{r:List Nat}(h:∃x∈r,x≠0):((aL r.length).filter λi=>r.getD i 0 != 0)[0]?=some (r.findIdx (· != 0)):=by
 obtain⟨x,hx,h0⟩:=h
 have hl:r.findIdx (· != 0)<r.length:=NG ⟨x,hx,by simpa using h0⟩
 rw[<-List.head?_eq_getElem?,List.head?_filter,List.find?_range_eq_some]
 refine⟨?_,di.mpr hl,λj hj=>?_⟩
 ·rw[aS,aR hl]
  exact YO (w:=hl)
 ·have:=List.not_of_lt_findIdx hj
  rw[aS,aR (by omega)]
  simpa using this
def aj(T:List (List Nat)):Nat:=(T.headD []).length
def j5(T:List (List Nat))(j:Nat):Option Nat:=T.findIdx? λr=>r.getD j 0 != 0
def gY(m:Bool × Nat)(T:List (List Nat))(l:List Nat)(j:Nat):List (List Nat):=T.map λr=>dr (λx y=>bP m x (gm m (r.getD j 0) y)) r l
def mY(m:Bool × Nat)(b:Nat):Nat:=((aL (ae m)).find? λr=>gm m r b==1).getD 0
theorem C5{m:Bool × Nat}(hm:m∈aE){b r:Nat}(hr:r<ae m)(h:gm m r b=1):mY m b=r:=by
 have m0:=dm m hm
 unfold mY
 cases e:(aL (ae m)).find? λr=>gm m r b==1 with
 | none =>
  have:=NH.mp e r (di.mpr hr)
  simp[h]at this
 | some r' =>
  have h':gm m r' b=1:=by simpa using List.find?_some e
  have l':r'<ae m:=di.mp (Nq e)
  show r'=r
  rw[<-qg hr,<- h',<- jD m0,gg m r r',jD m0,h,qg l']
def RT(N w:Nat)(T:List (List Nat)):Prop:=∀r∈T,r.length=w/\AllLt N r
theorem RT.app{N w:Nat}{S T:List (List Nat)}(a:RT N w S)(b:RT N w T):RT N w (S++T):=λr hr=>(cI.mp hr).elim (a r) (b r)
theorem RK{m:Bool × Nat}(hm:m∈aE){w j:Nat}{T:List (List Nat)}{l:List Nat}(h:RT (ae m) w T)(hl:l.length=w):RT (ae m) w (gY m T l j):=λr hr=>by
 obtain⟨r,h1,rfl⟩:=bB.mp hr
 obtain⟨a,b⟩:=h r h1
 exact⟨by rw[kR,a,hl,Ba],HZ λx hx y hy=>(mV hm (b x hx) (cV hm _ y)).2.1⟩
def eO(m:Bool × Nat)(T:List (List Nat))(i p:Nat):List Nat:=(T.getD i []).map (gm m (mY m ((T.getD i []).getD p 0)))
def iV(m:Bool × Nat)(s:List (List Nat) × List (List Nat))(p:Nat):List (List Nat) × List (List Nat):=match j5 s.2 p with
 | none=>s
 | some i=>(gY m s.1 (eO m s.2 i p) p++[eO m s.2 i p],gY m (s.2.take i++s.2.drop (i+1)) (eO m s.2 i p) p)
def j6(m:Bool × Nat)(G:List (List Nat))(k:Nat):List (List Nat) × List (List Nat):=(aL k).foldl (iV m) ([],G)
def bG(m:Bool × Nat)(G:List (List Nat)):List (List Nat):=(j6 m G (aj G)).1
theorem Ie(m:Bool × Nat)(G:List (List Nat))(k:Nat):j6 m G (k+1)=iV m (j6 m G k) k:=by
 unfold j6
 rw[Bf,Be];rfl
theorem C6{T:List (List Nat)}{j i:Nat}(h:j5 T j=some i):∃hi:i<T.length,T[i].getD j 0≠0/\T.getD i []=T[i]:=by
 obtain⟨hi,h1,_⟩:=YQ.mp h
 exact⟨hi,by simpa using h1,by rw[aS,aR hi];rfl⟩
structure zM(N w n:Nat)(s:List (List Nat) × List (List Nat)):Prop where
 a:RT N w s.1
 b:RT N w s.2
 l:s.1.length+s.2.length<=n
theorem cc4{m:Bool × Nat}(hm:m∈aE){w n p:Nat}{s:List (List Nat) × List (List Nat)}(h:zM (ae m) w n s):zM (ae m) w n (iV m s p):=by
 unfold iV
 split
 ·exact h
 ·rename_i i e
  obtain⟨hi,h1,h2⟩:=C6 e
  have hl:(eO m s.2 i p).length=w:=by unfold eO;rw[br,h2];exact(h.b _ (eG hi)).1
  have hr:RT (ae m) w [eO m s.2 i p]:=λr hr=>by
   rw[fI]at hr
   refine⟨by rw[hr];exact hl,λx hx=>?_⟩
   rw[hr]at hx
   obtain⟨y,_,rfl⟩:=bB.mp hx
   exact cV hm _ _
  refine⟨(RK hm h.a hl).app hr,RK hm (λr hr=>h.b r ?_) hl,?_⟩
  ·rcases cI.mp hr with hr | hr
   ·exact xF hr
   ·exact qQ hr
  ·have:=h.l
   unfold gY
   rw[dF,br,br,dF,jK,kO]
   show s.1.length+1+_<=n
   omega
theorem C7{m:Bool × Nat}(hm:m∈aE){w:Nat}{G:List (List Nat)}(h:RT (ae m) w G):∀k,zM (ae m) w G.length (j6 m G k)
 | 0=>⟨(λr hr=>nomatch hr),h,AU (Fp _)⟩
 | k+1=>by rw[Ie];exact cc4 hm (C7 hm h k)
theorem ci8(j:Nat)(l:List Nat):decide ((j:Int)∈l.map λ(n:Nat)=>(n:Int))=l.contains j:=by
 rw[qN,decide_eq_true_iff,Fs,bB]
 exact⟨λ⟨a,h,e⟩=>(show a=j by omega) ▸ h,λh=>⟨j,h,rfl⟩⟩
theorem cu8{o:Bool}{G:List (List Nat)}{f:List Nat->Nat}{k:Nat}{d:D}(h:(fm (av (G.map f)) (az o G))[k]?=some d):∃hk:k<G.length,d=.tup [.int ((f G[k]:Nat):Int),.lst o (av G[k])]:=by
 unfold fm az at h
 rw[cT,qS,cM,cM,cM]at h
 by_cases hk:k<G.length
 ·rw[aR hk]at h
  exact⟨hk,(dn h).symm⟩
 ·rw[gw (by omega)]at h;cases h
theorem RL{α:Type}(a:α->Nat)(b:α->Nat):∀(l:List α) (x:List Nat),(l.foldl (λx z=>x.set (a z) (b z)) x).length=x.length
 | [],_=>rfl
 | z::l,x=>by rw[ub,RL a b l,kn]
end L3
namespace L2
open PySem PySem.Spec PyProof.Rows
theorem bW7{M:Model}{A:Around}{E:Value->Shared->Prop}{s:Shared}{scope:Scope}{globals:Addr}{cl:List (Str × Addr)}{qual:Str}{env:Env}{bi:Addr}{Q:Env->Shared->Prop}
  (hQ:Q (newEnv scope s.heap.objs.size globals (cellsFrom (s.heap.objs.size+1) scope.names cl) qual none .none (some env) bi) { s with heap:=pushCells (s.heap.push { cls:=.type "dict",data:=.dict #[] }) scope.names }) :
  wpAny M A (newFunctionEnv scope globals cl [] qual none .none (some env) bi) Q E s:=by
 simp only[newFunctionEnv,Option.isSome_some,if_true]
 refine wpAny_bind (wpAny_alloc (wpAny_bind (wpAny_layCells _ (λname kind cells=>by cases e:kind==Ft<;>simp[e]) _ _ _ _ ?_)))
 rw[List.forIn_nil]
 refine wpAny_bind (wpAny_pure (wpAny_pure ?_))
 have z:({ s with heap:=s.heap.push { cls:=.type "dict",data:=.dict #[] } }:Shared).heap.objs.size=s.heap.objs.size+1:=tY ..
 rw[z]
 exact hQ
theorem zN:∀(ns:List (Str × NameKind)) (n:Nat) (acc:List (Str × Addr)) (y:Str) (c:Addr),(cellsFrom n ns acc).lookup y=some c->(n<=c/\(y,Ft)∈ns)\/acc.lookup y=some c
 | [],_,_,_,_,h=>.inr h
 | (z,k)::r,n,acc,y,c,h=>by
  unfold cellsFrom at h
  split at h
  ·rename_i hk
   rcases zN r (n+1) _ y c h with⟨h1,h2⟩ | h1
   ·exact .inl ⟨by omega,gK _ h2⟩
   ·rw[gi]at h1
    cases q:y==z with
    | true =>
     rw[q]at h1;cases h1
     exact .inl ⟨bM _,by rw[eq_of_beq q,eq_of_beq hk];exact kh⟩
    | false=>rw[q]at h1;exact .inr h1
  ·rcases zN r n acc y c h with⟨h1,h2⟩ | h1
   ·exact .inl ⟨h1,gK _ h2⟩
   ·exact .inr h1
theorem Ig:∀(ns:List (Str × NameKind)) (n:Nat) (acc:List (Str × Addr)),(∀y z c,acc.lookup y=some c->acc.lookup z=some c->y=z)->(∀y c,acc.lookup y=some c->c<n) ->
  ∀y z c,(cellsFrom n ns acc).lookup y=some c->(cellsFrom n ns acc).lookup z=some c->y=z
 | [],_,_,i,_,y,z,c,h1,h2=>i y z c h1 h2
 | (u,k)::r,n,acc,i,b,y,z,c,h1,h2=>by
  unfold cellsFrom at h1 h2
  split at h1
  ·rw[if_pos (by assumption)]at h2
   refine Ig r (n+1) ((u,n)::acc) (λy z c e1 e2=>?_) (λy c e=>?_) y z c h1 h2
   ·rw[gi]at e1 e2
    cases q1:y==u with
    | true =>
     rw[q1]at e1;cases e1
     cases q2:z==u with
     | true=>rw[eq_of_beq q1,eq_of_beq q2]
     | false=>rw[q2]at e2;exact absurd (b _ _ e2) (gJ _)
    | false =>
     rw[q1]at e1
     cases q2:z==u with
     | true=>rw[q2]at e2;cases e2;exact absurd (b _ _ e1) (gJ _)
     | false=>rw[q2]at e2;exact i y z c e1 e2
   ·rw[gi]at e
    cases q:y==u with
    | true=>rw[q]at e;cases e;exact AV _
    | false=>rw[q]at e;exact Nx (b _ _ e)
  ·rw[if_neg (by assumption)]at h2
   exact Ig r n acc i b y z c h1 h2
theorem Ih:∀(ns:List (Str × NameKind)) (n:Nat) (acc:List (Str × Addr)) (y:Str) (c:Addr),(y,Ft)∈ns->(cellsFrom n ns acc).lookup y=some c->n<=c
 | [],_,_,_,_,m,_=>nomatch m
 | (z,k)::r,n,acc,y,c,m,h=>by
  unfold cellsFrom at h
  split at h
  ·rename_i hk
   rcases cH.mp m with e | m
   ·have e1:y=z:=(Prod.mk.inj e).1
    rcases zN r (n+1) _ y c h with⟨h1,_⟩ | h1
    ·exact Bg h1
    ·rw[gi,e1,beq_self_eq_true]at h1
     exact AU (dn h1)
   ·exact Bg (Ih r (n+1) _ y c m h)
  ·rename_i hk
   rcases cH.mp m with e | m
   ·cases e;exact absurd rfl hk
   ·exact Ih r n acc y c m h
def dQ(X:Cx)(scope:Scope)(N:List Str)(cl:List (Str × Addr))(C:Addr)(s:Shared)(H:Hp)(fp:List Addr):Cx :=
 { BZ X scope N (cellsFrom (C+1) scope.names cl) C s H fp with fn:=λy=>scope.names.contains (y,Ft) }
section
variable{X:Cx}{scope:Scope}{cl:List (Str × Addr)}
theorem ci1{pins:List (Addr × Obj)}{σ:St}{H:Hp}{s:Shared}{fp:List Addr}{C:Addr}(I:Inv X pins σ H s)(iB:scope.kind=.function)(hC:s.heap.objs.size<=C)
  (gr:∀y c,cl.lookup y=some c->X.env.cells.lookup y=some c) (dq8:∀y,((relabel scope X.env).names.lookup y=some .cell\/(relabel scope X.env).names.lookup y=some .free)->∃c,(cellsFrom (C+1) scope.names cl).lookup y=some c)
  (hf:∀b∈fp,jm X pins H b) (ho:∀b∈fp,∃o,s.heap.get? b=some o/\∀v,o.data≠.cell v) (N:List Str):(dQ X scope N cl C s H fp).Ok where
 mod:=I.ok.mod
 kind:=iB
 glob:=I.ok.glob
 blt:=I.ok.blt
 above:=hC
 inj:=Ig scope.names (C+1) cl (λy z c h1 h2=>I.ok.inj y z c (gr _ _ h1) (gr _ _ h2)) λy c e=>by
  obtain⟨v,o,ho,_⟩:=I.cell y c (gr y c e)
  exact Nat.lt_succ_of_le (AO (cW (bL ho) hC))
 has:=dq8
 nq:=λy c h e=>fO hC (Bg (Ih _ _ _ y c (Fs.mp h) e))
 hd:=I.ok.hd
 frames:=I.ok.frames
 qV:=.inl rfl
 qW:=λb hb=>⟨by
  obtain⟨o,e,_⟩:=ho b hb
  exact eQ (cW (bL e) hC),λy c e z=>by
  rcases zN _ _ _ y c e with⟨h1,_⟩ | h1
  ·obtain⟨o,e,_⟩:=ho b hb
   rw[z]at h1
   exact absurd (cW (bL e) (fO hC (Bg h1))) (gJ _)
  ·exact(hf b hb).2.2.2.2.1 y c (gr _ _ h1) z⟩
 bs:=I.bs
 ji:=fO I.ok.ji I.sz
 oV:=λb o e hb=>by
  rcases(hf b hb).2.2.2.1 with z | z
  ·exact I.ok.oV b o e z
  ·exact absurd (cW (bL (I.ok.bs b o e).1) z) (gJ _)
 oW:=λb hb z=>(cH.mp (I.xS b z)).elim (hf b hb).2.1 (hf b hb).2.2.1
 gx:=I.stack
 jj:=I.Bw
end
theorem Ii:∀(ns:List (Str × NameKind)) (h:Heap) (acc:List (Str × Addr)) (y:Str) (c:Addr),(cellsFrom h.objs.size ns acc).lookup y=some c->(∃o,(pushCells h ns).get? c=some o/\o.data=.cell none)\/acc.lookup y=some c
 | [],_,_,_,_,e=>.inr e
 | (z,k)::r,h,acc,y,c,e=>by
  unfold cellsFrom at e
  unfold pushCells
  split at e
  ·rename_i hk
   rw[if_pos hk]
   rw[<-tY h { cls:=.type "cell",data:=.cell none }]at e
   rcases Ii r _ _ y c e with h1 | h1
   ·exact .inl h1
   ·rw[gi]at h1
    cases q:y==z with
    | true =>
     rw[q]at h1;cases h1
     exact .inl ⟨_,pushCells_keeps _ _ _ _ (g8 _ rfl),rfl⟩
    | false=>rw[q]at h1;exact .inr h1
  ·rename_i hk
   rw[if_neg hk]
   exact Ii r h acc y c e
end L2
namespace L2
open PySem PySem.Spec PyProof.Rows
section
variable{X:Cx}{elt iter tg:Expr}{pos:Pos}{ifs:List Expr}{scope:Scope}{cl:List (Str × Addr)}{wi:TI}{tt:TT}{te:TE}{g:TG}
theorem RM(aD:List (Str × Nat))(bK:List Str)(hc:X.calm=true)(hi:PI X tg iter wi)
  (hg:∀C s H fp,PG (dQ X scope (aD.map (·.1)++bK) cl C s H fp) tg g)
  (ht:∀C s H fp,mD (dQ X scope (aD.map (·.1)++bK) cl C s H fp) ifs tt) (he:∀C s H fp,PE (dQ X scope (aD.map (·.1)++bK) cl C s H fp) elt te)
  (lM:closureFor scope X.env=pure cl) (lN:mE X cl) (lQ:∀C:Addr,mF (cellsFrom (C+1) scope.names cl) (relabel scope X.env).names) (lU:∀C:Addr,mC X scope (cellsFrom (C+1) scope.names cl) aD)
  (iB:scope.kind=.function) (lV:∀y∈scope.names,y.2=.local->scope.names.lookup y.1=some .local)
  (hs:∀x,foldedSetIterable iter X.env x=pure x:=by intro _;rfl) {pins:List (Addr × Obj)} {s:Shared} {σ:L2.St} {H:Hp} {Q:VK} {use:Option (Value->Sem Unit)} {cE:Pos} {Rf:Value->Shared->Prop} (I:Inv X pins σ H s) (h:B0 wi aD bK.length g tt te σ H Q)
  (dq9:∀(s':Shared) (H':Hp) (C Da:Addr) (m:Str->Option Value),Inv X pins σ H' s'->s'.heap.Ns C m->H' C=none->C≠X.env.locals->X.cN.heap.objs.size<=C->(∀x c,X.env.cells.lookup x=some c->c≠C)->(∀p∈X.pn++pins,p.1≠C)->C ∉ X.fs->Q (.ref Da) H' ->
   compPost (model X.prog X.w) X.A X.xe use Rf (.ref Da) C (.ok .next) s') :
  wpAny (model X.prog X.w) X.A (comprehension (.ListComp elt [⟨tg,iter,ifs,0⟩] scope pos) scope X.env cE (newList []) false (eval iter X.env) use) Rf X.xe s:=by
 have gr:=lN.all
 refine wpAny_comprehension_free (use:=use) rfl hs lM iB lV (aP (hi pins s σ H _ I h) λv s1 h1=>aP h1 λFK s2 h2=>?_)
 obtain⟨it,fp,tn,J,H2,e,I2,T,x6,f2,q⟩:=h2
 subst e
 refine wpAny_newList ?_
 refine bW7 ?_
 have hD:H2 s2.heap.objs.size=none:=I2.aH.fresh (bM _)
 obtain⟨W,⟨m0,w0⟩,turn⟩:=q s2.heap.objs.size hD
 generalize Ij:s2.heap.push { cls:=.type "list",data:=.seq ([]:List Value).toArray }=g0 at ⊢
 have hCs:g0.objs.size=s2.heap.objs.size+1:=by rw[<-Ij,tY]
 have hDC:s2.heap.objs.size≠g0.objs.size:=by omega
 have hle:s2.heap.objs.size<=g0.objs.size:=by omega
 have uz:∀b o,s2.heap.get? b=some o->b≠g0.objs.size:=λb o e=>eQ (cW (bL e) hle)
 obtain⟨g1,C8⟩:∃g1,g1=pushCells (g0.push { cls:=.type "dict",data:=.dict #[] }) scope.names:=⟨_,rfl⟩
 have ns1:g1.Ns g0.objs.size (λ_=>none):=by rw[C8];exact(Heap.Ns.new g0 (.type "dict")).keeps (pushCells_keeps _ _)
 have RN:∀b o,g0.get? b=some o->g1.get? b=some o:=λb o e=>by rw[C8];exact pushCells_keeps _ _ b o (fU _ e)
 have old:∀b o,s2.heap.get? b=some o->g1.get? b=some o:=λb o e=>RN b o (Ij ▸ fU _ e)
 rw[<-C8]
 have hDg:g1.get? s2.heap.objs.size=some { cls:=.type "list",data:=.seq ([]:List Value).toArray }:=RN _ _ (Ij ▸ g8 _ rfl)
 have RO:∀b∈fp,∃o,s2.heap.get? b=some o/\∀v,o.data≠.cell v:=T.obj _ _ x6
 have C9:=ci1 (scope:=scope) (cl:=cl) (C:=g0.objs.size) I2 iB hle gr (lQ g0.objs.size).all f2 RO (aD.map (·.1)++bK)
 have I4:Inv (dQ X scope (aD.map (·.1)++bK) cl g0.objs.size s2 H2 fp) [] (iF aD bK.length σ) (upd H2 s2.heap.objs.size (.lst [])) { s2 with heap:=g1 }:=by
  refine⟨C9,rfl,I2.bare,Un.laid old (bM _) hD,⟨_,ns1,λi y v h1 h2 h3=>?_⟩,λy c e=>?_,?_,λy c e=>?_,λp hp=>absurd hp (by simp[dQ,BZ]),I2.aH.laid old (bM _) ⟨mf _,[],0,.nil,hDg⟩,by simp[iF,dQ,BZ]⟩
  ·by_cases Ik:i<aD.length
   case neg =>
    have jV:((aD.map λp=>(σ[p.2]?).getD none)++aU bK.length none)[i]?=some (some v):=h2
    rw[m5 (by simpa using Ik),oN]at jV
    split at jV<;>cases jV
   case pos =>
    have kz:(aD.map (·.1))[i]?=some y:=by
     have z:(aD.map (·.1)++bK)[i]?=some y:=h1
     rwa [qJ (by simpa using Ik)]at z
    have jV:(aD.map λp=>(σ[p.2]?).getD none)[i]?=some (some v):=by
     have z:((aD.map λp=>(σ[p.2]?).getD none)++aU bK.length none)[i]?=some (some v):=h2
     rwa [qJ (by simpa using Ik)]at z
    rw[cM]at kz jV
    cases hj:aD[i]? with
    | none=>rw[hj]at kz;cases kz
    | some p =>
     rw[hj]at kz jV
     have ey:p.1=y:=dn kz
     have ev:(σ[p.2]?).getD none=some v:=dn jV
     obtain⟨hN,hk,RP,c,e1,e2⟩:=(lU g0.objs.size).at p (t7 hj)
     obtain⟨m,hn,hl⟩:=I2.loc
     have es:σ[p.2]?=some (some v):=by
      cases z:σ[p.2]? with
      | none=>rw[z]at ev;cases ev
      | some o=>rw[z]at ev;exact congrArg some ev
     obtain⟨u,ru,lk⟩:=hl p.2 p.1 v hN es (hk.elim (λz=>.inr (.inl z)) λz=>.inr (.inr z))
     refine⟨u,ru,?_⟩
     rcases lk with⟨lk,_⟩ | ⟨_,c',e3,ic⟩
     ·rcases hk with hk | hk
      ·have:=hk.symm.trans lk;cases this
      ·have:=hk.symm.trans lk;cases this
     ·rw[e2]at e3
      cases e3
      subst ey
      obtain⟨oc,jk,HH⟩:=ic
      exact .inr ⟨RP,c,e1,oc,old _ _ jk,HH⟩
  ·rcases Ii _ _ _ y c (show(cellsFrom (g0.push { cls:=.type "dict",data:=.dict #[] }).objs.size scope.names cl).lookup y=some c by rw[tY];exact e)with h1 | h1
   ·rw[<-C8]at h1
    exact⟨none,h1⟩
   ·obtain⟨v,o,ho,hd⟩:=I2.cell y c (gr y c h1)
    exact⟨v,o,old _ _ ho,hd⟩
  ·show upd H2 _ _ g0.objs.size=none
   rw[aT (fF hDC)]
   exact I2.aH.fresh hle
  ·rcases zN _ _ _ y c e with⟨h1,_⟩ | h1
   ·rw[aT (Na (m9 hle h1))]
    exact I2.aH.fresh (fO hle (Bg h1))
   ·obtain⟨v,o,ho,hd⟩:=I2.cell y c (gr y c h1)
    rw[aT (eQ (bL ho))]
    exact I2.gj y c (gr y c h1)
 have fin:∀(s':Shared) (H':Hp) (aF:L2.St),Inv (dQ X scope (aD.map (·.1)++bK) cl g0.objs.size s2 H2 fp) [] aF H' s'->Q (.ref s2.heap.objs.size) H' ->
   compPost (model X.prog X.w) X.A X.xe use Rf (.ref s2.heap.objs.size) g0.objs.size (.ok .next) s':=by
  intro s' H' aF I' q'
  obtain⟨m,hn,_⟩:=I'.loc
  have u:=I'.base
  have hC':H' g0.objs.size=none:=I'.free
  have IX:Inv X pins σ H' s':=I2.NV (s':=s') (ch:=fp) I'.os ⟨u.keep,u.slot,u.free,u.there,u.iZ,u.ir,u.gM⟩ I'.aH I'.bare λb hb=>by
   obtain⟨_,y1,y2,y3,y4,y5⟩:=f2 b hb
   exact⟨y3,y1,y4,y5⟩
  have RQ:∀b,(∃o,s2.heap.get? b=some o)->b≠g0.objs.size:=λb ⟨o,e⟩=>uz b o e
  refine dq9 s' H' g0.objs.size s2.heap.objs.size m IX hn hC' (λz=>?_) (fO I2.sz hle) (λx c e z=>?_) (λp hp z=>?_) (λz=>?_) q'
  ·have h0:X.env.locals<s2.heap.objs.size:=I2.lt
   rw[<-z]at h0
   exact gJ _ (cW h0 hle)
  ·obtain⟨v,o,ho,_⟩:=I2.cell x c e
   exact RQ c ⟨o,ho⟩ z
  ·exact RQ p.1 ⟨_,(I2.pin p hp).1⟩ z
  ·exact I2.NP hle z
 have Il:∀(H':Hp),(∀b∈fp,H' b=none)->∀b∈fp,jm (dQ X scope (aD.map (·.1)++bK) cl g0.objs.size s2 H2 fp) [] H' b:=λH' hn b hb =>
  ⟨hn b hb,(C9.qW b hb).1,C9.oW b hb,.inl hb,(C9.qW b hb).2,λp hp=>absurd hp (by simp[dQ,BZ])⟩
 have loop:codeAny (model X.prog X.w) X.A (.compLoop (.ListComp elt [⟨tg,iter,ifs,0⟩] scope pos) 0 (.ref it) (.ref s2.heap.objs.size) (compEnvC scope (cellsFrom (g0.objs.size+1) scope.names cl) g0.objs.size X.env))
   (compPost (model X.prog X.w) X.A X.xe use Rf (.ref s2.heap.objs.size) g0.objs.size) { s2 with heap:=g1 }:=by
  refine bI3 (λn s'=>∃i acc H',Inv (dQ X scope (aD.map (·.1)++bK) cl g0.objs.size s2 H2 fp) [] (iF aD bK.length σ) H' s'/\tn i s'.heap/\(∀b∈fp,H' b=none)/\W i n acc H') ?_ m0
   ⟨0,[],_,I4,T.keep _ _ _ x6 λb hb o e=>old b o e,λb hb=>?_,w0⟩
  ·rintro n s' ⟨i,acc,H',I',ph,wt,w'⟩
   obtain⟨G3,⟨stop,qn⟩ | ⟨go,step⟩⟩:=turn i n acc H' w'
   ·refine aP (T.done (dQ X scope (aD.map (·.1)++bK) cl g0.objs.size s2 H2 fp) rfl rfl rfl hc i [] s' _ H' (λ_ _=>False) I' (Il H' wt) ph stop) λr t1 zz=>?_
    obtain⟨hr,I1⟩:=zz
    subst hr
    exact fin _ _ _ I1 qn
   ·refine aP (T.item (dQ X scope (aD.map (·.1)++bK) cl g0.objs.size s2 H2 fp) rfl rfl rfl hc i [] s' _ H' (λ_ _=>False) I' (Il H' wt) ph go) λr t1 zz=>?_
    obtain⟨u,hr,h4⟩:=zz
    subst hr
    refine aP h4 λ_ t2 zz=>?_
    obtain⟨x5,H5,I5,r5,y5,rj,x8⟩:=zz
    obtain⟨Ce,st6⟩:=step x5 H5 y5
    have FQ:=I5.pinned (Il H5 x8) (T.obj _ _ rj)
    refine aP (hg _ _ _ _ _ t2 _ H5 x5 u _ FQ r5 st6) λ_ t3 zz=>?_
    obtain⟨BK,H6,I6,⟨dr5,dr6⟩,st7⟩:=zz
    have back:∀(s7:Shared) (H7:Hp) (Im:List V) (m7:Nat),Inv (dQ X scope (aD.map (·.1)++bK) cl g0.objs.size s2 H2 fp) ([]++xY fp t2.heap) BK H7 s7->W (i+1) m7 Im H7 ->
      ∃i acc H',Inv (dQ X scope (aD.map (·.1)++bK) cl g0.objs.size s2 H2 fp) [] (iF aD bK.length σ) H' s7/\tn i s7.heap/\(∀b∈fp,H' b=none)/\W i m7 acc H':=λs7 H7 Im m7 I7 w7 =>
     ⟨i+1,Im,H7,(I7.xZ).weak dr5.symm λj v z=>by
       by_cases hj:j<aD.length
       ·rw[dr6 j hj];exact z
       ·have z':((aD.map λp=>(σ[p.2]?).getD none)++aU bK.length none)[j]?=some (some v):=z
        rw[m5 (by simpa using hj),oN]at z'
        split at z'<;>(cases z'),
      T.keep _ _ _ rj λb hb o e=>(I7.pin (b,o) (dq _ (dq _ (BJ hb e)))).1,λb hb=>by
       obtain⟨o,e,d⟩:=T.obj _ _ rj b hb
       exact(I7.pin (b,o) (dq _ (dq _ (BJ hb e)))).2.1,w7⟩
    refine aP (ht _ _ _ _ _ t3 _ H6 _ I6 st7) λok t4 zz=>?_
    obtain⟨H7,I7,hD7,q7⟩:=zz
    cases ok with
    | false =>
     obtain⟨m',hm,w7⟩:=(show ∃m',m'<n/\W (i+1) m' acc H7 from q7)
     exact⟨m',hm,back t4 H7 acc m' I7 w7⟩
    | true =>
     refine aP (he _ _ _ _ _ t4 _ H7 _ I7 q7) λy t5 zz=>?_
     obtain⟨v8,H8,I8,r8,hD8,hl8,m',hm,w8⟩:=zz
     exact aP (OC _ t5 _ H8 (.ref s2.heap.objs.size) [v8] (.ref s2.heap.objs.size) [y] (λ_ H9=>H9=upd H8 s2.heap.objs.size (.lst (acc++[v8]))) I8 rfl (.cons r8 .nil) ⟨_,acc,v8,rfl,rfl,hD8,hl8,rfl⟩) λ_ t6 zz=>by
      obtain⟨_,H9,I9,_,e9⟩:=zz
      subst e9
      exact⟨m',hm,back t6 _ _ m' I9 w8⟩
  ·obtain⟨o,e,_⟩:=RO b hb
   rw[aT (eQ (bL e))]
   exact(f2 b hb).1
 exact codeAny_compStart_list loop (T.self _ 0 _ _ _ (T.keep _ _ _ x6 λb hb o e=>old b o e) loop)
theorem cj0(aD:List (Str × Nat))(bK:List Str)(hc:X.calm=true)(hi:PI X tg iter wi)
  (hg:∀C s H fp,PG (dQ X scope (aD.map (·.1)++bK) cl C s H fp) tg g)
  (ht:∀C s H fp,mD (dQ X scope (aD.map (·.1)++bK) cl C s H fp) ifs tt) (he:∀C s H fp,PE (dQ X scope (aD.map (·.1)++bK) cl C s H fp) elt te)
  (lM:closureFor scope X.env=pure cl) (lN:mE X cl) (lQ:∀C:Addr,mF (cellsFrom (C+1) scope.names cl) (relabel scope X.env).names) (lU:∀C:Addr,mC X scope (cellsFrom (C+1) scope.names cl) aD)
  (iB:scope.kind=.function) (lV:∀y∈scope.names,y.2=.local->scope.names.lookup y.1=some .local)
  (hs:∀x,foldedSetIterable iter X.env x=pure x:=by intro _;rfl):PE X (.ListComp elt [⟨tg,iter,ifs,0⟩] scope pos) (B0 wi aD bK.length g tt te):=by
 intro pins s σ H Q I h
 rw[eval_ListComp]
 refine RM aD bK hc hi hg ht he lM lN lQ lU iB lV hs I h λs' H' C Da m IX hn hC hL h1 h2 h3 h4 q'=>?_
 exact⟨m,hn,λh' sb=>⟨.ref Da,H',IX.turned (t':=s'.toks) (λb o hb e=>sb.extBut b o hb e) hC hL (.inr h1) h2 h3,rfl,q'⟩⟩
theorem RU{i:Nat}{x:Str}{pos' apos:Pos}(hN:X.N.Nodup)(mR:X.N[i]?=some x)(hx:Loc X.env.scope x)(hf:X.fn x=true\/X.env.scope.names.lookup x=some .local)(aD:List (Str × Nat))(bK:List Str)(hc:X.calm=true)(hi:PI X tg iter wi)
  (hg:∀C s H fp,PG (dQ X scope (aD.map (·.1)++bK) cl C s H fp) tg g)
  (ht:∀C s H fp,mD (dQ X scope (aD.map (·.1)++bK) cl C s H fp) ifs tt) (he:∀C s H fp,PE (dQ X scope (aD.map (·.1)++bK) cl C s H fp) elt te)
  (lM:closureFor scope X.env=pure cl) (lN:mE X cl) (lQ:∀C:Addr,mF (cellsFrom (C+1) scope.names cl) (relabel scope X.env).names) (lU:∀C:Addr,mC X scope (cellsFrom (C+1) scope.names cl) aD)
  (iB:scope.kind=.function) (lV:∀y∈scope.names,y.2=.local->scope.names.lookup y.1=some .local)
  (sr:swapsWith (.ListComp elt [⟨tg,iter,ifs,0⟩] scope pos) (some (.Name x pos')) apos.line X.env=pure true) (hs:∀x,foldedSetIterable iter X.env x=pure x:=by intro _;rfl):PS X (.Assign [.Name x pos'] (.ListComp elt [⟨tg,iter,ifs,0⟩] scope pos) apos) (FI (B0 wi aD bK.length g tt te) (BG i)):=by
 intro pins s σ H D I h
 rw[exec_Assign_Name_used x pos' _ apos sr]
 refine wpAny_bind (wpAny_standAt (wpAny_bind ?_))
 have hh:B0 wi aD bK.length g tt te σ H λv H1=>D.nx (σ.set i (some v)) H1:=h
 show wpAny _ _ (comprehension (.ListComp elt [⟨tg,iter,ifs,0⟩] scope pos) scope X.env (firstIterPos [⟨tg,iter,ifs,0⟩] pos) (newList []) false (eval iter X.env) (some (assign (.Name x pos') X.env)) >>= λ_=>pure ()) _ _ _
 refine wpAny_bind (RM (use:=some (assign (.Name x pos') X.env)) (pos:=pos) aD bK hc hi hg ht he lM lN lQ lU iB lV hs I hh λs' H' C Da m IX hn hC hL h1 h2 h3 h4 q'=>?_)
 obtain⟨oC,es,ep,hoC,RV,rest⟩:=id hn
 have IP:Inv X (pins++[(C,oC)]) σ H' s':=⟨IX.ok,IX.os,IX.bare,IX.base,IX.loc,IX.cell,IX.free,IX.gj,λp hp=>by
  rcases cI.mp hp with z | z
  ·exact IX.pin p (eR _ z)
  ·rcases cI.mp z with z | z
   ·exact IX.pin p (dq _ z)
   ·obtain rfl:=fI.mp z
    exact⟨hoC,hC,hL,h4,λv w=>by rw[RV]at w;cases w⟩,IX.aH,IX.len⟩
 refine aP (BH (X:=X) hN mR hx hf _ s' σ H' (.ref Da) (.ref Da) (λjR H2=>jR=σ.set i (some (.ref Da))/\H2=H') IP rfl ⟨rfl,rfl⟩) λ_ s2 zz=>?_
 obtain⟨jR,H2,I2,e1,e2⟩:=zz
 subst e1 e2
 have pC:=I2.pin (C,oC) (dq _ (dq _ (by simp)))
 refine⟨m,⟨oC,es,ep,pC.1,RV,rest⟩,λh' sb=>wpAny_pure (wpAny_pure ?_)⟩
 exact⟨σ.set i (some (.ref Da)),H2,(I2.xZ).turned (t':=s2.toks) (λb o hb e=>sb.extBut b o hb e) hC hL (.inr h1) h2 h3,q'⟩
end
end L2
namespace L3
open PySem L2 PySem.Spec PyProof.Rows
section
variable{X:Cx}{elt iter tg:Expr}{pos:Pos}{ifs:List Expr}{scope:Scope}{cl:List (Str × Addr)}{ti:ju}{tt:fX}{te:aN}{g:iK}
theorem eC(aD:List (Str × Nat))(bK:List Str)(hc:X.calm=true)(hi:PI X tg iter (lI ti))
  (hg:∀C s H fp,PG (dQ X scope (aD.map (·.1)++bK) cl C s H fp) tg (lG aD.length g))
  (ht:∀C s H fp,mD (dQ X scope (aD.map (·.1)++bK) cl C s H fp) ifs (lT tt)) (he:∀C s H fp,PE (dQ X scope (aD.map (·.1)++bK) cl C s H fp) elt (lE te))
  (lM:closureFor scope X.env=pure cl) (lN:mE X cl:=by repeat' (first | exact trivial | refine⟨rfl,?_⟩)) (lQ:∀C:Addr,mF (cellsFrom (C+1) scope.names cl) (relabel scope X.env).names:=by intro _;repeat' (first | exact trivial | refine⟨.inl rfl,?_⟩ | refine⟨.inr (.inl rfl),?_⟩ | refine⟨.inr (.inr ⟨_,rfl⟩),?_⟩)) (lU:∀C:Addr,mC X scope (cellsFrom (C+1) scope.names cl) aD:=by intro _;repeat' (first | exact trivial | refine⟨⟨rfl,.inl rfl,.inl rfl,_,rfl,rfl⟩,?_⟩))
  (iB:scope.kind=.function:=by rfl) (lV:∀y∈scope.names,y.2=.local->scope.names.lookup y.1=some .local:=by decide +kernel)
  (hs:∀x,foldedSetIterable iter X.env x=pure x:=by intro _;rfl):PE X (.ListComp elt [⟨tg,iter,ifs,0⟩] scope pos) (lE (pO ti aD bK.length g tt te)) :=
 dv (cj0 aD bK hc hi hg ht he lM lN lQ lU iB lV hs) λσ H Q zq=>by
 obtain⟨B,F,δ,ts,Qd,c,q,k⟩:=zq
 exact⟨B,F,δ,ts,_,c,q,λsh xs ak J F1 H1 hq f1 h1 c1 nO rQ=>by
  obtain⟨p,f,hx,eJ,hlen,hQ⟩:=hq
  exact G2 c1 nO rQ p f hx eJ hlen hQ λd ah v F' H' hd hf hs c'=>k d ah v F' H' hd (f1.trans hf) (h1.trans hs) c'⟩
theorem Io{i:Nat}{x:Str}{pos' apos:Pos}(hN:X.N.Nodup)(mR:X.N[i]?=some x)(hx:L2.Loc X.env.scope x)(aD:List (Str × Nat))(bK:List Str)(hc:X.calm=true)(hi:PI X tg iter (lI ti))
  (hg:∀C s H fp,PG (dQ X scope (aD.map (·.1)++bK) cl C s H fp) tg (lG aD.length g))
  (ht:∀C s H fp,mD (dQ X scope (aD.map (·.1)++bK) cl C s H fp) ifs (lT tt)) (he:∀C s H fp,PE (dQ X scope (aD.map (·.1)++bK) cl C s H fp) elt (lE te))
  (lM:closureFor scope X.env=pure cl) (lN:mE X cl:=by repeat' (first | exact trivial | refine⟨rfl,?_⟩)) (lQ:∀C:Addr,mF (cellsFrom (C+1) scope.names cl) (relabel scope X.env).names:=by intro _;repeat' (first | exact trivial | refine⟨.inl rfl,?_⟩ | refine⟨.inr (.inl rfl),?_⟩ | refine⟨.inr (.inr ⟨_,rfl⟩),?_⟩)) (lU:∀C:Addr,mC X scope (cellsFrom (C+1) scope.names cl) aD:=by intro _;repeat' (first | exact trivial | refine⟨⟨rfl,.inl rfl,.inl rfl,_,rfl,rfl⟩,?_⟩))
  (iB:scope.kind=.function:=by rfl) (lV:∀y∈scope.names,y.2=.local->scope.names.lookup y.1=some .local:=by decide +kernel)
  (sr:swapsWith (.ListComp elt [⟨tg,iter,ifs,0⟩] scope pos) (some (.Name x pos')) apos.line X.env=pure true:=by rfl) (hf:X.fn x=true\/X.env.scope.names.lookup x=some .local:=by first | exact .inl rfl | exact .inr rfl)
  (hs:∀x,foldedSetIterable iter X.env x=pure x:=by intro _;rfl):PS X (.Assign [.Name x pos'] (.ListComp elt [⟨tg,iter,ifs,0⟩] scope pos) apos) (lS X (rP i (pO ti aD bK.length g tt te))) :=
 kB (RU hN mR hx hf aD bK hc hi hg ht he lM lN lQ lU iB lV sr hs) λEn σ H zq=>by
 obtain⟨B,F,δ,Dd,c,q,k1,k2,k3,k4⟩:=zq
 exact⟨B,F,δ,[],_,c,q,λsh xs ak J F1 H1 hq f1 h1 c1 nO rQ=>by
  obtain⟨p,f,hx,eJ,hlen,hQ⟩:=hq
  exact G2 (Qd:=λd ah=>Dd.nx (ah.set i (some d))) c1 nO rQ p f hx eJ hlen hQ λd ah v F' H' hd hf hs c'=>k1 _ _ F' H' hd (c'.store i)⟩
end
end L3
namespace L3
open PySem L2 Mf
theorem lo1{m:Bool × Nat}(hm:m∈aE):1<ae m:=by have:=(c9 hm).lo;omega
inductive Sp(N:Nat)(p q:Nat->Nat->Nat)(S:(Nat->Nat)->Prop):(Nat->Nat)->Prop
 | mem {f:Nat->Nat}:S f->Sp N p q S f
 | zero:Sp N p q S λ_=>0
 | add {f g:Nat->Nat}:Sp N p q S f->Sp N p q S g->Sp N p q S λk=>p (f k) (g k)
 | mul {f:Nat->Nat} (c:Nat):c<N->Sp N p q S f->Sp N p q S λk=>q c (f k)
theorem Sp.trans{N:Nat}{p q:Nat->Nat->Nat}{S S':(Nat->Nat)->Prop}(h:∀f,S f->Sp N p q S' f){f:Nat->Nat}(s:Sp N p q S f):Sp N p q S' f:=by
 induction s with
 | mem a=>exact h _ a
 | zero=>exact .zero
 | add _ _ a b=>exact .add a b
 | mul c hc _ a=>exact .mul c hc a
def Gn(T:List (List Nat))(f:Nat->Nat):Prop:=∃r∈T,f=cf r
def cq(m:Bool × Nat)(T:List (List Nat))(f:Nat->Nat):Prop:=Sp (ae m) (gp m) (gm m) (Gn T) f
theorem cq.of{m:Bool × Nat}{T:List (List Nat)}{r:List Nat}(h:r∈T):cq m T (cf r):=.mem ⟨r,h,rfl⟩
theorem cd9{m:Bool × Nat}(hm:m∈aE){a:Nat}(ha:a<ae m){f f' l:Nat->Nat}(hf':∀k,f' k<ae m)(hl:∀k,l k<ae m)(h:∀k,gp m (f' k) (gm m a (l k))=f k):∃b,b<ae m/\f'=λk=>gp m (f k) (gm m b (l k)):=by
 have r:=rg hm
 obtain⟨b,hb,e⟩:=r.ng ha
 refine⟨b,hb,funext λk=>?_⟩
 rw[<-h k,r.pa,r.mc a,r.mc b,<- r.dl,e,r.qz,r.z' (hf' k)]
theorem Ip{m:Bool × Nat}(hm:m∈aE){r l:List Nat}{w:Nat}(hr:r.length=w)(hl:l.length=w)(a k:Nat):cf (dr (λx y=>bP m x (gm m a y)) r l) k=bP m (cf r k) (gm m a (cf l k)):=by
 by_cases h:k<w
 ·unfold cf
  rw[aS,qS,aR (by omega),aR (by omega),aS,aR (by omega),aS,aR (by omega)]
  rfl
 ·rw[qj (by rw[kR];omega),qj (l:=r) (by omega),qj (l:=l) (by omega),lK m _ (dm m hm),RC]
theorem Dc{m:Bool × Nat}(hm:m∈aE){r l:List Nat}{w a:Nat}(hr:r.length=w)(hl:l.length=w)(ar:AllLt (ae m) r)(k:Nat):gp m (cf (dr (λx y=>bP m x (gm m a y)) r l) k) (gm m a (cf l k))=cf r k:=by
 rw[Ip hm hr hl]
 exact(mV hm (fK hm ar k) (cV hm _ _)).2.2
theorem Iq{m:Bool × Nat}(hm:m∈aE){r l:List Nat}{w:Nat}(hr:r.length=w)(hl:l.length=w)(ar:AllLt (ae m) r)(a k:Nat):cf (dr (λx y=>bP m x (gm m a y)) r l) k<ae m:=by
 rw[Ip hm hr hl]
 exact(mV hm (fK hm ar k) (cV hm _ _)).2.1
theorem RW{m:Bool × Nat}(hm:m∈aE){w p i:Nat}{T:List (List Nat)}(hT:RT (ae m) w T)(e:j5 T p=some i):∃(g:List Nat) (c:Nat),g∈T/\T.getD i []=g/\g.length=w/\AllLt (ae m) g/\c<ae m/\gm m c (cf g p)=1/\(eO m T i p).length=w/\AllLt (ae m) (eO m T i p)/\(∀k,cf (eO m T i p) k=gm m c (cf g k))/\cf (eO m T i p) p=1/\∀k,gm m (cf g p) (cf (eO m T i p) k)=cf g k:=by
 obtain⟨hi,h1,h2⟩:=C6 e
 obtain⟨a,b⟩:=hT _ (eG hi)
 have l1:1<ae m:=lo1 hm
 obtain⟨c,hc,De⟩:=RF hm l1 (fK hm b p) h1
 have ec:mY m (cf T[i] p)=c:=C5 hm hc De
 have el:eO m T i p=T[i].map (gm m c):=by unfold eO;rw[h2,<- ec];rfl
 have ek:∀k,cf (eO m T i p) k=gm m c (cf T[i] k):=λk=>by rw[el];exact cH0 hm _ _ _
 refine⟨T[i],c,eG hi,h2,a,b,hc,De,by rw[el,br,a],λx hx=>?_,ek,by rw[ek];exact De,λk=>?_⟩
 ·rw[el]at hx
  obtain⟨y,_,rfl⟩:=bB.mp hx
  exact cV hm _ _
 ·rw[ek,<- jD (dm m hm),gg m _ c,De,mU (fK hm b k)]
theorem RX{m:Bool × Nat}{s:List (List Nat) × List (List Nat)}{p i:Nat}(e:j5 s.2 p=some i):iV m s p=(gY m s.1 (eO m s.2 i p) p++[eO m s.2 i p],gY m (s.2.take i++s.2.drop (i+1)) (eO m s.2 i p) p):=by unfold iV;rw[e]
theorem RY{m:Bool × Nat}{s:List (List Nat) × List (List Nat)}{p:Nat}(e:j5 s.2 p=none):iV m s p=s:=by unfold iV;rw[e]
theorem Df{α:Type}{T:List α}{i:Nat}{r:α}(h:r∈T.take i++T.drop (i+1)):r∈T:=(cI.mp h).elim xF qQ
theorem cg3{α:Type}{T:List α}{i:Nat}{r:α}(h:r∈T)(hi:i<T.length):r=T[i]\/r∈T.take i++T.drop (i+1):=by
 obtain⟨j,hj,rfl⟩:=kq h
 rcases Nat.lt_trichotomy j i with h | h | h
 ·exact .inr (cI.mpr (.inl (List.mem_take_iff_getElem.mpr ⟨j,by omega,rfl⟩)))
 ·subst h;exact .inl rfl
 ·exact .inr (cI.mpr (.inr (List.mem_drop_iff_getElem.mpr ⟨j-(i+1),by omega,by congr 1;omega⟩)))
theorem bW8{m:Bool × Nat}(hm:m∈aE){w n p:Nat}{s:List (List Nat) × List (List Nat)}(h:zM (ae m) w n s)(f:Nat->Nat):cq m (s.1++s.2) f↔cq m ((iV m s p).1++(iV m s p).2) f:=by
 cases e:j5 s.2 p with
 | none=>rw[RY e]
 | some i =>
  obtain⟨g,c,g1,g2,g3,g4,c1,c2,l1,l2,l3,l4,l5⟩:=RW hm h.b e
  obtain⟨hi,_,hg⟩:=C6 e
  rw[RX e]
  generalize eO m s.2 i p=l at l1 l2 l3 l4 l5
  have ll:=fK hm l2
  have row:∀{T:List (List Nat)},RT (ae m) w T->∀r'∈gY m T l p,∃r∈T,∃b,b<ae m/\cf r'=λk=>gp m (cf r k) (gm m b (cf l k)):=λ{T} hT r' bj=>by
   obtain⟨r,hr,rfl⟩:=bB.mp bj
   obtain⟨a1,a2⟩:=hT r hr
   exact⟨r,hr,cd9 hm (fK hm a2 p) (Iq hm a1 l1 a2 _) ll (Dc hm a1 l1 a2)⟩
  have RZ:∀{T:List (List Nat)},RT (ae m) w T->∀r∈T,∃r'∈gY m T l p,cf r=λk=>gp m (cf r' k) (gm m (cf r p) (cf l k)):=λ{T} hT r hr=>by
   obtain⟨a1,a2⟩:=hT r hr
   exact⟨_,bB.mpr ⟨r,hr,rfl⟩,funext λk=>(Dc hm a1 l1 a2 k).symm⟩
  have hB:RT (ae m) w (s.2.take i++s.2.drop (i+1)):=λr hr=>h.b r (Df hr)
  constructor
  ·refine Sp.trans ?_
   rintro f ⟨r,hr,rfl⟩
   have hl:cq m ((gY m s.1 l p++[l])++gY m (s.2.take i++s.2.drop (i+1)) l p) (cf l):=cq.of (by simp)
   rcases cI.mp hr with hr | hr
   ·obtain⟨r',h1,h2⟩:=RZ h.a r hr
    rw[h2]
    exact .add (cq.of (by simp[h1])) (.mul _ (fK hm (h.a r hr).2 p) hl)
   ·rcases cg3 hr hi with e' | bj
    ·have:cf r=λk=>gm m (cf g p) (cf l k):=funext λk=>by rw[l5 k,e',<- hg,g2]
     rw[this]
     exact .mul _ (fK hm g4 p) hl
    ·obtain⟨r',h1,h2⟩:=RZ hB r bj
     rw[h2]
     exact .add (cq.of (by simp[h1])) (.mul _ (fK hm (h.b r hr).2 p) hl)
  ·refine Sp.trans ?_
   rintro f ⟨r,hr,rfl⟩
   have hl:cq m (s.1++s.2) (cf l):=by
    have:cf l=λk=>gm m c (cf g k):=funext l3
    rw[this]
    exact .mul _ c1 (cq.of (dq _ g1))
   rcases cI.mp hr with hr | hr
   ·rcases cI.mp hr with hr | hr
    ·obtain⟨r1,h1,b,hb,h2⟩:=row h.a r hr
     rw[h2]
     exact .add (cq.of (eR _ h1)) (.mul _ hb hl)
    ·rw[fI]at hr
     rw[hr];exact hl
   ·obtain⟨r1,h1,b,hb,h2⟩:=row hB r hr
    rw[h2]
    exact .add (cq.of (dq _ (Df h1))) (.mul _ hb hl)
structure RR(w:Nat)(R:List (List Nat))(H:Nat->Nat):Prop where
 u:∀i j,i<R.length->j<R.length->cf (R.getD i []) (H j)=if i=j then 1 else 0
 z:∀i,i<R.length->∀t,t<H i->cf (R.getD i []) t=0
 i:∀i j,i<j->j<R.length->H i<H j
 l:∀i,i<R.length->H i<w
theorem qm{α β:Type}(f:α->β){l:List α}{i:Nat}(h:i<l.length)(a:α)(b:β):(l.map f).getD i b=f (l.getD i a):=by
 rw[aS,cM,aS,aR h];rfl
theorem dR{α:Type}{l:List α}{i:Nat}(h:i<l.length)(a:α):l.getD i a∈l:=by
 rw[aS,aR h];exact eG h
theorem bM8{m:Bool × Nat}(hm:m∈aE){w n p:Nat}{s:List (List Nat) × List (List Nat)}(h:zM (ae m) w n s){H:Nat->Nat}(I:RR p s.1 H)(e2:∀r∈s.2,∀t,t<p->cf r t=0):∃H',RR (p+1) (iV m s p).1 H'/\∀r∈(iV m s p).2,∀t,t<p+1->cf r t=0:=by
 cases e:j5 s.2 p with
 | none =>
  rw[RY e]
  refine⟨H,⟨I.u,I.z,I.i,λi hi=>Nx (I.l i hi)⟩,λr hr t ht=>?_⟩
  rcases NI t p with h1 | h1
  ·exact e2 r hr t h1
  ·have:=YR.mp e r hr
   have z:r.getD p 0=0:=by simpa using this
   rw[show t=p by omega]
   exact z
 | some i0 =>
  obtain⟨g,c,g1,g2,g3,g4,c1,c2,l1,l2,l3,l4,l5⟩:=RW hm h.b e
  rw[RX e]
  generalize eO m s.2 i0 p=l at l1 l2 l3 l4 l5
  have m0:=dm m hm
  have lz:∀t,t<p->cf l t=0:=λt ht=>by rw[l3,e2 g g1 t ht,lK m _ m0]
  have zO:∀{r:List Nat},r.length=w->AllLt (ae m) r->(∀t,t<p->cf (dr (λx y=>bP m x (gm m (r.getD p 0) y)) r l) t=cf r t)/\cf (dr (λx y=>bP m x (gm m (r.getD p 0) y)) r l) p=0:=λ{r} a1 a2=>by
   constructor
   ·intro t ht
    have:=Dc hm (a:=r.getD p 0) a1 l1 a2 t
    rw[lz t ht,lK m _ m0,zJ (Iq hm a1 l1 a2 _ _)]at this
    exact this
   ·rw[Ip hm a1 l1,l4]
    show bP m (r.getD p 0) (gm m (r.getD p 0) 1)=0
    rw[qg (show r.getD p 0<ae m from fK hm a2 p),RC]
  have nl:(gY m s.1 l p).length=s.1.length:=by unfold gY;rw[br]
  have R0:∀i,i<s.1.length->∃r,s.1.getD i []=r/\r.length=w/\AllLt (ae m) r/\(gY m s.1 l p++[l]).getD i []=dr (λx y=>bP m x (gm m (r.getD p 0) y)) r l:=λi hi=>by
   refine⟨_,rfl,(h.a _ (dR hi [])).1,(h.a _ (dR hi [])).2,?_⟩
   rw[aS,qJ (by omega),<- aS]
   exact qm _ hi [] []
  have R1:(gY m s.1 l p++[l]).getD s.1.length []=l:=by
   rw[aS,m5 (by omega),nl,Fu];rfl
  have le:(gY m s.1 l p++[l]).length=s.1.length+1:=by rw[dF,nl];rfl
  refine⟨λi=>if i<s.1.length then H i else p,⟨λi j hi hj=>?_,λi hi t ht=>?_,λi j zP hj=>?_,λi hi=>?_⟩,λr hr t ht=>?_⟩
  ·show cf ((gY m s.1 l p++[l]).getD i []) _=_
   dsimp only at hi hj ⊢
   rw[le]at hi hj
   by_cases h1:i<s.1.length
   ·obtain⟨r,r1,r2,r3,r4⟩:=R0 i h1
    rw[r4]
    by_cases h2:j<s.1.length
    ·rw[if_pos h2,(zO r2 r3).1 _ (I.l j h2),<- r1]
     exact I.u i j h1 h2
    ·rw[if_neg h2,(zO r2 r3).2,if_neg (by omega)]
   ·have e1:i=s.1.length:=by omega
    rw[e1,R1]
    by_cases h2:j<s.1.length
    ·rw[if_pos h2,lz _ (I.l j h2),if_neg (by omega)]
    ·rw[if_neg h2,l4,if_pos (by omega)]
  ·dsimp only at hi ht ⊢
   rw[le]at hi
   by_cases h1:i<s.1.length
   ·rw[if_pos h1]at ht
    obtain⟨r,r1,r2,r3,r4⟩:=R0 i h1
    rw[r4,(zO r2 r3).1 _ (by have:=I.l i h1;omega),<- r1]
    exact I.z i h1 t ht
   ·rw[if_neg h1]at ht
    have e1:i=s.1.length:=by omega
    rw[e1,R1];exact lz t ht
  ·dsimp only at hj ⊢
   rw[le]at hj
   rw[if_pos (by omega)]
   by_cases h2:j<s.1.length
   ·rw[if_pos h2];exact I.i i j zP h2
   ·rw[if_neg h2];exact I.l i (by omega)
  ·dsimp only at hi ⊢
   rw[le]at hi
   split
   ·have:=I.l i (by omega);omega
   ·omega
  ·obtain⟨r1,Dg,rfl⟩:=bB.mp hr
   obtain⟨a1,a2⟩:=h.b r1 (Df Dg)
   rcases NI t p with h1 | h1
   ·rw[(zO a1 a2).1 t h1];exact e2 _ (Df Dg) t h1
   ·rw[show t=p by omega];exact(zO a1 a2).2
theorem R3{m:Bool × Nat}(hm:m∈aE){w:Nat}{G:List (List Nat)}(h:RT (ae m) w G):∀k,(∃H,RR k (j6 m G k).1 H/\∀r∈(j6 m G k).2,∀t,t<k->cf r t=0)/\∀f,cq m G f↔cq m ((j6 m G k).1++(j6 m G k).2) f
 | 0=>⟨⟨λ_=>0,⟨(λ_ _ h=>nomatch h),(λ_ h=>nomatch h),(λ_ _ _ h=>nomatch h),(λ_ h=>nomatch h)⟩,λr _ t ht=>nomatch ht⟩,λf=>.rfl⟩
 | k+1=>by
  obtain⟨⟨H,h1,h2⟩,h3⟩:=R3 hm h k
  have D:=C7 hm h k
  rw[Ie]
  exact⟨bM8 hm D h1 h2,λf=>(h3 f).trans (bW8 hm D f)⟩
theorem jc{m:Bool × Nat}(hm:m∈aE){G:List (List Nat)}(h:RT (ae m) (aj G) G):(∃H,RR (aj G) (bG m G) H)/\RT (ae m) (aj G) (bG m G)/\(bG m G).length<=G.length/\∀f,cq m G f↔cq m (bG m G) f:=by
 obtain⟨⟨H,h1,h2⟩,h3⟩:=R3 hm h (aj G)
 have D:=C7 hm h (aj G)
 refine⟨⟨H,h1⟩,D.a,by have:=D.l;show(j6 m G (aj G)).1.length<=_;omega,λf=>(h3 f).trans ⟨Sp.trans ?_,Sp.trans ?_⟩⟩
 ·rintro f ⟨r,hr,rfl⟩
  rcases cI.mp hr with hr | hr
  ·exact cq.of hr
  ·have:cf r=λ_=>0:=funext λt=>by
    rcases NI t (aj G)with h4 | h4
    ·exact h2 r hr t h4
    ·exact qj (by rw[(D.b r hr).1];exact h4)
   rw[this];exact .zero
 ·rintro f ⟨r,hr,rfl⟩
  exact cq.of (eR _ hr)
theorem ot{N:Nat}{p q:Nat->Nat->Nat}(r:Rg N p q){f:Nat->Nat}{j0:Nat}(hf:f j0<N):∀{n:Nat},j0<n->(∀j,j<n->j≠j0->f j=0)->sm p n f=f j0
 | 0,h,_=>nomatch h
 | n+1,h,hz=>by
  rw[sm]
  by_cases e:j0=n
  ·subst e
   rw[gu r λj hj=>hz j (by omega) (by omega),r.z hf]
  ·rw[ot r hf (by omega) λj hj=>hz j (by omega),hz n (by omega) (by omega),r.z' hf]
theorem RR.own{m:Bool × Nat}(hm:m∈aE){w:Nat}{R:List (List Nat)}{H:Nat->Nat}(hR:RT (ae m) w R)(I:RR w R H){f:Nat->Nat}(s:cq m R f):∀k,f k=sm (gp m) R.length λi=>gm m (f (H i)) (cf (R.getD i []) k):=by
 have r:=rg hm
 have m0:=dm m hm
 induction s with
 | mem a =>
  intro k
  obtain⟨x,hx,rfl⟩:=a
  obtain⟨i,hi,rfl⟩:=kq hx
  have ei:R[i]=R.getD i []:=by rw[aS,aR hi];rfl
  have one:gm m (cf R[i] (H i)) (cf (R.getD i []) k)=cf R[i] k:=by
   rw[ei,I.u i i hi hi,if_pos rfl]
   exact mU (fK hm (hR _ (dR hi [])).2 k)
  refine((ot r (f:=λa=>gm m (cf R[i] (H a)) (cf (R.getD a []) k)) (j0:=i) (cV hm _ _) hi λj hj hn=>?_).trans one).symm
  rw[ei,I.u i j hi hj,if_neg (by omega),gX m _ m0]
 | zero=>exact λk=>(gu r λj _=>gX m _ m0).symm
 | add _ _ a b =>
  intro k
  dsimp only
  rw[a k,b k,<- qk r]
  refine cP λj _=>?_
  rw[r.mc (gp m _ _),r.dl,r.mc _ (cf _ k),r.mc _ (cf _ k)]
 | mul c hc _ a =>
  intro k
  dsimp only
  rw[a k,<- mX r]
  refine cP λj _=>?_
  rw[jD m0]
theorem cq.sum{m:Bool × Nat}(hm:m∈aE){w:Nat}{R:List (List Nat)}(hR:RT (ae m) w R){f:Nat->Nat}(s:cq m R f):∃c:Nat->Nat,(∀i,c i<ae m)/\∀k,f k=sm (gp m) R.length λi=>gm m (c i) (cf (R.getD i []) k):=by
 have r:=rg hm
 have m0:=dm m hm
 have l1:=lo1 hm
 induction s with
 | mem a =>
  obtain⟨x,hx,rfl⟩:=a
  obtain⟨i,hi,rfl⟩:=kq hx
  have ei:R[i]=R.getD i []:=by rw[aS,aR hi];rfl
  refine⟨λj=>if j=i then 1 else 0,λj=>by dsimp only;split<;>omega,λk=>?_⟩
  refine((ot r (f:=λa=>gm m (if a=i then 1 else 0) (cf (R.getD a []) k)) (j0:=i) (cV hm _ _) hi λj hj hn=>?_).trans ?_).symm
  ·rw[if_neg hn,gX m _ m0]
  ·rw[if_pos rfl,ei]
   exact mU (fK hm (hR _ (dR hi [])).2 k)
 | zero=>exact⟨λ_=>0,λ_=>r.pos,λk=>(gu r λj _=>gX m _ m0).symm⟩
 | add _ _ a b =>
  obtain⟨c,hc,a⟩:=a
  obtain⟨d,hd,b⟩:=b
  refine⟨λi=>gp m (c i) (d i),λi=>r.lp (hc i) (hd i),λk=>?_⟩
  dsimp only
  rw[a k,b k,<- qk r]
  refine cP λj _=>?_
  rw[r.mc (gp m _ _),r.dl,r.mc _ (cf _ k),r.mc _ (cf _ k)]
 | mul e he _ a =>
  obtain⟨c,hc,a⟩:=a
  refine⟨λi=>gm m e (c i),λi=>cV hm _ _,λk=>?_⟩
  dsimp only
  rw[a k,<- mX r]
  refine cP λj _=>?_
  rw[jD m0]
theorem cq.ann{m:Bool × Nat}(hm:m∈aE){R:List (List Nat)}{n:Nat}{y:Nat->Nat}(h:∀x∈R,sm (gp m) n (λj=>gm m (cf x j) (y j))=0){f:Nat->Nat}(s:cq m R f):sm (gp m) n (λj=>gm m (f j) (y j))=0:=by
 have r:=rg hm
 have m0:=dm m hm
 induction s with
 | mem a=>obtain⟨x,hx,rfl⟩:=a;exact h x hx
 | zero=>exact gu r λj _=>gX m _ m0
 | @add f g _ _ a b =>
  rw[cP (g:=λj=>gp m (gm m (f j) (y j)) (gm m (g j) (y j))) λj _=>by dsimp only;rw[r.mc (gp m _ _),r.dl,r.mc (y j),r.mc (y j)],qk r,a,b,r.z r.pos]
 | @mul f e he _ a =>
  rw[cP (g:=λj=>gm m e (gm m (f j) (y j))) λj _=>jD m0 _ _ _,mX r,a,r.qz]
theorem RR.Ir{m:Bool × Nat}(hm:m∈aE){w:Nat}{R:List (List Nat)}{H:Nat->Nat}(hR:RT (ae m) w R)(I:RR w R H){i:Nat}(hi:i<R.length):(R.getD i []).findIdx (· != 0)=H i/\∃x∈R.getD i [],x≠0:=by
 have a:=(hR _ (dR hi [])).1
 have l:=I.l i hi
 have u:=I.u i i hi hi
 rw[if_pos rfl]at u
 have eu:(R.getD i [])[H i]'(by omega)=1:=by
  unfold cf at u
  rw[aS (l:=R.getD i []),aR (by omega)]at u
  exact u
 refine⟨?_,_,eG (show H i<(R.getD i []).length by omega),by rw[eu];decide⟩
 rw[List.findIdx_eq (by omega)]
 refine⟨by rw[eu];rfl,λj hj=>?_⟩
 have z:=I.z i hi j hj
 unfold cf at z
 rw[aS (l:=R.getD i []),aR (by omega)]at z
 simpa using z
theorem R4{a b:List Nat}{w:Nat}(ha:a.length=w)(hb:b.length=w)(h:∀k,k<w->cf a k=cf b k):a=b:=by
 refine NB (ha.trans hb.symm) λk h1 h2=>?_
 have:=h k (by omega)
 unfold cf at this
 rw[aS,aS,aR h1,aR h2]at this
 exact this
theorem Iu(f:Nat->Nat){w k:Nat}(h:k<w):cf ((aL w).map f) k=f k:=by
 unfold cf
 rw[aS,cM,jL h];rfl
theorem qo(m:Bool × Nat){xs ys:List Nat}(h:xs.length=ys.length):gd m xs ys=sm (gp m) xs.length λj=>gm m (cf xs j) (cf ys j):=by
 unfold gd
 rw[ch9,kR,h,Ba]
 refine cP λj hj=>?_
 unfold cf
 rw[aS,qS,aR (by omega),aR (by omega),aS,aR (by omega),aS,aR (by omega)]
 rfl
def ou(m:Bool × Nat)(xs:List Nat)(T:List (List Nat))(w:Nat):List Nat:=(aL w).map λk=>gd m xs (T.map λr=>r.getD k 0)
theorem R5{T:List (List Nat)}(k i:Nat):cf (T.map λr=>r.getD k 0) i=cf (T.getD i []) k:=by
 by_cases h:i<T.length
 ·exact qm (λr:List Nat=>r.getD k 0) h [] 0
 ·rw[qj (by rw[br];omega),aS,gw (by omega)];rfl
theorem R6(m:Bool × Nat)(xs:List Nat)(T:List (List Nat))(w:Nat):(ou m xs T w).length=w:=by unfold ou;rw[br,cj]
theorem R7(m:Bool × Nat){xs:List Nat}{T:List (List Nat)}{w k:Nat}(h:xs.length=T.length)(hk:k<w):cf (ou m xs T w) k=sm (gp m) T.length λi=>gm m (cf xs i) (cf (T.getD i []) k):=by
 unfold ou
 rw[Iu _ hk,qo m (by rw[br,h]),h]
 exact cP λj _=>by rw[R5]
theorem cF4{m:Bool × Nat}(hm:m∈aE){xs ys:List Nat}(h:xs.length=ys.length):gd m xs ys<ae m:=by
 rw[qo m h];exact oo (rg hm) λj _=>cV hm _ _
theorem cE1{m:Bool × Nat}(hm:m∈aE){xs:List Nat}{T:List (List Nat)}(w:Nat)(h:xs.length=T.length):AllLt (ae m) (ou m xs T w):=λx hx=>by
 obtain⟨k,_,rfl⟩:=bB.mp hx
 exact cF4 hm (by rw[br,h])
def aW(r:List Nat):Nat:=r.findIdx (· != 0)
theorem Dh{α:Type}(a b:α->Nat){j:Nat}:∀(l:List α) (x:List Nat),(∀z∈l,a z≠j)->cf (l.foldl (λx z=>x.set (a z) (b z)) x) j=cf x j
 | [],_,_=>rfl
 | z::l,x,h=>by
  rw[ub,Dh a b l _ λy hy=>h y (gK _ hy)]
  unfold cf
  rw[aS,qI (h z kh),<- aS]
theorem R8{α:Type}(a b:α->Nat):∀(l:List α) (x:List Nat),l.Pairwise (λy z=>a y≠a z)->∀z∈l,a z<x.length->cf (l.foldl (λx z=>x.set (a z) (b z)) x) (a z)=b z
 | [],_,_,_,h,_=>nomatch h
 | y::l,x,hp,z,hz,hl=>by
  rw[ub]
  rw[Fv]at hp
  rcases cH.mp hz with rfl | hz
  ·rw[Dh a b l _ λy hy=>fF (hp.1 y hy)]
   unfold cf
   rw[aS,AR hl];rfl
  ·exact R8 a b l _ hp.2 z hz (by rw[kn];exact hl)
theorem R9{α:Type}(a b:α->Nat):∀(l:List α) (x:List Nat),(l.foldl (λx z=>x.set (a z) (b z)) x).length=x.length
 | [],_=>rfl
 | z::l,x=>by rw[ub,R9 a b l,kn]
theorem cL9{m:Bool × Nat}(hm:m∈aE):∃e,e<ae m/\gp m 1 e=0/\e≠0/\∀{a b},a<ae m->b<ae m->(gp m a (gm m b e)=0↔a=b):=by
 have r:=rg hm
 obtain⟨e,he,h⟩:=r.ng (lo1 hm)
 refine⟨e,he,h,λz=>?_,λ{a b} ha hb=>?_⟩
 ·rw[z,r.z' (lo1 hm)]at h;omega
 ·have k:gp m b (gm m b e)=0:=by
   have:=r.dl b 1 e
   rw[h,r.qz,qg hb]at this
   exact this.symm
  exact⟨λh1=>r.RD ha hb (cV hm b e) (h1.trans k.symm),λh1=>h1 ▸ k⟩
def eP(T:List (List Nat)):List (List Nat):=(aL (aj T)).map λj=>T.map λr=>r.getD j 0
theorem Sa{T:List (List Nat)}{a:Nat}(h:a<aj T):(eP T).getD a []=T.map λr=>r.getD a 0:=by
 unfold eP
 rw[aS,cM,jL h];rfl
theorem Iw{N:Nat}{T:List (List Nat)}(h0:0<N)(hw:0<aj T)(hT:RT N (aj T) T):(eP T).length=aj T/\aj (eP T)=T.length/\RT N T.length (eP T):=by
 have a:(eP T).length=aj T:=by unfold eP;rw[br,cj]
 have c:RT N T.length (eP T):=λr hr=>by
  obtain⟨j,_,rfl⟩:=bB.mp hr
  refine⟨br _,λx hx=>?_⟩
  obtain⟨y,hy,rfl⟩:=bB.mp hx
  exact(hT y hy).2.getD h0 j
 refine⟨a,?_,c⟩
 have:=Sa hw
 have e:aj (eP T)=((eP T).getD 0 []).length:=by
  unfold aj
  cases eP T<;>rfl
 rw[e,this,br]
end L3
namespace L3
open PySem L2 Mf
def eX(T:List (List Nat))(w:Nat):List Nat:=(aL w).filter λj=>!(T.map aW).contains j
def fA(m:Bool × Nat)(T:List (List Nat))(w f:Nat):List Nat:=(((T.map aW).zip T).foldl (λx z=>x.set z.1 (bP m 0 (z.2.getD f 0))) ((aU w 0).set f 1))
def je(m:Bool × Nat)(T:List (List Nat))(w:Nat):List (List Nat):=(eX T w).map (fA m T w)
theorem RR.heads{m:Bool × Nat}(hm:m∈aE){w:Nat}{R:List (List Nat)}{H:Nat->Nat}(hR:RT (ae m) w R)(I:RR w R H):R.map aW=(aL R.length).map H:=by
 refine NB (by rw[br,br,cj]) λi h1 h2=>?_
 rw[br]at h1
 rw[xN,xN,NJ,<- (I.Ir hm hR h1).1,aS,aR h1];rfl
theorem RR.mem{m:Bool × Nat}(hm:m∈aE){w:Nat}{R:List (List Nat)}{H:Nat->Nat}(hR:RT (ae m) w R)(I:RR w R H)(j:Nat):j∈R.map aW↔∃i,i<R.length/\H i=j:=by
 rw[I.heads hm hR,bB]
 exact⟨λ⟨i,a,b⟩=>⟨i,di.mp a,b⟩,λ⟨i,a,b⟩=>⟨i,di.mpr a,b⟩⟩
theorem RR.free{m:Bool × Nat}(hm:m∈aE){w:Nat}{R:List (List Nat)}{H:Nat->Nat}(hR:RT (ae m) w R)(I:RR w R H)(j:Nat):j∈eX R w↔j<w/\∀i,i<R.length->H i≠j:=by
 unfold eX
 rw[xx,di,Bool.not_eq_true',<- Bool.not_eq_true,Fs,I.mem hm hR]
 exact and_congr_right λ_=>⟨λh i a b=>h ⟨i,a,b⟩,λh ⟨i,a,b⟩=>h i a b⟩
theorem RR.wL{m:Bool × Nat}(hm:m∈aE){w:Nat}{R:List (List Nat)}{H:Nat->Nat}(hR:RT (ae m) w R)(I:RR w R H):(eX R w).length+R.length=w:=by
 have nd:(R.map aW).Nodup:=by
  rw[I.heads hm hR]
  unfold List.Nodup
  rw[YS]
  intro i j hi hj zP
  rw[br,cj]at hi hj
  rw[xN,xN,NJ,NJ]
  have:=I.i i j zP hj
  omega
 have pe:((aL w).filter λj=>(R.map aW).contains j).Perm (R.map aW):=by
  refine(List.perm_ext_iff_of_nodup (YT _ List.nodup_range) nd).mpr λj=>?_
  rw[xx,Fs,di]
  refine⟨λh=>h.2,λh=>⟨?_,h⟩⟩
  obtain⟨i,hi,rfl⟩:=(I.mem hm hR j).mp h
  exact I.l i hi
 have l1:=pe.length_eq
 rw[br]at l1
 have l2:=List.length_eq_countP_add_countP (λj=>(R.map aW).contains j) (l:=aL w)
 rw[cj,YU,YU,l1]at l2
 unfold eX
 have e:((aL w).filter λa=>decide ¬(R.map aW).contains a=true)=(aL w).filter λj=>!(R.map aW).contains j:=List.filter_congr λx _=>by
  cases(R.map aW).contains x<;>rfl
 rw[e]at l2
 omega
theorem sX{m:Bool × Nat}(hm:m∈aE){w f:Nat}{R:List (List Nat)}{H:Nat->Nat}(hR:RT (ae m) w R)(I:RR w R H)(hf:f∈eX R w):(fA m R w f).length=w/\AllLt (ae m) (fA m R w f)/\cf (fA m R w f) f=1/\(∀i,i<R.length->cf (fA m R w f) (H i)=bP m 0 (cf (R.getD i []) f))/\∀j,j≠f->(∀i,i<R.length->H i≠j)->cf (fA m R w f) j=0:=by
 obtain⟨f1,f2⟩:=(I.free hm hR f).mp hf
 have l1:=lo1 hm
 have zl:((R.map aW).zip R).length=R.length:=by rw[Fq,br,Ba]
 have zg:∀i (h:i<R.length),((R.map aW).zip R)[i]'(by omega)=(H i,R.getD i []):=λi h=>by
  rw[List.getElem_zip,xN]
  have e:R.getD i []=R[i]:=by rw[aS,aR h];rfl
  have:=(I.Ir hm hR h).1
  rw[e]at this ⊢
  exact Prod.ext this rfl
 have zm:∀z∈(R.map aW).zip R,∃i,i<R.length/\z=(H i,R.getD i []):=λz hz=>by
  obtain⟨i,hi,rfl⟩:=kq hz
  exact⟨i,by omega,zg i (by omega)⟩
 have mz:∀i,i<R.length->(H i,R.getD i [])∈(R.map aW).zip R:=λi h=>by
  rw[<-zg i h];exact eG _
 have bd:∀z∈(R.map aW).zip R,bP m 0 (z.2.getD f 0)<ae m:=λz hz=>by
  obtain⟨i,hi,rfl⟩:=zm z hz
  exact(mV hm (by omega) (fK hm (hR _ (dR hi [])).2 f)).2.1
 refine⟨?_,?_,?_,λi hi=>?_,λj hj hj2=>?_⟩
 ·unfold fA
  rw[R9 (λz:Nat × List Nat=>z.1) (λz=>bP m 0 (z.2.getD f 0)),kn,fP]
 ·have key:∀(l:List (Nat × List Nat)) (x:List Nat),(∀z∈l,bP m 0 (z.2.getD f 0)<ae m)->AllLt (ae m) x->AllLt (ae m) (l.foldl (λx z=>x.set z.1 (bP m 0 (z.2.getD f 0))) x):=by
   intro l
   induction l with
   | nil=>exact λx _ h=>h
   | cons z l ih =>
    intro x hz h
    rw[ub]
    refine ih _ (λy hy=>hz y (gK _ hy)) λy hy=>?_
    rcases Nz hy with h1 | h1
    ·exact h y h1
    ·rw[h1];exact hz z kh
  refine key _ _ bd λx hx=>?_
  rcases Nz hx with h1 | h1
  ·rw[(uh.mp h1).2];omega
  ·omega
 ·unfold fA
  rw[Dh (λz:Nat × List Nat=>z.1) (λz=>bP m 0 (z.2.getD f 0)) _ _ λz hz=>?_]
  ·unfold cf
   rw[aS,AR (by rw[fP];exact f1)];rfl
  ·obtain⟨i,hi,rfl⟩:=zm z hz
   exact f2 i hi
 ·have hp:((R.map aW).zip R).Pairwise (λy z:Nat × List Nat=>y.1≠z.1):=by
   rw[YS]
   intro i j hi hj zP
   rw[zg i (by omega),zg j (by omega)]
   have:=I.i i j zP (by omega)
   show H i≠H j
   omega
  exact R8 (λz:Nat × List Nat=>z.1) (λz=>bP m 0 (z.2.getD f 0)) _ _ hp _ (mz i hi) (by rw[kn,fP];exact I.l i hi)
 ·unfold fA
  rw[Dh (λz:Nat × List Nat=>z.1) (λz=>bP m 0 (z.2.getD f 0)) _ _ λz hz=>?_]
  ·unfold cf
   rw[aS,qI (fF hj),oN]
   split<;>rfl
  ·obtain⟨i,hi,rfl⟩:=zm z hz
   exact hj2 i hi
theorem cB0{N:Nat}{p q:Nat->Nat->Nat}(r:Rg N p q){f:Nat->Nat}{a b n:Nat}(ha:a<n)(hb:b<n)(hn:a≠b)(fa:f a<N)(fb:f b<N)(hz:∀j,j<n->j≠a->j≠b->f j=0):sm p n f=p (f a) (f b):=by
 have h1:=ot r (f:=λj=>if j=a then f a else 0) (j0:=a) (n:=n) (by rw[if_pos rfl];exact fa) ha λj _ h=>if_neg h
 have h2:=ot r (f:=λj=>if j=b then f b else 0) (j0:=b) (n:=n) (by rw[if_pos rfl];exact fb) hb λj _ h=>if_neg h
 rw[if_pos rfl]at h1 h2
 rw[<-h1,<- h2,<- qk r]
 refine cP λj hj=>?_
 by_cases ja:j=a
 ·rw[if_pos ja,if_neg (by omega),r.z' fa,ja]
 ·by_cases jb:j=b
  ·rw[if_neg ja,if_pos jb,r.z fb,jb]
  ·rw[if_neg ja,if_neg jb,hz j hj ja jb,r.z r.pos]
def dt(m:Bool × Nat)(w:Nat)(x y:Nat->Nat):Nat:=sm (gp m) w λj=>gm m (x j) (y j)
theorem co6{m:Bool × Nat}(w:Nat)(x y:Nat->Nat):dt m w x y=dt m w y x:=cP λ_ _=>gg m _ _
theorem Sb{m:Bool × Nat}(hm:m∈aE)(w:Nat)(x y z:Nat->Nat):dt m w x (λk=>gp m (y k) (z k))=gp m (dt m w x y) (dt m w x z):=by
 have r:=rg hm
 unfold dt
 rw[<-qk r]
 exact cP λj _=>r.dl _ _ _
theorem Sd{m:Bool × Nat}(hm:m∈aE)(w c:Nat)(x y:Nat->Nat):dt m w x (λk=>gm m c (y k))=gm m c (dt m w x y):=by
 have r:=rg hm
 have m0:=dm m hm
 unfold dt
 rw[<-mX r]
 exact cP λj _=>by rw[<-jD m0,gg m (x j),jD m0]
theorem Di{m:Bool × Nat}(hm:m∈aE)(w:Nat)(x:Nat->Nat)(c:Nat->Nat)(F:Nat->Nat->Nat):∀n,dt m w x (λk=>sm (gp m) n λi=>gm m (c i) (F i k))=sm (gp m) n λi=>gm m (c i) (dt m w x (F i))
 | 0=>gu (rg hm) λj _=>(rg hm).qz _
 | n+1=>by
  rw[sm,<- Di hm w x c F n,<- Sd hm,<- Sb hm];rfl
theorem Dj{m:Bool × Nat}(hm:m∈aE){w f:Nat}{R:List (List Nat)}{H:Nat->Nat}(hR:RT (ae m) w R)(I:RR w R H)(hf:f∈eX R w){i:Nat}(hi:i<R.length):dt m w (cf (R.getD i [])) (cf (fA m R w f))=0:=by
 have r:=rg hm
 obtain⟨f1,f2⟩:=(I.free hm hR f).mp hf
 obtain⟨k1,k2,k3,k4,k5⟩:=sX hm hR I hf
 have il:=fK hm (hR _ (dR hi [])).2
 have g:=mV hm (a:=0) r.pos (il f)
 unfold dt
 rw[cB0 r (f:=λj=>gm m (cf (R.getD i []) j) (cf (fA m R w f) j)) (a:=H i) (b:=f) (I.l i hi) f1 (f2 i hi) (cV hm _ _) (cV hm _ _) λj hj ja jb=>?_]
 ·rw[k3,k4 i hi,I.u i i hi hi,if_pos rfl,mU g.2.1,qg (il f)]
  exact g.2.2
 ·by_cases c:∃i',i'<R.length/\H i'=j
  ·obtain⟨i',h1,rfl⟩:=c
   rw[I.u i i' hi h1,if_neg (λz:i=i'=>ja (by rw[z])),gX m _ (dm m hm)]
  ·rw[k5 j jb λi' h1 h2=>c ⟨i',h1,h2⟩,r.qz]
theorem cq.dt{m:Bool × Nat}(hm:m∈aE){R:List (List Nat)}{n:Nat}{y:Nat->Nat}(h:∀i,i<R.length->dt m n (cf (R.getD i [])) y=0){f:Nat->Nat}(s:cq m R f):dt m n f y=0:=by
 refine s.ann hm λx hx=>?_
 obtain⟨i,hi,rfl⟩:=kq hx
 have:=h i hi
 rw[aS,aR hi]at this
 exact this
theorem wM{N n:Nat}{M:List (List Nat)}(h:RT N n M)(h0:M≠[]):aj M=n:=by
 cases M with
 | nil=>exact absurd rfl h0
 | cons g M=>exact(h g kh).1
theorem Iy{m:Bool × Nat}(hm:m∈aE){n:Nat}{M:List (List Nat)}(h:RT (ae m) n M)(hl:M.length<n):∃(x:Nat->Nat) (f:Nat),f<n/\(∀k,x k<ae m)/\x f=1/\∀i,i<M.length->dt m n (cf (M.getD i [])) x=0:=by
 by_cases h0:M=[]
 ·subst h0
  exact⟨λ_=>1,0,hl,λ_=>lo1 hm,rfl,λi hi=>nomatch hi⟩
 ·have hw:=wM h h0
  obtain⟨⟨H,I⟩,iR,il,sp⟩:=jc hm (G:=M) (by rw[hw];exact h)
  rw[hw]at I iR
  have fl:=I.wL hm iR
  have f0:0<(eX (bG m M) n).length:=by omega
  have hf:=dR f0 0
  obtain⟨k1,k2,k3,k4,k5⟩:=sX hm iR I hf
  refine⟨cf (fA m (bG m M) n ((eX (bG m M) n).getD 0 0)),_,((I.free hm iR _).mp hf).1,fK hm k2,k3,λi hi=>?_⟩
  exact cq.dt hm (λi' gO=>Dj hm iR I hf gO) ((sp _).mp (cq.of (dR hi [])))
theorem RR.wN{m:Bool × Nat}(hm:m∈aE){w v:Nat}{S R:List (List Nat)}{H:Nat->Nat}(hS:RT (ae m) w S)(I:RR w S H)(hR:RT (ae m) v R)(h:∀i,i<S.length->cq m R (cf (S.getD i []))):S.length<=R.length:=by
 have r:=rg hm
 refine Nf λhl=>?_
 have hc:∀i,∃c:Nat->Nat,i<S.length->(∀j,c j<ae m)/\∀k,cf (S.getD i []) k=sm (gp m) R.length λj=>gm m (c j) (cf (R.getD j []) k):=λi=>by
  by_cases hi:i<S.length
  ·obtain⟨c,a,b⟩:=(h i hi).sum hm hR
   exact⟨c,λ_=>⟨a,b⟩⟩
  ·exact⟨λ_=>0,λz=>absurd z hi⟩
 obtain⟨C,hC⟩:=YV hc
 have cl:∀i,i<S.length->∀j,C i j<ae m:=λi hi=>(hC i hi).1
 obtain⟨x,f,f1,x1,x2,x3⟩:=Iy hm (n:=S.length) (M:=(aL R.length).map λj=>(aL S.length).map λi=>C i j) (λy hy=>by
  obtain⟨j,_,rfl⟩:=bB.mp hy
  refine⟨by rw[br,cj],λz hz=>?_⟩
  obtain⟨i,hi,rfl⟩:=bB.mp hz
  exact cl i (di.mp hi) j) (by rw[br,cj];exact hl)
 rw[br,cj]at x3
 have x4:∀j,j<R.length->sm (gp m) S.length (λi=>gm m (C i j) (x i))=0:=λj hj=>by
  rw[<-x3 j hj]
  refine cP λi hi=>?_
  rw[qm (λj=>(aL S.length).map λi=>C i j) (by rw[cj];exact hj) 0 [],Iu _ hi,aS,jL hj];rfl
 have x5:∀k,sm (gp m) S.length (λi=>gm m (x i) (cf (S.getD i []) k))=0:=λk=>by
  rw[cP (g:=λi=>sm (gp m) R.length λj=>gm m (gm m (C i j) (x i)) (cf (R.getD j []) k)) λi hi=>?_,Ia r,gu r λj hj=>?_]
  ·rw[cP (g:=λi=>gm m (cf (R.getD j []) k) (gm m (C i j) (x i))) λi hi=>gg m _ _,mX r,x4 j hj,r.qz]
  ·rw[(hC i hi).2 k,<- mX r]
   exact cP λj _=>by rw[<-jD (dm m hm),gg m (x i)]
 have:=x5 (H f)
 rw[ot r (f:=λi=>gm m (x i) (cf (S.getD i []) (H f))) (cV hm _ _) f1 λj hj hn=>by rw[I.u j f hj f1,if_neg hn,r.qz],I.u f f f1 f1,if_pos rfl,x2,mU (lo1 hm)]at this
 omega
theorem Sp.sm{N:Nat}{p q:Nat->Nat->Nat}{S:(Nat->Nat)->Prop}{c:Nat->Nat}{F:Nat->Nat->Nat}:∀{n:Nat},(∀i,i<n->c i<N)->(∀i,i<n->Sp N p q S (F i))->Sp N p q S λk=>L3.sm p n λi=>q (c i) (F i k)
 | 0,_,_=>.zero
 | n+1,hc,h=>.add (Sp.sm (λi hi=>hc i (by omega)) λi hi=>h i (by omega)) (.mul _ (hc n (by omega)) (h n (by omega)))
theorem Se{m:Bool × Nat}(hm:m∈aE){v:Nat}{G R:List (List Nat)}(hG:RT (ae m) (aj G) G)(hR:RT (ae m) v R)(h:∀i,i<G.length->cq m R (cf (G.getD i []))):(bG m G).length<=R.length:=by
 obtain⟨⟨H,I⟩,iR,il,sp⟩:=jc hm hG
 refine I.wN hm iR hR λi hi=>?_
 refine Sp.trans (λf hf=>?_) ((sp _).mpr (cq.of (dR hi [])))
 obtain⟨x,hx,rfl⟩:=hf
 obtain⟨i,hi,rfl⟩:=kq hx
 have:=h i hi
 rw[aS,aR hi]at this
 exact this
theorem cJ3{T:List (List Nat)}{i:Nat}(h:i<T.length):T.getD i []=T[i]:=by rw[aS,aR h];rfl
theorem b05{m:Bool × Nat}(hm:m∈aE){G:List (List Nat)}(hG:RT (ae m) (aj G) G):(bG m G).length=0↔∀x∈G,x=aU (aj G) 0:=by
 have r:=rg hm
 obtain⟨⟨H,I⟩,iR,il,sp⟩:=jc hm hG
 constructor
 ·intro h x hx
  have:=λk=>I.own hm iR ((sp _).mp (cq.of hx)) k
  rw[h]at this
  refine R4 (hG x hx).1 fP λk hk=>?_
  rw[this k]
  unfold cf
  rw[aS,oN]
  split<;>rfl
 ·intro h
  have zero:∀x∈G,cf x=λ_=>0:=λx hx=>funext λk=>by
   rw[h x hx];unfold cf
   rw[aS,oN]
   split<;>rfl
  have:=Se hm (R:=[]) (v:=0) hG (λ_ h=>nomatch h) λi hi=>by
   rw[zero _ (dR hi [])];exact .zero
  exact Nat.le_zero.mp this
theorem cq.red{m:Bool × Nat}(hm:m∈aE){G:List (List Nat)}(hG:RT (ae m) (aj G) G){f:Nat->Nat}(h:cq m G f):cq m (bG m G) f:=((jc hm hG).2.2.2 f).mp h
end L3
namespace L3
open PySem L2 PySem.Spec PyProof.Rows
section
variable{X:Cx}{F H:Hp}{e b:Expr}{pos pos' p p2 p3 apos cE:Pos}{ti te:aN}{x y:Str}{i j:Nat}
end
section
variable{X:Cx}
end
section
variable{X:Cx}{es:List Expr}{tr:cF}{pos:Pos}
theorem cF7(h:PA X es (lA tr)):PE X (.List es pos) (lB (rN tr)) :=
 dv (Of h) λσ H Q zq=>by
 obtain⟨B,F,δ,ts,Qd,c,q,k⟩:=zq
 exact⟨B,F,δ,ts,_,c,q,λds ak vs F1 H1 q1 f1 h1 c1 s1=>⟨by rw[<-s1.length];exact q1.1,λp hp=>k _ ak _ F1 _ q1.2 f1 (h1.trans (af.upd hp)) (c1.grow (af.upd hp)) (.own bH (s1.mono (af.refl _) (af.upd hp)) .nil)⟩⟩
end
end L3
namespace L3
open PySem L2 Mf
theorem RR.dt6{m:Bool × Nat}(hm:m∈aE){w:Nat}{R:List (List Nat)}{H:Nat->Nat}(hR:RT (ae m) w R)(I:RR w R H){z:Nat->Nat}(hz:∀k,z k<ae m)(h:∀f,f∈eX R w->dt m w (cf (fA m R w f)) z=0){k:Nat}(hk:k<w):z k=sm (gp m) R.length λi=>gm m (z (H i)) (cf (R.getD i []) k):=by
 have r:=rg hm
 have m0:=dm m hm
 obtain⟨e,e1,e2,e3,e4⟩:=cL9 hm
 let z':=λk=>sm (gp m) R.length λi=>gm m (z (H i)) (cf (R.getD i []) k)
 have zQ:∀k,z' k<ae m:=λk=>oo r λ_ _=>cV hm _ _
 let d:=λk=>gp m (z k) (gm m e (z' k))
 have hd:∀k,d k<ae m:=λk=>r.lp (hz k) (cV hm _ _)
 have dk:∀k,d k=0↔z k=z' k:=λk=>by
  show gp m (z k) (gm m e (z' k))=0↔_
  rw[gg m e]
  exact e4 (hz k) (zQ k)
 have zh:∀i,i<R.length->d (H i)=0:=λi hi=>(dk _).mpr (by
  show _=sm (gp m) R.length λa=>gm m (z (H a)) (cf (R.getD a []) (H i))
  rw[ot r (f:=λa=>gm m (z (H a)) (cf (R.getD a []) (H i))) (cV hm _ _) hi λj hj hn=>by rw[I.u j i hj hi,if_neg hn,r.qz],I.u i i hi hi,if_pos rfl,qg (hz _)])
 have dz:∀f,f∈eX R w->dt m w (cf (fA m R w f)) d=0:=λf hf=>by
  show dt m w _ (λk=>gp m (z k) (gm m e (z' k)))=0
  rw[Sb hm,Sd hm,h f hf,Di hm,gu r λa ha=>?_,r.qz,r.z r.pos]
  rw[co6,Dj hm hR I hf ha,r.qz]
 refine(dk k).mp ?_
 by_cases c:∃i,i<R.length/\H i=k
 ·obtain⟨i,hi,rfl⟩:=c
  exact zh i hi
 ·have hf:=(I.free hm hR k).mpr ⟨hk,λi' h1 h2=>c ⟨i',h1,h2⟩⟩
  obtain⟨k1,k2,k3,k4,k5⟩:=sX hm hR I hf
  have:=dz k hf
  unfold dt at this
  rw[ot r (f:=λj=>gm m (cf (fA m R w k) j) (d j)) (j0:=k) (cV hm _ _) hk λj hj hn=>?_,k3,mU (hd k)]at this
  ·exact this
  ·by_cases c:∃i',i'<R.length/\H i'=j
   ·obtain⟨i',h1,rfl⟩:=c
    rw[zh i' h1,r.qz]
   ·rw[k5 j hn λi' h1 h2=>c ⟨i',h1,h2⟩,gX m _ m0]
end L3
namespace L3
open PySem L2 Mf
theorem Iz{m:Bool × Nat}(hm:m∈aE){G:List (List Nat)}(hG:RT (ae m) (aj G) G){f:Nat}(hf:f∈eX (bG m G) (aj G)):∀r∈G,dt m (aj G) (cf r) (cf (fA m (bG m G) (aj G) f))=0:=λr hr=>by
 obtain⟨⟨H,I⟩,iR,il,sp⟩:=jc hm hG
 exact cq.dt hm (λi hi=>Dj hm iR I hf hi) ((sp _).mp (cq.of hr))
end L3
namespace L3
open PySem L2 Mf
end L3
namespace L2
open PySem PySem.Spec PyProof.Rows
section
variable{X:Cx}
end
end L2
namespace L3
open PySem L2 PySem.Spec PyProof.Rows
section
variable{X:Cx}
end
end L3
namespace L2
open PySem PySem.Spec PyProof.Rows
section
variable{X:Cx}{a:Expr}{ta:TE}{p p2 pos zR:Pos}
end
end L2
namespace L3
open PySem L2 PySem.Spec PyProof.Rows
section
variable{X:Cx}{a:Expr}{t:aN}{p p2 pos zR:Pos}
end
end L3
namespace L3
open PySem L2 PySem.Spec PyProof.Rows
section
variable{F H:Hp}
end
section
variable{X:Cx}{e:Expr}{t:aN}{p2 pos:Pos}
end
end L3
namespace L3
open PySem L2 PySem.Spec PyProof.Rows
section
variable{F H:Hp}
end
section
variable{P:Program}{w:World}{K:PySem.W.Frag}{mg:Str->Option Value}{base:Heap}
end
section
variable{X:Cx}{CX:eU}{n i:Nat}{f:Addr}{fd:FuncData}{ps:List Str}{sp:bc}{E:XK}{fn x:Str}{e:Expr}{te:aN}{p p2 pos pos' zR:Pos}
end
end L3
namespace L2
section
variable{α:Type}{P:List α->Prop}
theorem cA4(h:P []):∀us:List α,us.length=0->P us:=by
 intro us hl;rcases us with _ | ⟨a,t⟩
 ·exact h
 ·cases hl
theorem fo(h:∀a,P [a]):∀us:List α,us.length=1->P us:=by
 intro us hl;rcases us with _ | ⟨a,t⟩
 ·cases hl
 ·exact cA4 (P:=λt=>P (a::t)) (h a) t (xO hl)
theorem fq(h:∀a b,P [a,b]):∀us:List α,us.length=2->P us:=by
 intro us hl;rcases us with _ | ⟨a,t⟩
 ·cases hl
 ·exact fo (P:=λt=>P (a::t)) (h a) t (xO hl)
theorem gh(h:∀a b c,P [a,b,c]):∀us:List α,us.length=3->P us:=by
 intro us hl;rcases us with _ | ⟨a,t⟩
 ·cases hl
 ·exact fq (P:=λt=>P (a::t)) (h a) t (xO hl)
theorem qp(h:∀a b c d,P [a,b,c,d]):∀us:List α,us.length=4->P us:=by
 intro us hl;rcases us with _ | ⟨a,t⟩
 ·cases hl
 ·exact gh (P:=λt=>P (a::t)) (h a) t (xO hl)
theorem Sf(h:∀a b c d e,P [a,b,c,d,e]):∀us:List α,us.length=5->P us:=by
 intro us hl;rcases us with _ | ⟨a,t⟩
 ·cases hl
 ·exact qp (P:=λt=>P (a::t)) (h a) t (xO hl)
end
end L2
namespace L3
open PySem L2 PySem.Spec PyProof.Rows
section
variable{B:Bs}{F H:Hp}{σ:L2.St}{δ:Dl}{ts:List (D × V)}
end
section
variable{X:Cx}{elt iter tg:Expr}{pos:Pos}{scope:Scope}{cl:List (Str × Addr)}{ti:ju}{te:aN}{g:iK}
end
end L3
namespace L2
open PySem PySem.Spec PyProof.Rows
section
variable{X:Cx}
end
end L2
namespace L3
open PySem L2 PySem.Spec PyProof.Rows
section
variable{X:Cx}
end
end L3
namespace L3
open PySem L2 Mf
theorem Sg{m:Bool × Nat}(hm:m∈aE){a b:Nat}(ha:a<ae m)(hb:b<ae m):gm m a b=0↔a=0\/b=0:=by
 constructor
 ·intro h
  by_cases a0:a=0
  ·exact .inl a0
  ·by_cases b0:b=0
   ·exact .inr b0
   ·exact absurd h (cK4 hm (by omega) ha (by omega) hb)
 ·rintro (rfl | rfl)
  ·exact gX m _ (dm m hm)
  ·exact lK m _ (dm m hm)
def fB(m:Bool × Nat)(b:Nat)(ps:List Nat)(n:Nat):List (List Nat):=(aL n).map λ(i:Nat)=>ps.map λ(p:Nat)=>eS m (((b:Int)+(i:Int))*(p:Int))
theorem Sh{m:Bool × Nat}(hm:m∈aE)(b:Nat)(ps:List Nat)(n:Nat):RT (ae m) ps.length (fB m b ps n)/\(fB m b ps n).length=n:=by
 refine⟨λr hr=>?_,by unfold fB;rw[br,cj]⟩
 obtain⟨i,_,rfl⟩:=bB.mp hr
 refine⟨by rw[br],λx hx=>?_⟩
 obtain⟨p,_,rfl⟩:=bB.mp hx
 exact cR4 hm _
end L3
namespace L3
open PySem L2 Mf
def gF(m:Bool × Nat)(c:List Nat)(os:List (List Nat)):List (List Nat):=os.map λo =>
 (dr (λx y=>bP m x (gm m (gm m (o.getD (aW c) 0) (mY m (c.getD (aW c) 0))) y)) o c).take (aW c)++(dr (λx y=>bP m x (gm m (gm m (o.getD (aW c) 0) (mY m (c.getD (aW c) 0))) y)) o c).drop (aW c+1)
abbrev Cs:=List Nat × List (List Nat)
def nul(c:List Nat):Bool:=c.all (·==0)
def gG(m:Bool × Nat)(w:Nat)(z:Cs × Nat):Cs:=(z.1.1++[w-z.1.2.length+z.2],gF m (z.1.2.getD z.2 []) (z.1.2.drop (z.2+1)))
def fL(s:Cs):List (Cs × Nat):=(aL s.2.length).map λi=>(s,i)
def dE(l:List Cs):List (Cs × Nat):=l.flatMap fL
def ow(z:Cs × Nat):Bool:=nul (z.1.2.getD z.2 [])
def sY(m:Bool × Nat)(w:Nat):Nat->List Cs->Option (List Nat)
 | 0,_=>none
 | f+1,l=>if l=[]then none else match (dE l).find? ow with
  | some z=>some (z.1.1++[w-z.1.2.length+z.2])
  | none=>sY m w f ((dE l).map (gG m w))
def gv(m:Bool × Nat)(C:Nat->Nat->Nat)(ps:List Nat)(c:Nat->Nat)(k:Nat):Nat:=sm (gp m) ps.length λt=>gm m (c t) (C (ps.getD t 0) k)
def wO(m:Bool × Nat)(C:Nat->Nat->Nat)(ps:List Nat):Prop:=∀c:Nat->Nat,(∀t,c t<ae m)->(∀k,gv m C ps c k=0)->∀t,t<ps.length->c t=0
structure Gs(m:Bool × Nat)(C:Nat->Nat->Nat)(w:Nat)(s:Cs):Prop where
 le:s.2.length<=w
 inc:s.1.Pairwise (· < ·)
 off:∀p∈s.1,p<w-s.2.length
 nx:∀j,(∀p∈s.1,p<j)->w-s.2.length<=j
 rt:∃h,RT (ae m) h s.2
 rel:∀a:Nat->Nat,(∀i,a i<ae m)->((∀k,sm (gp m) s.2.length (λi=>gm m (a i) (cf (s.2.getD i []) k))=0)↔∃c:Nat->Nat,(∀t,c t<ae m)/\∀k,gp m (sm (gp m) s.2.length λi=>gm m (a i) (C (w-s.2.length+i) k)) (gv m C s.1 c k)=0)
 ind:wO m C s.1
section
variable{m:Bool × Nat}{C:Nat->Nat->Nat}{w:Nat}
theorem cJ6(hm:m∈aE)(C:Nat->Nat->Nat)(ps:List Nat)(c:Nat->Nat)(k:Nat):gv m C ps c k<ae m:=oo (rg hm) λ_ _=>cV hm _ _
theorem Dk(hm:m∈aE)(C:Nat->Nat->Nat)(ps:List Nat)(j:Nat)(c:Nat->Nat)(k:Nat):gv m C (ps++[j]) c k=gp m (gv m C ps c k) (gm m (c ps.length) (C j k)):=by
 unfold gv
 rw[dF,mi,sm]
 congr 1
 ·refine cP λt ht=>?_
  rw[aS,qJ ht,<- aS]
 ·rw[aS,m5 (bM _),Fu];rfl
theorem Si{ps:List Nat}{c c':Nat->Nat}{k:Nat}(h:∀t,t<ps.length->c t=c' t):gv m C ps c k=gv m C ps c' k:=cP λt ht=>by rw[h t ht]
theorem qq(hm:m∈aE){n i e:Nat}(hi:i<n)(a' X:Nat->Nat):sm (gp m) n (λj=>gm m (if j<i then 0 else if j=i then e else a' (j-i-1)) (X j))=gp m (sm (gp m) (n-i-1) λj=>gm m (a' j) (X (i+1+j))) (gm m e (X i)):=by
 have r:=rg hm
 have h0:=dm m hm
 obtain⟨d,rfl⟩:∃d,n=(i+1)+d:=⟨n-i-1,by omega⟩
 rw[RE r (i+1) d λ_ _=>cV hm _ _,sm,gu r λj hj=>by rw[if_pos hj,gX m _ h0],if_neg (gJ _),if_pos rfl,r.z (cV hm _ _),qi]
 congr 1
 rw[show i+1+d-i-1=d by omega]
 refine cP λj hj=>?_
 rw[if_neg (by omega),if_neg (by omega),show i+1+j-i-1=j by omega]
theorem Sj{c:List Nat}:nul c=true↔∀k,cf c k=0:=by
 unfold nul
 rw[dj]
 constructor
 ·intro h k
  by_cases hk:k<c.length
  ·unfold cf
   have:=h _ (dR hk 0)
   exact beq_iff_eq.mp this
  ·exact qj (by omega)
 ·intro h x hx
  obtain⟨k,hk,rfl⟩:=kq hx
  have:=h k
  unfold cf at this
  rw[aS,aR hk]at this
  exact beq_iff_eq.mpr this
theorem IA{c:List Nat}(h:nul c=false):aW c<c.length/\cf c (aW c)≠0:=by
 have hx:∃x∈c,(x != 0)=true:=by
  refine E7 λz=>?_
  have:nul c=true:=by
   unfold nul
   rw[dj]
   intro x hx
   refine E7 λy=>z ⟨x,hx,?_⟩
   simpa using y
  rw[h]at this;cases this
 have hl:aW c<c.length:=NG hx
 refine⟨hl,?_⟩
 have h2:(c[aW c] != 0)=true:=YO (xs:=c) (p:=(· != 0)) (w:=hl)
 unfold cf
 rw[aS,aR hl]
 simpa using h2
theorem cp7(hm:m∈aE){b:List Nat}{os:List (List Nat)}{h:Nat}(hb:b.length=h)(ab:AllLt (ae m) b)(lY:RT (ae m) h os)(nb:nul b=false){a:Nat->Nat}(ha:∀i,a i<ae m) :
  (∀k,sm (gp m) os.length (λj=>gm m (a j) (cf ((gF m b os).getD j []) k))=0)↔∃e,e<ae m/\∀k,gp m (sm (gp m) os.length λj=>gm m (a j) (cf (os.getD j []) k)) (gm m e (cf b k))=0:=by
 have r:=rg hm
 have h0:=dm m hm
 have fk:=lo1 hm
 obtain⟨hp,bp⟩:=IA nb
 have Sk:=fK hm ab (aW b)
 obtain⟨iv,iv1,Sl⟩:=RF hm (a:=1) (by omega) Sk bp
 have IB:mY m (b.getD (aW b) 0)=iv:=C5 hm iv1 Sl
 obtain⟨D,hD⟩:∃D:Nat->List Nat,∀j,D j=dr (λx y=>bP m x (gm m (gm m ((os.getD j []).getD (aW b) 0) iv) y)) (os.getD j []) b:=⟨_,λ_=>rfl⟩
 have Sm:∀j,j<os.length->∀k,gp m (cf (D j) k) (gm m (gm m (cf (os.getD j []) (aW b)) iv) (cf b k))=cf (os.getD j []) k:=λj hj k=>by
  rw[hD]
  exact Dc hm (lY _ (dR hj [])).1 hb (lY _ (dR hj [])).2 k
 have Dlt:∀j,j<os.length->∀k,cf (D j) k<ae m:=λj hj k=>by
  rw[hD]
  exact Iq hm (lY _ (dR hj [])).1 hb (lY _ (dR hj [])).2 _ k
 have Dp:∀j,j<os.length->cf (D j) (aW b)=0:=λj hj=>by
  have l1:=fK hm (lY _ (dR hj [])).2 (aW b)
  have:=Sm j hj (aW b)
  rw[jD h0,Sl,qg l1]at this
  exact r.cn (Dlt j hj _) l1 this
 have du2:∀j,j<os.length->(D j).length=h:=λj hj=>by
  rw[hD,kR,(lY _ (dR hj [])).1,hb,Ba]
 have IC:∀j,j<os.length->∀k,cf ((gF m b os).getD j []) k=cf (D j) (if k<aW b then k else k+1):=λj hj k=>by
  have e1:(gF m b os).getD j []=(D j).take (aW b)++(D j).drop (aW b+1):=by
   unfold gF
   rw[qm _ hj [] [],IB,hD]
  rw[e1]
  have lt:((D j).take (aW b)).length=aW b:=by rw[jK,du2 j hj];omega
  unfold cf
  by_cases hk:k<aW b
  ·rw[if_pos hk,aS,qJ (by omega),Yz hk,<- aS]
  ·rw[if_neg hk,aS,m5 (by omega),lt,Nv,show aW b+1+(k-aW b)=k+1 by omega,<- aS]
 obtain⟨F,hF⟩:∃F,F=sm (gp m) os.length λj=>gm m (a j) (gm m (cf (os.getD j []) (aW b)) iv):=⟨_,rfl⟩
 have Flt:F<ae m:=by rw[hF];exact oo r λ_ _=>cV hm _ _
 have Sn:∀k,(sm (gp m) os.length λj=>gm m (a j) (cf (os.getD j []) k))=gp m (sm (gp m) os.length λj=>gm m (a j) (cf (D j) k)) (gm m F (cf b k)):=λk=>by
  rw[cP (g:=λj=>gp m (gm m (a j) (cf (D j) k)) (gm m (cf b k) (gm m (a j) (gm m (cf (os.getD j []) (aW b)) iv)))) λj hj=>?_,qk r,mX r,<- hF,gg m (cf b k)]
  rw[<-Sm j hj k,Ru h0]
  congr 1
  rw[<-jD h0,gg m _ (cf b k)]
 have nY:(∀k,sm (gp m) os.length (λj=>gm m (a j) (cf ((gF m b os).getD j []) k))=0)↔∀k,sm (gp m) os.length (λj=>gm m (a j) (cf (D j) k))=0:=by
  constructor
  ·intro h k
   by_cases e:k=aW b
   ·exact gu r λj hj=>by rw[e,Dp j hj,lK m _ h0]
   ·by_cases c:k<aW b
    ·rw[<-h k]
     exact cP λj hj=>by rw[IC j hj,if_pos c]
    ·rw[<-h (k-1)]
     exact cP λj hj=>by rw[IC j hj,if_neg (by omega),show k-1+1=k by omega]
  ·intro h k
   rw[cP λj hj=>by rw[IC j hj]]
   exact h _
 rw[nY]
 constructor
 ·intro h
  obtain⟨e,e1,e2⟩:=r.ng Flt
  refine⟨e,e1,λk=>?_⟩
  rw[Sn k,h k,r.z (cV hm _ _),<- HX h0,e2,gX m _ h0]
 ·rintro⟨e,e1,h⟩
  have key:∀k,gp m (sm (gp m) os.length λj=>gm m (a j) (cf (D j) k)) (gm m (gp m F e) (cf b k))=0:=λk=>by
   rw[HX h0,<- HW,<- Sn k]
   exact h k
  have fe:gp m F e=0:=by
   have:=key (aW b)
   rw[gu r λj hj=>by rw[Dp j hj,lK m _ h0],r.z (cV hm _ _)]at this
   rcases(Sg hm (Rw hm Flt e1) Sk).mp this with z | z
   ·exact z
   ·exact absurd z bp
  intro k
  have:=key k
  rw[fe,gX m _ h0,zJ (oo r λ_ _=>cV hm _ _)]at this
  exact this
theorem ID(m:Bool × Nat)(b:List Nat)(os:List (List Nat)):(gF m b os).length=os.length:=by unfold gF;rw[br]
theorem cA5(hm:m∈aE){b:List Nat}{os:List (List Nat)}{h:Nat}(hb:b.length=h)(lY:RT (ae m) h os)(nb:nul b=false):RT (ae m) (h-1) (gF m b os):=λx hx=>by
 obtain⟨o,ho,rfl⟩:=bB.mp hx
 obtain⟨hp,_⟩:=IA nb
 obtain⟨l1,l2⟩:=lY o ho
 refine⟨by rw[dF,jK,kO,kR,l1,hb];omega,λy hy=>?_⟩
 have:AllLt (ae m) (dr (λx y=>bP m x (gm m (gm m (o.getD (aW b) 0) (mY m (b.getD (aW b) 0))) y)) o b):=HZ λx hx y _=>(mV hm (l2 x hx) (cV hm _ y)).2.1
 rcases cI.mp hy with z | z
 ·exact this y (xF z)
 ·exact this y (qQ z)
theorem Gs.next(hm:m∈aE){s:Cs}(G:Gs m C w s){i:Nat}(hi:i<s.2.length)(nb:nul (s.2.getD i [])=false)(hC:∀j k,C j k<ae m):Gs m C w (gG m w (s,i)):=by
 have r:=rg hm
 have h0:=dm m hm
 have fk:=lo1 hm
 have hle:=G.le
 obtain⟨h,Dm⟩:=G.rt
 obtain⟨bl,ba⟩:=Dm _ (dR hi [])
 have So:RT (ae m) h (s.2.drop (i+1)):=λx hx=>Dm x (qQ hx)
 have kl:(gG m w (s,i)).2.length=s.2.length-i-1:=by
  show(gF m _ _).length=_
  rw[ID,kO]
  show s.2.length-(i+1)=_
  omega
 have dl:(s.2.drop (i+1)).length=s.2.length-i-1:=by rw[kO];omega
 have ko:w-(gG m w (s,i)).2.length=w-s.2.length+i+1:=by omega
 have dg:∀j,(s.2.drop (i+1)).getD j []=s.2.getD (i+1+j) []:=λj=>by rw[aS,Nv,<- aS]
 refine⟨by omega,?_,λp hp=>?_,λj hj=>?_,⟨h-1,cA5 hm bl So nb⟩,λa ha=>?_,λc hc hz t ht=>?_⟩
 ·refine Bh.mpr ⟨G.inc,NK _ _,λx hx y hy=>?_⟩
  rw[fI.mp hy]
  have:=G.off x hx
  show x<w-s.2.length+i
  omega
 ·rw[ko]
  rcases cI.mp hp with z | z
  ·have:=G.off p z;omega
  ·rw[fI.mp z];exact AV _
 ·rw[ko]
  have:=hj (w-s.2.length+i) (dq _ (fI.mpr rfl))
  omega
 ·have e1:(∀k,sm (gp m) (gG m w (s,i)).2.length (λj=>gm m (a j) (cf ((gG m w (s,i)).2.getD j []) k))=0)↔∃e,e<ae m/\∀k,gp m (sm (gp m) (s.2.length-i-1) λj=>gm m (a j) (cf (s.2.getD (i+1+j) []) k)) (gm m e (cf (s.2.getD i []) k))=0:=by
   have:=cp7 hm bl ba So nb ha
   rw[dl]at this
   rw[kl]
   refine this.trans ?_
   constructor
   ·rintro⟨e,e1,e2⟩
    exact⟨e,e1,λk=>by rw[<-e2 k,cP λj _=>by rw[<-dg j]]⟩
   ·rintro⟨e,e1,e2⟩
    exact⟨e,e1,λk=>by rw[<-e2 k,cP λj _=>by rw[dg j]]⟩
  rw[e1]
  have al:∀e,e<ae m->∀j,(if j<i then 0 else if j=i then e else a (j-i-1))<ae m:=λe he j=>by
   split
   ·omega
   ·split
    ·exact he
    ·exact ha _
  have Sq:∀(c:Nat->Nat) (e k:Nat),gp m (sm (gp m) s.2.length λj=>gm m (if j<i then 0 else if j=i then e else a (j-i-1)) (C (w-s.2.length+j) k)) (gv m C s.1 c k)=gp m (sm (gp m) (s.2.length-i-1) λj=>gm m (a j) (C (w-s.2.length+i+1+j) k)) (gp m (gv m C s.1 c k) (gm m e (C (w-s.2.length+i) k))):=λc e k=>by
   rw[qq hm hi a (λj=>C (w-s.2.length+j) k),HW,qi m (gm m e _)]
   congr 1
   exact cP λj _=>by rw[show w-s.2.length+(i+1+j)=w-s.2.length+i+1+j by omega]
  have ln:∀c k,gv m C (gG m w (s,i)).1 c k=gp m (gv m C s.1 c k) (gm m (c s.1.length) (C (w-s.2.length+i) k)):=λc k=>Dk hm C s.1 _ c k
  constructor
  ·rintro⟨e,e1,e2⟩
   obtain⟨c,c1,c2⟩:=(G.rel _ (al e e1)).mp λk=>by
    rw[qq hm hi a (λj=>cf (s.2.getD j []) k)]
    exact e2 k
   refine⟨λt=>if t=s.1.length then e else c t,λt=>by
    show(if t=s.1.length then e else c t)<ae m
    split
    ·exact e1
    ·exact c1 t,λk=>?_⟩
   rw[ln,ko,kl,if_pos rfl,Si (c':=c) λt ht=>if_neg (eQ ht),<- Sq c e k]
   exact c2 k
  ·rintro⟨c,c1,c2⟩
   refine⟨c s.1.length,c1 _,λk=>?_⟩
   have:=(G.rel _ (al _ (c1 s.1.length))).mpr ⟨c,c1,λk=>by
    rw[Sq c _ k]
    have:=c2 k
    rw[ln,ko,kl]at this
    exact this⟩ k
   rw[qq hm hi a (λj=>cf (s.2.getD j []) k)]at this
   exact this
 ·have ln:∀k,gp m (gv m C s.1 c k) (gm m (c s.1.length) (C (w-s.2.length+i) k))=0:=λk=>by
   rw[<-Dk hm C s.1 _ c k]
   exact hz k
  have e0:c s.1.length=0:=by
   refine E7 λz=>?_
   have al:∀j,(if j<i then 0 else if j=i then c s.1.length else(λ_=>0) (j-i-1))<ae m:=λj=>by
    split
    ·omega
    ·split
     ·exact hc _
     ·show 0<_;omega
   have z0:∀(n:Nat) (X:Nat->Nat),sm (gp m) n (λj=>gm m ((λ_=>0) j) (X j))=0:=λn X=>gu r λ_ _=>gX m _ h0
   have:=(G.rel _ al).mpr ⟨c,hc,λk=>by
    rw[qq hm hi (λ_=>0) (λj=>C (w-s.2.length+j) k),z0,r.z (cV hm _ _),qi]
    exact ln k⟩
   have nn:nul (s.2.getD i [])=true:=Sj.mpr λk=>by
    have q:=this k
    rw[qq hm hi (λ_=>0) (λj=>cf (s.2.getD j []) k),z0,r.z (cV hm _ _)]at q
    rcases(Sg hm (hc _) (fK hm ba k)).mp q with y | y
    ·exact absurd y z
    ·exact y
   rw[nb]at nn;cases nn
  have hs:∀k,gv m C s.1 c k=0:=λk=>by
   have:=ln k
   rw[e0,gX m _ h0,zJ (cJ6 hm C _ c k)]at this
   exact this
  have hl:(gG m w (s,i)).1.length=s.1.length+1:=by show(s.1++[_]).length=_;rw[dF];rfl
  by_cases ct:t<s.1.length
  ·exact G.ind c hc hs t ct
  ·rw[show t=s.1.length by omega];exact e0
theorem Gs.bound(hm:m∈aE){s:Cs}(G:Gs m C w s){i:Nat}(hi:i<s.2.length)(hC:∀j k,C j k<ae m):nul (s.2.getD i [])=true↔∃c:Nat->Nat,(∀t,c t<ae m)/\c s.1.length=1/\∀k,gv m C (s.1++[w-s.2.length+i]) c k=0:=by
 have r:=rg hm
 have h0:=dm m hm
 have fk:=lo1 hm
 obtain⟨h,Dm⟩:=G.rt
 obtain⟨bl,ba⟩:=Dm _ (dR hi [])
 have al:∀j,(if j<i then 0 else if j=i then 1 else(λ_=>0) (j-i-1))<ae m:=λj=>by
  split
  ·omega
  ·split
   ·omega
   ·show 0<_;omega
 have z0:∀(n:Nat) (X:Nat->Nat),sm (gp m) n (λj=>gm m ((λ_=>0) j) (X j))=0:=λn X=>gu r λ_ _=>gX m _ h0
 have e1:nul (s.2.getD i [])=true↔∀k,sm (gp m) s.2.length (λj=>gm m (if j<i then 0 else if j=i then 1 else(λ_=>0) (j-i-1)) (cf (s.2.getD j []) k))=0:=by
  rw[Sj]
  refine forall_congr' λk=>?_
  rw[qq hm hi (λ_=>0) (λj=>cf (s.2.getD j []) k),z0,r.z (cV hm _ _),mU (fK hm ba k)]
 rw[e1,G.rel _ al]
 constructor
 ·rintro⟨c,c1,c2⟩
  refine⟨λt=>if t=s.1.length then 1 else c t,λt=>by
   show(if t=s.1.length then 1 else c t)<ae m
   split
   ·omega
   ·exact c1 t,if_pos rfl,λk=>?_⟩
  rw[Dk hm,if_pos rfl,Si (c':=c) λt ht=>if_neg (eQ ht),qi,<- c2 k,qq hm hi (λ_=>0) (λj=>C (w-s.2.length+j) k),z0,r.z (cV hm _ _)]
 ·rintro⟨c,c1,c2,c3⟩
  refine⟨c,c1,λk=>?_⟩
  have:=c3 k
  rw[Dk hm,c2]at this
  rw[qq hm hi (λ_=>0) (λj=>C (w-s.2.length+j) k),z0,r.z (cV hm _ _),qi]
  exact this
end
end L3
namespace L3
open PySem L2 Mf
def j7:List Nat->List Nat->Prop
 | a::as,b::bs=>a<b\/(a=b/\j7 as bs)
 | _,_=>False
theorem Sr:∀l:List Nat,¬ j7 l l
 | [],h=>h
 | a::l,h=>h.elim (λz=>gJ _ z) λz=>Sr l z.2
theorem Ss:∀a b:List Nat,j7 a b->¬ j7 b a
 | [],_,h,_=>h
 | _::_,[],h,_=>h
 | a::as,b::bs,h,h'=>by
  rcases h with h | ⟨rfl,h⟩
  ·rcases h' with h' | ⟨e,_⟩
   ·omega
   ·omega
  ·rcases h' with h' | ⟨_,h'⟩
   ·omega
   ·exact Ss as bs h h'
theorem Su:∀(a b:List Nat) (x y:List Nat),a.length=b.length->j7 a b->j7 (a++x) (b++y)
 | [],_,_,_,_,h=>h.elim
 | _::_,[],_,_,_,h=>h.elim
 | a::as,b::bs,x,y,hl,h=>by
  rcases h with h | ⟨e,h⟩
  ·exact .inl h
  ·exact .inr ⟨e,Su as bs x y (by simpa using hl) h⟩
theorem Sv:∀(a:List Nat) (x y:Nat),x<y->j7 (a++[x]) (a++[y])
 | [],_,_,h=>.inl h
 | _::as,x,y,h=>.inr ⟨rfl,Sv as x y h⟩
def jE(w:Nat)(S:List Nat):Prop:=S.Pairwise (· < ·)/\∀x∈S,x<w
theorem Sw:∀(S:List Nat) (lo w:Nat),S.Pairwise (· < ·)->(∀x∈S,lo<=x/\x<w)->S.length<=w-lo
 | [],_,_,_,_=>mf _
 | a::S,lo,w,hp,h=>by
  rw[Fv]at hp
  have ih:=Sw S (a+1) w hp.2 λx hx=>⟨hp.1 x hx,(h x (gK _ hx)).2⟩
  have ha:=h a (kh ..)
  rw[kj]
  omega
theorem jE.len{S:List Nat}{w:Nat}(h:jE w S):S.length<=w:=Sw S 0 w h.1 λx hx=>⟨mf _,h.2 x hx⟩
theorem jE.take{S:List Nat}{w:Nat}(h:jE w S)(k:Nat):jE w (S.take k):=⟨h.1.sublist (List.take_sublist k S),λx hx=>h.2 x (xF hx)⟩
def j8(w:Nat)(z:Cs × Nat):List Nat:=z.1.1++[w-z.1.2.length+z.2]
structure Lv(m:Bool × Nat)(C:Nat->Nat->Nat)(w k:Nat)(l:List Cs):Prop where
 gs:∀s∈l,Gs m C w s/\s.1.length=k
 all:∀S,jE w S->S.length=k->∃s∈l,s.1=S
 ord:(l.map (·.1)).Pairwise j7
theorem wQ{l:List Cs}{z:Cs × Nat}:z∈dE l↔z.1∈l/\z.2<z.1.2.length:=by
 unfold dE
 rw[List.mem_flatMap]
 constructor
 ·rintro⟨s,hs,hz⟩
  obtain⟨i,hi,rfl⟩:=bB.mp hz
  exact⟨hs,di.mp hi⟩
 ·rintro⟨h1,h2⟩
  exact⟨z.1,h1,bB.mpr ⟨z.2,di.mpr h2,rfl⟩⟩
section
variable{m:Bool × Nat}{C:Nat->Nat->Nat}{w:Nat}
theorem IE{k:Nat}:∀{l:List Cs},(∀s∈l,s.1.length=k)->(l.map (·.1)).Pairwise j7->((dE l).map (j8 w)).Pairwise j7
 | [],_,_=>Ng
 | s::l,hl,ho=>by
  rw[dy,Fv]at ho
  show(((fL s)++dE l).map (j8 w)).Pairwise j7
  rw[eH,Bh]
  refine⟨?_,IE (λs hs=>hl s (gK _ hs)) ho.2,λa ha b hb=>?_⟩
  ·unfold fL
   rw[cu]
   refine List.pairwise_map.mpr (YW.imp λ{a b} hab=>?_)
   exact Sv s.1 _ _ (show w-s.2.length+a<w-s.2.length+b by omega)
  ·obtain⟨z,hz,rfl⟩:=bB.mp ha
   obtain⟨i,_,rfl⟩:=bB.mp hz
   obtain⟨y,hy,rfl⟩:=bB.mp hb
   obtain⟨h1,_⟩:=wQ.mp hy
   exact Su _ _ _ _ (by rw[hl s (kh ..),hl _ (gK _ h1)]) (ho.1 _ (bB.mpr ⟨_,h1,rfl⟩))
theorem Lv.meets(L:Lv m C w k l){S:List Nat}(hS:jE w S)(hk:S.length=k+1):∃z∈dE l,j8 w z=S:=by
 have e:S=S.take k++[S.getD k 0]:=by
  have h1:S.drop k=[S.getD k 0]:=by
   rw[List.drop_eq_getElem_cons (by omega),List.drop_of_length_le (by omega),aS,aR (by omega)];rfl
  conv=>lhs;rw[<-Fw k S,h1]
 obtain⟨s,hs,es⟩:=L.all _ (hS.take k) (by rw[jK];omega)
 obtain⟨G,_⟩:=L.gs s hs
 have hj:∀p∈s.1,p<S.getD k 0:=λp hp=>by
  rw[es]at hp
  have:=hS.1
  rw[e,Bh]at this
  exact this.2.2 p hp _ (fI.mpr rfl)
 have h1:=G.nx _ hj
 have h2:=hS.2 (S.getD k 0) (dR (by omega) 0)
 have h3:=G.le
 refine⟨(s,S.getD k 0-(w-s.2.length)),wQ.mpr ⟨hs,?_⟩,?_⟩
 ·show S.getD k 0-(w-s.2.length)<s.2.length
  omega
 ·show s.1++[w-s.2.length+(S.getD k 0-(w-s.2.length))]=S
  rw[show w-s.2.length+(S.getD k 0-(w-s.2.length))=S.getD k 0 by omega,es]
  exact e.symm
theorem Lv.next(hm:m∈aE)(hC:∀j k,C j k<ae m)(L:Lv m C w k l)(hn:∀z∈dE l,ow z=false):Lv m C w (k+1) ((dE l).map (gG m w)) where
 gs:=λs hs=>by
  obtain⟨z,hz,rfl⟩:=bB.mp hs
  obtain⟨h1,h2⟩:=wQ.mp hz
  obtain⟨G,hl⟩:=L.gs _ h1
  refine⟨G.next hm h2 (hn z hz) hC,?_⟩
  show(z.1.1++[_]).length=_
  rw[dF,hl];rfl
 all:=λS hS hk=>by
  obtain⟨z,hz,e⟩:=L.meets hS hk
  exact⟨gG m w z,bB.mpr ⟨z,hz,rfl⟩,e⟩
 ord:=by
  rw[cu]
  exact IE (λs hs=>(L.gs s hs).2) L.ord
theorem Sx(hm:m∈aE)(hC:∀j k,C j k<ae m):∀(f k:Nat) (l:List Cs),Lv m C w k l->w+1<=f+k ->
  match sY m w f l with
  | none=>∀S,jE w S->k<=S.length->wO m C S
  | some F=>jE w F/\k<F.length/\(∃c:Nat->Nat,(∀t,c t<ae m)/\c (F.length-1)=1/\∀j,gv m C F c j=0)/\∀S,jE w S->k<=S.length->S.length<F.length\/(S.length=F.length/\j7 S F)->wO m C S
 | 0,k,l,L,hf=>λS hS hk=>absurd hS.len (by omega)
 | f+1,k,l,L,hf=>by
  have here:∀S,jE w S->S.length=k->wO m C S:=λS hS hk=>by
   obtain⟨s,hs,rfl⟩:=L.all S hS hk
   exact(L.gs s hs).1.ind
  rw[sY]
  by_cases l0:l=[]
  ·rw[if_pos l0]
   subst l0
   intro S hS hk
   obtain⟨s,hs,_⟩:=L.all (S.take k) (hS.take k) (by rw[jK];omega)
   cases hs
  ·rw[if_neg l0]
   cases e:(dE l).find? ow with
   | some z =>
    obtain⟨hz,as,bs,eL,qt⟩:=YX.mp e
    obtain⟨h1,h2⟩:=wQ.mp (Nq e)
    obtain⟨G,hl⟩:=L.gs _ h1
    have hle:=G.le
    have fl:(j8 w z).length=k+1:=by show(z.1.1++[_]).length=_;rw[dF,hl];rfl
    refine⟨⟨?_,λx hx=>?_⟩,by show k<(j8 w z).length;omega,?_,λS hS hk hc=>?_⟩
    ·refine Bh.mpr ⟨G.inc,NK _ _,λx hx y hy=>?_⟩
     rw[fI.mp hy]
     have:=G.off x hx
     omega
    ·rcases cI.mp hx with q | q
     ·have:=G.off x q;omega
     ·rw[fI.mp q];omega
    ·obtain⟨c,c1,c2,c3⟩:=(G.bound hm h2 hC).mp hz
     refine⟨c,c1,?_,c3⟩
     show c ((j8 w z).length-1)=1
     rw[fl,Nat.add_sub_cancel,<- hl]
     exact c2
    ·by_cases ck:S.length=k
     ·exact here S hS ck
     have cl:S.length=k+1/\j7 S (j8 w z):=by
      rcases hc with q | ⟨q1,q2⟩
      ·exact absurd (show S.length<(j8 w z).length from q) (by omega)
      ·exact⟨(show S.length=(j8 w z).length from q1).trans fl,q2⟩
     obtain⟨y,hy,ey⟩:=L.meets hS cl.1
     obtain⟨y1,y2⟩:=wQ.mp hy
     obtain⟨Gy,_⟩:=L.gs _ y1
     cases ny:ow y with
     | false =>
      have:=(Gy.next hm y2 ny hC).ind
      rwa [show(gG m w (y.1,y.2)).1=S from ey]at this
     | true =>
      exfalso
      have od:=IE (w:=w) (λs hs=>(L.gs s hs).2) L.ord
      rw[eL]at hy od
      rw[eH,dy,Bh]at od
      have od2:=(Fv.mp od.2.1).1
      rcases cI.mp hy with q | q
      ·have:=qt y q
       rw[ny]at this;simp at this
      ·rcases cH.mp q with q | q
       ·rw[q]at ey
        rw[<-ey]at cl
        exact Sr _ cl.2
       ·have:=od2 _ (bB.mpr ⟨y,q,rfl⟩)
        rw[ey]at this
        exact Ss _ _ this cl.2
   | none =>
    have hn:∀z∈dE l,ow z=false:=λz hz=>by
     have:=NH.mp e z hz
     simpa using this
    have ih:=Sx hm hC f (k+1) _ (L.next hm hC hn) (by omega)
    dsimp only
    split
    ·rename_i e2
     rw[e2]at ih
     intro S hS hk
     by_cases ck:S.length=k
     ·exact here S hS ck
     ·exact ih S hS (by omega)
    ·rename_i F e2
     rw[e2]at ih
     obtain⟨i1,i2,i3,i4⟩:=ih
     refine⟨i1,by omega,i3,λS hS hk hc=>?_⟩
     by_cases ck:S.length=k
     ·exact here S hS ck
     ·exact i4 S hS (by omega) hc
end
end L3
namespace L3
open PySem L2 Mf
def jF(T:List (List Nat))(j k:Nat):Nat:=cf (T.getD k []) j
theorem Sy{m:Bool × Nat}(hm:m∈aE){w:Nat}{T:List (List Nat)}(hT:RT (ae m) w T)(j k:Nat):jF T j k<ae m:=by
 unfold jF
 by_cases hk:k<T.length
 ·exact fK hm (hT _ (dR hk [])).2 j
 ·have e:T.getD k []=[]:=by rw[aS,gw (by omega)];rfl
  rw[e]
  have:=lo1 hm
  show 0<_
  omega
theorem Lv.start{m:Bool × Nat}(hm:m∈aE){T:List (List Nat)}(hw:0<aj T)(hT:RT (ae m) (aj T) T):Lv m (jF T) (aj T) 0 [([],eP T)]:=by
 have r:=rg hm
 obtain⟨t1,t2,t3⟩:=Iw (Nat.lt_trans Nat.zero_lt_one (lo1 hm)) hw hT
 refine⟨λs hs=>?_,λS _ h=>⟨_,fI.mpr rfl,(List.length_eq_zero_iff.mp h).symm⟩,NK _ _⟩
 rw[fI.mp hs]
 refine⟨⟨AU t1,Ng,λp hp=>absurd hp (iY),λj _=>by show aj T-(eP T).length<=j;omega,⟨_,t3⟩,λa ha=>?_,λc _ _ t ht=>absurd ht (by show ¬ t<0;omega)⟩,rfl⟩
 have e:∀k,sm (gp m) (eP T).length (λi=>gm m (a i) (cf ((eP T).getD i []) k))=sm (gp m) (eP T).length λi=>gm m (a i) (jF T (aj T-(eP T).length+i) k):=λk=>cP λi hi=>by
  rw[Sa (by omega),R5,show aj T-(eP T).length+i=i by omega];rfl
 have z:∀c k,gv m (jF T) [] c k=0:=λ_ _=>rfl
 constructor
 ·intro h
  refine⟨λ_=>0,λ_=>by have:=lo1 hm;show 0<_;omega,λk=>?_⟩
  rw[z,zJ (oo r λ_ _=>cV hm _ _),<- e k]
  exact h k
 ·rintro⟨c,_,h⟩ k
  have:=h k
  rw[z,zJ (oo r λ_ _=>cV hm _ _),<- e k]at this
  exact this
def kI(m:Bool × Nat)(T:List (List Nat)):Option (List Nat):=sY m (aj T) (aj T+1) [([],eP T)]
section
variable{m:Bool × Nat}{C:Nat->Nat->Nat}
end
def wU(T:List (List Nat))(F:List Nat):List (List Nat):=T.map λr=>F.map λj=>r.getD j 0
theorem cE0{N w:Nat}{T:List (List Nat)}{F:List Nat}(h0:0<N)(hT:RT N w T):RT N F.length (wU T F)/\(wU T F).length=T.length:=by
 refine⟨λx hx=>?_,by unfold wU;rw[br]⟩
 obtain⟨r,hr,rfl⟩:=bB.mp hx
 refine⟨by rw[br],λy hy=>?_⟩
 obtain⟨j,_,rfl⟩:=bB.mp hy
 exact(hT r hr).2.getD h0 j
theorem cA6{T:List (List Nat)}{F:List Nat}{k t:Nat}(hk:k<T.length)(ht:t<F.length):cf ((wU T F).getD k []) t=jF T (F.getD t 0) k:=by
 unfold wU jF cf
 rw[qm _ hk [] [],qm _ ht 0 0]
theorem cD7(m:Bool × Nat){T:List (List Nat)}{F:List Nat}{k:Nat}(hk:k<T.length)(x:Nat->Nat):dt m F.length (cf ((wU T F).getD k [])) x=gv m (jF T) F x k:=by
 unfold dt gv
 exact cP λt ht=>by rw[cA6 hk ht,gg]
theorem ch0{o:Bool}{G:List (List Nat)}{i:Nat}{d:D}(hd:(az o G)[i]?=some d):∃hi:i<G.length,d=.lst o (av G[i]):=by
 unfold az at hd
 rw[cM]at hd
 by_cases hi:i<G.length
 ·rw[aR hi]at hd
  exact⟨hi,(dn hd).symm⟩
 ·rw[gw (by omega)]at hd;cases hd
end L3
namespace L3
open PySem L2 PySem.Spec PyProof.Rows
section
variable{B:Bs}{F H:Hp}{σ:L2.St}{δ:Dl}{ts:List (D × V)}
end
section
variable{X:Cx}{a:Expr}{ta:aN}{pos p2:Pos}{tk:Nat}
end
end L3
namespace L3
open PySem L2 PySem.Spec PyProof.Rows
section
variable{X:Cx}{a b:Expr}{ta tb:aN}{elts:List Expr}{x1:Nat}{rn p pos:Pos}
end
end L3
namespace L3
open PySem L2 Mf
section
variable{m:Bool × Nat}
theorem Sz(hm:m∈aE){T:List (List Nat)}(hw:0<aj T)(hT:RT (ae m) (aj T) T)(h:kI m T=none):∀S,jE (aj T) S->wO m (jF T) S:=by
 have:=Sx hm (Sy hm hT) (aj T+1) 0 _ (Lv.start hm hw hT) (by omega)
 unfold kI at h
 rw[h]at this
 exact λS hS=>this S hS (mf _)
theorem SA{n W:Nat}(h:n<=W):jE W (aL n):=⟨YW,λx hx=>by have:=di.mp hx;omega⟩
theorem bU9(hm:m∈aE){W:Nat}{T:List (List Nat)}(hT:RT (ae m) W T){F:List Nat}(hF:T.length<F.length):¬ wO m (jF T) F:=λI=>by
 have fk:=lo1 hm
 obtain⟨p1,p2⟩:=cE0 (F:=F) (by omega) hT
 obtain⟨x,f,hf,hx,x1,hz⟩:=Iy hm p1 (by omega)
 have:=I x hx (λk=>by
  by_cases hk:k<T.length
  ·rw[<-cD7 m hk];exact hz k (by omega)
  ·refine gu (rg hm) λt _=>?_
   have e:jF T (F.getD t 0) k=0:=by
    unfold jF
    rw[show T.getD k []=[] by rw[aS,gw (by omega)];rfl];rfl
   rw[e,lK m _ (dm m hm)]) f hf
 omega
end
end L3
namespace L2
open PySem PySem.Spec PyProof.Rows
section
variable{X:Cx}
end
end L2
namespace L3
open PySem L2 PySem.Spec PyProof.Rows
section
variable{X:Cx}{o e:Expr}{t tb:aN}{apos cE:Pos}
end
section
variable{X:Cx}{i:Nat}{x:Str}{p pos apos cE dh9 zR:Pos}{a b:List Stmt}{t u:cO}{k:Int}{j}
end
end L3
namespace L3
open PySem L2 Mf
section
variable{N:Nat}{p q:Nat->Nat->Nat}
variable{ng:Nat->Nat}{c:Nat}
end
section
variable{m:Bool × Nat}
end
end L3
namespace L2
open PySem PySem.Spec PyProof.Rows
section
variable{prog:Program}{w:World}{A:Around}{E:Value->Shared->Prop}{s:Shared}
end
section
variable{X:Cx}{e:Expr}{ta:TA}{p p2 pos zR:Pos}
end
end L2
namespace L3
open PySem L2 PySem.Spec PyProof.Rows
section
variable{X:Cx}{e:Expr}{tr:cF}{p p2 pos zR:Pos}
end
end L3
namespace L3
open PySem L2 Mf
section
variable{m:Bool × Nat}
section
variable{b e L o:Nat}{y:List (Option Nat)}{w c:List Nat}{bb:Nat->Nat}
end
end
def wV:Option Nat->D
 | none=>.au
 | some a=>.int (a:Int)
def oy(y:List (Option Nat)):List D:=y.map wV
theorem SD(a:Option Nat):(wV a).sh=wV a:=by cases a<;>rfl
theorem cr1:∀a b:Option Nat,wV a=wV b->a=b
 | none,none,_=>rfl
 | some a,some b,h=>by
  have:(D.int (a:Int))=D.int (b:Int):=h
  injection this with h
  rw[show a=b by omega]
 | none,some _,h=>by cases h
 | some _,none,h=>by cases h
theorem cq5(y:List (Option Nat)):(oy y).map D.sh=oy y:=by
 unfold oy;rw[cu];exact qR λa _=>SD a
theorem cj1(y:List (Option Nat)):(oy y).length=y.length:=br ..
end L3
namespace L3
open PySem L2 Mf
section
variable{m:Bool × Nat}
end
end L3
namespace L3
open PySem L2 Mf
section
variable{m:Bool × Nat}
end
end L3
namespace L3
open PySem L2 Mf
section
variable{m:Bool × Nat}
end
end L3
namespace L3
open PySem L2 Mf
section
variable{m:Bool × Nat}
end
end L3
namespace L3
open PySem L2 PySem.Spec PyProof.Rows
section
variable{X:Cx}{e:Expr}{t:aN}
def wX(t:aN):aN:=λδ Q=>t δ λd ah=>Q d.sh ah
theorem IF(h:PE X e (lE t)):PE X e (lB (wX t)):=dv h λσ H Q zq=>by
 obtain⟨B,F,δ,ts,Qd,c,q,k⟩:=zq
 exact⟨B,F,δ,ts,_,c,q,λd ah v F' H' hd sf sh c'=>by
 obtain⟨F2,f2,c2⟩:=c'.GW
 exact k d.sh ah v F2 H' hd (sf.trans f2) sh c2.pop c2.top⟩
end
end L3
namespace L3
open PySem L2 Mf
section
variable{m:Bool × Nat}
theorem IG(hm:m∈aE){T:List (List Nat)}(hT:RT (ae m) (aj T) T):RT (ae m) (aj T) (je m (bG m T) (aj T))/\(je m (bG m T) (aj T)).length<=aj T:=by
 obtain⟨⟨Hd,I⟩,iR,_,_⟩:=jc hm hT
 refine⟨λr hr=>?_,?_⟩
 ·obtain⟨f,hf,rfl⟩:=bB.mp hr
  obtain⟨k1,k2,_⟩:=sX hm iR I hf
  exact⟨k1,k2⟩
 ·unfold je eX
  rw[br]
  exact fO (YY ..) (by rw[cj];exact bM _)
theorem cB4(hm:m∈aE){T:List (List Nat)}(hT:RT (ae m) (aj T) T):∀r∈bG m T,∃x∈r,x≠0:=λr bj=>by
 obtain⟨⟨Hd,I⟩,iR,_,_⟩:=jc hm hT
 obtain⟨j,hj,rfl⟩:=kq bj
 have:=(I.Ir hm iR hj).2
 rw[cJ3 hj]at this
 exact this
theorem cu0(hm:m∈aE){T:List (List Nat)}{xs:List Nat}(hT:RT (ae m) (aj T) T)(hx:xs.length=(je m (bG m T) (aj T)).length):∀r∈T,gd m r (ou m xs (je m (bG m T) (aj T)) (aj T))=0:=λr hr=>by
 have h0:=dm m hm
 obtain⟨⟨Hd,I⟩,iR,_,_⟩:=jc hm hT
 have s:cq m (bG m T) (cf r):=cq.red hm hT (cq.of hr)
 rw[qo m ((hT r hr).1.trans (R6 ..).symm),(hT r hr).1]
 rw[cP (g:=λj=>gm m (cf r j) (sm (gp m) (je m (bG m T) (aj T)).length λi=>gm m (cf xs i) (cf ((je m (bG m T) (aj T)).getD i []) j))) λj hj=>by rw[R7 m hx hj]]
 have e:=Di hm (aj T) (cf r) (cf xs) (λi=>cf ((je m (bG m T) (aj T)).getD i [])) (je m (bG m T) (aj T)).length
 unfold dt at e
 rw[e]
 refine gu (rg hm) λi hi=>?_
 have z:=dR hi []
 generalize (je m (bG m T) (aj T)).getD i []=K at z
 obtain⟨f,hf,rfl⟩:=bB.mp z
 have:=cq.dt hm (R:=bG m T) (n:=aj T) (y:=cf (fA m (bG m T) (aj T) f)) (λi hi=>Dj hm iR I hf hi) s
 unfold dt at this
 rw[this,lK m _ h0]
end
end L3
namespace L3
open PySem L2 Mf
section
variable{m:Bool × Nat}
end
end L3
namespace L2
open PySem PySem.Spec PyProof.Rows
section
variable{X:Cx}{CX:eU}{k:Nat}{f C:Addr}{fd:FuncData}{ps:List Str}{sp:Sp}{E:XK}{x m:Str}{p pos apos:Pos}{e:Expr}{es:List Expr}{t:TA}
def tCM(sp:Sp)(E:XK)(t:TA):TE:=λσ H Q=>t σ H λvs H1=>sp vs H1 Q E
theorem IH{pl:Sem Bool}(M:wo X.K C m f)(F:aI X.prog X.w X.K X.mg X.base CX k f fd ps sp)(hr:bS k X.A)(hb:Binds X.K fd ps [])(hx:jT CX X E)(hg:Gl X x)(hm:X.mg x=some (.ref C))(ha:PA X (e::es) t)
  (de:(x==("__debug__":Str))=false:=by decide) (cw:starEach (e::es) X.env=(false,eval e X.env)::starEach es X.env:=by rfl) (bu:(backTo pos (starEach es X.env)).any (·.1)=false:=by rfl)
  (ht:eval (.Call (.Attribute (.Name x p) m apos) (e::es) [] pos) X.env=(do
   let ov<-eval (.Name x p) X.env
   standAt apos.atName
   let (f,first)<-holding [ov] (getMethod ov m pl)
   callWith pos f first (backTo pos (starEach (e::es) X.env)) (backToKw pos (keywordEach [] X.env))):=by rfl) :
  PE X (.Call (.Attribute (.Name x p) m apos) (e::es) [] pos) (tCM sp E t):=by
 intro pins s σ H Q I h
 exact QR (pl:=pl) I M hg hm ha h (λus s1 vs H1 I1 r q=>uF (fu:=[]) F hr hb .nil hx I1 r (by rw[fH];exact q)) de cw bu ht
end
end L2
namespace L3
open PySem L2 PySem.Spec PyProof.Rows
def sZ:cS:=λx y Q=>match x,y with
 | .bl a,.bl b=>Q (.bl (a==b))
 | _,_=>False
theorem cL6{X:Cx}:bX X (compareOp .Is) sZ:=⟨_,cF6,λ{B F H σ δ ts x y v w Q Qd} c sx sy h k=>by
 unfold sZ at h
 split at h
 ·cases sx;cases sy
  exact⟨_,_,rfl,rfl,k _ _ _ h (af.refl _) (c.pushS (.bl .nil) rfl)⟩
 ·exact h.elim⟩
end L3
namespace L3
open PySem L2 PySem.Spec PyProof.Rows
def zS(tl:List Addr)(C:Addr)(iQ:List D->List Str->List D->Prop):L2.Sp:=λvs H Q _=>∃F H0 x dx bW ds ns xs,vs=.ref x::bW/\Tb tl H/\af F H0/\H0 x=none/\af H0 H/\H x=some (.ins C dx [])/\R F H0 ds bW []/\iQ ds ns xs /\
 ∀H' ws A,bO x H H'->H' x=some (.ins C dx (ns.zip ws))->ns.length=ws.length->R F H' xs ws A->A.Nodup->(∀a∈A,H a=none)->Q .au H'
def s8(C:Addr)(iQ:List D->List Str->List D->Prop)(ta:cF):aN:=λδ Q=>ta δ λds ah=>ds.all D.pl=true/\∃ns xs,iQ ds ns xs/\Q (.obj C ns (xs.map D.sh)) ah
theorem ao.SE{B:Bs}{F H H':Hp}{σ:L2.St}{δ:Dl}{ts:List (D × V)}{C dx x:Addr}{ns:List Str}{xs:List D}{ws:List V}{A:List Addr}(c:ao B F H σ δ ts)(hs:af H H')(hx:H' x=some (.ins C dx (ns.zip ws)))(hl:ns.length=ws.length)
  (r1:R F H' xs ws A) (fr:∀a∈A,H a=none):af F (L3.bq F H' A)/\ao B (L3.bq F H' A) H' σ δ ((.obj C ns (xs.map D.sh),.ref x)::ts):=by
 have c1:=c.grow hs
 have r2:=r1.bq c1.ext A (λ_ h=>h)
 have fs:af F (L3.bq F H' A):=iH c1.ext
 obtain⟨A',C',r',s',nd,wt⟩:=c.own
 have out:∀a,(∃ws,H a=some (.lst ws))/\F a=none->L3.bq F H' A a=none:=λa zz=>by
  obtain⟨⟨ws,h⟩,hf⟩:=zz
  rw[pF (λz=>by rw[fr a z]at h;cases h)];exact hf
 have g1:=r'.grow fs hs λa ha=>out a (r'.lists a ha)
 have g2:=s'.keep fs (gn.same hs) gQ.nil (λa ha=>out a (s'.lists a ha)) (by simp)
 refine⟨fs,nI c1.ext,c1.b1,c1.b2.trans fs,λa ws h=>?_,A',C',?_,g2,nd,wt⟩
 ·by_cases z:a∈A
  ·exact .inr (c.b1.free (fr a z))
  ·rw[pF z]at h;exact c.b3 a ws h
 ·exact R.obj hx hl r2 g1
section
variable{X:Cx}{CX:eU}{n:Nat}{f C:Addr}{fd:FuncData}{ps:List Str}{iQ:List D->List Str->List D->Prop}{E:XK}{x:Str}{p pos:Pos}{e:Expr}{es:List Expr}{t:cF}{tl:List Addr}
theorem s9(hT:Tb tl X.jP)(M:L2.Mk X.K C f)(F:aI X.prog X.w X.K X.mg X.base CX n f fd ps (zS tl C iQ))(hr:bS (n+1) X.A)(hg:Gl X x)(hm:X.mg x=some (.ref C))(hb:Binds X.K fd ps [])(hx:jT CX X E)
  (ha:PA X (e::es) (lA t)) (de:(x==("__debug__":Str))=false:=by decide) (he:starEach (e::es) X.env=(false,eval e X.env)::starEach es X.env:=by rfl) (bu:(backTo pos (starEach es X.env)).any (·.1)=false:=by rfl) :
  PE X (.Call (.Name x p) (e::es) [] pos) (lE (s8 C iQ t)):=by
 intro pins s σ H Q I zz
 obtain⟨B,F',δ,ts,Qd,c,q,k⟩:=zz
 have tb:=CC I hT
 refine FX M F hr hg hm hb .nil hx ha de he bu pins s σ H Q I ⟨B,F',δ,ts,_,c,q,λds ak vs F1 H1 q1 f1 h1 c1 s1=>?_⟩
 intro x dx bU dH jW
 obtain⟨hp,ns,xs,hI,hq⟩:=q1
 have sm:af H1 (upd (upd H1 dx (.own x)) x (.ins C dx [])):=.of λb o e=>by rw[aT (dW e bU),aT (dW e dH)];exact e
 refine⟨F1,H1,x,dx,vs,ds,ns,xs,by rw[fH],sM (sM tb h1) sm,c1.ext,bU,sm,bH,s1.r hp,hI,λH' ws A qa df hl r nd fr=>⟨rfl,?_⟩⟩
 have s2:af H1 H':=⟨λb o e n=>qa.get b o (dW e bU) (sm.get b o e n) n,λb ps e=>by
  obtain⟨m1,e1⟩:=sm.tb b ps e
  obtain⟨m2,e2⟩:=qa.tb b _ e1
  exact⟨m1++m2,by rw[e2,qH]⟩⟩
 obtain⟨fs,c2⟩:=c1.SE s2 df hl r λa ha=>sm.free (fr a ha)
 exact k _ ak _ _ H' hq (f1.trans fs) (h1.trans s2) c2
end
section
variable{X:Cx}{e:Expr}{te:aN}{x:Str}{p pos:Pos}{i:Nat}
end
theorem bO.of0{x:Addr}{H0 H H':Hp}(h0:H0 x=none)(s:af H0 H)(sx:bO x H H'):af H0 H' :=
 ⟨λb o e n=>sx.get b o (λz=>by rw[z,h0]at e;cases e) (s.get b o e n) n,λb ps e=>by
  obtain⟨m1,e1⟩:=s.tb b ps e
  obtain⟨m2,e2⟩:=sx.tb b _ e1
  exact⟨m1++m2,by rw[e2,qH]⟩⟩
theorem wY{F H:Hp}{v:V}{A:List Addr}{xs:List D}(r:R F H [.lst true xs] [v] A):∃p,v=.ref p:=by
 cases r
 exact⟨_,rfl⟩
theorem SF{F H F' H':Hp}:∀{l:List Int} {ws:List V} {A:List Addr},R F H (aG l) ws A->R F' H' (aG l) ws A
 | [],_,_,r=>by cases r;exact .nil
 | i::l,_,_,r=>by
  cases r with
  | int r=>exact .int (SF r)
theorem SG{F H H':Hp}:∀{G:List (List Nat)} {ws:List V} {A:List Addr},R F H (az true G) ws A->(∀a∈A,H' a=H a)->R F H' (az true G) ws A
 | [],_,_,r,_=>by cases r;exact .nil
 | g::G,_,_,r,h=>by
  cases r with
  | own e f x y=>exact .own (by rw[h _ kh];exact e) f (SF (l:=g.map λ(n:Nat)=>(n:Int)) x) (SG y λa ha=>h a (gK _ (dq _ ha)))
theorem SH{F H H':Hp}{G:List (List Nat)}{v:V}{A:List Addr}(r:R F H [.lst true (az true G)] [v] A)(h:∀a∈A,H' a=H a):R F H' [.lst true (az true G)] [v] A:=by
 cases r with
 | own e f x y =>
  cases y
  exact .own (by rw[h _ kh];exact e) f (SG x λa ha=>h a (gK _ (eR _ ha))) .nil
abbrev oA:List Str:=["field","length","check_rows","word_rows","message_places","size"]
structure dv7(K:PySem.W.Frag)(C:Addr):Prop where
 cls:cC K C
 field:bg K C "field"
 length:bg K C "length"
 dv8:bg K C "check_rows"
 dv9:bg K C "word_rows"
 SI:bg K C "message_places"
 size:bg K C "size"
end L3
namespace L3
open PySem L2 Mf
section
variable{m:Bool × Nat}
def kJ(m:Bool × Nat)(n i:Nat):List Nat:=aU i 0++[1]++aU (n-2-i) 0++[bP m 0 1]
def gZ(m:Bool × Nat)(n:Nat):List (List Nat):=(aL (n-1)).map (kJ m n)
theorem cB6{n i:Nat}(hi:i<n-1)(j:Nat):cf (kJ m n i) j=if j=i then 1 else if j=n-1 then bP m 0 1 else 0:=by
 unfold kJ cf
 rw[aS]
 by_cases c1:j<i
 ·rw[if_neg (by omega),if_neg (by omega),eE,eE,qJ (by rw[fP];exact c1),oN,if_pos c1];rfl
 ·by_cases c2:j=i
  ·rw[if_pos c2,eE,eE,m5 (by rw[fP];omega),fP,c2,Fu];rfl
  ·rw[if_neg c2]
   by_cases c3:j<n-1
   ·rw[if_neg (by omega),qJ (by simp only[dF,fP,mi];omega),m5 (by simp only[dF,fP,mi];omega),oN]
    split<;>rfl
   ·rw[m5 (by simp only[dF,fP,mi];omega)]
    simp only[dF,fP,mi]
    by_cases c4:j=n-1
    ·rw[if_pos c4,show j-(i+1+(n-2-i))=0 by omega];rfl
    ·rw[if_neg c4,gw (by rw[mi];omega)];rfl
theorem II(hm:m∈aE){n:Nat}(h2:2<=n):RT (ae m) n (gZ m n)/\(gZ m n).length=n-1/\aj (gZ m n)=n:=by
 have fk:=lo1 hm
 have g:=(mV hm (show 0<ae m by omega) (show 1<ae m by omega)).2.1
 have l:(gZ m n).length=n-1:=by unfold gZ;rw[br,cj]
 have r:RT (ae m) n (gZ m n):=λx hx=>by
  obtain⟨i,hi,rfl⟩:=bB.mp hx
  have hi:=di.mp hi
  unfold kJ
  refine⟨by simp only[dF,fP,mi];omega,λa ha=>?_⟩
  simp only[cI,uh,fI]at ha
  rcases ha with ((⟨_,rfl⟩ | rfl) | ⟨_,rfl⟩) | rfl
  ·omega
  ·omega
  ·omega
  ·exact g
 exact⟨r,l,wM r λz=>by rw[z]at l;exact absurd l (by show ¬ (0=n-1);omega)⟩
end
end L3
namespace L2
open PySem PySem.Spec PyProof.Rows
structure Dn(K:PySem.W.Frag)(x qual:Str)(st:Stmt)(f:Addr)(fd:FuncData):Prop where
 ex:∃(oc:Value) (od:Option Addr) (dV kV doc pm:Value) (an:Option Addr) (aC ct:Value) (iz:Array (Option Value)),
  fd=PySem.W.fnOf x qual (iC st) (fQ st) (aK st) dV kV doc pm an aC ct/\K.lookup f=some ⟨oc,od,.func fd,iz⟩/\PySem.W.codeIn K aC qual=true
 kp:PySem.W.keepIn K (.ref f)=true
section
variable{P:Program}{w:World}{K:PySem.W.Frag}{mg:Str->Option Value}{base:Heap}
theorem Dn.ok{x qual:Str}{st:Stmt}{f:Addr}{fd:FuncData}{N ps:List Str}{k:Nat}{sp:Sp}(F:Dn K x qual st f fd)(S:aX N ps (aK st))(len:∀vs H Q E,sp vs H Q E->vs.length=ps.length)
  (hW:∀(aC:Value) (A:Around) (outer:List Env) (s:Shared) (H:Hp) (vs:List V) (Q:VK) (E:XK),bS k (A.deeper (envOfC qual (aK st) s.heap.objs.size f aC))->sp vs H Q E ->
   ∃t,PSs (i5 aO P w K mg base N qual (aK st) f aC A outer s H E).gy (fQ st) t/\t { nx:=λ_ H'=>Q .au H',rt:=Q } (start N vs) H):aI P w K mg base aO (k+1) f fd ps sp:=by
 obtain⟨oc,od,dV,kV,doc,pm,an,aC,ct,iz,rfl,lk,da⟩:=F.ex
 refine BQ lk da S len λA outer s H vs Q E hr iA=>?_
 obtain⟨t,h,q⟩:=hW aC A outer s H vs Q E hr iA
 exact⟨t,h.gy,q⟩
theorem cw4{x qual:Str}{st:Stmt}{f:Addr}{oc:Value}{od an:Option Addr}{iz:Array (Option Value)}{dV kV doc pm aC ct:Value}(l:K.lookup f=some ⟨oc,od,.func (PySem.W.fnOf x qual (iC st) (fQ st) (aK st) dV kV doc pm an aC ct),iz⟩)
  (c:PySem.W.codeIn K aC qual=true) (k:PySem.W.keepIn K (.ref f)=true):Dn K x qual st f (PySem.W.fnOf x qual (iC st) (fQ st) (aK st) dV kV doc pm an aC ct):=⟨⟨oc,od,dV,kV,doc,pm,an,aC,ct,iz,rfl,l,c⟩,k⟩
theorem cH4{fd:FuncData}{ps:List Str}{T:Addr}{o:Obj}{items:Array Value}{n:Nat}(hd:fd.defaults=.ref T)(ho:K.lookup T=some o)(hs:o.data=.seq items n)
  (h:∀us:List Value,us.length=ps.length->∃k,bindArgs fd ⟨us,[]⟩=seqItems? fd.defaults >>= k/\k (some items)=pure (ps.zip us)):Binds K fd ps []:=λs us KX hl=>by
 rw[fH]at hl ⊢
 obtain⟨k,h1,h2⟩:=h us hl
 exact .of_defaults hd (KX _ _ ho) hs h1 h2
end
end L2
namespace L3
open PySem L2 Mf
inductive Kd
 | jG (b:Nat) | rep | IJ (e f:Nat)
structure tf(pre:List (Str × V)):Prop where
 put:∀(n:Str) (v:V) (l:List (Str × V)),n∈oA->bC n v (pre++l)=pre++bC n v l
 look:∀(n:Str) (l:List (Str × V)),n∈oA->(pre++l).lookup n=l.lookup n
 len:pre.length<=2
theorem tf.nil:tf []:=⟨λ_ _ _ _=>rfl,λ_ _ _=>rfl,by decide⟩
theorem tf.two(e f:V):tf [("extra",e),("first",f)]:=by
 have h1:∀n∈oA,("extra":Str)≠n/\("first":Str)≠n:=by decide
 refine⟨λn v l hn=>?_,λn l hn=>?_,bM 2⟩
 ·obtain⟨a,b⟩:=h1 n hn
  show bC n v (("extra",e)::("first",f)::l)=_
  rw[bC,if_neg a,bC,if_neg b];rfl
 ·obtain⟨a,b⟩:=h1 n hn
  show l9 n (("extra",e)::("first",f)::l)=_
  rw[gi,beq_false_of_ne a.symm,gi,beq_false_of_ne b.symm]
theorem tf.lt{pre l:List (Str × V)}(h:tf pre)(hl:l.length<=6):(pre++l).length<1000:=by
 have:=h.len
 rw[dF];omega
section
variable{m:Bool × Nat}{G:List (List Nat)}
def bI(m:Bool × Nat)(G:List (List Nat)):List (List Nat):=je m (bG m G) (aj G)
def cL(m:Bool × Nat)(G:List (List Nat)):List Nat:=eX (bG m G) (aj G)
def mZ(cb cp:Addr)(o:Bool)(m:Bool × Nat)(G:List (List Nat)):List D:=[fD cb cp m,.int (aj G:Nat),.lst o (az o G),.lst o (az o (bI m G)),.lst o (av (cL m G)),.int ((cL m G).length:Nat)]
def uO(cb cp cc cr cs:Addr)(m:Bool × Nat)(G:List (List Nat)):Kd->D
 | .jG b=>.obj cc ["field","length","check_rows","word_rows","message_places","size","bound"] (mZ cb cp false m G++[.int (b:Nat)])
 | .rep=>.obj cr oA (mZ cb cp false m G)
 | .IJ e f=>.obj cs ["extra","first","field","length","check_rows","word_rows","message_places","size"] ([.int (e:Nat),.int (f:Nat)]++mZ cb cp false m G)
theorem qu(cb cp:Addr)(o:Bool)(m:Bool × Nat)(G:List (List Nat)):(mZ cb cp o m G).map D.sh=mZ cb cp false m G:=by
 unfold mZ
 simp only[dy,km,zI,dD,dP,we,<- cT,pU]
theorem qv(cb cp cc cr cs:Addr)(m:Bool × Nat)(G:List (List Nat))(k:Kd):(uO cb cp cc cr cs m G k).sh=uO cb cp cc cr cs m G k:=by cases k<;>rfl
theorem tu(cb cp cc cr cs:Addr)(m:Bool × Nat)(G:List (List Nat))(k:Kd):(uO cb cp cc cr cs m G k).pl=true:=by cases k<;>rfl
structure eY(m:Bool × Nat)(G:List (List Nat)):Prop where
 hm:m∈aE
 rt:RT (ae m) (aj G) G
 len:G.length<=64
 IK:aj G<=64
 sz:0<(cL m G).length
theorem eY.red(h:eY m G):(∃H,RR (aj G) (bG m G) H)/\RT (ae m) (aj G) (bG m G):=⟨(jc h.hm h.rt).1,(jc h.hm h.rt).2.1⟩
theorem jH(m:Bool × Nat)(G:List (List Nat)):(bI m G).length=(cL m G).length:=by unfold bI cL je;rw[br]
theorem SJ{j:Nat}(hj:j<(cL m G).length):(bI m G).getD j []=fA m (bG m G) (aj G) ((cL m G).getD j 0):=qm (fA m (bG m G) (aj G)) hj 0 []
theorem IL{j:Nat}(hj:j<(cL m G).length):(cL m G).getD j 0∈eX (bG m G) (aj G):=by
 rw[aS,aR hj];exact eG hj
theorem cC5(m:Bool × Nat)(G:List (List Nat)):(cL m G).Nodup:=YT _ List.nodup_range
theorem eY.rows(h:eY m G):RT (ae m) (aj G) (bI m G):=(IG h.hm h.rt).1
theorem eY.wN(h:eY m G):(cL m G).length<=aj G:=by rw[<-jH];exact(IG h.hm h.rt).2
theorem eY.wide(h:eY m G):aj (bI m G)=aj G:=wM h.rows λz=>by
 have:=h.sz
 rw[<-jH,z]at this
 exact absurd this (by decide)
def jI(m:Bool × Nat)(G:List (List Nat))(l:List Nat):List Nat:=ou m l (bI m G) (aj G)
theorem IM(m:Bool × Nat)(G:List (List Nat))(l:List Nat):(jI m G l).length=aj G:=R6 ..
theorem eY.SK(h:eY m G){l:List Nat}(hl:l.length=(cL m G).length):AllLt (ae m) (jI m G l):=cE1 h.hm _ (by rw[jH];exact hl)
theorem eY.word(h:eY m G){l:List Nat}(hl:l.length=(cL m G).length):∀r∈G,gd m r (jI m G l)=0:=cu0 h.hm h.rt (by rw[hl,<- jH];rfl)
end
end L3
namespace L3
open PySem L2 PySem.Spec PyProof.Rows
section
variable{X:Cx}{scope:Scope}{tg iter elt:Expr}{ifs:List Expr}{pos:Pos}{cl:List (Str × Addr)}{ti:ju}{g:iK}{tt:fX}{te:aN}
theorem ce9{i:Nat}{x:Str}{pos' apos:Pos}(hN:X.N.Nodup)(mR:X.N[i]?=some x)(hx:L2.Loc X.env.scope x)(aD:List (Str × Nat))(bK:List Str)(hc:X.calm=true)(hi:PI X tg iter (lI ti))
  (hg:∀C s H fp,PG (dQ X scope (aD.map (·.1)++bK) cl C s H fp) tg (lG aD.length g))
  (ht:∀C s H fp,mD (dQ X scope (aD.map (·.1)++bK) cl C s H fp) ifs (lT tt)) (he:∀C s H fp,PE (dQ X scope (aD.map (·.1)++bK) cl C s H fp) elt (lE te))
  (lM:closureFor scope X.env=pure cl) (lN:mE X cl) (lQ:∀C:Addr,mF (cellsFrom (C+1) scope.names cl) (relabel scope X.env).names) (lU:∀C:Addr,mC X scope (cellsFrom (C+1) scope.names cl) aD)
  (iB:scope.kind=.function) (lV:∀y∈scope.names,y.2=.local->scope.names.lookup y.1=some .local)
  (sr:swapsWith (.ListComp elt [⟨tg,iter,ifs,0⟩] scope pos) (some (.Name x pos')) apos.line X.env=pure true:=by rfl) (hf:X.fn x=true\/X.env.scope.names.lookup x=some .local:=by first | exact .inl rfl | exact .inr rfl)
  (hs:∀x,foldedSetIterable iter X.env x=pure x:=by intro _;rfl):PS X (.Assign [.Name x pos'] (.ListComp elt [⟨tg,iter,ifs,0⟩] scope pos) apos) (λEn σ H=>lE (pO ti aD bK.length g tt te) σ H λv H'=>En.nx (σ.set i (some v)) H') :=
 kB (RU hN mR hx hf aD bK hc hi hg ht he lM lN lQ lU iB lV sr hs) λEn σ H ⟨B,F,δ,ts,Qd,c,q,k⟩=>⟨B,F,δ,ts,_,c,q,λsh xs ak J F1 H1 hq f1 h1 c1 nO rQ=>by
  obtain⟨p,f,hx,eJ,hlen,hQ⟩:=hq
  exact G2 c1 nO rQ p f hx eJ hlen hQ λd ah v F' H' hd hf hs c'=>k d ah v F' H' hd (f1.trans hf) (h1.trans hs) c'⟩
end
theorem ao.self{F H:Hp}{σ:L2.St}{δ:Dl}{o:Option V}(e:af F H)(r:RS F H δ σ []):ao ⟨H,F⟩ F H (o::σ) (none::δ) []:=⟨e,af.refl _,af.refl _,λ_ _ q=>.inl q,[],[],.nil,.au r,by simp,by simp⟩
end L3
namespace L2
open PySem
theorem bh{N P:List Str}{sc:Scope}(a:sc.kind=.function:=by rfl)(b:sc.isCoroutine=false:=by rfl)(c:sc.isGenerator=false:=by rfl)(d:N.Nodup:=by decide +kernel)(e:N.take P.length=P:=by rfl)(f:∀x∈P,sc.names.lookup x=some .local\/sc.names.lookup x=some .cell:=by decide +kernel)(g:∀y∈sc.names,y.2≠.free:=by decide +kernel):aX N P sc:=⟨a,b,c,d,e,f,g⟩
end L2
namespace L2
open PySem
end L2
namespace L3
open PySem L2 PySem.Spec PyProof.Rows
theorem ft{X:Cx}{m i:Nat}{x:Str}{pos:Pos}(hN:X.N.Nodup)(hi:X.N[i]?=some x:=by rfl)(hx:Loc X.env.scope x:=by first | exact ax (lookup_relabel_local rfl) | exact b9 rfl | exact ax rfl)(hm:m<=i:=by decide)
  (hf:X.fn x=true\/X.env.scope.names.lookup x=some .local:=by first | exact .inr (lookup_relabel_local rfl) | exact .inl rfl | exact .inr rfl):PG X (.Name x pos) (lG m (gN i)):=jY hN hi hx hm hf
theorem w4{X:Cx}{m i1 i2:Nat}{y1 y2:Str}{t1 t2 tp:Pos}{tk:Nat}(Cz:X.N.Nodup)(hc:X.calm=true:=by rfl)(m1:X.N[i1]?=some y1:=by rfl)(l1:Loc X.env.scope y1:=by first | exact ax (lookup_relabel_local rfl) | exact b9 rfl)(m2:X.N[i2]?=some y2:=by rfl)(l2:Loc X.env.scope y2:=by first | exact ax (lookup_relabel_local rfl) | exact b9 rfl)(Qt:m<=i1:=by decide)(mO:m<=i2:=by decide)
  (f1:X.fn y1=true\/X.env.scope.names.lookup y1=some .local:=by first | exact .inr (lookup_relabel_local rfl) | exact .inl rfl) (f2:X.fn y2=true\/X.env.scope.names.lookup y2=some .local:=by first | exact .inr (lookup_relabel_local rfl) | exact .inl rfl)
  (Hz:(assignEach [.Name y1 t1,.Name y2 t2] X.env).map (·.2)=assign (.Name y1 t1) X.env::(assignEach [.Name y2 t2] X.env).map (·.2):=by rfl) (HA:(assignEach [.Name y2 t2] X.env).map (·.2)=assign (.Name y2 t2) X.env::(assignEach [] X.env).map (·.2):=by rfl)
  (hn:(assignEach [.Name y1 t1,.Name y2 t2] X.env).length=2:=by rfl) (cw:(assignEach [.Name y1 t1,.Name y2 t2] X.env).findIdx? (·.1)=none:=by rfl) :
  PG X (.Tuple [.Name y1 t1,.Name y2 t2] tk tp) (lG m (jz i1 i2)):=nZ hc Cz m1 l1 m2 l2 Qt mO f1 f2 Hz HA hn cw
end L3
namespace L2
open PySem
structure Fk(K:PySem.W.Frag)(mg:Str->Option Value)(x:Str)(st:Stmt)(ps:List Str)(f:Addr)(fd:FuncData):Prop where
 F:aY K x x st f fd
 g:mg x=some (.ref f)
 b:Binds K fd ps []
structure Fm(K:PySem.W.Frag)(x q:Str)(st:Stmt)(ps:List Str)(f:Addr)(fd:FuncData):Prop where
 F:aY K x q st f fd
 b:Binds K fd ps []
end L2
namespace L3
open PySem L2 PySem.Spec PyProof.Rows
theorem bw{X:Cx}{x:Str}{st:Stmt}{ps:List Str}{f:Addr}{fd:FuncData}{n k:Nat}{sp:bc}{e:Expr}{es:List Expr}{t:cF}{p pos:Pos}(Q:Fk X.K X.mg x st ps f fd)(F:aI X.prog X.w X.K X.mg X.base aO n f fd ps (bf sp))(hr:bS k X.A)(ha:PA X (e::es) (lA t))(hn:n<=k:=by decide)(hg:Gl X x:=by rfl)
  (de:(x==("__debug__":Str))=false:=by decide) (he:starEach (e::es) X.env=(false,eval e X.env)::starEach es X.env:=by rfl) (bu:(backTo pos (starEach es X.env)).any (·.1)=false:=by rfl) :
  PE X (.Call (.Name x p) (e::es) [] pos) (lE (pL sp t)):=pM (F.mono hn) hr hg Q.g Q.F.kp Q.b b8 ha de he bu
end L3
namespace L3
open PySem L2 Mf
theorem Dq{m:Bool × Nat}(hm:m∈aE)(f n:Nat){e:Nat}(he:1<=e):RT (ae m) n (fB m f (aL n) e)/\(fB m f (aL n) e).length=e/\aj (fB m f (aL n) e)=n:=by
 obtain⟨g1,g2⟩:=Sh hm f (aL n) e
 rw[cj]at g1
 exact⟨g1,g2,wM g1 λz=>by
  rw[z]at g2
  exact absurd g2 (by show ¬ 0=e;omega)⟩
end L3
namespace L3
open PySem L2 Mf
section
variable{m:Bool × Nat}
variable{G:List (List Nat)}
end
end L3
namespace L3
open PySem L2 PySem.Spec PyProof.Rows
section
variable{P:Program}{w:World}{K:PySem.W.Frag}{mg:Str->Option Value}{base:Heap}
end
section
variable{X:Cx}{CX:eU}{n:Nat}{f C:Addr}{fd:FuncData}{ps:List Str}{iQ:List D->List Str->List D->Prop}{E:XK}{x:Str}{p pos:Pos}{e:Expr}{es:List Expr}{t:cF}{tl:List Addr}
theorem ci3{z:Int}(hT:Tb tl X.jP)(M:L2.Mk X.K C f)(F:aI X.prog X.w X.K X.mg X.base CX n f fd ps (zS tl C iQ))(hr:bS (n+1) X.A)(hg:Gl X x)(hm:X.mg x=some (.ref C))(hb:∃tk,Binds X.K fd ps [.int z tk])(hx:jT CX X E)
  (ha:PA X (e::es) (lA t)) (de:(x==("__debug__":Str))=false:=by decide) (he:starEach (e::es) X.env=(false,eval e X.env)::starEach es X.env:=by rfl) (bu:(backTo pos (starEach es X.env)).any (·.1)=false:=by rfl) :
  PE X (.Call (.Name x p) (e::es) [] pos) (lE (s8 C (λds=>iQ (ds++[.int z])) t)):=by
 obtain⟨tk,hb⟩:=hb
 intro pins s σ H Q I zz
 obtain⟨B,F',δ,ts,Qd,c,q,k⟩:=zz
 have tb:=CC I hT
 refine FX M F hr hg hm hb (fu:=[.int z]) (.cons ⟨tk,rfl⟩ .nil) hx ha de he bu pins s σ H Q I ⟨B,F',δ,ts,_,c,q,λds ak vs F1 H1 q1 f1 h1 c1 s1=>?_⟩
 intro x dx bU dH jW
 obtain⟨hp,ns,xs,hI,hq⟩:=q1
 have sm:af H1 (upd (upd H1 dx (.own x)) x (.ins C dx [])):=.of λb o e=>by rw[aT (dW e bU),aT (dW e dH)];exact e
 refine⟨F1,H1,x,dx,vs++[.int z],ds++[.int z],ns,xs,rfl,sM (sM tb h1) sm,c1.ext,bU,sm,bH,R.append (s1.r hp) (.int .nil),hI,λH' ws A qa df hl r nd fr=>⟨rfl,?_⟩⟩
 have s2:af H1 H':=⟨λb o e n=>qa.get b o (dW e bU) (sm.get b o e n) n,λb ps e=>by
  obtain⟨m1,e1⟩:=sm.tb b ps e
  obtain⟨m2,e2⟩:=qa.tb b _ e1
  exact⟨m1++m2,by rw[e2,qH]⟩⟩
 obtain⟨fs,c2⟩:=c1.SE s2 df hl r λa ha=>sm.free (fr a ha)
 exact k _ ak _ _ H' hq (f1.trans fs) (h1.trans s2) c2
end
theorem cv4{K:PySem.W.Frag}{fd:FuncData}{ps:List Str}{T:Addr}{o:Obj}{z:Int}{tk:Tok}{n k:Nat}(hd:fd.defaults=.ref T)(ho:K.lookup T=some o)(hs:o.data=.seq #[.int z tk] n)
  (hk:k+1=ps.length) (h:∀us:List Value,us.length=k->∃k,bindArgs fd ⟨us,[]⟩=seqItems? fd.defaults >>= k/\k (some #[.int z tk])=pure (ps.zip (us++[.int z tk]))):∃tk,Binds K fd ps [.int z tk]:=⟨tk,λs us KX hl=>by
 obtain⟨k,h1,h2⟩:=h us (by rw[dF,<- hk]at hl;exact xO hl)
 exact .of_defaults hd (KX _ _ ho) hs h1 h2⟩
end L3
namespace L3
open PySem L2 Mf
section
variable{m:Bool × Nat}{G:List (List Nat)}
end
end L3
namespace L3
open PySem L2 Mf
end L3
namespace L3
open PySem L2 Mf
theorem cE8{m:Bool × Nat}{G:List (List Nat)}(hm:m∈aE)(hG:RT (ae m) (aj G) G)(hw:0<aj G)(h0:0<(cL m G).length):∃Fb,kI m G=some Fb:=by
 cases e:kI m G with
 | some Fb=>exact⟨Fb,rfl⟩
 | none =>
  have ind:=Sz hm hw hG e (aL (aj G)) (SA (bM _))
  obtain⟨⟨H,I⟩,iR,il,sp⟩:=jc hm hG
  have hf:=dR h0 0
  obtain⟨k1,k2,k3,k4,k5⟩:=sX hm iR I hf
  have kx:=Iz hm hG hf
  have lt:=((I.free hm iR _).mp hf).1
  have r:=rg hm
  have:=ind (cf (fA m (bG m G) (aj G) ((cL m G).getD 0 0))) (fK hm k2) (λk=>?_) _ (by rw[cj];exact lt)
  ·rw[k3]at this;cases this
  ·unfold gv jF
   rw[cj]
   have ee:∀t,t<aj G->(aL (aj G)).getD t 0=t:=λt ht=>by rw[aS,jL ht];rfl
   by_cases hk:k<G.length
   ·have:=kx _ (dR hk [])
    unfold dt at this
    refine Eq.trans (cP λt ht=>?_) this
    rw[ee t ht,gg]
   ·refine gu r λt ht=>?_
    rw[aS (l:=G),gw (by omega)]
    exact r.qz _
end L3
namespace L3
open PySem L2 Mf
section
variable{m:Bool × Nat}{G:List (List Nat)}
theorem cq0(hm:m∈aE){v:Nat}{S R:List (List Nat)}{P:Nat->Nat}(u:∀i j,i<S.length->j<S.length->cf (S.getD i []) (P j)=if i=j then 1 else 0)(hR:RT (ae m) v R)(h:∀i,i<S.length->cq m R (cf (S.getD i []))):S.length<=R.length:=by
 have r:=rg hm
 refine Nf λhl=>?_
 have hc:∀i,∃c:Nat->Nat,i<S.length->(∀j,c j<ae m)/\∀k,cf (S.getD i []) k=sm (gp m) R.length λj=>gm m (c j) (cf (R.getD j []) k):=λi=>by
  by_cases hi:i<S.length
  ·obtain⟨c,a,b⟩:=(h i hi).sum hm hR
   exact⟨c,λ_=>⟨a,b⟩⟩
  ·exact⟨λ_=>0,λz=>absurd z hi⟩
 obtain⟨C,hC⟩:=YV hc
 have cl:∀i,i<S.length->∀j,C i j<ae m:=λi hi=>(hC i hi).1
 obtain⟨x,f,f1,x1,x2,x3⟩:=Iy hm (n:=S.length) (M:=(aL R.length).map λj=>(aL S.length).map λi=>C i j) (λy hy=>by
  obtain⟨j,_,rfl⟩:=bB.mp hy
  refine⟨by rw[br,cj],λz hz=>?_⟩
  obtain⟨i,hi,rfl⟩:=bB.mp hz
  exact cl i (di.mp hi) j) (by rw[br,cj];exact hl)
 rw[br,cj]at x3
 have x4:∀j,j<R.length->sm (gp m) S.length (λi=>gm m (C i j) (x i))=0:=λj hj=>by
  rw[<-x3 j hj]
  refine cP λi hi=>?_
  rw[qm (λj=>(aL S.length).map λi=>C i j) (by rw[cj];exact hj) 0 [],Iu _ hi,aS,jL hj];rfl
 have x5:∀k,sm (gp m) S.length (λi=>gm m (x i) (cf (S.getD i []) k))=0:=λk=>by
  rw[cP (g:=λi=>sm (gp m) R.length λj=>gm m (gm m (C i j) (x i)) (cf (R.getD j []) k)) λi hi=>?_,Ia r,gu r λj hj=>?_]
  ·rw[cP (g:=λi=>gm m (cf (R.getD j []) k) (gm m (C i j) (x i))) λi hi=>gg m _ _,mX r,x4 j hj,r.qz]
  ·rw[(hC i hi).2 k,<- mX r]
   exact cP λj _=>by rw[<-jD (dm m hm),gg m (x i)]
 have:=x5 (P f)
 rw[ot r (f:=λi=>gm m (x i) (cf (S.getD i []) (P f))) (cV hm _ _) f1 λj hj hn=>by rw[u j f hj f1,if_neg hn,r.qz],u f f f1 f1,if_pos rfl,x2,mU (lo1 hm)]at this
 omega
theorem eY.dw9(h:eY m G):∀i j,i<(bI m G).length->j<(bI m G).length->cf ((bI m G).getD i []) ((cL m G).getD j 0)=if i=j then 1 else 0:=λi j hi hj=>by
 have hm:=h.hm
 obtain⟨⟨H,I⟩,iR⟩:=h.red
 rw[jH]at hi hj
 rw[SJ hi]
 have fi:=IL hi
 have fj:=IL hj
 obtain⟨k1,k2,k3,k4,k5⟩:=sX hm iR I fi
 by_cases e:i=j
 ·subst e;rw[k3,if_pos rfl]
 ·rw[if_neg e]
  refine k5 _ (λz=>e ?_) ((I.free hm iR _).mp fj).2
  have nd:=cC5 m G
  rw[aS,aS,aR hi,aR hj]at z
  exact((List.getElem_inj nd).mp z.symm)
theorem bT8(h:eY m G)(h':eY m (bI m G)):(cL m (bI m G)).length+(cL m G).length=aj G:=by
 have hm:=h.hm
 have r:=rg hm
 obtain⟨⟨H,I⟩,iR⟩:=h.red
 have fl:=I.wL hm iR
 obtain⟨⟨H',I'⟩,SM,il',pk⟩:=jc hm h'.rt
 have fl':=I'.wL hm SM
 have wW:=h.wide
 have lW:=jH m G
 have e1:(cL m G).length=(eX (bG m G) (aj G)).length:=rfl
 have e2:(cL m (bI m G)).length=(eX (bG m (bI m G)) (aj (bI m G))).length:=rfl
 have:=cq0 hm h'.dw9 iR λj hj=>?_
 ·rw[jH]at this
  omega
 ·have hr:=dR hj []
  rw[jH]at hj
  rw[SJ hj]at hr ⊢
  have hf:=IL hj
  obtain⟨k1,k2,_,_,_⟩:=sX hm SM I' hf
  have kx:=Iz hm h'.rt hf
  rw[wW]at kx k1 k2 ⊢
  generalize fA m (bG m (bI m G)) (aj G) ((cL m (bI m G)).getD j 0)=z at k1 k2 kx
  have kk:=λ{k:Nat} (hk:k<aj G)=>I.dt6 hm iR (z:=cf z) (fK hm k2) (λf hf=>kx _ (bB.mpr ⟨f,hf,rfl⟩)) hk
  have ef:cf z=λk=>sm (gp m) (bG m G).length λi=>gm m (cf z (H i)) (cf ((bG m G).getD i []) k):=funext λk=>by
   by_cases hk:k<aj G
   ·exact kk hk
   ·rw[qj (by omega)]
    refine(gu r λi hi=>?_).symm
    rw[show cf ((bG m G).getD i []) k=0 from qj (by rw[(iR _ (dR hi [])).1];omega)]
    exact r.qz _
  rw[ef]
  exact Sp.sm (λi _=>fK hm k2 _) λi hi=>cq.of (dR hi [])
theorem SN(h:eY m G){l y:List Nat}(hl:l.length=(cL m G).length)(hy:y.length=aj G)(hr:∀r∈bI m G,gd m r y=0):gd m y (jI m G l)=0/\gd m (jI m G l) y=0:=by
 have hm:=h.hm
 have hx:l.length=(bI m G).length:=by rw[jH];exact hl
 have lw:=IM m G l
 have e0:gd m y (jI m G l)=0:=by
  rw[qo m (hy.trans lw.symm),hy]
  rw[cP (g:=λj=>gm m (cf y j) (sm (gp m) (bI m G).length λi=>gm m (cf l i) (cf ((bI m G).getD i []) j))) λj hj=>by unfold jI;rw[R7 m hx hj]]
  have e:=Di hm (aj G) (cf y) (cf l) (λi=>cf ((bI m G).getD i [])) (bI m G).length
  unfold dt at e
  rw[e]
  refine gu (rg hm) λi hi=>?_
  have z:=dR hi []
  have zl:=(h.rows _ z).1
  have:=hr _ z
  rw[qo m (zl.trans hy.symm),zl]at this
  rw[cP (g:=λj=>gm m (cf ((bI m G).getD i []) j) (cf y j)) λj _=>gg m _ _,this]
  exact(rg hm).qz _
 refine⟨e0,?_⟩
 rw[qo m (lw.trans hy.symm),lw]
 rw[qo m (hy.trans lw.symm),hy]at e0
 exact Eq.trans (cP λj _=>gg m _ _) e0
end
end L3
namespace HK47
open PySem.W (Frag codeHdIn kitOne exmOne nsIn findIn isFn specialIn takesIn plainGet hasDictIn plainOver makesIn keepIn mroIn typeIn subIn fnOf codeIn clsIn excIn mg_of mg_none_of CodeHd)
open PySem L2 L3 Mf
seal L2.PSs L2.PS L2.PE L2.PT L2.PA L2.PI L2.PG L2.PO L2.PW
local macro_rules | `(tactic| nofun) => do
  let l ← (("u4 rP u5 u6 u7 dT nJ pJ pK dC rH pL rM rL rN u3 pS vL sq vN vO uT uU uV uW uX uY u0 rJ vI se sg ii rS vm rW vn vo vp vt vv vw iI iN vx vy vz vA rX pP vF vG gN vP vK u9 ve vg vh vi vj vQ vR pO mI gC j3 jw uf t9 Bi Bj rO lh kD si sj nY vV vX vW vY vZ v7 pW kG wc sF zk sG v9 jz kH ze zf dy km uk ud kj Bk aU uq ur jM jN xP exists_eq_left' exists_eq_left D.bl.injEq D.int.injEq D.lst.injEq D.fz.injEq D.str.injEq D.tup.injEq Bl and_true true_and dA uj ni kQ yG yH yI yJ yK yL fV kY pU yQ yR yS yT yU dD mH yM yN yO yP fW rF Bo Bp tW kS Bq Br xC yY yZ y0 y6 y7 y8 y9 lF nX su kF sA yW vU yV sC yX ie vT if_true oR if_false reduceIte za decide_eq_true_eq fw n6 sH zr pY zo va wm sT wC wb sN sO sP wq wK dP oq lL zK sV wX s8 sZ sL zI wH cp1 cs6 HY CY".splitOn " ").toArray.map fun (s : String) => Lean.mkIdent s.toName).mapM fun i => `(Lean.Parser.Tactic.simpLemma| $i:term)
  `(tactic| (try dsimp only [$l,*]) <;> (try simp only [$l,*]))
def top (i:Nat):Stmt:=PySem.Challenge.pw_mendfield_k47_code_crossed.main.body.getD i (.Pass ⟨0,0,0,0⟩)
abbrev IQ:Stmt:=top 93
theorem IS:aX ["_law_cell_here","_law_some","_law_primes"] ["_law_cell_here"] (aK IQ):=bh
abbrev IT:Stmt:=top 94
theorem aO4:aX ["_law_told_here"] ["_law_told_here"] (aK IT):=bh
abbrev IU:Stmt:=top 53
theorem aJ3:aX ["code"] ["code"] (aK IU):=bh
abbrev IV:Stmt:=top 16
theorem aR4:aX ["table"] ["table"] (aK IV):=bh
abbrev IW:Stmt:=top 21
theorem SO:aX ["rows","place","number","row"] ["rows","place"] (aK IW):=bh
abbrev IY:Stmt:=dZ (top 68) 6
theorem SQ:aX ["self","a","row","by_a"] ["self","a","row"] (aK IY):=bh
abbrev IZ:Stmt:=dZ (top 69) 6
theorem SR:aX ["self","a","row","prime"] ["self","a","row"] (aK IZ):=bh
abbrev I0:Stmt:=dZ (top 68) 7
theorem SS:aX ["self","row","a","other","by_a"] ["self","row","a","other"] (aK I0):=bh
abbrev Ja:Stmt:=dZ (top 69) 7
theorem SU:aX ["self","row","a","other","prime"] ["self","row","a","other"] (aK Ja):=bh
abbrev Jb:Stmt:=top 22
theorem aS6:aX ["field","rows","lead_row","place"] ["field","rows","lead_row","place"] (aK Jb):=bh
abbrev Jc:Stmt:=dZ (top 67) 8
theorem aA3:aX ["self","n"] ["self","n"] (aK Jc):=bh
abbrev Jd:Stmt:=dZ (top 67) 5
theorem aM6:aX ["self","a","b"] ["self","a","b"] (aK Jd):=bh
abbrev Je:Stmt:=top 23
theorem qw:aX ["field","table","done","left","place","number","lead_row"] ["field","table"] (aK Je):=bh
abbrev Jf:Stmt:=top 29
theorem aT3:aX ["table"] ["table"] (aK Jf):=bh
abbrev Jg:Stmt:=top 24
theorem cg4:aX ["rows"] ["rows"] (aK Jg):=bh
abbrev Jh:Stmt:=top 26
theorem SV:aX ["rows","width","taken"] ["rows","width"] (aK Jh):=bh
abbrev Ji:Stmt:=dZ (top 68) 2
theorem aF1:aX ["self","a","b"] ["self","a","b"] (aK Ji):=bh
abbrev Jj:Stmt:=dZ (top 69) 2
theorem aA4:aX ["self","a","b"] ["self","a","b"] (aK Jj):=bh
abbrev Jk:Stmt:=top 27
theorem w5:aX ["field","rows","width","taken","found","free","x","lead","row"] ["field","rows","width"] (aK Jk):=bh
abbrev Jl:Stmt:=dZ (top 33) 0
theorem SW:aX ["self","field","checks","rows"] ["self","field","checks"] (aK Jl):=bh
abbrev Jm:Stmt:=dZ (top 67) 1
theorem aL4:aX ["self","x"] ["self","x"] (aK Jm):=bh
abbrev Jn:Stmt:=top 50
theorem SX:aX ["field","table","width"] ["field","table"] (aK Jn):=bh
abbrev Jo:Stmt:=top 25
theorem cq3:aX ["field","table"] ["field","table"] (aK Jo):=bh
abbrev Jp:Stmt:=top 17
theorem aT4:aX ["table"] ["table"] (aK Jp):=bh
abbrev Jq:Stmt:=top 37
theorem aO5:aX ["column"] ["column"] (aK Jq):=bh
abbrev Jr:Stmt:=dZ (top 68) 3
theorem aF2:aX ["self","a","b"] ["self","a","b"] (aK Jr):=bh
abbrev Js:Stmt:=dZ (top 69) 3
theorem aA5:aX ["self","a","b"] ["self","a","b"] (aK Js):=bh
abbrev Jt:Stmt:=top 38
theorem w9:aX ["field","column","others","place","inverse","found","other","left"] ["field","column","others"] (aK Jt):=bh
abbrev Ju:Stmt:=top 39
theorem qy:aX ["field","table","width","sets","larger","places","behind","number","column","bigger"] ["field","table"] (aK Ju):=bh
abbrev Jv:Stmt:=dZ (top 51) 0
theorem aF3:aX ["self","field","table"] ["self","field","table"] (aK Jv):=bh
abbrev Jw:Stmt:=dZ (top 33) 2
theorem aO6:aX ["self"] ["self"] (aK Jw):=bh
abbrev Jx:Stmt:=top 55
theorem SY:aX ["code"] ["code"] (aK Jx):=bh
abbrev Jy:Stmt:=top 30
theorem aH7:aX ["signs","length"] ["signs","length"] (aK Jy):=bh
abbrev Jz:Stmt:=top 31
theorem S0:aX ["field","signs","place","sign"] ["field","signs"] (aK Jz):=bh
abbrev JA:Stmt:=dZ (top 68) 5
theorem zT:aX ["self","xs","ys","products","total","x","y"] ["self","xs","ys"] (aK JA):=bh
abbrev JB:Stmt:=dZ (top 69) 5
theorem aF4:aX ["self","xs","ys"] ["self","xs","ys"] (aK JB):=bh
abbrev JC:Stmt:=top 19
theorem aT5:aX ["field","row","table"] ["field","row","table"] (aK JC):=bh
abbrev JE:Stmt:=dZ (top 33) 5
theorem aJ4:aX ["self","message"] ["self","message"] (aK JE):=bh
abbrev JF:Stmt:=top 92
theorem aO7:aX ["_law_script","_law_k"] ["_law_script","_law_k"] (aK JF):=bh
abbrev JG:Stmt:=top 89
theorem aB2:aX ["many","length","extra","first"] ["many","length","extra","first"] (aK JG):=bh
abbrev kK:Stmt:=dZ (top 90) 0
theorem S1:aX ["self","field","length","extra","first","checks"] ["self","field","length","extra","first"] (aK kK):=bh
abbrev JH:Stmt:=top 61
theorem Dr:aX ["a","product","found","power"] ["a","product"] (aK JH):=bh
abbrev JI:Stmt:=top 62
theorem zU:aX ["many","product","step","found"] ["many","product"] (aK JI):=bh
abbrev JJ:Stmt:=top 63
theorem JK:aX ["powers","logs","n","a"] ["powers"] (aK JJ):=bh
abbrev JL:Stmt:=dZ (top 67) 0
theorem aM7:aX ["self","many","product"] ["self","many","product"] (aK JL):=bh
abbrev JM:Stmt:=top 66
theorem ax1:aX ["prime"] ["prime"] (aK JM):=bh
abbrev oB:Stmt:=dZ (top 69) 0
theorem aB3:aX ["self","prime"] ["self","prime"] (aK oB):=bh
abbrev JN:Stmt:=top 64
theorem Ds:aX ["powers","logs","many","rows","a"] ["powers","logs"] (aK JN):=bh
abbrev JO:Stmt:=top 58
theorem xb:aX ["a","b","quotient","rest","shift"] ["a","b"] (aK JO):=bh
abbrev JP:Stmt:=top 59
theorem JQ:aX ["a","half","b"] ["a"] (aK JP):=bh
abbrev JR:Stmt:=top 65
theorem aB4:aX ["bits"] ["bits"] (aK JR):=bh
abbrev JS:Stmt:=top 57
theorem Dt:aX ["a","b","product","k"] ["a","b"] (aK JS):=bh
abbrev oE:Stmt:=dZ (top 68) 0
theorem S2:aX ["self","bits","many"] ["self","bits"] (aK oE):=bh
abbrev JT:Stmt:=top 97
theorem aM8:aX ["_law_told_here"] ["_law_told_here"] (aK JT):=bh
abbrev JU:Stmt:=top 99
theorem aM9:aX ["_law_cell_here","_law_k"] ["_law_cell_here","_law_k"] (aK JU):=bh
abbrev JV:Stmt:=top 102
theorem zV:aX ["_law_many_here","_law_length","_law_extra","_law_cell_here","_law_sparse","_law_table","_law_i","_law_row"] ["_law_many_here","_law_length","_law_extra","_law_cell_here","_law_sparse"] (aK JV):=bh
abbrev JW:Stmt:=top 96
theorem xf:aX ["_law_told_here","_law_a","_law_b","_law_total"] ["_law_told_here","_law_a","_law_b"] (aK JW):=bh
abbrev JX:Stmt:=top 98
theorem JY:aX ["_law_told_here","_law_a","_law_powers_here"] ["_law_told_here"] (aK JX):=bh
abbrev JZ:Stmt:=top 101
theorem Du:aX ["_law_told_here","_law_length","_law_extra","_law_first","_law_powers_here","_law_table","_law_i"] ["_law_told_here","_law_length","_law_extra","_law_first"] (aK JZ):=bh
abbrev J0:Stmt:=dZ (top 51) 1
theorem av4:aX ["self"] ["self"] (aK J0):=bh
abbrev S3:Stmt:=dZ (top 35) 1
abbrev S4:Stmt:=dZ (top 90) 2
abbrev J1:Stmt:=top 34
theorem S5:aX ["field","length","less_one"] ["field","length"] (aK J1):=bh
abbrev J2:Stmt:=dZ (top 35) 0
theorem aB5:aX ["self","field","length"] ["self","field","length"] (aK J2):=bh
abbrev J3:Stmt:=top 100
theorem Dv:aX ["_law_told_here","_law_length","_law_table","_law_i","_law_row"] ["_law_told_here","_law_length"] (aK J3):=bh
abbrev J4:Stmt:=top 103
theorem jf:aX ["_law_script","_law_told_here","_law_many_here","_law_field_here","_law_kind","_law_length","_law_extra","_law_table","_law_code_here","_law_first"] ["_law_script","_law_told_here"] (aK J4):=bh
abbrev J5:Stmt:=top 104
theorem aJ5:aX ["_law_script","_law_at","_law_size","_law_many_here"] ["_law_script","_law_at","_law_size","_law_many_here"] (aK J5):=bh
abbrev J6:Stmt:=top 95
theorem aO8:aX ["_law_told_here","_law_a","_law_b"] ["_law_told_here","_law_a","_law_b"] (aK J6):=bh
abbrev J7:Stmt:=top 106
theorem Dw:aX ["_law_told_here","_law_xs","_law_ys","_law_total","_law_x","_law_y"] ["_law_told_here","_law_xs","_law_ys"] (aK J7):=bh
abbrev J8:Stmt:=top 105
theorem Dx:aX ["_law_code_here","_law_refusal_here","e"] ["_law_code_here"] (aK J8):=bh
abbrev J9:Stmt:=dZ (top 68) 8
theorem aH8:aX ["self"] ["self"] (aK J9):=bh
abbrev Ka:Stmt:=dZ (top 69) 8
theorem aB6:aX ["self"] ["self"] (aK Ka):=bh
abbrev Kb:Stmt:=dZ (top 33) 1
theorem aL5:aX ["self"] ["self"] (aK Kb):=bh
abbrev Ke:Stmt:=top 20
theorem aO9:aX ["field","table","column"] ["field","table","column"] (aK Ke):=bh
abbrev Kf:Stmt:=dZ (top 33) 7
theorem aJ6:aX ["self","word"] ["self","word"] (aK Kf):=bh
abbrev oF:Stmt:=top 107
theorem l6:aX ["_law_script","_law_told_here","_law_many_here","_law_kind","_law_long","_law_wide","_law_table","_law_code_here","_law_crossed","_law_one","_law_other"] ["_law_script"] (aK oF):=bh
set_option genInjectivity false in
set_option genSizeOf false in
structure dY where
 S6:Addr
 S7:FuncData
 S8:Addr
 S9:FuncData
 Ta:Addr
 Tc:FuncData
 Td:Addr
 Te:FuncData
 Tf:Addr
 Tg:FuncData
 Kg:Addr
 Th:FuncData
 Kh:Addr
 Ti:FuncData
 Ki:Addr
 Tj:FuncData
 Kj:Addr
 Tn:FuncData
 To:Addr
 Tp:FuncData
 zW:Addr
 Tq:FuncData
 Dy:Addr
 Tr:FuncData
 Ts:Addr
 Tt:FuncData
 Tu:Addr
 Tv:FuncData
 Tw:Addr
 Tx:FuncData
 Tz:Addr
 TB:FuncData
 Kk:Addr
 TC:FuncData
 Kl:Addr
 TF:FuncData
 TH:Addr
 TJ:FuncData
 Km:Addr
 TK:FuncData
 Dz:Addr
 TL:FuncData
 TM:Addr
 TN:FuncData
 TQ:Addr
 TR:FuncData
 TU:Addr
 TV:FuncData
 TX:Addr
 TY:FuncData
 Kn:Addr
 TZ:FuncData
 Ko:Addr
 T1:FuncData
 T3:Addr
 T4:FuncData
 T5:Addr
 T6:FuncData
 Kp:Addr
 T7:FuncData
 zX:Addr
 T8:FuncData
 Kq:Addr
 Kr:FuncData
 T9:Addr
 Ua:FuncData
 Ub:Addr
 Uc:FuncData
 Ks:Addr
 Ud:FuncData
 Kt:Addr
 Ue:FuncData
 Ug:Addr
 Uh:FuncData
 zY:Addr
 Ui:FuncData
 Uj:Addr
 Uk:FuncData
 Ul:Addr
 Um:FuncData
 Ku:Addr
 DA:FuncData
 Uo:Addr
 Up:FuncData
 Uq:Addr
 Ur:FuncData
 Us:Addr
 Ut:FuncData
 Kv:Addr
 Uu:FuncData
 Uv:Addr
 Uw:FuncData
 Kw:Addr
 Kx:FuncData
 Ux:Addr
 Uy:FuncData
 Uz:Addr
 UA:FuncData
 UB:Addr
 UC:FuncData
 UD:Addr
 UE:FuncData
 UG:Addr
 UH:FuncData
 Ky:Addr
 Kz:FuncData
 UI:Addr
 UJ:FuncData
 UK:Addr
 UL:FuncData
 UM:Addr
 UN:FuncData
 UO:Addr
 UP:FuncData
 UQ:Addr
 UR:FuncData
 US:Addr
 UT:FuncData
 KA:Addr
 UU:FuncData
 UW:Addr
 dB0:FuncData
 UX:Addr
 dB1:FuncData
 UY:Addr
 UZ:FuncData
 KC:Addr
 U0:FuncData
 U1:Addr
 U2:FuncData
 U3:Addr
 U4:FuncData
 U5:Addr
 U6:FuncData
 U7:Addr
 U8:FuncData
 U9:Addr
 Va:FuncData
 Vb:Addr
 at2:FuncData
 KD:Addr
 Vc:FuncData
 KG:Addr
 Vd:FuncData
 zZ:Addr
 Ve:FuncData
 Vf:Addr
 Vg:FuncData
 z5:Addr
 Vh:FuncData
 Vi:Addr
 Vj:FuncData
 Vk:Addr
 ig:Addr
 Vl:Addr
 ij:Addr
 aJ:Addr
 eZ:Addr
 bo:Addr
 j9:Addr
 kL:Addr
 ka:Addr
 dB:Addr
 aM:Addr
 bR:Addr
 bx:Addr
 dw:Addr
structure Txt(K:Frag)(mg:Str->Option Value)(t:dY):Prop where
 Vm:Fk K mg "_law_told" IQ ["_law_cell_here"] t.S6 t.S7
 z7:Fk K mg "_law_many" IT ["_law_told_here"] t.S8 t.S9
 tw:Fk K mg "refuse_large" IU ["code"] t.Ta t.Tc
 tD:Fk K mg "width_of" IV ["table"] t.Td t.Te
 Vn:Fk K mg "first_with" IW ["rows","place"] t.Tf t.Tg
 Vo:Fm K "scaled" "BitField.scaled" IY ["self","a","row"] t.Kg t.Th
 Vp:Fm K "scaled" "PrimeField.scaled" IZ ["self","a","row"] t.Kh t.Ti
 Vq:Fm K "lessened" "BitField.lessened" I0 ["self","row","a","other"] t.Ki t.Tj
 Vr:Fm K "lessened" "PrimeField.lessened" Ja ["self","row","a","other"] t.Kj t.Tn
 KH:Fk K mg "cleared" Jb ["field","rows","lead_row","place"] t.To t.Tp
 xg:Fm K "step_power" "Field.step_power" Jc ["self","n"] t.zW t.Tq
 KI:Fm K "over" "Field.over" Jd ["self","a","b"] t.Dy t.Tr
 z9:Fk K mg "reduced" Je ["field","table"] t.Ts t.Tt
 xh:Fk K mg "copied" Jf ["table"] t.Tu t.Tv
 KJ:Fk K mg "leads" Jg ["rows"] t.Tw t.Tx
 Aa:Fk K mg "free_places" Jh ["rows","width"] t.Tz t.TB
 Vs:Fm K "minus" "BitField.minus" Ji ["self","a","b"] t.Kk t.TC
 Vt:Fm K "minus" "PrimeField.minus" Jj ["self","a","b"] t.Kl t.TF
 DB:Fk K mg "kernel_of_reduced" Jk ["field","rows","width"] t.TH t.TJ
 DC:Fm K "__init__" "Code.__init__" Jl ["self","field","checks"] t.Km t.TK
 KL:Fm K "holds" "Field.holds" Jm ["self","x"] t.Dz t.TL
 DD:Fk K mg "is_small_table" Jn ["field","table"] t.TM t.TN
 DE:Fk K mg "rank" Jo ["field","table"] t.TQ t.TR
 KN:Fk K mg "turned" Jp ["table"] t.TU t.TV
 Vu:Fk K mg "is_nought" Jq ["column"] t.TX t.TY
 Vv:Fm K "times" "BitField.times" Jr ["self","a","b"] t.Kn t.TZ
 Vw:Fm K "times" "PrimeField.times" Js ["self","a","b"] t.Ko t.T1
 Vx:Fk K mg "past" Jt ["field","column","others"] t.T3 t.T4
 DF:Fk K mg "first_bound" Ju ["field","table"] t.T5 t.T6
 Ab:Fm K "__init__" "CheckCode.__init__" Jv ["self","field","table"] t.Kp t.T7
 KO:Fm K "rows" "Code.rows" Jw ["self"] t.zX t.T8
 l7:Fk K mg "crossed_code" Jx ["code"] t.Kq t.Kr
 Vy:Fk K mg "refuse_length" Jy ["signs","length"] t.T9 t.Ua
 Vz:Fk K mg "refuse_no_sign" Jz ["field","signs"] t.Ub t.Uc
 VA:Fm K "dot" "BitField.dot" JA ["self","xs","ys"] t.Ks t.Ud
 VB:Fm K "dot" "PrimeField.dot" JB ["self","xs","ys"] t.Kt t.Ue
 VC:Fk K mg "row_by" JC ["field","row","table"] t.Ug t.Uh
 KP:Fm K "written" "Code.written" JE ["self","message"] t.zY t.Ui
 gH:Fk K mg "_law_cell" JF ["_law_script","_law_k"] t.Uj t.Uk
 DG:Fk K mg "makes_root_code" JG ["many","length","extra","first"] t.Ul t.Um
 dB2:Dn K "__init__" "RootCode.__init__" kK t.Ku t.DA
 dB3:Binds K t.DA ["self","field","length","extra","first"] []
 dB4:∃tk,Binds K t.DA ["self","field","length","extra","first"] [.int 1 tk]
 KQ:Fk K mg "powers_of" JH ["a","product"] t.Uo t.Up
 DH:Fk K mg "step_powers" JI ["many","product"] t.Uq t.Ur
 DI:Fk K mg "logs_of" JJ ["powers"] t.Us t.Ut
 KR:Fm K "__init__" "Field.__init__" JL ["self","many","product"] t.Kv t.Uu
 DJ:Fk K mg "makes_prime_field" JM ["prime"] t.Uv t.Uw
 VD:Fm K "__init__" "PrimeField.__init__" oB ["self","prime"] t.Kw t.Kx
 DK:Fk K mg "product_rows" JN ["powers","logs"] t.Ux t.Uy
 tE:Fk K mg "bits_divided" JO ["a","b"] t.Uz t.UA
 VE:Fk K mg "stands_alone" JP ["a"] t.UB t.UC
 DL:Fk K mg "makes_bit_field" JR ["bits"] t.UD t.UE
 DM:Fk K mg "bits_times" JS ["a","b"] t.UG t.UH
 VF:Fm K "__init__" "BitField.__init__" oE ["self","bits"] t.Ky t.Kz
 kb:Fk K mg "_law_field" JT ["_law_told_here"] t.UI t.UJ
 DN:Fk K mg "_law_mixed" JU ["_law_cell_here","_law_k"] t.UK t.UL
 VG:Fk K mg "_law_free_table" JV ["_law_many_here","_law_length","_law_extra","_law_cell_here","_law_sparse"] t.UM t.UN
 DO:Fk K mg "_law_times" JW ["_law_told_here","_law_a","_law_b"] t.UO t.UP
 VH:Fk K mg "_law_powers" JX ["_law_told_here"] t.UQ t.UR
 KS:Fk K mg "_law_root_table" JZ ["_law_told_here","_law_length","_law_extra","_law_first"] t.US t.UT
 VI:Fm K "distance" "CheckCode.distance" J0 ["self"] t.KA t.UU
 es2:Fm K "distance" "RepeatCode.distance" S3 ["self"] t.UW t.dB0
 es3:Fm K "distance" "RootCode.distance" S4 ["self"] t.UX t.dB1
 DP:Fk K mg "repeat_checks" J1 ["field","length"] t.UY t.UZ
 KU:Fm K "__init__" "RepeatCode.__init__" J2 ["self","field","length"] t.KC t.U0
 VJ:Fk K mg "_law_repeat_table" J3 ["_law_told_here","_law_length"] t.U1 t.U2
 DQ:Fk K mg "_law_code" J4 ["_law_script","_law_told_here"] t.U3 t.U4
 KW:Fk K mg "_law_message" J5 ["_law_script","_law_at","_law_size","_law_many_here"] t.U5 t.U6
 VL:Fk K mg "_law_plus" J6 ["_law_told_here","_law_a","_law_b"] t.U7 t.U8
 VM:Fk K mg "_law_dot" J7 ["_law_told_here","_law_xs","_law_ys"] t.U9 t.Va
 ke:Fk K mg "_law_refusal" J8 ["_law_code_here"] t.Vb t.at2
 VN:Fm K "told" "BitField.told" J9 ["self"] t.KD t.Vc
 VO:Fm K "told" "PrimeField.told" Ka ["self"] t.KG t.Vd
 VP:Fm K "checks" "Code.checks" Kb ["self"] t.zZ t.Ve
 VQ:Fk K mg "by_column" Ke ["field","table","column"] t.Vf t.Vg
 VR:Fm K "is_word" "Code.is_word" Kf ["self","word"] t.z5 t.Vh
 dB5:Fk K mg "law" oF ["_law_script"] t.Vi t.Vj
 aC5:t.Kx.code=.ref t.Vk
 aC6:codeHdIn K t.Vk t.ig=true
 aH9:t.Kz.code=.ref t.Vl
 aI0:codeHdIn K t.Vl t.ij=true
 e7:cC K t.aJ
 KY:Mk K t.aJ t.Ky
 aU7:wB K t.aJ
 aS4:kitOne K (.ref t.aJ) (.ref t.bo)=some false
 DR:bg K t.aJ "bits"
 xi:bg K t.aJ "logs"
 tF:bg K t.aJ "many"
 xj:bg K t.aJ "powers"
 tG:bg K t.aJ "products"
 KZ:bg K t.aJ "step"
 K0:bg K t.aJ "wide"
 aJ9:Meth K t.aJ "dot" t.Ks
 K1:Meth K t.aJ "holds" t.Dz
 ax3:Meth K t.aJ "lessened" t.Ki
 aF5:Meth K t.aJ "minus" t.Kk
 K2:Meth K t.aJ "over" t.Dy
 aC7:Meth K t.aJ "scaled" t.Kg
 Ac:Meth K t.aJ "step_power" t.zW
 aF6:Meth K t.aJ "times" t.Kn
 aI1:Meth K t.aJ "told" t.KD
 m3:cC K t.bo
 xk:Mk K t.bo t.Kp
 dC6:wB K t.bo
 dC7:kitOne K (.ref t.bo) (.ref t.bo)=some true
 DS:bg K t.bo "bound"
 DT:bg K t.bo "check_rows"
 DU:bg K t.bo "field"
 DV:bg K t.bo "length"
 K3:bg K t.bo "message_places"
 DW:bg K t.bo "size"
 DX:bg K t.bo "word_rows"
 K4:Meth K t.bo "checks" t.zZ
 dC8:Meth K t.bo "distance" t.KA
 K5:Meth K t.bo "is_word" t.z5
 DY:Meth K t.bo "rows" t.zX
 DZ:Meth K t.bo "written" t.zY
 fC:cC K t.aM
 K6:Mk K t.aM t.Kw
 aU5:wB K t.aM
 aR3:kitOne K (.ref t.aM) (.ref t.bo)=some false
 Ad:bg K t.aM "logs"
 tH:bg K t.aM "many"
 Ae:bg K t.aM "powers"
 oG:bg K t.aM "prime"
 K7:bg K t.aM "step"
 K8:bg K t.aM "wide"
 aF7:Meth K t.aM "dot" t.Kt
 K9:Meth K t.aM "holds" t.Dz
 av0:Meth K t.aM "lessened" t.Kj
 aA6:Meth K t.aM "minus" t.Kl
 La:Meth K t.aM "over" t.Dy
 ax4:Meth K t.aM "scaled" t.Kh
 Af:Meth K t.aM "step_power" t.zW
 aA7:Meth K t.aM "times" t.Ko
 aC8:Meth K t.aM "told" t.KG
 D0:cC K t.bR
 D1:Mk K t.bR t.KC
 es8:wB K t.bR
 es9:kitOne K (.ref t.bR) (.ref t.bo)=some false
 D2:bg K t.bR "check_rows"
 D3:bg K t.bR "field"
 D4:bg K t.bR "length"
 Lb:bg K t.bR "message_places"
 D6:bg K t.bR "size"
 D7:bg K t.bR "word_rows"
 VS:Meth K t.bR "checks" t.zZ
 et0:Meth K t.bR "distance" t.UW
 VT:Meth K t.bR "is_word" t.z5
 D8:Meth K t.bR "rows" t.zX
 Lc:Meth K t.bR "written" t.zY
 xm:cC K t.bx
 D9:Mk K t.bx t.Ku
 et1:wB K t.bx
 et2:kitOne K (.ref t.bx) (.ref t.bo)=some false
 Ea:bg K t.bx "check_rows"
 Ld:bg K t.bx "extra"
 Eb:bg K t.bx "field"
 Le:bg K t.bx "first"
 Ec:bg K t.bx "length"
 Lf:bg K t.bx "message_places"
 Ee:bg K t.bx "size"
 Ef:bg K t.bx "word_rows"
 VU:Meth K t.bx "checks" t.zZ
 et3:Meth K t.bx "distance" t.UX
 VV:Meth K t.bx "is_word" t.z5
 Eg:Meth K t.bx "rows" t.zX
 Lg:Meth K t.bx "written" t.zY
 Lh:wo K t.j9 "__init__" t.Km
 VW:wo K t.kL "__init__" t.Kv
 dD5:mg "ValueError"=none
 xn:mg "all"=none
 dD6:mg "any"=none
 dD7:mg "bool"=none
 tI:mg "enumerate"=none
 dD8:mg "int"=none
 qA:mg "isinstance"=none
 g5:mg "len"=none
 Li:mg "list"=none
 Eh:mg "min"=none
 gI:mg "range"=none
 VX:mg "str"=none
 dD9:mg "sum"=none
 xo:mg "zip"=none
 Lj:mg "BitField"=some (.ref t.aJ)
 Lk:mg "ByNought"=some (.ref t.eZ)
 tJ:mg "CheckCode"=some (.ref t.bo)
 Ag:mg "Code"=some (.ref t.j9)
 Ei:mg "Field"=some (.ref t.kL)
 Ll:mg "MendError"=some (.ref t.ka)
 Ah:mg "NoCode"=some (.ref t.dB)
 Lm:mg "PrimeField"=some (.ref t.aM)
 Ej:mg "RepeatCode"=some (.ref t.bR)
 Ek:mg "RootCode"=some (.ref t.bx)
 Ai:mg "TooLarge"=some (.ref t.dw)
 VY:zc K mg "ByNought" t.eZ
 aU8:rD K t.eZ
 aU2:kitOne K (.ref t.eZ) (.ref t.dB)=some false
 aT2:kitOne K (.ref t.eZ) (.ref t.dw)=some false
 aS7:exmOne K (.ref t.eZ) (.ref t.ka)=some true
 aS5:kitOne K (.ref t.eZ) (.type "ValueError")=some true
 dE0:zc K mg "NoCode" t.dB
 Aj:rD K t.dB
 VZ:kitOne K (.ref t.dB) (.ref t.dB)=some true
 V0:kitOne K (.ref t.dB) (.ref t.dw)=some false
 aC9:exmOne K (.ref t.dB) (.ref t.ka)=some true
 dE2:kitOne K (.ref t.dB) (.type "ValueError")=some true
 dE3:zc K mg "TooLarge" t.dw
 Ln:rD K t.dw
 dE4:kitOne K (.ref t.dw) (.ref t.dB)=some false
 dE5:kitOne K (.ref t.dw) (.ref t.dw)=some true
 ax7:exmOne K (.ref t.dw) (.ref t.ka)=some true
 dE7:kitOne K (.ref t.dw) (.type "ValueError")=some true
 et9:kitOne K (.type "NoneType") (.ref t.dB)=some false
 eu0:kitOne K (.type "NoneType") (.ref t.dw)=some false
section
variable{P:Program}{w:World}{K:Frag}{mg:Str->Option Value}{base:Heap}{t:dY}
theorem cJ4(T:Txt K mg t)(m:Bool × Nat){Q:D->Prop}(q:Q (.int (ae m))):∃C ns xs v,fD t.aJ t.aM m=.obj C ns xs/\cC K C/\bg K C "many"/\(ns.zip xs).lookup ("many":Str)=some v/\Q v:=by
 obtain⟨k,n⟩:=m
 cases k with
 | true=>exact⟨_,_,_,_,rfl,T.e7,T.tF,rfl,q⟩
 | false=>exact⟨_,_,_,_,rfl,T.fC,T.tH,rfl,q⟩
abbrev fM(t:dY)(m:Bool × Nat)(G:List (List Nat))(k:Kd):D:=uO t.aJ t.aM t.bo t.bR t.bx m G k
theorem Ak(T:Txt K mg t)(m:Bool × Nat)(G:List (List Nat))(k:Kd){a:Str}{v:D}(n1:bg K t.bo a)(n2:bg K t.bR a)(n3:bg K t.bx a)(ha:a∈oA)(h:(oA.zip (mZ t.aJ t.aM false m G)).lookup a=some v){Q:D->Prop}(q:Q v):∃C ns xs v,fM t m G k=.obj C ns xs/\cC K C/\bg K C a/\(ns.zip xs).lookup a=some v/\Q v:=by
 have ha:a="field"\/a="length"\/a="check_rows"\/a="word_rows"\/a="message_places"\/a="size":=by simpa only[cH,iY,or_false]using ha
 rcases ha with rfl | rfl | rfl | rfl | rfl | rfl<;>cases k
 all_goals first | exact⟨_,_,_,v,rfl,T.m3,n1,h,q⟩ | exact⟨_,_,_,v,rfl,T.D0,n2,h,q⟩ | exact⟨_,_,_,v,rfl,T.xm,n3,h,q⟩
theorem tK(T:Txt K mg t)(m:Bool × Nat)(G:List (List Nat))(k:Kd){Q:D->Prop}(q:Q (fD t.aJ t.aM m)):∃C ns xs v,fM t m G k=.obj C ns xs/\cC K C/\bg K C "field"/\(ns.zip xs).lookup ("field":Str)=some v/\Q v:=Ak T m G k T.DU T.D3 T.Eb (by decide) rfl q
theorem oH(T:Txt K mg t)(m:Bool × Nat)(G:List (List Nat))(k:Kd){Q:D->Prop}(q:Q (.int (aj G:Nat))):∃C ns xs v,fM t m G k=.obj C ns xs/\cC K C/\bg K C "length"/\(ns.zip xs).lookup ("length":Str)=some v/\Q v:=Ak T m G k T.DV T.D4 T.Ec (by decide) rfl q
theorem V1(T:Txt K mg t)(m:Bool × Nat)(G:List (List Nat))(k:Kd){Q:D->Prop}(q:Q (.lst false (az false G))):∃C ns xs v,fM t m G k=.obj C ns xs/\cC K C/\bg K C "check_rows"/\(ns.zip xs).lookup ("check_rows":Str)=some v/\Q v:=Ak T m G k T.DT T.D2 T.Ea (by decide) rfl q
theorem V2(T:Txt K mg t)(m:Bool × Nat)(G:List (List Nat))(k:Kd){Q:D->Prop}(q:Q (.lst false (az false (bI m G)))):∃C ns xs v,fM t m G k=.obj C ns xs/\cC K C/\bg K C "word_rows"/\(ns.zip xs).lookup ("word_rows":Str)=some v/\Q v:=Ak T m G k T.DX T.D7 T.Ef (by decide) rfl q
theorem qB(T:Txt K mg t)(m:Bool × Nat)(G:List (List Nat))(k:Kd){Q:D->Prop}(q:Q (.int ((cL m G).length:Nat))):∃C ns xs v,fM t m G k=.obj C ns xs/\cC K C/\bg K C "size"/\(ns.zip xs).lookup ("size":Str)=some v/\Q v:=Ak T m G k T.DW T.D6 T.Ee (by decide) rfl q
theorem V3(T:Txt K mg t){m:Bool × Nat}{G:List (List Nat)}{k:Kd}{me:Str}{n:Nat}{f:Addr}{fd:FuncData}{ps:List Str}{sp:bc}(h1:Meth K t.bo me f)(h2:Meth K t.bR me f)(h3:Meth K t.bx me f)(F:aI P w K mg base aO n f fd ps (bf sp))(b:Binds K fd ps [])(nm:me ∉ (["extra","first","field","length","check_rows","word_rows","message_places","size","bound"]:List Str)){ds:List D}{Q:D->Prop}(q:sp (fM t m G k::ds) Q):∃C ns zs sp,fM t m G k=.obj C ns zs/\i9 P w K mg base n me C sp/\me ∉ ns/\sp (.obj C ns zs::ds) Q:=by
 simp only[cH,iY,or_false,not_or]at nm
 cases k
 ·exact⟨_,_,_,sp,rfl,⟨T.m3,_,_,_,h1,F,b⟩,by simp[nm],q⟩
 ·exact⟨_,_,_,sp,rfl,⟨T.D0,_,_,_,h2,F,b⟩,by simp[nm],q⟩
 ·exact⟨_,_,_,sp,rfl,⟨T.xm,_,_,_,h3,F,b⟩,by simp[nm],q⟩
theorem ci7(T:Txt K mg t)(m:Bool × Nat)(G:List (List Nat))(k:Kd){me:Str}{n:Nat}{f:Addr}{fd:FuncData}{ps:List Str}{sp:bc}(h1:Meth K t.bo me f)(h2:Meth K t.bR me f)(h3:Meth K t.bx me f)(F:aI P w K mg base aO n f fd ps (bf sp))(b:Binds K fd ps [])(nm:me ∉ (["extra","first","field","length","check_rows","word_rows","message_places","size","bound"]:List Str)):∃C ns zs pk,fM t m G k=.obj C ns zs/\i9 P w K mg base n me C pk/\me ∉ ns/\∀ds Q,sp (fM t m G k::ds) Q->pk (.obj C ns zs::ds) Q:=by
 simp only[cH,iY,or_false,not_or]at nm
 cases k
 ·exact⟨_,_,_,sp,rfl,⟨T.m3,_,_,_,h1,F,b⟩,by simp[nm],λ_ _ q=>q⟩
 ·exact⟨_,_,_,sp,rfl,⟨T.D0,_,_,_,h2,F,b⟩,by simp[nm],λ_ _ q=>q⟩
 ·exact⟨_,_,_,sp,rfl,⟨T.xm,_,_,_,h3,F,b⟩,by simp[nm],λ_ _ q=>q⟩
abbrev aP0:bc:=λds Q=>∃c:Int,ds=[.int c]/\Q (cU (qh c))
theorem aP1(T:Txt K mg t):aI P w K mg base aO 1 t.S6 t.S7 ["_law_cell_here"] (bf (aP0 )):=by
 refine bA T.Vm.F IS (λds Q h=>by obtain⟨c,rfl,q⟩:=h<;>rfl) λaC A outer s H E hr=>⟨_,(aA (aZ (i:=1) IS.nd rfl (ax rfl) (Qa (ns:=[7,11,13,19,25,31,37,41,47,55,59,61,67,73,87,91,97,103,109,115,117]) (by decide +kernel)))
   (aA (aZ (i:=2) IS.nd rfl (ax rfl) (Qa (ns:=[2,3,5,7,11,13,17,19,23,29,31,37,41,43,47,53,59,61]) (by decide +kernel)))
   (aA (cA (bN (dO (bY hr)) (aa (aw cK (bv 0) (aa ai))) (aa ai) (bt _)) (aB (aQ (nL (cJ kC (cJ (dJ (bJ (bv 1) (aa (aw cK (aa (aw rV (bv 0) (aa ai))) (aa ai))) (λ_ _=>rfl))) cZ))))) cy)
   (aB (aQ (nL (cJ kC (cJ (dJ (bJ (bv 2) (aa (aw cK (aa (aw rV (bv 0) (aa ai))) (aa ai))) (λ_ _=>rfl))) cZ)))))))),λds Q h=>?_⟩
 obtain⟨c,rfl,q⟩:=h
 refine ay λU hU=>?_
 nofun
 refine⟨by decide,hU _ ?_⟩
 clear hU U
 refine ay λU hU=>?_
 nofun
 refine⟨by decide,hU _ ?_⟩
 clear hU U
 refine ay λU hU=>?_
 nofun
 refine⟨by decide,?_⟩
 have n1:=gL (c/2) (show(21:Int)≠0 by decide)
 have n2:=g9 (c/2) (show(0:Int)<21 by decide)
 have n3:=gL (c/2) (show(18:Int)≠0 by decide)
 have n4:=g9 (c/2) (show(0:Int)<18 by decide)
 split
 ·rename_i hc
  refine⟨rT (by decide) (by decide),by decide,_,mP n1 (by simpa using n2),rfl,by decide,?_⟩
  have e:cU (qh c)=.tup [.bl true,.int (([7,11,13,19,25,31,37,41,47,55,59,61,67,73,87,91,97,103,109,115,117]:List Int).getD (c/2%21).toNat 0)]:=by
   unfold qh cU
   rw[if_pos hc]
   have:∀k:Nat,((gW.getD k 0:Nat):Int)=([7,11,13,19,25,31,37,41,47,55,59,61,67,73,87,91,97,103,109,115,117]:List Int).getD k 0:=λk=>by
    show _=(gW.map (λ(n:Nat)=>(n:Int))).getD k ((0:Nat):Int)
    rw[aS,aS,cM]
    cases gW[k]?<;>rfl
   rw[<-this]
  rw[<-e];exact q
 ·rename_i hc
  refine hU _ ?_
  nofun
  refine⟨rT (by decide) (by decide),by decide,_,mP n3 (by simpa using n4),rfl,by decide,?_⟩
  have e:cU (qh c)=.tup [.bl false,.int (([2,3,5,7,11,13,17,19,23,29,31,37,41,43,47,53,59,61]:List Int).getD (c/2%18).toNat 0)]:=by
   unfold qh cU
   rw[if_neg hc]
   have:∀k:Nat,((oh.getD k 0:Nat):Int)=([2,3,5,7,11,13,17,19,23,29,31,37,41,43,47,53,59,61]:List Int).getD k 0:=λk=>by
    show _=(oh.map (λ(n:Nat)=>(n:Int))).getD k ((0:Nat):Int)
    rw[aS,aS,cM]
    cases oh[k]?<;>rfl
   rw[<-this]
  rw[<-e];exact q
abbrev aP2:bc:=λds Q=>∃m:Bool × Nat,ds=[cU m]/\bl m.2<=1000/\1<=bl m.2/\Q (.int (ae m:Nat))
theorem El(T:Txt K mg t):aI P w K mg base aO 1 t.S8 t.S9 ["_law_told_here"] (bf (aP2 )):=by
 refine bA T.z7.F aO4 (λds Q h=>by obtain⟨m,rfl,h1,h2,q⟩:=h<;>rfl) λaC A outer s H E hr=>⟨_,(aA (cA (ia (bJ (bv 0) (aa ai) (λ_ _=>rfl))) (aB (aQ (aw vq (aa ai) (aa (aw dN (aa (nV (bJ (bv 0) (aa ai) (λ_ _=>rfl)))) (aa ai)))))) cy)
   (aB (aQ (dJ (bJ (bv 0) (aa ai) (λ_ _=>rfl)))))),λds Q h=>?_⟩
 obtain⟨m,rfl,h1,h2,q⟩:=h
 unfold cU at *
 refine ay λU hU=>?_
 nofun
 obtain⟨b,n⟩:=m
 cases b with
 | true =>
  refine⟨_,rfl,true,rfl,?_⟩
  rw[if_pos rfl]
  refine⟨_,rfl,?_⟩
  have o1:bl (1:Int).natAbs=1:=by decide
  have e:(1:Int)*2 ^ (((bl ((n:Int)).natAbs:Nat):Int)-1).toNat=((ae (true,n):Nat):Int):=by
   have jV:1<=bl n:=h2
   rw[iq,show(((bl n:Nat):Int)-1)=((bl n-1:Nat):Int) by omega,show(1:Int)=((1:Nat):Int) from rfl,uK,Fx];rfl
  refine⟨?_,by rw[e];exact q⟩
  rw[iq]
  have kz:bl n<=1000:=h1
  have jV:1<=bl n:=h2
  exact⟨by omega,by omega⟩
 | false =>
  refine⟨_,rfl,false,rfl,?_⟩
  rw[if_neg (by decide)]
  refine hU _ ?_
  nofun
  exact⟨_,rfl,rfl,q⟩
abbrev aK1(t:dY):lH:=λds Q Ex=>∃(m:Bool × Nat) (G:List (List Nat)) (k:Kd),ds=[fM t m G k]/\(aj G<=12->Q .au)/\(12<aj G->Ex t.dw)
theorem V4(T:Txt K mg t):aI P w K mg base (jU P w) 1 t.Ta t.Tc ["code"] (mQ (aK1 t )):=by
 refine Co T.tw.F aJ3 (λds Q Ex h=>by obtain⟨m,G,k,rfl,q,qx⟩:=h<;>rfl) λaC A outer s H E hr=>⟨_,(aB (cA (bN yA (bZ (K:=K) (bv 0)) (aa ai) (bt _)) (aB (Cr T.dE3 rfl (by rfl) (ag (aa jt) aq))) cy)),λds Q Ex h=>?_⟩
 obtain⟨m,G,k,rfl,q,qx⟩:=h
 nofun
 refine oH T m G k ?_
 dsimp only
 split
 ·exact⟨by decide,qx (by omega)⟩
 ·exact q (by omega)
abbrev aR5:bc:=λds Q=>∃T:List (List Nat),ds=[.lst false (az false T)]/\T.length<=1000/\(∀r∈T,r.length<=1000)/\Q (.int (aj T:Nat))
theorem Em(T:Txt K mg t):aI P w K mg base aO 1 t.Td t.Te ["table"] (bf (aR5 )):=by
 refine bA T.tD.F aR4 (λds Q h=>by obtain⟨G,rfl,hG,hr,q⟩:=h<;>rfl) λaC A outer s H E hr=>⟨_,(aB (aQ (cS1 (bN (iO (bY hr)) (bv 0) (aa (eN cZ)) (bt _)) (eB (ib) (by rfl) T.g5 gP (ag (bJ (bv 0) (aa ai) (λ_ _=>rfl)) aq)) ai))),λds Q h=>?_⟩
 obtain⟨G,rfl,hG,hr,q⟩:=h
 nofun
 refine⟨by decide,⟨C2 4 _ _ _,rfl⟩,?_⟩
 rw[show(D.lst true ([]:List D))=D.lst true (az true []) from rfl,RH]
 cases G with
 | nil=>rw[if_neg (by simp)];exact q
 | cons r G =>
  rw[if_pos (by simp)]
  refine⟨.lst false (av r),zL false (T:=r::G) (i:=0) (NL _),?_⟩
  show Q (D.int ((av r).length:Nat))
  rw[fw];exact q
abbrev aN0:bc:=λds Q=>∃(T:List (List Nat)) (j:Nat),ds=[.lst false (az false T),.int j]/\T.length<=1000/\(∀r∈T,j<r.length)/\Q (match j5 T j with | some i=>.int (i:Nat) | none=>.au)
theorem aN1(T:Txt K mg t):aI P w K mg base aO 1 t.Tf t.Tg ["rows","place"] (bf (aN0 )):=by
 refine bA T.Vn.F SO (λds Q h=>by obtain⟨G,j,rfl,hG,hr,q⟩:=h<;>rfl) λaC A outer s H E hr=>⟨_,(aA (gU fJ rfl (sE rfl T.tI (ag (bv 0) aq)) (nZ (i1:=2) (i2:=3) rfl SO.nd rfl (ax rfl) rfl (ax rfl))
    (aB (cA (bN (iO (bY hr)) (bJ (bv 3) (bv 1) (λ_ _=>rfl)) (aa ai) (bt _)) (aB (aQ (em 2))) cy)))
   (aB (aQ B9))),λds Q h=>?_⟩
 obtain⟨G,j,rfl,hG,hr,q⟩:=h
 refine ay λU hU=>?_
 nofun
 refine gS.mk (λi δ=>∃o1 o2,δ=[some (D.lst false (az false G)),some (D.int j),o1,o2]/\∀k,k<i->(G.getD k []).getD j 0=0) ⟨_,_,rfl,λk hk=>absurd hk (Nat.not_lt_zero k)⟩ ?_ ?_
 ·rintro i d δ hd ⟨o1,o2,rfl,hz⟩
  obtain⟨hi,rfl⟩:=RI hd
  have hj:=hr _ (eG hi)
  have eg:G.getD i []=G[i]:=by rw[aS,aR hi];rfl
  nofun
  refine⟨.int (G[i].getD j 0:Nat),by rw[sU (by omega) (by omega),iX],rfl,?_⟩
  rw[ie]
  by_cases h0:G[i].getD j 0=0
  ·rw[if_neg (by rw[h0];decide)]
   refine⟨_,_,⟨rfl,rfl⟩,λk hk=>?_⟩
   by_cases e:k=i
   ·rw[e,eg];exact h0
   ·exact hz k (by omega)
  ·rw[if_pos (by rw[decide_eq_false (by omega)];rfl)]
   have ef:j5 G j=some i:=by
    unfold j5
    rw[YQ]
    refine⟨hi,by simpa using h0,λk hk=>?_⟩
    have:=hz k hk
    rw[aS (l:=G),aR (by omega)]at this
    simpa using this
   rw[ef]at q
   exact q
 ·rintro δ ⟨o1,o2,rfl,hz⟩
  refine hU _ ?_
  nofun
  have ef:j5 G j=none:=by
   unfold j5
   rw[YR]
   intro r bj
   obtain⟨i,hi,rfl⟩:=kq bj
   have:=hz i (by rw[sD,lL];exact hi)
   rw[aS (l:=G),aR hi]at this
   simpa using this
  rw[ef]at q
  exact q
abbrev V5(K:Frag):bc:=λds Q=>∃(C:Addr) (p a:Nat) (xs:List Nat),ds=[sS C p,.int a,.lst false (av xs)]/\cC K C/\bg K C "products"/\p∈gW/\a<ae (true,p)/\(∀y∈xs,y<ae (true,p))/\xs.length<=1000/\Q (.lst true (av (xs.map (gm (true,p) a))))
theorem aD0(T:Txt K mg t):aI P w K mg base aO 1 t.Kg t.Th ["self","a","row"] (bf (V5 K)):=by
 refine bA T.Vo.F SQ (λds Q h=>by obtain⟨C,p,a,xs,rfl,hC,hn,hp,ha,hy,hl,q⟩:=h<;>rfl) λaC A outer s H E hr=>⟨_,(aA (aZ (i:=3) SQ.nd rfl (b9 rfl) (dJ (bJ (bZ (K:=K) (bv 0)) (bv 1) (λ_ _=>rfl))))
   (aB (aQ (eC [("by_a",3)] ["x"] rfl (iM (bv 2)) (λ_ _ _ _=>(ft (i:=1) (show(["by_a","x"]:List Str).Nodup by decide +kernel))) (λ_ _ _ _=>dM) (λ_ _ _ _=>(dJ (bJ (bv 0) (bv 1) (λ_ _=>rfl)))) rfl)))),λds Q h=>?_⟩
 obtain⟨C,p,a,xs,rfl,hC,hn,hp,ha,hy,hl,q⟩:=h
 refine ay λU hU=>?_
 nofun
 refine⟨C,_,_,_,rfl,hC,hn,rfl,_,CV hp ha,?_⟩
 refine⟨by rw[fV,nX];rfl,hU _ ?_⟩
 clear hU U
 nofun
 refine eV xs (λ(i:Nat)=>D.int (i:Int)) (λx=>D.int ((gm (true,p) a x:Nat):Int)) (we xs) jB (λx hx=>?_) (.inr λ_ _=>rfl) (by rw[sL];omega) ?_
 ·nofun
  exact⟨_,CU hp ha (hy x hx),rfl,rfl⟩
 ·rw[cT,cu]at q
  exact q
abbrev V6(K:Frag):bc:=λds Q=>∃(C:Addr) (p a:Nat) (xs:List Nat),ds=[sR C p,.int a,.lst false (av xs)]/\cC K C/\bg K C "prime"/\0<p/\a<64/\(∀y∈xs,y<64)/\xs.length<=1000/\Q (.lst true (av (xs.map (gm (false,p) a))))
theorem ax8(T:Txt K mg t):aI P w K mg base aO 1 t.Kh t.Ti ["self","a","row"] (bf (V6 K)):=by
 refine bA T.Vp.F SR (λds Q h=>by obtain⟨C,p,a,xs,rfl,hC,hn,hp,ha,hy,hl,q⟩:=h<;>rfl) λaC A outer s H E hr=>⟨_,(aA (aZ (i:=3) SR.nd rfl (b9 rfl) (dJ (bZ (K:=K) (bv 0))))
   (aB (aQ (eC [("prime",3),("a",1)] ["x"] rfl (iM (bv 2)) (λ_ _ _ _=>(ft (i:=2) (show(["prime","a","x"]:List Str).Nodup by decide +kernel))) (λ_ _ _ _=>dM) (λ_ _ _ _=>(aw cK (aa (aw fY (bv 1) (bv 2))) (bv 0))) rfl)))),λds Q h=>?_⟩
 obtain⟨C,p,a,xs,rfl,hC,hn,hp,ha,hy,hl,q⟩:=h
 refine ay λU hU=>?_
 nofun
 refine⟨C,_,_,.int p,rfl,hC,hn,rfl,rfl,hU _ ?_⟩
 clear hU U
 nofun
 refine eV xs (λ(i:Nat)=>D.int (i:Int)) (λx=>D.int ((gm (false,p) a x:Nat):Int)) (we xs) jB (λx hx=>?_) (.inr λ_ _=>rfl) (by rw[sL];omega) ?_
 ·have h2:=hy x hx
  nofun
  refine⟨iw.ok (.inr ⟨by omega,by omega⟩),by omega,?_⟩
  show _=((a*x%p:Nat):Int)
  rw[oU,uo]
 ·rw[cT,cu]at q
  exact q
theorem ce6(T:Txt K mg t){m:Bool × Nat}(hm:m∈aE):∃C ns zs sp,fD t.aJ t.aM m=.obj C ns zs/\i9 P w K mg base 1 "scaled" C sp/\("scaled":Str) ∉ ns/\∀(xs:List Nat) (a:Nat) (Q:D->Prop),a<ae m->(∀y∈xs,y<ae m)->xs.length<=1000->Q (.lst true (av (xs.map (gm m a))))->sp [.obj C ns zs,.int a,.lst false (av xs)] Q:=by
 have hF:=c9 hm
 obtain⟨k,n⟩:=m
 cases k with
 | true=>exact⟨_,_,_,V5 K,rfl,⟨T.e7,_,_,_,T.aC7,aD0 T,T.Vo.b⟩,by decide,λxs a Q ha hy hl q=>⟨_,n,a,xs,rfl,T.e7,T.tG,wA hm,ha,hy,hl,q⟩⟩
 | false =>
  have qC:n<=64:=hF.hi
  have l2:2<=n:=hF.lo
  exact⟨_,_,_,V6 K,rfl,⟨T.fC,_,_,_,T.ax4,ax8 T,T.Vp.b⟩,by decide,λxs a Q ha hy hl q=>⟨_,n,a,xs,rfl,T.fC,T.oG,by omega,cW (show a<n from ha) qC,λy h=>cW (show y<n from hy y h) qC,hl,q⟩⟩
abbrev V7(K:Frag):bc:=λds Q=>∃(C:Addr) (p a:Nat) (xs ys:List Nat),ds=[sS C p,.lst false (av xs),.int a,.lst false (av ys)]/\cC K C/\bg K C "products"/\p∈gW/\a<ae (true,p)/\(∀y∈ys,y<ae (true,p))/\xs.length<=1000/\Q (.lst true (av (dr (λx y=>bP (true,p) x (gm (true,p) a y)) xs ys)))
theorem ax9(T:Txt K mg t):aI P w K mg base aO 1 t.Ki t.Tj ["self","row","a","other"] (bf (V7 K)):=by
 refine bA T.Vq.F SS (λds Q h=>by obtain⟨C,p,a,xs,ys,rfl,hC,hn,hp,ha,hy,hl,q⟩:=h<;>rfl) λaC A outer s H E hr=>⟨_,(aA (aZ (i:=4) SS.nd rfl (b9 rfl) (dJ (bJ (bZ (K:=K) (bv 0)) (bv 2) (λ_ _=>rfl))))
   (aB (aQ (eC [("by_a",4)] ["x","y"] rfl (wa rfl T.xo (ag (bv 1) (ag (bv 3) aq))) (λ_ _ _ _=>(w4 (i1:=1) (i2:=2) (show(["by_a","x","y"]:List Str).Nodup by decide +kernel))) (λ_ _ _ _=>dM) (λ_ _ _ _=>(aw yy (bv 1) (bJ (bv 0) (bv 2) (λ_ _=>rfl)))) rfl)))),λds Q h=>?_⟩
 obtain⟨C,p,a,xs,ys,rfl,hC,hn,hp,ha,hy,hl,q⟩:=h
 refine ay λU hU=>?_
 nofun
 refine⟨C,_,_,_,rfl,hC,hn,rfl,_,CV hp ha,?_⟩
 refine⟨by rw[fV,nX];rfl,hU _ ?_⟩
 clear hU U
 nofun
 refine⟨_,_,rfl,rfl,RB (λx y=>bP (true,p) x (gm (true,p) a y)) (λx hx y Eo=>?_) (by omega) q⟩
 nofun
 refine⟨_,CU hp ha (hy y Eo),?_⟩
 show oM (x:Int) ((gm (true,p) a y:Nat):Int)=_
 rw[nH];rfl
abbrev V8(K:Frag):bc:=λds Q=>∃(C:Addr) (p a:Nat) (xs ys:List Nat),ds=[sR C p,.lst false (av xs),.int a,.lst false (av ys)]/\cC K C/\bg K C "prime"/\0<p/\a<64/\(∀y∈ys,y<64)/\xs.length<=1000/\Q (.lst true (av (dr (λx y=>bP (false,p) x (gm (false,p) a y)) xs ys)))
theorem av2(T:Txt K mg t):aI P w K mg base aO 1 t.Kj t.Tn ["self","row","a","other"] (bf (V8 K)):=by
 refine bA T.Vr.F SU (λds Q h=>by obtain⟨C,p,a,xs,ys,rfl,hC,hn,hp,ha,hy,hl,q⟩:=h<;>rfl) λaC A outer s H E hr=>⟨_,(aA (aZ (i:=4) SU.nd rfl (b9 rfl) (dJ (bZ (K:=K) (bv 0))))
   (aB (aQ (eC [("prime",4),("a",2)] ["x","y"] rfl (wa rfl T.xo (ag (bv 1) (ag (bv 3) aq))) (λ_ _ _ _=>(w4 (i1:=2) (i2:=3) (show(["prime","a","x","y"]:List Str).Nodup by decide +kernel))) (λ_ _ _ _=>dM) (λ_ _ _ _=>(aw cK (aa (aw dN (bv 2) (aa (aw fY (bv 1) (bv 3))))) (bv 0))) rfl)))),λds Q h=>?_⟩
 obtain⟨C,p,a,xs,ys,rfl,hC,hn,hp,ha,hy,hl,q⟩:=h
 refine ay λU hU=>?_
 nofun
 refine⟨C,_,_,.int p,rfl,hC,hn,rfl,rfl,hU _ ?_⟩
 clear hU U
 nofun
 refine⟨_,_,rfl,rfl,RB (λx y=>bP (false,p) x (gm (false,p) a y)) (λx hx y Eo=>?_) (by omega) q⟩
 have h2:=hy y Eo
 nofun
 refine⟨iw.ok (.inr ⟨by omega,by omega⟩),by omega,?_⟩
 have e:((x:Int)-((a*y%p:Nat):Int))%(p:Int)=((x:Int)-(a:Int)*y)%p:=by
  rw[oU,uo,Int.sub_emod,Int.emod_emod,<- Int.sub_emod]
 show _=(((((x:Int)-((a*y%p:Nat):Int))%(p:Int)).toNat:Nat):Int)
 rw[e,xK (gL _ (by omega))]
theorem V9(T:Txt K mg t){m:Bool × Nat}(hm:m∈aE):∃C ns zs sp,fD t.aJ t.aM m=.obj C ns zs/\i9 P w K mg base 1 "lessened" C sp/\("lessened":Str) ∉ ns/\∀(xs ys:List Nat) (a:Nat) (Q:D->Prop),a<ae m->(∀y∈ys,y<ae m)->xs.length<=1000->Q (.lst true (av (dr (λx y=>bP m x (gm m a y)) xs ys)))->sp [.obj C ns zs,.lst false (av xs),.int a,.lst false (av ys)] Q:=by
 have hF:=c9 hm
 obtain⟨k,n⟩:=m
 cases k with
 | true=>exact⟨_,_,_,V7 K,rfl,⟨T.e7,_,_,_,T.ax3,ax9 T,T.Vq.b⟩,by decide,λxs ys a Q ha hy hl q=>⟨_,n,a,xs,ys,rfl,T.e7,T.tG,wA hm,ha,hy,hl,q⟩⟩
 | false =>
  have qC:n<=64:=hF.hi
  have l2:2<=n:=hF.lo
  exact⟨_,_,_,V8 K,rfl,⟨T.fC,_,_,_,T.av0,av2 T,T.Vr.b⟩,by decide,λxs ys a Q ha hy hl q=>⟨_,n,a,xs,ys,rfl,T.fC,T.oG,by omega,cW (show a<n from ha) qC,λy h=>cW (show y<n from hy y h) qC,hl,q⟩⟩
abbrev aS8(cb cp:Addr):bc:=λds Q=>∃(m:Bool × Nat) (T:List (List Nat)) (l:List Nat) (j:Nat),ds=[fD cb cp m,.lst false (az false T),.lst false (av l),.int j]/\m∈aE/\T.length<=1000/\AllLt (ae m) l/\(∀r∈T,j<r.length/\r.length<=1000/\AllLt (ae m) r)/\Q (.lst true (az true (T.map λr=>dr (λx y=>bP m x (gm m (r.getD j 0) y)) r l)))
theorem Wa(T:Txt K mg t):aI P w K mg base aO 2 t.To t.Tp ["field","rows","lead_row","place"] (bf (aS8 t.aJ t.aM)):=by
 refine bA T.KH.F aS6 (λds Q h=>by obtain⟨m,G,l,j,rfl,hm,hG,hl,hr,q⟩:=h<;>rfl) λaC A outer s H E hr=>⟨_,(aB (aQ (eC [("lead_row",2),("field",0),("place",3)] ["row"] rfl (iM (bv 1)) (λ_ _ _ _=>(ft (i:=3) (show(["lead_row","field","place","row"]:List Str).Nodup by decide +kernel))) (λ_ _ _ _=>dM) (λ_ _ _ _=>(iT (P:=P) (w:=w) (K:=K) (mg:=mg) (base:=base) (n:=1) (bv 1) (hr.mono (by decide)) (ag (bv 3) (ag (bJ (bv 3) (bv 2) (λ_ _=>rfl)) (ag (bv 0) aq))))) rfl))),λds Q h=>?_⟩
 obtain⟨m,G,l,j,rfl,hm,hG,hl,hr,q⟩:=h
 nofun
 refine eV G (λr=>D.lst false (av r)) (λr=>D.lst true (av (dr (λx y=>bP m x (gm m (r.getD j 0) y)) r l))) (by rw[dP];rfl) (λa b h=>mW a b h) (λr bj=>?_) (.inr λr _=>iU _) (by rw[sL];omega) ?_
 ·obtain⟨h1,h2,h3⟩:=hr r bj
  obtain⟨C,ns,zs,sp,e1,e2,e3,e4⟩:=V9 (P:=P) (w:=w) (base:=base) T hm
  nofun
  refine⟨C,ns,zs,sp,e1,e2,e3,.int (r.getD j 0:Nat),by rw[sU (by omega) (by omega),iX],e4 _ _ _ _ (h3.getD (by have:=(c9 hm).lo;omega) j) hl h2 ⟨rfl,rfl⟩⟩
 ·rw[az,cu]at q
  exact q
abbrev Al(K:Frag):bc:=λds Q=>∃(C:Addr) (ns:List Str) (xs:List D) (n:Int) (many:Nat) (l:List Int) (r:Int),ds=[.obj C ns xs,.int n]/\cC K C/\bg K C "powers"/\bg K C "many"/\(ns.zip xs).lookup ("powers":Str)=some (.lst false (aG l))/\(ns.zip xs).lookup ("many":Str)=some (.int many)/\2<=many/\l[(n%((many:Int)-1)).toNat]?=some r/\Q (.int r)
theorem Am(T:Txt K mg t):aI P w K mg base aO 1 t.zW t.Tq ["self","n"] (bf (Al K)):=by
 refine bA T.xg.F aA3 (λds Q h=>by obtain⟨C,ns,xs,n,many,l,r,rfl,hC,h1,h2,h3,h4,h5,h6,q⟩:=h<;>rfl) λaC A outer s H E hr=>⟨_,(aB (aQ (dJ (bJ (bZ (K:=K) (bv 0)) (aa (aw cK (bv 1) (aa (aw dN (bZ (K:=K) (bv 0)) (aa ai))))) (λ_ _=>rfl))))),λds Q h=>?_⟩
 obtain⟨C,ns,xs,n,many,l,r,rfl,hC,h1,h2,h3,h4,h5,h6,q⟩:=h
 nofun
 refine⟨C,ns,xs,_,rfl,hC,h1,h3,C,ns,xs,_,rfl,hC,h2,h4,?_⟩
 refine⟨by omega,_,nv (d:=.int r) (gL _ (by omega)) ?_,rfl,q⟩
 unfold aG
 rw[cM,h6];rfl
theorem bF6(T:Txt K mg t){m:Bool × Nat}(hm:m∈aE){n:Int}{Q:D->Prop}(q:Q (.int (eS m n:Nat))):Ro P w K mg base 1 t.aJ t.aM m "step_power" [.int n] Q:=by
 have hF:=c9 hm
 have hl:=Rz hm n
 obtain⟨k,b⟩:=m
 cases k with
 | true=>exact⟨_,_,_,Al K,rfl,⟨T.e7,_,_,_,T.Ac,Am T,T.xg.b⟩,by decide,_,_,_,_,ae (true,b),fl (true,b),_,rfl,T.e7,T.xj,T.tF,rfl,rfl,hF.lo,hl,q⟩
 | false=>exact⟨_,_,_,Al K,rfl,⟨T.fC,_,_,_,T.Af,Am T,T.xg.b⟩,by decide,_,_,_,_,ae (false,b),fl (false,b),_,rfl,T.fC,T.Ae,T.tH,rfl,rfl,hF.lo,hl,q⟩
abbrev Wb(t:dY)(P:Program)(w:World)(K:Frag)(mg:Str->Option Value)(base:Heap):lH:=λds Q Ex=>∃(m:Bool × Nat) (a b:Nat),ds=[fD t.aJ t.aM m,.int a,.int b]/\m∈aE/\a<ae m/\b<ae m/\(b=0->Ex t.eZ)/\(b≠0->∀r:Nat,r<ae m->gm m r b=a->Q (.int (r:Nat)))
theorem Wc(T:Txt K mg t):aI P w K mg base (jU P w) 2 t.Dy t.Tr ["self","a","b"] (mQ (Wb t P w K mg base)):=by
 refine Co T.KI.F aM6 (λds Q Ex h=>by obtain⟨m,a,b,rfl,hm,ha,hb,qx,q⟩:=h<;>rfl) λaC A outer s H E hr=>⟨_,(aA (cA (bN (dO (bY hr)) (bv 2) (aa ai) (bt _)) (aB (Cr T.VY rfl (by rfl) (ag (aa jt) aq))) cy)
   (aA (cA (bN (dO (bY hr)) (bv 1) (aa ai) (bt _)) (aB (aQ ai)) cy)
   (aB (aQ (iT (P:=P) (w:=w) (K:=K) (mg:=mg) (base:=base) (n:=1) (bv 0) (hr.mono (by decide)) (ag (aa (aw dN (bJ (bZ (K:=K) (bv 0)) (bv 1) (λ_ _=>rfl)) (bJ (bZ (K:=K) (bv 0)) (bv 2) (λ_ _=>rfl)))) aq)))))),λds Q Ex h=>?_⟩
 obtain⟨m,a,b,rfl,hm,ha,hb,qx,q⟩:=h
 refine ay λU hU=>?_
 nofun
 split
 ·rename_i h0
  exact⟨by decide,qx (by omega)⟩
 ·rename_i h0
  have b0:b≠0:=by omega
  refine hU _ ?_
  clear hU U
  refine ay λU hU=>?_
  nofun
  split
  ·rename_i h1
   have a0:a=0:=by omega
   subst a0
   exact q b0 0 ha (gX m b (dm m hm))
  ·rename_i h1
   have a0:a≠0:=by omega
   refine hU _ ?_
   clear hU U
   have hF:=c9 hm
   obtain⟨r,e,Dg,hr2⟩:=Rl hm (show 1<=a by omega) ha (show 1<=b by omega) hb
   have qr:=q b0 r Dg hr2
   obtain⟨k,n⟩:=m
   cases k with
   | true =>
    nofun
    have ll:(eW (fl (true,n))).length=ae (true,n):=(zE _ _).trans hF.len
    have n0:=gL (lg (true,n) a-lg (true,n) b) (show(ae (true,n):Int)-1≠0 by have:=hF.lo;omega)
    have n1:=g9 (lg (true,n) a-lg (true,n) b) (show(0:Int)<(ae (true,n):Int)-1 by have:=hF.lo;omega)
    refine⟨_,_,_,Al K,rfl,⟨T.e7,_,_,_,T.Ac,Am T,T.xg.b⟩,by decide,_,_,_,_,rfl,T.e7,T.xi,rfl,_,mP (by omega) (by rw[ll];omega),_,_,_,_,rfl,T.e7,T.xi,rfl,_,mP (by omega) (by rw[ll];omega),?_⟩
    refine⟨_,_,_,_,ae (true,n),fl (true,n),r,rfl,T.e7,T.xj,T.tF,rfl,rfl,hF.lo,?_,qr⟩
    have hk:((lg (true,n) a-lg (true,n) b)%((ae (true,n):Int)-1)).toNat<(fl (true,n)).length:=by have:=hF.len;omega
    show(fl (true,n))[((lg (true,n) a-lg (true,n) b)%((ae (true,n):Int)-1)).toNat]?=some (r:Int)
    rw[<-e]
    unfold pw
    rw[aS,aR hk];rfl
   | false =>
    nofun
    have ll:(eW (fl (false,n))).length=ae (false,n):=(zE _ _).trans hF.len
    have n0:=gL (lg (false,n) a-lg (false,n) b) (show(ae (false,n):Int)-1≠0 by have:=hF.lo;omega)
    have n1:=g9 (lg (false,n) a-lg (false,n) b) (show(0:Int)<(ae (false,n):Int)-1 by have:=hF.lo;omega)
    refine⟨_,_,_,Al K,rfl,⟨T.fC,_,_,_,T.Af,Am T,T.xg.b⟩,by decide,_,_,_,_,rfl,T.fC,T.Ad,rfl,_,mP (by omega) (by rw[ll];omega),_,_,_,_,rfl,T.fC,T.Ad,rfl,_,mP (by omega) (by rw[ll];omega),?_⟩
    refine⟨_,_,_,_,ae (false,n),fl (false,n),r,rfl,T.fC,T.Ae,T.tH,rfl,rfl,hF.lo,?_,qr⟩
    have hk:((lg (false,n) a-lg (false,n) b)%((ae (false,n):Int)-1)).toNat<(fl (false,n)).length:=by have:=hF.len;omega
    show(fl (false,n))[((lg (false,n) a-lg (false,n) b)%((ae (false,n):Int)-1)).toNat]?=some (r:Int)
    rw[<-e]
    unfold pw
    rw[aS,aR hk];rfl
theorem Wd(T:Txt K mg t)(m:Bool × Nat):CW P w K mg base 2 "over" (if m.1 then t.aJ else t.aM) (Wb t P w K mg base):=by
 obtain⟨k,n⟩:=m
 cases k with
 | true=>exact⟨T.e7,_,_,_,T.K2,Wc T,T.KI.b⟩
 | false=>exact⟨T.fC,_,_,_,T.La,Wc T,T.KI.b⟩
abbrev aS9(t:dY)(P:Program)(w:World)(K:Frag)(mg:Str->Option Value)(base:Heap):bc:=λds Q=>∃(m:Bool × Nat) (G:List (List Nat)),ds=[fD t.aJ t.aM m,.lst false (az false G)]/\m∈aE/\G.length<=900/\RT (ae m) (aj G) G/\aj G<=900/\Q (.lst true (az true (bG m G)))
theorem We(T:Txt K mg t):aI P w K mg base aO 3 t.Ts t.Tt ["field","table"] (bf (aS9 t P w K mg base)):=by
 refine bA T.z9.F qw (λds Q h=>by obtain⟨m,G,rfl,hm,hG,hR,hw,q⟩:=h<;>rfl) λaC A outer s H E hr=>⟨_,(aA (aZ (i:=2) qw.nd rfl (ax rfl) (eN cZ))
   (aA (aZ (i:=3) qw.nd rfl (ax rfl) (dJ (bv 1)))
   (aA (gU fJ rfl (jv rfl T.gI (ag (aa (bw T.tD (Em T) hr (ag (bv 1) aq))) aq)) (jY (i:=4) qw.nd rfl (ax rfl))
    (Cc 3 (aA (aZ (i:=5) qw.nd rfl (ax rfl) (bw T.Vn (aN1 T) hr (ag (bv 3) (ag (bv 4) aq))))
    (aB (cA (bN cI3 (bv 5) (aa B9) (bt _)) (aA (aZ (i:=6) qw.nd rfl (ax rfl) (iT (P:=P) (w:=w) (K:=K) (mg:=mg) (base:=base) (n:=1) (bv 0) (hr.mono (by decide)) (ag (aa (Rm (P:=P) (w:=w) (K:=K) (mg:=mg) (base:=base) (n:=2) (bv 0) (hr.mono (by decide)) (ag (aa ai) (ag (bJ (bJ (bv 3) (bv 5) (λ_ _=>rfl)) (bv 4) (λ_ _=>rfl)) aq)))) (ag (bJ (bv 3) (bv 5) (λ_ _=>rfl)) aq))))
     (aA (aZ (i:=3) qw.nd rfl (ax rfl) (bw T.KH (Wa T) hr (ag (bv 0) (ag (aa (aw cm (aa (zj (bv 3) yE (yF (bv 5)))) (aa (zj (bv 3) (yF (aa (aw cm (bv 5) (aa ai)))) yE)))) (ag (bv 6) (ag (bv 4) aq))))))
     (aB (aZ (i:=2) qw.nd rfl (ax rfl) (cD0 (bw T.KH (Wa T) hr (ag (bv 0) (ag (bv 2) (ag (bv 6) (ag (bv 4) aq))))) (eN (cJ (em 6) cZ))))))) cy)))))
   (aB (aQ (em 2)))))),λds Q h=>?_⟩
 obtain⟨m,G,rfl,hm,hG,hR,hw,q⟩:=h
 have fk:=(c9 hm).lo
 refine ay λU hU=>?_
 nofun
 refine⟨by decide,hU _ ?_⟩
 clear hU U
 refine ay λU hU=>?_
 nofun
 refine hU _ ?_
 clear hU U
 refine ay λU hU=>?_
 nofun
 refine⟨G,rfl,by omega,λr bj=>?_,?_⟩
 ·rw[(hR r bj).1];omega
 refine⟨_,rfl,⟨by omega,by omega⟩,?_⟩
 refine zb (λk δ=>∃(o:Bool) (o1 o2 o3:Option D),δ=[some (fD t.aJ t.aM m),some (D.lst false (az false G)),some (D.lst true (az true (j6 m G k).1)),some (D.lst o (az o (j6 m G k).2)),o1,o2,o3]) ⟨false,none,none,none,rfl⟩ ?_ ?_
 ·rintro k δ hk ⟨o,o1,o2,o3,rfl⟩
  have I:=C7 hm hR k
  rw[Ie]
  generalize j6 m G k=s at I ⊢
  simp only[gN,rO,jN,jM,ur,uq,xP,exists_eq_left',dD,dP]
  clear hU
  have il:=I.l
  refine ay λU hU=>?_
  nofun
  refine⟨s.2,k,rfl,by omega,λr bj=>by rw[(I.b r bj).1];omega,?_⟩
  cases e:j5 s.2 k with
  | none =>
   rw[show iV m s k=s by unfold iV;rw[e]]at hU
   refine hU _ ?_
   nofun
   exact⟨false,_,_,_,⟨rfl,rfl⟩,rfl,rfl,rfl⟩
  | some i =>
   obtain⟨hi,h1,h2⟩:=C6 e
   have er:iV m s k=(gY m s.1 (eO m s.2 i k) k++[eO m s.2 i k],gY m (s.2.take i++s.2.drop (i+1)) (eO m s.2 i k) k):=by unfold iV;rw[e]
   rw[er]at hU
   refine hU _ ?_
   clear hU
   nofun
   obtain⟨C,ns,xs,sp,e1,e2,e3,e4⟩:=ce6 (P:=P) (w:=w) (base:=base) T hm
   refine ay λU hU=>?_
   nofun
   obtain⟨lw,lr⟩:=I.b _ (eG hi)
   have bk:=lr.getD (show 0<ae m by omega) k
   refine⟨C,ns,xs,sp,e1,e2,e3,_,_,_,_,wF _ _ m,Wd T m,Rn m _ (by decide),.lst false (av s.2[i]),zL false hi,?_⟩
   dsimp only
   refine⟨.int (s.2[i].getD k 0:Nat),by rw[sU (by omega) (by omega),iX],m,1,s.2[i].getD k 0,by rw[wF];rfl,hm,fk,bk,λz=>absurd z h1,λ_ f hf hfo=>⟨rfl,.lst false (av s.2[i]),zL false hi,?_⟩⟩
   have ef:mY m (s.2[i].getD k 0)=f:=C5 hm hf hfo
   rw[wJ]
   refine e4 _ _ _ hf lr (by omega) ⟨by rw[iU,kS],hU _ ?_⟩
   have el:s.2[i].map (gm m f)=eO m s.2 i k:=by unfold eO;rw[h2,ef]
   rw[el]
   have ll:(eO m s.2 i k).length=aj G:=by rw[<-el,br];exact lw
   have la:AllLt (ae m) (eO m s.2 i k):=λx hx=>by
    rw[<-el]at hx
    obtain⟨y,_,rfl⟩:=bB.mp hx
    exact cV hm _ _
   generalize eO m s.2 i k=ld at ll la ⊢
   clear hU
   refine ay λU hU=>?_
   nofun
   have Lo:∀r∈s.2.take i++s.2.drop (i+1),r.length=aj G/\AllLt (ae m) r:=λr bj=>by
    rcases cI.mp bj with h | h
    ·exact I.b r (xF h)
    ·exact I.b r (qQ h)
   have Wf:∀X:List (List Nat),(D.lst true (az true X)).fr=true:=λX=>by rw[fW,ql];rfl
   rw[Qv,show((i:Int)+1)=((i+1:Nat):Int) by omega,HB,sW,dP]
   refine⟨by rw[jK,kO];omega,m,_,ld,k,rfl,hm,by rw[dF,jK,kO];omega,la,λr bj=>⟨by rw[(Lo r bj).1];exact hk,by rw[(Lo r bj).1];omega,(Lo r bj).2⟩,Wf _,hU _ ?_⟩
   clear hU
   nofun
   refine⟨m,s.1,ld,k,rfl,hm,by omega,la,λr bj=>⟨by rw[(I.a r bj).1];exact hk,by rw[(I.a r bj).1];omega,(I.a r bj).2⟩,Wf _,by decide,_,_,rfl,rfl,?_,true,_,_,_,sW true _ [ld],⟨rfl,rfl⟩,rfl,rfl,rfl⟩
   rw[lL,br]
   show s.1.length+1<=_
   omega
 ·rintro δ ⟨o,o1,o2,o3,rfl⟩
  refine hU _ ?_
  nofun
  exact q
abbrev aT6:bc:=λds Q=>∃T:List (List Nat),ds=[.lst false (az false T)]/\T.length<=1000/\Q (.lst true (az true T))
theorem Lp(T:Txt K mg t):aI P w K mg base aO 1 t.Tu t.Tv ["table"] (bf (aT6 )):=by
 refine bA T.xh.F aT3 (λds Q h=>by obtain⟨G,rfl,hG,q⟩:=h<;>rfl) λaC A outer s H E hr=>⟨_,(aB (aQ (eC [] ["row"] rfl (iM (bv 0)) (λ_ _ _ _=>(ft (i:=0) (show(["row"]:List Str).Nodup by decide +kernel))) (λ_ _ _ _=>dM) (λ_ _ _ _=>(yD (Hb) (by rfl) T.Li Gw (ag (bv 0) aq))) rfl))),λds Q h=>?_⟩
 obtain⟨G,rfl,hG,q⟩:=h
 nofun
 refine eV G (λr=>D.lst false (av r)) (λr=>D.lst true (av r)) (by rw[dP];rfl) (λa b h=>mW a b h) (λr bj=>?_) (.inr λr _=>iU r) (by rw[sL];omega) q
 nofun
abbrev cb9:bc:=λds Q=>∃T:List (List Nat),ds=[.lst false (az false T)]/\T.length<=1000/\(∀r∈T,r.length<=1000/\∃x∈r,x≠0)/\Q (.lst true (av (T.map aW)))
theorem Wg(T:Txt K mg t):aI P w K mg base aO 1 t.Tw t.Tx ["rows"] (bf (cb9 )):=by
 refine bA T.KJ.F cg4 (λds Q h=>by obtain⟨G,rfl,hG,hr,q⟩:=h<;>rfl) λaC A outer s H E hr=>⟨_,(aB (aQ (eC [] ["row"] rfl (iM (bv 0)) (λ_ _ _ _=>(ft (i:=0) (show(["row"]:List Str).Nodup by decide +kernel))) (λ_ _ _ _=>dM) (by exact λ_ _ _ _=>(dJ (bJ (aa (eC [] ["place","x"] rfl (sE rfl T.tI (ag (bv 0) aq)) (λ_ _ _ _=>(w4 (i1:=0) (i2:=1) (show(["place","x"]:List Str).Nodup by decide +kernel))) (λ_ _ _ _=>(G6 (bN (iO (bY hr)) (bv 1) (aa ai) (bt _)))) (λ_ _ _ _=>(dJ (bv 0))) rfl)) (aa ai) (λ_ _=>rfl)))) rfl))),λds Q h=>?_⟩
 obtain⟨G,rfl,hG,hr,q⟩:=h
 nofun
 refine eV G (λr=>D.lst false (av r)) (λr=>D.int (aW r:Nat)) (by rw[dP];rfl) (λa b h=>mW a b h) (λr bj=>?_) (.inr λr _=>rfl) (by rw[sL];omega) ?_
 ·obtain⟨h1,x,hx,h3⟩:=hr r bj
  nofun
  refine Ib (aL r.length) (λ(i:Nat)=>D.tup [.int (i:Int),.int ((r.getD i 0:Nat):Int)]) (λ(i:Nat)=>D.int (i:Int)) (λi=>r.getD i 0 != 0) (Ic r) (λa b h=>by injection h with h;simp at h;omega) (λi hi=>?_) (.inr λ_ _ _=>rfl) (by rw[cj,sL];omega) ?_
  ·nofun
   refine⟨?_,λ_=>trivial⟩
   by_cases h0:r.getD i 0=0
   ·rw[h0];rfl
   ·rw[decide_eq_false (by omega),bne_iff_ne.mpr h0];rfl
  ·refine⟨.int (aW r:Nat),L3.Hy (k:=0) ?_,rfl,rfl⟩
   rw[cM,RJ ⟨x,hx,h3⟩];rfl
 ·rw[cT,cu]at q
  exact q
abbrev aL6:bc:=λds Q=>∃(T:List (List Nat)) (w:Nat),ds=[.lst false (az false T),.int w]/\T.length<=1000/\w<=1000/\(∀r∈T,r.length<=1000/\∃x∈r,x≠0)/\Q (.lst true (av (eX T w)))
theorem Wh(T:Txt K mg t):aI P w K mg base aO 2 t.Tz t.TB ["rows","width"] (bf (aL6 )):=by
 refine bA T.Aa.F SV (λds Q h=>by obtain⟨G,w,rfl,hG,hw,hr,q⟩:=h<;>rfl) λaC A outer s H E hr=>⟨_,(aA (aZ (i:=2) SV.nd rfl (b9 rfl) (bw T.KJ (Wg T) hr (ag (bv 0) aq)))
   (aB (aQ (eC [("taken",2)] ["place"] rfl (jv rfl T.gI (ag (bv 1) aq)) (λ_ _ _ _=>(ft (i:=1) (show(["taken","place"]:List Str).Nodup by decide +kernel))) (λ_ _ _ _=>(G6 (bN cA0 (bv 1) (bv 0) (by with_unfolding_all rfl)))) (λ_ _ _ _=>(dJ (bv 1))) rfl)))),λds Q h=>?_⟩
 obtain⟨G,w,rfl,hG,hw,hr,q⟩:=h
 refine ay λU hU=>?_
 nofun
 refine⟨G,rfl,hG,hr,?_⟩
 refine hU _ ?_
 clear hU U
 nofun
 refine⟨⟨by omega,by omega⟩,Ib (aL w) (λ(i:Nat)=>D.int (i:Int)) (λ(i:Nat)=>D.int (i:Int)) (λj=>!(G.map aW).contains j) (om _ rfl) jB (λj hj=>?_) (.inr λ_ _ _=>rfl) (by rw[cj,sL];omega) ?_⟩
 ·nofun
  exact⟨_,rfl,by rw[ci8],λ_=>trivial⟩
 ·rw[cT]at q
  exact q
abbrev Wi:bc:=λds Q=>∃(d:D) (a b:Nat),ds=[d,.int a,.int b]/\Q (.int (a ^^^ b:Nat))
theorem aF8(T:Txt K mg t):aI P w K mg base aO 1 t.Kk t.TC ["self","a","b"] (bf (Wi )):=by
 refine bA T.Vs.F aF1 (λds Q h=>by obtain⟨d,a,b,rfl,q⟩:=h<;>rfl) λaC A outer s H E hr=>⟨_,(aB (aQ (aw yy (bv 1) (bv 2)))),λds Q h=>?_⟩
 obtain⟨d,a,b,rfl,q⟩:=h
 nofun
 rw[nH];exact q
abbrev Wj(K:Frag):bc:=λds Q=>∃(C:Addr) (p:Nat) (a b:Int),ds=[sR C p,.int a,.int b]/\cC K C/\bg K C "prime"/\0<p/\Q (.int ((a-b)%p))
theorem aA8(T:Txt K mg t):aI P w K mg base aO 1 t.Kl t.TF ["self","a","b"] (bf (Wj K)):=by
 refine bA T.Vt.F aA4 (λds Q h=>by obtain⟨C,p,a,b,rfl,hC,hn,hp,q⟩:=h<;>rfl) λaC A outer s H E hr=>⟨_,(aB (aQ (aw cK (aa (aw dN (bv 1) (bv 2))) (bZ (K:=K) (bv 0))))),λds Q h=>?_⟩
 obtain⟨C,p,a,b,rfl,hC,hn,hp,q⟩:=h
 nofun
 refine⟨C,_,_,.int p,rfl,hC,hn,rfl,?_⟩
 exact⟨by omega,q⟩
theorem Wk(T:Txt K mg t){m:Bool × Nat}(h0:0<m.2):∃C ns xs sp,fD t.aJ t.aM m=.obj C ns xs/\i9 P w K mg base 1 "minus" C sp/\("minus":Str) ∉ ns/\∀(a b:Nat) (Q:D->Prop),Q (.int (gl m a b))->sp [.obj C ns xs,.int a,.int b] Q:=by
 obtain⟨k,n⟩:=m
 cases k with
 | true=>exact⟨_,_,_,Wi,rfl,⟨T.e7,_,_,_,T.aF5,aF8 T,T.Vs.b⟩,by decide,λa b Q q=>⟨_,a,b,rfl,q⟩⟩
 | false=>exact⟨_,_,_,Wj K,rfl,⟨T.fC,_,_,_,T.aA6,aA8 T,T.Vt.b⟩,by decide,λa b Q q=>⟨_,n,a,b,rfl,T.fC,T.oG,h0,q⟩⟩
abbrev ay0(cb cp:Addr):bc:=λds Q=>∃(m:Bool × Nat) (T:List (List Nat)) (w:Nat),ds=[fD cb cp m,.lst false (az false T),.int w]/\m∈aE/\T.length<=1000/\w<=1000/\RT (ae m) w T/\(∀r∈T,∃x∈r,x≠0)/\Q (.lst true (az true (je m T w)))
theorem ay1(T:Txt K mg t):aI P w K mg base aO 3 t.TH t.TJ ["field","rows","width"] (bf (ay0 t.aJ t.aM)):=by
 refine bA T.DB.F w5 (λds Q h=>by obtain⟨m,G,wi,rfl,hm,hG,hw,hR,hr,q⟩:=h<;>rfl) λaC A outer s H E hr=>⟨_,(aA (aZ (i:=3) w5.nd rfl (ax rfl) (bw T.KJ (Wg T) hr (ag (bv 1) aq)))
   (aA (aZ (i:=4) w5.nd rfl (ax rfl) (eN cZ))
   (Cc 3 (aA (gU fJ rfl (G1 (bw T.Aa (Wh T) hr (ag (bv 1) (ag (bv 2) aq)))) (jY (i:=5) w5.nd rfl (ax rfl))
    (aA (aZ (i:=6) w5.nd rfl (ax rfl) (aw fY (aa (eN (cJ ai cZ))) (bv 2)))
    (aA (vS (i:=6) rfl (by first | exact ax rfl | exact b9 (ax rfl)) ai (bv 5))
    (aA (gU fJ rfl (wa rfl T.xo (ag (bv 3) (ag (bv 1) aq))) (nZ (i1:=7) (i2:=8) rfl w5.nd rfl (ax rfl) rfl (ax rfl))
     (aB (vS (i:=6) rfl (by first | exact ax rfl | exact b9 (ax rfl)) (iT (P:=P) (w:=w) (K:=K) (mg:=mg) (base:=base) (n:=1) (bv 0) (hr.mono (by decide)) (ag (aa ai) (ag (bJ (bv 8) (bv 5) (λ_ _=>rfl)) aq))) (bv 7))))
    (aB (nW (i:=4) rfl (by first | exact ax rfl | exact b9 (ax rfl)) (em 6)))))))
   (aB (aQ (em 4))))))),λds Q h=>?_⟩
 obtain⟨m,G,wi,rfl,hm,hG,hw,hR,hr,q⟩:=h
 have m0:=dm m hm
 have fk:=(c9 hm).lo
 refine ay λU hU=>?_
 nofun
 refine⟨G,rfl,hG,λr bj=>⟨by rw[(hR r bj).1];exact hw,hr r bj⟩,hU _ ?_⟩
 clear hU U
 refine ay λU hU=>?_
 nofun
 refine⟨by decide,hU _ ?_⟩
 clear hU U
 refine⟨_,rfl,?_⟩
 rw[wJ]
 simp only[jN,jM]
 refine ay λU hU=>?_
 nofun
 refine⟨G,wi,rfl,hG,hw,λr bj=>⟨by rw[(hR r bj).1];exact hw,hr r bj⟩,?_⟩
 refine⟨_,rfl,?_⟩
 have hfp:∀j∈eX G wi,j<wi:=λj hj=>di.mp (xx.mp hj).1
 have lfp:(eX G wi).length<=wi:=by
  have:=YY (λj=>!(G.map aW).contains j) (aL wi)
  rw[cj]at this
  exact this
 rw[sH]
 refine gS.mk (λi δ=>∃o1 o2 o3 o4,δ=[some (fD t.aJ t.aM m),some (D.lst false (az false G)),some (D.int wi),some (D.lst false (av (G.map aW))),some (D.lst true (az true (((eX G wi).take i).map (fA m G wi)))),o1,o2,o3,o4]) ⟨_,_,_,_,rfl⟩ ?_ ?_
 ·rintro i d δ hd ⟨o1,o2,o3,o4,rfl⟩
  rw[cT,cM]at hd
  obtain⟨f,hf,rfl⟩:=Bb.mp hd
  have hfw:=hfp f (t7 hf)
  clear hd
  refine ay λU hU=>?_
  nofun
  have er:aG (aU wi 0)=av (aU wi 0):=by
   rw[cT,uu];unfold aG;rw[uu];rfl
  rw[iX,er]
  refine⟨by decide,⟨by omega,by omega,by omega⟩,hU _ ?_⟩
  clear hU
  refine ay λU hU=>?_
  nofun
  refine⟨_,f,rfl,?_,?_⟩
  ·rw[CZ (by omega) (by rw[fw,fP];omega)];rfl
  rw[show(av (aU wi 0)).set f (D.int 1)=av ((aU wi 0).set f 1) from RA _ _ 1]
  refine hU _ ?_
  clear hU
  refine ay λU hU=>?_
  nofun
  refine⟨_,_,rfl,rfl,?_⟩
  refine gS.mk (λk δ=>∃o3 o4,δ=[some (fD t.aJ t.aM m),some (D.lst false (az false G)),some (D.int wi),some (D.lst false (av (G.map aW))),some (D.lst true (az true (((eX G wi).take i).map (fA m G wi)))),some (D.int f),some (D.lst true (av ((((G.map aW).zip G).take k).foldl (λx z=>x.set z.1 (bP m 0 (z.2.getD f 0))) ((aU wi 0).set f 1)))),o3,o4]) ⟨_,_,rfl⟩ ?_ ?_
  ·rintro k d δ hd ⟨o3,o4,rfl⟩
   obtain⟨hk,rfl⟩:=cu8 hd
   clear hd
   obtain⟨lw,la⟩:=hR _ (eG hk)
   have xl:=RL (λz:Nat × List Nat=>z.1) (λz=>bP m 0 (z.2.getD f 0)) (((G.map aW).zip G).take k) ((aU wi 0).set f 1)
   rw[kn,fP]at xl
   obtain⟨C,ns,xs,sp,e1,e2,e3,e4⟩:=Wk (P:=P) (w:=w) (base:=base) T m0
   have hld:aW G[k]<wi:=by
    rw[<-lw]
    obtain⟨x,hx,h0⟩:=hr _ (eG hk)
    exact NG ⟨x,hx,by simpa using h0⟩
   have ga:=mV hm (a:=0) (b:=G[k].getD f 0) (by omega) (la.getD (by omega) f)
   nofun
   refine⟨C,ns,xs,sp,e1,e2,e3,.int (G[k].getD f 0:Nat),by rw[sU (by omega) (by omega),iX],e4 0 (G[k].getD f 0) _ ⟨rfl,_,aW G[k],rfl,?_,_,_,?_,rfl,rfl⟩⟩
   ·rw[CZ (by omega) (by rw[fw,xl];omega)];rfl
   ·rw[ga.1,RA,qP,Be]
    have ez:((G.map aW).zip G)[k]?=some (aW G[k],G[k]):=by
     rw[List.zip,qS,cM,aR hk];rfl
    rw[ez];rfl
  ·rintro δ ⟨o3,o4,rfl⟩
   refine hU _ ?_
   nofun
   refine⟨⟨_,rfl⟩,by rw[br,jK];omega,_,_,_,_,?_,rfl,rfl,rfl,rfl⟩
   rw[show((G.map aW).zip G).take (fm (av (G.map aW)) (az false G)).length=(G.map aW).zip G from A8 (by unfold fm;rw[Fq,kR,fw,lL];exact bM _),qP,hf,eH]
   exact sW true _ [fA m G wi f]
 ·rintro δ ⟨o1,o2,o3,o4,rfl⟩
  refine hU _ ?_
  nofun
  rw[ug]
  exact q
abbrev aP3(t:dY)(K:Frag):L2.Sp:=λvs H Q _=>∃(F H0:Hp) (x dx C:Addr) (vf vc:V) (m:Bool × Nat) (G:List (List Nat)) (pre:List (Str × V)),vs=[.ref x,vf,vc]/\L3.af F H0/\H0 x=none/\L3.af H0 H/\H x=some (.ins C dx (pre++[]))/\tf pre/\dv7 K C /\
 R F H0 [fD t.aJ t.aM m] [vf] []/\R F H0 [.lst false (az false G)] [vc] []/\m∈aE/\RT (ae m) (aj G) G/\G.length<=64/\aj G<=64 /\
 ∀H' p1 p2 p3 A1 A2 A3,bO x H H'->H' x=some (.ins C dx (pre++oA.zip [vf,.int (aj G:Nat),.ref p1,.ref p2,.ref p3,.int ((eX (bG m G) (aj G)).length:Nat)]))->R (λ_=>none) H' [.lst true (az true G)] [.ref p1] A1->R (λ_=>none) H' [.lst true (az true (je m (bG m G) (aj G)))] [.ref p2] A2->R (λ_=>none) H' [.lst true (av (eX (bG m G) (aj G)))] [.ref p3] A3->(A1++(A2++A3)).Nodup->(∀a∈A1++(A2++A3),H a=none)->Q .au H'
theorem Lq(T:Txt K mg t):aI P w K mg base aO 4 t.Km t.TK ["self","field","checks"] (aP3 t K):=by
 refine T.DC.F.ok SW (λvs H Q E h=>?_) λaC A outer s H vs Q E hr h=>?_
 ·obtain⟨F,H0,x,dx,C,vf,vc,m,G,pre,rfl,_⟩:=h;rfl
 obtain⟨F,H0,x,dx,C,vf,vc,m,G,pre,rfl,e0,gD,s0,hx,hp,hC,rf,rc,hm,hG,hGl,hGw,q⟩:=h
 refine⟨_,ff (FJ (i:=3) SW.nd rfl (ax rfl) (jo ((We T).mono (by decide)) hr rfl T.z9.g T.z9.F.kp T.z9.b .nil b8 (bV (pv 1) (bV (pv 2) fg))))
  (ff (hV (pv 0) (pv 1) rfl)
  (ff (hV (pv 0) (jo ((Em T).mono (by decide)) hr rfl T.tD.g T.tD.F.kp T.tD.b .nil b8 (bV (pv 2) fg)) rfl)
  (ff (hV (pv 0) (jo ((Lp T).mono (by decide)) hr rfl T.xh.g T.xh.F.kp T.xh.b .nil b8 (bV (pv 2) fg)) rfl)
  (ff (hV (pv 0) (jo ((ay1 T).mono (by decide)) hr rfl T.DB.g T.DB.F.kp T.DB.b .nil b8 (bV (pv 1) (bV (pv 3) (bV (rq (pv 0) rfl) fg)))) rfl)
  (ff (hV (pv 0) (jo ((Wh T).mono (by decide)) hr rfl T.Aa.g T.Aa.F.kp T.Aa.b .nil b8 (bV (pv 3) (bV (rq (pv 0) rfl) fg))) rfl)
  (jl (hV (pv 0) (yd Ox rfl T.g5 gP (bV (rq (pv 0) rfl) fg)) rfl))))))),?_⟩
 try dsimp only[kG,kH]
 have hn:=cB4 hm hG
 have hk:=IG hm hG
 obtain⟨_,iR,iL,_⟩:=jc hm hG
 have fR:∀X:List (List Nat),[D.lst true (az true X)].all D.fr=true:=λX=>by rw[dA,fW,ql];rfl
 have fN:∀X:List Nat,[D.lst true (av X)].all D.fr=true:=λX=>by rw[dA,iU];rfl
 refine⟨_,rfl,_,rfl,F,[fD t.aJ t.aM m,.lst false (az false G)],λd=>d=.lst true (az true (bG m G)),e0.trans s0,R.cons (A:=[]) (rf.shared (L3.af.refl _) s0) (rc.shared (L3.af.refl _) s0),⟨m,G,rfl,hm,by omega,hG,by omega,rfl⟩,λd v F1 H1 A1 hd fc An Lr Wl r1 Wm Lu=>?_⟩
 subst hd
 obtain⟨p0,rfl⟩:=wY r1
 have bU:=fc.get _ _ hx rfl
 have z1:bO x H H1:=fc.x
 have r1:=r1.pG (fR _) An
 have xp:∀X:List (List Nat),[D.lst true (az true X)].map D.sh=[D.lst false (az false X)]:=λX=>by rw[dy,dD,dP];rfl
 have au:∀{F' H':Hp} {d:D} {v:V} {A':List Addr},R F' H' [d] [v] A'->[d].all D.fr=true->R (λ_=>none) H' [d] [v] A':=λr h=>r.pG h (L3.af.of λb o e=>by cases e)
 have mv:∀{F' H' xq:Hp} {ds:List D} {vs:List V} {A':List Addr} {fs fs':List (Str × V)},R F' H' ds vs A'->L3.af H' xq->xq x=some (.ins C dx fs)->ds.all D.fr=true->R F' (upd xq x (.ins C dx fs')) ds vs A':=λr h df hd=>(r.grow (L3.af.refl _) h λa ha=>(r.lists a ha).2).sQ df hd
 refine⟨vf,rfl,.ref x,rfl,x,C,dx,_,rfl,bU,hC.cls,hC.field,hp.lt (by decide),?_⟩
 have r2:=mv r1 (L3.af.refl _) bU (fR _) (fs':=bC "field" vf (pre++[]))
 have z2:=z1.trans (bO.upd (C:=x) (dx:=dx) bU rfl (o':=.ins C dx (bC "field" vf (pre++[]))))
 have dH:upd H1 x (.ins C dx (bC "field" vf (pre++[]))) x=some (.ins C dx (pre++([("field",vf)]:List (Str × V)))):=by rw[bH,hp.put _ _ _ (by decide)];rfl
 generalize upd H1 x (.ins C dx (bC "field" vf (pre++[])))=H2 at r2 z2 dH ⊢
 have t2:=bO.of0 gD s0 z2
 refine⟨_,rfl,F,[.lst false (az false G)],λd=>d=.int (aj G:Nat),e0.trans t2,rc.shared (L3.af.refl _) t2,⟨G,rfl,by omega,λr bj=>by rw[(hG r bj).1];omega,rfl⟩,λd v F3 H3 A3 hd ik Ao he3 h33 r3 nd3 FP=>?_⟩
 subst hd
 cases r3
 have fE:=ik.get _ _ dH rfl
 refine⟨.ref x,rfl,x,C,dx,_,rfl,fE,hC.cls,hC.length,hp.lt (by show 1<=6;decide),?_⟩
 have r4:=mv r2 ik fE (fR _) (fs':=bC "length" (.int (aj G:Nat)) (pre++([("field",vf)]:List (Str × V))))
 have z4:=(z2.trans (ik.x (x:=x))).trans (bO.upd (C:=x) (dx:=dx) fE rfl (o':=.ins C dx (bC "length" (.int (aj G:Nat)) (pre++([("field",vf)]:List (Str × V))))))
 have jJ:upd H3 x (.ins C dx (bC "length" (.int (aj G:Nat)) (pre++([("field",vf)]:List (Str × V))))) x=some (.ins C dx (pre++([("field",vf),("length",.int (aj G:Nat))]:List (Str × V)))):=by rw[bH,hp.put _ _ _ (by decide)];rfl
 generalize upd H3 x (.ins C dx (bC "length" (.int (aj G:Nat)) (pre++([("field",vf)]:List (Str × V)))))=H4 at r4 z4 jJ ⊢
 have t4:=bO.of0 gD s0 z4
 refine⟨_,rfl,F,[.lst false (az false G)],λd=>d=.lst true (az true G),e0.trans t4,rc.shared (L3.af.refl _) t4,⟨G,rfl,by omega,rfl⟩,λd v F5 H5 A5 hd kM hf5 he5 h35 r5 nd5 x8=>?_⟩
 subst hd
 obtain⟨p1,rfl⟩:=wY r5
 have jg:=kM.get _ _ jJ rfl
 refine⟨.ref x,rfl,x,C,dx,_,rfl,jg,hC.cls,hC.dv8,hp.lt (by show 2<=6;decide),?_⟩
 have r6:=mv r4 kM jg (fR _) (fs':=bC "check_rows" (.ref p1) (pre++([("field",vf),("length",.int (aj G:Nat))]:List (Str × V))))
 have k6:=mv (au r5 (fR _)) (L3.af.refl _) jg (fR _) (fs':=bC "check_rows" (.ref p1) (pre++([("field",vf),("length",.int (aj G:Nat))]:List (Str × V))))
 have z6:=(z4.trans (kM.x (x:=x))).trans (bO.upd (C:=x) (dx:=dx) jg rfl (o':=.ins C dx (bC "check_rows" (.ref p1) (pre++([("field",vf),("length",.int (aj G:Nat))]:List (Str × V))))))
 have qD:upd H5 x (.ins C dx (bC "check_rows" (.ref p1) (pre++([("field",vf),("length",.int (aj G:Nat))]:List (Str × V))))) x=some (.ins C dx (pre++([("field",vf),("length",.int (aj G:Nat)),("check_rows",.ref p1)]:List (Str × V)))):=by rw[bH,hp.put _ _ _ (by decide)];rfl
 generalize upd H5 x (.ins C dx (bC "check_rows" (.ref p1) (pre++([("field",vf),("length",.int (aj G:Nat))]:List (Str × V)))))=H6 at r6 k6 z6 qD ⊢
 have n5:∀a∈A5,H a=none:=λa ha=>z4.free (by rw[jJ];simp) (x8 a ha)
 have t6:=bO.of0 gD s0 z6
 have e6:=e0.trans t6
 refine⟨_,rfl,_,rfl,.ref x,rfl,x,C,dx,_,.int (aj G:Nat),rfl,qD,hC.cls,hC.length,(hp.look _ _ (by decide)).trans rfl,L3.bq F H6 A1,[fD t.aJ t.aM m,.lst false (az false (bG m G)),.int (aj G:Nat)],λd=>d=.lst true (az true (je m (bG m G) (aj G))),nI e6,R.cons (A:=[]) (rf.shared (iH e6) t6) (R.cons (A:=[]) (xp _ ▸ r6.bq e6 A1 λ_ h=>h) (.int .nil)),⟨m,bG m G,aj G,rfl,hm,by omega,by omega,iR,hn,rfl⟩,λd v F7 H7 A7 hd oI hf7 he7 h37 r7 nd7 Wn=>?_⟩
 subst hd
 obtain⟨p2,rfl⟩:=wY r7
 have m4:=oI.get _ _ qD rfl
 refine⟨.ref x,rfl,x,C,dx,_,rfl,m4,hC.cls,hC.dv9,hp.lt (by show 3<=6;decide),?_⟩
 have r8:=mv r6 oI m4 (fR _) (fs':=bC "word_rows" (.ref p2) (pre++([("field",vf),("length",.int (aj G:Nat)),("check_rows",.ref p1)]:List (Str × V))))
 have k8:=mv k6 oI m4 (fR _) (fs':=bC "word_rows" (.ref p2) (pre++([("field",vf),("length",.int (aj G:Nat)),("check_rows",.ref p1)]:List (Str × V))))
 have w8:=mv (au r7 (fR _)) (L3.af.refl _) m4 (fR _) (fs':=bC "word_rows" (.ref p2) (pre++([("field",vf),("length",.int (aj G:Nat)),("check_rows",.ref p1)]:List (Str × V))))
 have z8:=(z6.trans (oI.x (x:=x))).trans (bO.upd (C:=x) (dx:=dx) m4 rfl (o':=.ins C dx (bC "word_rows" (.ref p2) (pre++([("field",vf),("length",.int (aj G:Nat)),("check_rows",.ref p1)]:List (Str × V))))))
 have Ep:upd H7 x (.ins C dx (bC "word_rows" (.ref p2) (pre++([("field",vf),("length",.int (aj G:Nat)),("check_rows",.ref p1)]:List (Str × V))))) x=some (.ins C dx (pre++([("field",vf),("length",.int (aj G:Nat)),("check_rows",.ref p1),("word_rows",.ref p2)]:List (Str × V)))):=by rw[bH,hp.put _ _ _ (by decide)];rfl
 generalize upd H7 x (.ins C dx (bC "word_rows" (.ref p2) (pre++([("field",vf),("length",.int (aj G:Nat)),("check_rows",.ref p1)]:List (Str × V)))))=H8 at r8 k8 w8 z8 Ep ⊢
 have n7:∀a∈A7,H a=none:=λa ha=>z6.free (by rw[qD];simp) (Wn a ha)
 have d57:∀a∈A5,a ∉ A7:=λa ha hb=>by
  obtain⟨⟨ws,e⟩,_⟩:=k6.lists a ha
  rw[Wn a hb]at e;cases e
 have t8:=bO.of0 gD s0 z8
 have e8:=e0.trans t8
 refine⟨_,rfl,.ref x,rfl,x,C,dx,_,.int (aj G:Nat),rfl,Ep,hC.cls,hC.length,(hp.look _ _ (by decide)).trans rfl,L3.bq F H8 A1,[.lst false (az false (bG m G)),.int (aj G:Nat)],λd=>d=.lst true (av (eX (bG m G) (aj G))),nI e8,R.cons (A:=[]) (xp _ ▸ r8.bq e8 A1 λ_ h=>h) (.int .nil),⟨bG m G,aj G,rfl,by omega,by omega,λr bj=>⟨by rw[(iR r bj).1];omega,hn r bj⟩,rfl⟩,λd v F9 H9 A9 hd Er hf9 he9 h39 r9 nd9 Lw=>?_⟩
 subst hd
 obtain⟨p3,rfl⟩:=wY r9
 have Ap:=Er.get _ _ Ep rfl
 refine⟨.ref x,rfl,x,C,dx,_,rfl,Ap,hC.cls,hC.SI,hp.lt (by show 4<=6;decide),?_⟩
 have Wo:=mv k8 Er Ap (fR _) (fs':=bC "message_places" (.ref p3) (pre++([("field",vf),("length",.int (aj G:Nat)),("check_rows",.ref p1),("word_rows",.ref p2)]:List (Str × V))))
 have Wq:=mv w8 Er Ap (fR _) (fs':=bC "message_places" (.ref p3) (pre++([("field",vf),("length",.int (aj G:Nat)),("check_rows",.ref p1),("word_rows",.ref p2)]:List (Str × V))))
 have Lx:=mv (au r9 (fN _)) (L3.af.refl _) Ap (fN _) (fs':=bC "message_places" (.ref p3) (pre++([("field",vf),("length",.int (aj G:Nat)),("check_rows",.ref p1),("word_rows",.ref p2)]:List (Str × V))))
 have Wr:=(z8.trans (Er.x (x:=x))).trans (bO.upd (C:=x) (dx:=dx) Ap rfl (o':=.ins C dx (bC "message_places" (.ref p3) (pre++([("field",vf),("length",.int (aj G:Nat)),("check_rows",.ref p1),("word_rows",.ref p2)]:List (Str × V))))))
 have tL:upd H9 x (.ins C dx (bC "message_places" (.ref p3) (pre++([("field",vf),("length",.int (aj G:Nat)),("check_rows",.ref p1),("word_rows",.ref p2)]:List (Str × V))))) x=some (.ins C dx (pre++([("field",vf),("length",.int (aj G:Nat)),("check_rows",.ref p1),("word_rows",.ref p2),("message_places",.ref p3)]:List (Str × V)))):=by rw[bH,hp.put _ _ _ (by decide)];rfl
 generalize upd H9 x (.ins C dx (bC "message_places" (.ref p3) (pre++([("field",vf),("length",.int (aj G:Nat)),("check_rows",.ref p1),("word_rows",.ref p2)]:List (Str × V)))))=H10 at Wo Wq Lx Wr tL ⊢
 have n9:∀a∈A9,H a=none:=λa ha=>z8.free (by rw[Ep];simp) (Lw a ha)
 have d59:∀a∈A5,a ∉ A9:=λa ha hb=>by
  obtain⟨⟨ws,e⟩,_⟩:=k8.lists a ha
  rw[Lw a hb]at e;cases e
 have d79:∀a∈A7,a ∉ A9:=λa ha hb=>by
  obtain⟨⟨ws,e⟩,_⟩:=w8.lists a ha
  rw[Lw a hb]at e;cases e
 obtain⟨ws,lw,ew⟩:∃ws,ws.length=(eX (bG m G) (aj G)).length/\H10 p3=some (.lst ws):=by
  cases Lx with
  | own h _ r _=>exact⟨_,by rw[<-r.length,fw],h⟩
 refine⟨.ref x,rfl,x,C,dx,_,.ref p3,rfl,tL,hC.cls,hC.SI,(hp.look _ _ (by decide)).trans rfl,p3,ws,rfl,.inl (bQ.of ew),.ref x,rfl,x,C,dx,_,rfl,tL,hC.cls,hC.size,hp.lt (by show 5<=6;decide),?_⟩
 rw[lw]
 refine q _ p1 p2 p3 A5 A7 A9 (Wr.trans (bO.upd (C:=x) (dx:=dx) tL rfl)) (by rw[bH,hp.put _ _ _ (by decide)];rfl) (mv Wo (L3.af.refl _) tL (fR _)) (mv Wq (L3.af.refl _) tL (fR _)) (mv Lx (L3.af.refl _) tL (fN _)) ?_ ?_
 ·exact iJ.mpr ⟨nd5,iJ.mpr ⟨nd7,nd9,d79⟩,λa ha hb=>(cI.mp hb).elim (d57 a ha) (d59 a ha)⟩
 ·intro a ha
  rcases cI.mp ha with ha | ha
  ·exact n5 a ha
  ·exact(cI.mp ha).elim (n7 a) (n9 a)
abbrev Ly(K:Frag):bc:=λds Q=>∃(C:Addr) (ns:List Str) (xs:List D) (n:Nat) (x:D),ds=[.obj C ns xs,x]/\cC K C/\bg K C "many"/\(ns.zip xs).lookup ("many":Str)=some (.int n)/\((∃i,x=.int i/\Q (.bl (decide (0<=i)&&decide (i<n))))\/(x=.au/\Q (.bl false)))
theorem Ws(T:Txt K mg t):aI P w K mg base aO 1 t.Dz t.TL ["self","x"] (bf (Ly K)):=by
 refine bA T.KL.F aL4 (λds Q h=>by obtain⟨C,ns,xs,n,x,rfl,h1,h2,h3,q⟩:=h<;>rfl) λaC A outer s H E hr=>⟨_,(aB (aQ (uZ (aa (P1 (by rfl) T.qA (by rfl) T.dD8 cH5 (bv 1))) (uZ (aa (cN5 (aa (P1 (by rfl) T.qA (by rfl) T.dD7 cr5 (bv 1))))) (xW (vH lu vB (aa ai) (bv 1) (bZ (K:=K) (bv 0)))))))),λds Q h=>?_⟩
 obtain⟨C,ns,xs,n,x,rfl,h1,h2,h3,q⟩:=h
 rcases q with⟨i,rfl,q⟩ | ⟨rfl,q⟩
 ·nofun
  split
  ·rename_i h0
   refine⟨C,ns,xs,_,rfl,h1,h2,h3,?_⟩
   dsimp only
   rw[decide_eq_true h0,kQ]at q
   exact q
  ·rename_i h0
   rw[decide_eq_false h0,tW]at q
   exact q
 ·nofun
  exact q
theorem Lz(T:Txt K mg t)(m:Bool × Nat){x:D}{Q:D->Prop}(h:(∃i,x=.int i/\Q (.bl (decide (0<=i)&&decide (i<ae m))))\/(x=.au/\Q (.bl false))):Ro P w K mg base 1 t.aJ t.aM m "holds" [x] Q:=by
 obtain⟨k,n⟩:=m
 cases k with
 | true=>exact⟨_,_,_,Ly K,rfl,⟨T.e7,_,_,_,T.K1,Ws T,T.KL.b⟩,by decide,_,_,_,ae (true,n),x,rfl,T.e7,T.tF,rfl,h⟩
 | false=>exact⟨_,_,_,Ly K,rfl,⟨T.fC,_,_,_,T.K9,Ws T,T.KL.b⟩,by decide,_,_,_,ae (false,n),x,rfl,T.fC,T.tH,rfl,h⟩
abbrev aF9(t:dY):bc:=λds Q=>∃(m:Bool × Nat) (G:List (List Nat)),ds=[fD t.aJ t.aM m,.lst false (az false G)]/\m∈aE/\RT (ae m) (aj G) G/\1<=G.length/\G.length<=12/\2<=aj G/\aj G<=12/\Q (.bl true)
theorem aG0(T:Txt K mg t):aI P w K mg base aO 2 t.TM t.TN ["field","table"] (bf (aF9 t)):=by
 refine bA T.DD.F SX (λds Q h=>by obtain⟨m,G,rfl,hm,hR,g1,Aq,w2,qE,q⟩:=h<;>rfl) λaC A outer s H E hr=>⟨_,(aA (cA (PW.pt (nK (bN vB (aa (eB (ib) (by rfl) T.g5 gP (ag (bv 1) aq))) (aa ai) (bt _)) (oZ (bN yA (aa (eB (ib) (by rfl) T.g5 gP (ag (bv 1) aq))) (aa ai) (bt _))))) (aB (aQ kC)) cy)
   (aA (aZ (i:=2) SX.nd rfl (b9 rfl) (eB (ib) (by rfl) T.g5 gP (ag (bJ (bv 1) (aa ai) (λ_ _=>rfl)) aq)))
   (aA (cA (PW.pt (nK (bN vB (bv 2) (aa ai) (bt _)) (nK (bN yA (bv 2) (aa ai) (bt _)) (oZ (ia (aa (eB (cJ9 rfl) (by rfl) T.dD6 cH7 (ag (aa (eC [("width",2)] ["row"] rfl (iM (bv 1)) (λ_ _ _ _=>(ft (i:=1) (show(["width","row"]:List Str).Nodup by decide +kernel))) (λ_ _ _ _=>dM) (λ_ _ _ _=>(k9 (iO (bY hr)) (aa (eB (ib) (by rfl) T.g5 gP (ag (bv 1) aq))) (bv 0) (bt _))) rfl)) aq)))))))) (aB (aQ kC)) cy)
   (aB (aQ (eB (vJ rfl) (by rfl) T.xn uM (ag (aa (eC [("field",0)] ["row"] rfl (iM (bv 1)) (λ_ _ _ _=>(ft (i:=1) (show(["field","row"]:List Str).Nodup by decide +kernel))) (λ_ _ _ _=>dM) (by exact λ_ _ _ _=>(eB (vJ rfl) (by rfl) T.xn uM (ag (aa (eC [("field",0)] ["x"] rfl (iM (bv 1)) (λ_ _ _ _=>(ft (i:=1) (show(["field","x"]:List Str).Nodup by decide +kernel))) (λ_ _ _ _=>dM) (λ_ _ _ _=>(iT (P:=P) (w:=w) (K:=K) (mg:=mg) (base:=base) (n:=1) (bv 0) (hr.mono (by decide)) (ag (bv 1) aq))) rfl)) aq))) rfl)) aq))))))),λds Q h=>?_⟩
 obtain⟨m,G,rfl,hm,hR,g1,Aq,w2,qE,q⟩:=h
 obtain⟨g,G',rfl⟩:∃g G',G=g::G':=by
  cases G with
  | nil=>exact absurd g1 (by decide)
  | cons g G'=>exact⟨g,G',rfl⟩
 refine ay λU hU=>?_
 nofun
 rw[if_neg (by omega),if_neg (by rw[kj]at Aq;omega)]
 refine hU _ ?_
 clear hU U
 refine ay λU hU=>?_
 nofun
 refine⟨.lst false (av g),zL false (T:=g::G') (i:=0) (NL _),?_⟩
 show U [some (fD t.aJ t.aM m),some (.lst false (az false (g::G'))),some (.int ((av g).length:Nat))]
 have gl:(av g).length=aj (g::G'):=by rw[fw];rfl
 rw[gl]
 generalize g::G'=G at hR g1 Aq w2 qE gl hU ⊢
 refine hU _ ?_
 clear hU U
 refine ay λU hU=>?_
 nofun
 rw[if_neg (by omega),if_neg (by omega)]
 refine eV G (λr=>D.lst false (av r)) (λ_=>D.bl false) (by rw[dP];rfl) (λa b h=>mW a b h) (λr bj=>?_) (.inr λr _=>rfl) (by rw[sL];omega) ?_
 ·have:=(hR r bj).1
  nofun
  rw[decide_eq_true (by omega)];rfl
 refine⟨G.map λ_=>false,by unfold mL;rw[cu];rfl,?_⟩
 rw[if_neg (by simp)]
 refine hU _ ?_
 clear hU U
 nofun
 refine eV G (λr=>D.lst false (av r)) (λ_=>D.bl true) (by rw[dP];rfl) (λa b h=>mW a b h) (λr bj=>?_) (.inr λr _=>rfl) (by rw[sL];omega) ?_
 ·obtain⟨r1,r2⟩:=hR r bj
  nofun
  refine eV r (λ(i:Nat)=>D.int (i:Int)) (λ_=>D.bl true) (we _) jB (λi hi=>?_) (.inr λ_ _=>rfl) (by rw[sL];omega) ?_
  ·have:=r2 i hi
   nofun
   refine Lz T m (.inl ⟨_,rfl,?_⟩)
   rw[decide_eq_true (by omega),decide_eq_true (by omega)];rfl
  ·refine⟨r.map λ_=>true,by unfold mL;rw[cu];rfl,?_⟩
   simp
 ·refine⟨G.map λ_=>true,by unfold mL;rw[cu];rfl,?_⟩
  rw[show(G.map λ_=>true).all id=true by simp]
  exact q
abbrev cq8(t:dY)(P:Program)(w:World)(K:Frag)(mg:Str->Option Value)(base:Heap):bc:=λds Q=>∃(m:Bool × Nat) (G:List (List Nat)),ds=[fD t.aJ t.aM m,.lst false (az false G)]/\m∈aE/\G.length<=900/\RT (ae m) (aj G) G/\aj G<=900/\Q (.int (bG m G).length)
theorem cp3(T:Txt K mg t):aI P w K mg base aO 4 t.TQ t.TR ["field","table"] (bf (cq8 t P w K mg base)):=by
 refine bA T.DE.F cq3 (λds Q h=>by obtain⟨m,G,rfl,hm,hG,hR,hw,q⟩:=h<;>rfl) λaC A outer s H E hr=>⟨_,(aB (aQ (eB (ib) (by rfl) T.g5 gP (ag (aa (bw T.z9 (We T) hr (ag (bv 0) (ag (bv 1) aq)))) aq)))),λds Q h=>?_⟩
 obtain⟨m,G,rfl,hm,hG,hR,hw,q⟩:=h
 nofun
 refine⟨m,G,rfl,hm,hG,hR,hw,?_⟩
 dsimp only
 rw[lL];exact q
abbrev aT7:bc:=λds Q=>∃T:List (List Nat),ds=[.lst false (az false T)]/\T.length<=1000/\(∀r∈T,r.length=aj T)/\aj T<=1000/\Q (.lst true (az true (eP T)))
theorem Wt(T:Txt K mg t):aI P w K mg base aO 2 t.TU t.TV ["table"] (bf (aT7 )):=by
 refine bA T.KN.F aT4 (λds Q h=>by obtain⟨G,rfl,hG,hr,hw,q⟩:=h<;>rfl) λaC A outer s H E hr=>⟨_,(aB (aQ (eC [("table",0)] ["j"] rfl (jv rfl T.gI (ag (aa (bw T.tD (Em T) hr (ag (bv 0) aq))) aq)) (λ_ _ _ _=>(ft (i:=1) (show(["table","j"]:List Str).Nodup by decide +kernel))) (λ_ _ _ _=>dM) (by exact λ_ _ _ _=>(eC [("j",1)] ["row"] rfl (iM (bv 0)) (λ_ _ _ _=>(ft (i:=1) (show(["j","row"]:List Str).Nodup by decide +kernel))) (λ_ _ _ _=>dM) (λ_ _ _ _=>(dJ (bJ (bv 1) (bv 0) (λ_ _=>rfl)))) rfl)) rfl))),λds Q h=>?_⟩
 obtain⟨G,rfl,hG,hr,hw,q⟩:=h
 nofun
 refine⟨G,rfl,hG,λr bj=>by rw[hr r bj];exact hw,?_⟩
 dsimp only
 refine⟨_,rfl,⟨by omega,by omega⟩,?_⟩
 refine eV (aL (aj G)) (λ(i:Nat)=>D.int (i:Int)) (λj=>D.lst true (av (G.map λr=>r.getD j 0))) (om _ rfl) jB (λj hj=>?_) (.inr λj _=>iU _) (by rw[cj,sL];omega) ?_
 ·have hj:=di.mp hj
  nofun
  refine eV G (λr=>D.lst false (av r)) (λr=>D.int ((r.getD j 0:Nat):Int)) (by rw[dP];rfl) (λa b h=>mW a b h) (λr bj=>?_) (.inr λr _=>rfl) (by rw[sL];omega) ?_
  ·nofun
   have hl:=hr r bj
   exact⟨.int (r.getD j 0:Nat),by rw[sU (by omega) (by omega),iX],rfl,rfl⟩
  ·rw[cT,cu];rfl
 ·unfold eP az at q
  rw[cu]at q
  exact q
abbrev aP4:bc:=λds Q=>∃c:List Nat,ds=[.lst false (av c)]/\c.length<=1000/\Q (.bl (nul c))
theorem aP5(T:Txt K mg t):aI P w K mg base aO 1 t.TX t.TY ["column"] (bf (aP4 )):=by
 refine bA T.Vu.F aO5 (λds Q h=>by obtain⟨c,rfl,hc,q⟩:=h<;>rfl) λaC A outer s H E hr=>⟨_,(aB (aQ (eB (vJ rfl) (by rfl) T.xn uM (ag (aa (eC [] ["x"] rfl (iM (bv 0)) (λ_ _ _ _=>(ft (i:=0) (show(["x"]:List Str).Nodup by decide +kernel))) (λ_ _ _ _=>dM) (λ_ _ _ _=>(k9 (dO (bY hr)) (bv 0) (aa ai) (bt _))) rfl)) aq)))),λds Q h=>?_⟩
 obtain⟨c,rfl,hc,q⟩:=h
 nofun
 refine eV c (λ(i:Nat)=>D.int (i:Int)) (λ(x:Nat)=>D.bl (x==0)) (we _) jB (λx hx=>?_) (.inr λ_ _=>rfl) (by rw[sL];omega) ?_
 ·nofun
  congr 1
  exact propext (by omega)
 dsimp only
 refine⟨c.map (·==0),by unfold mL;rw[cu];rfl,?_⟩
 rw[mm]
 exact q
abbrev Wu(K:Frag):bc:=λds Q=>∃(C:Addr) (p a b:Nat),ds=[sS C p,.int a,.int b]/\cC K C/\bg K C "products"/\p∈gW/\a<ae (true,p)/\b<ae (true,p)/\Q (.int (gm (true,p) a b:Nat))
theorem aG1(T:Txt K mg t):aI P w K mg base aO 1 t.Kn t.TZ ["self","a","b"] (bf (Wu K)):=by
 refine bA T.Vv.F aF2 (λds Q h=>by obtain⟨C,p,a,b,rfl,hC,hn,hp,ha,hb,q⟩:=h<;>rfl) λaC A outer s H E hr=>⟨_,(aB (aQ (dJ (bJ (bJ (bZ (K:=K) (bv 0)) (bv 1) (λ_ _=>rfl)) (bv 2) (λ_ _=>rfl))))),λds Q h=>?_⟩
 obtain⟨C,p,a,b,rfl,hC,hn,hp,ha,hb,q⟩:=h
 nofun
 refine⟨C,_,_,_,rfl,hC,hn,rfl,?_⟩
 exact⟨_,CV hp ha,_,CU hp ha hb,rfl,q⟩
abbrev Wv(K:Frag):bc:=λds Q=>∃(C:Addr) (p:Nat) (a b:Int),ds=[sR C p,.int a,.int b]/\cC K C/\bg K C "prime"/\0<p/\IntMulOk a b/\Q (.int (a*b%p))
theorem aA9(T:Txt K mg t):aI P w K mg base aO 1 t.Ko t.T1 ["self","a","b"] (bf (Wv K)):=by
 refine bA T.Vw.F aA5 (λds Q h=>by obtain⟨C,p,a,b,rfl,hC,hn,hp,hm,q⟩:=h<;>rfl) λaC A outer s H E hr=>⟨_,(aB (aQ (aw cK (aa (aw fY (bv 1) (bv 2))) (bZ (K:=K) (bv 0))))),λds Q h=>?_⟩
 obtain⟨C,p,a,b,rfl,hC,hn,hp,hm,q⟩:=h
 nofun
 exact⟨hm,C,_,_,.int p,rfl,hC,hn,rfl,by omega,q⟩
theorem cu5(T:Txt K mg t){m:Bool × Nat}(hm:m∈aE):∃C ns xs sp,fD t.aJ t.aM m=.obj C ns xs/\i9 P w K mg base 1 "times" C sp/\("times":Str) ∉ ns/\∀(a b:Nat) (Q:D->Prop),a<ae m->b<ae m->Q (.int (gm m a b:Nat))->sp [.obj C ns xs,.int a,.int b] Q:=by
 have hF:=c9 hm
 obtain⟨k,n⟩:=m
 cases k with
 | true=>exact⟨_,_,_,Wu K,rfl,⟨T.e7,_,_,_,T.aF6,aG1 T,T.Vv.b⟩,by decide,λa b Q ha hb q=>⟨_,n,a,b,rfl,T.e7,T.tG,wA hm,ha,hb,q⟩⟩
 | false =>
  have qC:n<=64:=hF.hi
  refine⟨_,_,_,Wv K,rfl,⟨T.fC,_,_,_,T.aA7,aA9 T,T.Vw.b⟩,by decide,λa b Q ha hb q=>?_⟩
  have Ct:a<n:=ha
  have pV:b<n:=hb
  refine⟨_,n,a,b,rfl,T.fC,T.oG,by omega,iw.ok (.inr ⟨by omega,by omega⟩),?_⟩
  have e:((gm (false,n) a b:Nat):Int)=(a:Int)*b%n:=by
   show((a*b%n:Nat):Int)=_
   rw[oU,uo]
  rw[<-e];exact q
abbrev cr8(t:dY)(P:Program)(w:World)(K:Frag)(mg:Str->Option Value)(base:Heap):bc:=λds Q=>∃(m:Bool × Nat) (c:List Nat) (os:List (List Nat)),ds=[fD t.aJ t.aM m,.lst false (av c),.lst false (az false os)]/\m∈aE/\nul c=false/\c.length<=64/\AllLt (ae m) c/\RT (ae m) c.length os/\os.length<=1000/\Q (.lst true (az true (gF m c os)))
theorem co5(T:Txt K mg t):aI P w K mg base aO 3 t.T3 t.T4 ["field","column","others"] (bf (cr8 t P w K mg base)):=by
 refine bA T.Vx.F w9 (λds Q h=>by obtain⟨m,c,os,rfl,hm,hn,hc,LA,lY,hol,q⟩:=h<;>rfl) λaC A outer s H E hr=>⟨_,(aA (aZ (i:=3) w9.nd rfl (ax rfl) (dJ (bJ (aa (eC [] ["k","x"] rfl (sE rfl T.tI (ag (bv 1) aq)) (λ_ _ _ _=>(w4 (i1:=0) (i2:=1) (show(["k","x"]:List Str).Nodup by decide +kernel))) (λ_ _ _ _=>(G6 (bN (iO (bY hr)) (bv 1) (aa ai) (bt _)))) (λ_ _ _ _=>(dJ (bv 0))) rfl)) (aa ai) (λ_ _=>rfl))))
   (aA (aZ (i:=4) w9.nd rfl (ax rfl) (Rm (P:=P) (w:=w) (K:=K) (mg:=mg) (base:=base) (n:=2) (bv 0) (hr.mono (by decide)) (ag (aa ai) (ag (bJ (bv 1) (bv 3) (λ_ _=>rfl)) aq))))
   (aA (aZ (i:=5) w9.nd rfl (ax rfl) (eN cZ))
   (aA (gU fJ rfl (G1 (dJ (bv 2))) (jY (i:=6) w9.nd rfl (ax rfl))
    (aA (aZ (i:=7) w9.nd rfl (ax rfl) (iT (P:=P) (w:=w) (K:=K) (mg:=mg) (base:=base) (n:=1) (bv 0) (hr.mono (by decide)) (ag (bv 6) (ag (aa (iT (P:=P) (w:=w) (K:=K) (mg:=mg) (base:=base) (n:=1) (bv 0) (hr.mono (by decide)) (ag (bJ (bv 6) (bv 3) (λ_ _=>rfl)) (ag (bv 4) aq)))) (ag (bv 1) aq)))))
    (aB (nW (i:=5) rfl (by first | exact ax rfl | exact b9 (ax rfl)) (aw cm (aa (zj (bv 7) yE (yF (bv 3)))) (aa (zj (bv 7) (yF (aa (aw cm (bv 3) (aa ai)))) yE)))))))
   (aB (aQ (em 5))))))),λds Q h=>?_⟩
 obtain⟨m,c,os,rfl,hm,hn,hc,LA,lY,hol,q⟩:=h
 have fk:=(c9 hm).lo
 obtain⟨pl,pn⟩:=IA hn
 have cp:=LA.getD (show 0<ae m by omega) (aW c)
 have cx:∃x∈c,x≠0:=⟨_,dR pl 0,pn⟩
 refine ay λU hU=>?_
 nofun
 refine Ib (aL c.length) (λ(i:Nat)=>D.tup [.int (i:Int),.int ((c.getD i 0:Nat):Int)]) (λ(i:Nat)=>D.int (i:Int)) (λi=>c.getD i 0 != 0) (Ic c) (λa b h=>by injection h with h;simp at h;omega) (λi hi=>?_) (.inr λ_ _ _=>rfl) (by rw[cj,sL];omega) ?_
 ·nofun
  refine⟨?_,λ_=>trivial⟩
  by_cases h0:c.getD i 0=0
  ·rw[h0];rfl
  ·rw[decide_eq_false (by omega),bne_iff_ne.mpr h0];rfl
 dsimp only
 refine⟨.int (aW c:Nat),L3.Hy (k:=0) (by rw[cM,RJ cx];rfl),rfl,hU _ ?_⟩
 clear hU U
 refine ay λU hU=>?_
 nofun
 refine⟨_,_,_,_,wF _ _ m,Wd T m,Rn m _ (by decide),.int (c.getD (aW c) 0:Nat),by rw[sU (by omega) (by omega),iX],m,1,c.getD (aW c) 0,by rw[wF];rfl,hm,fk,cp,λz=>absurd z pn,λ_ iv Ww IB=>?_⟩
 have ei:mY m (c.getD (aW c) 0)=iv:=C5 hm Ww IB
 refine⟨rfl,hU _ ?_⟩
 clear hU U
 refine ay λU hU=>?_
 nofun
 refine⟨by decide,hU _ ?_⟩
 clear hU U
 refine ay λU hU=>?_
 nofun
 refine gS.mk (λi δ=>∃o6 o7,δ=[some (fD t.aJ t.aM m),some (D.lst false (av c)),some (D.lst false (az false os)),some (D.int (aW c)),some (D.int iv),some (D.lst true (az true (gF m c (os.take i)))),o6,o7]) ⟨_,_,rfl⟩ ?_ ?_
 ·rintro i d δ hd ⟨o6,o7,rfl⟩
  obtain⟨hi,rfl⟩:=ch0 hd
  clear hd hU
  obtain⟨ol,oa⟩:=lY _ (eG hi)
  have op:=oa.getD (show 0<ae m by omega) (aW c)
  obtain⟨C,ns,xs,sp,e1,e2,e3,e4⟩:=V9 (P:=P) (w:=w) (base:=base) T hm
  refine ay λU hU=>?_
  nofun
  obtain⟨C1,n1,x1,sp1,g1,g2,g3,g4⟩:=cu5 (P:=P) (w:=w) (base:=base) T hm
  refine⟨C,ns,xs,sp,e1,e2,e3,C1,n1,x1,sp1,g1,g2,g3,.int (os[i].getD (aW c) 0:Nat),by rw[sU (by omega) (by omega),iX],g4 _ iv _ op Ww ⟨rfl,e4 os[i] c (gm m (os[i].getD (aW c) 0) iv) _ (cV hm _ _) LA (by omega) ⟨rfl,hU _ ?_⟩⟩⟩
  clear hU
  have ep:gF m c (os.take (i+1))=gF m c (os.take i)++[(dr (λx y=>bP m x (gm m (gm m (os[i].getD (aW c) 0) iv) y)) os[i] c).take (aW c)++(dr (λx y=>bP m x (gm m (gm m (os[i].getD (aW c) 0) iv) y)) os[i] c).drop (aW c+1)]:=by
   unfold gF
   rw[qP,aR hi,Np,eH,dy,km,ei]
  rw[ep]
  have ll:(dr (λx y=>bP m x (gm m (gm m (os[i].getD (aW c) 0) iv) y)) os[i] c).length<=64:=by rw[kR];omega
  generalize dr (λx y=>bP m x (gm m (gm m (os[i].getD (aW c) 0) iv) y)) os[i] c=lf at ll ⊢
  have pl2:(gF m c (os.take i)).length<=1000:=by rw[ID,jK];omega
  nofun
  rw[Qv,show((aW c:Int)+1)=((aW c+1:Nat):Int) by omega,HB]
  exact⟨⟨_,rfl⟩,by rw[jK,kO];omega,by omega,_,_,sW true _ [lf.take (aW c)++lf.drop (aW c+1)],rfl,rfl⟩
 ·rintro δ ⟨o6,o7,rfl⟩
  refine hU _ ?_
  nofun
  rw[ug]
  exact q
def fS(o:Bool)(l:List Cs):List D:=l.map λs=>.tup [.lst o (av s.1),.lst o (az o s.2)]
theorem Wx(o:Bool)(l:List Cs):(fS o l).map D.sh=fS false l:=by
 unfold fS
 rw[cu]
 refine qR λs _=>?_
 show(D.tup [.lst o (av s.1),.lst o (az o s.2)]).sh=_
 rw[mH,dy,dy,km,wJ,dD,dP]
theorem cr9(l:List Cs):(fS false l).all D.pl=true:=by
 rw[dj]
 intro d hd
 obtain⟨s,_,rfl⟩:=bB.mp hd
 show(D.tup [.lst false (av s.1),.lst false (az false s.2)]).pl=true
 rw[kY,dA,dA,fV,fV,n6,oq];rfl
theorem cd2(o:Bool)(a b:List Cs):fS o a++fS o b=fS o (a++b):=by unfold fS;rw[eH]
theorem ct3{o:Bool}{l:List Cs}{i:Nat}{d:D}(hd:(fS o l)[i]?=some d):∃hi:i<l.length,d=.tup [.lst o (av l[i].1),.lst o (az o l[i].2)]:=by
 unfold fS at hd
 rw[cM]at hd
 by_cases hi:i<l.length
 ·rw[aR hi]at hd
  exact⟨hi,(dn hd).symm⟩
 ·rw[gw (by omega)]at hd;cases hd
theorem cb1(o:Bool)(l:List Cs):eA 6 (.lst o (fS o l))=true:=by
 show(fS o l).all (eA 5)=true
 rw[dj]
 intro d hd
 obtain⟨s,_,rfl⟩:=bB.mp hd
 show([D.lst o (av s.1),.lst o (az o s.2)]).all (eA 4)=true
 rw[dA,dA,HY 3 o s.1,C2 2 o o s.2];rfl
theorem b85{m:Bool × Nat}{c:List Nat}{os:List (List Nat)}{N:Nat}(h:∀o∈os,o.length<=N):∀x∈gF m c os,x.length<=N:=λx hx=>by
 obtain⟨o,ho,rfl⟩:=bB.mp hx
 have:=h o ho
 rw[dF,jK,kO,kR]
 omega
def kg(l:List Cs):Nat:=(l.map λs=>2 ^ s.2.length).sum
theorem LB(a b:List Cs):kg (a++b)=kg a+kg b:=by unfold kg;rw[eH,List.sum_append]
theorem Wy:∀l:List Cs,(dE l).length<=kg l
 | []=>mf _
 | s::l=>by
  have ih:=Wy l
  have h1:=Nat.lt_two_pow_self (n:=s.2.length)
  show(fL s++dE l).length<=2 ^ s.2.length+kg l
  rw[dF,show(fL s).length=s.2.length by unfold fL;rw[br,cj]]
  omega
theorem Wz(m:Bool × Nat)(w:Nat)(s:Cs):∀i,i<=s.2.length->kg (((aL i).map λi=>(s,i)).map (gG m w))+2 ^ (s.2.length-i)=2 ^ s.2.length
 | 0,_=>Fp _
 | i+1,h=>by
  have ih:=Wz m w s i (by omega)
  rw[Bf,eH,eH,LB]
  have e:kg (([i].map λi=>(s,i)).map (gG m w))=2 ^ (s.2.length-(i+1)):=by
   show 2 ^ (gF m _ (s.2.drop (i+1))).length+0=_
   rw[ID,kO];rfl
  rw[e]
  have:2 ^ (s.2.length-i)=2 ^ (s.2.length-(i+1))*2:=by rw[<-oO];congr 1;omega
  omega
theorem WA(m:Bool × Nat)(w:Nat):∀l:List Cs,kg ((dE l).map (gG m w))<=kg l
 | []=>bM _
 | s::l=>by
  have ih:=WA m w l
  have h1:=Wz m w s s.2.length (bM _)
  show kg ((fL s++dE l).map (gG m w))<=2 ^ s.2.length+kg l
  rw[eH,LB]
  exact Nat.add_le_add (by rw[<-h1];exact Nat.le_add_right ..) ih
def cT4:Option (List Nat)->D
 | some l=>.lst true (av l)
 | none=>.au
abbrev aL7(t:dY)(P:Program)(w:World)(K:Frag)(mg:Str->Option Value)(base:Heap):bc:=λds Q=>∃(m:Bool × Nat) (G:List (List Nat)),ds=[fD t.aJ t.aM m,.lst false (az false G)]/\m∈aE/\G.length<=64/\RT (ae m) (aj G) G/\0<aj G/\aj G<=12/\Q (cT4 (kI m G))
theorem aL8(T:Txt K mg t):aI P w K mg base aO 4 t.T5 t.T6 ["field","table"] (bf (aL7 t P w K mg base)):=by
 refine bA T.DF.F qy (λds Q h=>by obtain⟨m,G,rfl,hm,hG,hR,Es,hw,q⟩:=h<;>rfl) λaC A outer s H E hr=>⟨_,(aA (aZ (i:=2) qy.nd rfl (ax rfl) (bw T.tD (Em T) hr (ag (bv 1) aq)))
   (aA (aZ (i:=3) qy.nd rfl (ax rfl) (eN (cJ (nL (cJ (eN cZ) (cJ (bw T.KN (Wt T) hr (ag (bv 1) aq)) cZ))) cZ)))
   (aA (vb fJ (bN (iO (bY hr)) (bv 3) (aa (eN cZ)) (bt _))
    (aA (aZ (i:=4) qy.nd rfl (ax rfl) (eN cZ))
    (Cc 3 (aA (gU fJ rfl (G1 (dJ (bv 3))) (nZ (i1:=5) (i2:=6) rfl qy.nd rfl (ax rfl) rfl (ax rfl))
     (aB (gU fJ rfl (sE rfl T.tI (ag (bv 6) aq)) (nZ (i1:=7) (i2:=8) rfl qy.nd rfl (ax rfl) rfl (ax rfl))
      (aA (aZ (i:=9) qy.nd rfl (ax rfl) (aw cm (bv 5) (aa (eN (cJ (aw cm (aa (aw dN (bv 2) (aa (eB (ib) (by rfl) T.g5 gP (ag (bv 6) aq))))) (bv 7)) cZ)))))
      (aA (cA (ia (aa (bw T.Vu (aP5 T) hr (ag (bv 8) aq)))) (aB (aQ (em 9))) cy)
      (aB (nW (i:=4) rfl (by first | exact ax rfl | exact b9 (ax rfl)) (nL (cJ (em 9) (cJ (bw T.Vx (co5 T) hr (ag (bv 0) (ag (bv 8) (ag (aa (zj (bv 6) (yF (aa (aw cm (bv 7) (aa ai)))) yE)) aq)))) cZ))))))))))
    (aB (aZ (i:=3) qy.nd rfl (ax rfl) (em 4)))))))
   (aB (aQ B9))))),λds Q h=>?_⟩
 obtain⟨m,G,rfl,hm,hG,hR,Es,hw,q⟩:=h
 have fk:=(c9 hm).lo
 refine ay λU hU=>?_
 nofun
 refine⟨G,rfl,by omega,λr bj=>by rw[(hR r bj).1];omega,hU _ ?_⟩
 clear hU U
 refine ay λU hU=>?_
 nofun
 refine⟨by decide,G,rfl,by omega,λr bj=>(hR r bj).1,by omega,by decide,by decide,hU _ ?_⟩
 clear hU U
 have Ls:=Lv.start hm Es hR
 refine ay λU hU=>?_
 nofun
 refine⟨λn δ=>∃(l:List Cs) (k:Nat) (o4 o5 o6 o7 o8 o9:Option D),δ=[some (fD t.aJ t.aM m),some (D.lst false (az false G)),some (D.int (aj G)),some (D.lst true (fS true l)),o4,o5,o6,o7,o8,o9]/\Lv m (jF G) (aj G) k l/\k+n=aj G+1/\sY m (aj G) n l=kI m G/\kg l<=4096/\∀s∈l,∀r∈s.2,r.length<=64,⟨aj G+1,[([],eP G)],0,_,_,_,_,_,_,rfl,Ls,by omega,rfl,?_,λs hs r bj=>?_⟩,?_⟩
 ·show 2 ^ (eP G).length+0<=4096
  rw[(Iw (by omega) Es hR).1]
  exact xE (by decide) hw
 ·rw[fI.mp hs]at bj
  have:=((Iw (by omega) Es hR).2.2 r bj).1
  omega
 rintro n δ ⟨l,k,o4,o5,o6,o7,o8,o9,rfl,L,hk,LC,LD,kN⟩
 nofun
 refine⟨by decide,⟨cb1 true l,rfl⟩,?_⟩
 by_cases l0:l=[]
 ·subst l0
  rw[show bF (D.lst true (fS true [])) (D.lst true [])=true from rfl,if_neg (by decide)]
  refine hU _ ?_
  nofun
  have e0:kI m G=none:=by
   rw[<-LC]
   cases n with
   | zero=>rfl
   | succ n=>rfl
  rw[e0]at q
  exact q
 have d0:bF (D.lst true (fS true l)) (D.lst true [])=false:=by
  cases l with
  | nil=>exact absurd rfl l0
  | cons s l=>rfl
 rw[d0,if_pos (by decide)]
 have LF:∀s∈l,jE (aj G) s.1/\s.2.length<=12:=λs hs=>by
  have g:=(L.gs s hs).1
  have gl:=g.le
  exact⟨⟨g.inc,λx hx=>by have:=g.off x hx;omega⟩,by omega⟩
 obtain⟨n,rfl⟩:∃n',n=n'+1:=by
  cases n with
  | succ n=>exact⟨n,rfl⟩
  | zero =>
   exfalso
   cases l with
   | nil=>exact l0 rfl
   | cons s l =>
    have h1:=(LF s (kh ..)).1.len
    have h2:=(L.gs s (kh ..)).2
    omega
 clear hU
 have dK7:∀a,(dE (l.take a)).length<=4096:=λa=>by
  have h1:=Wy (l.take a)
  have h2:=LB (l.take a) (l.drop a)
  rw[Fw]at h2
  omega
 refine ay λU hU=>?_
 nofun
 refine⟨by decide,hU _ ?_⟩
 clear hU
 refine⟨_,rfl,?_⟩
 rw[dD,Wx]
 simp only[jN,jM]
 refine ay λU hU=>?_
 nofun
 refine⟨cr9 l,?_⟩
 rw[Wx]
 refine gS.mk (λa δ=>(∀z∈dE (l.take a),ow z=false)/\∃o5 o6 o7 o8 o9,δ=[some (fD t.aJ t.aM m),some (D.lst false (az false G)),some (D.int (aj G)),some (D.lst false (fS false l)),some (D.lst true (fS true ((dE (l.take a)).map (gG m (aj G))))),o5,o6,o7,o8,o9]) ⟨λz hz=>absurd hz iY,_,_,_,_,_,rfl⟩ ?_ ?_
 ·rintro a d δ hd ⟨qt,o5,o6,o7,o8,o9,rfl⟩
  obtain⟨ha,rfl⟩:=ct3 hd
  clear hd hU
  have hs:=eG ha
  obtain⟨gs,gk⟩:=L.gs _ hs
  obtain⟨hh,LG⟩:=gs.rt
  have g6:=(LF _ hs).2
  have et:dE (l.take (a+1))=dE (l.take a)++fL l[a]:=by
   unfold dE
   rw[qP,aR ha,Np,YZ,List.flatMap_cons,List.flatMap_nil,fH]
  rw[et]
  have WB:=dK7 (a+1)
  rw[et,dF]at WB
  generalize hS:l[a]=s0 at hs gs gk LG g6 et WB ⊢
  have l1:(fL s0).length=s0.2.length:=by unfold fL;rw[br,cj]
  nofun
  refine gS.mk (λi δ=>(∀z∈(fL s0).take i,ow z=false)/\∃o7 o8 o9,δ=[some (fD t.aJ t.aM m),some (D.lst false (az false G)),some (D.int (aj G)),some (D.lst false (fS false l)),some (D.lst true (fS true ((dE (l.take a)++(fL s0).take i).map (gG m (aj G))))),some (D.lst false (av s0.1)),some (D.lst false (az false s0.2)),o7,o8,o9]) ⟨λz hz=>absurd hz iY,_,_,_,by rw[List.take_zero,fH]⟩ ?_ ?_
  ·rintro i d δ hd ⟨Ar,o7,o8,o9,rfl⟩
   obtain⟨hi,rfl⟩:=RI hd
   clear hd
   obtain⟨cl,ca⟩:=LG _ (eG hi)
   have gc:s0.2.getD i []=s0.2[i]:=by rw[aS,aR hi];rfl
   have gle:=gs.le
   have ei:(fL s0).take (i+1)=(fL s0).take i++[(s0,i)]:=by
    rw[qP]
    congr 1
    unfold fL
    rw[cM,jL hi];rfl
   have hh6:hh<=64:=by have:=kN _ hs _ (eG hi);omega
   have il1:=(LF _ hs).1.len
   simp only[jz,jN,jM]
   refine ay λU hU=>?_
   nofun
   have eb:av s0.1++[D.int ((aj G:Int)-(s0.2.length:Int)+(i:Int))]=av (j8 (aj G) (s0,i)):=by
    unfold j8
    rw[cT,cT,eH]
    show _=_++[D.int ((aj G-s0.2.length+i:Nat):Int)]
    rw[show(aj G:Int)-(s0.2.length:Int)+(i:Int)=((aj G-s0.2.length+i:Nat):Int) by omega]
   rw[eb]
   refine⟨by decide,by omega,hU _ ?_⟩
   clear hU
   refine ay λU hU=>?_
   nofun
   refine⟨s0.2[i],rfl,by omega,nul s0.2[i],rfl,?_⟩
   cases hz:nul s0.2[i]with
   | true =>
    rw[if_pos rfl]
    have ef:kI m G=some (j8 (aj G) (s0,i)):=by
     rw[<-LC,sY,if_neg l0]
     have:(dE l).find? ow=some (s0,i):=by
      refine YX.mpr ⟨by show nul (s0.2.getD i [])=true;rw[gc];exact hz,dE (l.take a)++(fL s0).take i,(fL s0).drop (i+1)++dE (l.drop (a+1)),?_,λz zQ=>?_⟩
      ·have e1:dE l=dE (l.take (a+1))++dE (l.drop (a+1)):=by
        conv=>lhs;rw[<-Fw (a+1) l]
        unfold dE
        rw[YZ]
       have e2:fL s0=(fL s0).take i++(s0,i)::(fL s0).drop (i+1):=by
        conv=>lhs;rw[<-Fw (i+1) (fL s0),ei,eE]
        rfl
       rw[e1,et]
       conv=>lhs;rw[e2]
       simp only[eE,uk]
      ·have:=(cI.mp zQ).elim (qt z) (Ar z)
       rw[this];rfl
     rw[this];rfl
    rw[ef]at q
    exact q
   | false =>
    rw[if_neg (by decide)]
    refine hU _ ?_
    clear hU
    nofun
    rw[show((i:Int)+1)=((i+1:Nat):Int) by omega,HB,ei]
    refine⟨⟨_,rfl⟩,m,s0.2[i],s0.2.drop (i+1),rfl,hm,hz,by omega,ca,λr bj=>by rw[cl];exact LG r (qQ bj),by rw[kO];omega,by rw[fW,ql];rfl,by decide,?_,λz zQ=>?_,_,_,_,?_,rfl,rfl,rfl⟩
    ·unfold fS
     rw[br,br,dF,jK]
     omega
    ·rcases cI.mp zQ with y | y
     ·exact Ar z y
     ·rw[fI.mp y]
      show nul (s0.2.getD i [])=false
      rw[gc];exact hz
    ·rw[<-eE,eH (l₁:=dE (l.take a)++(fL s0).take i),<- cd2]
     congr 1
     show _=[D.tup [.lst true (av (gG m (aj G) (s0,i)).1),.lst true (az true (gG m (aj G) (s0,i)).2)]]
     show _=[D.tup [.lst true (av (j8 (aj G) (s0,i))),.lst true (az true (gF m (s0.2.getD i []) (s0.2.drop (i+1))))]]
     rw[gc]
  ·rintro δ ⟨Ar,o7,o8,o9,rfl⟩
   rw[show(gb (az false s0.2)).length=(fL s0).length by rw[sD,lL,l1],ug]at Ar ⊢
   exact⟨λz hz=>(cI.mp hz).elim (qt z) (Ar z),_,_,_,_,_,rfl⟩
 ·rintro δ ⟨qt,o5,o6,o7,o8,o9,rfl⟩
  refine hU _ ?_
  clear hU
  rw[show(fS false l).length=l.length by unfold fS;rw[br],ug]at qt ⊢
  nofun
  have hf:(dE l).find? ow=none:=NH.mpr λz hz=>by rw[qt z hz];decide
  refine⟨n,by omega,_,k+1,_,_,_,_,_,_,⟨rfl,rfl,rfl,rfl,rfl,rfl,rfl⟩,L.next hm (Sy hm hR) qt,by omega,?_,?_,λs hs r bj=>?_⟩
  ·rw[<-LC,sY,if_neg l0,hf]
  ·exact fO (WA m (aj G) l) LD
  ·obtain⟨z,hz,rfl⟩:=bB.mp hs
   exact b85 (λo ho=>kN _ (wQ.mp hz).1 o (qQ ho)) r bj
abbrev bB1(t:dY):List D->List Str->List D->Prop:=λds ns xs=>∃(m:Bool × Nat) (G:List (List Nat)) (Fb:List Nat),ds=[fD t.aJ t.aM m,.lst false (az false G)]/\eY m G/\1<=G.length/\G.length<=12/\2<=aj G/\aj G<=12/\kI m G=some Fb/\ns=(["field","length","check_rows","word_rows","message_places","size","bound"]:List Str)/\xs=mZ t.aJ t.aM true m G++[.int (Fb.length:Nat)]
theorem Et(T:Txt K mg t)(hB:Bm mg base):aI P w K mg base aO 5 t.Kp t.T7 ["self","field","table"] (zS [t.ig,t.ij] t.bo (bB1 t)):=by
 refine T.Ab.F.ok aF3 (λvs H Q E h=>?_) λaC A outer s H vs Q E hr h=>?_
 ·obtain⟨F,H0,x,dx,bW,ds,ns,xs,rfl,_,_,_,_,_,r,⟨m,G,Fb,rfl,_⟩,_⟩:=h
  have:=r.length
  simp at this
  simp[this]
 obtain⟨F,H0,x,dx,bW,ds,ns,xs,rfl,tb,e0,gD,s0,hx,r,⟨m,G,Fb,rfl,hc,g1,Aq,w2,w6,hF,rfl,rfl⟩,q⟩:=h
 have hm:=hc.hm
 have hG:=hc.rt
 obtain⟨vf,Eu,B1,B2,rfl,LH,rf,r2⟩:=R.dh r
 obtain⟨rfl,rfl⟩:=qO.mp LH.symm
 obtain⟨vc,GS,B1,B2,rfl,dK9,rc,r3⟩:=R.dh r2
 obtain⟨rfl,rfl⟩:=qO.mp dK9.symm
 cases r3
 refine⟨_,ff (q8 (BD (BB (jo ((aG0 T).mono (by decide)) hr rfl T.DD.g T.DD.F.kp T.DD.b .nil b8 (bV (pv 1) (bV (pv 2) fg))))) (jl q9) pd)
  (ff (q8 (bN (dO (bY hr)) (aa (pM ((cp3 T).mono (by decide)) hr rfl T.DE.g T.DE.F.kp T.DE.b b8 (ag (bv 1) (ag (bv 2) aq)))) (aa (eB (ib) (by rfl) T.g5 gP (ag (bJ (bv 2) (aa ai) (λ_ _=>rfl)) aq))) (bt _)) (jl q9) pd)
  (ff (q0 (IH (E:=E0) T.Lh ((Lq T).mono (by decide)) hr T.DC.b b8 rfl T.Ag (bV (pv 0) (bV (pv 1) (bV (pv 2) fg)))))
  (jl (hV (pv 0) (eB (ib) (by rfl) T.g5 gP (ag (aa (pM ((aL8 T).mono (by decide)) hr rfl T.DF.g T.DF.F.kp T.DF.b b8 (ag (bv 1) (ag (bv 2) aq)))) aq)) rfl)))),?_⟩
 try dsimp only[kG,kH]
 refine⟨_,rfl,_,rfl,F,[fD t.aJ t.aM m,.lst false (az false G)],λd=>d=.bl true,e0.trans s0,R.cons (A:=[]) (rf.shared (L3.af.refl _) s0) (rc.shared (L3.af.refl _) s0),⟨m,G,rfl,hm,hG,g1,Aq,w2,by omega,rfl⟩,λd v F1 H1 A1 hd fc An Lr Wl r1 Wm Lu=>?_⟩
 subst hd
 cases r1
 refine⟨true,rfl,?_⟩
 refine iD ?_
 have s1:=s0.trans fc
 have bU:=fc.get _ _ hx rfl
 have nr:(bG m G).length≠aj G:=λz=>by
  obtain⟨⟨Hd,I⟩,iR⟩:=hc.red
  have:=I.wL hm iR
  have h0:=hc.sz
  unfold cL at h0
  omega
 refine⟨⟨H1,F⟩,F,[none,some (fD t.aJ t.aM m),some (.lst false (az false G))],[],λb _=>b=false,ao.self (e0.trans s1) (.eo (A:=[]) (C:=[]) (rf.shared (L3.af.refl _) s1) (.eo (A:=[]) (C:=[]) (rc.shared (L3.af.refl _) s1) .nil)),?_,λb ah F2 H2 hb hf2 eI c2=>?_⟩
 ·nofun
  refine⟨m,G,rfl,hm,by omega,hG,by omega,?_⟩
  obtain⟨g,G',rfl⟩:∃g G',G=g::G':=by
   cases G with
   | nil=>exact absurd g1 (by decide)
   | cons g G'=>exact⟨g,G',rfl⟩
  refine⟨.lst false (av g),zL false (T:=g::G') (i:=0) (NL _),sC 5 ((bG m (g::G')).length:Nat),?_⟩
  rw[ie,fw]
  exact decide_eq_false λz=>nr (Int.ofNat.inj z)
 subst hb
 refine iD ?_
 have s2:=s1.trans eI
 have dH:=eI.get _ _ bU rfl
 refine⟨.ref x,rfl,vf,rfl,vc,rfl,F,H0,x,dx,t.bo,vf,vc,m,G,[],rfl,e0,gD,s2,dH,.nil,⟨T.m3,T.DU,T.DV,T.DT,T.DX,T.K3,T.DW⟩,rf,rc,hm,hG,by omega,by omega,λH' p1 p2 p3 B1 B2 B3 sx df k1 k2 k3 nd fr=>?_⟩
 have so:=bO.of0 gD s2 sx
 refine⟨⟨H',F⟩,F,[none,some (fD t.aJ t.aM m),some (.lst false (az false G))],[],λd _=>d=.int (Fb.length:Nat),ao.self (e0.trans so) (.eo (A:=[]) (C:=[]) (rf.shared (L3.af.refl _) so) (.eo (A:=[]) (C:=[]) (rc.shared (L3.af.refl _) so) .nil)),?_,λd ah v F3 H3 hd Ao ik c3=>?_⟩
 ·nofun
  refine⟨m,G,rfl,hm,by omega,hG,by omega,w6,?_⟩
  rw[hF]
  show(((av Fb).length:Nat):Int)=_
  rw[fw]
 subst hd
 obtain⟨A3,C3,r3,_,nd3,_⟩:=c3.own
 obtain rfl:v=.int (Fb.length:Nat):=by cases r3;rfl
 have fE:=ik.get _ _ df rfl
 refine⟨.ref x,rfl,x,t.bo,dx,_,rfl,fE,T.m3,T.DS,by show 6<1000;decide,?_⟩
 have mv:∀{ds:List D} {vs:List V} {A':List Addr} {fs':List (Str × V)},R (λ_=>none) H' ds vs A'->ds.all D.fr=true->R (λ_=>none) (upd H3 x (.ins t.bo dx fs')) ds vs A':=λr hd=>(r.grow (L3.af.refl _) ik λa ha=>(r.lists a ha).2).sQ fE hd
 have fR:∀X:List (List Nat),[D.lst true (az true X)].all D.fr=true:=λX=>by rw[dA,fW,ql];rfl
 have fN:∀X:List Nat,[D.lst true (av X)].all D.fr=true:=λX=>by rw[dA,iU];rfl
 have z:=((((fc.trans eI).x (x:=x)).trans sx).trans (ik.x (x:=x))).trans (bO.upd (C:=x) (dx:=dx) fE rfl (o':=.ins t.bo dx (bC "bound" (.int (Fb.length:Nat)) ([]++oA.zip [vf,.int (aj G:Nat),.ref p1,.ref p2,.ref p3,.int ((cL m G).length:Nat)]))))
 refine q _ [vf,.int (aj G:Nat),.ref p1,.ref p2,.ref p3,.int ((cL m G).length:Nat),.int (Fb.length:Nat)] (B1++(B2++(B3++[]))) z (by rw[bH];rfl) rfl ?_ ?_ ?_
 ·have e:=e0.trans s0
  have up:∀{xq:Hp} {ds:List D} {vs:List V} {B:List Addr},R (λ_=>none) xq ds vs B->(∀a∈B,H2 a=none)->R F xq ds vs B:=λr h=>r.keep (L3.af.of λb o e=>by cases e) (gn.same (L3.af.refl _)) gQ.nil (λa ha=>e.free ((fc.trans eI).free (h a ha))) (by simp)
  exact R.cons (A:=[]) (rf.shared (L3.af.refl _) (bO.of0 gD s0 z)) (.int (R.cons (up (mv k1 (fR _)) λa ha=>fr a (eR _ ha)) (R.cons (up (mv k2 (fR _)) λa ha=>fr a (dq _ (eR _ ha))) (R.cons (up (mv k3 (fN _)) λa ha=>fr a (dq _ (dq _ ha))) (.int (.int .nil))))))
 ·rw[fH];exact nd
 ·rw[fH]
  intro a ha
  exact(fc.trans eI).free (fr a ha)
abbrev aP6(t:dY):bc:=λds Q=>∃(m:Bool × Nat) (G:List (List Nat)) (k:Kd),ds=[fM t m G k]/\eY m G/\Q (.lst true (az true (bI m G)))
theorem WC(T:Txt K mg t):aI P w K mg base aO 2 t.zX t.T8 ["self"] (bf (aP6 t)):=by
 refine bA T.KO.F aO6 (λds Q h=>by obtain⟨m,G,k,rfl,hc,q⟩:=h<;>rfl) λaC A outer s H E hr=>⟨_,(aB (aQ (bw T.xh (Lp T) hr (ag (bZ (K:=K) (bv 0)) aq)))),λds Q h=>?_⟩
 obtain⟨m,G,k,rfl,hc,q⟩:=h
 have hw:=hc.IK
 have hf:=hc.wN
 nofun
 refine V2 T m G k ⟨_,by rw[dD,dP],by rw[jH];omega,by rw[fW,ql,kQ,kS],q⟩
abbrev aK4(t:dY):bc:=λds Q=>∃(m:Bool × Nat) (G:List (List Nat)) (k:Kd) (Fb:List Nat),ds=[fM t m G k]/\eY m G/\2<=aj G/\aj G<=12/\(cL m G).length<aj G/\eY m (bI m G)/\kI m (bI m G)=some Fb/\Q (fM t m (bI m G) (.jG Fb.length))
theorem WD(T:Txt K mg t)(hB:Bm mg base):aI P w K mg base aO 7 t.Kq t.Kr ["code"] (pZ [t.ig,t.ij] (bf (aK4 t))):=by
 refine zA T.l7.F SY (λds Q h=>by obtain⟨m,G,k,Fb,rfl,hc,w2,qE,hs,oY,hF,q⟩:=h<;>rfl) λaC A outer s H E hT hr=>⟨_,(aA (G0 (aa (pM (Cy ((V4 T).mono (by decide))) hr rfl T.tw.g T.tw.F.kp T.tw.b Cw (ag (bv 0) aq))))
   (aA (cA (bN (dO (bY hr)) (bZ (K:=K) (bv 0)) (bZ (K:=K) (bv 0)) (bt _)) (aB GZ) cy)
   (aB (aQ (s9 hT T.xk ((Et T hB).mono (by decide)) hr rfl T.tJ T.Ab.b b8 (ag (bZ (K:=K) (bv 0)) (ag (IF (wD (P:=P) (w:=w) (K:=K) (mg:=mg) (base:=base) (n:=2) (bv 0) (hr.mono (by decide)))) aq))))))),λds Q h=>?_⟩
 obtain⟨m,G,k,Fb,rfl,hc,w2,qE,hs,oY,hF,q⟩:=h
 refine ay λU hU=>?_
 nofun
 rw[qv]
 refine⟨m,G,k,rfl,λ_=>⟨by rw[tu];rfl,hU _ ?_⟩,λh=>absurd h (by omega)⟩
 clear hU U
 refine ay λU hU=>?_
 nofun
 refine qB T m G k ?_
 refine oH T m G k ⟨⟨rfl,rfl⟩,?_⟩
 rw[ie,decide_eq_false (by omega),if_neg (by decide)]
 refine hU _ ?_
 clear hU U
 nofun
 refine tK T m G k ?_
 refine V3 T T.DY T.D8 T.Eg (WC T) T.KO.b (by decide) ⟨m,G,k,rfl,hc,?_⟩
 have l1:=hc.sz
 have l2:=jH m G
 have l3:=hc.wide
 refine⟨by rw[wH,dD,dP,fV,oq];rfl,_,_,⟨m,bI m G,Fb,by rw[dD,dP],oY,by omega,by omega,by omega,by omega,hF,rfl,rfl⟩,?_⟩
 rw[eH,qu]
 exact q
abbrev aI2:bc:=λds Q=>∃(o:Bool) (xs:List D),ds=[.lst false xs,.int (xs.length:Nat)]/\Q .au
theorem aI3(T:Txt K mg t):aI P w K mg base aO 1 t.T9 t.Ua ["signs","length"] (bf (aI2 )):=by
 refine bA T.Vy.F aH7 (λds Q h=>by obtain⟨o,xs,rfl,q⟩:=h<;>rfl) λaC A outer s H E hr=>⟨_,(aB (cA (bN (iO (bY hr)) (aa (eB (ib) (by rfl) T.g5 gP (ag (bv 0) aq))) (bv 1) (bt _)) (aB GZ) cy)),λds Q h=>?_⟩
 obtain⟨o,xs,rfl,q⟩:=h
 nofun
 rw[if_neg (by decide)]
 exact q
abbrev aG2(t:dY):bc:=λds Q=>∃(m:Bool × Nat) (l:List Nat),ds=[fD t.aJ t.aM m,.lst false (av l)]/\m∈aE/\AllLt (ae m) l/\l.length<=64/\Q .au
theorem aG3(T:Txt K mg t):aI P w K mg base aO 2 t.Ub t.Uc ["field","signs"] (bf (aG2 t)):=by
 refine bA T.Vz.F S0 (λds Q h=>by obtain⟨m,l,rfl,hm,hl,LD,q⟩:=h<;>rfl) λaC A outer s H E hr=>⟨_,(aB (gU fJ rfl (sE rfl T.tI (ag (bv 1) aq)) (nZ (i1:=2) (i2:=3) rfl S0.nd rfl (ax rfl) rfl (ax rfl))
    (aB (cA (rK (ia (aa (iT (P:=P) (w:=w) (K:=K) (mg:=mg) (base:=base) (n:=1) (bv 0) (hr.mono (by decide)) (ag (bv 3) aq))))) (aB GZ) cy)))),λds Q h=>?_⟩
 obtain⟨m,l,rfl,hm,hl,LD,q⟩:=h
 nofun
 refine gS.mk (λj δ=>∃o1 o2,δ=[some (fD t.aJ t.aM m),some (D.lst false (av l)),o1,o2]) ⟨_,_,rfl⟩ ?_ ?_
 ·rintro j d δ hd ⟨o1,o2,rfl⟩
  obtain⟨h1,rfl⟩:=ch3 hd
  have:=hl _ (eG h1)
  nofun
  refine Lz T m (.inl ⟨_,rfl,?_⟩)
  rw[decide_eq_true (by omega),decide_eq_true (by omega)]
  exact⟨true,rfl,by rw[if_neg (by decide)];exact⟨_,_,rfl,rfl⟩⟩
 ·rintro δ ⟨o1,o2,rfl⟩
  exact q
abbrev WE(K:Frag):bc:=λds Q=>∃(C:Addr) (p:Nat) (xs ys:List Nat),ds=[sS C p,.lst false (av xs),.lst false (av ys)]/\cC K C/\bg K C "products"/\p∈gW/\xs.length=ys.length/\xs.length<=64/\(∀x∈xs,x<ae (true,p))/\(∀y∈ys,y<ae (true,p))/\Q (.int ((dr (gm (true,p)) xs ys).foldl (· ^^^ ·) 0:Nat))
theorem aK5(T:Txt K mg t):aI P w K mg base aO 1 t.Ks t.Ud ["self","xs","ys"] (bf (WE K)):=by
 refine bA T.VA.F zT (λds Q h=>by obtain⟨C,p,xs,ys,rfl,hC,hn,hp,hl,kN,hx,hy,q⟩:=h<;>rfl) λaC A outer s H E hr=>⟨_,(aA (aZ (i:=3) zT.nd rfl (ax rfl) (dJ (bZ (K:=K) (bv 0))))
   (aA (aZ (i:=4) zT.nd rfl (ax rfl) ai)
   (aA (gU fJ rfl (wa rfl T.xo (ag (bv 1) (ag (bv 2) aq))) (nZ (i1:=5) (i2:=6) rfl zT.nd rfl (ax rfl) rfl (ax rfl))
    (aB (yr (i:=4) zT.nd rfl (ax rfl) (bJ (bJ (bv 3) (bv 5) (λ_ _=>rfl)) (bv 6) (λ_ _=>rfl)) Ci)))
   (aB (aQ (em 4)))))),λds Q h=>?_⟩
 obtain⟨C,p,xs,ys,rfl,hC,hn,hp,hl,kN,hx,hy,q⟩:=h
 refine ay λU hU=>?_
 nofun
 refine⟨C,_,_,_,rfl,hC,hn,rfl,by rw[fV,b91];rfl,hU _ ?_⟩
 clear hU U
 refine ay λU hU=>?_
 nofun
 refine hU _ ?_
 clear hU U
 refine ay λU hU=>?_
 nofun
 refine⟨_,_,rfl,rfl,?_⟩
 refine gS.mk (λi δ=>∃o1 o2,δ=[some (sS C p),some (.lst false (av xs)),some (.lst false (av ys)),some (.lst false (oj (fl (true,p)) (eW (fl (true,p))))),some (.int (((dr (gm (true,p)) xs ys).take i).foldl (· ^^^ ·) 0:Nat)),o1,o2]) ⟨none,none,rfl⟩ ?_ ?_
 ·rintro i d δ hd ⟨o1,o2,rfl⟩
  obtain⟨hi,hj,rfl⟩:∃(hi:i<xs.length) (hj:i<ys.length),d=.tup [.int (xs[i]:Nat),.int (ys[i]:Nat)]:=by
   unfold fm at hd
   rw[cT,cT,Fl]at hd
   by_cases hi:i<xs.length
   ·have hj:i<ys.length:=by omega
    rw[qS,aR hi,aR hj]at hd
    exact⟨hi,hj,(dn hd).symm⟩
   ·rw[gw (by simp;omega)]at hd;cases hd
  have bU:=hx xs[i] (eG _)
  have As:=hy ys[i] (eG _)
  nofun
  refine⟨_,CV hp bU,_,CU hp bU As,_,_,?_,rfl,rfl⟩
  rw[nH,List.take_succ,Be,qS,aR hi,aR hj];rfl
 ·rintro δ ⟨o1,o2,rfl⟩
  refine hU _ ?_
  nofun
  have e:(fm (av xs) (av ys)).length=xs.length:=by unfold fm;rw[kR,fw,fw];omega
  rw[e,A8 (by rw[kR];omega)]
  exact q
abbrev WG(K:Frag):bc:=λds Q=>∃(C:Addr) (p:Nat) (xs ys:List Int),ds=[sR C p,.lst false (aG xs),.lst false (aG ys)]/\cC K C/\bg K C "prime"/\0<p/\xs.length=ys.length/\xs.length<=64/\(∀x∈xs,0<=x/\x<64)/\(∀y∈ys,0<=y/\y<64)/\Q (.int ((dr (· * ·) xs ys).sum%p))
theorem aG4(T:Txt K mg t):aI P w K mg base aO 1 t.Kt t.Ue ["self","xs","ys"] (bf (WG K)):=by
 refine bA T.VB.F aF4 (λds Q h=>by obtain⟨C,p,xs,ys,rfl,hC,hn,hp,hl,kN,hx,hy,q⟩:=h<;>rfl) λaC A outer s H E hr=>⟨_,(aB (aQ (aw cK (aa (eB (cN8 rfl) (by rfl) T.dD9 cA3 (ag (aa (eC [] ["x","y"] rfl (wa rfl T.xo (ag (bv 1) (ag (bv 2) aq))) (λ_ _ _ _=>(w4 (i1:=0) (i2:=1) (show(["x","y"]:List Str).Nodup by decide +kernel))) (λ_ _ _ _=>dM) (λ_ _ _ _=>(aw fY (bv 0) (bv 1))) rfl)) aq))) (bZ (K:=K) (bv 0))))),λds Q h=>?_⟩
 obtain⟨C,p,xs,ys,rfl,hC,hn,hp,hl,kN,hx,hy,q⟩:=h
 nofun
 refine⟨_,_,rfl,rfl,?_⟩
 refine HS (xs.zip ys) (λz=>D.tup [.int z.1,.int z.2]) (λz=>D.int (z.1*z.2)) (Rk xs ys) (λa b h=>by injection h with h;simp at h;exact Prod.ext h.1 h.2) (λz hz=>?_) HU (.inr λ_ _=>rfl) (by rw[Fq,sL];omega) ?_
 ·have z1:=hx z.1 (tZ hz).1
  have z2:=hy z.2 (tZ hz).2
  nofun
  exact iw.ok (.inr ⟨by omega,by omega⟩)
 ·refine⟨(xs.zip ys).map λz=>z.1*z.2,?_,?_⟩
  ·unfold aG;rw[cu];rfl
  ·nofun
   refine⟨C,_,_,.int p,rfl,hC,hn,rfl,?_⟩
   refine⟨by omega,?_⟩
   rw[List.map_zip_eq_zipWith]
   exact q
theorem WH(T:Txt K mg t){m:Bool × Nat}(hm:m∈aE):∃C ns zs sp,fD t.aJ t.aM m=.obj C ns zs/\i9 P w K mg base 1 "dot" C sp/\("dot":Str) ∉ ns/\∀(xs ys:List Nat) (Q:D->Prop),xs.length=ys.length->xs.length<=64->(∀x∈xs,x<ae m)->(∀y∈ys,y<ae m)->Q (.int (gd m xs ys:Nat))->sp [.obj C ns zs,.lst false (av xs),.lst false (av ys)] Q:=by
 have hF:=c9 hm
 obtain⟨k,n⟩:=m
 cases k with
 | true=>exact⟨_,_,_,WE K,rfl,⟨T.e7,_,_,_,T.aJ9,aK5 T,T.VA.b⟩,by decide,λxs ys Q hl kN hx hy q=>⟨_,n,xs,ys,rfl,T.e7,T.tG,wA hm,hl,kN,hx,hy,q⟩⟩
 | false =>
  have qC:n<=64:=hF.hi
  have l2:2<=n:=hF.lo
  have cx:∀l:List Nat,(∀x∈l,x<ae (false,n))->∀z∈l.map (λ(n:Nat)=>(n:Int)),0<=z/\z<64:=λl h z hz=>by
   obtain⟨x,hx,rfl⟩:=bB.mp hz
   have:x<n:=h x hx
   omega
  refine⟨_,_,_,WG K,rfl,⟨T.fC,_,_,_,T.aF7,aG4 T,T.VB.b⟩,by decide,λxs ys Q hl kN hx hy q=>⟨_,n,xs.map (λ(n:Nat)=>(n:Int)),ys.map (λ(n:Nat)=>(n:Int)),rfl,T.fC,T.oG,by omega,by rw[br,br];exact hl,by rw[br];exact kN,cx xs hx,cx ys hy,?_⟩⟩
  have e:((gd (false,n) xs ys:Nat):Int)=(dr (· * ·) (xs.map λ(n:Nat)=>(n:Int)) (ys.map λ(n:Nat)=>(n:Int))).sum%n:=by
   unfold gd
   rw[Rp (by omega) _ _ (by omega),Fp,Rq,Rt,oU]
  rw[<-e];exact q
abbrev aT8(t:dY):bc:=λds Q=>∃(m:Bool × Nat) (xs:List Nat) (G:List (List Nat)),ds=[fD t.aJ t.aM m,.lst false (av xs),.lst false (az false G)]/\m∈aE/\AllLt (ae m) xs/\G.length=xs.length/\xs.length<=64/\RT (ae m) (aj G) G/\aj G<=64/\Q (.lst true (av (ou m xs G (aj G))))
theorem aT9(T:Txt K mg t):aI P w K mg base aO 3 t.Ug t.Uh ["field","row","table"] (bf (aT8 t)):=by
 refine bA T.VC.F aT5 (λds Q h=>by obtain⟨m,xs,G,rfl,hm,hx,hG,yz,hR,hw,q⟩:=h<;>rfl) λaC A outer s H E hr=>⟨_,(aB (aQ (eC [("row",1),("field",0)] ["column"] rfl (iM (aa (bw T.KN (Wt T) hr (ag (bv 2) aq)))) (λ_ _ _ _=>(ft (i:=2) (show(["row","field","column"]:List Str).Nodup by decide +kernel))) (λ_ _ _ _=>dM) (λ_ _ _ _=>(iT (P:=P) (w:=w) (K:=K) (mg:=mg) (base:=base) (n:=1) (bv 1) (hr.mono (by decide)) (ag (bv 0) (ag (bv 2) aq)))) rfl))),λds Q h=>?_⟩
 obtain⟨m,xs,G,rfl,hm,hx,hG,yz,hR,hw,q⟩:=h
 have fk:=(c9 hm).lo
 obtain⟨C,ns,zs,sp,e1,e2,e3,e4⟩:=WH (P:=P) (w:=w) (base:=base) T hm
 nofun
 refine⟨G,rfl,by omega,λr bj=>(hR r bj).1,by omega,?_⟩
 dsimp only
 refine⟨_,rfl,?_⟩
 refine eV (eP G) (λr=>D.lst false (av r)) (λr=>D.int ((gd m xs r:Nat):Int)) (dP true _) (λa b h=>mW a b h) (λr bj=>?_) (.inr λr _=>rfl) (by unfold eP;rw[br,cj,sL];omega) ?_
 ·nofun
  unfold eP at bj
  obtain⟨j,hj,rfl⟩:=bB.mp bj
  exact⟨C,ns,zs,sp,e1,e2,e3,e4 _ _ _ (by rw[br,hG]) yz hx (λy hy=>by
   obtain⟨r,bj,rfl⟩:=bB.mp hy
   exact(hR r bj).2.getD (by omega) j) rfl⟩
 ·unfold ou at q
  rw[cT,cu]at q
  unfold eP
  rw[cu]
  exact q
abbrev WI(t:dY):bc:=λds Q=>∃(m:Bool × Nat) (G:List (List Nat)) (k:Kd) (l:List Nat),ds=[fM t m G k,.lst false (av l)]/\eY m G/\l.length=(cL m G).length/\AllLt (ae m) l/\Q (.lst true (av (jI m G l)))
theorem WJ(T:Txt K mg t):aI P w K mg base aO 4 t.zY t.Ui ["self","message"] (bf (WI t)):=by
 refine bA T.KP.F aJ4 (λds Q h=>by obtain⟨m,G,k,l,rfl,hc,hl,al,q⟩:=h<;>rfl) λaC A outer s H E hr=>⟨_,(aA (G0 (aa (bw T.Vy (aI3 T) hr (ag (bv 1) (ag (bZ (K:=K) (bv 0)) aq)))))
   (aA (G0 (aa (bw T.Vz (aG3 T) hr (ag (bZ (K:=K) (bv 0)) (ag (bv 1) aq)))))
   (aB (aQ (bw T.VC (aT9 T) hr (ag (bZ (K:=K) (bv 0)) (ag (bv 1) (ag (bZ (K:=K) (bv 0)) aq)))))))),λds Q h=>?_⟩
 obtain⟨m,G,k,l,rfl,hc,hl,al,q⟩:=h
 have hw:=hc.IK
 have hf:=hc.wN
 refine ay λU hU=>?_
 nofun
 refine qB T m G k ⟨true,av l,by rw[fw,hl];rfl,rfl,hU _ ?_⟩
 clear hU U
 refine ay λU hU=>?_
 nofun
 refine tK T m G k ⟨m,l,by rw[zI],hc.hm,al,by omega,by rw[wH];rfl,hU _ ?_⟩
 clear hU U
 nofun
 refine tK T m G k (V2 T m G k ⟨m,l,bI m G,by rw[zI,dD,dP],hc.hm,al,by rw[jH];exact hl.symm,by omega,by rw[hc.wide];exact hc.rows,by rw[hc.wide];omega,by rw[iU,kS],?_⟩)
 rw[hc.wide]
 exact q
abbrev aP7:bc:=λds Q=>∃(ns:List Int) (k:Int),ds=[.fz (aG ns),.int k]/\0<=k/\Q (.int (ns.getD k.toNat 0))
theorem g7(T:Txt K mg t):aI P w K mg base aO 1 t.Uj t.Uk ["_law_script","_law_k"] (bf (aP7 )):=by
 refine bA T.gH.F aO7 (λds Q h=>by obtain⟨ns,k,rfl,hk,q⟩:=h<;>rfl) λaC A outer s H E hr=>⟨_,(aA (cA (bN vB (bv 1) (aa (eB (ib) (by rfl) T.g5 gP (ag (bv 0) aq))) (bt _)) (aB (aQ (dJ (bJ (bv 0) (bv 1) (λ_ _=>rfl))))) cy)
   (aB (aQ ai))),λds Q h=>?_⟩
 obtain⟨ns,k,rfl,hk,q⟩:=h
 refine ay λU hU=>?_
 nofun
 split
 ·rename_i h
  exact⟨_,mP hk h,rfl,q⟩
 ·rename_i h
  refine hU _ ?_
  nofun
  rw[aS,gw (by omega)]at q
  exact q
def tM(M n e f:Int):Prop:=2<=n/\n<=M-1/\1<=e/\e<=n-1/\0<=f/\f<=M-2
instance (M n e f:Int):Decidable (tM M n e f):=by unfold tM;infer_instance
abbrev aD3:bc:=λds Q=>∃(M n e f:Int),ds=[.int M,.int n,.int e,.int f]/\Q (.bl (decide (tM M n e f)))
theorem aD4(T:Txt K mg t):aI P w K mg base aO 1 t.Ul t.Um ["many","length","extra","first"] (bf (aD3 )):=by
 refine bA T.DG.F aB2 (λds Q h=>by obtain⟨M,n,e,f,rfl,q⟩:=h<;>rfl) λaC A outer s H E hr=>⟨_,(aB (aQ (uZ (aa (vH lu lu (aa ai) (bv 1) (aa (aw dN (bv 0) (aa ai))))) (uZ (aa (vH lu lu (aa ai) (bv 2) (aa (aw dN (bv 1) (aa ai))))) (xW (vH lu lu (aa ai) (bv 3) (aa (aw dN (bv 0) (aa ai))))))))),λds Q h=>?_⟩
 obtain⟨M,n,e,f,rfl,q⟩:=h
 nofun
 have z:∀b:Bool,(b=true↔tM M n e f)->Q (.bl b):=λb h=>by rw[show b=decide (tM M n e f) by rw[qN,decide_eq_true_eq];exact h];exact q
 unfold tM at z
 repeat' split
 all_goals exact z _ (by simp only[decide_eq_true_eq,oR,false_iff];omega)
abbrev bD8(t:dY):List D->List Str->List D->Prop:=λds ns xs=>∃(m:Bool × Nat) (n e f:Nat),ds=[fD t.aJ t.aM m,.int n,.int e,.int f]/\m∈aE/\2<=n/\n+1<=ae m/\1<=e/\e+1<=n/\f+2<=ae m/\ns=(["extra","first","field","length","check_rows","word_rows","message_places","size"]:List Str)/\xs=[.int e,.int f]++mZ t.aJ t.aM true m (fB m f (aL n) e)
theorem WK(T:Txt K mg t)(hB:Bm mg base):aI P w K mg base aO 5 t.Ku t.DA ["self","field","length","extra","first"] (zS [t.ig,t.ij] t.bx (bD8 t)):=by
 refine T.dB2.ok S1 (λvs H Q E h=>?_) λaC A outer s H vs Q E hr h=>?_
 ·obtain⟨F,H0,x,dx,bW,ds,ns,xs,rfl,_,_,_,_,_,r,⟨m,n,e,f,rfl,_⟩,_⟩:=h
  have:=r.length
  simp at this
  simp[this]
 obtain⟨F,H0,x,dx,bW,ds,ns,xs,rfl,tb,e0,gD,s0,hx,r,⟨m,n,e,f,rfl,hm,h1,h2,h3,h4,h5,rfl,rfl⟩,q⟩:=h
 have Au:=(c9 hm).hi
 obtain⟨vf,Eu,B1,B2,rfl,LH,rf,r2⟩:=R.dh r
 obtain⟨rfl,rfl⟩:=qO.mp LH.symm
 obtain rfl:Eu=[.int n,.int e,.int f]:=by
  cases r2 with
  | int r=>cases r with
   | int r=>cases r with
    | int r=>cases r;rfl
 refine⟨_,ff (q8 (rK (ia (aa (pM ((aD4 T).mono (by decide)) hr rfl T.DG.g T.DG.F.kp T.DG.b b8 (ag (bZ (K:=K) (bv 1)) (ag (bv 2) (ag (bv 3) (ag (bv 4) aq)))))))) (jl q9) pd)
  (ff (hV (pv 0) (pv 3) rfl)
  (ff (hV (pv 0) (pv 4) rfl)
  (ff (ce9 (i:=5) S1.nd rfl (ax rfl) [("field",1),("first",4),("length",2)] ["i"] rfl (jv rfl T.gI (ag (bv 3) aq)) (λ_ _ _ _=>(jY (i:=3) (show(["field","first","length","i"]:List Str).Nodup by decide +kernel) rfl (b9 rfl) (by decide) (ax rfl))) (λ_ _ _ _=>dM) (by exact λ_ _ _ _=>(eC [("field",0),("first",1),("i",3)] ["j"] rfl (jv rfl T.gI (ag (bv 2) aq)) (λ_ _ _ _=>(jY (i:=3) (show(["field","first","i","j"]:List Str).Nodup by decide +kernel) rfl (ax (lookup_relabel_local rfl)) (by decide) (b9 (lookup_relabel_local rfl)))) (λ_ _ _ _=>dM) (λ_ _ _ _=>(iT (P:=P) (w:=w) (K:=K) (mg:=mg) (base:=base) (n:=1) (bv 0) (hr.mono (by decide)) (ag (aa (aw fY (aa (aw cm (bv 1) (bv 2))) (bv 3))) aq))) rfl)) rfl ⟨rfl,⟨rfl,⟨rfl,trivial⟩⟩⟩ (λ_=>by repeat' (first | exact trivial | refine⟨.inl rfl,?_⟩ | refine⟨.inr (.inl rfl),?_⟩ | refine⟨.inr (.inr ⟨_,rfl⟩),?_⟩)) (λ_=>⟨⟨rfl,.inl rfl,.inl rfl,_,rfl,rfl⟩,⟨⟨rfl,.inl rfl,.inl rfl,_,rfl,rfl⟩,⟨⟨rfl,.inl rfl,.inl rfl,_,rfl,rfl⟩,trivial⟩⟩⟩) rfl (by decide +kernel))
  (jl (q0 (IH (E:=E0) T.Lh ((Lq T).mono (by decide)) hr T.DC.b b8 rfl T.Ag (bV (pv 0) (bV (pv 1) (bV (pv 5) fg))))))))),?_⟩
 try dsimp only[kG,kH]
 refine⟨⟨H,F⟩,F,[none,some (fD t.aJ t.aM m),some (.int n),some (.int e),some (.int f),none],[],λb _=>b=false,ao.self (e0.trans s0) (.eo (A:=[]) (C:=[]) (rf.shared (L3.af.refl _) s0) (.eo (A:=[]) (C:=[]) (.int .nil) (.eo (A:=[]) (C:=[]) (.int .nil) (.eo (A:=[]) (C:=[]) (.int .nil) (.au .nil))))),?_,λb ah F1 H1 hb An fc c1=>?_⟩
 ·nofun
  exact cJ4 T m ⟨ae m,n,e,f,rfl,rfl,true,by rw[decide_eq_true (by unfold tM;omega)],rfl⟩
 subst hb
 refine iD ?_
 have s1:=s0.trans fc
 have bU:=fc.get _ _ hx rfl
 refine⟨.int e,rfl,.ref x,rfl,x,t.bx,dx,_,rfl,bU,T.xm,T.Ld,by decide,?_⟩
 have dH:upd H1 x (.ins t.bx dx (bC "extra" (.int e) [])) x=some (.ins t.bx dx [("extra",.int e)]):=by rw[bH];rfl
 have z2:=(fc.x (x:=x)).trans (bO.upd (C:=x) (dx:=dx) bU rfl (o':=.ins t.bx dx (bC "extra" (.int e) [])))
 generalize upd H1 x (.ins t.bx dx (bC "extra" (.int e) []))=H2 at z2 dH ⊢
 refine⟨.int f,rfl,.ref x,rfl,x,t.bx,dx,_,rfl,dH,T.xm,T.Le,by show 1<1000;decide,?_⟩
 have fE:upd H2 x (.ins t.bx dx (bC "first" (.int f) [("extra",.int e)])) x=some (.ins t.bx dx [("extra",.int e),("first",.int f)]):=by rw[bH];rfl
 have z3:=z2.trans (bO.upd (C:=x) (dx:=dx) dH rfl (o':=.ins t.bx dx (bC "first" (.int f) [("extra",.int e)])))
 generalize upd H2 x (.ins t.bx dx (bC "first" (.int f) [("extra",.int e)]))=H3 at z3 fE ⊢
 have s3:=bO.of0 gD s0 z3
 obtain⟨g1,g2,g3⟩:=Dq hm f n (show 1<=e by omega)
 refine⟨⟨H3,F⟩,F,[none,some (fD t.aJ t.aM m),some (.int n),some (.int e),some (.int f),none],[],λd _=>d=.lst true (az true (fB m f (aL n) e)),ao.self (e0.trans s3) (.eo (A:=[]) (C:=[]) (rf.shared (L3.af.refl _) s3) (.eo (A:=[]) (C:=[]) (.int .nil) (.eo (A:=[]) (C:=[]) (.int .nil) (.eo (A:=[]) (C:=[]) (.int .nil) (.au .nil))))),?_,λd ah v F4 H4 hd hf4 Av c4=>?_⟩
 ·nofun
  refine⟨⟨by omega,by omega⟩,eV (aL e) (λ(i:Nat)=>D.int (i:Int)) (λ(i:Nat)=>D.lst true (av ((aL n).map λ(p:Nat)=>eS m (((f:Int)+(i:Int))*(p:Int))))) (om _ (by omega)) jB (λi hi=>?_) (.inr λ_ _=>iU _) (by rw[cj,sL];omega) ?_⟩
  ·have hi:=di.mp hi
   nofun
   refine⟨⟨by omega,by omega⟩,eV (aL n) (λ(i:Nat)=>D.int (i:Int)) (λ(p:Nat)=>D.int ((eS m (((f:Int)+(i:Int))*(p:Int)):Nat):Int)) (om _ (by omega)) jB (λp Cf=>?_) (.inr λ_ _=>rfl) (by rw[cj,sL];omega) ?_⟩
   ·have:=di.mp Cf
    nofun
    obtain⟨C,ns,xs,sp,e1,e2,e3,e4⟩:=bF6 (P:=P) (w:=w) (base:=base) T hm (n:=((f:Int)+(i:Int))*(p:Int)) (Q:=λr=>r=D.int ((eS m (((f:Int)+(i:Int))*(p:Int)):Nat):Int)) rfl
    exact⟨C,ns,xs,sp,e1,e2,e3,iw.ok (.inl ⟨by omega,by omega⟩),e4⟩
   ·rw[cT,cu];rfl
  ·unfold fB az
   rw[cu];rfl
 subst hd
 obtain⟨A4,C4,r4,_,WL,LJ⟩:=c4.own
 have r4:R F4 H4 [.lst true (az true (fB m f (aL n) e))] [v] A4:=r4
 obtain⟨pc,rfl⟩:=wY r4
 have jJ:=Av.get _ _ fE rfl
 have fR:∀X:List (List Nat),[D.lst true (az true X)].all D.fr=true:=λX=>by rw[dA,fW,ql];rfl
 have xp:∀X:List (List Nat),[D.lst true (az true X)].map D.sh=[D.lst false (az false X)]:=λX=>by rw[dy,dD,dP];rfl
 have r4:=r4.pG (fR _) hf4
 have LJ:∀a∈A4,H3 a=none:=λa ha=>LJ a (eR _ ha)
 have WL:=(iJ.mp WL).1
 have WM:=s3.trans Av
 have xA:x ∉ A4:=λz=>by rw[LJ x z]at fE;cases fE
 have s5:L3.af H0 (L3.bq H0 H4 A4):=iH WM
 have e5:=e0.trans s5
 have r5:R F (L3.bq H0 H4 A4) [.lst true (az true (fB m f (aL n) e))] [.ref pc] A4:=SH r4 λa ha=>by unfold L3.bq;rw[if_pos ha]
 refine⟨.ref x,rfl,vf,rfl,.ref pc,rfl,L3.bq F (L3.bq H0 H4 A4) A4,L3.bq H0 H4 A4,x,dx,t.bx,vf,.ref pc,m,fB m f (aL n) e,[("extra",.int e),("first",.int f)],rfl,nI e5,by rw[pF xA];exact gD,nI WM,jJ,.two _ _,⟨T.xm,T.Eb,T.Ec,T.Ea,T.Ef,T.Lf,T.Ee⟩,rf.shared (iH e5) s5,xp _ ▸ r5.bq e5 A4 λ_ h=>h,hm,by rw[g3];exact g1,by omega,by omega,λH' p1 p2 p3 B1 B2 B3 sx df k1 k2 k3 nd fr=>?_⟩
 have z:=(z3.trans (Av.x (x:=x))).trans sx
 have so:=bO.of0 gD s0 z
 have ee:=e0.trans s3
 refine q H' [.int e,.int f,vf,.int (aj (fB m f (aL n) e):Nat),.ref p1,.ref p2,.ref p3,.int ((cL m (fB m f (aL n) e)).length:Nat)] (B1++(B2++(B3++[]))) z df rfl ?_ ?_ ?_
 ·have up:∀{ds:List D} {vs:List V} {B:List Addr},R (λ_=>none) H' ds vs B->(∀a∈B,H4 a=none)->R F H' ds vs B:=λr h=>r.keep (L3.af.of λb o e=>by cases e) (gn.same (L3.af.refl _)) gQ.nil (λa ha=>ee.free (Av.free (h a ha))) (by simp)
  exact .int (.int (R.cons (A:=[]) (rf.shared (L3.af.refl _) so) (.int (R.cons (up k1 λa ha=>fr a (eR _ ha)) (R.cons (up k2 λa ha=>fr a (dq _ (eR _ ha))) (R.cons (up k3 λa ha=>fr a (dq _ (dq _ ha))) (.int .nil)))))))
 ·rw[fH];exact nd
 ·rw[fH]
  intro a ha
  exact z3.free (by rw[fE];simp) (Av.free (fr a ha))
abbrev aP8(L:Obj->Obj->Addr->Addr->wk->Prop):bc:=λds Q=>∃(a:Nat) (of oc:Obj) (c k:Addr) (g:Nat->Nat->Nat) (l:List Int),ds=[.int a,.bD (.lam of oc c k)]/\L of oc c k (zD g)/\a<64/\HN g a=some l/\Q (.lst true (aG l))
theorem WN(T:Txt K mg t):aI P w K mg base aO 5 t.Uo t.Up ["a","product"] (bf (aP8 (zu P w K mg base 4))):=by
 refine bA T.KQ.F Dr (λds Q h=>by obtain⟨a,of,oc,c,k,g,l,rfl,hL,ha,hp,q⟩:=h<;>rfl) λaC A outer s H E hr=>⟨_,(aA (aZ (i:=2) Dr.nd rfl (ax rfl) (eN (cJ ai cZ)))
   (aA (aZ (i:=3) Dr.nd rfl (ax rfl) (QJ (n:=4) (i:=1) rfl (by first | exact ax rfl | exact b9 (ax rfl)) (hr.mono (by decide)) (ag (aa ai) (ag (bv 0) aq))))
   (aA (vb fJ (bN (iO (bY hr)) (bv 3) (aa ai) (bt _))
    (aA (nW (i:=2) rfl (by first | exact ax rfl | exact b9 (ax rfl)) (dJ (bv 3)))
    (aB (aZ (i:=3) Dr.nd rfl (ax rfl) (QJ (n:=4) (i:=1) rfl (by first | exact ax rfl | exact b9 (ax rfl)) (hr.mono (by decide)) (ag (bv 3) (ag (bv 0) aq)))))))
   (aB (aQ (em 2)))))),λds Q h=>?_⟩
 obtain⟨a,of,oc,c,k,g,l,rfl,hL,ha,hp,q⟩:=h
 refine ay λU hU=>?_
 nofun
 refine⟨by decide,hU _ ?_⟩
 clear hU U
 refine ay λU hU=>?_
 nofun
 refine⟨of,oc,c,k,zD g,rfl,hL,1,a,⟨rfl,rfl⟩,1,a,rfl,rfl,by decide,ha,hU _ ?_⟩
 clear hU U
 refine ay λU hU=>?_
 nofun
 refine⟨λm δ=>∃(p:Nat) (acc:List Int),δ=[some (.int a),some (.bD (.lam of oc c k)),some (.lst true (aG acc)),some (.int p)]/\acc.length+m<=70/\CL g a m p acc=some l,⟨64,_,[1],rfl,by decide,hp⟩,?_⟩
 rintro m δ ⟨p,acc,rfl,hn,hg⟩
 nofun
 cases m with
 | zero=>cases hg
 | succ m =>
  unfold CL at hg
  split at hg
  ·rename_i h1
   subst h1
   cases hg
   rw[if_neg (by simp)]
   refine hU _ ?_
   nofun
   exact q
  ·rename_i h1
   rw[if_pos (by simp;omega)]
   split at hg
   ·rename_i h2
    clear hU
    refine ay λU hU=>?_
    nofun
    refine⟨⟨_,rfl⟩,by omega,hU _ ?_⟩
    clear hU
    nofun
    exact⟨of,oc,c,k,zD g,rfl,hL,p,a,⟨rfl,rfl⟩,p,a,rfl,rfl,h2,ha,m,by omega,g p a,acc++[(p:Int)],⟨by rw[<-sA];rfl,rfl⟩,by simp;omega,hg⟩
   ·cases hg
abbrev aL9(L:Obj->Obj->Addr->Addr->wk->Prop):bc:=λds Q=>∃(n:Nat) (of oc:Obj) (c k:Addr) (g:Nat->Nat->Nat) (l:List Int),ds=[.int n,.bD (.lam of oc c k)]/\L of oc c k (zD g)/\zC g n=some l/\Q (.lst true (aG l))
theorem aM0(T:Txt K mg t):aI P w K mg base aO 6 t.Uq t.Ur ["many","product"] (bf (aL9 (zu P w K mg base 4))):=by
 refine bA T.DH.F zU (λds Q h=>by obtain⟨n,of,oc,c,k,g,l,rfl,hL,hp,q⟩:=h<;>rfl) λaC A outer s H E hr=>⟨_,(aA (aZ (i:=2) zU.nd rfl (ax rfl) ai)
   (aA (aZ (i:=3) zU.nd rfl (ax rfl) (bw T.KQ (WN T) hr (ag (bv 2) (ag (bv 1) aq))))
   (aA (vb fJ (bN vB (aa (eB (ib) (by rfl) T.g5 gP (ag (bv 3) aq))) (aa (aw dN (bv 0) (aa ai))) (bt _))
    (aA (yr (i:=2) zU.nd rfl (ax rfl) (aa ai) cG7)
    (aB (aZ (i:=3) zU.nd rfl (ax rfl) (bw T.KQ (WN T) hr (ag (bv 2) (ag (bv 1) aq)))))))
   (aB (aQ (em 3)))))),λds Q h=>?_⟩
 obtain⟨n,of,oc,c,k,g,l,rfl,hL,hp,q⟩:=h
 unfold zC at hp
 split at hp
 ·rename_i l0 h0
  refine ay λU hU=>?_
  nofun
  refine hU _ ?_
  clear hU U
  refine ay λU hU=>?_
  nofun
  refine⟨1,of,oc,c,k,g,l0,rfl,hL,by decide,h0,hU _ ?_⟩
  clear hU U
  refine ay λU hU=>?_
  nofun
  refine⟨λm δ=>∃(st:Nat) (l1:List Int),δ=[some (.int n),some (.bD (.lam of oc c k)),some (.int st),some (.lst true (aG l1))]/\st+m<=63/\CM g n m st l1=some l,⟨62,1,l0,rfl,by decide,hp⟩,?_⟩
  rintro m δ ⟨st,l1,rfl,hn,hg⟩
  nofun
  cases m with
  | zero=>cases hg
  | succ m =>
   unfold CM at hg
   split at hg
   ·rename_i h1
    rw[if_pos (by omega)]
    split at hg
    ·rename_i l2 h2
     clear hU
     refine ay λU hU=>?_
     nofun
     refine hU _ ?_
     clear hU
     nofun
     exact⟨st+1,of,oc,c,k,g,l2,rfl,hL,by omega,h2,m,by omega,st+1,l2,⟨rfl,rfl⟩,by omega,hg⟩
    ·cases hg
   ·rename_i h1
    rw[if_neg (by omega)]
    cases hg
    refine hU _ ?_
    nofun
    exact q
 ·cases hp
abbrev aT0:bc:=λds Q=>∃(l:List Int),ds=[.lst false (aG l)]/\l.length<=64/\(∀x∈l,0<=x/\x.toNat<=l.length)/\Q (.lst true (aG (eW l)))
theorem aT1(T:Txt K mg t):aI P w K mg base aO 1 t.Us t.Ut ["powers"] (bf (aT0 )):=by
 refine bA T.DI.F JK (λds Q h=>by obtain⟨l,rfl,hl,hx,q⟩:=h<;>rfl) λaC A outer s H E hr=>⟨_,(aA (aZ (i:=1) JK.nd rfl (ax rfl) (aw fY (aa (eN (cJ ai cZ))) (aa (aw cm (aa (eB (ib) (by rfl) T.g5 gP (ag (bv 0) aq))) (aa ai)))))
   (aA (gU fJ rfl (sE rfl T.tI (ag (bv 0) aq)) (nZ (i1:=2) (i2:=3) rfl JK.nd rfl (ax rfl) rfl (ax rfl))
    (aB (vS (i:=1) rfl (by first | exact ax rfl | exact b9 (ax rfl)) (dJ (bv 2)) (bv 3))))
   (aB (aQ (em 1))))),λds Q h=>?_⟩
 obtain⟨l,rfl,hl,hx,q⟩:=h
 refine ay λU hU=>?_
 nofun
 refine⟨by decide,⟨by omega,by omega,by omega⟩,hU _ ?_⟩
 clear hU U
 refine ay λU hU=>?_
 nofun
 refine gS.mk (λi δ=>∃o1 o2,δ=[some (.lst false (aG l)),some (.lst true (aG (oi l i))),o1,o2]) ⟨none,none,?_⟩ ?_ ?_
 ·rw[show((l.length:Int)+1).toNat=l.length+1 by omega];rfl
 ·rintro i d δ hd ⟨o1,o2,rfl⟩
  obtain⟨hi,rfl⟩:∃h:i<l.length,d=.tup [.int i,.int l[i]]:=by
   unfold gb aG at hd
   rw[Bc,cM]at hd
   by_cases hi:i<l.length
   ·rw[aR hi]at hd
    simp at hd
    exact⟨hi,hd.symm⟩
   ·rw[gw (by omega)]at hd;simp at hd
  have bU:=hx l[i] (eG _)
  nofun
  refine⟨_,(l[i]).toNat,rfl,?_,_,_,?_,rfl,rfl⟩
  ·unfold i6
   rw[lF,zE,if_pos bU.1,if_pos (by omega)]
  ·unfold aG
   rw[<-xM]
   congr 1
   show _=(oi l i).set (l.getD i 0).toNat (i:Int)
   rw[aS,aR hi];rfl
 ·rintro δ ⟨o1,o2,rfl⟩
  refine hU _ ?_
  simp only[u4,rP,u5,u6,u7,dT,nJ,pJ,pK,dC,rH,pL,rM,rL,rN,u3,pS,vL,sq,vN,vO,uT,uU,uV,uW,uX,uY,u0,rJ,vI,se,sg,ii,rS,vm,rW,vn,vo,vp,vt,vv,vw,iI,iN,vx,vy,vz,vA,rX,pP,vF,vG,gN,vP,vK,u9,ve,vg,vh,vi,vj,vQ,vR,pO,mI,gC,j3,jw,uf,t9,Bi,Bj,rO,lh,kD,si,sj,nY,vV,vX,vW,vY,vZ,v7,pW,kG,wc,sF,zk,sG,v9,jz,kH,ze,zf,dy,km,uk,ud,kj,Bk,aU,uq,ur,jM,jN,xP,exists_eq_left',exists_eq_left,D.bl.injEq,D.int.injEq,D.lst.injEq,D.fz.injEq,D.str.injEq,D.tup.injEq,Bl,and_true,true_and,dA,uj,ni,kQ,yG,yH,yI,yJ,yK,yL,fV,kY,pU,yQ,yR,yS,yT,yU,dD,mH,yM,yN,yO,yP,fW,rF,Bo,Bp,tW,kS,Bq,Br,xC,yY,yZ,y0,y6,y7,y8,y9,lF,nX,su,kF,sA,yW,vU,yV,sC,yX,ie,vT,if_true,oR,if_false,reduceIte,za,decide_eq_true_eq,fw,n6,sH,zr,pY,zo,va,wm,sT,wC,wb,sN,sO,sP,wq,wK,dP,oq,lL,zK,sV,wX,s8,sZ,sD]
  exact q
abbrev aN2(P:Program)(w:World)(K:Frag)(mg:Str->Option Value)(base:Heap)(fs:Addr):Sp:=λvs H Q _=>∃(x dx f C:Addr) (b:Str) (n0:Int) (many:Nat) (of oc:Obj) (c k:Addr) (g:Nat->Nat->Nat) (l:List Int) (st:Int),
 vs=[.ref x,.int many,.ref f]/\H x=some (.ins C dx [(b,.int n0)])/\(∀n∈(["many","wide","powers","logs","step","step_power"]:List Str),b≠n)/\dm1 K C fs/\kA H f of oc c k/\zu P w K mg base 4 of oc c k (zD g)/\Q1 g many l st /\
 ∀H' p1 p2,bO x H H'->H' x=some (.ins C dx ((iS b).zip (CN n0 many p1 p2 st)))->LI H' p1 l->LI H' p2 (eW l)->p1≠p2->H p1=none->H p2=none->Q .au H'
theorem WO(T:Txt K mg t):aI P w K mg base aO 7 t.Kv t.Uu ["self","many","product"] (aN2 P w K mg base t.zW):=by
 refine T.KR.F.ok aM7 (λvs H Q E h=>?_) λaC A outer s H vs Q E hr h=>?_
 ·obtain⟨x,dx,f,C,b,n0,many,of,oc,c,k,g,l,st,rfl,_⟩:=h;rfl
 obtain⟨x,dx,f,C,b,n0,many,of,oc,c,k,g,l,st,rfl,hx,hb,hC,dN1,hL,hF,q⟩:=h
 refine⟨_,ff (hV (pv 0) (pv 1) rfl) (ff (hV (pv 0) (ya FU (Gx (pv 1)) qX) rfl)
  (ff (hV (pv 0) (jo ((aM0 T).mono (by decide)) hr rfl T.DH.g T.DH.F.kp T.DH.b .nil b8 (bV (pv 1) (bV (pv 2) fg))) rfl)
  (ff (hV (pv 0) (jo ((aT1 T).mono (by decide)) hr rfl T.DI.g T.DI.F.kp T.DI.b .nil b8 (bV (rq (pv 0) rfl) fg)) rfl)
  (jl (hV (pv 0) (cv6 (pv 0) hC.cls hC.sp ((Am T).mono (by decide)) hr T.xg.b .nil b8 (bV qX fg)) rfl))))),?_⟩
 try dsimp only[kG,kH]
 have nb:∀n∈(["many","wide","powers","logs","step","step_power"]:List Str),b≠n:=hb
 refine⟨.int many,rfl,.ref x,rfl,x,C,dx,_,rfl,hx,hC.cls,hC.many,m9 (bM 1) (by decide),?_⟩
 rw[wz (by simpa using nb "many" (by simp))]
 generalize e1:upd H x (HO.ins C dx ([(b,V.int n0)]++[(("many":Str),V.int many)]))=H1
 have bU:H1 x=some (.ins C dx [(b,V.int n0),(("many":Str),V.int many)]):=by rw[<-e1,bH];rfl
 have s1:bO x H H1:=by rw[<-e1];exact bO.upd (C:=C) (dx:=dx) hx rfl
 have l1:kA H1 f of oc c k:=by rw[<-e1];exact dN1.sQ hx
 have n1:∀p,H1 p=none->H p=none:=λp h=>zF hx (by rw[e1];exact h)
 refine⟨_,rfl,rfl,_,rfl,rfl,_,_,rfl,rfl,.ref x,rfl,x,C,dx,_,rfl,bU,hC.cls,hC.wide,m9 (bM 2) (by decide),?_⟩
 rw[wz (by simp;exact⟨nb "wide" (by simp),by decide⟩),iq]
 generalize e2:upd H1 x (HO.ins C dx ([(b,V.int n0),(("many":Str),V.int many)]++[(("wide":Str),V.int ((bl many:Nat)-1))]))=H2
 have dH:H2 x=some (.ins C dx [(b,V.int n0),(("many":Str),V.int many),(("wide":Str),V.int ((bl many:Nat)-1))]):=by rw[<-e2,bH];rfl
 have s2:bO x H H2:=by rw[<-e2];exact s1.trans (bO.upd (C:=C) (dx:=dx) bU rfl)
 have l2:kA H2 f of oc c k:=by rw[<-e2];exact l1.sQ bU
 have n2:∀p,H2 p=none->H p=none:=λp h=>n1 p (zF bU (by rw[e2];exact h))
 refine⟨_,rfl,_,rfl,H2,[.int many,.bD (.lam of oc c k)],λd=>d=.lst true (aG l),af.refl _,.int (.bD l2 .nil),⟨many,of,oc,c,k,g,l,rfl,hL,hF.step,rfl⟩,λd v F' H3 A' hd hs hf he h3 r nd fr=>?_⟩
 subst hd
 obtain⟨p1,rfl,hp1,Aw⟩:=Q0 r fr
 have fE:=hs.get _ _ dH
 have s3:=s2.trans (hs.x (x:=x))
 refine⟨.ref x,rfl,x,C,dx,_,rfl,fE,hC.cls,hC.HP,m9 (bM 3) (by decide),?_⟩
 rw[wz (by simp;exact⟨nb "powers" (by simp),by decide,by decide⟩)]
 generalize e4:upd H3 x (HO.ins C dx ([(b,V.int n0),(("many":Str),V.int many),(("wide":Str),V.int ((bl many:Nat)-1))]++[(("powers":Str),V.ref p1)]))=H4
 have jJ:H4 x=some (.ins C dx [(b,V.int n0),(("many":Str),V.int many),(("wide":Str),V.int ((bl many:Nat)-1)),(("powers":Str),V.ref p1)]):=by rw[<-e4,bH];rfl
 have s4:bO x H H4:=by rw[<-e4];exact s3.trans (bO.upd (C:=C) (dx:=dx) fE rfl)
 have p4:LI H4 p1 l:=by rw[<-e4];exact hp1.upd fE (λws z=>by cases z)
 have n4:∀p,H4 p=none->H p=none:=λp h=>n2 p (hs.free (zF fE (by rw[e4];exact h)))
 refine⟨.ref x,rfl,x,C,dx,_,.ref p1,rfl,jJ,hC.cls,hC.HP,by rw[CO (nb "powers" (by simp))];rfl,H4,[.lst false (aG l)],λd=>d=.lst true (aG (eW l)),af.refl _,.shr p4 (lD l) .nil,⟨l,rfl,by have:=hF.len;have:=hF.hi;omega,hF.ins,rfl⟩,λd v F' H5 A' hd kM hf he h3 r nd fr=>?_⟩
 subst hd
 obtain⟨p2,rfl,WQ,tN⟩:=Q0 r fr
 have jg:=kM.get _ _ jJ
 have s5:=s4.trans (kM.x (x:=x))
 have dN3:p1≠p2:=λz=>by rw[<-z]at tN;unfold LI at p4;rw[tN]at p4;cases p4
 refine⟨.ref x,rfl,x,C,dx,_,rfl,jg,hC.cls,hC.dm2,m9 (bM 4) (by decide),?_⟩
 rw[wz (by simp;exact⟨nb "logs" (by simp),by decide,by decide,by decide⟩)]
 generalize e6:upd H5 x (HO.ins C dx ([(b,V.int n0),(("many":Str),V.int many),(("wide":Str),V.int ((bl many:Nat)-1)),(("powers":Str),V.ref p1)]++[(("logs":Str),V.ref p2)]))=H6
 have qD:H6 x=some (.ins C dx (([b,"many","wide","powers","logs"]:List Str).zip [V.int n0,V.int many,V.int ((bl many:Nat)-1),V.ref p1,V.ref p2])):=by rw[<-e6,bH];rfl
 have s6:bO x H H6:=by rw[<-e6];exact s5.trans (bO.upd (C:=C) (dx:=dx) jg rfl)
 have p6:LI H6 p1 l:=by rw[<-e6];exact(p4.same kM).upd jg (λws z=>by cases z)
 have q6:LI H6 p2 (eW l):=by rw[<-e6];exact WQ.upd jg (λws z=>by cases z)
 refine⟨.ref x,rfl,x,dx,_,rfl,qD,by show l9 ("step_power":Str) ((b,V.int n0)::_)=none;rw[CO (nb "step_power" (by simp))];rfl,H6,[.obj C [b,"many","wide","powers","logs"] [.int n0,.int many,.int ((bl many:Nat)-1),.lst false (aG l),.lst false (aG (eW l))],.int 1],λd=>d=.int st,af.refl _,
  .obj qD rfl (.int (.int (.int (.shr p6 (lD l) (.shr q6 (lD _) .nil))))) (.int .nil),⟨C,_,_,1,many,l,st,rfl,hC.cls,hC.HP,hC.many,by show l9 ("powers":Str) ((b,D.int n0)::_)=_;rw[CO (nb "powers" (by simp))];rfl,by show l9 ("many":Str) ((b,D.int n0)::_)=_;rw[CO (nb "many" (by simp))];rfl,hF.lo,hF.st,rfl⟩,λd v F' H7 A' hd oI hf he h3 r nd fr=>?_⟩
 subst hd
 cases r
 have m4:=oI.get _ _ qD
 refine⟨.ref x,rfl,x,C,dx,_,rfl,m4,hC.cls,hC.step,m9 (bM 5) (by decide),?_⟩
 rw[wz (by simp;exact⟨nb "step" (by simp),by decide,by decide,by decide,by decide⟩)]
 refine q _ p1 p2 ((s6.trans (oI.x (x:=x))).trans (bO.upd (C:=C) (dx:=dx) m4 rfl)) (by rw[bH];rfl) ((p6.same oI).upd m4 (λws z=>by cases z)) ((q6.same oI).upd m4 (λws z=>by cases z)) dN3 (n2 p1 Aw) (n4 p2 tN)
abbrev ay2:bc:=λds Q=>∃a:Int,ds=[.int a]/\Q (.bl (decide (2<=a)&&decide (a<=61)&&(aL (a.toNat-2)).all λi=>a%(2+(i:Int)) != 0))
theorem ay3(T:Txt K mg t):aI P w K mg base aO 1 t.Uv t.Uw ["prime"] (bf (ay2 )):=by
 refine bA T.DJ.F ax1 (λds Q h=>by obtain⟨a,rfl,q⟩:=h<;>rfl) λaC A outer s H E hr=>⟨_,(aB (aQ (uZ (aa (vH lu lu (aa ai) (bv 0) (aa ai))) (xW (eB (vJ rfl) (by rfl) T.xn uM (ag (aa (eC [("prime",0)] ["d"] rfl (yu rfl T.gI (ag (aa ai) (ag (bv 0) aq))) (λ_ _ _ _=>(ft (i:=1) (show(["prime","d"]:List Str).Nodup by decide +kernel))) (λ_ _ _ _=>dM) (λ_ _ _ _=>(k9 (iO (bY hr)) (aa (aw cK (bv 0) (bv 1))) (aa ai) (bt _))) rfl)) aq)))))),λds Q h=>?_⟩
 obtain⟨a,rfl,q⟩:=h
 nofun
 split
 ·rename_i h1
  split
  ·rename_i h2
   refine⟨2,a,⟨rfl,rfl⟩,⟨by decide,by decide,by omega,by omega⟩,?_⟩
   have e0:(a-2).toNat=a.toNat-2:=by omega
   rw[e0]
   refine eV (aL (a.toNat-2)) (λ(k:Nat)=>D.int (2+(k:Int))) (λ(k:Nat)=>D.bl (a%(2+(k:Int)) != 0)) (by rw[yt]) (λx y h=>by injection h with h;omega) (λk hk=>?_) (.inr λ_ _=>rfl) (by rw[cj,sL];omega) ?_
   ·nofun
    refine⟨by omega,?_⟩
    by_cases z:a%(2+(k:Int))=0<;>simp[z]
   ·refine⟨(aL (a.toNat-2)).map λ(k:Nat)=>a%(2+(k:Int)) != 0,?_,?_⟩
    ·unfold mL;rw[cu];rfl
    ·have e:(decide (2<=a)&&decide (a<=61)&&(aL (a.toNat-2)).all λi=>a%(2+(i:Int)) != 0)=((aL (a.toNat-2)).map λ(k:Nat)=>a%(2+(k:Int)) != 0).all id:=by
      simp[h1,h2,mm]
     rw[<-e];exact q
  ·rename_i h2
   have e:(decide (2<=a)&&decide (a<=61)&&(aL (a.toNat-2)).all λi=>a%(2+(i:Int)) != 0)=false:=by simp[h2]
   rw[e]at q;exact q
 ·rename_i h1
  have e:(decide (2<=a)&&decide (a<=61)&&(aL (a.toNat-2)).all λi=>a%(2+(i:Int)) != 0)=false:=by simp[h1]
  rw[e]at q;exact q
abbrev aM1:List D->List Str->List D->Prop:=λds ns xs=>∃p:Nat,ds=[.int p]/\p∈oh/\ns=iS "prime"/\xs=[.int p,.int p,.int ((bl p:Nat)-1),.lst true (aG (fl (false,p))),.lst true (aG (eW (fl (false,p)))),.int (fst (false,p))]
theorem aD6(T:Txt K mg t)(hB:Bm mg base):aI P w K mg base aO 8 t.Kw t.Kx ["self","prime"] (HM [t.ig,t.ij] t.aM aM1):=by
 refine QY T.VD.F T.aC5 aB3 (λvs H Q E h=>?_) λA outer s H vs Q E hr h=>?_
 ·obtain⟨x,dx,bW,ds,ns,xs,rfl,_,_,r,⟨p,rfl,_⟩,_⟩:=h
  have:=r.length
  simp at this
  simp[this]
 obtain⟨x,dx,bW,ds,ns,xs,rfl,tb,hx,r,⟨p,rfl,hp,rfl,rfl⟩,q⟩:=h
 obtain rfl:bW=[.int p]:=by
  cases r with
  | int r=>cases r;rfl
 have hm:(false,p)∈aE:=dq _ (Bd hp)
 have hF:=c9 hm
 refine⟨_,ff (q8 (BD (BB (jo ((ay3 T).mono (by decide)) hr rfl T.DJ.g T.DJ.F.kp T.DJ.b .nil b8 (bV (pv 1) fg)))) (jl q9) pd)
  (ff (hV (pv 0) (pv 1) rfl)
  (jl (q0 (QS (E:=E0) (i:=1) T.VW ((WO T).mono (by decide)) hr T.KR.b rfl T.Ei rfl rfl rfl rfl (bV (pv 0) (bV (pv 1) (bV (QK rfl rfl T.aC6 hB) fg))))))),?_⟩
 try dsimp only[kG,kH]
 refine⟨_,rfl,H,[.int p],λd=>d=.bl true,af.refl _,.int .nil,⟨p,rfl,by rw[ch7 p hp]⟩,λd v F' H1 A1 hd fc hf he h3 r nd fr=>?_⟩
 subst hd
 cases r
 refine⟨true,rfl,?_⟩
 refine iD ?_
 have bU:=fc.get _ _ hx
 refine⟨.int p,rfl,.ref x,rfl,x,t.aM,dx,_,rfl,bU,T.fC,T.oG,by decide,?_⟩
 generalize e2:upd H1 x (HO.ins t.aM dx (bC "prime" (.int p) []))=H2
 have dH:H2 x=some (.ins t.aM dx [(("prime":Str),.int p)]):=by rw[<-e2,bH];rfl
 have s2:bO x H H2:=by rw[<-e2];exact(fc.x (x:=x)).trans (bO.upd (C:=x) (dx:=dx) bU rfl)
 have n2:∀p,H2 p=none->H p=none:=λp h=>fc.free (zF bU (by rw[e2];exact h))
 obtain⟨ps,hP⟩:=tb t.ig (by simp)
 obtain⟨more,LL⟩:=s2.tb _ ps hP
 refine⟨.ref x,rfl,.int p,rfl,⟨_,LL⟩,λf k qn pm jC H3 nf Ao hk kf ik hl3=>?_⟩
 refine⟨f,_,_,.int p,Ao,rfl,rfl,λoc u jk hu nc p8=>?_⟩
 obtain⟨tm,rfl⟩:∃tm,u=qF p tm:=hu
 have fE:=ik.get _ _ dH
 refine⟨x,dx,f,t.aM,"prime",p,p,_,oc,_,k,gm (false,p),fl (false,p),fst (false,p),rfl,zG fE (λz=>by rw[z,nf]at dH;cases dH) nc,by decide,⟨T.fC,T.tH,T.K8,T.Ae,T.Ad,T.K7,T.Af⟩,Q3 p8 nc hk kf,?_,hF,λH' p1 p2 sx df LM BV ne Aw tN=>?_⟩
 ·refine QX (n:=3) ⟨rfl,rfl,rfl,by decide,rfl,rfl,by decide,by decide,rfl⟩ jk (λu1 u2=>rfl) λq f A outer s H E hr=>?_
  refine⟨_,aw cK (aa (aw fY (bv 0) (bv 1))) (bv 2),λi j Qd h=>?_⟩
  obtain⟨a,b,rfl,rfl,ha,hb,hq⟩:=h
  nofun
  have hp0:2<=p:=hF.lo
  refine⟨iw.ok (.inr ⟨by omega,by omega⟩),by omega,?_⟩
  have e:((gm (false,p) a b:Nat):Int)=(a:Int)*b%p:=by
   show((a*b%p:Nat):Int)=_
   rw[oU,uo]
  rw[<-e];exact hq
 ·have gf:H' f=some (.ext (jX _ oc _ f)):=sx.get f _ (λz=>by rw[z]at nf;rw[nf]at dH;cases dH) (by rw[aT p8.symm,bH]) rfl
  have gc:=sx.get _ _ (dW fE nc).symm bH rfl
  refine⟨gf,gc,?_⟩
  refine q _ (CN p p p1 p2 (fst (false,p))) [p1,p2] (s2.trans (Q2 ik nf nc sx)) ?_ rfl ?_ (by simp[ne]) (λa ha=>?_)
  ·rw[iP (λz=>by rw[z,gf]at df;cases df) (λz=>by rw[z,gc]at df;cases df)];exact df
  ·exact .int (.int (.int (.own (LM.rem gf gc) rfl (lD _) (.own (BV.rem gf gc) rfl (lD _) (.int .nil)))))
  ·simp at ha
   rcases ha with rfl | rfl
   ·exact n2 _ (CP ik Aw)
   ·exact n2 _ (CP ik tN)
abbrev aK6:bc:=λds Q=>∃(l g:List Int),ds=[.lst false (aG l),.lst false (aG g)]/\1<=l.length/\l.length<=63/\g.length=l.length+1/\(∀x∈g,0<=x)/\Q (.lst true (qf l g))
theorem aK7(T:Txt K mg t):aI P w K mg base aO 1 t.Ux t.Uy ["powers","logs"] (bf (aK6 )):=by
 refine bA T.DK.F Ds (λds Q h=>by obtain⟨l,g,rfl,h1,h2,h3,h4,q⟩:=h<;>rfl) λaC A outer s H E hr=>⟨_,(aA (aZ (i:=2) Ds.nd rfl (b9 rfl) (aw cm (aa (eB (ib) (by rfl) T.g5 gP (ag (bv 0) aq))) (aa ai)))
   (aA (aZ (i:=3) Ds.nd rfl (ax rfl) (eN (cJ (aw fY (aa (eN (cJ ai cZ))) (bv 2)) cZ)))
   (aA (gU fJ rfl (yu rfl T.gI (ag (aa ai) (ag (bv 2) aq))) (jY (i:=4) Ds.nd rfl (b9 rfl))
    (aB (nW (i:=3) rfl (by first | exact ax rfl | exact b9 (ax rfl)) (aw cm (aa (eN (cJ ai cZ))) (aa (eC [("powers",0),("many",2),("logs",1),("a",4)] ["b"] rfl (yu rfl T.gI (ag (aa ai) (ag (bv 2) aq))) (λ_ _ _ _=>(ft (i:=4) (show(["powers","many","logs","a","b"]:List Str).Nodup by decide +kernel))) (λ_ _ _ _=>dM) (λ_ _ _ _=>(dJ (bJ (bv 0) (aa (aw cK (aa (aw cm (bJ (bv 2) (bv 3) (λ_ _=>rfl)) (bJ (bv 2) (bv 4) (λ_ _=>rfl)))) (aa (aw dN (bv 1) (aa ai))))) (λ_ _=>rfl)))) rfl))))))
   (aB (aQ (em 3)))))),λds Q h=>?_⟩
 obtain⟨l,g,rfl,h1,h2,h3,h4,q⟩:=h
 refine ay λU hU=>?_
 nofun
 refine hU _ ?_
 clear hU U
 refine ay λU hU=>?_
 nofun
 refine⟨by decide,⟨by omega,by omega,by omega⟩,by decide,hU _ ?_⟩
 clear hU U
 refine ay λU hU=>?_
 nofun
 refine⟨1,(l.length:Int)+1,⟨rfl,rfl⟩,⟨by decide,by decide,by omega,by omega⟩,?_⟩
 have en:((l.length:Int)+1-1).toNat=l.length:=by omega
 rw[en]
 refine gS.mk (λi δ=>∃o,δ=[some (.lst false (aG l)),some (.lst false (aG g)),some (.int ((l.length:Int)+1)),some (.lst true (wu l g (i+1))),o]) ⟨none,?_⟩ ?_ ?_
 ·rw[show((l.length:Int)+1).toNat=l.length+1 by omega];rfl
 ·rintro i d δ hd ⟨o,rfl⟩
  obtain⟨hi,rfl⟩:i<l.length/\d=.int (1+(i:Int)):=by
   rw[cM]at hd
   by_cases hi:i<l.length
   ·rw[jL hi]at hd
    exact⟨hi,(dn hd).symm⟩
   ·rw[gw (by simpa using hi)]at hd;cases hd
  nofun
  refine⟨⟨_,rfl⟩,by decide,1,(l.length:Int)+1,⟨rfl,rfl⟩,⟨by decide,by decide,by omega,by omega⟩,?_⟩
  rw[en]
  refine eV (aL l.length) (λ(k:Nat)=>D.int (1+(k:Int))) (λ(k:Nat)=>D.int (l.getD ((g.getD (i+1) 0+g.getD (k+1) 0)%(l.length:Int)).toNat 0)) (by rw[yt]) (λx y h=>by injection h with h;omega) (λk hk=>?_) (.inr λ_ _=>rfl) (by rw[cj,sL];omega) ?_
  ·have RP:=di.mp hk
   nofun
   have e1:(1+(i:Int)).toNat=i+1:=by omega
   have e2:(1+(k:Int)).toNat=k+1:=by omega
   have e3:(l.length:Int)+1-1=l.length:=by omega
   have n0:=gL (g.getD (i+1) 0+g.getD (k+1) 0) (show(l.length:Int)≠0 by omega)
   have n1:=g9 (g.getD (i+1) 0+g.getD (k+1) 0) (show(0:Int)<l.length by omega)
   refine⟨_,mP (by omega) (by omega),_,mP (by omega) (by omega),?_⟩
   rw[e1,e2,e3]
   exact⟨by omega,_,mP n0 n1,rfl,rfl⟩
  ·nofun
   refine⟨⟨by simp;omega,by rw[mm,dj];intro x _;rfl⟩,by simp[wu];omega,_,?_,rfl⟩
   unfold wu
   rw[Bf (n:=i+1),eH]
   congr 1
   show _=[D.lst true (aG (qe l g (i+1)))]
   unfold qe
   rw[if_neg (by omega)]
   unfold aG
   rw[dy,cu];rfl
 ·rintro δ ⟨o,rfl⟩
  refine hU _ ?_
  simp only[u4,rP,u5,u6,u7,dT,nJ,pJ,pK,dC,rH,pL,rM,rL,rN,u3,pS,vL,sq,vN,vO,uT,uU,uV,uW,uX,uY,u0,rJ,vI,se,sg,ii,rS,vm,rW,vn,vo,vp,vt,vv,vw,iI,iN,vx,vy,vz,vA,rX,pP,vF,vG,gN,vP,vK,u9,ve,vg,vh,vi,vj,vQ,vR,pO,mI,gC,j3,jw,uf,t9,Bi,Bj,rO,lh,kD,si,sj,nY,vV,vX,vW,vY,vZ,v7,pW,kG,wc,sF,zk,sG,v9,jz,kH,ze,zf,dy,km,uk,ud,kj,Bk,aU,uq,ur,jM,jN,xP,exists_eq_left',exists_eq_left,D.bl.injEq,D.int.injEq,D.lst.injEq,D.fz.injEq,D.str.injEq,D.tup.injEq,Bl,and_true,true_and,dA,uj,ni,kQ,yG,yH,yI,yJ,yK,yL,fV,kY,pU,yQ,yR,yS,yT,yU,dD,mH,yM,yN,yO,yP,fW,rF,Bo,Bp,tW,kS,Bq,Br,xC,yY,yZ,y0,y6,y7,y8,y9,lF,nX,su,kF,sA,yW,vU,yV,sC,yX,ie,vT,if_true,oR,if_false,reduceIte,za,decide_eq_true_eq,fw,n6,sH,zr,pY,zo,va,wm,sT,wC,wb,sN,sO,sP,wq,wK,dP,oq,lL,zK,sV,wX,s8,sZ,br,cj]
  exact q
abbrev aK8(t:dY):lH:=λds Q Ex=>∃a b:Nat,ds=[.int a,.int b]/\bl a<=1000000/\bl b<=1000000/\(b=0->Ex t.eZ)/\(b≠0->∀q r:Nat,a=cl q b ^^^ r->bl r<bl b->Q (.tup [.int q,.int r]))
theorem WR(T:Txt K mg t):aI P w K mg base (jU P w) 1 t.Uz t.UA ["a","b"] (mQ (aK8 t )):=by
 refine Co T.tE.F xb (λds Q Ex h=>by obtain⟨a,b,rfl,ha,hb,qx,q⟩:=h<;>rfl) λaC A outer s H E hr=>⟨_,(aA (cA (bN (dO (bY hr)) (bv 1) (aa ai) (bt _)) (aB (Cr T.VY rfl (by rfl) (ag (aa jt) aq))) cy)
   (aA (aZ (i:=2) xb.nd rfl (ax rfl) ai)
   (aA (aZ (i:=3) xb.nd rfl (ax rfl) (em 0))
   (aA (cL7 (vb fJ (bN PJ (aa (nV (bv 3))) (aa (nV (bv 1))) (bt _))
    (aA (aZ (i:=4) xb.nd rfl (ax rfl) (aw dN (aa (nV (bv 3))) (aa (nV (bv 1)))))
    (aA (yr (i:=2) xb.nd rfl (ax rfl) (aa (aw vq (aa ai) (bv 4))) Ci)
    (aB (yr (i:=3) xb.nd rfl (ax rfl) (aa (aw vq (bv 1) (bv 4))) Ci))))))
   (aB (aQ (nL (cJ (em 2) (cJ (em 3) cZ))))))))),λds Q Ex h=>?_⟩
 obtain⟨a,b,rfl,ha,hb,qx,q⟩:=h
 refine ay λU hU=>?_
 nofun
 split
 ·rename_i h0
  exact⟨by decide,qx (by omega)⟩
 ·rename_i h0
  have b0:b≠0:=by omega
  refine hU _ ?_
  clear hU U
  refine ay λU hU=>?_
  nofun
  refine hU _ ?_
  clear hU U
  refine ay λU hU=>?_
  nofun
  refine hU _ ?_
  clear hU U
  refine ay λU hU=>?_
  nofun
  refine⟨λm δ=>∃(x r:Nat) (o sh:Option D),δ=[o,some (.int b),some (.int (x:Nat)),some (.int (r:Nat)),sh]/\a=cl x b ^^^ r/\bl r<=bl a/\m=bl r,
   ⟨bl a,0,a,_,none,rfl,by rw[pz,oQ],bM _,rfl⟩,?_⟩
  rintro m δ ⟨x,r,o,sh,rfl,inv,hra,rfl⟩
  simp only[u4,rP,u5,u6,u7,dT,nJ,pJ,pK,dC,rH,pL,rM,rL,rN,u3,pS,vL,sq,vN,vO,uT,uU,uV,uW,uX,uY,u0,rJ,vI,se,sg,ii,rS,vm,rW,vn,vo,vp,vt,vv,vw,iI,iN,vx,vy,vz,vA,rX,pP,vF,vG,gN,vP,vK,u9,ve,vg,vh,vi,vj,vQ,vR,pO,mI,gC,j3,jw,uf,t9,Bi,Bj,rO,lh,kD,si,sj,nY,vV,vX,vW,vY,vZ,v7,pW,kG,wc,sF,zk,sG,v9,jz,kH,ze,zf,dy,km,uk,ud,kj,Bk,aU,uq,ur,jM,jN,xP,exists_eq_left',exists_eq_left,D.bl.injEq,D.int.injEq,D.lst.injEq,D.fz.injEq,D.str.injEq,D.tup.injEq,Bl,and_true,true_and,dA,uj,ni,kQ,yG,yH,yI,yJ,yK,yL,fV,kY,pU,yQ,yR,yS,yT,yU,dD,mH,yM,yN,yO,yP,fW,rF,Bo,Bp,tW,kS,Bq,Br,xC,yY,yZ,y0,y6,y7,y8,y9,lF,nX,su,kF,sA,yW,vU,yV,sC,yX,ie,vT,if_true,oR,if_false,reduceIte,za,decide_eq_true_eq,fw,n6,sH,zr,pY,zo,va,wm,sT,wC,wb,sN,sO,sP,wq,wK,dP,oq,lL,zK,sV,wX,s8,sZ,iq]
  split
  ·rename_i hc
   have hle:bl b<=bl r:=by omega
   have less:=OW b0 hle
   have es:(((bl r:Nat):Int)-((bl b:Nat):Int))=((bl r-bl b:Nat):Int):=by omega
   clear hU
   refine ay λU hU=>?_
   nofun
   simp only[iq,es]
   refine hU _ ?_
   clear hU
   refine ay λU hU=>?_
   nofun
   have o1:bl (1:Int).natAbs=1:=by decide
   refine⟨⟨by omega,by omega⟩,hU _ ?_⟩
   clear hU
   simp only[u4,rP,u5,u6,u7,dT,nJ,pJ,pK,dC,rH,pL,rM,rL,rN,u3,pS,vL,sq,vN,vO,uT,uU,uV,uW,uX,uY,u0,rJ,vI,se,sg,ii,rS,vm,rW,vn,vo,vp,vt,vv,vw,iI,iN,vx,vy,vz,vA,rX,pP,vF,vG,gN,vP,vK,u9,ve,vg,vh,vi,vj,vQ,vR,pO,mI,gC,j3,jw,uf,t9,Bi,Bj,rO,lh,kD,si,sj,nY,vV,vX,vW,vY,vZ,v7,pW,kG,wc,sF,zk,sG,v9,jz,kH,ze,zf,dy,km,uk,ud,kj,Bk,aU,uq,ur,jM,jN,xP,exists_eq_left',exists_eq_left,D.bl.injEq,D.int.injEq,D.lst.injEq,D.fz.injEq,D.str.injEq,D.tup.injEq,Bl,and_true,true_and,dA,uj,ni,kQ,yG,yH,yI,yJ,yK,yL,fV,kY,pU,yQ,yR,yS,yT,yU,dD,mH,yM,yN,yO,yP,fW,rF,Bo,Bp,tW,kS,Bq,Br,xC,yY,yZ,y0,y6,y7,y8,y9,lF,nX,su,kF,sA,yW,vU,yV,sC,yX,ie,vT,if_true,oR,if_false,reduceIte,za,decide_eq_true_eq,fw,n6,sH,zr,pY,zo,va,wm,sT,wC,wb,sN,sO,sP,wq,wK,dP,oq,lL,zK,sV,wX,s8,sZ,iq]
   refine⟨⟨by omega,by rw[iq];omega⟩,_,less,x ^^^ 2 ^ (bl r-bl b),r ^^^ b <<< (bl r-bl b),o,_,⟨rfl,?_,?_,rfl⟩,cc0 inv,by omega,rfl⟩
   ·rw[show(1:Int)=((1:Nat):Int) from rfl,uK,nH,Fx]
   ·rw[uK,nH]
  ·rename_i hc
   refine hU _ ?_
   nofun
   refine⟨by decide,q b0 x r inv (by omega)⟩
abbrev aK9:bc:=λds Q=>∃a:Nat,ds=[.int a]/\bl a<=60/\Q (.bl (al a))
theorem aL0(T:Txt K mg t):aI P w K mg base aO 2 t.UB t.UC ["a"] (bf (aK9 )):=by
 refine bA T.VE.F JQ (λds Q h=>by obtain⟨a,rfl,ha,q⟩:=h<;>rfl) λaC A outer s H E hr=>⟨_,(aA (cA (bN vB (bv 0) (aa ai) (bt _)) (aB (aQ kC)) cy)
   (aA (aZ (i:=1) JQ.nd rfl (ax rfl) (aw rV (aa (aw dN (aa (nV (bv 0))) (aa ai))) (aa ai)))
   (aA (gU fJ rfl (yu rfl T.gI (ag (aa ai) (ag (aa (aw vq (aa ai) (aa (aw cm (bv 1) (aa ai))))) aq))) (jY (i:=2) JQ.nd rfl (ax rfl))
    (aB (cA (bN (dO (bY hr)) (bJ (aa (pM (Cy ((WR T).mono (by decide))) hr rfl T.tE.g T.tE.F.kp T.tE.b Cw (ag (bv 0) (ag (bv 2) aq)))) (aa ai) (λ_ _=>rfl)) (aa ai) (bt _)) (aB (aQ kC)) cy)))
   (aB (aQ kC))))),λds Q h=>?_⟩
 obtain⟨a,rfl,ha,q⟩:=h
 refine ay λU hU=>?_
 nofun
 split
 ·rename_i h2
  rw[ce1 (by omega)]at q;exact q
 ·rename_i h2
  have h2:2<=a:=by omega
  have hp:=iE (show a≠0 by omega)
  refine hU _ ?_
  clear hU U
  refine ay λU hU=>?_
  nofun
  simp only[iq]
  refine⟨rT (by omega) (by omega),hU _ ?_⟩
  clear hU U
  have eh:((((bl a:Nat):Int)-1)/2+1)=(((bl a-1)/2+1:Nat):Int):=by omega
  have e1:(1:Int)*2 ^ ((((bl a:Nat):Int)-1)/2+1).toNat=((2 ^ ((bl a-1)/2+1):Nat):Int):=by
   rw[eh,show(1:Int)=((1:Nat):Int) from rfl,uK,Fx]
  have big:2 ^ ((bl a-1)/2+1)<=2 ^ 40:=xE (by decide) (by omega)
  have o1:bl (1:Int).natAbs=1:=by decide
  refine ay λU hU=>?_
  nofun
  rw[e1]
  have ew2:((2 ^ ((bl a-1)/2+1):Nat):Int)<=2 ^ 40:=by exact_mod_cast big
  have nn:(0:Int)<=((2 ^ ((bl a-1)/2+1):Nat):Int):=Nb _
  refine⟨⟨by omega,by omega⟩,_,_,⟨rfl,rfl⟩,⟨by decide,by decide,by omega,by omega⟩,?_⟩
  have en:(((2 ^ ((bl a-1)/2+1):Nat):Int)-2).toNat=2 ^ ((bl a-1)/2+1)-2:=by omega
  rw[en]
  refine gS.mk (λi δ=>(∃o1 o2,δ=[some (.int a),o1,o2])/\∀j,j<i->md a (2+j)≠0) ⟨⟨_,_,rfl⟩,λj hj=>absurd hj (by omega)⟩ ?_ ?_
  ·rintro i d δ hd ⟨⟨o1,o2,rfl⟩,inv⟩
   obtain⟨hi,rfl⟩:i<2 ^ ((bl a-1)/2+1)-2/\d=.int (2+(i:Int)):=by
    rw[cM]at hd
    by_cases hi:i<2 ^ ((bl a-1)/2+1)-2
    ·rw[jL hi]at hd
     exact⟨hi,(dn hd).symm⟩
    ·rw[gw (by simpa using hi)]at hd;cases hd
   have bi:bl (2+i)<=60:=by
    have:=(cd3 h2 (show 2+i<2 ^ ((bl a-1)/2+1) by omega)).2
    omega
   nofun
   refine⟨a,2+i,by rw[show((2+i:Nat):Int)=2+(i:Int) by omega],by omega,by omega,by omega,λ_ x r e l=>?_⟩
   have em:md a (2+i)=r:=yk e l
   refine⟨.int r,rfl,rfl,?_⟩
   rw[ie]
   split
   ·rename_i hz
    have r0:r=0:=by have:=of_decide_eq_true hz;omega
    rw[cg7 hi (em.trans r0)]at q
    exact q
   ·rename_i hz
    refine⟨⟨_,_,rfl,rfl⟩,λj hj=>?_⟩
    by_cases ej:j=i
    ·rw[ej,em]
     intro r0
     exact hz (decide_eq_true (by omega))
    ·exact inv j (by omega)
  ·rintro δ ⟨⟨o1,o2,rfl⟩,inv⟩
   rw[br,cj]at inv
   rw[cq9 h2 inv]at q
   refine hU _ ?_
   nofun
   exact q
abbrev aD7:bc:=λds Q=>∃a:Int,ds=[.int a]/\Q (.bl (decide (4<=a)&&decide (a<=127)&&al a.toNat))
theorem aD8(T:Txt K mg t):aI P w K mg base aO 3 t.UD t.UE ["bits"] (bf (aD7 )):=by
 refine bA T.DL.F aB4 (λds Q h=>by obtain⟨a,rfl,q⟩:=h<;>rfl) λaC A outer s H E hr=>⟨_,(aB (aQ (uZ (aa (vH lu lu (aa ai) (bv 0) (aa ai))) (xW (bw T.VE (aL0 T) hr (ag (bv 0) aq)))))),λds Q h=>?_⟩
 obtain⟨a,rfl,q⟩:=h
 nofun
 split
 ·rename_i h1
  split
  ·rename_i h2
   refine⟨a.toNat,by rw[xK (by omega)],?_,?_⟩
   ·have:bl a.toNat<=bl 127:=Gu (by omega)
    exact fO this (by decide)
   ·have e:(decide (4<=a)&&decide (a<=127)&&al a.toNat)=al a.toNat:=by simp[h1,h2]
    rw[e]at q;exact q
  ·rename_i h2
   have e:(decide (4<=a)&&decide (a<=127)&&al a.toNat)=false:=by simp[h2]
   rw[e]at q;exact q
 ·rename_i h1
  have e:(decide (4<=a)&&decide (a<=127)&&al a.toNat)=false:=by simp[h1]
  rw[e]at q;exact q
abbrev aN3:bc:=λds Q=>∃a b:Nat,ds=[.int a,.int b]/\bl a<=1000/\bl b<=1000/\Q (.int (cl a b:Nat))
theorem aN4(T:Txt K mg t):aI P w K mg base aO 1 t.UG t.UH ["a","b"] (bf (aN3 )):=by
 refine bA T.DM.F Dt (λds Q h=>by obtain⟨a,b,rfl,ha,hb,q⟩:=h<;>rfl) λaC A outer s H E hr=>⟨_,(aA (aZ (i:=2) Dt.nd rfl (ax rfl) ai)
   (aA (gU fJ rfl (jv rfl T.gI (ag (aa (nV (bv 1))) aq)) (jY (i:=3) Dt.nd rfl (ax rfl))
    (aB (cA (bN (dO (bY hr)) (aa (aw PH (aa (aw PF (bv 1) (bv 3))) (aa ai))) (aa ai) (bt _)) (aB (yr (i:=2) Dt.nd rfl (ax rfl) (aa (aw vq (bv 0) (bv 3))) Ci)) cy)))
   (aB (aQ (em 2))))),λds Q h=>?_⟩
 obtain⟨a,b,rfl,ha,hb,q⟩:=h
 refine ay λU hU=>?_
 nofun
 refine hU _ ?_
 clear hU U
 refine ay λU hU=>?_
 nofun
 simp only[iq]
 refine⟨⟨by omega,by omega⟩,zb (λi δ=>∃o,δ=[some (.int a),some (.int b),some (.int (Mf.P a b i:Nat)),o]) ⟨none,rfl⟩ ?_ ?_⟩
 ·rintro i δ hi ⟨o,rfl⟩
  nofun
  refine⟨by omega,?_⟩
  have Ew:(oK ((b:Int)/2 ^ ((i:Int)).toNat) 1=1)↔b.testBit i=true:=by
   have h:=cs7 b i
   rw[Ny]at h
   rw[<-h,dI]
  split
  ·rename_i hc
   have h:=cb5 (a:=a) (Ew.mp hc)
   rw[Ny]at h
   exact⟨⟨by omega,by rw[iq];omega⟩,_,h,rfl⟩
  ·rename_i hc
   exact⟨_,by rw[bT3 (λz=>hc (Ew.mpr z))],rfl⟩
 ·rintro δ ⟨o,rfl⟩
  refine hU _ ?_
  nofun
  exact q
abbrev aP9:List D->List Str->List D->Prop:=λds ns xs=>∃p:Nat,ds=[.int p]/\p∈gW/\ns=iS "bits"++[("products":Str)]/\xs=[.int p,.int (ae (true,p)),.int ((bl (ae (true,p)):Nat)-1),.lst true (aG (fl (true,p))),.lst true (aG (eW (fl (true,p)))),.int (fst (true,p)),.lst true (qf (fl (true,p)) (eW (fl (true,p))))]
theorem aI4(T:Txt K mg t)(hB:Bm mg base):aI P w K mg base aO 8 t.Ky t.Kz ["self","bits"] (HM [t.ig,t.ij] t.aJ aP9):=by
 refine QY T.VF.F T.aH9 S2 (λvs H Q E h=>?_) λA outer s H vs Q E hr h=>?_
 ·obtain⟨x,dx,bW,ds,ns,xs,rfl,_,_,r,⟨p,rfl,_⟩,_⟩:=h
  have:=r.length
  simp at this
  simp[this]
 obtain⟨x,dx,bW,ds,ns,xs,rfl,tb,hx,r,⟨p,rfl,hp,rfl,rfl⟩,q⟩:=h
 obtain rfl:bW=[.int p]:=by
  cases r with
  | int r=>cases r;rfl
 have hm:(true,p)∈aE:=eR _ (Bd hp)
 have hF:=c9 hm
 refine⟨_,ff (q8 (BD (BB (jo ((aD8 T).mono (by decide)) hr rfl T.DL.g T.DL.F.kp T.DL.b .nil b8 (bV (pv 1) fg)))) (jl q9) pd)
  (ff (hV (pv 0) (pv 1) rfl)
  (ff (FJ (i:=2) S2.nd rfl (ax rfl) (ya O4 qX (ya FU (Gx (pv 1)) qX)))
  (ff (q0 (QS (E:=E0) (i:=1) T.VW ((WO T).mono (by decide)) hr T.KR.b rfl T.Ei rfl rfl rfl rfl (bV (pv 0) (bV (pv 2) (bV (QK rfl rfl T.aI0 hB) fg)))))
  (jl (hV (pv 0) (jo ((aK7 T).mono (by decide)) hr rfl T.DK.g T.DK.F.kp T.DK.b .nil b8 (bV (rq (pv 0) rfl) (bV (rq (pv 0) rfl) fg))) rfl))))),?_⟩
 try dsimp only[kG,kH]
 refine⟨_,rfl,H,[.int p],λd=>d=.bl true,af.refl _,.int .nil,⟨p,rfl,by rw[cs3 p hp]⟩,λd v F' H1 A1 hd fc hf he h3 r nd fr=>?_⟩
 subst hd
 cases r
 refine⟨true,rfl,?_⟩
 refine iD ?_
 have bU:=fc.get _ _ hx
 refine⟨.int p,rfl,.ref x,rfl,x,t.aJ,dx,_,rfl,bU,T.e7,T.DR,by decide,?_⟩
 generalize e2:upd H1 x (HO.ins t.aJ dx (bC "bits" (.int p) []))=H2
 have dH:H2 x=some (.ins t.aJ dx [(("bits":Str),.int p)]):=by rw[<-e2,bH];rfl
 have s2:bO x H H2:=by rw[<-e2];exact(fc.x (x:=x)).trans (bO.upd (C:=x) (dx:=dx) bU rfl)
 have n2:∀p,H2 p=none->H p=none:=λp h=>fc.free (zF bU (by rw[e2];exact h))
 obtain⟨ps,hP⟩:=tb t.ij (by simp)
 obtain⟨more,LL⟩:=s2.tb _ ps hP
 have bp:bl p<=7:=Q7 p hp
 have Ey:1<=bl p:=Q8 p hp
 refine⟨.int p,rfl,rfl,p,rfl,rfl,_,_,rfl,rfl,_,_,rfl,rfl,?_,?_⟩
 ·have o1:bl (1:Int).natAbs=1:=by decide
  rw[iq]
  exact⟨by omega,by omega⟩
 have em:(1:Int)*2 ^ (((bl ((p:Int)).natAbs:Nat):Int)-1).toNat=((ae (true,p):Nat):Int):=by
  rw[iq,show(((bl p:Nat):Int)-1)=((bl p-1:Nat):Int) by omega,show(1:Int)=((1:Nat):Int) from rfl,uK,Fx];rfl
 show BG 2 (.int ((1:Int)*2 ^ (((bl ((p:Int)).natAbs:Nat):Int)-1).toNat)) _ _ _
 rw[em]
 refine⟨.ref x,rfl,.int (ae (true,p)),rfl,⟨_,LL⟩,λf k qn pm jC H3 nf Ao hk kf ik hl3=>?_⟩
 refine⟨f,_,_,.int p,Ao,rfl,rfl,λoc u jk hu nc p8=>?_⟩
 obtain⟨tm,rfl⟩:∃tm,u=qF p tm:=hu
 have fE:=ik.get _ _ dH
 refine⟨x,dx,f,t.aJ,"bits",p,ae (true,p),_,oc,_,k,gm (true,p),fl (true,p),fst (true,p),rfl,zG fE (λz=>by rw[z,nf]at dH;cases dH) nc,by decide,⟨T.e7,T.tF,T.K0,T.xj,T.xi,T.KZ,T.Ac⟩,Q3 p8 nc hk kf,?_,hF,λH' p1 p2 sx df LM BV ne Aw tN=>?_⟩
 ·refine QX (n:=3) ⟨rfl,rfl,rfl,by decide,rfl,rfl,by decide,by decide,rfl⟩ jk (λu1 u2=>rfl) λq f A outer s H E hr=>?_
  refine⟨_,dJ (bJ (aa (pM (Cy ((WR T).mono (by decide))) hr rfl T.tE.g T.tE.F.kp T.tE.b Cw (ag (aa (pM ((aN4 T).mono (by decide)) hr rfl T.DM.g T.DM.F.kp T.DM.b b8 (ag (bv 0) (ag (bv 1) aq)))) (ag (bv 2) aq)))) (aa ai) (λ_ _=>rfl)),λi j Qd h=>?_⟩
  obtain⟨a,b,rfl,rfl,ha,hb,hq⟩:=h
  nofun
  have b1:bl a<=6:=by
   have:bl a<=bl 63:=Gu (by omega)
   exact fO this (by decide)
  have b2:bl b<=6:=by
   have:bl b<=bl 63:=Gu (by omega)
   exact fO this (by decide)
  have p0:p≠0:=by
   intro z
   rw[z]at Ey
   exact absurd Ey (by decide)
  refine⟨a,b,rfl,by omega,by omega,cl a b,p,rfl,fO (ch1 a b) (by omega),by omega,λz=>p0 z,λ_ x r e l=>⟨by simp[D.pl],.int r,rfl,rfl,r,rfl,?_⟩⟩
  have er:gm (true,p) a b=r:=yk e l
  rw[<-er];exact hq
 ·have gf:H' f=some (.ext (jX _ oc _ f)):=sx.get f _ (λz=>by rw[z]at nf;rw[nf]at dH;cases dH) (by rw[aT p8.symm,bH]) rfl
  have gc:=sx.get _ _ (dW fE nc).symm bH rfl
  refine⟨gf,gc,?_⟩
  have s4:=s2.trans (Q2 ik nf nc sx)
  have f1:=n2 _ (CP ik Aw)
  have f2:=n2 _ (CP ik tN)
  have l1:=LM.rem gf gc
  have l2:=BV.rem gf gc
  have jJ:rem H' f (s.heap.objs.size+1) x=some (.ins t.aJ dx ((iS "bits").zip (CN p (ae (true,p)) p1 p2 (fst (true,p))))):=by
   rw[iP (λz=>by rw[z,gf]at df;cases df) (λz=>by rw[z,gc]at df;cases df)];exact df
  generalize rem H' f (s.heap.objs.size+1)=H4 at s4 l1 l2 jJ
  refine⟨.ref x,rfl,x,t.aJ,dx,_,.ref p1,rfl,jJ,T.e7,T.xj,rfl,.ref x,rfl,x,t.aJ,dx,_,.ref p2,rfl,jJ,T.e7,T.xi,rfl,H4,[.lst false (aG (fl (true,p))),.lst false (aG (eW (fl (true,p))))],λd=>d=.lst true (qf (fl (true,p)) (eW (fl (true,p)))),af.refl _,.shr l1 (lD _) (.shr l2 (lD _) .nil),
   ⟨_,_,rfl,by have:=hF.len;have:=hF.lo;omega,by have:=hF.len;have:=hF.hi;omega,zE _ _,Q6 _ _,rfl⟩,λd v F' H5 A' hd kM hf he h3 r nd fr=>?_⟩
  subst hd
  obtain⟨p3,rfl⟩:∃p3,v=.ref p3:=by cases r;exact⟨_,rfl⟩
  have jg:=kM.get _ _ jJ
  have nA:∀{a ws},H4 a=some (.lst ws)->a ∉ A':=λ{a ws} e z=>by rw[fr a z]at e;cases e
  refine⟨.ref x,rfl,x,t.aJ,dx,_,rfl,jg,T.e7,T.tG,m9 (bM 6) (by decide),?_⟩
  refine q _ (CN p (ae (true,p)) p1 p2 (fst (true,p))++[.ref p3]) (p1::p2::A') ((s4.trans (kM.x (x:=x))).trans (bO.upd (C:=x) (dx:=dx) jg rfl)) (by rw[bH];rfl) rfl ?_ ?_ ?_
  ·exact .int (.int (.int (.own ((l1.same kM).upd jg (λws z=>by cases z)) rfl (lD _) (.own ((l2.same kM).upd jg (λws z=>by cases z)) rfl (lD _) (.int ((r.pG (by simp[fW,Q5]) (af.of λb o e=>by cases e)).sQ jg (by simp[fW,Q5])))))))
  ·exact mh.mpr ⟨by simp[ne];exact nA l1,mh.mpr ⟨nA l2,nd⟩⟩
  ·intro a ha
   rcases cH.mp ha with rfl | ha
   ·exact f1
   ·rcases cH.mp ha with rfl | ha
    ·exact f2
    ·exact s4.free (by rw[jJ];simp) (fr a ha)
abbrev aN5(cb cp:Addr):bc:=λds Q=>∃m:Bool × Nat,ds=[cU m]/\m∈aE/\Q (fD cb cp m)
theorem Ez(T:Txt K mg t)(hB:Bm mg base):aI P w K mg base aO 10 t.UI t.UJ ["_law_told_here"] (pZ [t.ig,t.ij] (bf (aN5 t.aJ t.aM))):=by
 refine zA T.kb.F aM8 (λds Q h=>by obtain⟨m,rfl,hm,q⟩:=h<;>rfl) λaC A outer s H E hT hr=>⟨_,(aA (cA (ia (bJ (bv 0) (aa ai) (λ_ _=>rfl))) (aB (aQ (QZ hT T.KY ((aI4 T hB).mono (by decide)) hr rfl T.Lj T.VF.b b8 (ag (bJ (bv 0) (aa ai) (λ_ _=>rfl)) aq)))) cy)
   (aB (aQ (QZ hT T.K6 ((aD6 T hB).mono (by decide)) hr rfl T.Lm T.VD.b b8 (ag (bJ (bv 0) (aa ai) (λ_ _=>rfl)) aq))))),λds Q h=>?_⟩
 obtain⟨m,rfl,hm,q⟩:=h
 unfold cU at *
 refine ay λU hU=>?_
 nofun
 obtain⟨b,n⟩:=m
 cases b with
 | true =>
  refine⟨_,rfl,true,rfl,?_⟩
  rw[if_pos rfl]
  refine⟨_,rfl,_,_,⟨n,rfl,wA hm,rfl,rfl⟩,?_⟩
  rw[cG0];exact q
 | false =>
  refine⟨_,rfl,false,rfl,?_⟩
  rw[if_neg (by decide)]
  refine hU _ ?_
  nofun
  refine⟨_,rfl,_,_,⟨n,rfl,bO0 hm,rfl,rfl⟩,?_⟩
  rw[ci4];exact q
def l8(c k:Int):Int:=(c%999983+7*k+1)*(k*k+48271)%1000003
abbrev aN6:bc:=λds Q=>∃(c k:Int),ds=[.int c,.int k]/\0<=k/\k<=100000/\Q (.int (l8 c k))
theorem LN(T:Txt K mg t):aI P w K mg base aO 1 t.UK t.UL ["_law_cell_here","_law_k"] (bf (aN6 )):=by
 refine bA T.DN.F aM9 (λds Q h=>by obtain⟨c,k,rfl,k0,k1,q⟩:=h<;>rfl) λaC A outer s H E hr=>⟨_,(aB (aQ (aw cK (aa (aw fY (aa (aw cm (aa (aw cm (aa (aw cK (bv 0) (aa ai))) (aa (aw fY (aa ai) (bv 1))))) (aa ai))) (aa (aw cm (aa (aw fY (bv 1) (bv 1))) (aa ai))))) (aa ai)))),λds Q h=>?_⟩
 obtain⟨c,k,rfl,k0,k1,q⟩:=h
 nofun
 have c0:=gL c (show(999983:Int)≠0 by decide)
 have c1:=g9 c (show(0:Int)<999983 by decide)
 exact⟨by decide,iw.ok (.inl ⟨by decide,by decide⟩),iw.ok (.inl ⟨by omega,by omega⟩),iw.ok (.inl ⟨by omega,by omega⟩),by decide,q⟩
abbrev aD9:bc:=λds Q=>∃(M n e:Nat) (c:Int) (b:Bool),ds=[.int M,.int n,.int e,.int c,.bl b]/\1<=M/\M<=64/\n<=16/\e<=16/\∀T:List (List Nat),T.length=e->RT M n T->Q (.lst true (az true T))
theorem aE0(T:Txt K mg t):aI P w K mg base aO 2 t.UM t.UN ["_law_many_here","_law_length","_law_extra","_law_cell_here","_law_sparse"] (bf (aD9 )):=by
 refine bA T.VG.F zV (λds Q h=>by obtain⟨M,n,e,c,b,rfl,hM,dP6,hn,he,q⟩:=h<;>rfl) λaC A outer s H E hr=>⟨_,(aA (aZ (i:=5) zV.nd rfl (ax rfl) (eN cZ))
   (aA (gU fJ rfl (jv rfl T.gI (ag (bv 2) aq)) (jY (i:=6) zV.nd rfl (b9 rfl))
    (aA (Io (i:=7) zV.nd rfl (ax rfl) [("_law_many_here",0),("_law_cell_here",3),("_law_i",6)] ["_law_at"] rfl (jv rfl T.gI (ag (bv 1) aq)) (λ_ _ _ _=>(ft (i:=3) (show(["_law_many_here","_law_cell_here","_law_i","_law_at"]:List Str).Nodup by decide +kernel))) (λ_ _ _ _=>dM) (λ_ _ _ _=>(aw cK (aa (aw rV (aa (bw T.DN (LN T) hr (ag (bv 1) (ag (aa (aw cm (aa (aw fY (bv 2) (aa ai))) (bv 3))) aq)))) (aa ai))) (bv 0))) rfl)
    (aA (cA (ia (bv 4)) (aB (Io (i:=7) zV.nd rfl (ax rfl) [("_law_cell_here",3),("_law_i",6)] ["_law_at","_law_x"] rfl (sE rfl T.tI (ag (bv 7) aq)) (λ_ _ _ _=>(w4 (i1:=2) (i2:=3) (show(["_law_cell_here","_law_i","_law_at","_law_x"]:List Str).Nodup by decide +kernel))) (λ_ _ _ _=>dM) (λ_ _ _ _=>(aw fY (bv 3) (aa (aw cK (aa (aw rV (aa (bw T.DN (LN T) hr (ag (aa (aw cm (bv 0) (aa ai))) (ag (aa (aw cm (aa (aw fY (bv 1) (aa ai))) (bv 2))) aq)))) (aa ai))) (aa ai))))) rfl)) cy)
    (aB (nW (i:=5) rfl (by first | exact ax rfl | exact b9 (ax rfl)) (em 7))))))
   (aB (aQ (em 5))))),λds Q h=>?_⟩
 obtain⟨M,n,e,c,b,rfl,hM,dP6,hn,he,q⟩:=h
 have LO:∀z:Int,z%(M:Int)=(((z%(M:Int)).toNat:Nat):Int):=λz=>by
  have n0:=gL z (show(M:Int)≠0 by omega)
  omega
 have LP:∀z:Int,(z%(M:Int)).toNat<M:=λz=>by
  have n1:=g9 z (show(0:Int)<(M:Int) by omega)
  omega
 refine ay λU hU=>?_
 nofun
 refine⟨by decide,hU _ ?_⟩
 clear hU U
 refine ay λU hU=>?_
 nofun
 refine⟨⟨by omega,by omega⟩,zb (λi δ=>∃(G:List (List Nat)) (o1 o2:Option D),δ=[some (.int M),some (.int n),some (.int e),some (.int c),some (.bl b),some (.lst true (az true G)),o1,o2]/\G.length=i/\RT M n G) ⟨[],_,_,rfl,rfl,λ_ h=>nomatch h⟩ ?_ ?_⟩
 ·rintro i δ hi ⟨G,o1,o2,rfl,hG,hR⟩
  simp only[gN,jN,jM]
  clear hU
  refine ay λU hU=>?_
  nofun
  refine⟨⟨by omega,by omega⟩,eV (aL n) (λ(i:Nat)=>D.int (i:Int)) (λk=>D.int (((l8 c ((i:Int)*16+(k:Int))/5%(M:Int)).toNat:Nat):Int)) (om _ rfl) jB (λk hk=>?_) (.inr λ_ _=>rfl) (by rw[cj,sL];omega) ?_⟩
  ·have hk:=di.mp hk
   nofun
   exact⟨iw.ok (.inl ⟨by omega,by omega⟩),_,_,rfl,by omega,by omega,rT (by decide) (by decide),by omega,LO _⟩
  obtain⟨row,er,tO,tP⟩:∃wd:List Nat,((aL n).map λ(k:Nat)=>D.int (((l8 c ((i:Int)*16+(k:Int))/5%(M:Int)).toNat:Nat):Int))=av wd/\AllLt M wd/\wd.length=n:=by
   refine⟨(aL n).map λ(k:Nat)=>(l8 c ((i:Int)*16+(k:Int))/5%(M:Int)).toNat,by rw[cT,cu];rfl,λa ha=>?_,by simp⟩
   obtain⟨k,_,rfl⟩:=bB.mp ha
   exact LP _
  rw[er]
  refine hU _ ?_
  clear hU
  refine ay λU hU=>?_
  nofun
  have fin:∀row:List Nat,AllLt M row->row.length=n->U [some (D.int M),some (D.int n),some (D.int e),some (D.int c),some (D.bl b),some (D.lst true (az true G)),some (D.int i),some (D.lst true (av row))]:=by
   clear er tO tP row
   intro row tO tP
   refine hU _ ?_
   nofun
   refine⟨⟨_,rfl⟩,by omega,G++[row],_,_,⟨sW true G [row],rfl,rfl⟩,by rw[dF,hG];rfl,hR.app λx hx=>?_⟩
   rw[fI]at hx
   rw[hx];exact⟨tP,tO⟩
  clear hU
  cases b with
  | false=>exact fin row tO tP
  | true =>
   rw[if_pos rfl]
   have e2:∀z:Int,z%2=0\/z%2=1:=λz=>by omega
   refine HS (aL row.length) (λ(k:Nat)=>D.tup [.int (k:Int),.int ((row.getD k 0:Nat):Int)]) (λk=>D.int ((row.getD k 0*(l8 (c+7) ((i:Int)*16+(k:Int))/3%2).toNat:Nat):Int)) (Ic row) (λa b h=>by injection h with h;simp at h;omega) (λk hk=>?_) HU (.inr λ_ _=>rfl) (by rw[cj,sL];omega) ?_
   ·have hk:=di.mp hk
    nofun
    refine⟨iw.ok (.inl ⟨by omega,by omega⟩),_,_,rfl,by omega,by omega,rT (by decide) (by decide),by decide,iw.ok (.inr ⟨by omega,by omega⟩),?_⟩
    rw[uo,xK (by omega)]
   dsimp only[jN,jM]
   rw[show((aL row.length).map λ(k:Nat)=>D.int ((row.getD k 0*(l8 (c+7) ((i:Int)*16+(k:Int))/3%2).toNat:Nat):Int))=av ((aL row.length).map λk=>row.getD k 0*(l8 (c+7) ((i:Int)*16+(k:Int))/3%2).toNat) by rw[cT,cu];rfl]
   refine fin _ (λa ha=>?_) (by rw[br,cj,tP])
   obtain⟨k,_,rfl⟩:=bB.mp ha
   have h1:=tO.getD (show 0<M by omega) k
   rcases e2 (l8 (c+7) ((i:Int)*16+(k:Int))/3)with h | h
   ·rw[h];show row.getD k 0*0<M;omega
   ·rw[h];show row.getD k 0*1<M;omega
 ·rintro δ ⟨G,o1,o2,rfl,hG,hR⟩
  refine hU _ ?_
  nofun
  exact q G hG hR
abbrev aN7:bc:=λds Q=>∃(m:Bool × Nat) (a b:Nat),ds=[cU m,.int a,.int b]/\m∈aE/\a<ae m/\b<ae m/\Q (.int (gm m a b:Nat))
theorem LQ(T:Txt K mg t):aI P w K mg base aO 1 t.UO t.UP ["_law_told_here","_law_a","_law_b"] (bf (aN7 )):=by
 refine bA T.DO.F xf (λds Q h=>by obtain⟨m,a,b,rfl,hm,ha,hb,q⟩:=h<;>rfl) λaC A outer s H E hr=>⟨_,(aA (cA (rK (ia (bJ (bv 0) (aa ai) (λ_ _=>rfl)))) (aB (aQ (aw cK (aa (aw fY (bv 1) (bv 2))) (bJ (bv 0) (aa ai) (λ_ _=>rfl))))) cy)
   (aA (aZ (i:=3) xf.nd rfl (ax rfl) ai)
   (aA (vb fJ (bN yA (bv 2) (aa ai) (bt _))
    (aA (cA (bN (dO (bY hr)) (aa (aw PH (bv 2) (aa ai))) (aa ai) (bt _)) (aB (aZ (i:=3) xf.nd rfl (ax rfl) (aw yy (bv 3) (bv 1)))) cy)
    (aA (aZ (i:=1) xf.nd rfl (ax rfl) (aw vq (bv 1) (aa ai)))
    (aA (cA (bN (dO (bY hr)) (aa (nV (bv 1))) (aa (nV (bJ (bv 0) (aa ai) (λ_ _=>rfl)))) (bt _)) (aB (aZ (i:=1) xf.nd rfl (ax rfl) (aw yy (bv 1) (bJ (bv 0) (aa ai) (λ_ _=>rfl))))) cy)
    (aB (aZ (i:=2) xf.nd rfl (ax rfl) (aw PF (bv 2) (aa ai))))))))
   (aB (aQ (em 3)))))),λds Q h=>?_⟩
 obtain⟨m,a,b,rfl,hm,ha,hb,q⟩:=h
 unfold cU at *
 obtain⟨k,n⟩:=m
 refine ay λU hU=>?_
 nofun
 have hF:=c9 hm
 cases k with
 | false =>
  refine⟨_,rfl,false,rfl,?_⟩
  have qC:n<=64:=hF.hi
  have l2:2<=n:=hF.lo
  have Ct:a<n:=ha
  have pV:b<n:=hb
  rw[if_pos (by decide)]
  refine⟨iw.ok (.inr ⟨by omega,by omega⟩),_,rfl,by omega,?_⟩
  have e:((gm (false,n) a b:Nat):Int)=(a:Int)*b%n:=by
   show((a*b%n:Nat):Int)=_
   rw[oU,uo]
  rw[<-e];exact q
 | true =>
  refine⟨_,rfl,true,rfl,?_⟩
  rw[if_neg (by decide)]
  have hp:=wA hm
  have bp:=Q7 n hp
  have Ey:=Q8 n hp
  have p0:n≠0:=λz=>by rw[z,nG]at Ey;omega
  have gD:bl a<bl n:=by
   have:=fv.mpr (show a<2 ^ (bl n-1) from ha)
   omega
  have hy0:bl b<bl n:=by
   have:=fv.mpr (show b<2 ^ (bl n-1) from hb)
   omega
  refine hU _ ?_
  clear hU U
  refine ay λU hU=>?_
  nofun
  refine hU _ ?_
  clear hU U
  refine ay λU hU=>?_
  nofun
  refine⟨λm δ=>∃(x y z:Nat),δ=[some (.tup [.bl true,.int n]),some (.int (x:Nat)),some (.int (y:Nat)),some (.int (z:Nat))]/\z ^^^ md (cl x y) n=gm (true,n) a b/\bl x<bl n/\bl y<bl n/\m=bl y,
   ⟨bl b,a,b,0,rfl,by rw[oQ];rfl,gD,hy0,rfl⟩,?_⟩
  rintro m δ ⟨x,y,z,rfl,inv,hx,hy,rfl⟩
  nofun
  split
  ·rename_i As
   have WQ:=iE (show y≠0 by omega)
   have Eo:bl (y/2)=bl y-1:=cw3 y
   have e1:((x:Int)*2 ^ (1:Int).toNat)=((2*x:Nat):Int):=by
    show(x:Int)*(2:Int) ^ 1=_
    omega
   have e2:((y:Int)/2 ^ (1:Int).toNat)=((y/2:Nat):Int):=by
    show(y:Int)/(2:Int) ^ 1=_
    omega
   have a1:oK (y:Int) 1=((y%2:Nat):Int):=by
    rw[show(1:Int)=((1:Nat):Int) from rfl,OY,Nat.and_one_is_mod]
   have tm:=cv0 (y:=y) p0 hx
   have tb:=cp4 p0 hx
   clear hU
   refine ay λU hU=>?_
   nofun
   have fin:∀z':Nat,z'=z ^^^ (if y%2=1 then x else 0)->U [some (.tup [.bl true,.int n]),some (.int x),some (.int y),some (.int z')]:=by
    intro z' hz
    have dP9:z' ^^^ md (cl (if bl (2*x)=bl n then 2*x ^^^ n else 2*x) (y/2)) n=gm (true,n) a b:=by
     rw[hz,qM,<- tm];exact inv
    refine hU _ ?_
    clear hU
    refine ay λU hU=>?_
    nofun
    refine⟨⟨by decide,by simp only[iq];omega⟩,hU _ ?_⟩
    clear hU
    rw[e1]
    refine ay λU hU=>?_
    nofun
    have last:∀x':Nat,x'=(if bl (2*x)=bl n then 2*x ^^^ n else 2*x)->U [some (.tup [.bl true,.int n]),some (.int (x':Nat)),some (.int y),some (.int z')]:=by
     intro x' df
     refine hU _ ?_
     nofun
     exact⟨by decide,bl (y/2),by omega,x',y/2,z',⟨rfl,e2,rfl⟩,by rw[df];exact dP9,by rw[df];exact tb,by omega,rfl⟩
    refine⟨_,rfl,?_⟩
    show(if(((bl (((2*x:Nat):Int)).natAbs:Nat):Int)=((bl ((n:Int)).natAbs:Nat):Int))then _ else _)
    rw[iq,iq]
    split
    ·rename_i hc
     refine⟨_,rfl,?_⟩
     have g:=last (2*x ^^^ n) (by rw[if_pos (by omega)])
     rw[<-nH]at g
     exact g
    ·rename_i hc
     exact last (2*x) (by rw[if_neg (by omega)])
   rw[a1]
   split
   ·rename_i Ew
    have odd:y%2=1:=by omega
    have g:=fin (z ^^^ x) (by rw[if_pos odd])
    rw[<-nH]at g
    exact g
   ·rename_i Ew
    exact fin z (by rw[if_neg (by omega),mj])
  ·rename_i As
   have hy:y=0:=by omega
   subst hy
   rw[ct9,zH (by rw[nG];exact iE p0),mj]at inv
   subst inv
   refine hU _ ?_
   nofun
   exact q
def oJ(g:Nat->Nat->Nat)(a:Nat):Nat->List Int->Nat->Option (List Int)
 | 0,_,_=>none
 | f+1,l,p=>if g p a=1 then some l else oJ g a f (l++[((g p a:Nat):Int)]) (g p a)
def WS(m:Bool × Nat):Bool:=decide (1<=(fst m).toNat)&&decide ((fst m).toNat<ae m)&&((aL ((fst m).toNat-1)).all λi=>match oJ (gm m) (i+1) 64 [1] 1 with | none=>false | some l=>decide (l.length≠ae m-1))&&decide (oJ (gm m) (fst m).toNat 64 [1] 1=some (fl m))
theorem cJ2:aE.all WS=true:=by decide +kernel
theorem cN0{m:Bool × Nat}(hm:m∈aE):∃s:Nat,1<=s/\s<ae m/\(∀i,i<s-1->∃l,oJ (gm m) (i+1) 64 [1] 1=some l/\l.length≠ae m-1)/\oJ (gm m) s 64 [1] 1=some (fl m):=by
 have h:=dj.mp cJ2 m hm
 simp only[WS,eT,dj,decide_eq_true_eq,di]at h
 refine⟨_,h.1.1.1,h.1.1.2,λi hi=>?_,h.2⟩
 have h3:=h.1.2 i hi
 cases e:oJ (gm m) (i+1) 64 [1] 1 with
 | none=>rw[e]at h3;cases h3
 | some l=>rw[e]at h3;exact⟨l,rfl,of_decide_eq_true h3⟩
abbrev aM2:bc:=λds Q=>∃m:Bool × Nat,ds=[cU m]/\m∈aE/\Q (.lst true (aG (fl m)))
theorem aM3(T:Txt K mg t):aI P w K mg base aO 2 t.UQ t.UR ["_law_told_here"] (bf (aM2 )):=by
 refine bA T.VH.F JY (λds Q h=>by obtain⟨m,rfl,hm,q⟩:=h<;>rfl) λaC A outer s H E hr=>⟨_,(aA (gU fJ rfl (yu rfl T.gI (ag (aa ai) (ag (aa (bw T.z7 (El T) hr (ag (bv 0) aq))) aq))) (jY (i:=1) JY.nd rfl (ax rfl))
    (aA (aZ (i:=2) JY.nd rfl (ax rfl) (eN (cJ ai cZ)))
    (aA (vb fJ (bN (iO (bY hr)) (aa (bw T.DO (LQ T) hr (ag (bv 0) (ag (bJ (bv 2) (aa (PZ (aa ai))) (λ_ _=>rfl)) (ag (bv 1) aq))))) (aa ai) (bt _))
     (aB (nW (i:=2) rfl (by first | exact ax rfl | exact b9 (ax rfl)) (bw T.DO (LQ T) hr (ag (bv 0) (ag (bJ (bv 2) (aa (PZ (aa ai))) (λ_ _=>rfl)) (ag (bv 1) aq)))))))
    (aB (cA (bN (dO (bY hr)) (aa (eB (ib) (by rfl) T.g5 gP (ag (bv 2) aq))) (aa (aw dN (aa (bw T.z7 (El T) hr (ag (bv 0) aq))) (aa ai))) (bt _)) (aB (aQ (em 2))) cy)))))
   (aB (aQ (eN (cJ ai cZ))))),λds Q h=>?_⟩
 obtain⟨m,rfl,hm,q⟩:=h
 have hF:=c9 hm
 have fk:=hF.lo
 have Au:=hF.hi
 have WT:=HV m hm
 obtain⟨st,s1,s2,s3,s4⟩:=cN0 hm
 refine ay λU hU=>?_
 nofun
 refine⟨m,rfl,by omega,by omega,1,_,⟨rfl,rfl⟩,⟨by decide,by decide,by omega,by omega⟩,?_⟩
 refine gS.mk (λi δ=>i<=st-1/\∃o1 o2,δ=[some (cU m),o1,o2]) ⟨by omega,none,none,rfl⟩ ?_ ?_
 ·rintro i d δ hd ⟨hi,o1,o2,rfl⟩
  obtain⟨zi,rfl⟩:=cf3 hd
  rw[show(1:Int)+(i:Int)=((i+1:Nat):Int) by omega]
  clear hd
  obtain⟨L,eL,hL⟩:∃L,oJ (gm m) (i+1) 64 [1] 1=some L/\((i=st-1/\L=fl m)\/(i<st-1/\L.length≠ae m-1)):=by
   by_cases WU:i=st-1
   ·exact⟨_,by rw[WU,show st-1+1=st by omega];exact s4,.inl ⟨WU,rfl⟩⟩
   ·obtain⟨l,h1,h2⟩:=s3 i (by omega)
    exact⟨l,h1,.inr ⟨by omega,h2⟩⟩
  refine ay λU hU=>?_
  nofun
  refine⟨by decide,hU _ ?_⟩
  clear hU
  refine ay λU hU=>?_
  nofun
  refine⟨λn δ=>∃(l:List Int) (p:Nat),δ=[some (cU m),some (.int ((i+1:Nat):Int)),some (.lst true (aG (l++[(p:Int)])))]/\p<ae m/\l.length+n=64/\oJ (gm m) (i+1) n (l++[(p:Int)]) p=some L,
   ⟨64,[],1,rfl,by omega,rfl,eL⟩,?_⟩
  rintro n δ ⟨l,p,rfl,hp,hl,he⟩
  nofun
  have ea:fh (aG (l++[(p:Int)])) (-1)=some (.int (p:Int)):=by rw[b98 (by rw[dF];show 0<l.length+1;omega),dF,mi,Nat.add_sub_cancel,aS,m5 (bM _),Fu];rfl
  cases n with
  | zero=>cases he
  | succ n =>
   rw[oJ]at he
   refine⟨_,ea,m,p,i+1,rfl,hm,hp,by omega,rfl,rfl,?_⟩
   rw[ie]
   by_cases c:gm m p (i+1)=1
   ·rw[if_pos c]at he
    cases he
    rw[decide_eq_true (by omega),if_neg (by decide)]
    refine hU _ ?_
    nofun
    refine⟨m,rfl,by omega,by omega,?_⟩
    dsimp only
    rcases hL with⟨h1,h2⟩ | ⟨h1,h2⟩
    ·have:=hF.len
     rw[h2,if_pos (by omega)]
     exact q
    ·rw[if_neg (by omega)]
     exact⟨by omega,_,_,rfl,rfl⟩
   ·rw[if_neg c]at he
    rw[decide_eq_false (by omega),if_pos (by decide)]
    exact⟨⟨_,rfl⟩,_,ea,m,p,i+1,rfl,hm,hp,by omega,rfl,by rw[dF];show l.length+1<_;omega,n,by omega,l++[(p:Int)],gm m p (i+1),by simp only[aG,eH,dy,km],cV hm _ _,by rw[dF];show l.length+1+n=64;omega,he⟩
 ·rintro δ ⟨hi,_⟩
  simp at hi
  omega
abbrev aE1:bc:=λds Q=>∃(m:Bool × Nat) (n e f:Nat),ds=[cU m,.int n,.int e,.int f]/\m∈aE/\n<=64/\e<=64/\f<=64/\Q (.lst true (az true (fB m f (aL n) e)))
theorem WV(T:Txt K mg t):aI P w K mg base aO 3 t.US t.UT ["_law_told_here","_law_length","_law_extra","_law_first"] (bf (aE1 )):=by
 refine bA T.KS.F Du (λds Q h=>by obtain⟨m,n,e,f,rfl,hm,hn,he,hf,q⟩:=h<;>rfl) λaC A outer s H E hr=>⟨_,(aA (aZ (i:=4) Du.nd rfl (b9 rfl) (bw T.VH (aM3 T) hr (ag (bv 0) aq)))
   (aA (aZ (i:=5) Du.nd rfl (ax rfl) (eN cZ))
   (aA (gU fJ rfl (jv rfl T.gI (ag (bv 2) aq)) (jY (i:=6) Du.nd rfl (b9 rfl))
    (aB (nW (i:=5) rfl (by first | exact ax rfl | exact b9 (ax rfl)) (eC [("_law_powers_here",4),("_law_first",3),("_law_i",6)] ["_law_at"] rfl (jv rfl T.gI (ag (bv 1) aq)) (λ_ _ _ _=>(ft (i:=3) (show(["_law_powers_here","_law_first","_law_i","_law_at"]:List Str).Nodup by decide +kernel))) (λ_ _ _ _=>dM) (λ_ _ _ _=>(dJ (bJ (bv 0) (aa (aw cK (aa (aw fY (aa (aw cm (bv 1) (bv 2))) (bv 3))) (aa (eB (ib) (by rfl) T.g5 gP (ag (bv 0) aq))))) (λ_ _=>rfl)))) rfl))))
   (aB (aQ (em 5)))))),λds Q h=>?_⟩
 obtain⟨m,n,e,f,rfl,hm,hn,he,hf,q⟩:=h
 have hF:=c9 hm
 have fk:=hF.lo
 have Au:=hF.hi
 have hlen:=hF.len
 refine ay λU hU=>?_
 nofun
 refine⟨m,rfl,hm,hU _ ?_⟩
 clear hU U
 refine ay λU hU=>?_
 nofun
 refine⟨by decide,hU _ ?_⟩
 clear hU U
 refine ay λU hU=>?_
 nofun
 refine⟨⟨by omega,by omega⟩,zb (λi δ=>∃(o1:Option D),δ=[some (cU m),some (.int n),some (.int e),some (.int f),some (.lst true (aG (fl m))),some (.lst true (az true (fB m f (aL n) i))),o1]) ⟨_,rfl⟩ ?_ ?_⟩
 ·rintro i δ hi ⟨o1,rfl⟩
  simp only[gN,jN,jM]
  clear hU
  nofun
  refine⟨⟨_,rfl⟩,⟨by omega,by omega⟩,eV (aL n) (λ(i:Nat)=>D.int (i:Int)) (λ(p:Nat)=>D.int ((eS m (((f:Int)+(i:Int))*(p:Int)):Nat):Int)) (om _ rfl) jB (λp hp=>?_) (.inr λ_ _=>rfl) (by rw[cj,sL];omega) ?_⟩
  ·have hp:=di.mp hp
   have n0:=gL (((f:Int)+(i:Int))*(p:Int)) (show(ae m:Int)-1≠0 by omega)
   have el:(((fl m).length:Nat):Int)=(ae m:Int)-1:=by omega
   nofun
   rw[el]
   refine⟨iw.ok (.inl ⟨by omega,by omega⟩),by omega,_,nv (d:=.int (eS m (((f:Int)+(i:Int))*(p:Int)):Nat)) n0 ?_,rfl,rfl⟩
   unfold aG;rw[cM,Rz hm];rfl
  ·refine⟨_,rfl,by rw[lL,(Sh hm f (aL n) i).2];omega,some (D.int i),?_⟩
   rw[show fB m f (aL n) (i+1)=fB m f (aL n) i++[(aL n).map λ(p:Nat)=>eS m (((f:Int)+(i:Int))*(p:Int))] by unfold fB;rw[Bf,eH];rfl,<- sW,show((aL n).map λ(p:Nat)=>D.int ((eS m (((f:Int)+(i:Int))*(p:Int)):Nat):Int))=av ((aL n).map λ(p:Nat)=>eS m (((f:Int)+(i:Int))*(p:Int))) by rw[cT,cu];rfl]
   rfl
 ·rintro δ ⟨o1,rfl⟩
  refine hU _ ?_
  nofun
  exact q
abbrev WW(t:dY):bc:=λds Q=>∃(m:Bool × Nat) (G:List (List Nat)) (b:Nat),ds=[fM t m G (.jG b)]/\Q (.int (b:Nat))
theorem aw2(T:Txt K mg t):aI P w K mg base aO 1 t.KA t.UU ["self"] (bf (WW t)):=by
 refine bA T.VI.F av4 (λds Q h=>by obtain⟨m,G,b,rfl,q⟩:=h<;>rfl) λaC A outer s H E hr=>⟨_,(aB (aQ (dJ (bZ (K:=K) (bv 0))))),λds Q h=>?_⟩
 obtain⟨m,G,b,rfl,q⟩:=h
 nofun
 exact⟨_,_,_,_,rfl,T.m3,T.DS,rfl,rfl,q⟩
abbrev aI5(t:dY):bc:=λds Q=>∃(m:Bool × Nat) (n:Nat),ds=[fD t.aJ t.aM m,.int n]/\m∈aE/\2<=n/\n<=24/\Q (.lst true (az true (gZ m n)))
theorem aI6(T:Txt K mg t):aI P w K mg base aO 2 t.UY t.UZ ["field","length"] (bf (aI5 t)):=by
 refine bA T.DP.F S5 (λds Q h=>by obtain⟨m,n,rfl,hm,h2,Az,q⟩:=h<;>rfl) λaC A outer s H E hr=>⟨_,(aA (aZ (i:=2) S5.nd rfl (b9 rfl) (iT (P:=P) (w:=w) (K:=K) (mg:=mg) (base:=base) (n:=1) (bv 0) (hr.mono (by decide)) (ag (aa ai) (ag (aa ai) aq))))
   (aB (aQ (eC [("less_one",2),("length",1)] ["i"] rfl (jv rfl T.gI (ag (aa (aw dN (bv 1) (aa ai))) aq)) (λ_ _ _ _=>(ft (i:=2) (show(["less_one","length","i"]:List Str).Nodup by decide +kernel))) (λ_ _ _ _=>dM) (λ_ _ _ _=>(aw cm (aa (aw cm (aa (aw cm (aa (aw fY (aa (eN (cJ ai cZ))) (bv 2))) (aa (eN (cJ ai cZ))))) (aa (aw fY (aa (eN (cJ ai cZ))) (aa (aw dN (aa (aw dN (bv 1) (aa ai))) (bv 2))))))) (cF7 (ag (bv 0) aq)))) rfl)))),λds Q h=>?_⟩
 obtain⟨m,n,rfl,hm,h2,Az,q⟩:=h
 have m0:=dm m hm
 have fk:=(c9 hm).lo
 obtain⟨C,ns,zs,sp,e1,e2,e3,e4⟩:=Wk (P:=P) (w:=w) (base:=base) T m0
 refine ay λU hU=>?_
 nofun
 refine⟨C,ns,zs,sp,e1,e2,e3,e4 0 1 _ ?_⟩
 rw[(mV hm (show 0<ae m by omega) (show 1<ae m by omega)).1]
 refine hU _ ?_
 clear hU U e1 e2 e3 e4
 nofun
 refine⟨⟨by omega,by omega⟩,eV (aL (n-1)) (λ(i:Nat)=>D.int (i:Int)) (λi=>D.lst true (av (kJ m n i))) (om _ (by omega)) jB (λi hi=>?_) (.inr λ_ _=>iU _) (by rw[cj,sL];omega) ?_⟩
 ·have hi:=di.mp hi
  nofun
  unfold kJ
  have zn:∀k:Nat,aG (aU k (0:Int))=av (aU k 0):=λk=>by unfold av;rw[uu];rfl
  rw[iX,show((n:Int)-2-(i:Int)).toNat=n-2-i by omega,zn,zn,show [D.int 1]=av [1] from rfl,show [D.int ((bP m 0 1:Nat):Int)]=av [bP m 0 1] from rfl,pY,pY,pY,n6,n6,fw,fw]
  simp only[dF,fP,mi]
  exact⟨by decide,⟨by omega,by omega,by omega⟩,by decide,by omega,by decide,⟨by omega,by omega,by omega⟩,⟨by omega,trivial⟩,by decide,⟨by omega,trivial⟩,trivial⟩
 ·rw[show((aL (n-1)).map λi=>D.lst true (av (kJ m n i)))=az true (gZ m n) by unfold az gZ;rw[cu];rfl]
  exact q
abbrev WX(t:dY):List D->List Str->List D->Prop:=λds ns xs=>∃(m:Bool × Nat) (n:Nat),ds=[fD t.aJ t.aM m,.int n]/\m∈aE/\2<=n/\n<=24/\ns=oA/\xs=mZ t.aJ t.aM true m (gZ m n)
theorem WY(T:Txt K mg t)(hB:Bm mg base):aI P w K mg base aO 5 t.KC t.U0 ["self","field","length"] (zS [t.ig,t.ij] t.bR (WX t)):=by
 refine T.KU.F.ok aB5 (λvs H Q E h=>?_) λaC A outer s H vs Q E hr h=>?_
 ·obtain⟨F,H0,x,dx,bW,ds,ns,xs,rfl,_,_,_,_,_,r,⟨m,n,rfl,_⟩,_⟩:=h
  have:=r.length
  simp at this
  simp[this]
 obtain⟨F,H0,x,dx,bW,ds,ns,xs,rfl,tb,e0,gD,s0,hx,r,⟨m,n,rfl,hm,h2,Az,rfl,rfl⟩,q⟩:=h
 obtain⟨g1,g2,g3⟩:=II hm h2
 obtain⟨vf,Eu,B1,B2,rfl,hB,rf,r2⟩:=R.dh r
 obtain⟨rfl,rfl⟩:=qO.mp hB.symm
 obtain rfl:Eu=[.int n]:=by
  cases r2 with
  | int r=>cases r;rfl
 refine⟨_,ff (q8 (PW.pt (NY (FV N8 (pv 2) qX (bt _)) (oZ (FV N9 (pv 2) qX (bt _))))) (jl q9) pd)
  (jl (q0 (IH (E:=E0) T.Lh ((Lq T).mono (by decide)) hr T.DC.b b8 rfl T.Ag (bV (pv 0) (bV (pv 1) (bV (jo ((aI6 T).mono (by decide)) hr rfl T.DP.g T.DP.F.kp T.DP.b .nil b8 (bV (pv 1) (bV (pv 2) fg))) fg)))))),?_⟩
 try dsimp only[kG,kH]
 refine⟨.int n,rfl,_,_,rfl,rfl,_,rfl,?_⟩
 rw[decide_eq_false (by omega)]
 refine iD ?_
 refine⟨.int n,rfl,_,_,rfl,rfl,_,rfl,?_⟩
 rw[decide_eq_false (by omega)]
 refine iD ?_
 have e:=e0.trans s0
 refine⟨.ref x,rfl,vf,rfl,vf,rfl,.int n,rfl,F,[fD t.aJ t.aM m,.int n],λd=>d=.lst true (az true (gZ m n)),e,R.cons (A:=[]) (rf.shared (L3.af.refl _) s0) (.int .nil),⟨m,n,rfl,hm,h2,Az,rfl⟩,λd v F1 H1 A1 hd fc An Lr Wl r1 Wm Lu=>?_⟩
 subst hd
 obtain⟨pc,rfl⟩:=wY r1
 have bU:=fc.get _ _ hx rfl
 have fR:∀X:List (List Nat),[D.lst true (az true X)].all D.fr=true:=λX=>by rw[dA,fW,ql];rfl
 have xp:∀X:List (List Nat),[D.lst true (az true X)].map D.sh=[D.lst false (az false X)]:=λX=>by rw[dy,dD,dP];rfl
 have r1:=r1.pG (fR _) An
 have WZ:=s0.trans fc
 have xA:x ∉ A1:=λz=>by rw[Lu x z]at hx;cases hx
 have s2:L3.af H0 (L3.bq H0 H1 A1):=iH WZ
 have e2:=e0.trans s2
 have r2:R F (L3.bq H0 H1 A1) [.lst true (az true (gZ m n))] [.ref pc] A1:=SH r1 λa ha=>by unfold L3.bq;rw[if_pos ha]
 refine⟨L3.bq F (L3.bq H0 H1 A1) A1,L3.bq H0 H1 A1,x,dx,t.bR,vf,.ref pc,m,gZ m n,[],rfl,nI e2,by rw[pF xA];exact gD,nI WZ,bU,.nil,⟨T.D0,T.D3,T.D4,T.D2,T.D7,T.Lb,T.D6⟩,rf.shared (iH e2) s2,xp _ ▸ r2.bq e2 A1 λ_ h=>h,hm,by rw[g3];exact g1,by omega,by omega,λH' p1 p2 p3 B1 B2 B3 sx df k1 k2 k3 nd fr=>?_⟩
 have z:=(fc.x (x:=x)).trans sx
 have so:=bO.of0 gD s0 z
 refine q H' [vf,.int (aj (gZ m n):Nat),.ref p1,.ref p2,.ref p3,.int ((cL m (gZ m n)).length:Nat)] (B1++(B2++(B3++[]))) z df rfl ?_ ?_ ?_
 ·have up:∀{ds:List D} {vs:List V} {B:List Addr},R (λ_=>none) H' ds vs B->(∀a∈B,H1 a=none)->R F H' ds vs B:=λr h=>r.keep (L3.af.of λb o e=>by cases e) (gn.same (L3.af.refl _)) gQ.nil (λa ha=>e.free (fc.free (h a ha))) (by simp)
  exact R.cons (A:=[]) (rf.shared (L3.af.refl _) so) (.int (R.cons (up k1 λa ha=>fr a (eR _ ha)) (R.cons (up k2 λa ha=>fr a (dq _ (eR _ ha))) (R.cons (up k3 λa ha=>fr a (dq _ (dq _ ha))) (.int .nil)))))
 ·rw[fH];exact nd
 ·rw[fH]
  intro a ha
  exact fc.free (fr a ha)
abbrev W0:bc:=λds Q=>∃(m:Bool × Nat) (n:Nat),ds=[cU m,.int n]/\m∈aE/\2<=n/\n<=24/\Q (.lst true (az true (gZ m n)))
theorem ay4(T:Txt K mg t):aI P w K mg base aO 1 t.U1 t.U2 ["_law_told_here","_law_length"] (bf (W0 )):=by
 refine bA T.VJ.F Dv (λds Q h=>by obtain⟨m,n,rfl,hm,h2,Az,q⟩:=h<;>rfl) λaC A outer s H E hr=>⟨_,(aA (aZ (i:=2) Dv.nd rfl (ax rfl) (eN cZ))
   (aA (gU fJ rfl (jv rfl T.gI (ag (aa (aw dN (bv 1) (aa ai))) aq)) (jY (i:=3) Dv.nd rfl (ax rfl))
    (aA (aZ (i:=4) Dv.nd rfl (ax rfl) (aw fY (aa (eN (cJ ai cZ))) (bv 1)))
    (aA (vS (i:=4) rfl (by first | exact ax rfl | exact b9 (ax rfl)) ai (bv 3))
    (aA (vS (i:=4) rfl (by first | exact ax rfl | exact b9 (ax rfl)) ai (aa (aw dN (bv 1) (aa ai))))
    (aA (cA (rK (ia (bJ (bv 0) (aa ai) (λ_ _=>rfl)))) (aB (vS (i:=4) rfl (by first | exact ax rfl | exact b9 (ax rfl)) (aw dN (bJ (bv 0) (aa ai) (λ_ _=>rfl)) (aa ai)) (aa (aw dN (bv 1) (aa ai))))) cy)
    (aB (nW (i:=2) rfl (by first | exact ax rfl | exact b9 (ax rfl)) (em 4))))))))
   (aB (aQ (em 2))))),λds Q h=>?_⟩
 obtain⟨m,n,rfl,hm,h2,Az,q⟩:=h
 have hF:=c9 hm
 have fk:=hF.lo
 have Au:=hF.hi
 refine ay λU hU=>?_
 nofun
 refine⟨by decide,hU _ ?_⟩
 clear hU U
 refine ay λU hU=>?_
 nofun
 refine⟨⟨by omega,by omega⟩,?_⟩
 rw[show((n:Int)-1)=((n-1:Nat):Int) by omega]
 refine zb (λi δ=>∃(o1 o2:Option D),δ=[some (cU m),some (.int n),some (.lst true (az true ((aL i).map (kJ m n)))),o1,o2]) ⟨_,_,rfl⟩ ?_ ?_
 ·rintro i δ hi ⟨o1,o2,rfl⟩
  simp only[gN,jN,jM]
  clear hU
  have up:∀v:Nat,v=bP m 0 1->((aU n 0).set i 1).set (n-1) v=kJ m n i:=λv hv=>by
   have l1:(((aU n 0).set i 1).set (n-1) v).length=n:=by rw[kn,kn,fP]
   refine R4 l1 (by unfold kJ;simp only[dF,fP,mi];omega) λk hk=>?_
   rw[cB6 hi]
   unfold cf
   rw[aS,List.getElem?_set,List.getElem?_set,kn,fP,oN,if_pos hk]
   by_cases c1:k=i
   ·rw[if_neg (by omega),if_pos c1.symm,if_pos (by omega),if_pos c1];rfl
   ·by_cases c2:k=n-1
    ·rw[if_pos c2.symm,if_pos (by omega),if_neg c1,if_pos c2,hv];rfl
    ·rw[if_neg (λz=>c2 z.symm),if_neg (λz=>c1 z.symm),if_neg c1,if_neg c2];rfl
  refine ay λU hU=>?_
  nofun
  refine⟨by decide,⟨by omega,by omega,by omega⟩,hU _ ?_⟩
  clear hU
  rw[iX]
  refine ay λU hU=>?_
  nofun
  refine⟨_,i,rfl,CZ (by omega) (by rw[lF,fP];omega),hU _ ?_⟩
  clear hU
  refine ay λU hU=>?_
  nofun
  have ix:∀v:Nat,i6 (av (((aU n 0).set i 1).set (n-1) v)).length ((n:Int)-1)=some (n-1):=λv=>by
   rw[show((n:Int)-1)=((n-1:Nat):Int) by omega]
   exact CZ (by omega) (by rw[fw,kn,kn,fP];omega)
  rw[show(aG (aU n 0)).set i (D.int 1)=av ((aU n 0).set i 1) by
   rw[cT];unfold aG;rw[xM,uu,uu];rfl]
  refine⟨_,n-1,rfl,by rw[<-ix 0,fw,fw,kn (i:=n-1)],hU _ ?_⟩
  rw[show(av ((aU n 0).set i 1)).set (n-1) (D.int 1)=av (((aU n 0).set i 1).set (n-1) 1) by rw[cT,cT,xM (i:=n-1)];rfl]
  clear hU
  rw[show cU m=D.tup [.bl m.1,.int (m.2:Nat)] from rfl]
  refine ay λU hU=>?_
  nofun
  have fin:∀v:Nat,v=bP m 0 1->U [some (D.tup [.bl m.1,.int (m.2:Nat)]),some (D.int n),some (D.lst true (az true ((aL i).map (kJ m n)))),some (D.int i),some (D.lst true (av (((aU n 0).set i 1).set (n-1) v)))]:=λv hv=>by
   rw[up v hv]
   refine hU _ ?_
   nofun
   refine⟨⟨_,rfl⟩,by rw[br,cj];omega,_,_,?_,rfl,rfl⟩
   rw[Bf,eH]
   exact sW true _ [kJ m n i]
  refine⟨_,rfl,_,rfl,?_⟩
  cases e:m.1 with
  | true =>
   rw[if_neg (by decide)]
   rw[e]at fin
   exact fin 1 (by unfold bP gl;rw[e];rfl)
  | false =>
   have e2:ae m=m.2:=by unfold ae;rw[e];rfl
   rw[if_pos (by decide)]
   refine⟨_,rfl,?_⟩
   dsimp only
   refine⟨_,n-1,rfl,ix 1,?_⟩
   rw[show(av (((aU n 0).set i 1).set (n-1) 1)).set (n-1) (D.int ((m.2:Nat)-1:Int))=av (((aU n 0).set i 1).set (n-1) (m.2-1)) by
    rw[cT,cT,xM (i:=n-1),xM (i:=n-1),Fg,show((m.2-1:Nat):Int)=(m.2:Int)-1 by omega]]
   rw[e]at fin
   refine fin (m.2-1) ?_
   unfold bP gl
   rw[e,if_neg (by decide),show(((0:Nat):Int)-((1:Nat):Int))=((m.2:Int)-1)+(m.2:Int)*(-1) by omega,Int.add_mul_emod_self_left,NC (by omega) (by omega)]
   omega
 ·rintro δ ⟨o1,o2,rfl⟩
  refine hU _ ?_
  nofun
  exact q
theorem xt{m:Bool × Nat}(hm:m∈aE){G:List (List Nat)}(hR:RT (ae m) (aj G) G)(h:G.length<aj G)(hw:aj G<=64):eY m G:=by
 refine⟨hm,hR,by omega,hw,?_⟩
 obtain⟨⟨H,I⟩,iR,_⟩:=jc hm hR
 have f:=I.wL hm iR
 have r:=Se hm hR hR λi hi=>by
  rw[aS,aR hi]
  exact cq.of (eG hi)
 unfold cL
 omega
theorem EA{m:Bool × Nat}(hm:m∈aE){G:List (List Nat)}(hR:RT (ae m) (aj G) G)(h:G.length<aj G):∃Fb,kI m G=some Fb:=by
 cases e:kI m G with
 | some Fb=>exact⟨Fb,rfl⟩
 | none=>exact absurd (Sz hm (by omega) hR e (aL (aj G)) (SA (bM _))) (bU9 hm hR (by rw[cj];exact h))
abbrev aQ0(t:dY):bc:=λds Q=>∃(m:Bool × Nat) (ns:List Int),ds=[.fz (aG ns),cU m]/\m∈aE/\∀(G:List (List Nat)) (k:Kd) (dst:Int),eY m G->1<=G.length->2<=aj G->aj G<=12->Q (.tup [fM t m G k,.lst true (az true G),.int dst])
theorem aQ1(T:Txt K mg t)(hB:Bm mg base):aI P w K mg base aO 11 t.U3 t.U4 ["_law_script","_law_told_here"] (pZ [t.ig,t.ij] (bf (aQ0 t))):=by
 refine zA T.DQ.F jf (λds Q h=>by obtain⟨m,ns,rfl,hm,q⟩:=h<;>rfl) λaC A outer s H E hT hr=>⟨_,(aA (aZ (i:=2) jf.nd rfl (ax rfl) (bw T.z7 (El T) hr (ag (bv 1) aq)))
   (aA (aZ (i:=3) jf.nd rfl (ax rfl) (lJ hT ((Ez T hB).mono (by decide)) hr rfl T.kb.g T.kb.F.kp T.kb.b b8 (ag (bv 1) aq)))
   (aA (aZ (i:=4) jf.nd rfl (ax rfl) (bw T.gH (g7 T) hr (ag (bv 0) (ag (aa ai) aq))))
   (aA (aZ (i:=5) jf.nd rfl (ax rfl) (aw cm (aa ai) (aa (aw cK (aa (bw T.gH (g7 T) hr (ag (bv 0) (ag (aa ai) aq)))) (aa ai)))))
   (aA (aZ (i:=6) jf.nd rfl (ax rfl) (aw cm (aa ai) (aa (aw cK (aa (bw T.gH (g7 T) hr (ag (bv 0) (ag (aa ai) aq)))) (aa (eB (Ck rfl) (by rfl) T.Eh BY (ag (aa ai) (ag (aa (aw dN (bv 5) (aa ai))) aq))))))))
   (aA (cA (bN (dO (bY hr)) (aa (aw cK (bv 4) (aa ai))) (aa ai) (bt _)) (aA (aZ (i:=7) jf.nd rfl (ax rfl) (bw T.VG (aE0 T) hr (ag (bv 2) (ag (bv 5) (ag (bv 6) (ag (aa (bw T.gH (g7 T) hr (ag (bv 0) (ag (aa ai) aq)))) (ag (aa (k9 (dO (bY hr)) (aa (aw cK (aa (aw rV (bv 4) (aa ai))) (aa ai))) (aa ai) (bt _))) aq)))))))
    (aA (aZ (i:=8) jf.nd rfl (ax rfl) (s9 hT T.xk ((Et T hB).mono (by decide)) hr rfl T.tJ T.Ab.b b8 (ag (bv 3) (ag (IF (eC [] ["_law_row"] rfl (iM (bv 7)) (λ_ _ _ _=>(ft (i:=0) (show(["_law_row"]:List Str).Nodup by decide +kernel))) (λ_ _ _ _=>dM) (λ_ _ _ _=>(yD (Hb) (by rfl) T.Li Gw (ag (bv 0) aq))) rfl)) aq))))
    (aB (aQ (nL (cJ (dJ (bv 8)) (cJ (em 7) (cJ (wD (P:=P) (w:=w) (K:=K) (mg:=mg) (base:=base) (n:=1) (bv 8) (hr.mono (by decide))) cZ)))))))) cy)
   (aA (cA (PW.pt (Cb (bN (dO (bY hr)) (aa (aw cK (bv 4) (aa ai))) (aa ai) (bt _)) (FF (bN (dO (bY hr)) (aa (aw cK (aa (aw rV (bv 4) (aa ai))) (aa ai))) (aa ai) (bt _))))) (aB (aZ (i:=5) jf.nd rfl (ax rfl) (aw cm (aa ai) (aa (aw cK (aa (bw T.gH (g7 T) hr (ag (bv 0) (ag (aa ai) aq)))) (aa ai)))))) cy)
   (aA (cA (PW.pt (nK (bN (dO (bY hr)) (aa (aw cK (bv 4) (aa ai))) (aa ai) (bt _)) (oZ (bN (dO (bY hr)) (bv 2) (aa ai) (bt _))))) (aB (aQ (nL (cJ (s9 hT T.D1 ((WY T hB).mono (by decide)) hr rfl T.Ej T.KU.b b8 (ag (bv 3) (ag (aa (aw cm (bv 5) (aa ai))) aq))) (cJ (bw T.VJ (ay4 T) hr (ag (bv 1) (ag (aa (aw cm (bv 5) (aa ai))) aq))) (cJ (aw cm (bv 5) (aa ai)) cZ)))))) cy)
   (aA (aZ (i:=9) jf.nd rfl (ax rfl) (aw cK (aa (bw T.gH (g7 T) hr (ag (bv 0) (ag (aa ai) aq)))) (aa (aw dN (bv 2) (aa ai)))))
   (aA (cA (bN (dO (bY hr)) (aa (aw cK (bv 4) (aa ai))) (aa ai) (bt _)) (aA (aZ (i:=5) jf.nd rfl (ax rfl) (eB (Ck rfl) (by rfl) T.Eh BY (ag (bv 5) (ag (aa (aw dN (bv 2) (aa ai))) aq))))
    (aA (aZ (i:=6) jf.nd rfl (ax rfl) (eB (Ck rfl) (by rfl) T.Eh BY (ag (bv 6) (ag (aa (aw dN (bv 5) (aa ai))) aq))))
    (aA (aZ (i:=7) jf.nd rfl (ax rfl) (bw T.KS (WV T) hr (ag (bv 1) (ag (bv 5) (ag (bv 6) (ag (bv 9) aq))))))
    (aB (aQ (nL (cJ (s9 hT T.xk ((Et T hB).mono (by decide)) hr rfl T.tJ T.Ab.b b8 (ag (bv 3) (ag (IF (eC [] ["_law_row"] rfl (iM (bv 7)) (λ_ _ _ _=>(ft (i:=0) (show(["_law_row"]:List Str).Nodup by decide +kernel))) (λ_ _ _ _=>dM) (λ_ _ _ _=>(yD (Hb) (by rfl) T.Li Gw (ag (bv 0) aq))) rfl)) aq))) (cJ (em 7) (cJ (aw cm (bv 6) (aa ai)) cZ))))))))) cy)
   (aA (aZ (i:=5) jf.nd rfl (ax rfl) (aw cm (aa ai) (aa (aw cK (aa (bw T.gH (g7 T) hr (ag (bv 0) (ag (aa ai) aq)))) (aa (eB (Ck rfl) (by rfl) T.Eh BY (ag (aa ai) (ag (aa (aw dN (bv 2) (aa ai))) aq))))))))
   (aA (aZ (i:=6) jf.nd rfl (ax rfl) (aw cm (aa ai) (aa (aw cK (aa (bw T.gH (g7 T) hr (ag (bv 0) (ag (aa ai) aq)))) (aa (aw dN (bv 5) (aa ai)))))))
   (aB (aQ (nL (cJ (s9 hT T.D9 ((WK T hB).mono (by decide)) hr rfl T.Ek T.dB3 b8 (ag (bv 3) (ag (bv 5) (ag (bv 6) (ag (bv 9) aq))))) (cJ (bw T.KS (WV T) hr (ag (bv 1) (ag (bv 5) (ag (bv 6) (ag (bv 9) aq))))) (cJ (aw cm (bv 6) (aa ai)) cZ)))))))))))))))))),λds Q h=>?_⟩
 obtain⟨m,ns,rfl,hm,q⟩:=h
 have hF:=c9 hm
 have fk:=hF.lo
 have Au:=hF.hi
 have WT:=HV m hm
 refine ay λU hU=>?_
 nofun
 refine⟨m,rfl,by omega,by omega,hU _ ?_⟩
 clear hU U
 refine ay λU hU=>?_
 nofun
 refine⟨m,rfl,hm,hU _ ?_⟩
 clear hU U
 refine ay λU hU=>?_
 nofun
 refine⟨ns,1,rfl,by decide,hU _ ?_⟩
 clear hU U
 generalize ns.getD (dS 1) 0=kd
 refine ay λU hU=>?_
 nofun
 refine⟨ns,2,rfl,by decide,by decide,?_⟩
 obtain⟨n,en,pj,hn6⟩:∃k:Nat,2+ns.getD (dS 2) 0%5=k/\2<=k/\k<=6:=⟨(2+ns.getD (dS 2) 0%5).toNat,by omega,by omega,by omega⟩
 rw[en]
 refine hU _ ?_
 clear hU U en
 refine ay λU hU=>?_
 nofun
 refine⟨ns,3,rfl,by decide,?_⟩
 dsimp only
 obtain⟨M,eM,M0,M1,M3⟩:∃M:Int,(if(n:Int)-1<3 then(n:Int)-1 else 3)=M/\0<M/\M<=(n:Int)-1/\M<=3:=⟨_,rfl,by split<;>omega,by split<;>omega,by split<;>omega⟩
 rw[eM]
 refine⟨M0,?_⟩
 obtain⟨e,ee,Lr,hen,he3⟩:∃k:Nat,1+ns.getD (dS 3) 0%M=k/\1<=k/\k+1<=n/\k<=3:=by
  have n0:=gL (ns.getD (dS 3) 0) (show M≠0 by omega)
  have n1:=g9 (ns.getD (dS 3) 0) M0
  exact⟨(1+ns.getD (dS 3) 0%M).toNat,by omega,by omega,by omega,by omega⟩
 rw[ee]
 refine hU _ ?_
 clear hU U ee eM M0 M1 M3 M
 refine ay λU hU=>?_
 nofun
 refine⟨by decide,?_⟩
 split
 ·clear hU
  refine ay λU hU=>?_
  nofun
  refine⟨ns,4,rfl,by decide,rT (by decide) (by decide),by decide,ae m,n,e,_,_,rfl,by omega,by omega,by omega,by omega,λG lG hG=>⟨rfl,hU _ ?_⟩⟩
  clear hU U
  have wG:aj G=n:=wM hG λz=>by rw[z]at lG;exact absurd lG (by show ¬ 0=e;omega)
  rw[<-wG]at hG pj hn6 hen
  refine ay λU hU=>?_
  nofun
  refine eV G (λr=>D.lst false (av r)) (λr=>D.lst true (av r)) (by rw[dP];rfl) (λa b h=>mW a b h) (λr bj=>?_) (.inr λr _=>iU r) (by rw[sL];omega) ?_
  ·nofun
  obtain⟨Fb,eF⟩:=EA hm hG (by omega)
  rw[show((D.lst true (ui (λr=>D.lst true (av r)) G)).sh)=D.lst false (az false G) from by rw[dD];exact congrArg _ (dP true G)]
  have cG:=xt hm hG (by omega) (by omega)
  refine⟨by rw[fV,oq];rfl,_,_,⟨m,G,Fb,rfl,cG,by omega,by omega,by omega,by omega,eF,rfl,rfl⟩,?_⟩
  rw[eH,qu]
  show U [some (D.fz (aG ns)),some (cU m),some (D.int (ae m)),some (fD t.aJ t.aM m),some (D.int kd),some (D.int n),some (D.int e),some (D.lst true (az true G)),some (fM t m G (.jG Fb.length)),none]
  refine hU _ ?_
  clear hU U
  nofun
  exact⟨rfl,_,_,_,WW t,rfl,⟨T.m3,_,_,_,T.dC8,aw2 T,T.VI.b⟩,by decide,m,G,_,rfl,by decide,q G _ _ cG (by omega) (by omega) (by omega)⟩
 refine hU _ ?_
 clear hU U
 refine ay λU hU=>?_
 nofun
 have fin:∀n':Nat,2<=n'->n'<=11->(kd%5≠0->n'=n)->U [some (D.fz (aG ns)),some (cU m),some (D.int (ae m)),some (fD t.aJ t.aM m),some (D.int kd),some (D.int n'),some (D.int e),none,none,none]:=λn' a2 a11 an=>?_
 ·refine⟨by decide,?_⟩
  split
  ·refine⟨rT (by decide) (by decide),by decide,?_⟩
   split
   ·refine⟨ns,2,rfl,by decide,by decide,?_⟩
    obtain⟨n',en,h1,h2⟩:∃k:Nat,7+ns.getD (dS 2) 0%5=k/\7<=k/\k<=11:=⟨(7+ns.getD (dS 2) 0%5).toNat,by omega,by omega,by omega⟩
    rw[en]
    exact fin n' (by omega) h2 (λh=>absurd ‹_› h)
   ·exact fin n pj (by omega) λ_=>rfl
  ·exact fin n pj (by omega) λ_=>rfl
 refine hU _ ?_
 clear hU U
 refine ay λU hU=>?_
 nofun
 refine⟨by decide,?_⟩
 have rp:∃ns xs,WX t [fD t.aJ t.aM m,D.int ((n':Int)+1)] ns xs/\W0 [cU m,D.int ((n':Int)+1)] λd=>0+1+1+1<=16777216/\Q (D.tup [D.obj t.bR ns (ui D.sh xs),d,D.int ((n':Int)+1)]):=by
  refine⟨_,_,⟨m,n'+1,rfl,hm,by omega,by omega,rfl,rfl⟩,m,n'+1,rfl,hm,by omega,by omega,by decide,?_⟩
  obtain⟨r1,r2,r3⟩:=II hm (show 2<=n'+1 by omega)
  rw[qu]
  exact q (gZ m (n'+1)) .rep _ (xt hm (by rw[r3];exact r1) (by omega) (by omega)) (by omega) (by omega) (by omega)
 split
 ·exact rp
 split
 ·exact rp
 refine hU _ ?_
 clear hU U rp
 rename_i hk1 hk2
 obtain rfl:n=n':=(an hk1).symm
 have hM3:3<=ae m:=by omega
 refine ay λU hU=>?_
 nofun
 refine⟨ns,4,rfl,by decide,?_⟩
 dsimp only
 obtain⟨f,ef,hf⟩:∃f:Nat,ns.getD (dS 4) 0%((ae m:Int)-1)=f/\f+2<=ae m:=by
  have n0:=gL (ns.getD (dS 4) 0) (show(ae m:Int)-1≠0 by omega)
  have n1:=g9 (ns.getD (dS 4) 0) (show 0<(ae m:Int)-1 by omega)
  exact⟨(ns.getD (dS 4) 0%((ae m:Int)-1)).toNat,by omega,by omega⟩
 rw[ef]
 refine⟨by omega,hU _ ?_⟩
 clear hU U ef
 refine ay λU hU=>?_
 nofun
 refine⟨by decide,?_⟩
 split
 ·clear hU
  refine ay λU hU=>?_
  nofun
  obtain⟨n',en,dR7,hnM⟩:∃k:Nat,(if(ae m:Int)-1<n then(ae m:Int)-1 else n)=k/\2<=k/\k<=6/\k+1<=ae m:=⟨(if(ae m:Int)-1<n then(ae m:Int)-1 else n).toNat,by split<;>omega,by split<;>omega,by split<;>omega,by split<;>omega⟩
  rw[en]
  refine hU _ ?_
  clear hU U en
  refine ay λU hU=>?_
  nofun
  obtain⟨e',ee,dR9,dS0⟩:∃k:Nat,(if(n':Int)-1<e then(n':Int)-1 else e)=k/\1<=k/\k+1<=n':=⟨(if(n':Int)-1<e then(n':Int)-1 else e).toNat,by split<;>omega,by split<;>omega,by split<;>omega⟩
  rw[ee]
  refine hU _ ?_
  clear hU U ee
  refine ay λU hU=>?_
  nofun
  refine⟨m,n',e',f,rfl,hm,by omega,by omega,by omega,hU _ ?_⟩
  clear hU U
  obtain⟨g1,g2,g3⟩:=Dq hm f n' (show 1<=e' by omega)
  have g4:RT (ae m) (aj (fB m f (aL n') e')) (fB m f (aL n') e'):=by rw[g3];exact g1
  obtain⟨Fb,eF⟩:=EA hm g4 (by omega)
  have cG:=xt hm g4 (by omega) (by omega)
  generalize fB m f (aL n') e'=G at *
  nofun
  refine eV G (λr=>D.lst false (av r)) (λr=>D.lst true (av r)) (by rw[dP];rfl) (λa b h=>mW a b h) (λr bj=>?_) (.inr λr _=>iU r) (by rw[sL];omega) ?_
  ·nofun
  rw[show((D.lst true (ui (λr=>D.lst true (av r)) G)).sh)=D.lst false (az false G) from by rw[dD];exact congrArg _ (dP true G)]
  refine⟨by rw[fV,oq];rfl,_,_,⟨m,G,Fb,rfl,cG,by omega,by omega,by omega,by omega,eF,rfl,rfl⟩,?_⟩
  dsimp only[ur,uq]
  rw[eH,qu]
  exact⟨by decide,q G (.jG Fb.length) _ cG (by omega) (by omega) (by omega)⟩
 refine hU _ ?_
 clear hU U
 refine ay λU hU=>?_
 nofun
 refine⟨ns,2,rfl,by decide,?_⟩
 dsimp only
 obtain⟨M,eM,M0,M1,M3⟩:∃M:Int,(if(ae m:Int)-2<5 then(ae m:Int)-2 else 5)=M/\0<M/\M<=(ae m:Int)-2/\M<=5:=⟨_,rfl,by split<;>omega,by split<;>omega,by split<;>omega⟩
 rw[eM]
 refine⟨M0,?_⟩
 obtain⟨n',en,dR7,ew5,hnM⟩:∃k:Nat,2+ns.getD (dS 2) 0%M=k/\2<=k/\k<=12/\k+1<=ae m:=by
  have n0:=gL (ns.getD (dS 2) 0) (show M≠0 by omega)
  have n1:=g9 (ns.getD (dS 2) 0) M0
  exact⟨(2+ns.getD (dS 2) 0%M).toNat,by omega,by omega,by omega,by omega⟩
 rw[en]
 refine hU _ ?_
 clear hU U en eM M0 M1 M3 M
 refine ay λU hU=>?_
 nofun
 refine⟨ns,3,rfl,by decide,?_⟩
 dsimp only
 have M0:(0:Int)<(n':Int)-1:=by omega
 refine⟨M0,?_⟩
 obtain⟨e',ee,dR9,dS0⟩:∃k:Nat,1+ns.getD (dS 3) 0%((n':Int)-1)=k/\1<=k/\k+1<=n':=by
  have n0:=gL (ns.getD (dS 3) 0) (show(n':Int)-1≠0 by omega)
  have n1:=g9 (ns.getD (dS 3) 0) M0
  exact⟨(1+ns.getD (dS 3) 0%((n':Int)-1)).toNat,by omega,by omega,by omega⟩
 rw[ee]
 refine hU _ ?_
 clear hU U ee M0
 nofun
 refine⟨_,_,⟨m,n',e',f,rfl,hm,by omega,by omega,by omega,by omega,by omega,rfl,rfl⟩,m,n',e',f,rfl,hm,by omega,by omega,by omega,by decide,?_⟩
 rw[eH,qu]
 obtain⟨g1,g2,g3⟩:=Dq hm f n' (show 1<=e' by omega)
 exact q (fB m f (aL n') e') (.IJ e' f) _ (xt hm (by rw[g3];exact g1) (by omega) (by omega)) (by omega) (by omega) (by omega)
abbrev aL1:bc:=λds Q=>∃(ns:List Int) (a s M:Nat),ds=[.fz (aG ns),.int a,.int s,.int M]/\1<=a/\a<=1000/\s<=64/\1<=M/\∀l:List Nat,l.length=s->AllLt M l->Q (.lst true (av l))
theorem W2(T:Txt K mg t):aI P w K mg base aO 2 t.U5 t.U6 ["_law_script","_law_at","_law_size","_law_many_here"] (bf (aL1 )):=by
 refine bA T.KW.F aJ5 (λds Q h=>by obtain⟨ns,a,s,M,rfl,ha,ha2,hs,hM,q⟩:=h<;>rfl) λaC A outer s H E hr=>⟨_,(aB (aQ (eC [("_law_many_here",3),("_law_script",0),("_law_at",1)] ["_law_j"] rfl (jv rfl T.gI (ag (bv 2) aq)) (λ_ _ _ _=>(ft (i:=3) (show(["_law_many_here","_law_script","_law_at","_law_j"]:List Str).Nodup by decide +kernel))) (λ_ _ _ _=>dM) (λ_ _ _ _=>(aw cK (aa (aw cm (aa (bw T.gH (g7 T) hr (ag (bv 1) (ag (aa (aw cm (bv 2) (bv 3))) aq)))) (aa (bw T.DN (LN T) hr (ag (aa (bw T.gH (g7 T) hr (ag (bv 1) (ag (aa (aw dN (bv 2) (aa ai))) aq)))) (ag (bv 3) aq)))))) (bv 0))) rfl))),λds Q h=>?_⟩
 obtain⟨ns,a,s,M,rfl,ha,ha2,hs,hM,q⟩:=h
 have LO:∀z:Int,z%(M:Int)=(((z%(M:Int)).toNat:Nat):Int):=λz=>by
  have n0:=gL z (show(M:Int)≠0 by omega)
  omega
 have LP:∀z:Int,(z%(M:Int)).toNat<M:=λz=>by
  have n1:=g9 z (show(0:Int)<(M:Int) by omega)
  omega
 nofun
 refine⟨⟨by omega,by omega⟩,eV (aL s) (λ(i:Nat)=>D.int (i:Int)) (λk=>D.int ((((ns.getD (((a:Int)+(k:Int)).toNat) 0+l8 (ns.getD ((a:Int)-1).toNat 0) (k:Int))%(M:Int)).toNat:Nat):Int)) (om _ rfl) jB (λk hk=>?_) (.inr λ_ _=>rfl) (by rw[cj,sL];omega) ?_⟩
 ·have hk:=di.mp hk
  nofun
  refine⟨ns,_,rfl,by omega,ns,_,rfl,by omega,_,_,rfl,by omega,by omega,?_⟩
  dsimp only
  exact⟨rfl,by omega,LO _⟩
 ·obtain⟨row,er,tO,tP⟩:∃wd:List Nat,((aL s).map λ(k:Nat)=>D.int ((((ns.getD (((a:Int)+(k:Int)).toNat) 0+l8 (ns.getD ((a:Int)-1).toNat 0) (k:Int))%(M:Int)).toNat:Nat):Int))=av wd/\AllLt M wd/\wd.length=s:=by
   refine⟨(aL s).map λ(k:Nat)=>((ns.getD (((a:Int)+(k:Int)).toNat) 0+l8 (ns.getD ((a:Int)-1).toNat 0) (k:Int))%(M:Int)).toNat,by rw[cT,cu];rfl,λa ha=>?_,by simp⟩
   obtain⟨k,_,rfl⟩:=bB.mp ha
   exact LP _
  rw[er]
  exact q _ tP tO
abbrev aQ2:bc:=λds Q=>∃(m:Bool × Nat) (a b:Nat),ds=[cU m,.int a,.int b]/\0<m.2/\Q (.int (gp m a b:Nat))
theorem aQ3(T:Txt K mg t):aI P w K mg base aO 1 t.U7 t.U8 ["_law_told_here","_law_a","_law_b"] (bf (aQ2 )):=by
 refine bA T.VL.F aO8 (λds Q h=>by obtain⟨m,a,b,rfl,h0,q⟩:=h<;>rfl) λaC A outer s H E hr=>⟨_,(aA (cA (ia (bJ (bv 0) (aa ai) (λ_ _=>rfl))) (aB (aQ (aw yy (bv 1) (bv 2)))) cy)
   (aB (aQ (aw cK (aa (aw cm (bv 1) (bv 2))) (bJ (bv 0) (aa ai) (λ_ _=>rfl)))))),λds Q h=>?_⟩
 obtain⟨m,a,b,rfl,h0,q⟩:=h
 unfold cU at *
 obtain⟨k,n⟩:=m
 refine ay λU hU=>?_
 nofun
 cases k with
 | true =>
  refine⟨_,rfl,true,rfl,?_⟩
  rw[if_pos rfl,nH]
  exact q
 | false =>
  refine⟨_,rfl,false,rfl,?_⟩
  rw[if_neg (by decide)]
  refine hU _ ?_
  nofun
  refine⟨_,rfl,?_⟩
  refine⟨by omega,?_⟩
  have e:((gp (false,n) a b:Nat):Int)=((a:Int)+b)%n:=by
   show(((a+b)%n:Nat):Int)=_
   rw[oU,Fo]
  rw[<-e];exact q
abbrev aR6:bc:=λds Q=>∃(m:Bool × Nat) (xs ys:List Nat),ds=[cU m,.lst false (av xs),.lst false (av ys)]/\m∈aE/\xs.length=ys.length/\xs.length<=64/\(∀x∈xs,x<ae m)/\(∀y∈ys,y<ae m)/\Q (.int (gd m xs ys:Nat))
theorem aR7(T:Txt K mg t):aI P w K mg base aO 2 t.U9 t.Va ["_law_told_here","_law_xs","_law_ys"] (bf (aR6 )):=by
 refine bA T.VM.F Dw (λds Q h=>by obtain⟨m,xs,ys,rfl,hm,hl,kN,hx,hy,q⟩:=h<;>rfl) λaC A outer s H E hr=>⟨_,(aA (aZ (i:=3) Dw.nd rfl (ax rfl) ai)
   (aA (gU fJ rfl (wa rfl T.xo (ag (bv 1) (ag (bv 2) aq))) (nZ (i1:=4) (i2:=5) rfl Dw.nd rfl (ax rfl) rfl (ax rfl))
    (aB (aZ (i:=3) Dw.nd rfl (ax rfl) (bw T.VL (aQ3 T) hr (ag (bv 0) (ag (bv 3) (ag (aa (bw T.DO (LQ T) hr (ag (bv 0) (ag (bv 4) (ag (bv 5) aq))))) aq)))))))
   (aB (aQ (em 3))))),λds Q h=>?_⟩
 obtain⟨m,xs,ys,rfl,hm,hl,kN,hx,hy,q⟩:=h
 refine ay λU hU=>?_
 nofun
 refine hU _ ?_
 clear hU U
 refine ay λU hU=>?_
 nofun
 refine⟨_,_,rfl,rfl,?_⟩
 refine gS.mk (λi δ=>∃o1 o2,δ=[some (cU m),some (.lst false (av xs)),some (.lst false (av ys)),some (.int (((dr (gm m) xs ys).take i).foldl (gp m) 0:Nat)),o1,o2]) ⟨none,none,rfl⟩ ?_ ?_
 ·rintro i d δ hd ⟨o1,o2,rfl⟩
  obtain⟨hi,hj,rfl⟩:∃(hi:i<xs.length) (hj:i<ys.length),d=.tup [.int (xs[i]:Nat),.int (ys[i]:Nat)]:=by
   unfold fm at hd
   rw[cT,cT,Fl]at hd
   by_cases hi:i<xs.length
   ·have hj:i<ys.length:=by omega
    rw[qS,aR hi,aR hj]at hd
    exact⟨hi,hj,(dn hd).symm⟩
   ·rw[gw (by simp;omega)]at hd;cases hd
  have bU:=hx xs[i] (eG _)
  have As:=hy ys[i] (eG _)
  nofun
  have hF:=c9 hm
  have t1:(cU m).sh=cU m:=rfl
  have t2:(cU m).pl=true:=rfl
  have m0:0<m.2:=dm m hm
  refine⟨m,xs[i],ys[i],rfl,hm,bU,As,m,_,gm m xs[i] ys[i],rfl,m0,by simp[D.pl],_,_,?_,rfl,rfl⟩
  rw[List.take_succ,Be,qS,aR hi,aR hj];rfl
 ·rintro δ ⟨o1,o2,rfl⟩
  refine hU _ ?_
  nofun
  have e:(fm (av xs) (av ys)).length=xs.length:=by unfold fm;rw[kR,fw,fw];omega
  rw[e,A8 (by rw[kR];omega)]
  exact q
def cz7(t:dY):lH:=λds _ Ex=>∃(m:Bool × Nat) (G:List (List Nat)) (k:Kd),ds=[fM t m G k]/\(12<aj G->Ex t.dw)/\(aj G<=12->(cL m G).length=aj G/\Ex t.dB)
theorem cI1(T:Txt K mg t):aI P w K mg base (jU P w) 2 t.Kq t.Kr ["code"] (mQ (cz7 t)):=by
 refine Co T.l7.F SY (λds Q E ⟨m,G,k,h,_⟩=>by rw[h];rfl) λaC A outer s H E hr=>⟨_,aA (Qe (Qc ((V4 T).mono (by decide)) hr rfl T.tw.g T.tw.F.kp T.tw.b rfl (ag (bv 0) aq)))
  (aA (cA (bN (dO (bY hr)) (bZ (K:=K) (bv 0)) (bZ (K:=K) (bv 0)) (bt _)) (aB (Cr T.dE0 rfl (by rfl) (ag (aa jt) aq))) cy) cg5),λds Q Ex h=>?_⟩
 obtain⟨m,G,k,rfl,h1,h2⟩:=h
 refine ay λU hU=>?_
 nofun
 rw[qv]
 refine⟨m,G,k,rfl,λqE=>⟨by rw[tu];rfl,hU _ ?_⟩,h1⟩
 clear hU U
 refine ay λU hU=>?_
 nofun
 refine qB T m G k ?_
 refine oH T m G k ⟨⟨rfl,rfl⟩,?_⟩
 obtain⟨e,hx⟩:=h2 qE
 rw[ie,e,decide_eq_true rfl,if_pos rfl]
 exact⟨by decide,hx⟩
abbrev aL2(t:dY):bc:=λds Q=>∃(m:Bool × Nat) (G:List (List Nat)) (k:Kd),ds=[fM t m G k]/\(12<aj G->Q (.str "large"))/\(aj G<=12->(cL m G).length=aj G/\Q (.str "none"))
theorem EB(T:Txt K mg t)(hB:Bm mg base):aI P w K mg base aO 8 t.Vb t.at2 ["_law_code_here"] (pZ [t.ig,t.ij] (bf (aL2 t))):=by
 refine zA T.ke.F Dx (λds Q h=>by obtain⟨m,G,k,rfl,h1,h2⟩:=h<;>rfl) λaC A outer s H E hT hr=>⟨_,(aA (aZ (i:=1) Dx.nd rfl (ax rfl) B9)
   (aA (cM1 (i:=2) (λ_ _=>(aB (Qe (Qc ((cI1 T).mono (by decide)) hr rfl T.l7.g T.l7.F.kp T.l7.b rfl (ag (bv 0) aq)))))
    (λ_ _=>(aB (aZ (i:=1) Dx.nd rfl (ax rfl) (em 2)))) (by rfl) T.Ll Dx.nd rfl rfl rfl rfl rfl)
   (aA (cA (PW.pt (nK (rK (ia (aa (cH8 (by rfl) T.qA (by rfl) T.dD5 bA9 (bv 1))))) (oZ (PW.pt (Cb (ia (aa (Cv (by rfl) T.qA (by rfl) T.Ah (bv 1)))) (FF (ia (aa (Cv (by rfl) T.qA (by rfl) T.Ai (bv 1)))))))))) (aB (aQ jt)) cy)
   (aA (cA (ia (aa (Cv (by rfl) T.qA (by rfl) T.Ai (bv 1)))) (aB (aQ jt)) cy)
   (aA (cA (ia (aa (Cv (by rfl) T.qA (by rfl) T.Ah (bv 1)))) (aB (aQ jt)) cy)
   (aB (aQ jt))))))),λds Q h=>?_⟩
 obtain⟨m,G,k,rfl,h1,h2⟩:=h
 refine ay λU hU=>?_
 nofun
 refine hU _ ?_
 clear hU U
 refine ay λU hU=>?_
 nofun
 rw[qv]
 refine⟨m,G,k,rfl,λw=>⟨T.ax7,hU _ ?_⟩,λw=>⟨(h2 w).1,T.aC9,hU _ ?_⟩⟩
 ·clear hU U
  refine ay λU hU=>?_
  nofun
  refine⟨_,pX T.Ln T.dE7,?_⟩
  rw[if_neg (by decide)]
  refine⟨_,pX T.Ln T.dE4,?_⟩
  rw[if_neg (by decide)]
  refine hU _ ?_
  clear hU U
  refine ay λU hU=>?_
  nofun
  refine⟨_,pX T.Ln T.dE5,?_⟩
  rw[if_pos rfl]
  exact h1 w
 ·clear hU U
  refine ay λU hU=>?_
  nofun
  refine⟨_,pX T.Aj T.dE2,?_⟩
  rw[if_neg (by decide)]
  refine⟨_,pX T.Aj T.VZ,?_⟩
  rw[if_pos rfl]
  refine⟨_,pX T.Aj T.V0,?_⟩
  rw[if_neg (by decide)]
  refine hU _ ?_
  clear hU U
  refine ay λU hU=>?_
  nofun
  refine⟨_,pX T.Aj T.V0,?_⟩
  rw[if_neg (by decide)]
  refine hU _ ?_
  clear hU U
  refine ay λU hU=>?_
  nofun
  refine⟨_,pX T.Aj T.VZ,?_⟩
  rw[if_pos rfl]
  exact(h2 w).2
abbrev W3(K:Frag):bc:=λds Q=>∃(C:Addr) (ns:List Str) (xs:List D) (p:Nat),ds=[.obj C ns xs]/\cC K C/\bg K C "bits"/\(ns.zip xs).lookup ("bits":Str)=some (.int p)/\p<=127/\Q (.str ("bits "++toString (p:Int)))
theorem aI7(T:Txt K mg t):aI P w K mg base aO 1 t.KD t.Vc ["self"] (bf (W3 K)):=by
 refine bA T.VN.F aH8 (λds Q h=>by obtain⟨C,ns,xs,p,rfl,h1,h2,h3,h4,q⟩:=h<;>rfl) λaC A outer s H E hr=>⟨_,(aB (aQ (aw cm (aa jt) (aa (yD (Qu) (by rfl) T.VX O1 (ag (bZ (K:=K) (bv 0)) aq)))))),λds Q h=>?_⟩
 obtain⟨C,ns,xs,p,rfl,h1,h2,h3,h4,q⟩:=h
 nofun
 refine⟨C,ns,xs,_,rfl,h1,h2,h3,?_⟩
 dsimp only
 have hb:(p:Int).natAbs.log2<1920:=by
  rw[iq]
  by_cases h0:p=0
  ·rw[h0];decide
  ·have:=(E3 h0).mpr (show p<2 ^ 8 by omega)
   omega
 have dg:∀k:Fin 128,(jO (toString (((k:Nat):Int)))).length<=10:=by decide +kernel
 have d1:=dg ⟨p,by omega⟩
 refine⟨hb,?_,q⟩
 have:(jO "bits ").length<=10:=by decide +kernel
 have d1:(jO (toString ((p:Nat):Int))).length<=10:=d1
 omega
abbrev W4(K:Frag):bc:=λds Q=>∃(C:Addr) (ns:List Str) (xs:List D) (p:Nat),ds=[.obj C ns xs]/\cC K C/\bg K C "prime"/\(ns.zip xs).lookup ("prime":Str)=some (.int p)/\p<=127/\Q (.str ("prime "++toString (p:Int)))
theorem aE2(T:Txt K mg t):aI P w K mg base aO 1 t.KG t.Vd ["self"] (bf (W4 K)):=by
 refine bA T.VO.F aB6 (λds Q h=>by obtain⟨C,ns,xs,p,rfl,h1,h2,h3,h4,q⟩:=h<;>rfl) λaC A outer s H E hr=>⟨_,(aB (aQ (aw cm (aa jt) (aa (yD (Qu) (by rfl) T.VX O1 (ag (bZ (K:=K) (bv 0)) aq)))))),λds Q h=>?_⟩
 obtain⟨C,ns,xs,p,rfl,h1,h2,h3,h4,q⟩:=h
 nofun
 refine⟨C,ns,xs,_,rfl,h1,h2,h3,?_⟩
 dsimp only
 have hb:(p:Int).natAbs.log2<1920:=by
  rw[iq]
  by_cases h0:p=0
  ·rw[h0];decide
  ·have:=(E3 h0).mpr (show p<2 ^ 8 by omega)
   omega
 have dg:∀k:Fin 128,(jO (toString (((k:Nat):Int)))).length<=10:=by decide +kernel
 have d1:=dg ⟨p,by omega⟩
 refine⟨hb,?_,q⟩
 have:(jO "prime ").length<=10:=by decide +kernel
 have d1:(jO (toString ((p:Nat):Int))).length<=10:=d1
 omega
abbrev W5(t:dY):bc:=λds Q=>∃(m:Bool × Nat) (G:List (List Nat)) (k:Kd),ds=[fM t m G k]/\eY m G/\Q (.lst true (az true G))
theorem aM4(T:Txt K mg t):aI P w K mg base aO 2 t.zZ t.Ve ["self"] (bf (W5 t)):=by
 refine bA T.VP.F aL5 (λds Q h=>by obtain⟨m,G,k,rfl,hc,q⟩:=h<;>rfl) λaC A outer s H E hr=>⟨_,(aB (aQ (bw T.xh (Lp T) hr (ag (bZ (K:=K) (bv 0)) aq)))),λds Q h=>?_⟩
 obtain⟨m,G,k,rfl,hc,q⟩:=h
 have hl:=hc.len
 nofun
 exact V1 T m G k ⟨_,by rw[dD,dP],by omega,by rw[fW,ql,kQ,kS],q⟩
abbrev aQ4(t:dY):bc:=λds Q=>∃(m:Bool × Nat) (G:List (List Nat)) (c:List Nat),ds=[fD t.aJ t.aM m,.lst false (az false G),.lst false (av c)]/\m∈aE/\RT (ae m) c.length G/\AllLt (ae m) c/\c.length<=64/\G.length<=64/\Q (.lst true (av (G.map λr=>gd m r c)))
theorem aQ5(T:Txt K mg t):aI P w K mg base aO 2 t.Vf t.Vg ["field","table","column"] (bf (aQ4 t)):=by
 refine bA T.VQ.F aO9 (λds Q h=>by obtain⟨m,G,c,rfl,hm,hR,hc,gr,hG,q⟩:=h<;>rfl) λaC A outer s H E hr=>⟨_,(aB (aQ (eC [("column",2),("field",0)] ["row"] rfl (iM (bv 1)) (λ_ _ _ _=>(ft (i:=2) (show(["column","field","row"]:List Str).Nodup by decide +kernel))) (λ_ _ _ _=>dM) (λ_ _ _ _=>(iT (P:=P) (w:=w) (K:=K) (mg:=mg) (base:=base) (n:=1) (bv 1) (hr.mono (by decide)) (ag (bv 2) (ag (bv 0) aq)))) rfl))),λds Q h=>?_⟩
 obtain⟨m,G,c,rfl,hm,hR,hc,gr,hG,q⟩:=h
 have fk:=(c9 hm).lo
 obtain⟨C,ns,xs,sp,e1,e2,e3,e4⟩:=WH (P:=P) (w:=w) (base:=base) T hm
 nofun
 refine eV G (λr=>D.lst false (av r)) (λr=>D.int ((gd m r c:Nat):Int)) (by rw[dP];rfl) (λa b h=>mW a b h) (λr bj=>?_) (.inr λr _=>rfl) (by rw[sL];omega) ?_
 ·nofun
  exact⟨C,ns,xs,sp,e1,e2,e3,e4 _ _ _ (hR r bj).1 (by rw[(hR r bj).1];exact gr) (hR r bj).2 hc rfl⟩
 ·rw[cT,cu]at q
  exact q
def sgn(M:Nat):Option Nat->Bool
 | none=>false
 | some a=>decide (a<M)
abbrev W6(t:dY):bc:=λds Q=>∃(m:Bool × Nat) (G:List (List Nat)) (k:Kd) (y:List (Option Nat)),ds=[fM t m G k,.lst false (oy y)]/\eY m G/\y.length<=100/\((y.length≠aj G/\Q (.bl false))\/(y.length=aj G/\none∈y/\Q (.bl false))\/∃c:List Nat,y=c.map some/\c.length=aj G/\AllLt (ae m) c/\Q (.bl (G.all λr=>gd m r c==0)))
theorem aL3(T:Txt K mg t):aI P w K mg base aO 3 t.z5 t.Vh ["self","word"] (bf (W6 t)):=by
 refine bA T.VR.F aJ6 (λds Q h=>by obtain⟨m,G,k,y,rfl,hc,hy,q⟩:=h<;>rfl) λaC A outer s H E hr=>⟨_,(aA (cA (PW.pt (nK (bN (iO (bY hr)) (aa (eB (ib) (by rfl) T.g5 gP (ag (bv 1) aq))) (bZ (K:=K) (bv 0)) (bt _)) (oZ (rK (ia (aa (eB (vJ rfl) (by rfl) T.xn uM (ag (aa (eC [("self",0)] ["sign"] rfl (iM (bv 1)) (λ_ _ _ _=>(ft (i:=1) (show(["self","sign"]:List Str).Nodup by decide +kernel))) (λ_ _ _ _=>dM) (λ_ _ _ _=>(iT (P:=P) (w:=w) (K:=K) (mg:=mg) (base:=base) (n:=1) (bZ (K:=K) (bv 0)) (hr.mono (by decide)) (ag (bv 1) aq))) rfl)) aq)))))))) (aB (aQ kC)) cy)
   (aB (aQ (eB (vJ rfl) (by rfl) T.xn uM (ag (aa (eC [] ["x"] rfl (iM (aa (bw T.VQ (aQ5 T) hr (ag (bZ (K:=K) (bv 0)) (ag (bZ (K:=K) (bv 0)) (ag (bv 1) aq)))))) (λ_ _ _ _=>(ft (i:=0) (show(["x"]:List Str).Nodup by decide +kernel))) (λ_ _ _ _=>dM) (λ_ _ _ _=>(k9 (dO (bY hr)) (bv 0) (aa ai) (bt _))) rfl)) aq))))),λds Q h=>?_⟩
 obtain⟨m,G,k,y,rfl,hc,hy,q⟩:=h
 have hw:=hc.IK
 have hl:=hc.len
 have yl:=cj1 y
 refine ay λU hU=>?_
 nofun
 refine oH T m G k ?_
 rw[yl,ie]
 refine⟨rfl,?_⟩
 rcases q with⟨h1,q⟩ | h
 ·rw[decide_eq_false (by omega),if_pos (by decide)];exact q
 have h0:y.length=aj G:=by
  rcases h with⟨h,_⟩ | ⟨c,rfl,h,_⟩
  ·exact h
  ·rw[br,h]
 rw[decide_eq_true (by omega),if_neg (by decide)]
 refine eV y wV (λa=>D.bl (sgn (ae m) a)) (cq5 y) cr1 (λa ha=>?_) (.inr λ_ _=>rfl) (by rw[sL];omega) ?_
 ·nofun
  rw[qv,SD]
  refine tK T m G k ?_
  refine Lz T m ?_
  cases a with
  | none=>exact .inr ⟨rfl,rfl,rfl⟩
  | some a =>
   refine .inl ⟨_,rfl,rfl,?_⟩
   rw[decide_eq_true (show(0:Int)<=(a:Int) by omega),kQ]
   show D.bl _=D.bl (decide (a<ae m))
   congr 1
   exact decide_eq_decide.mpr ⟨λh=>by omega,λh=>by omega⟩
 refine⟨y.map (sgn (ae m)),by unfold mL;rw[cu];rfl,?_⟩
 rcases h with⟨_,hn,q⟩ | ⟨c,rfl,lc,ac,q⟩
 ·rw[show(y.map (sgn (ae m))).all id=false by
   rw[List.all_eq_false]
   exact⟨_,Bd hn,iW⟩,if_pos (by decide)]
  exact q
 rw[show((c.map some).map (sgn (ae m))).all id=true by
  rw[dj]
  intro x hx
  rw[cu]at hx
  obtain⟨a,ha,rfl⟩:=bB.mp hx
  exact decide_eq_true (ac a ha),if_neg (by decide)]
 refine hU _ ?_
 clear hU U
 have ec:oy (c.map some)=av c:=by unfold oy;rw[cu,cT];rfl
 rw[ec]
 nofun
 refine tK T m G k (V1 T m G k ⟨m,G,c,by rw[zI,dD,dP],hc.hm,by rw[lc];exact hc.rt,ac,by omega,hl,by rw[iU,kS],_,rfl,?_⟩)
 refine eV (G.map λr=>gd m r c) (λ(i:Nat)=>D.int (i:Int)) (λi=>D.bl (i==0)) (we _) jB (λi hi=>?_) (.inr λ_ _=>rfl) (by rw[br,sL];omega) ?_
 ·nofun
  rw[show decide ((i:Int)=0)=(i==0) by
   by_cases z:i=0
   ·rw[z];rfl
   ·rw[decide_eq_false (by omega),beq_false_of_ne z]]
 ·refine⟨(G.map λr=>gd m r c).map (·==0),by unfold mL;rw[cu (g:=D.bl)];rfl,?_⟩
  rw[show((G.map λr=>gd m r c).map (·==0)).all id=G.all λr=>gd m r c==0 by rw[cu,mm];rfl]
  exact q
theorem cH3(T:Txt K mg t){m:Bool × Nat}(hm:m∈aE):∃x:Str,∀Q:D->Prop,Q (.str x)->∃C ns xs sp,fD t.aJ t.aM m=.obj C ns xs/\i9 P w K mg base 1 "told" C sp/\¬ ("told":Str)∈ns/\sp [.obj C ns xs] Q:=by
 have lp:∀m∈aE,m.2<=127:=by decide +kernel
 have hp:=lp m hm
 obtain⟨b,p⟩:=m
 cases b with
 | true=>exact⟨_,λQ q=>⟨_,_,_,W3 K,rfl,⟨T.e7,_,_,_,T.aI1,aI7 T,T.VN.b⟩,by decide,_,_,_,p,rfl,T.e7,T.DR,rfl,hp,q⟩⟩
 | false=>exact⟨_,λQ q=>⟨_,_,_,W4 K,rfl,⟨T.fC,_,_,_,T.aC8,aE2 T,T.VO.b⟩,by decide,_,_,_,p,rfl,T.fC,T.oG,rfl,hp,q⟩⟩
theorem cB7(T:Txt K mg t)(hB:Bm mg base):aI P w K mg base aO 12 t.Vi t.Vj ["_law_script"] (pZ [t.ig,t.ij] (bf (P5 ))):=by
 refine zA T.dB5.F l6 (λds Q h=>by obtain⟨ns,rfl,hl,q⟩:=h<;>rfl) λaC A outer s H E hT hr=>⟨_,(aA (aZ (i:=1) l6.nd rfl (ax rfl) (bw T.Vm (aP1 T) hr (ag (aa (bw T.gH (g7 T) hr (ag (bv 0) (ag (aa ai) aq)))) aq)))
   (aA (aZ (i:=2) l6.nd rfl (ax rfl) (bw T.z7 (El T) hr (ag (bv 1) aq)))
   (aA (aZ (i:=3) l6.nd rfl (ax rfl) (aw cK (aa (bw T.gH (g7 T) hr (ag (bv 0) (ag (aa ai) aq)))) (aa ai)))
   (aA (cA (PW.pt (Cb (bN (dO (bY hr)) (bv 3) (aa ai) (bt _)) (Cb (bN PJ (bv 2) (aa ai) (bt _)) (FF (bN (dO (bY hr)) (aa (aw cK (aa (bw T.gH (g7 T) hr (ag (bv 0) (ag (aa ai) aq)))) (aa ai))) (aa ai) (bt _)))))) (aA (aZ (i:=4) l6.nd rfl (ax rfl) (ci3 hT T.D9 ((WK T hB).mono (by decide)) hr rfl T.Ek T.dB4 b8 (ag (aa (lJ hT ((Ez T hB).mono (by decide)) hr rfl T.kb.g T.kb.F.kp T.kb.b b8 (ag (bv 1) aq))) (ag (aa (aw cm (aa ai) (aa (aw cK (aa (bw T.gH (g7 T) hr (ag (bv 0) (ag (aa ai) aq)))) (aa (aw dN (bv 2) (aa ai))))))) (ag (aa (aw cm (aa ai) (aa (aw cK (aa (bw T.gH (g7 T) hr (ag (bv 0) (ag (aa ai) aq)))) (aa ai))))) aq)))))
    (aB (aQ (k9 (dO (bY hr)) (aa (lJ hT ((EB T hB).mono (by decide)) hr rfl T.ke.g T.ke.F.kp T.ke.b b8 (ag (bv 4) aq))) (aa jt) (bt _))))) cy)
   (aA (cA (bN (dO (bY hr)) (bv 3) (aa ai) (bt _)) (aB (aQ (k9 (dO (bY hr)) (aa (lJ hT ((EB T hB).mono (by decide)) hr rfl T.ke.g T.ke.F.kp T.ke.b b8 (ag (aa (s9 hT T.D1 ((WY T hB).mono (by decide)) hr rfl T.Ej T.KU.b b8 (ag (aa (lJ hT ((Ez T hB).mono (by decide)) hr rfl T.kb.g T.kb.F.kp T.kb.b b8 (ag (bv 1) aq))) (ag (aa (aw cm (aa ai) (aa (aw cK (aa (bw T.gH (g7 T) hr (ag (bv 0) (ag (aa ai) aq)))) (aa ai))))) aq)))) aq))) (aa jt) (bt _)))) cy)
   (aA (cA (bN (dO (bY hr)) (bv 3) (aa ai) (bt _)) (aA (aZ (i:=5) l6.nd rfl (b9 rfl) (aw cm (aa ai) (aa (aw cK (aa (bw T.gH (g7 T) hr (ag (bv 0) (ag (aa ai) aq)))) (aa ai)))))
    (aA (Io (i:=6) l6.nd rfl (ax rfl) [("_law_wide",5)] ["_law_i"] rfl (jv rfl T.gI (ag (aa (aw cm (aa ai) (aa (aw cK (aa (bw T.gH (g7 T) hr (ag (bv 0) (ag (aa ai) aq)))) (aa ai))))) aq)) (λ_ _ _ _=>(ft (i:=1) (show(["_law_wide","_law_i"]:List Str).Nodup by decide +kernel))) (λ_ _ _ _=>dM) (λ_ _ _ _=>(aw fY (aa (eN (cJ ai cZ))) (bv 0))) rfl)
    (Cc 6 (aB (aQ (k9 (dO (bY hr)) (aa (lJ hT ((EB T hB).mono (by decide)) hr rfl T.ke.g T.ke.F.kp T.ke.b b8 (ag (aa (s9 hT T.xk ((Et T hB).mono (by decide)) hr rfl T.tJ T.Ab.b b8 (ag (aa (lJ hT ((Ez T hB).mono (by decide)) hr rfl T.kb.g T.kb.F.kp T.kb.b b8 (ag (bv 1) aq))) (ag (bv 6) aq)))) aq))) (aa jt) (bt _))))))) cy)
   (aA (aZ (i:=7) l6.nd rfl (ax rfl) (dJ (bJ (aa (lJ hT ((aQ1 T hB).mono (by decide)) hr rfl T.DQ.g T.DQ.F.kp T.DQ.b b8 (ag (bv 0) (ag (bv 1) aq)))) (aa ai) (λ_ _=>rfl))))
   (aA (cA (bN (dO (bY hr)) (bZ (K:=K) (bv 7)) (bZ (K:=K) (bv 7)) (bt _)) (aB (aQ (k9 (dO (bY hr)) (aa (lJ hT ((EB T hB).mono (by decide)) hr rfl T.ke.g T.ke.F.kp T.ke.b b8 (ag (bv 7) aq))) (aa jt) (bt _)))) cy)
   (aA (aZ (i:=8) l6.nd rfl (ax rfl) (lJ hT ((WD T hB).mono (by decide)) hr rfl T.l7.g T.l7.F.kp T.l7.b b8 (ag (bv 7) aq)))
   (aA (cA (PW.pt (nK (rK (ia (aa (cG5 (by rfl) T.qA (by rfl) T.tJ (bv 8))))) (oZ (bN (iO (bY hr)) (aa (wD (P:=P) (w:=w) (K:=K) (mg:=mg) (base:=base) (n:=1) (bZ (K:=K) (bv 8)) (hr.mono (by decide)))) (aa (wD (P:=P) (w:=w) (K:=K) (mg:=mg) (base:=base) (n:=1) (bZ (K:=K) (bv 7)) (hr.mono (by decide)))) (bt _))))) (aB (aQ kC)) cy)
   (aA (cA (PW.pt (nK (bN (iO (bY hr)) (bZ (K:=K) (bv 8)) (bZ (K:=K) (bv 7)) (bt _)) (nK (bN (iO (bY hr)) (bZ (K:=K) (bv 8)) (aa (aw dN (bZ (K:=K) (bv 7)) (bZ (K:=K) (bv 7)))) (bt _)) (oZ (bN (iO (bY hr)) (aa (wD (P:=P) (w:=w) (K:=K) (mg:=mg) (base:=base) (n:=2) (bv 8) (hr.mono (by decide)))) (aa (wD (P:=P) (w:=w) (K:=K) (mg:=mg) (base:=base) (n:=2) (bv 7) (hr.mono (by decide)))) (bt _)))))) (aB (aQ kC)) cy)
   (aA (aZ (i:=9) l6.nd rfl (ax rfl) (iT (P:=P) (w:=w) (K:=K) (mg:=mg) (base:=base) (n:=4) (bv 7) (hr.mono (by decide)) (ag (aa (bw T.KW (W2 T) hr (ag (bv 0) (ag (aa ai) (ag (bZ (K:=K) (bv 7)) (ag (bv 2) aq)))))) aq)))
   (aA (aZ (i:=10) l6.nd rfl (ax rfl) (iT (P:=P) (w:=w) (K:=K) (mg:=mg) (base:=base) (n:=4) (bv 8) (hr.mono (by decide)) (ag (aa (bw T.KW (W2 T) hr (ag (bv 0) (ag (aa ai) (ag (bZ (K:=K) (bv 8)) (ag (bv 2) aq)))))) aq)))
   (aA (cA (bN (iO (bY hr)) (aa (bw T.VM (aR7 T) hr (ag (bv 1) (ag (bv 9) (ag (bv 10) aq))))) (aa ai) (bt _)) (aB (aQ kC)) cy)
   (aB (aQ (cS7 (aa (k9 yA (bZ (K:=K) (bv 7)) (aa ai) (bt _))) (xW (k9 cL6 (aa (iT (P:=P) (w:=w) (K:=K) (mg:=mg) (base:=base) (n:=3) (aa (lJ hT ((WD T hB).mono (by decide)) hr rfl T.l7.g T.l7.F.kp T.l7.b b8 (ag (bv 8) aq))) (hr.mono (by decide)) (ag (bv 9) aq))) (aa kC) (bt _)))))))))))))))))))),λds Q h=>?_⟩
 obtain⟨ns,rfl,hl,q⟩:=h
 refine ay λU hU=>?_
 nofun
 refine⟨ns,0,rfl,by decide,_,rfl,rfl,hU _ ?_⟩
 clear hU U
 generalize W7:qh (ns.getD (dS 0) 0)=m
 have hm:m∈aE:=by rw[<-W7];exact cb0 _
 clear W7
 have fk:=(c9 hm).lo
 have Au:=(c9 hm).hi
 have WT:=HV m hm
 refine ay λU hU=>?_
 nofun
 refine⟨m,rfl,by omega,by omega,hU _ ?_⟩
 clear hU U
 refine ay λU hU=>?_
 nofun
 refine⟨ns,5,rfl,by decide,by decide,hU _ ?_⟩
 clear hU U
 generalize ns.getD (dS 5) 0%6=kd
 have W8:Q (D.bl (bF (D.str (jO "large")) (D.str (jO "large")))):=by rw[show bF (D.str (jO "large")) (D.str (jO "large"))=true from by decide];exact q
 have nn:Q (D.bl (bF (D.str (jO "none")) (D.str (jO "none")))):=by rw[show bF (D.str (jO "none")) (D.str (jO "none"))=true from by decide];exact q
 refine ay λU hU=>?_
 nofun
 have nat:∀(k z N:Int),0<=k->0<N->∃n:Nat,k+z%N=n/\k<=(n:Int)/\(n:Int)<k+N:=λk z N k0 N0=>by
  have h1:=gL z (show N≠0 by omega)
  have h2:=g9 z N0
  exact⟨(k+z%N).toNat,by omega,by omega,by omega⟩
 have fin:U [some (D.fz (aG ns)),some (cU m),some (D.int (ae m)),some (D.int kd),none,none,none,none,none,none,none]:=?_
 ·split
  ·split
   ·refine⟨ns,1,rfl,by decide,by decide,?_⟩
    split
    ·clear hU fin
     refine ay λU hU=>?_
     nofun
     obtain⟨n,en,h1,h2⟩:=nat 13 (ns.getD (dS 2) 0) ((ae m:Int)-13) (by decide) (by omega)
     obtain⟨e,ee,h3,h4⟩:=nat 1 (ns.getD (dS 3) 0) 3 (by decide) (by decide)
     refine⟨m,rfl,hm,ns,2,rfl,by decide,by omega,ns,3,rfl,by decide,by decide,wH ..,?_⟩
     rw[en,ee]
     refine⟨_,_,⟨m,n,e,1,rfl,hm,by omega,by omega,by omega,by omega,by omega,rfl,rfl⟩,?_⟩
     rw[eH,qu]
     obtain⟨_,_,g3⟩:=Dq hm 1 n (show 1<=e by omega)
     show U [some (D.fz (aG ns)),some (cU m),some (D.int (ae m)),some (D.int kd),some (fM t m (fB m 1 (aL n) e) (.IJ e 1)),none,none,none,none,none,none]
     refine hU _ ?_
     clear hU
     nofun
     refine⟨m,_,_,by rw[qv],λ_=>⟨by rw[tu];rfl,rfl,W8⟩,λh=>absurd h (by rw[g3];omega)⟩
    ·exact fin
   ·exact fin
  ·exact fin
 refine hU _ ?_
 clear hU U
 refine ay λU hU=>?_
 nofun
 have fin:U [some (D.fz (aG ns)),some (cU m),some (D.int (ae m)),some (D.int kd),none,none,none,none,none,none,none]:=?_
 ·split
  ·obtain⟨n,en,h1,h2⟩:=nat 13 (ns.getD (dS 2) 0) 12 (by decide) (by decide)
   refine⟨m,rfl,hm,ns,2,rfl,by decide,by decide,wH ..,?_⟩
   rw[en]
   refine⟨_,_,⟨m,n,rfl,hm,by omega,by omega,rfl,rfl⟩,?_⟩
   rw[qu]
   obtain⟨r1,r2,r3⟩:=II hm (show 2<=n by omega)
   exact⟨m,gZ m n,.rep,rfl,λ_=>⟨rfl,W8⟩,λh=>absurd h (by rw[r3];omega)⟩
  ·exact fin
 refine hU _ ?_
 clear hU U
 refine ay λU hU=>?_
 nofun
 have fin:U [some (D.fz (aG ns)),some (cU m),some (D.int (ae m)),some (D.int kd),none,none,none,none,none,none,none]:=?_
 ·split
  ·clear hU fin
   refine ay λU hU=>?_
   nofun
   obtain⟨n,en,h1,h2⟩:=nat 2 (ns.getD (dS 2) 0) 11 (by decide) (by decide)
   refine⟨ns,2,rfl,by decide,by decide,?_⟩
   rw[en]
   refine hU _ ?_
   clear hU en
   obtain⟨e,ee,h3,h4⟩:=nat 1 (ns.getD (dS 3) 0) 3 (by decide) (by decide)
   refine ay λU hU=>?_
   nofun
   refine⟨ns,3,rfl,by decide,by decide,?_⟩
   rw[ee]
   refine⟨⟨by omega,by omega⟩,eV (aL e) (λ(i:Nat)=>D.int (i:Int)) (λ_=>D.lst true (av (aU n 0))) (om _ rfl) jB (λk hk=>?_) (.inr λ_ _=>iU _) (by rw[cj,sL];omega) ?_⟩
   ·nofun
    exact⟨by decide,⟨by omega,by omega,by omega⟩,by rw[iX];unfold av;rw[uu];rfl⟩
   rw[show(aL e).map (λ_=>D.lst true (av (aU n 0)))=az true (aU e (aU n 0)) from by unfold az;rw[uu,List.map_const',cj]]
   simp only[jN,jM]
   refine hU _ ?_
   clear hU ee
   have hZ:RT (ae m) n (aU e (aU n 0)):=λr bj=>by
    rw[(uh.mp bj).2]
    exact⟨fP,λx hx=>by rw[(uh.mp hx).2];omega⟩
   have lZ:(aU e (aU n 0)).length=e:=fP
   have wZ:=wM hZ λz=>by rw[z]at lZ;simp at lZ;omega
   have hR:RT (ae m) (aj (aU e (aU n 0))) (aU e (aU n 0)):=by rw[wZ];exact hZ
   have r0:=(b05 hm hR).mpr λx hx=>by rw[wZ];exact(uh.mp hx).2
   generalize aU e (aU n 0)=Z at *
   obtain⟨⟨Hd,I⟩,iR,_,_⟩:=jc hm hR
   have fl:=I.wL hm iR
   have mz:(cL m Z).length=aj Z:=by unfold cL;omega
   obtain⟨Fb,eF⟩:=cE8 hm hR (by omega) (by omega)
   nofun
   refine⟨m,rfl,hm,wH ..,_,_,⟨m,Z,Fb,rfl,⟨hm,hR,by omega,by omega,by omega⟩,by omega,by omega,by omega,by omega,eF,rfl,rfl⟩,?_⟩
   rw[eH,qu]
   exact⟨m,Z,.jG Fb.length,rfl,λw=>absurd w (by omega),λ_=>⟨mz,rfl,nn⟩⟩
  ·exact fin
 refine hU _ ?_
 clear hU U
 refine ay λU hU=>?_
 nofun
 refine⟨m,ns,rfl,hm,λG k dst cG g1 w2 qE=>⟨_,rfl,tu ..,hU _ ?_⟩⟩
 clear hU U
 refine ay λU hU=>?_
 nofun
 refine qB T m G k ?_
 refine oH T m G k ⟨⟨rfl,rfl⟩,?_⟩
 rw[ie]
 have wN:=cG.wN
 split
 ·rename_i h
  have h:=of_decide_eq_true h
  rw[qv]
  exact⟨m,G,k,rfl,λw=>absurd w (by omega),λ_=>⟨by omega,by rw[tu];rfl,rfl,nn⟩⟩
 rename_i h
 have hs:(cL m G).length<aj G:=by
  have:(cL m G).length≠aj G:=λz=>h (decide_eq_true (by rw[z]))
  omega
 clear h
 refine hU _ ?_
 clear hU U
 have lR:=jH m G
 have wR:=cG.wide
 have sz:=cG.sz
 have rR:RT (ae m) (aj (bI m G)) (bI m G):=by rw[wR];exact cG.rows
 have cR:=xt hm rR (by omega) (by omega)
 obtain⟨Fb,eF⟩:=EA hm rR (by omega)
 refine ay λU hU=>?_
 nofun
 rw[qv]
 refine⟨m,G,k,Fb,rfl,cG,w2,qE,hs,cR,eF,by rw[tu];rfl,hU _ ?_⟩
 clear hU U
 obtain⟨x,tx⟩:=cH3 (P:=P) (w:=w) (base:=base) T hm
 refine ay λU hU=>?_
 nofun
 refine⟨_,_,_,true,rfl,T.dC6,T.dC7,?_⟩
 rw[if_neg (by decide)]
 refine tK T m (bI m G) (.jG Fb.length) ?_
 refine tx _ ?_
 refine tK T m G k ?_
 refine tx _ ⟨⟨rfl,rfl⟩,?_⟩
 rw[show ∀x:Str,bF (D.str x) (D.str x)=true from λx=>decide_eq_true rfl,if_neg (by decide)]
 refine hU _ ?_
 clear hU U tx
 have rc:=bT8 cG cR
 refine ay λU hU=>?_
 nofun
 refine oH T m (bI m G) (.jG Fb.length) ?_
 refine oH T m G k ⟨⟨rfl,rfl⟩,?_⟩
 rw[ie,wR,decide_eq_true rfl,if_neg (by decide)]
 refine qB T m (bI m G) (.jG Fb.length) ?_
 refine oH T m G k ?_
 refine qB T m G k ?_
 refine⟨rfl,?_⟩
 rw[ie,decide_eq_true (by omega),if_neg (by decide)]
 refine⟨_,_,_,W5 t,rfl,⟨T.m3,_,_,_,T.K4,aM4 T,T.VP.b⟩,by decide,m,bI m G,.jG Fb.length,rfl,cR,?_⟩
 refine V3 T T.DY T.D8 T.Eg (WC T) T.KO.b (by decide) ⟨m,G,k,rfl,cG,⟨C2 4 ..,C2 4 ..⟩,?_⟩
 rw[RH,decide_eq_true rfl,if_neg (by decide)]
 refine hU _ ?_
 clear hU U
 obtain⟨C,ns',GN,pk,e1,e2,e3,e4⟩:=ci7 (P:=P) (w:=w) (base:=base) T m G k T.DZ T.Lc T.Lg (WJ T) T.KP.b (by decide)
 refine ay λU hU=>?_
 nofun
 refine⟨C,ns',GN,pk,e1,e2,e3,qB T m G k ⟨ns,7,(cL m G).length,ae m,rfl,by decide,by decide,by omega,by omega,λl ll al=>⟨rfl,e4 _ _ ⟨m,G,k,l,by rw[wJ],cG,ll,al,by rw[iU,kS],hU _ ?_⟩⟩⟩⟩
 clear hU U e1 e2 e3 e4
 refine ay λU hU=>?_
 nofun
 refine⟨_,_,_,WI t,rfl,⟨T.m3,_,_,_,T.DZ,WJ T,T.KP.b⟩,by decide,qB T m (bI m G) (.jG Fb.length) ⟨ns,21,(cL m (bI m G)).length,ae m,rfl,by decide,by decide,by omega,by omega,λl' LR al'=>⟨rfl,m,bI m G,.jG Fb.length,l',by rw[wJ];rfl,cR,LR,al',by rw[iU,kS],hU _ ?_⟩⟩⟩
 clear hU U
 have w1:=cG.SK ll
 have w2':=cR.SK LR
 have l1:=IM m G l
 have l2:=IM m (bI m G) l'
 have dz:=(SN cG ll (y:=jI m (bI m G) l') (by rw[l2,wR]) (cR.word LR)).2
 refine ay λU hU=>?_
 nofun
 refine⟨m,_,_,rfl,hm,by rw[l1,l2,wR],by omega,w1,w2',rfl,rfl,?_⟩
 rw[dz,ie,decide_eq_true (show((0:Nat):Int)=0 from rfl),if_neg (by decide)]
 refine hU _ ?_
 clear hU U dz
 have lR2:=jH m (bI m G)
 have W9:=cR.wide
 have sz2:=cR.sz
 have Xa:RT (ae m) (aj (bI m (bI m G))) (bI m (bI m G)):=by rw[W9];exact cR.rows
 have Xb:=xt hm Xa (by omega) (by omega)
 obtain⟨Xc,eF2⟩:=EA hm Xa (by omega)
 have wd:((bI m (bI m G)).all λr=>gd m r (jI m G l)==0)=true:=dj.mpr λr hr=>by
  have rl:=(cR.rows r hr).1
  rw[wR]at rl
  refine beq_iff_eq.mpr (SN cG ll (y:=r) rl λg hg=>?_).1
  obtain⟨f,hf,rfl⟩:=bB.mp hr
  have:=Iz hm cR.rt hf g hg
  have gl:=(cG.rows g hg).1
  rw[qo m (gl.trans rl.symm),gl]
  unfold dt at this
  rw[wR]at this
  rw[wR]
  exact this
 have ec:oy ((jI m G l).map some)=av (jI m G l):=by unfold oy;rw[cu,cT];rfl
 nofun
 refine oH T m G k ?_
 dsimp only
 split
 ·exact q
 rw[qv]
 refine⟨m,bI m G,.jG Fb.length,Xc,rfl,cR,by omega,by omega,by omega,Xb,eF2,by rw[tu];rfl,_,_,_,W6 t,rfl,⟨T.m3,_,_,_,T.K5,aL3 T,T.VR.b⟩,by decide,m,bI m (bI m G),.jG Xc.length,(jI m G l).map some,by rw[ec];rfl,Xb,by rw[br];omega,.inr (.inr ⟨jI m G l,rfl,by rw[l1,W9,wR],w1,rfl,?_⟩)⟩
 rw[wd]
 exact q
end
set_option maxHeartbeats 0 in
theorem all_mk{l:PySem.W.OpenLaw}{w:World}{K:Frag}{h:Heap}{mg:Str->Option Value}{fa:Addr}{ts:List Addr}(X:K.In h)(G:h.Ns mainGlobals mg)(hfa:mg "law"=some (.ref fa))
  {dU3 LS:Option Addr} {dU4:Array (Option Value)} {dU5 LU LV LW EC LX:Value} {AA:Addr}
  {ED:Addr} {dU6:Value} {dU7:Tok} {dU8:Option Addr} {dU9:Array (Option Value)} {dV0:Nat}
  {dV1 dV2:Option Addr} {dV3:Array (Option Value)} {dV4 dV5 dV6 dV7 dV8:Value} {AB:Addr}
  {AD ig:Addr} {aE3:Option Addr} {aE4:Array (Option Value)} {Xd:Array Value} {aE5:Value}
  {dW2 dW3:Option Addr} {dW4:Array (Option Value)} {dW5 dW6 dW7 dW8 dW9:Value} {AE:Addr}
  {AF ij:Addr} {aI8:Option Addr} {aI9:Array (Option Value)} {Xe:Array Value} {aJ0:Value}
  {dX3 Xf:Option Addr} {dX4:Array (Option Value)} {dX5 Xg Xh Xi LY Xj:Value} {LZ:Addr}
  {f0 f1 f2 f3 f4 f5 f6 f7 f8 f9 xu xv nQ L4 L5 L6 EE EF L7 AG xw L8 L9 Ma yw EG EH Mb Mc EI tQ Md Me Mg EJ EK Mh tR Mi Mj Ml Mm Mn AH Mo Mp Mq Mr Ms Mt Mu Mv Mw Mx Mz MA EL EM EN MB EO MC MD ME MF MG MH ER ES tS MI tT:Addr} {fd0 fd1 fd2 fd3 fd4 fd5 fd6 fd7 fd8 fd9 dY6 dY7 dY8 dY9 dZ0 dZ1 dZ2 dZ3 dZ4 dZ5 dZ6 dZ7 dZ8 dZ9 d00 d01 d02 d03 d04 d05 d06 d07 d08 d09 d11 d12 d13 d14 d15 d16 d17 d18 d19 d20 d21 d22 d23 d24 d25 d26 d27 d28 d29 d30 d31 d32 d33 d34 d35 d36 d37 d38 d39 d41 d42 d43 d44 d45 d46 d47 d48 d49:FuncData}
  {aJ eZ bo j9 kL ka dB aM bR bx dw:Addr}
  (Lj:nsIn K mainGlobals "BitField"=some (some (.ref aJ)))
  (Lk:nsIn K mainGlobals "ByNought"=some (some (.ref eZ)))
  (tJ:nsIn K mainGlobals "CheckCode"=some (some (.ref bo)))
  (Ag:nsIn K mainGlobals "Code"=some (some (.ref j9)))
  (Ei:nsIn K mainGlobals "Field"=some (some (.ref kL)))
  (Ll:nsIn K mainGlobals "MendError"=some (some (.ref ka)))
  (Ah:nsIn K mainGlobals "NoCode"=some (some (.ref dB)))
  (Lm:nsIn K mainGlobals "PrimeField"=some (some (.ref aM)))
  (Ej:nsIn K mainGlobals "RepeatCode"=some (some (.ref bR)))
  (Ek:nsIn K mainGlobals "RootCode"=some (some (.ref bx)))
  (Ai:nsIn K mainGlobals "TooLarge"=some (some (.ref dw)))
  (a0:nsIn K mainGlobals "_law_told"=some (some (.ref f0)))
  (a1:nsIn K mainGlobals "_law_many"=some (some (.ref f1)))
  (a2:nsIn K mainGlobals "refuse_large"=some (some (.ref f2)))
  (a3:nsIn K mainGlobals "width_of"=some (some (.ref f3)))
  (a4:nsIn K mainGlobals "first_with"=some (some (.ref f4)))
  (a5:findIn K (.ref aJ) "scaled"=some (some (.ref f5)))
  (mf5:isFn K (.ref f5)=true)
  (a6:findIn K (.ref aM) "scaled"=some (some (.ref f6)))
  (mf6:isFn K (.ref f6)=true)
  (a7:findIn K (.ref aJ) "lessened"=some (some (.ref f7)))
  (mf7:isFn K (.ref f7)=true)
  (a8:findIn K (.ref aM) "lessened"=some (some (.ref f8)))
  (mf8:isFn K (.ref f8)=true)
  (a9:nsIn K mainGlobals "cleared"=some (some (.ref f9)))
  (a10:findIn K (.ref kL) "step_power"=some (some (.ref xu)))
  (Xk:isFn K (.ref xu)=true)
  (a11:findIn K (.ref kL) "over"=some (some (.ref xv)))
  (Xl:isFn K (.ref xv)=true)
  (a12:nsIn K mainGlobals "reduced"=some (some (.ref nQ)))
  (a13:nsIn K mainGlobals "copied"=some (some (.ref L4)))
  (a14:nsIn K mainGlobals "leads"=some (some (.ref L5)))
  (a15:nsIn K mainGlobals "free_places"=some (some (.ref L6)))
  (a16:findIn K (.ref aJ) "minus"=some (some (.ref EE)))
  (d61:isFn K (.ref EE)=true)
  (a17:findIn K (.ref aM) "minus"=some (some (.ref EF)))
  (d63:isFn K (.ref EF)=true)
  (a18:nsIn K mainGlobals "kernel_of_reduced"=some (some (.ref L7)))
  (a19:findIn K (.ref j9) "__init__"=some (some (.ref AG)))
  (ex0:isFn K (.ref AG)=true)
  (a20:findIn K (.ref kL) "holds"=some (some (.ref xw)))
  (Xm:isFn K (.ref xw)=true)
  (a21:nsIn K mainGlobals "is_small_table"=some (some (.ref L8)))
  (a22:nsIn K mainGlobals "rank"=some (some (.ref L9)))
  (a23:nsIn K mainGlobals "turned"=some (some (.ref Ma)))
  (a24:nsIn K mainGlobals "is_nought"=some (some (.ref yw)))
  (a25:findIn K (.ref aJ) "times"=some (some (.ref EG)))
  (d70:isFn K (.ref EG)=true)
  (a26:findIn K (.ref aM) "times"=some (some (.ref EH)))
  (d72:isFn K (.ref EH)=true)
  (a27:nsIn K mainGlobals "past"=some (some (.ref Mb)))
  (a28:nsIn K mainGlobals "first_bound"=some (some (.ref Mc)))
  (a29:findIn K (.ref bo) "__init__"=some (some (.ref EI)))
  (d76:isFn K (.ref EI)=true)
  (a30:findIn K (.ref j9) "rows"=some (some (.ref tQ)))
  (MJ:isFn K (.ref tQ)=true)
  (a31:nsIn K mainGlobals "crossed_code"=some (some (.ref Md)))
  (a32:nsIn K mainGlobals "refuse_length"=some (some (.ref Me)))
  (a33:nsIn K mainGlobals "refuse_no_sign"=some (some (.ref Mg)))
  (a34:findIn K (.ref aJ) "dot"=some (some (.ref EJ)))
  (d82:isFn K (.ref EJ)=true)
  (a35:findIn K (.ref aM) "dot"=some (some (.ref EK)))
  (d84:isFn K (.ref EK)=true)
  (a36:nsIn K mainGlobals "row_by"=some (some (.ref Mh)))
  (a37:findIn K (.ref j9) "written"=some (some (.ref tR)))
  (MK:isFn K (.ref tR)=true)
  (a38:nsIn K mainGlobals "_law_cell"=some (some (.ref Mi)))
  (a39:nsIn K mainGlobals "makes_root_code"=some (some (.ref Mj)))
  (a40:findIn K (.ref bx) "__init__"=some (some (.ref AA)))
  (d89:isFn K (.ref AA)=true)
  (a41:nsIn K mainGlobals "powers_of"=some (some (.ref Ml)))
  (a42:nsIn K mainGlobals "step_powers"=some (some (.ref Mm)))
  (a43:nsIn K mainGlobals "logs_of"=some (some (.ref Mn)))
  (a44:findIn K (.ref kL) "__init__"=some (some (.ref AH)))
  (ex5:isFn K (.ref AH)=true)
  (a45:nsIn K mainGlobals "makes_prime_field"=some (some (.ref Mo)))
  (a46:findIn K (.ref aM) "__init__"=some (some (.ref AB)))
  (d95:isFn K (.ref AB)=true)
  (a47:nsIn K mainGlobals "product_rows"=some (some (.ref Mp)))
  (a48:nsIn K mainGlobals "bits_divided"=some (some (.ref Mq)))
  (a49:nsIn K mainGlobals "stands_alone"=some (some (.ref Mr)))
  (a50:nsIn K mainGlobals "makes_bit_field"=some (some (.ref Ms)))
  (a51:nsIn K mainGlobals "bits_times"=some (some (.ref Mt)))
  (a52:findIn K (.ref aJ) "__init__"=some (some (.ref AE)))
  (ea2:isFn K (.ref AE)=true)
  (a53:nsIn K mainGlobals "_law_field"=some (some (.ref Mu)))
  (a54:nsIn K mainGlobals "_law_mixed"=some (some (.ref Mv)))
  (a55:nsIn K mainGlobals "_law_free_table"=some (some (.ref Mw)))
  (a56:nsIn K mainGlobals "_law_times"=some (some (.ref Mx)))
  (a57:nsIn K mainGlobals "_law_powers"=some (some (.ref Mz)))
  (a58:nsIn K mainGlobals "_law_root_table"=some (some (.ref MA)))
  (a59:findIn K (.ref bo) "distance"=some (some (.ref EL)))
  (eb0:isFn K (.ref EL)=true)
  (a60:findIn K (.ref bR) "distance"=some (some (.ref EM)))
  (eb2:isFn K (.ref EM)=true)
  (a61:findIn K (.ref bx) "distance"=some (some (.ref EN)))
  (eb4:isFn K (.ref EN)=true)
  (a62:nsIn K mainGlobals "repeat_checks"=some (some (.ref MB)))
  (a63:findIn K (.ref bR) "__init__"=some (some (.ref EO)))
  (eb7:isFn K (.ref EO)=true)
  (a64:nsIn K mainGlobals "_law_repeat_table"=some (some (.ref MC)))
  (a65:nsIn K mainGlobals "_law_code"=some (some (.ref MD)))
  (a66:nsIn K mainGlobals "_law_message"=some (some (.ref ME)))
  (a67:nsIn K mainGlobals "_law_plus"=some (some (.ref MF)))
  (a68:nsIn K mainGlobals "_law_dot"=some (some (.ref MG)))
  (a69:nsIn K mainGlobals "_law_refusal"=some (some (.ref MH)))
  (a70:findIn K (.ref aJ) "told"=some (some (.ref ER)))
  (ec5:isFn K (.ref ER)=true)
  (a71:findIn K (.ref aM) "told"=some (some (.ref ES)))
  (ec7:isFn K (.ref ES)=true)
  (a72:findIn K (.ref j9) "checks"=some (some (.ref tS)))
  (ML:isFn K (.ref tS)=true)
  (a73:nsIn K mainGlobals "by_column"=some (some (.ref MI)))
  (a74:findIn K (.ref j9) "is_word"=some (some (.ref tT)))
  (MM:isFn K (.ref tT)=true)
  (Xn:nsIn K mainGlobals "law"=some (some (.ref LZ)))
  (AI:specialIn K (.builtin "object.__class__") "__get__"=some (some (.builtin "getset_descriptor.__get__")))
  (AJ:takesIn K (.builtin "object.__class__")=some true)
  (Xo:plainGet K aJ xB=true)
  (Xp:hasDictIn K aJ=true)
  (Xq:plainOver K aJ=true)
  (Xr:findIn K (.ref aJ) "__setattr__"=some (some (.builtin "object.__setattr__")))
  (KY:makesIn K aJ=true)
  (aR8:keepIn K (.ref aJ)=true)
  (aR9:findIn K (.ref aJ) "__class__"=some (some (.builtin "object.__class__")))
  (aS0:mroIn K aJ (.type "object")=some true)
  (aw4:typeIn K (.ref bo)=some (.type "type"))
  (aw5:subIn K (.ref aJ) (.ref bo)=some false)
  (DR:findIn K (.ref aJ) "bits"=some none)
  (xi:findIn K (.ref aJ) "logs"=some none)
  (tF:findIn K (.ref aJ) "many"=some none)
  (xj:findIn K (.ref aJ) "powers"=some none)
  (tG:findIn K (.ref aJ) "products"=some none)
  (KZ:findIn K (.ref aJ) "step"=some none)
  (K0:findIn K (.ref aJ) "wide"=some none)
  (K1:findIn K (.ref aJ) "holds"=some (some (.ref xw)))
  (K2:findIn K (.ref aJ) "over"=some (some (.ref xv)))
  (Ac:findIn K (.ref aJ) "step_power"=some (some (.ref xu)))
  (Xs:plainGet K bo xB=true)
  (Xt:hasDictIn K bo=true)
  (Xu:plainOver K bo=true)
  (Xv:findIn K (.ref bo) "__setattr__"=some (some (.builtin "object.__setattr__")))
  (xk:makesIn K bo=true)
  (ed4:keepIn K (.ref bo)=true)
  (ed5:findIn K (.ref bo) "__class__"=some (some (.builtin "object.__class__")))
  (ed6:mroIn K bo (.type "object")=some true)
  (DS:findIn K (.ref bo) "bound"=some none)
  (DT:findIn K (.ref bo) "check_rows"=some none)
  (DU:findIn K (.ref bo) "field"=some none)
  (DV:findIn K (.ref bo) "length"=some none)
  (K3:findIn K (.ref bo) "message_places"=some none)
  (DW:findIn K (.ref bo) "size"=some none)
  (DX:findIn K (.ref bo) "word_rows"=some none)
  (K4:findIn K (.ref bo) "checks"=some (some (.ref tS)))
  (K5:findIn K (.ref bo) "is_word"=some (some (.ref tT)))
  (DY:findIn K (.ref bo) "rows"=some (some (.ref tQ)))
  (DZ:findIn K (.ref bo) "written"=some (some (.ref tR)))
  (Xw:plainGet K aM xB=true)
  (Xx:hasDictIn K aM=true)
  (Xy:plainOver K aM=true)
  (Xz:findIn K (.ref aM) "__setattr__"=some (some (.builtin "object.__setattr__")))
  (K6:makesIn K aM=true)
  (aN8:keepIn K (.ref aM)=true)
  (aN9:findIn K (.ref aM) "__class__"=some (some (.builtin "object.__class__")))
  (aO0:mroIn K aM (.type "object")=some true)
  (as5:typeIn K (.ref bo)=some (.type "type"))
  (as6:subIn K (.ref aM) (.ref bo)=some false)
  (Ad:findIn K (.ref aM) "logs"=some none)
  (tH:findIn K (.ref aM) "many"=some none)
  (Ae:findIn K (.ref aM) "powers"=some none)
  (oG:findIn K (.ref aM) "prime"=some none)
  (K7:findIn K (.ref aM) "step"=some none)
  (K8:findIn K (.ref aM) "wide"=some none)
  (K9:findIn K (.ref aM) "holds"=some (some (.ref xw)))
  (La:findIn K (.ref aM) "over"=some (some (.ref xv)))
  (Af:findIn K (.ref aM) "step_power"=some (some (.ref xu)))
  (XA:plainGet K bR xB=true)
  (XB:hasDictIn K bR=true)
  (XC:plainOver K bR=true)
  (XD:findIn K (.ref bR) "__setattr__"=some (some (.builtin "object.__setattr__")))
  (D1:makesIn K bR=true)
  (ee2:keepIn K (.ref bR)=true)
  (ee3:findIn K (.ref bR) "__class__"=some (some (.builtin "object.__class__")))
  (ee4:mroIn K bR (.type "object")=some true)
  (ee5:typeIn K (.ref bo)=some (.type "type"))
  (ee6:subIn K (.ref bR) (.ref bo)=some false)
  (D2:findIn K (.ref bR) "check_rows"=some none)
  (D3:findIn K (.ref bR) "field"=some none)
  (D4:findIn K (.ref bR) "length"=some none)
  (Lb:findIn K (.ref bR) "message_places"=some none)
  (D6:findIn K (.ref bR) "size"=some none)
  (D7:findIn K (.ref bR) "word_rows"=some none)
  (VS:findIn K (.ref bR) "checks"=some (some (.ref tS)))
  (VT:findIn K (.ref bR) "is_word"=some (some (.ref tT)))
  (D8:findIn K (.ref bR) "rows"=some (some (.ref tQ)))
  (Lc:findIn K (.ref bR) "written"=some (some (.ref tR)))
  (XE:plainGet K bx xB=true)
  (XF:hasDictIn K bx=true)
  (XG:plainOver K bx=true)
  (XH:findIn K (.ref bx) "__setattr__"=some (some (.builtin "object.__setattr__")))
  (D9:makesIn K bx=true)
  (ee7:keepIn K (.ref bx)=true)
  (ee8:findIn K (.ref bx) "__class__"=some (some (.builtin "object.__class__")))
  (ee9:mroIn K bx (.type "object")=some true)
  (ef0:typeIn K (.ref bo)=some (.type "type"))
  (ef1:subIn K (.ref bx) (.ref bo)=some false)
  (Ea:findIn K (.ref bx) "check_rows"=some none)
  (Ld:findIn K (.ref bx) "extra"=some none)
  (Eb:findIn K (.ref bx) "field"=some none)
  (Le:findIn K (.ref bx) "first"=some none)
  (Ec:findIn K (.ref bx) "length"=some none)
  (Lf:findIn K (.ref bx) "message_places"=some none)
  (Ee:findIn K (.ref bx) "size"=some none)
  (Ef:findIn K (.ref bx) "word_rows"=some none)
  (VU:findIn K (.ref bx) "checks"=some (some (.ref tS)))
  (VV:findIn K (.ref bx) "is_word"=some (some (.ref tT)))
  (Eg:findIn K (.ref bx) "rows"=some (some (.ref tQ)))
  (Lg:findIn K (.ref bx) "written"=some (some (.ref tR)))
  (ef2:specialIn K (.ref j9) "__getattribute__"=some (some (.builtin "type.__getattribute__")))
  (ef3:PySem.W.readsIn K j9 (.type "type")=true)
  (ef4:PySem.W.findCls K (.ref j9) (.type "type") "__init__"=some (.val (.ref AG)))
  (aO1:specialIn K (.ref kL) "__getattribute__"=some (some (.builtin "type.__getattribute__")))
  (aO2:PySem.W.readsIn K kL (.type "type")=true)
  (aO3:PySem.W.findCls K (.ref kL) (.type "type") "__init__"=some (.val (.ref AH)))
  (ef8:nsIn K mainGlobals "ValueError"=some none)
  (ef9:nsIn K mainGlobals "all"=some none)
  (eg0:nsIn K mainGlobals "any"=some none)
  (eg1:nsIn K mainGlobals "bool"=some none)
  (eg2:nsIn K mainGlobals "enumerate"=some none)
  (eg3:nsIn K mainGlobals "int"=some none)
  (eg4:nsIn K mainGlobals "isinstance"=some none)
  (eg5:nsIn K mainGlobals "len"=some none)
  (eg6:nsIn K mainGlobals "list"=some none)
  (eg7:nsIn K mainGlobals "min"=some none)
  (eg8:nsIn K mainGlobals "range"=some none)
  (eg9:nsIn K mainGlobals "str"=some none)
  (eh0:nsIn K mainGlobals "sum"=some none)
  (eh1:nsIn K mainGlobals "zip"=some none)
  (aU6:typeIn K (.ref eZ)=some (.type "type"))
  (MN:typeIn K (.ref ka)=some (.type "type"))
  (MP:typeIn K (.ref dB)=some (.type "type"))
  (MQ:typeIn K (.ref dw)=some (.type "type"))
  (MR:subIn K (.ref ka) (.type "BaseException")=some true)
  (aQ6:findIn K (.ref eZ) "__getattribute__"=some (some (.builtin "BaseException.__getattribute__")))
  (aQ7:findIn K (.ref eZ) "__getattr__"=some none)
  (aQ8:findIn K (.ref eZ) "__class__"=some (some (.builtin "object.__class__")))
  (aQ9:specialIn K (.builtin "object.__class__") "__get__"=some (some (.builtin "getset_descriptor.__get__")))
  (aR0:takesIn K (.builtin "object.__class__")=some true)
  (aR1:mroIn K eZ (.type "object")=some true)
  (aR2:mroIn K eZ (.type "BaseException")=some true)
  (aE6:subIn K (.ref eZ) (.ref dB)=some false)
  (ay5:subIn K (.ref eZ) (.ref dw)=some false)
  (aw6:subIn K (.ref eZ) (.ref ka)=some true)
  (aS1:subIn K (.ref eZ) (.type "ValueError")=some true)
  (ei3:findIn K (.ref dB) "__getattribute__"=some (some (.builtin "BaseException.__getattribute__")))
  (ei4:findIn K (.ref dB) "__getattr__"=some none)
  (ei5:findIn K (.ref dB) "__class__"=some (some (.builtin "object.__class__")))
  (ei6:specialIn K (.builtin "object.__class__") "__get__"=some (some (.builtin "getset_descriptor.__get__")))
  (ei7:takesIn K (.builtin "object.__class__")=some true)
  (ei8:mroIn K dB (.type "object")=some true)
  (ei9:mroIn K dB (.type "BaseException")=some true)
  (ej0:subIn K (.ref dB) (.ref dw)=some false)
  (aB0:subIn K (.ref dB) (.ref ka)=some true)
  (ej2:subIn K (.ref dB) (.type "ValueError")=some true)
  (ej3:findIn K (.ref dw) "__getattribute__"=some (some (.builtin "BaseException.__getattribute__")))
  (ej4:findIn K (.ref dw) "__getattr__"=some none)
  (ej5:findIn K (.ref dw) "__class__"=some (some (.builtin "object.__class__")))
  (ej6:specialIn K (.builtin "object.__class__") "__get__"=some (some (.builtin "getset_descriptor.__get__")))
  (ej7:takesIn K (.builtin "object.__class__")=some true)
  (ej8:mroIn K dw (.type "object")=some true)
  (ej9:mroIn K dw (.type "BaseException")=some true)
  (ek0:subIn K (.ref dw) (.ref dB)=some false)
  (aw7:subIn K (.ref dw) (.ref ka)=some true)
  (ek2:subIn K (.ref dw) (.type "ValueError")=some true)
  (ek3:subIn K (.type "NoneType") (.ref dB)=some false)
  (ek4:subIn K (.type "NoneType") (.ref dw)=some false)
  (F0:aY K "_law_told" "_law_told" IQ f0 fd0)
  (F1:aY K "_law_many" "_law_many" IT f1 fd1)
  (F2:aY K "refuse_large" "refuse_large" IU f2 fd2)
  (F3:aY K "width_of" "width_of" IV f3 fd3)
  (F4:aY K "first_with" "first_with" IW f4 fd4)
  (F5:aY K "scaled" "BitField.scaled" IY f5 fd5)
  (F6:aY K "scaled" "PrimeField.scaled" IZ f6 fd6)
  (F7:aY K "lessened" "BitField.lessened" I0 f7 fd7)
  (F8:aY K "lessened" "PrimeField.lessened" Ja f8 fd8)
  (F9:aY K "cleared" "cleared" Jb f9 fd9)
  (ET:aY K "step_power" "Field.step_power" Jc xu dY6)
  (EU:aY K "over" "Field.over" Jd xv dY7)
  (XI:aY K "reduced" "reduced" Je nQ dY8)
  (XJ:aY K "copied" "copied" Jf L4 dY9)
  (XM:aY K "leads" "leads" Jg L5 dZ0)
  (XN:aY K "free_places" "free_places" Jh L6 dZ1)
  (MS:aY K "minus" "BitField.minus" Ji EE dZ2)
  (MT:aY K "minus" "PrimeField.minus" Jj EF dZ3)
  (XO:aY K "kernel_of_reduced" "kernel_of_reduced" Jk L7 dZ4)
  (MU:aY K "__init__" "Code.__init__" Jl AG dZ5)
  (EV:aY K "holds" "Field.holds" Jm xw dZ6)
  (XQ:aY K "is_small_table" "is_small_table" Jn L8 dZ7)
  (XR:aY K "rank" "rank" Jo L9 dZ8)
  (XS:aY K "turned" "turned" Jp Ma dZ9)
  (XT:aY K "is_nought" "is_nought" Jq yw d00)
  (MV:aY K "times" "BitField.times" Jr EG d01)
  (MW:aY K "times" "PrimeField.times" Js EH d02)
  (XU:aY K "past" "past" Jt Mb d03)
  (XW:aY K "first_bound" "first_bound" Ju Mc d04)
  (XX:aY K "__init__" "CheckCode.__init__" Jv EI d05)
  (AK:aY K "rows" "Code.rows" Jw tQ d06)
  (XY:aY K "crossed_code" "crossed_code" Jx Md d07)
  (XZ:aY K "refuse_length" "refuse_length" Jy Me d08)
  (X0:aY K "refuse_no_sign" "refuse_no_sign" Jz Mg d09)
  (MX:aY K "dot" "BitField.dot" JA EJ d11)
  (MY:aY K "dot" "PrimeField.dot" JB EK d12)
  (X1:aY K "row_by" "row_by" JC Mh d13)
  (AL:aY K "written" "Code.written" JE tR d14)
  (X2:aY K "_law_cell" "_law_cell" JF Mi d15)
  (X3:aY K "makes_root_code" "makes_root_code" JG Mj d16)
  (X4:aY K "powers_of" "powers_of" JH Ml d17)
  (X5:aY K "step_powers" "step_powers" JI Mm d18)
  (X6:aY K "logs_of" "logs_of" JJ Mn d19)
  (MZ:aY K "__init__" "Field.__init__" JL AH d20)
  (X7:aY K "makes_prime_field" "makes_prime_field" JM Mo d21)
  (X8:aY K "product_rows" "product_rows" JN Mp d22)
  (X9:aY K "bits_divided" "bits_divided" JO Mq d23)
  (Ya:aY K "stands_alone" "stands_alone" JP Mr d24)
  (Yb:aY K "makes_bit_field" "makes_bit_field" JR Ms d25)
  (Yc:aY K "bits_times" "bits_times" JS Mt d26)
  (Yd:aY K "_law_field" "_law_field" JT Mu d27)
  (Ye:aY K "_law_mixed" "_law_mixed" JU Mv d28)
  (Yf:aY K "_law_free_table" "_law_free_table" JV Mw d29)
  (Yg:aY K "_law_times" "_law_times" JW Mx d30)
  (Yh:aY K "_law_powers" "_law_powers" JX Mz d31)
  (Yi:aY K "_law_root_table" "_law_root_table" JZ MA d32)
  (M4:aY K "distance" "CheckCode.distance" J0 EL d33)
  (M5:aY K "distance" "RepeatCode.distance" S3 EM d34)
  (M6:aY K "distance" "RootCode.distance" S4 EN d35)
  (Yj:aY K "repeat_checks" "repeat_checks" J1 MB d36)
  (Yk:aY K "__init__" "RepeatCode.__init__" J2 EO d37)
  (Yl:aY K "_law_repeat_table" "_law_repeat_table" J3 MC d38)
  (Ym:aY K "_law_code" "_law_code" J4 MD d39)
  (Yn:aY K "_law_message" "_law_message" J5 ME d41)
  (Yo:aY K "_law_plus" "_law_plus" J6 MF d42)
  (Yp:aY K "_law_dot" "_law_dot" J7 MG d43)
  (Yq:aY K "_law_refusal" "_law_refusal" J8 MH d44)
  (M7:aY K "told" "BitField.told" J9 ER d45)
  (M8:aY K "told" "PrimeField.told" Ka ES d46)
  (AM:aY K "checks" "Code.checks" Kb tS d47)
  (Yr:aY K "by_column" "by_column" Ke MI d48)
  (AN:aY K "is_word" "Code.is_word" Kf tT d49)
  (l40:K.lookup AA=some ⟨dU5,dU3,.func (fnOf "__init__" "RootCode.__init__" (iC kK) (fQ kK) (aK kK) (.ref ED) LU LV LW LS EC LX),dU4⟩)
  (Ys:K.lookup ED=some ⟨dU6,dU8,.seq #[.int 1 dU7] dV0,dU9⟩)
  (c40:codeIn K EC "RootCode.__init__"=true)
  (k40:keepIn K (.ref AA)=true)
  (l46:K.lookup AB=some ⟨dV4,dV1,.func (fnOf "__init__" "PrimeField.__init__" (iC oB) (fQ oB) (aK oB) .none dV5 dV6 dV7 dV2 (.ref AD) dV8),dV3⟩)
  (c46:codeIn K (.ref AD) "PrimeField.__init__"=true)
  (k46:keepIn K (.ref AB)=true)
  (aU0:K.lookup AD=some ⟨aE5,aE3,.fields Xd,aE4⟩)
  (aU1:Xd[11]?=some (.ref ig))
  (aE7:codeHdIn K AD ig=true)
  (l52:K.lookup AE=some ⟨dW5,dW2,.func (fnOf "__init__" "BitField.__init__" (iC oE) (fQ oE) (aK oE) .none dW6 dW7 dW8 dW3 (.ref AF) dW9),dW4⟩)
  (c52:codeIn K (.ref AF) "BitField.__init__"=true)
  (k52:keepIn K (.ref AE)=true)
  (aU3:K.lookup AF=some ⟨aJ0,aI8,.fields Xe,aI9⟩)
  (aU4:Xe[11]?=some (.ref ij))
  (aJ1:codeHdIn K AF ij=true)
  (l75:K.lookup LZ=some ⟨dX5,dX3,.func (fnOf "law" "law" (iC oF) (fQ oF) (aK oF) .none Xg Xh Xi Xf LY Xj),dX4⟩)
  (c75:codeIn K LY "law"=true)
  (k75:keepIn K (.ref LZ)=true)
  (aw8:(cB aJ==cB bo)=false)
  (aw9:(clsIn K bo).isSome=true)
  (as7:(cB aM==cB bo)=false)
  (as8:(clsIn K bo).isSome=true)
  (em3:(cB bR==cB bo)=false)
  (em4:(clsIn K bo).isSome=true)
  (em5:(cB bx==cB bo)=false)
  (em6:(clsIn K bo).isSome=true)
  (aS2:(clsIn K eZ).isSome=true)
  (M9:(clsIn K ka).isSome=true)
  (EW:(clsIn K dB).isSome=true)
  (EX:(clsIn K dw).isSome=true)
  (aS3:excIn K eZ [.type "ValueError",.type "Exception",.type "BaseException",.type "object"] "ValueError.__new__"=true)
  (aE8:(cB eZ==cB dB)=false)
  (ay6:(cB eZ==cB dw)=false)
  (en1:excIn K dB [.type "ValueError",.type "Exception",.type "BaseException",.type "object"] "ValueError.__new__"=true)
  (en2:(cB dB==cB dw)=false)
  (en3:excIn K dw [.type "ValueError",.type "Exception",.type "BaseException",.type "object"] "ValueError.__new__"=true)
  (en4:(cB dw==cB dB)=false)
  (nl:K.all (λp=>Hh p.2)=true)
  (sub:∀P∈[ig,ij],P∈ts) :
  ∃fd:FuncData,(∀(s:Shared) (v:Value),BindsTo s fd ⟨[v],[]⟩ [("_law_script",v)])/\∀base:Heap,K.In base->base.Ns mainGlobals mg->Bm mg base->aI l.prog w K mg base aO 12 fa fd ["_law_script"] (CD ts K):=by
 have e:=hfa.symm.trans (mg_of X G Xn)
 cases e
 have F40:=cw4 (st:=kK) l40 c40 k40
 have b40:=cH4 (ps:=["self","field","length","extra","first"]) (fd:=fnOf "__init__" "RootCode.__init__" (iC kK) (fQ kK) (aK kK) (.ref ED) LU LV LW LS EC LX) rfl Ys rfl (Sf (λ_ _ _ _ _=>⟨_,rfl,rfl⟩))
 have d40:=cv4 (ps:=["self","field","length","extra","first"]) (fd:=fnOf "__init__" "RootCode.__init__" (iC kK) (fQ kK) (aK kK) (.ref ED) LU LV LW LS EC LX) rfl Ys rfl rfl (qp (λ_ _ _ _=>⟨_,rfl,rfl⟩))
 have Yt:=BX (st:=oB) l46 c46 k46
 have b46:=Yt.binds (ps:=["self","prime"]) λ_ _ _ _ _ _=>fq (λ_ _=>rfl)
 have Yu:=BX (st:=oE) l52 c52 k52
 have b52:=Yu.binds (ps:=["self","bits"]) λ_ _ _ _ _ _=>fq (λ_ _=>rfl)
 have Yv:=BX (st:=oF) l75 c75 k75
 have b75:=Yv.binds (ps:=["_law_script"]) λ_ _ _ _ _ _=>fo (λ_=>rfl)
 have T:Txt K mg ⟨f0,_,f1,_,f2,_,f3,_,f4,_,f5,_,f6,_,f7,_,f8,_,f9,_,xu,_,xv,_,nQ,_,L4,_,L5,_,L6,_,EE,_,EF,_,L7,_,AG,_,xw,_,L8,_,L9,_,Ma,_,yw,_,EG,_,EH,_,Mb,_,Mc,_,EI,_,tQ,_,Md,_,Me,_,Mg,_,EJ,_,EK,_,Mh,_,tR,_,Mi,_,Mj,_,AA,_,Ml,_,Mm,_,Mn,_,AH,_,Mo,_,AB,_,Mp,_,Mq,_,Mr,_,Ms,_,Mt,_,AE,_,Mu,_,Mv,_,Mw,_,Mx,_,Mz,_,MA,_,EL,_,EM,_,EN,_,MB,_,EO,_,MC,_,MD,_,ME,_,MF,_,MG,_,MH,_,ER,_,ES,_,tS,_,MI,_,tT,_,fa,_,AD,ig,AF,ij,aJ,eZ,bo,j9,kL,ka,dB,aM,bR,bx,dw⟩:=⟨⟨F0,mg_of X G a0,F0.binds λ_ _ _ _ _ _=>fo λ_=>rfl⟩,⟨F1,mg_of X G a1,F1.binds λ_ _ _ _ _ _=>fo λ_=>rfl⟩,⟨F2,mg_of X G a2,F2.binds λ_ _ _ _ _ _=>fo λ_=>rfl⟩,⟨F3,mg_of X G a3,F3.binds λ_ _ _ _ _ _=>fo λ_=>rfl⟩,⟨F4,mg_of X G a4,F4.binds λ_ _ _ _ _ _=>fq λ_ _=>rfl⟩,⟨F5,F5.binds λ_ _ _ _ _ _=>gh λ_ _ _=>rfl⟩,⟨F6,F6.binds λ_ _ _ _ _ _=>gh λ_ _ _=>rfl⟩,⟨F7,F7.binds λ_ _ _ _ _ _=>qp λ_ _ _ _=>rfl⟩,⟨F8,F8.binds λ_ _ _ _ _ _=>qp λ_ _ _ _=>rfl⟩,⟨F9,mg_of X G a9,F9.binds λ_ _ _ _ _ _=>qp λ_ _ _ _=>rfl⟩,⟨ET,ET.binds λ_ _ _ _ _ _=>fq λ_ _=>rfl⟩,⟨EU,EU.binds λ_ _ _ _ _ _=>gh λ_ _ _=>rfl⟩,⟨XI,mg_of X G a12,XI.binds λ_ _ _ _ _ _=>fq λ_ _=>rfl⟩,⟨XJ,mg_of X G a13,XJ.binds λ_ _ _ _ _ _=>fo λ_=>rfl⟩,⟨XM,mg_of X G a14,XM.binds λ_ _ _ _ _ _=>fo λ_=>rfl⟩,⟨XN,mg_of X G a15,XN.binds λ_ _ _ _ _ _=>fq λ_ _=>rfl⟩,⟨MS,MS.binds λ_ _ _ _ _ _=>gh λ_ _ _=>rfl⟩,⟨MT,MT.binds λ_ _ _ _ _ _=>gh λ_ _ _=>rfl⟩,⟨XO,mg_of X G a18,XO.binds λ_ _ _ _ _ _=>gh λ_ _ _=>rfl⟩,⟨MU,MU.binds λ_ _ _ _ _ _=>gh λ_ _ _=>rfl⟩,⟨EV,EV.binds λ_ _ _ _ _ _=>fq λ_ _=>rfl⟩,⟨XQ,mg_of X G a21,XQ.binds λ_ _ _ _ _ _=>fq λ_ _=>rfl⟩,⟨XR,mg_of X G a22,XR.binds λ_ _ _ _ _ _=>fq λ_ _=>rfl⟩,⟨XS,mg_of X G a23,XS.binds λ_ _ _ _ _ _=>fo λ_=>rfl⟩,⟨XT,mg_of X G a24,XT.binds λ_ _ _ _ _ _=>fo λ_=>rfl⟩,⟨MV,MV.binds λ_ _ _ _ _ _=>gh λ_ _ _=>rfl⟩,⟨MW,MW.binds λ_ _ _ _ _ _=>gh λ_ _ _=>rfl⟩,⟨XU,mg_of X G a27,XU.binds λ_ _ _ _ _ _=>gh λ_ _ _=>rfl⟩,⟨XW,mg_of X G a28,XW.binds λ_ _ _ _ _ _=>fq λ_ _=>rfl⟩,⟨XX,XX.binds λ_ _ _ _ _ _=>gh λ_ _ _=>rfl⟩,⟨AK,AK.binds λ_ _ _ _ _ _=>fo λ_=>rfl⟩,⟨XY,mg_of X G a31,XY.binds λ_ _ _ _ _ _=>fo λ_=>rfl⟩,⟨XZ,mg_of X G a32,XZ.binds λ_ _ _ _ _ _=>fq λ_ _=>rfl⟩,⟨X0,mg_of X G a33,X0.binds λ_ _ _ _ _ _=>fq λ_ _=>rfl⟩,⟨MX,MX.binds λ_ _ _ _ _ _=>gh λ_ _ _=>rfl⟩,⟨MY,MY.binds λ_ _ _ _ _ _=>gh λ_ _ _=>rfl⟩,⟨X1,mg_of X G a36,X1.binds λ_ _ _ _ _ _=>gh λ_ _ _=>rfl⟩,⟨AL,AL.binds λ_ _ _ _ _ _=>fq λ_ _=>rfl⟩,⟨X2,mg_of X G a38,X2.binds λ_ _ _ _ _ _=>fq λ_ _=>rfl⟩,⟨X3,mg_of X G a39,X3.binds λ_ _ _ _ _ _=>qp λ_ _ _ _=>rfl⟩,F40,b40,d40,⟨X4,mg_of X G a41,X4.binds λ_ _ _ _ _ _=>fq λ_ _=>rfl⟩,⟨X5,mg_of X G a42,X5.binds λ_ _ _ _ _ _=>fq λ_ _=>rfl⟩,⟨X6,mg_of X G a43,X6.binds λ_ _ _ _ _ _=>fo λ_=>rfl⟩,⟨MZ,MZ.binds λ_ _ _ _ _ _=>gh λ_ _ _=>rfl⟩,⟨X7,mg_of X G a45,X7.binds λ_ _ _ _ _ _=>fo λ_=>rfl⟩,⟨Yt,b46⟩,⟨X8,mg_of X G a47,X8.binds λ_ _ _ _ _ _=>fq λ_ _=>rfl⟩,⟨X9,mg_of X G a48,X9.binds λ_ _ _ _ _ _=>fq λ_ _=>rfl⟩,⟨Ya,mg_of X G a49,Ya.binds λ_ _ _ _ _ _=>fo λ_=>rfl⟩,⟨Yb,mg_of X G a50,Yb.binds λ_ _ _ _ _ _=>fo λ_=>rfl⟩,⟨Yc,mg_of X G a51,Yc.binds λ_ _ _ _ _ _=>fq λ_ _=>rfl⟩,⟨Yu,b52⟩,⟨Yd,mg_of X G a53,Yd.binds λ_ _ _ _ _ _=>fo λ_=>rfl⟩,⟨Ye,mg_of X G a54,Ye.binds λ_ _ _ _ _ _=>fq λ_ _=>rfl⟩,⟨Yf,mg_of X G a55,Yf.binds λ_ _ _ _ _ _=>Sf λ_ _ _ _ _=>rfl⟩,⟨Yg,mg_of X G a56,Yg.binds λ_ _ _ _ _ _=>gh λ_ _ _=>rfl⟩,⟨Yh,mg_of X G a57,Yh.binds λ_ _ _ _ _ _=>fo λ_=>rfl⟩,⟨Yi,mg_of X G a58,Yi.binds λ_ _ _ _ _ _=>qp λ_ _ _ _=>rfl⟩,⟨M4,M4.binds λ_ _ _ _ _ _=>fo λ_=>rfl⟩,⟨M5,M5.binds λ_ _ _ _ _ _=>fo λ_=>rfl⟩,⟨M6,M6.binds λ_ _ _ _ _ _=>fo λ_=>rfl⟩,⟨Yj,mg_of X G a62,Yj.binds λ_ _ _ _ _ _=>fq λ_ _=>rfl⟩,⟨Yk,Yk.binds λ_ _ _ _ _ _=>gh λ_ _ _=>rfl⟩,⟨Yl,mg_of X G a64,Yl.binds λ_ _ _ _ _ _=>fq λ_ _=>rfl⟩,⟨Ym,mg_of X G a65,Ym.binds λ_ _ _ _ _ _=>fq λ_ _=>rfl⟩,⟨Yn,mg_of X G a66,Yn.binds λ_ _ _ _ _ _=>qp λ_ _ _ _=>rfl⟩,⟨Yo,mg_of X G a67,Yo.binds λ_ _ _ _ _ _=>gh λ_ _ _=>rfl⟩,⟨Yp,mg_of X G a68,Yp.binds λ_ _ _ _ _ _=>gh λ_ _ _=>rfl⟩,⟨Yq,mg_of X G a69,Yq.binds λ_ _ _ _ _ _=>fo λ_=>rfl⟩,⟨M7,M7.binds λ_ _ _ _ _ _=>fo λ_=>rfl⟩,⟨M8,M8.binds λ_ _ _ _ _ _=>fo λ_=>rfl⟩,⟨AM,AM.binds λ_ _ _ _ _ _=>fo λ_=>rfl⟩,⟨Yr,mg_of X G a73,Yr.binds λ_ _ _ _ _ _=>gh λ_ _ _=>rfl⟩,⟨AN,AN.binds λ_ _ _ _ _ _=>fq λ_ _=>rfl⟩,⟨Yv,mg_of X G Xn,b75⟩,rfl,aE7,rfl,aJ1,⟨Xo,Xp,Xq,Xr⟩,⟨KY,a52,ea2,aR8⟩,⟨⟨Xo,Xp,Xq,Xr⟩,aR9,AI,AJ,aS0⟩,mS aw8 aw9 aw4 aw5,DR,xi,tF,xj,tG,KZ,K0,⟨a34,d82,MX.kp⟩,⟨K1,Xm,EV.kp⟩,⟨a7,mf7,F7.kp⟩,⟨a16,d61,MS.kp⟩,⟨K2,Xl,EU.kp⟩,⟨a5,mf5,F5.kp⟩,⟨Ac,Xk,ET.kp⟩,⟨a25,d70,MV.kp⟩,⟨a70,ec5,M7.kp⟩,⟨Xs,Xt,Xu,Xv⟩,⟨xk,a29,d76,ed4⟩,⟨⟨Xs,Xt,Xu,Xv⟩,ed5,AI,AJ,ed6⟩,Hs,DS,DT,DU,DV,K3,DW,DX,⟨K4,ML,AM.kp⟩,⟨a59,eb0,M4.kp⟩,⟨K5,MM,AN.kp⟩,⟨DY,MJ,AK.kp⟩,⟨DZ,MK,AL.kp⟩,⟨Xw,Xx,Xy,Xz⟩,⟨K6,a46,d95,aN8⟩,⟨⟨Xw,Xx,Xy,Xz⟩,aN9,AI,AJ,aO0⟩,mS as7 as8 as5 as6,Ad,tH,Ae,oG,K7,K8,⟨a35,d84,MY.kp⟩,⟨K9,Xm,EV.kp⟩,⟨a8,mf8,F8.kp⟩,⟨a17,d63,MT.kp⟩,⟨La,Xl,EU.kp⟩,⟨a6,mf6,F6.kp⟩,⟨Af,Xk,ET.kp⟩,⟨a26,d72,MW.kp⟩,⟨a71,ec7,M8.kp⟩,⟨XA,XB,XC,XD⟩,⟨D1,a63,eb7,ee2⟩,⟨⟨XA,XB,XC,XD⟩,ee3,AI,AJ,ee4⟩,mS em3 em4 ee5 ee6,D2,D3,D4,Lb,D6,D7,⟨VS,ML,AM.kp⟩,⟨a60,eb2,M5.kp⟩,⟨VT,MM,AN.kp⟩,⟨D8,MJ,AK.kp⟩,⟨Lc,MK,AL.kp⟩,⟨XE,XF,XG,XH⟩,⟨D9,a40,d89,ee7⟩,⟨⟨XE,XF,XG,XH⟩,ee8,AI,AJ,ee9⟩,mS em5 em6 ef0 ef1,Ea,Ld,Eb,Le,Ec,Lf,Ee,Ef,⟨VU,ML,AM.kp⟩,⟨a61,eb4,M6.kp⟩,⟨VV,MM,AN.kp⟩,⟨Eg,MJ,AK.kp⟩,⟨Lg,MK,AL.kp⟩,⟨ef2,ef3,ef4,MU.kp⟩,⟨aO1,aO2,aO3,MZ.kp⟩,mg_none_of X G ef8,mg_none_of X G ef9,mg_none_of X G eg0,mg_none_of X G eg1,mg_none_of X G eg2,mg_none_of X G eg3,mg_none_of X G eg4,mg_none_of X G eg5,mg_none_of X G eg6,mg_none_of X G eg7,mg_none_of X G eg8,mg_none_of X G eg9,mg_none_of X G eh0,mg_none_of X G eh1,mg_of X G Lj,mg_of X G Lk,mg_of X G tJ,mg_of X G Ag,mg_of X G Ei,mg_of X G Ll,mg_of X G Ah,mg_of X G Lm,mg_of X G Ej,mg_of X G Ek,mg_of X G Ai,Hr (mg_of X G Lk) aS3,⟨aS2,aQ6,aQ7,aQ8,aQ9,aR0,aR1,aR2⟩,mS aE8 EW MP aE6,mS ay6 EX MQ ay5,Hu M9 MN MR aw6,Ht rfl (by decide +kernel) aS1,Hr (mg_of X G Ah) en1,⟨EW,ei3,ei4,ei5,ei6,ei7,ei8,ei9⟩,Hs,mS en2 EX MQ ej0,Hu M9 MN MR aB0,Ht rfl (by decide +kernel) ej2,Hr (mg_of X G Ai) en3,⟨EX,ej3,ej4,ej5,ej6,ej7,ej8,ej9⟩,mS en4 EW MP ek0,Hs,Hu M9 MN MR aw7,Ht rfl (by decide +kernel) ek2,mS rfl EW MP ek3,mS rfl EX MQ ek4⟩
 exact⟨fnOf "law" "law" (iC oF) (fQ oF) (aK oF) .none Xg Xh Xi Xf LY Xj,λs v=>.of_eq rfl,λbase _ _ hB=>(cB7 T hB).imp λvs H Q E h=>let z:=cc7 nl h;⟨λP hP=>z.1 P (sub P hP),z.2⟩⟩
theorem aE9{K:Frag}{h:Heap}{c f k P:Addr}{od an:Option Addr}{sl:Array (Option Value)}{oc kV dc pm ct kt:Value}{ko:Option Addr}{ks:Array (Option Value)}{kf:Array Value}(X:K.In h)(a:nsIn K mainGlobals "PrimeField"=some (some (.ref c)))(b:findIn K (.ref c) "__init__"=some (some (.ref f)))
  (l:K.lookup f=some ⟨oc,od,.func (fnOf "__init__" "PrimeField.__init__" (iC oB) (fQ oB) (aK oB) .none kV dc pm an (.ref k) ct),sl⟩) (lk:K.lookup k=some ⟨kt,ko,.fields kf,ks⟩) (lp:kf[11]?=some (.ref P)) (n:K.lookup P=none) (e:codeHdIn K k P=true):K.lookup P=none/\∃c,CodeHd h c P:=⟨n,k,PySem.W.codeHd_of_K X e⟩
theorem aJ2{K:Frag}{h:Heap}{c f k P:Addr}{od an:Option Addr}{sl:Array (Option Value)}{oc kV dc pm ct kt:Value}{ko:Option Addr}{ks:Array (Option Value)}{kf:Array Value}(X:K.In h)(a:nsIn K mainGlobals "BitField"=some (some (.ref c)))(b:findIn K (.ref c) "__init__"=some (some (.ref f)))
  (l:K.lookup f=some ⟨oc,od,.func (fnOf "__init__" "BitField.__init__" (iC oE) (fQ oE) (aK oE) .none kV dc pm an (.ref k) ct),sl⟩) (lk:K.lookup k=some ⟨kt,ko,.fields kf,ks⟩) (lp:kf[11]?=some (.ref P)) (n:K.lookup P=none) (e:codeHdIn K k P=true):K.lookup P=none/\∃c,CodeHd h c P:=⟨n,k,PySem.W.codeHd_of_K X e⟩
theorem walk{l:PySem.W.OpenLaw}{q:Program}{loose:List Str}{XP:(Str->Option Value)->Heap->Prop}{YP:World->Heap->Prop}{d:DefRec}{K:Params->Frag}{ts:List Addr}(hn:l.most=some 63)(yf:d.params.defaults=[])
  (hY:∀(w:World) (h:Heap),YP w h->(K w.params).In h/\∀P∈ts,h.get? P=some (PySem.W.tabObj #[]))
  (hC:∀(w:World) (h:Heap),(K w.params).In h->∀P∈ts,(K w.params).lookup P=none/\∃c,CodeHd h c P)
  (F:∀(w:World) (mg:Str->Option Value) (fa:Addr) (h:Heap),(K w.params).In h->h.Ns mainGlobals mg->mg d.name=some (.ref fa) ->
   ∃fd:FuncData,(∀(s:Shared) (u:Value),BindsTo s fd ⟨[u],[]⟩ [("_law_script",u)])/\∀base:Heap,(K w.params).In base->base.Ns mainGlobals mg->Bm mg base->aI l.prog w (K w.params) mg base aO 12 fa fd ["_law_script"] (CD ts (K w.params))) :
  PySem.W.WalkO q loose XP YP l.row.toRowW d [] (λf vs=>PySem.call f vs) :=
 L2.di8 (n:=63) (k:=12) (x:="_law_script") (CX:=λ_=>aO) (sp:=λw=>CD ts (K w.params)) hn (by decide) yf ⟨rfl,by decide,by decide⟩ hY hC F (λ_ _ a ns hl hO hS=>⟨a,ns,rfl,hO,hS,hl,λ_=>rfl⟩) λ_ _ _ _ _ z=>z
end HK47
set_option genInjectivity false in
set_option genSizeOf false in
structure PySem.W.Fast:Prop where
 (tw1563359265310280736 tw4795546593504634912 tw10249943022679661664 tw5509113618967346272 tw2782885949235515488 tw4789009924270240896 tw15330294251811651712 tw5146945672935664768 tw13747972611726189760 tw13080315774468086976 tw1934313337213671680 tw8238118895908131136 tw525683137063787840 tw11944302819704269120 tw14861935348574907712 tw11750427056295552352 tw8768645344229128544 tw16656682650705398144 tw1874658910563241344 tw7525153349126080896 tw17009720738002437536 tw432413979782995360 tw4294985498672608 tw17741400651827929568 tw1688074732606941664 tw7714485427634574848 tw9668544139530064544 tw6358972092405887680 tw17548457791967329984 tw14698043953575658208 tw4386076904638410496 tw32979277497892608 tw9336568082312368928 tw3841922710397995936 tw592961850992620448 tw692353899558253601 tw15731189149441793089 tw15289031027316228225 tw6000784250020442273 tw7793416103360716961:True)
 (tw17490050859831560385 tw14339288023148730561 tw15911432939643612449 tw10371686212012169569 tw15701339571176720769 tw12786705875359159713 tw9376590431474231745 tw4720493826857775553 tw5005077537193119169 tw17467033720056944161 tw16715357520102677025 tw10476858080831610465 tw9838617819977608833 tw16697735138795703969 tw6531906156212473505 tw684919859334826721 tw10396321671784176385 tw16843718806865564449 tw5075183168521350977 tw17543333709823636321 tw7484834884544855905 tw15745576581650842497 tw6016575844352671617 tw15791182583871887233 tw5560799881667141505 tw4143028753350473633 tw4286495695797367745 tw6834083647307406273 tw6337467547316919265 tw4044680859993181218 tw3657017336419622946 tw14092214290940320802 tw4688899200557533250 tw13477553297415559298 tw17373913197675206914 tw7015639797834806562 tw1884975157567813922 tw3353058304964031874 tw3177265872373961122 tw6028442155345065442:True)
 (tw4687180695036461570 tw11727097604255567362 tw9727084684833297986 tw1294679941288145474 tw16033209700175990370 tw17859703655412276866 tw9130170018751757954 tw15174596715982086914 tw1905619172882771714 tw2002242796439600898 tw12241232408737428258 tw18387896953460516738 tw11939954507700010914 tw410960699511359426 tw2924968830318548962 tw10828052063349290019 tw4569457839964667971 tw4917838377091263555 tw11061113077736978563 tw102533509920603267 tw18410874510076561571 tw15025123501443959971 tw18010214095499266243 tw8567574045129121987 tw1887589915456810179 tw14953541042481043683 tw5498836139679533283 tw10690610040586456291 tw6108937780516444387 tw5285200338946616547 tw6104650310054086915 tw4452672194889173379 tw12470794028895620483 tw16737045012321025539 tw2189001120943031811 tw4961789669351278083 tw3201000063489333763 tw2249334432112543267 tw453082949939201635 tw1809534052028320355:True)
 (tw5598441872188222051 tw7700163501665496675 tw1980251093852172899 tw677330771023518307 tw14208866950529227395 tw16361639879576804995 tw15593867269480114819 tw7916521299907629731 tw15151426370534086339 tw13775069614342554307 tw10788636823601752803 tw9985093473566968547 tw12307206617226312451 tw12022699868900653827 tw4502271629688591139 tw2598358775967377187 tw321727485446733667 tw10176779679948951395 tw4011188184084254595 tw8663314605043724259 tw1719037625700830179 tw3585905011650326499 tw17754295677865029636 tw13058927411878506564 tw12124098003499344996 tw15898815168865697956 tw9650737267203838116 tw2006314269381202116 tw12532180675635168452 tw11925504556605279460 tw12194397585896829156 tw1987916565979917604 tw9640612452851020068 tw6297237764104422724 tw13564681598299455812 tw18305786121727245636 tw18229860053510758852 tw17631015190981403108 tw6744235249346899524 tw13483431451226689124:True)
 (tw1466204976183044708 tw1806360901512061572 tw10046360707369111204 tw18262269091279165092 tw4420511222875381412 tw6049596086463313604 tw7604625399562582756 tw6959654119624310532 tw3066051306249370404 tw15958629605320313636 tw8188936799860578084 tw5823905897287872292 tw18313665541880164164 tw13608264211095861060 tw2738060966858889060 tw2328149587346099076 tw3661163742594203588 tw13592195299940301796 tw15634240674533725189 tw11016279203242366981 tw12372306307762563109 tw1375790166837752869 tw1892804347674633285 tw2394560353307032645 tw15189538991993012325 tw18028072867921791109 tw9949807463239536805 tw6814536756562275525 tw3180558115416403141 tw7173840991981085925 tw14251684914970468613 tw4831252194888513797 tw10432968504645502309 tw16454603041483868613 tw17988442791977569733 tw1739794642628148677 tw7736066491554663909 tw13739566776327001669 tw9338237861548943941 tw9262393306955147877:True)
 (tw12554622601097759365 tw14709476382029136549 tw709239458007710373 tw12719107519477872325 tw14226401315560264517 tw8960139345911367493 tw10016200779991020389 tw9399512654242225029 tw5976473654290789253 tw12291284873950814085 tw15694243499411510181 tw12981272901779208101 tw9749360231448895429 tw11573350112608575494 tw9223900220336013446 tw17502169249150817478 tw5521451033437980902 tw10635251035980105990 tw3537606456330363142 tw18098383124149031174 tw3297905604784056582 tw16419160168029168934 tw14897342293618917702 tw12755998493217174854 tw3280869797026591046 tw12058382265965911398 tw12720880451108043110 tw7720639081787615622 tw1033608295416842694 tw14891390332089842150 tw7397381211685141030 tw5967869812200818246 tw9593218831069752934 tw5246194879823923814 tw11419664408885190246 tw3405145554958813830 tw17308038289584566918 tw17077690628631877254 tw7865870344308411046 tw2099337641676100262:True)
 (tw16360853399890486950 tw11722019196269735622 tw3910010448263093990 tw669779168021165830 tw9020044699988454150 tw5197811113434640134 tw15736212938606275366 tw9610338893846683494 tw3137991522230124390 tw4258870382901522278 tw3928341397736725382 tw13723279262889124742 tw16500848249106091910 tw10508352803617464294 tw6533385118993615879 tw9124092074511021063 tw10247897109513434119 tw3202975990042985511 tw8999262864161703079 tw11371592224446561479 tw8110083358269531431 tw17446768947597890887 tw788296591901387079 tw16005877196986497383 tw13758751500981724583 tw14884585936088333831 tw18160692235286722087 tw1702793860973218407 tw161094347512312423 tw1389512280997331591 tw2032965083401147015 tw3738069722006084295 tw3013890130439872231 tw10647995637735282407 tw12980153465317979879 tw17228592356351750951 tw16269797652189608743 tw12535144637913710407 tw4264866137799447495 tw1563132494043003879:True)
 (tw11705258514608798695 tw18230108149820490792 tw3963432536364875848 tw9550271280205663304 tw8332404075131333768 tw227367952165068968 tw7923020647579177160 tw13352273955479531752 tw5073920416972357864 tw8866274339317369064 tw11579837892546790664 tw13350429932921993480 tw16837262740831421704 tw13652758545429527816 tw4201754111290968360 tw7092636403668063560 tw16121915014057848136 tw17327033873515244936 tw10506718329552358824 tw9029807112076930536 tw432195566301648392 tw1414613895716816392 tw11351348948178837032 tw432687299789976104 tw2454791688731956808 tw460187778027035208 tw3657885498974514760 tw6065400343793793608 tw4534210667494456040 tw9174340208538388232 tw11256482635600206600 tw18028438007228211976 tw11220253161686763304 tw12508440893432113960 tw10295431455191717672 tw16062137549040345896 tw17443060028396809032 tw15841438810764710760 tw12703124700750538664 tw17172910335089468360:True)
 (tw14476084552403880936 tw16711064418936751113 tw1602536012223942665 tw11130866616452002825 tw9179408264330815625 tw5688090690453751945 tw13389233921735054505 tw3832793205033457833 tw10459326821831205033 tw2245198748283954409 tw2042692790291720425 tw10635870466341856617 tw16392619071170966889 tw3185710311426930057 tw9399442726341972393 tw10466684407828991401 tw7691869240706977193 tw2392846156106601929 tw18329452030636398057 tw14159677221930654185 tw9081508599358381545 tw16513415807429807625 tw11569094970071054889 tw14713140799653759593 tw185569632319775433 tw5915901933360254697 tw5964269680197304073 tw12882599600952997673 tw9617319126835636041 tw8935187059253528425 tw14366994558983038825 tw3100149365803260841 tw3562049860067892169 tw14738195153574149065 tw14983643725427559369 tw8599251096047762409 tw11054942301354429450 tw5411716115024777226 tw4940011667066434570 tw14254990896043442186:True)
 (tw4458391030352697354 tw13876218456296754250 tw18293692712425163850 tw17250990526382268490 tw14688166846043916394 tw14824151440023458922 tw4451975018852563050 tw4965317799799651434 tw457791376463618186 tw1842406939897221322 tw8852461328405513450 tw16611618074295074058 tw14633251330213439786 tw4465491219129894250 tw17397411173235466602 tw15165420086406172010 tw10727062867733895562 tw15231908614309065130 tw9445076763576317386 tw12381189983152115178 tw13025747963248077290 tw12912698105044414986 tw6108608247207380490 tw9994630680136551018 tw3576538167446583946 tw13805197663960262410 tw8904263656305781514 tw13155321507364010762 tw7128464036411398954 tw1789828110775011178 tw5859755410215304074 tw13230286272720247722 tw2851102055248313258 tw4842042967405206474 tw1706835394730456010 tw5440402745042596971 tw11565142060948464843 tw849605865101581611 tw8301601429839768939 tw2209797053734712683:True)
 (tw12232032901213106571 tw5634415864242911723 tw13031203311927982603 tw12413907320396153419 tw13460544296972136011 tw4781021603624928843 tw10718808108491728459 tw2818553681292655211 tw10046907273388598923 tw9189498144673792683 tw5439752187840786123 tw7173406695007903467 tw13398728800849242955 tw17073436397009811275 tw3828747003012149067 tw11048142274112944971 tw10473465375648822155 tw2611378937445549003 tw13931509872543250379 tw15196755618175992779 tw17651686679333188587 tw6727895585285768204 tw13693584607794963468 tw8549879985872925708 tw14213807373662090380 tw3896402891758596268 tw14299839522572482796 tw10267178665300295916 tw10623820151380301068 tw14825353171073829164 tw7815877718471319852 tw17871956475764545996 tw5838501748751318540 tw15645143070839070220 tw10707285995012923948 tw12830543525327320652 tw15206444412073399916 tw6103547562151452300 tw3711683159995826892 tw430473059581850316:True)
 (tw16377214199207442156 tw10362251060383316748 tw6333810066987223820 tw17525512452117615532 tw6354441805891197965 tw3443052470038765645 tw1020290451869662285 tw694505580216410253 tw17003398452719452333 tw14739034788036127917 tw6389392415389157581 tw13093213167374163181 tw15159548316771144973 tw2409740245515341101 tw13656607078713009453 tw14830236475386279277 tw3201377418799719821 tw9837807480025394605 tw2336810544799000013 tw16554010786632095213 tw18347091908873710061 tw768872268356386285 tw11747600535460378125 tw13162156848658264621 tw7171370111605915245 tw18326888753703557773 tw11732936488383365805 tw6169037859103426381 tw9167621851035622221 tw11428621086858599245 tw2025695907768592205 tw17240620001697855309 tw1354271703811265421 tw13367452688838273933 tw12846961008395530157 tw15579089519066440653 tw1175647262425084909 tw1457074675336872974 tw8293967269903817742 tw7961466089362117678:True)
 (tw12434816892634303566 tw17953611245052868718 tw12617245899706538126 tw15139585861458523342 tw4751233274110778638 tw3609896401711118606 tw11521225369042717998 tw5995817693432555822 tw17358419067924691278 tw5184610128087689582 tw5855925523513031022 tw3530119983403321742 tw411996202971557262 tw2881026365756171694 tw14614432452545010126 tw16466752982071437806 tw4197877741716462094 tw13362634560342788718 tw6501807099011272302 tw3082298558638460526 tw10527159448705937006 tw12144726270161368686 tw9809429347274678894 tw6007127102698389134 tw4655429325582990030 tw8517266708807930638 tw14619167617117213486 tw259950805618707278 tw13689994968288137070 tw6100212921989072782 tw15014211715686248366 tw120061707504338862 tw3786758299796540366 tw4401100016212208590 tw13524060627498930158 tw1029377926591612975 tw8384994727267485743 tw7503470710495291471 tw2232944254509860943 tw17338699763044572239:True)
 (tw12866918345613859919 tw5968155682214355151 tw4505432836962624719 tw2139314603086270671 tw13639026698980879567 tw11322699621698235599 tw12133741580250465519 tw17094610271832764655 tw13756936372743856399 tw9803956986553258287 tw3985911966953007407 tw575656229888975183 tw6255481334772526447 tw760104480580797871 tw7858268971805470127 tw2131252480326674895 tw2869739641477585359 tw6267056503005996495 tw4996397696217677263 tw8599121708682975759 tw5935270787536690703 tw15582288407161950735 tw5670478638916953615 tw496757615127296527 tw13835679570397731375 tw12155985477756694063 tw18416108077546562095 tw10846239448435745327 tw13061809834879176271 tw11552927768512849487 tw10265992835692115567 tw15885641380585424495 tw3235028192864042607 tw7274295372018732687 tw849057686540425903 tw2663263087451417263 tw3427345407695144655 tw9796002237826062031 tw3652396683925726959 tw14146850650796146415:True)
 (tw11841601866674272047 tw5544528193216842575 tw338160189517649743 tw9040512329744722799 tw1198492530601872239 tw12887601616984986511 tw16830477077596300175 tw3051973673464847279 tw667004119720923087 tw6716730043241315279 tw8770523930233903087 tw7045627214883169328 tw13998496753915814960 tw395707571153627184 tw8683010969950675024 tw9842643629440224464 tw4053456181587788016 tw151036153212591344 tw8285541603889311984 tw11108220209569909040 tw17656320314071548240 tw1027031764137077072 tw12918336805436124496 tw13774719872779382288 tw10488709741682757168 tw16491865348284068400 tw10934403635184163376 tw17426314974711510640 tw3843289538212453072 tw16811156917312744144 tw1804829131288026864 tw14522027608257960784 tw17567392435304496976 tw17703022223980611504 tw10799815308386880432 tw10781226065549097904 tw7569114809093107664 tw2174719530850232304 tw14129661910210786288 tw11428603288602783761:True)
 (tw11679946716236728337 tw9115187524580006929 tw15691509901324778545 tw2287527692199512177 tw13404035848279712913 tw1508977736381491345 tw1092455441499074737 tw14555023747530018993 tw1197557883717074129 tw12140941434336593105 tw14282555204769701137 tw15090358230871223601 tw17769706392399602993 tw11373071358748203345 tw13195667423764212049 tw9673713822002391409 tw1489589257069057393 tw1784350226480946577 tw11874042003995337169 tw16504506101785830897 tw3161104709751024145 tw14585895824034266641 tw351071975179458097 tw11055637986937584241 tw14441905031096270481 tw12141203405362808497 tw10621635403870579409 tw2872443039869686481 tw2090364031118291697 tw4681527212309248753 tw4230183996085399313 tw6562119297006849873 tw4523969238666050385 tw14234563827039837041 tw654391664346688369 tw599661729420908433 tw4072014532193603473 tw12059263435612034066 tw13384582037097498642 tw1342956589650187474:True)
 (tw1065838623994063090 tw15635110716354548978 tw13952741298537661714 tw2046952988650514706 tw11301358608489241874 tw30301036217577810 tw18062634581942613394 tw377874047684651474 tw2253975313315146226 tw8172932024033705490 tw16085342960270195250 tw14173627954072812114 tw17203109633840011954 tw10933711674618017458 tw3838762750594430674 tw8960180114311084754 tw5781097817674402546 tw16360109609076412178 tw2468945736068485906 tw11322162735313371954 tw14071546715299442482 tw666012850229525330 tw8713189271659447154 tw6973255395135597490 tw4299454372146000818 tw2852904322485417906 tw6291658304706083762 tw877310419763209170 tw13213042838705514482 tw2858798181296526355 tw10181216887296191603 tw469918421217442931 tw9307741633610222803 tw4932932806148168947 tw14706097873280931155 tw578210858976172371 tw8213204870901146995 tw14904333017627138515 tw2254808810451902931 tw15479614248462790227:True)
 (tw8616682110124219059 tw9584102125657936659 tw14206772981225281299 tw11219089633761738547 tw5987563880253864787 tw9175007314895465427 tw13102552697064090579 tw2576402195277049811 tw11673854911936607219 tw3078187599517071412 tw10880270965419459636 tw15618475238273208372 tw5089114487693700180 tw6248444715328377972 tw6002778958705994900 tw3183396225160978612 tw7835918566630952148 tw1196209530776074484 tw5073580167115980084 tw2467436477826195796 tw15894555066658129300 tw1189854687561279892 tw10655101501459587540 tw7767363158490017236 tw8787671789106623988 tw7467025049371166228 tw11610977067319709236 tw18044810700418056788 tw11049200532357804628 tw18326865678094526100 tw194983557980064436 tw12501949106112214740 tw11923932689461888724 tw2528319641594562292 tw18255971374903760628 tw1074412830006616820 tw14278367340598381300 tw12317612079525720852 tw2697982948066259764 tw9322177654389354356:True)
 (tw2980068448233205684 tw9673896459404475348 tw17696061169722564596 tw6181645542898643956 tw17965456261473383412 tw3444050158525864948 tw11893894590873072661 tw5549244125803516981 tw10514203112227143765 tw15345275454150134901 tw7494561708975989941 tw16394322804845587765 tw5480289924206855509 tw3581913441581977973 tw3141566607312082293 tw15617197851994206613 tw6775346285597639061 tw18329571608229404085 tw15086050480897291797 tw13964315777526192693 tw7184824519375097429 tw2472501681721845333 tw12707164229669802613 tw6221356315543203509 tw2313891934933112565 tw10725988583934335797 tw1174297009177749301 tw5334790816266710837 tw15733262919229633365 tw18255260315639881621 tw14471528201074083926 tw4058895793307322486 tw645573007553688694 tw4730549435335567574 tw15102831890897833270 tw9496684779167518038 tw3367741097615790454 tw3883332712293931382 tw5837102957950090614 tw11235823716623995286:True)
 (tw2928612700701759926 tw12550395582304545206 tw17585364945554011574 tw4875328146515413462 tw6395110605850714614 tw11303491938792942102 tw7232845943159611958 tw10754006513847268918 tw12559663851587238486 tw5503296590553349718 tw15981333653559851638 tw13171334197798045398 tw17192416409980704470 tw3804370211531834070 tw16356478457025252086 tw3026675521966422806 tw10423113499965488950 tw7358633064430188374 tw18189551415963357046 tw6016078685802579830 tw15026682066992896918 tw1865889036804195254 tw14633713144916576182 tw11479421732361593782 tw15891914707750114262 tw17655710372608165911 tw16214197606979547223 tw6485681472583601271 tw720274540272689271 tw14761487840971367575 tw2548904614777467031 tw10526786637963502775 tw1194919914473223351 tw10160759140762590423 tw5492215659484098775 tw6600747486700906743 tw4386337234942944503 tw17168247271328229655 tw8629972569276067095 tw4807229329829543191:True)
 (tw847485414608084279 tw10436361542777431351 tw7093805922547609943 tw9874807745385496951 tw11259356637413919159 tw469444559117396439 tw1974956303318456823 tw17246348420189116919 tw2071599111225976343 tw11937196486987166231 tw7975427199472713271 tw2106742394907725431 tw15507126534952202903 tw6082224992288742071 tw10748557956310988535 tw9469938710708730679 tw14863566574537161623 tw4249752982898171831 tw2504308374129150967 tw3696726863748419575 tw577172362230328344 tw15094108206302072856 tw4590858743269009528 tw17468718652848614520 tw2408314057928273016 tw14677084131433445496 tw7808597757063107736 tw2339790992688323736 tw5517613343711838360 tw9345983493605779608 tw18440168661814134968 tw5749233257150864568 tw10794154991687535832 tw15375825560077409624 tw7027340695799740824 tw6921255047942696376 tw9450062580205730296 tw5523472159709414904 tw4549750720692778488 tw16143616298647237144:True)
 (tw3531240798146514456 tw5720867003910485592 tw13976297436046626424 tw4517446553826430616 tw6472827075182005944 tw9053389740562136760 tw1646994163064755896 tw6927954124955533016 tw16747844108924185304 tw13876126605054970616 tw14498759412304421656 tw3564186402326005528 tw5854984748632920856 tw5963726294886171512 tw6407845473374051192 tw7303015136167535576 tw16930051505639722041 tw10328163753079578681 tw5335526588420956217 tw8171494105200215097 tw7424626147100656729 tw11348764358957550681 tw12526529021267371129 tw2031852290750476409 tw1095330115553588345 tw18214116719772850329 tw4469662773293890777 tw1281820336486101241 tw2787293466845889785 tw14401428829775973625 tw8976173780573333817 tw14573973607906389305 tw3868317166956336473 tw13767993407332532633 tw12828518278383959449 tw3672151127847943609 tw16952461208556277273 tw7415787120729733753 tw12190584616299512441 tw2124382752892576377:True)
 (tw10066370055292774009 tw16179319398290352761 tw15400432985753125529 tw15313738003890530969 tw14891679282303571673 tw13195118708148162265 tw2575720521770010393 tw15655936864338656025 tw7583898240408259417 tw13100424031209558873 tw9736147662793243481 tw16510910017731668857 tw7460599871346846585 tw907946286511891353 tw7870400730728115129 tw2856033511150910393 tw3180698275349875738 tw7276492467973363770 tw6353326064985184378 tw1747526697579650170 tw18096164579527018650 tw16294998925303320794 tw5024929705023771866 tw13762415852428668122 tw7825379347663423770 tw18127466196279297338 tw14079233326567728442 tw17925907043283319098 tw13616924636952462682 tw8569402767534298458 tw7540704055468650842 tw17782989637692839290 tw14453699062135289210 tw3618057012752277946 tw5511177112966957530 tw8428405590638081498 tw1980615811605248506 tw5239150833226677754 tw15079758266756223514 tw16830585021240611482:True)
 (tw6581177819868043930 tw13345589919781826202 tw5937432801822061210 tw5336909484724601530 tw9864630441949447866 tw14140519368303891130 tw16417565088472421050 tw11875883163756691194 tw2803292572607923994 tw5131984355389955866 tw5634099565998211898 tw2761280518995182394 tw14417521540566357818 tw13661831671526741850 tw17314184578849336154 tw17305036346374809466 tw15261843515072209786 tw13929388161191321530 tw12587661247071890362 tw15563677880482501594 tw7346506952009011227 tw7271767971776976955 tw17864748409526298747 tw3038035515014065275 tw4392776555976672379 tw16830297801040114843 tw15457187911471874203 tw15669818926225568955 tw6240501350038658235 tw11111642477330754747 tw9139975146176895227 tw4185916439927227707 tw14872458117533750587 tw3161517848497219899 tw16167458062903159131 tw9186532680246742363 tw14545361076554306939 tw14534544593488352667 tw15753579167448253915 tw12629934841726013947:True)
 (tw912618591574348283 tw5334860997362086395 tw4176512854712415739 tw14540619013168462331 tw1059353165629937179 tw3730378482346220059 tw3821803137707810363 tw13765632660976625211 tw17206958868194500187 tw10747662016341465691 tw17667468199113087579 tw15083306799583949499 tw15197043347426478811 tw8439258107965040347 tw9880208631992418043 tw10383181062137818907 tw13589395258584693659 tw13366627865449485372 tw10203325925539888220 tw11977313163105880156 tw5256650895678854300 tw7652984498245192892 tw16947356238777863356 tw5580668703771578556 tw7453060046065416476 tw2607897302774075740 tw9579242891788546396 tw7304346306210696572 tw9100446111198987644 tw264090786998189436 tw11603153061282217372 tw10975282897904058844 tw10350472407487058428 tw16732492632276726300 tw3342964427553301052 tw16538512998823715420 tw11853632800815376988 tw46086824499984028 tw12812724562495535804 tw13189835560107154140:True)
 (tw10756622701679068988 tw3819105709315493788 tw9487945759937045404 tw14864842478334013340 tw5537080428890981308 tw3502566430300482492 tw14703396210500644796 tw9939770464995399612 tw13858685175126630364 tw3556842694483713053 tw16208515818231111709 tw8697521251293829181 tw17317302977079294013 tw80342583195871325 tw15818496300029271133 tw7212630645348245693 tw3479193422666485949 tw2911697020295760093 tw12884376423723422941 tw3069230828365936861 tw11142734894138776893 tw3693616553631417693 tw4326237972925079901 tw17315777743994411389 tw12979591721922897309 tw9851761489463634365 tw2897636565824646653 tw12114236866200645181 tw12794472165884223069 tw5316611583154985597 tw11310315739534131869 tw15133760472657011389 tw5076326364141400797 tw13012361643286969053 tw11739744965826494205 tw4254364292295464733 tw11787620859755326237 tw15959151967561399101 tw2490985581363695453 tw10465165211901003645:True)
 (tw17166738327763159965 tw14698215961777866685 tw11561872579276435389 tw15963848879160359869 tw12571254129544166333 tw9735208962815447037 tw9354311996076369950 tw5582735672833354814 tw5261514769068225598 tw9114774985431088190 tw5773163549717242974 tw9023275815764287614 tw7798836140826425502 tw17171313491042731198 tw2435541150142677246 tw13944675399748581630 tw3816788341777698078 tw8202016145932708126 tw1227405478102908222 tw594477729889472830 tw2059661492959976830 tw15202587265826837886 tw2982604571596742014 tw5359127654249037182 tw6311277115627121054 tw12647596197385134526 tw18323569557818895806 tw6993097103555919358 tw6969924284028246558 tw2807177536444795486 tw11254153350046455390 tw10589244782879056510 tw8689707183390677630 tw4134715655405735614 tw11407668686524697310 tw134426928124162782 tw12900250118988990238 tw6192859882148216606 tw13596248393445016382 tw13296779031450241854:True)
 (tw437133732804881214 tw733191792739118942 tw1184747031888001886 tw9777497637327377278 tw18221411242439694238 tw16304373428398820350 tw15892129048402402302 tw8667239778066223199 tw10088884590991046783 tw9738925819400176831 tw16360613630708963519 tw17867337573608334591 tw15050600132110895391 tw17234489776085822751 tw4291849820896357663 tw14513697464800724351 tw7593424086121631103 tw8082590064340476351 tw302960071145697727 tw13535273689012012543 tw5661483589809317407 tw4536911679183677983 tw2379976159856657983 tw11463671065910270527 tw18417411498097100415 tw1143802822397347487 tw17521280586631956127 tw3353947143984163519 tw18318443431660567231 tw940337422096154335 tw15225716155926150879 tw2786139099388985087 tw16778792520647440159 tw10703283567573891871 tw7919775238514360159 tw8765737530659301215 tw2048792312364101471 tw5295375439870426975 tw9648321680630492031 tw2685657918096453567:True)
 (tw14313805414838878143 tw16559172215425179505:True)
open PySem PySem.W PyProof.Rows
end
set_option maxRecDepth 100000 in
set_option maxHeartbeats 0 in
theorem PySem.Challenge.cw_mendfield_k47_code_crossed_holds : PySem.Challenge.rw_mendfield_k47_code_crossed.Holds := by
 w_on;o_law;k_head;(case hw=>w_witness2)
 k_fill
 refine HK47.walk (l:=PySem.Challenge.rw_mendfield_k47_code_crossed) rfl rfl (λw h Y=>⟨PySem.W.km_in_of Y,PySem.W.km_tabs_of Y⟩) ?C ?F
 case C =>
  intro w h hX
  repeat' (first | exact List.forall_mem_nil _ | refine List.forall_mem_cons.mpr ⟨?_,?_⟩)
  all_goals first | (refine' HK47.aE9 hX ?a ?b ?l ?lk ?lp ?n ?e;(case a=>k_is);(case b=>k_is);(case l=>k_is);(case lk=>k_is);(case lp=>first | rfl | with_unfolding_all rfl);(case n=>kernel_rfl);(case e=>kernel_rfl)) | (refine' HK47.aJ2 hX ?a ?b ?l ?lk ?lp ?n ?e;(case a=>k_is);(case b=>k_is);(case l=>k_is);(case lk=>k_is);(case lp=>first | rfl | with_unfolding_all rfl);(case n=>kernel_rfl);(case e=>kernel_rfl))
 case F =>
  intro w mg fa h KX G yg
  apply HK47.all_mk KX G yg
  iterate 276 (k_is)
  iterate 72 (apply L2.BX<;>k_is)
  iterate 8 (k_is)
  (first | rfl | with_unfolding_all rfl)
  (kernel_rfl)
  iterate 4 (k_is)
  (first | rfl | with_unfolding_all rfl)
  (kernel_rfl)
  iterate 3 (k_is)
  iterate 12 (first | k_is | rfl | decide)
  (k_exc)
  iterate 2 (first | k_is | rfl | decide)
  (k_exc)
  (first | k_is | rfl | decide)
  (k_exc)
  iterate 2 (first | k_is | rfl | decide)
  (decide)
