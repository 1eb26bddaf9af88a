import PyProof.Rows.All
import Wide.All
import OpenK.AllK
import Wide.FinOn
import Lean
import PyProof.EqAt
import PyProof.EqKinds
import PyProof.TupleCall
import PyProof.NeKinds
import PyProof.Rows.Range3
import PyProof.FitsBits
import PyProof.StationsW
import PyProof.NsDelKeeps
import PyProof.Rows.CatchOwn
import KE.KTryMore
import PyProof.ExcArgsOwn
import PyProof.ExcAttrAll.ValueError
import OpenK.KOwn
import PyProof.ZipIter
import PyProof.WalksEnum
import PyProof.EnumMake
import KE.KIntText
import PyProof.Conv_int
import PyProof.StrWalks
import PyProof.StrLawsFirst
import KE.KLam
import KE.KNestM
import KE.KRevIter
import PyProof.ListRange
import PyProof.Rows.SortWalk
import PyProof.Rows.SetFrom
import PyProof.FactsAll.set
import PyProof.Rows.SeqMore
import PyProof.FString
import PySem.Challenge.RW_mendfield_k48_whole_counts_meet
open Array renaming append_assoc→wb,length_toList→wc,toList_append→X8
open Bool renaming and_eq_true→eZ,true_and→iy,and_true→iA,or_true→iW,false_ne_true→jk,false_and→kZ,or_false→k7,not_true→lC,false_or→lD,true_or→nX,false_eq_true→nZ,not_false→pW,eq_iff_iff→tL,and_false→EN,or_eq_true→Nd
open Classical renaming byContradiction→EV
open Decidable renaming byContradiction→Yg
open False renaming elim→gG
open ForInStep renaming yield→EX
open Int renaming toNat_natCast→ft,emod_nonneg→iV,emod_lt_of_pos→jr,natAbs_natCast→jZ,toNat→qN,natCast_mul→rT,zero_add→tO,mul_one→uK,natCast_add→uT,mul_comm→uW,mul_assoc→uX,toNat_of_nonneg→wC,mul_add→wF,mul_zero→wH,natCast_pow→wI,natCast_emod→yv,mul_left_comm→yz,pow_succ→yA,emod_eq_of_lt→Fe,add_mul→Fp,natCast_nonneg→M0,natAbs_mul→NH,one_pow→NJ,add_zero→NL,natAbs_pow→NO,fdiv_eq_ediv_of_nonneg→XW,eq_of_mul_eq_mul_left→Yr
open List renaming range→aw,getD_eq_getElem?_getD→aF,getElem?_eq_getElem→aJ,length_map→aR,mem_map→aT,replicate→aW,mem_range→bw,length_range→bC,getElem?_map→bN,map_map→bO,map_cons→bR,mem_append→bV,all_eq_true→bZ,all_cons→cH,mem_cons→cN,size_toArray→cO,length_append→df,mem_singleton→dh,mem_append_right→dv,map_append→dw,set_cons_zero→dY,set_cons_succ→dZ,length_cons→eK,append_assoc→eM,getElem_mem→eN,zipWith→eO,mem_cons_of_mem→fH,mem_append_left→fI,append_nil→fJ,map_nil→gv,lookup_cons→gw,getElem?_eq_none→gx,length_replicate→gH,getElem?_range→gI,mem_cons_self→ir,length_take→jm,getElem_of_mem→jn,not_mem_nil→jo,map_congr_left→jq,length_drop→jT,nil_append→jU,getElem?_cons_zero→jX,getElem?_cons_succ→jY,getElem?_eq_some_iff→kY,all_nil→lh,cons_append→lj,nodup_cons→nS,length_nil→nV,range_succ→pS,cons.injEq→pV,lookup→qL,length_zipWith→qO,filterMap_cons→rN,cons.inj→rP,take_add_one→rQ,mem_of_mem_drop→rS,mem_filter→tG,getElem?_set_ne→tH,perm_append_comm→tM,all_map→tN,getElem_map→tP,sum_cons→tQ,mem_of_getElem?→uM,length_set→uN,replicate_succ→uO,foldl_cons→uP,take_length→uS,contains_iff_mem→uU,getElem?_append_right→wk,getElem?_append_left→wm,flatten_cons→wo,append_eq_nil_iff→wt,mem_replicate→wu,mem_of_mem_take→wA,map→wB,getElem?_replicate→yn,ext_getElem→yw,nodup_range→yx,getElem_inj→Bl,of_mem_zip→Bp,length→Bq,getElem?_zipWith→BC,getElem_range→BE,pairwise_append→BG,pairwise_map→BH,countP_cons→BI,map_replicate→BJ,getElem?_set_self→EJ,length_singleton→EM,append_inj→E1,take_of_length_le→E2,mem_flatten→E3,range_succ_eq_map→E4,ext_getElem?→E5,sum_append→E6,map_zipWith→E8,getElem?_mapIdx→E9,mem_map_of_mem→Fd,foldl_append→Fg,pairwise_cons→Fj,pairwise_iff_getElem→Fl,take_append_drop→Fn,length_eq_zero_iff→Fo,Pairwise.imp_of_mem→Fq,countP_append→Fs,idxOf_lt_length_iff→Ft,getElem?_eq_none_iff→MY,mem_filterMap→MZ,Pairwise.nil→M5,any_eq_true→M9,nodup_append→Na,Sublist.refl→Nb,set_set→Nc,mem_of_find?_eq_some→Nh,map_drop→Ni,map_take→Nj,getElem?_drop→Nk,drop_eq_nil_of_le→Nl,mem_or_eq_of_mem_set→Nm,map_set→Nq,length_zip→Nr,sublist_cons_self→Nt,findIdx_lt_length_of_exists→Nu,find?_eq_none→Nv,Pairwise.filter→Nx,countP_eq_length_filter→Ny,pairwise_singleton→Nz,pairwise_lt_range→NA,countP_map→NC,count_cons→ND,countP_nil→NG,countP_congr→NK,count_le_length→NM,getElem?_take_of_lt→XY,set_eq_of_length_le→X4,eq_nil_iff_forall_not_mem→X5,filter_eq_self→X6,getElem?_take→X7,zip_cons_cons→X9,findIdx_getElem→Ya,findIdx?_eq_some_iff_getElem→Yb,findIdx?_eq_none_iff→Yc,perm_ext_iff_of_nodup→Yd,find?_eq_some_iff_append→Ye,length_filter_le→Yf,eq_replicate_iff→Yh,count_replicate_self→Yi,countP_cons_of_pos→Yj,countP_cons_of_neg→Yk,getElem_idxOf→Yn,mem_iff_getElem→Yo,countP_eq_zero→Yp,countP_eq_length→Yq,flatMap_append→Ys
open Nat renaming le_refl→bG,le_trans→cQ,lt_of_lt_of_le→dd,ne_of_lt→gb,lt_irrefl→iq,lt_of_le_of_lt→iU,zero_le→jl,mul_comm→jV,pow_le_pow_right→jW,pow_succ→nU,shiftLeft_eq→pQ,one_mul→qM,testBit_xor→rO,le_of_eq→tJ,mul_assoc→tK,xor_zero→uQ,zero_xor→uR,sub_self→uV,xor_assoc→wq,min_self→wz,add_mul→wD,add_comm→yo,two_pow_pos→yp,pow_add→yq,not_lt→yr,mul_mod→yt,mod_lt→yu,succ_pos→yy,le_of_lt→Bk,lt_succ_self→Bo,eq_of_testBit_eq→Bt,testBit_zero→Bu,pow_zero→Bv,xor_self→Bw,mod_eq_of_lt→BB,le_of_succ_le→BD,succ.inj→BF,log2_lt→EO,testBit_lt_two_pow→ER,testBit_succ→ES,strongRecOn→ET,add_zero→EU,lt_succ_of_lt→E7,mod_add_mod→Fc,zero_add→Ff,one_shiftLeft→Fu,le_of_not_lt→M4,xor_comm→M6,testBit_and→M7,div_add_mod→M8,add_assoc→Ng,mod_mod→Nn,zero_mul→Np,lt_or_ge→Nw,add_sub_cancel→NB,mul_one→NF,mul_le_mul→NI,pow_le_pow_left→NN,testBit_eq_decide_div_mod_eq→XZ,shiftLeft_xor_distrib→X0,mul_lt_mul_right→X1,testBit_shiftLeft→X2,shiftRight_eq_div_pow→X3,mul_le_mul_left→Yl,mul_le_mul_right→Ym
open Ne renaming symm→iu
open Option renaming some.inj→de,getD_some→iz,getD_none→k9,some.injEq→nY,map_some→pT,map_none→pU,map_eq_some_iff→BA,toList_some→Nf,isSome_iff_exists→XX
open Or renaming inl→au,inr→bB
open PyProof renaming Rows.callWith_type1→we
open PySem renaming Heap.lt_size→cg,PassesOwn.never→dy,Heap.get?_push_of_some→gh,Value.ref→gZ,Heap.get?_push_size→iw,Value.int→rM,Builtin.bitXor→tI,Builtin.bitAnd→uL,Heap.size_push→wj,Str.empty→Bn,Obj.mapSeq→Br,Value.none→EH,Value.bool→EI,SeqAt.EqAt→EK,Builtin.List.listTooLong→EL,Builtin.Int.intBits→EW,Value.type.inj→EY,Builtin.Str.strSliceIndices→EZ,NameKind.cell→Fh,Calls.spliced_nil→M1,Calls.spliced_cons→M3,Calls.Name_function_global→XU
open Sum renaming inl→v9,inr→wa
open True renaming intro→wg
set_option Elab.async false
set_option linter.all false
set_option maxRecDepth 100000
local macro_rules | `(tactic| omega)=>`(tactic| lia)
noncomputable section
namespace L2
open PySem PySem.Spec PyProof.Rows
abbrev Key:=Sum Int Str
def NP:Key->Value->Bool
 | .inl k,v=>Value.isInt k v
 | .inr x,v=>Value.isStrOf x v
def Yt(w:World):Key->Int
 | .inl k=>hashInt k
 | .inr x=>hashStr w x
theorem rV:∀{k:Key} {v:Value},NP k v=true->(∃i t,k=v9 i/\v=rM i t)\/(∃x t,k=wa x/\v=Value.str x t)
 | .inl i,v,h=>by
  obtain⟨t,e⟩:=Value.isInt_shape (k:=i) (v:=v) h
  exact .inl ⟨i,t,rfl,e⟩
 | .inr x,v,h=>by
  obtain⟨t,e⟩:=Value.isStrOf_shape (x:=x) (v:=v) h
  exact .inr ⟨x,t,rfl,e⟩
theorem Yu(a b:Int):decide ((v9 a:Key)=v9 b)=(a==b):=by
 by_cases e:a=b
 ·subst e;simp
 ·have h:¬ (v9 a:Key)=v9 b:=λq=>e (Sum.inl.inj q)
  rw[decide_eq_false h]
  exact(beq_eq_false_iff_ne.mpr e).symm
theorem Yv(a b:Str):decide ((wa a:Key)=wa b)=decide (a=b):=by
 by_cases e:a=b
 ·subst e;simp
 ·have h:¬ (wa a:Key)=wa b:=λq=>e (Sum.inr.inj q)
  rw[decide_eq_false h,decide_eq_false e]
theorem Yw(a:Int)(b:Str):decide ((v9 a:Key)=wa b)=false:=decide_eq_false (λq=>nomatch q)
theorem Yx(a:Str)(b:Int):decide ((wa a:Key)=v9 b)=false:=decide_eq_false (λq=>nomatch q)
def NQ(prog:Program)(w:World):PySem.KeyKind prog w Key where
 is:=NP
 hash:=Yt w
 inj:=λv a b ha hb=>by
  rcases rV ha with⟨i,t,rfl,rfl⟩ | ⟨x,t,rfl,rfl⟩
  ·rcases rV hb with⟨j,u,rfl,e⟩ | ⟨y,u,rfl,e⟩
   ·injection e with e1 _;rw[e1]
   ·exact nomatch e
  ·rcases rV hb with⟨j,u,rfl,e⟩ | ⟨y,u,rfl,e⟩
   ·exact nomatch e
   ·injection e with e1 _;rw[e1]
 byValue:=λk v h=>by
  rcases rV h with⟨i,t,rfl,rfl⟩ | ⟨x,t,rfl,rfl⟩<;>rfl
 pyHash:=λhv h=>by
  rcases rV hv with⟨i,t,rfl,rfl⟩ | ⟨x,t,rfl,rfl⟩
  ·exact wpAny_pyHash_int h
  ·exact wpAny_pyHash_str h
 eqBool:=λhu hv h=>by
  rcases rV hu with⟨i,t,rfl,rfl⟩ | ⟨x,t,rfl,rfl⟩
  ·rcases rV hv with⟨j,u,rfl,rfl⟩ | ⟨y,u,rfl,rfl⟩
   ·rw[Yu]at h;exact wpAny_eqBool_int h
   ·rw[Yw]at h;exact SeqAt.EqAt.int_str i t y u _ _ _ _ h
  ·rcases rV hv with⟨j,u,rfl,rfl⟩ | ⟨y,u,rfl,rfl⟩
   ·rw[Yx]at h;exact SeqAt.EqAt.str_int x t j u _ _ _ _ h
   ·rw[Yv]at h;exact wpAny_eqBool_str h
 «strs»:=λk x t v h=>by
  rcases rV h with⟨i,u,rfl,e⟩ | ⟨y,u,rfl,e⟩
  ·exact nomatch e
  ·injection e with e1 _
   subst e1
   cases v<;>rfl
inductive V where
 | aq | bl (b:Bool) | int (i:Int) | str (x:Str) | BK (b:Array UInt8) | uY (b:UInt64) | ref (a:Addr) | ty (n:String)
 deriving DecidableEq
def RelV:V->Value->Prop
 | .aq,u=>u=EH
 | .bl b,u=>u=EI b
 | .int i,u=>∃t,u=rM i t
 | .str x,u=>∃t,u=Value.str x t
 | .BK b,u=>∃t,u=Value.bytes b t
 | .uY b,u=>∃t,u=Value.float b t
 | .ref a,u=>u=gZ a
 | .ty n,u=>u=Value.type n
abbrev Vals:List V->List Value->Prop:=Paired RelV
theorem Vals.length{xs:List V}{us:List Value}(r:Vals xs us):xs.length=us.length:=Paired.length r
theorem Vals.get:∀{xs:List V} {us:List Value} {i:Nat} {x:V},Vals xs us->xs[i]?=some x->∃u,us[i]?=some u/\RelV x u
 | _,_,_,_,.nil,e=>by simp at e
 | _,_,0,_,.cons r _,e=>by simp at e;subst e;exact⟨_,rfl,r⟩
 | _,_,i+1,x,.cons _ t,e=>by
  obtain⟨u,h1,h2⟩:=Vals.get (i:=i) (x:=x) t (by simpa using e)
  exact⟨u,by simpa using h1,h2⟩
theorem Vals.set{x:V}{u:Value}(r:RelV x u):∀{xs:List V} {us:List Value} (i:Nat),Vals xs us->Vals (xs.set i x) (us.set i u)
 | _,_,_,.nil=>.nil
 | _,_,0,.cons _ t=>.cons r t
 | _,_,i+1,.cons q t=>.cons q (Vals.set r i t)
theorem Vals.append:∀{xs ys:List V} {us ws:List Value},Vals xs us->Vals ys ws->Vals (xs++ys) (us++ws)
 | _,_,_,_,.nil,s=>s
 | _,_,_,_,.cons r t,s=>.cons r (Vals.append t s)
theorem Vals.take:∀{xs:List V} {us:List Value} (n:Nat),Vals xs us->Vals (xs.take n) (us.take n)
 | _,_,0,_=>.nil
 | _,_,_+1,.nil=>.nil
 | _,_,n+1,.cons r t=>.cons r (Vals.take n t)
theorem Vals.drop:∀{xs:List V} {us:List Value} (n:Nat),Vals xs us->Vals (xs.drop n) (us.drop n)
 | _,_,0,r=>r
 | _,_,_+1,.nil=>.nil
 | _,_,n+1,.cons _ t=>Vals.drop n t
theorem Vals.none_of:∀{xs:List V} {us:List Value} {i:Nat},Vals xs us->xs[i]?=none->us[i]?=none:=λ{xs us i} r e=>by
 have h1:=r.length
 have h2:xs.length<=i:=MY.mp e
 exact MY.mpr (by omega)
def qP:Option V->Option Value->Prop
 | some v,some u=>RelV v u
 | none,none=>True
 | _,_=>False
def KV{κ:Type}:List (κ × V)->List (κ × Value)->Prop:=Paired λ(p:κ × V) (q:κ × Value)=>p.1=q.1/\RelV p.2 q.2
def kV:Key->V
 | .inl i=>.int i
 | .inr x=>.str x
inductive HO where
 | lst (xs:List V)
 | tup (xs:List V)
 | dK (eo:List (Key × V)) | dT (eo:List (List Key × V))
 | set (S:Int->Bool) (n:Nat)
 | ins (C dx:Addr) (fs:List (Str × V))
 | own (x:Addr)
 | xd (fs:List (Str × V))
 | met (f x:Addr)
 | BL (lo hi:Int)
 | bD (o:Obj) (u:HO)
 | dN (ps:Array Value)
 | ext (φ:Heap->Prop)
abbrev Hp:=Addr->Option HO
def upd(H:Hp)(a:Addr)(o:HO):Hp:=λb=>if b=a then some o else H b
theorem bS{H:Hp}{a:Addr}{o:HO}:upd H a o a=some o:=by unfold upd;rw[if_pos rfl]
theorem bc{H:Hp}{a b:Addr}{o:HO}(h:b≠a):upd H a o b=H b:=by unfold upd;rw[if_neg h]
theorem e7{H:Hp}{a b:Addr}{o:HO}(h:H a=some o)(h':H b=none):a≠b:=by
 intro e;subst e;rw[h]at h';cases h'
section
variable(P:Program)(w:World)
def fc(H:Hp)(h:Heap)(a:Addr):HO->Prop
 | .lst xs=>xs.length<=sizeLine/\∃(its:List Value) (n:Nat),Vals xs its/\h.get? a=some { cls:=.type "list",data:=.seq its.toArray n }
 | .tup xs=>xs.length<=sizeLine/\∃its:List Value,Vals xs its/\IsTup h a its.toArray
 | .dK eo=>eo.length<=sizeLine/\(a==sysModules)=false/\∃vs,KV eo vs/\h.DictOf (NQ P w) a vs
 | .dT eo=>eo.length<=sizeLine/\(a==sysModules)=false/\∃xs:List (List Key × Addr × Value),
   Paired (λ(p:List Key × V) (q:List Key × Addr × Value)=>p.1=q.1/\H q.2.1=some (.tup (p.1.map kV))/\RelV p.2 q.2.2) eo xs /\
   ∃o es ep,h.get? a=some o/\o.ExactDict/\o.data=.dict es ep/\es.toList=xs.map (entryOfKey (tupleKind (NQ P w)))/\(xs.map (·.1)).Nodup
 | .set S n=>h.SetOf (intKind P w) a S n
 | .ins C dx fs=>H dx=some (.own a)/\fs.length<=1000/\dx≠a/\h.get? a=some (PySem.W.instObj C dx) /\
   ∃mA,h.Ns1 dx mA/\(∀f,qP (fs.lookup f) (mA f))/\PySem.Within mA (fs.map (·.1))
 | .own _=>∃o,h.get? a=some o
 | .xd fs=>∃mA,h.Ns1 a mA/\∀f,qP (fs.lookup f) (mA f)
 | .BL lo hi=>∃t u v,h.get? a=some { cls:=.type "range",data:=.fields #[.int lo t,.int hi u,.int 1 v] }
 | .bD o u=>h.get? a=some o/\fc H h a u
 | .dN ps=>h.get? a=some { cls:=.none,data:=.fields ps }/\TriplesOk ps.toList/\∀pos cv,codeAmong pos ps.toList=some cv->∃c φ,cv=.ref c/\H c=some (.ext φ)/\∀h',φ h'->∃q,h'.CodeRec (.ref c) q
 | .met f x=>h.get? a=some (PySem.W.methodObj (.ref f) (.ref x))
 | .ext φ=>φ h/\(∃o,h.get? a=some o)/\∀h1 h2:Heap,φ h1->(∀b o,(b=a\/H b=some (.own a))->h1.get? b=some o->h2.get? b=some o)->φ h2
def dA(H:Hp)(h:Heap):Prop:=∀a o,H a=some o->fc P w H h a o
end
section
variable{P:Program}{w:World}{H H':Hp}{h h':Heap}{a:Addr}{o:HO}
theorem fc.lt(x:fc P w H h a o):a<h.objs.size:=by
 cases o with
 | lst xs=>obtain⟨_,_,_,_,e⟩:=x;exact cg e
 | tup xs=>obtain⟨_,_,_,p⟩:=x;exact p.lt
 | dK eo=>obtain⟨_,_,_,_,o,_,_,e,_⟩:=x;exact cg e
 | dT eo=>obtain⟨_,_,_,_,o,_,_,e,_⟩:=x;exact cg e
 | set S n=>obtain⟨o,_,_,_,e,_⟩:=x;exact cg e
 | ins C dx fs=>obtain⟨_,_,_,e,_⟩:=x;exact cg e
 | own y=>obtain⟨_,e⟩:=x;exact cg e
 | xd fs=>obtain⟨_,⟨_,_,_,e,_⟩,_⟩:=x;exact cg e
 | BL lo hi=>obtain⟨_,_,_,e⟩:=x;exact cg e
 | bD ob u=>obtain⟨e,_⟩:=x;exact cg e
 | dN ps=>exact cg (show h.get? a=some _ from x.1)
 | met f y=>exact cg (show h.get? a=some _ from x)
 | ext φ=>obtain⟨_,⟨_,e⟩,_⟩:=x;exact cg e
theorem Paired.Fv{α β:Type}{F G:α->β->Prop}:∀{l₁:List α} {l₂:List β},Paired F l₁ l₂->(∀a b,F a b->G a b)->Paired G l₁ l₂
 | _,_,.nil,_=>.nil
 | _,_,.cons r t,f=>.cons (f _ _ r) (Paired.Fv t f)
theorem fc.qQ(x:fc P w H h a o)(k:∀b u,(b=a\/H b=some (.own a))->h.get? b=some u->h'.get? b=some u)
  (ho:∀b,H b=some (.own a)->H' b=some (.own a)) (ht:∀b xs,H b=some (.tup xs)->H' b=some (.tup xs)) (hx:∀b φ,H b=some (.ext φ)->H' b=some (.ext φ)):fc P w H' h' a o:=by
 induction o with
 | lst xs=>obtain⟨z,its,n,r,e⟩:=x;exact⟨z,its,n,r,k _ _ (.inl rfl) e⟩
 | tup xs=>obtain⟨z,its,r,ob,e,c⟩:=x;exact⟨z,its,r,ob,k _ _ (.inl rfl) e,c⟩
 | dK eo=>obtain⟨z,y,vs,r,ob,es,ep,e,c⟩:=x;exact⟨z,y,vs,r,ob,es,ep,k _ _ (.inl rfl) e,c⟩
 | dT eo =>
  obtain⟨z,y,xs,r,ob,es,ep,e,c⟩:=x
  exact⟨z,y,xs,Paired.Fv r λp q z=>⟨z.1,ht _ _ z.2.1,z.2.2⟩,ob,es,ep,k _ _ (.inl rfl) e,c⟩
 | set S n=>obtain⟨ob,es,ep,t,e,c⟩:=x;exact⟨ob,es,ep,t,k _ _ (.inl rfl) e,c⟩
 | ins C dx fs =>
  obtain⟨d,z,ne,e,mA,⟨od,es,ep,e2,c⟩,r⟩:=x
  exact⟨ho _ d,z,ne,k _ _ (.inl rfl) e,mA,⟨od,es,ep,k _ _ (.inr d) e2,c⟩,r⟩
 | own y=>obtain⟨ob,e⟩:=x;exact⟨ob,k _ _ (.inl rfl) e⟩
 | xd fs=>obtain⟨mA,⟨od,es,ep,e,c⟩,r⟩:=x;exact⟨mA,⟨od,es,ep,k _ _ (.inl rfl) e,c⟩,r⟩
 | BL lo hi=>obtain⟨t,u,v,e⟩:=x;exact⟨t,u,v,k _ _ (.inl rfl) e⟩
 | bD ob u ih=>obtain⟨e,q⟩:=x;exact⟨k _ _ (.inl rfl) e,ih q⟩
 | dN ps =>
  obtain⟨e,t,c⟩:=x
  refine⟨k a _ (.inl rfl) e,t,λpos cv q=>?_⟩
  obtain⟨d,φ,e1,e2,e3⟩:=c pos cv q
  exact⟨d,φ,e1,hx _ _ e2,e3⟩
 | met f y =>
  have e:h.get? a=some (PySem.W.methodObj (.ref f) (.ref y)):=x
  show h'.get? a=some (PySem.W.methodObj (.ref f) (.ref y))
  exact k a _ (.inl rfl) e
 | ext φ=>obtain⟨p,⟨o,e⟩,st⟩:=x;exact⟨st _ _ p λb o hb q=>k _ _ hb q,⟨o,k _ _ (.inl rfl) e⟩,λh1 h2 p1 kk=>st h1 h2 p1 λb o hb q=>kk b o (hb.imp id (ho b)) q⟩
theorem dA.lt(x:dA P w H h)(e:H a=some o):a<h.objs.size:=(x a o e).lt
theorem dA.fresh(x:dA P w H h)(e:h.objs.size<=a):H a=none:=by
 cases q:H a with
 | none=>rfl
 | some u=>exact absurd (dd (x.lt q) e) (iq _)
theorem dA.kept(x:dA P w H h)(k:∀b u,h.get? b=some u->h'.get? b=some u):dA P w H h':=λa o e =>
 (x a o e).qQ (λb u _ q=>k b u q) (λ_ q=>q) (λ_ _ q=>q) λ_ _ q=>q
theorem dA.laid(x:dA P w H h)(k:∀b u,h.get? b=some u->h'.get? b=some u)(hp:h.objs.size<=a)(new:fc P w (upd H a o) h' a o):dA P w (upd H a o) h':=λb u e=>by
 have hn:=x.fresh hp
 by_cases hb:b=a
 ·subst hb;rw[bS]at e;cases e;exact new
 ·rw[bc hb]at e
  exact(x b u e).qQ (λc v _ q=>k c v q) (λc q=>by rw[bc (e7 q hn)];exact q) (λc xs q=>by rw[bc (e7 q hn)];exact q) λc xs q=>by rw[bc (e7 q hn)];exact q
end
def Rd(H:Hp)(a:Addr)(u:HO):Prop:=H a=some u\/∃o,H a=some (.bD o u)
theorem Rd.ok{P:Program}{w:World}{H:Hp}{h:Heap}{a:Addr}{u:HO}(r:Rd H a u)(x:dA P w H h):fc P w H h a u:=by
 rcases r with r | ⟨o,r⟩
 ·exact x a u r
 ·obtain⟨_,q⟩:=x a _ r
  exact q
def BM:Option HO->Prop
 | some (.lst _)=>True
 | some (.dK _)=>True
 | some (.dT _)=>True
 | some (.set _ _)=>True
 | some (.ins _ _ _)=>True
 | _=>False
section
variable{P:Program}{w:World}{H:Hp}{h h':Heap}{x e:Addr}{o':HO}
theorem dA.write(ok:dA P w H h)(mu:BM (H x))(he:e=x\/H e=some (.own x))(k:∀b u,b≠e->h.get? b=some u->h'.get? b=some u)(wJ:∃u,h'.get? e=some u)
  (new:fc P w (upd H x o') h' x o'):dA P w (upd H x o') h':=λb u q=>by
 have NR:∀c y,H c=some (.own y)->c≠x:=λc y r z=>by subst z;rw[r]at mu;exact mu
 have Yy:∀c xs,H c=some (.tup xs)->c≠x:=λc xs r z=>by subst z;rw[r]at mu;exact mu
 by_cases hb:b=x
 ·subst hb;rw[bS]at q;cases q;exact new
 ·rw[bc hb]at q
  by_cases uZ:b=e
  ·have q':H b=some (.own x):=by
    rcases he with z | z
    ·exact absurd (uZ.trans z) hb
    ·rw[uZ];exact z
   rw[q]at q';cases q'
   obtain⟨v,hv⟩:=wJ
   exact⟨v,by rw[uZ];exact hv⟩
  ·refine(ok b u q).qQ (λc v hc r=>k c v ?_ r) (λc r=>by rw[bc (NR c b r)];exact r) (λc xs r=>by rw[bc (Yy c xs r)];exact r) λc φ r=>by rw[bc (λz=>by rw[z]at r;rw[r]at mu;exact mu)];exact r
   rcases hc with rfl | hc
   ·exact uZ
   ·rintro rfl
    rcases he with z | z
    ·exact NR c b hc z
    ·rw[hc]at z;cases z;exact hb rfl
end
structure Un(fs ex:List Addr)(H H':Hp)(h h':Heap):Prop where
 keep:∀b o,h.get? b=some o->H b=none->b ∉ fs->b ∉ ex->h'.get? b=some o
 slot:∀b o,h.get? b=some o->H b=none->b∈fs->b ∉ ex->∃sl,h'.get? b=some { o with slots:=sl }
 free:∀b o,h.get? b=some o->H b=none->b ∉ ex->H' b=none
 there:∀b o,h.get? b=some o->b ∉ ex->∃o',h'.get? b=some o'
 pX:∀b xs,H b=some (.tup xs)->H' b=some (.tup xs)
 n6:∀b o u,H b=some (.bD o u)->H' b=some (.bD o u)
 j3:∀b ps,H b=some (.dN ps)->∃more,H' b=some (.dN (ps++more))
section
variable{fs fs' ex ex':List Addr}{H H1 H2:Hp}{h h1 h2 h':Heap}{a x e:Addr}{o:HO}
theorem Un.any(u:Un fs ex H H1 h h1){b:Addr}{ob:Obj}(q:h.get? b=some ob)(n:H b=none)(hx:b ∉ ex):∃sl,h1.get? b=some { ob with slots:=sl }:=by
 by_cases hb:b∈fs
 ·exact u.slot b ob q n hb hx
 ·exact⟨ob.slots,u.keep b ob q n hb hx⟩
theorem Un.kept(k:∀b u,h.get? b=some u->h'.get? b=some u):Un fs ex H H h h' :=
 ⟨λb ob q _ _ _=>k b ob q,λb ob q _ _ _=>⟨ob.slots,k b ob q⟩,λ_ _ _ n _=>n,λb ob q _=>⟨ob,k b ob q⟩,λ_ _ q=>q,λ_ _ _ q=>q,λ_ ps q=>⟨#[],by rw[q];simp⟩⟩
theorem Un.refl:Un fs ex H H h h:=Un.kept λ_ _ q=>q
theorem Un.laid(k:∀b u,h.get? b=some u->h'.get? b=some u)(hp:h.objs.size<=a)(hn:H a=none):Un fs ex H (upd H a o) h h' where
 keep:=λb u q _ _ _=>k b u q
 slot:=λb u q _ _ _=>⟨u.slots,k b u q⟩
 free:=λb u q n _=>by rw[bc (gb (dd (cg q) hp))];exact n
 there:=λb u q _=>⟨u,k b u q⟩
 pX:=λb xs q=>by rw[bc (e7 q hn)];exact q
 n6:=λb u xs q=>by rw[bc (e7 q hn)];exact q
 j3:=λb ps q=>⟨#[],by rw[bc (e7 q hn),q];simp⟩
theorem Un.write(mu:BM (H x))(he:e=x\/H e=some (.own x))(k:∀b u,b≠e->h.get? b=some u->h'.get? b=some u)(wJ:∃u,h'.get? e=some u):Un fs ex H (upd H x o) h h':=by
 have hx:∀b,H b=none->b≠x:=λb n z=>by subst z;rw[n]at mu;exact mu
 have hb:∀b,H b=none->b≠e:=λb n z=>by
  subst z
  rcases he with r | r
  ·exact hx b n r
  ·rw[n]at r;cases r
 have hm:∀b u,H b=some u->¬ BM (some u)->b≠x:=λb u q nm z=>by subst z;rw[q]at mu;exact nm mu
 refine⟨λb u q n _ _=>k b u (hb b n) q,λb u q n _ _=>⟨u.slots,k b u (hb b n) q⟩,λb u q n _=>by rw[bc (hx b n)];exact n,λb u q _=>?_,
  λb xs q=>by rw[bc (hm b _ q λz=>z)];exact q,λb u xs q=>by rw[bc (hm b _ q λz=>z)];exact q,λb ps q=>⟨#[],by rw[bc (hm b _ q λz=>z),q];simp⟩⟩
 by_cases uZ:b=e
 ·subst uZ;exact wJ
 ·exact⟨u,k b u uZ q⟩
end
def BN(h:Heap)(H:Hp):List Addr:=(aw h.objs.size).filter λa=>(H a).isSome
def qR(h:Heap)(H:Hp):Heap:=PySem.W.hideAll h (BN h H)
theorem Yz(h:Heap)(H:Hp):(qR h H).objs.size=h.objs.size:=PySem.W.hideAll_size _ _
theorem YA{h:Heap}{H:Hp}{b:Addr}{o:Obj}(e:h.get? b=some o)(n:H b=none):(qR h H).get? b=some o :=
 PySem.W.hideAll_get _ e λhm=>by
  have q:(H b).isSome=true:=(tG.mp hm).2
  rw[n]at q;simp at q
theorem YB{h:Heap}{H:Hp}{b:Addr}{o:Obj}(e:(qR h H).get? b=some o):h.get? b=some o/\H b=none:=by
 have e':h.get? b=some o:=PySem.W.of_hideAll (BN h H) e
 refine⟨e',?_⟩
 cases q:H b with
 | none=>rfl
 | some x =>
  have hm:b∈BN h H:=tG.mpr ⟨bw.mpr (cg e'),by simp[q]⟩
  have z:(qR h H).get? b=none:=PySem.W.hideAll_none (BN h H) hm
  rw[z]at e;cases e
structure Mod(K:PySem.W.Frag)(mg:Str->Option Value)(base:Heap):Prop where
 u0:K.In base
 glob:base.Ns mainGlobals mg
 blt:∃mb,base.Ns builtinsNs mb/\∀x:Str,x≠"__name__"->mb x=bootBuiltins x
 nolimit:base.NoLimit
structure Cx where
 prog:Program
 w:World
 K:PySem.W.Frag
 mg:Str->Option Value
 base:Heap
 A:Around
 N:List Str
 eQ:Shared
 qS:Hp
 env:Env
 outer:List Env
 stack:List Env
 ex:List Addr
 fn:Str->Bool
 calm:Bool
 pn:List (Addr × Obj)
 xe:Value->Shared->Prop
def j4(l:List Env):List Addr:=l.filterMap (·.frame)
abbrev Cx.fs(X:Cx):List Addr:=j4 X.outer
def lF(sc:Scope)(x:Str):Prop:=sc.names.lookup x=some .local\/sc.names.lookup x=some .cell\/sc.names.lookup x=some .free
def Loc(sc:Scope)(x:Str):Prop:=sc.names.lookup x=some .local\/sc.names.lookup x=some .cell
def YC(env:Env)(h:Heap)(m:Str->Option Value)(x:Str)(u:Value):Prop :=
 (env.kindOf x=some .local/\m x=some u)\/((env.kindOf x=some .cell\/env.kindOf x=some .free)/\∃c,env.cells.lookup x=some c/\h.IsCell c (some u))
structure Cx.Ok(X:Cx):Prop where
 mod:Mod X.K X.mg X.base
 kind:X.env.scope.kind=.function
 glob:X.env.globals=mainGlobals
 blt:X.env.builtins=builtinsNs
 above:X.eQ.heap.objs.size<=X.env.locals
 inj:∀x y c,X.env.cells.lookup x=some c->X.env.cells.lookup y=some c->x=y
 has:∀x,(X.env.kindOf x=some .cell\/X.env.kindOf x=some .free)->∃c,X.env.cells.lookup x=some c
 u3:∀x c,X.fn x=true->X.env.cells.lookup x=some c->X.eQ.heap.objs.size<=c
 hd:X.calm=true->X.A.handled=none
 frames:X.A.frames=some X.stack
 yB:X.stack=X.outer\/(X.stack=X.env::X.outer/\X.env.frame=some X.env.locals)
 yC:∀b∈X.ex,b≠X.env.locals/\∀x c,X.env.cells.lookup x=some c->c≠b
 bs:∀b o,X.base.get? b=some o->X.eQ.heap.get? b=some o/\X.qS b=none
 og:X.base.objs.size<=X.eQ.heap.objs.size
 wK:∀b o,X.base.get? b=some o->b ∉ X.ex
 wL:∀b∈X.ex,b ∉ X.fs
 iB:X.eQ.heap.FunFrames X.base X.outer
 oh:∀b∈X.fs,X.qS b=none
structure Inv(X:Cx)(pins:List (Addr × Obj))(σ:List (Option V))(H:Hp)(s:Shared):Prop where
 ok:X.Ok
 os:s.os=X.eQ.os
 bare:AllBare s.gens
 base:Un X.fs X.ex X.qS H X.eQ.heap s.heap
 loc:∃m,s.heap.Ns X.env.locals m/\∀(i:Nat) (x:Str) (v:V),X.N[i]?=some x->σ[i]?=some (some v)->lF X.env.scope x->∃u,RelV v u/\YC X.env s.heap m x u
 cell:∀x c,X.env.cells.lookup x=some c->∃v,s.heap.IsCell c v
 free:H X.env.locals=none
 lH:∀x c,X.env.cells.lookup x=some c->H c=none
 pin:∀p∈X.pn++pins,s.heap.get? p.1=some p.2/\H p.1=none/\p.1≠X.env.locals/\p.1 ∉ X.fs/\∀v,p.2.data≠.cell v
 aK:dA X.prog X.w H s.heap
 len:σ.length=X.N.length
section
variable{X:Cx}{pins:List (Addr × Obj)}{σ:List (Option V)}{H H':Hp}{s:Shared}{h':Heap}
theorem Cx.Ok.YD(ok:X.Ok){b:Addr}{o:Obj}(e:X.base.get? b=some o):b ∉ X.fs:=λhb=>by
 have:=(ok.iB.mem hb).1
 rw[e]at this;cases this
theorem Inv.bs(I:Inv X pins σ H s):∀b o,X.base.get? b=some o->s.heap.get? b=some o/\H b=none:=λb o e =>
 ⟨I.base.keep b o (I.ok.bs b o e).1 (I.ok.bs b o e).2 (I.ok.YD e) (I.ok.wK b o e),I.base.free b o (I.ok.bs b o e).1 (I.ok.bs b o e).2 (I.ok.wK b o e)⟩
theorem Inv.bk(I:Inv X pins σ H s):∀b o,X.base.get? b=some o->s.heap.get? b=some o:=λb o e=>(I.bs b o e).1
theorem Inv.mod(I:Inv X pins σ H s):Mod X.K X.mg X.base:=I.ok.mod
theorem Inv.dB(I:Inv X pins σ H s):X.K.In s.heap:=I.ok.mod.u0.keeps I.bk
theorem Inv.lt(I:Inv X pins σ H s):X.env.locals<s.heap.objs.size:=let⟨_,hn,_⟩:=I.loc;hn.lt
theorem Inv.sz(I:Inv X pins σ H s):X.eQ.heap.objs.size<=s.heap.objs.size:=cQ I.ok.above (Bk I.lt)
theorem Inv.NS(I:Inv X pins σ H s){a:Addr}(h:s.heap.objs.size<=a):a ∉ X.fs:=λhb=>by
 obtain⟨_,o,ho,_⟩:=I.ok.iB.mem hb
 exact absurd (dd (cg ho) (cQ I.sz h)) (iq _)
theorem Inv.tR(I:Inv X pins σ H s):∀x c,X.env.cells.lookup x=some c->c≠X.env.locals:=λx c e z=>by
 obtain⟨v,o,ho,hd⟩:=I.cell x c e
 obtain⟨m,⟨o',es,ep,pY,u4,_⟩,_⟩:=I.loc
 rw[z,pY]at ho;cases ho;rw[u4]at hd;cases hd
theorem Inv.iB(I:Inv X pins σ H s):s.heap.FunFrames X.base X.outer:=by
 have all:∀(l:List Env),(∀b∈j4 l,b∈X.fs)->X.eQ.heap.FunFrames X.base l->s.heap.FunFrames X.base l:=by
  intro l
  induction l with
  | nil=>intro _ _;trivial
  | cons env r ih =>
   intro hs hl
   obtain⟨hk,⟨L,o,hf,hn,ho,hd⟩,hr⟩:=hl
   have hL:L∈X.fs:=hs L (by unfold j4;rw[rN,hf];exact ir)
   obtain⟨sl,e⟩:=I.base.slot L o ho (I.ok.oh L hL) hL λz=>I.ok.wL L z hL
   exact⟨hk,⟨L,_,hf,hn,e,hd⟩,ih (λb hb=>hs b (by unfold j4;rw[rN,hf];exact fH _ hb)) hr⟩
 exact all X.outer (λ_ hb=>hb) I.ok.iB
theorem Inv.stack(I:Inv X pins σ H s):s.heap.FunFrames X.base X.stack:=by
 rcases I.ok.yB with e | ⟨e,hf⟩
 ·rw[e];exact I.iB
 ·rw[e]
  obtain⟨m,hn,_⟩:=I.loc
  refine .cons (by rw[I.ok.kind];decide) hf hn ?_ I.iB
  exact Heap.get?_none_of_le (cQ I.ok.og I.ok.above)
theorem Inv.BO(I:Inv X pins σ H s):∀b∈j4 X.stack,b∈X.env.locals::X.fs:=λb hb=>by
 rcases I.ok.yB with e | ⟨e,hf⟩
 ·rw[e]at hb;exact fH _ hb
 ·rw[e]at hb
  unfold j4 at hb
  rw[rN,hf]at hb
  exact hb
theorem Inv.NT(I:Inv X pins σ H s):∀b∈j4 X.stack,H b=none:=λb hb=>by
 rcases cN.mp (I.BO b hb)with e | hb
 ·rw[e];exact I.free
 ·obtain⟨_,o,ho,_⟩:=I.ok.iB.mem hb
  exact I.base.free b o ho (I.ok.oh b hb) λz=>I.ok.wL b z hb
theorem Inv.step{g':Array GenState}{t':Nat}{d':Drawn}{ch:List Addr}(I:Inv X pins σ H s)
  (qT:∀b∈ch,(b∈X.ex\/X.eQ.heap.objs.size<=b)/\b≠X.env.locals/\(∀x c,X.env.cells.lookup x=some c->c≠b)/\∀p∈X.pn++pins,p.1≠b)
  (keep:∀b o,b≠X.env.locals->b ∉ X.fs->b ∉ ch->s.heap.get? b=some o->H b=none->h'.get? b=some o)
  (slot:∀b o,b≠X.env.locals->b∈X.fs->b ∉ ch->s.heap.get? b=some o->H b=none->∃sl,h'.get? b=some { o with slots:=sl }) (free:∀b o,b ∉ ch->s.heap.get? b=some o->H b=none->H' b=none)
  (there:∀b o,b ∉ ch->s.heap.get? b=some o->∃o',h'.get? b=some o')
  (pX:∀b xs,H b=some (.tup xs)->H' b=some (.tup xs)) (n6:∀b o u,H b=some (.bD o u)->H' b=some (.bD o u)) (j3:∀b ps,H b=some (.dN ps)->∃more,H' b=some (.dN (ps++more)))
  (ns:∀m,s.heap.Ns X.env.locals m->h'.Ns X.env.locals m) (aK:dA X.prog X.w H' h') (hg:AllBare g') :
  Inv X pins σ H' { s with heap:=h',gens:=g',drawn:=d',toks:=t' }:=by
 have NU:∀b o,X.eQ.heap.get? b=some o->b≠X.env.locals:=λb o e=>gb (dd (cg e) I.ok.above)
 have wM:∀b o,X.eQ.heap.get? b=some o->b ∉ X.ex->b ∉ ch:=λb o e hx hb=>by
  rcases(qT b hb).1 with z | z
  ·exact hx z
  ·exact absurd (dd (cg e) z) (iq _)
 have cellK:∀x c,X.env.cells.lookup x=some c->∀v,s.heap.IsCell c v->h'.IsCell c v:=λx c e v ⟨o,ho,hd⟩=>by
  have yD:c ∉ ch:=λz=>(qT c z).2.2.1 x c e rfl
  by_cases hc:c∈X.fs
  ·obtain⟨sl,q⟩:=slot c o (I.tR x c e) hc yD ho (I.lH x c e)
   exact⟨_,q,hd⟩
  ·exact⟨o,keep c o (I.tR x c e) hc yD ho (I.lH x c e),hd⟩
 refine⟨I.ok,I.os,hg,⟨λb o e n hb hx=>?_,λb o e n hb hx=>?_,λb o e n hx=>?_,λb o e hx=>?_,λb xs e=>pX b xs (I.base.pX b xs e),λb o xs e=>n6 b o xs (I.base.n6 b o xs e),λb ps e=>?_⟩,?_,λx c e=>?_,?_,λx c e=>?_,λp hp=>?_,aK,I.len⟩
 ·exact keep b o (NU b o e) hb (wM b o e hx) (I.base.keep b o e n hb hx) (I.base.free b o e n hx)
 ·obtain⟨sl,e1⟩:=I.base.slot b o e n hb hx
  obtain⟨YE,e2⟩:=slot b _ (NU b o e) hb (wM b o e hx) e1 (I.base.free b o e n hx)
  exact⟨YE,e2⟩
 ·obtain⟨o',e1⟩:=I.base.there b o e hx
  exact free b o' (wM b o e hx) e1 (I.base.free b o e n hx)
 ·obtain⟨o',e1⟩:=I.base.there b o e hx
  exact there b o' (wM b o e hx) e1
 ·obtain⟨m1,e1⟩:=I.base.j3 b ps e
  obtain⟨m2,e2⟩:=j3 b _ e1
  exact⟨m1++m2,by rw[e2,wb]⟩
 ·obtain⟨m,hn,hl⟩:=I.loc
  refine⟨m,ns m hn,λi x v e1 e2 e3=>?_⟩
  obtain⟨u,r,l⟩:=hl i x v e1 e2 e3
  refine⟨u,r,?_⟩
  rcases l with l | ⟨k,c,e,z⟩
  ·exact .inl l
  ·exact .inr ⟨k,c,e,cellK x c e _ z⟩
 ·obtain⟨v,z⟩:=I.cell x c e
  exact⟨v,cellK x c e v z⟩
 ·obtain⟨m,⟨o,_,_,ho,_⟩,_⟩:=I.loc
  exact free _ o (λz=>(qT _ z).2.1 rfl) ho I.free
 ·obtain⟨v,o,ho,hd⟩:=I.cell x c e
  exact free c o (λz=>(qT c z).2.2.1 x c e rfl) ho (I.lH x c e)
 ·obtain⟨e,n,ne,nf,d⟩:=I.pin p hp
  have yD:p.1 ∉ ch:=λz=>(qT p.1 z).2.2.2 p hp rfl
  exact⟨keep p.1 p.2 ne nf yD e n,free p.1 p.2 yD e n,ne,nf,d⟩
theorem Inv.un{t':Nat}(I:Inv X pins σ H s)(u:Un X.fs [] H H' s.heap h')(aK:dA X.prog X.w H' h'):Inv X pins σ H' { s with heap:=h',toks:=t' }:=by
 obtain⟨m,⟨o,es,ep,ho,r⟩,_⟩:=id I.loc
 obtain⟨sl,hL⟩:=u.any ho I.free (by simp)
 exact I.step (g':=s.gens) (d':=s.drawn) (ch:=[]) (λ_ z=>nomatch z) (λb o _ hb _ e n=>u.keep b o e n hb (by simp)) (λb o _ hb _ e n=>u.slot b o e n hb (by simp)) (λb o _ e n=>u.free b o e n (by simp)) (λb o _ e=>u.there b o e (by simp)) u.pX u.n6 u.j3 (λm' hm=>by
  obtain⟨o',Fw,Fx,pY,r'⟩:=hm
  rw[ho]at pY;cases pY
  exact⟨_,Fw,Fx,hL,r'⟩) aK I.bare
theorem Inv.call{g':Array GenState}{t':Nat}{d':Drawn}{ch:List Addr}(I:Inv X pins σ H s)(u:Un (j4 X.stack) ch H H' s.heap h')(aK:dA X.prog X.w H' h')(hg:AllBare g')
  (qT:∀b∈ch,(b∈X.ex\/X.eQ.heap.objs.size<=b)/\b≠X.env.locals/\(∀x c,X.env.cells.lookup x=some c->c≠b)/\∀p∈X.pn++pins,p.1≠b) :
  Inv X pins σ H' { s with heap:=h',gens:=g',drawn:=d',toks:=t' }:=by
 obtain⟨m,⟨o,es,ep,ho,r⟩,_⟩:=id I.loc
 obtain⟨sl,hL⟩:=u.any ho I.free λz=>(qT _ z).2.1 rfl
 exact I.step (ch:=ch) qT (λb o hL hb hc e n=>u.keep b o e n (λz=>(cN.mp (I.BO b z)).elim hL hb) hc) (λb o _ _ hc e n=>u.any e n hc) (λb o hc e n=>u.free b o e n hc) (λb o hc e=>u.there b o e hc) u.pX u.n6 u.j3 (λm' hm=>by
  obtain⟨o',Fw,Fx,pY,r'⟩:=hm
  rw[ho]at pY;cases pY
  exact⟨_,Fw,Fx,hL,r'⟩) aK hg
theorem Inv.turned{t':Nat}{it:Addr}(I:Inv X pins σ H s)(k:∀b o,b≠it->s.heap.get? b=some o->h'.get? b=some o)(hn:H it=none)(hL:it≠X.env.locals)
  (h1:it∈X.ex\/X.eQ.heap.objs.size<=it) (h2:∀x c,X.env.cells.lookup x=some c->c≠it) (h3:∀p∈X.pn++pins,p.1≠it):Inv X pins σ H { s with heap:=h',toks:=t' }:=by
 have tS:∀b u,H b=some u->b≠it:=λb u e z=>by rw[z,hn]at e;cases e
 refine I.step (g':=s.gens) (d':=s.drawn) (ch:=[it]) (λb hb=>?_) (λb o _ _ hc e _=>k b o (λz=>hc (by simp[z])) e) (λb o _ _ hc e _=>⟨o.slots,k b o (λz=>hc (by simp[z])) e⟩) (λ_ _ _ _ n=>n)
  (λb o hc e=>⟨o,k b o (λz=>hc (by simp[z])) e⟩) (λ_ _ e=>e) (λ_ _ _ e=>e) (λb ps e=>⟨#[],by rw[e];simp⟩) (λm hm=>?_) (λb u e=>?_) I.bare
 ·have e:b=it:=by simpa using hb
  subst e
  exact⟨h1,hL,h2,h3⟩
 ·obtain⟨o,es,ep,ho,r⟩:=hm
  exact⟨o,es,ep,k _ o (iu hL) ho,r⟩
 ·refine(I.aK b u e).qQ (λc v hc q=>k c v ?_ q) (λ_ q=>q) (λ_ _ q=>q) λ_ _ q=>q
  rcases hc with z | z
  ·rw[z];exact tS b u e
  ·exact tS c _ z
theorem Inv.tok(I:Inv X pins σ H s)(t:Nat):Inv X pins σ H { s with toks:=t }:=I.un (h':=s.heap) (t':=t) Un.refl I.aK
theorem Inv.kept{t':Nat}(I:Inv X pins σ H s)(k:∀b u,s.heap.get? b=some u->h'.get? b=some u):Inv X pins σ H { s with heap:=h',toks:=t' }:=I.un (Un.kept k) (I.aK.kept k)
theorem Inv.laid{a:Addr}{o:HO}{t':Nat}(I:Inv X pins σ H s)(k:∀b u,s.heap.get? b=some u->h'.get? b=some u)(hp:s.heap.objs.size<=a)(new:fc X.prog X.w (upd H a o) h' a o) :
  Inv X pins σ (upd H a o) { s with heap:=h',toks:=t' }:=I.un (Un.laid k hp (I.aK.fresh hp)) (I.aK.laid k hp new)
theorem Inv.write{x e:Addr}{o:HO}{t':Nat}(I:Inv X pins σ H s)(mu:BM (H x))(he:e=x\/H e=some (.own x))(k:∀b u,b≠e->s.heap.get? b=some u->h'.get? b=some u)(wJ:∃u,h'.get? e=some u)
  (new:fc X.prog X.w (upd H x o) h' x o):Inv X pins σ (upd H x o) { s with heap:=h',toks:=t' }:=I.un (Un.write mu he k wJ) (I.aK.write mu he k wJ new)
theorem Inv.weak{aL:List (Option V)}(I:Inv X pins σ H s)(hl:aL.length=σ.length)(w:∀(i:Nat) v,aL[i]?=some (some v)->σ[i]?=some (some v)):Inv X pins aL H s :=
 ⟨I.ok,I.os,I.bare,I.base,let⟨m,hn,tT⟩:=I.loc;⟨m,hn,λi x v e1 e2 e3=>tT i x v e1 (w i v e2) e3⟩,I.cell,I.free,I.lH,I.pin,I.aK,hl.trans I.len⟩
theorem Inv.NV{Fy:List (Addr × Obj)}(I:Inv X pins σ H s)(h:∀p∈Fy,s.heap.get? p.1=some p.2/\H p.1=none/\p.1≠X.env.locals/\p.1 ∉ X.fs/\∀v,p.2.data≠.cell v):Inv X Fy σ H s :=
 ⟨I.ok,I.os,I.bare,I.base,I.loc,I.cell,I.free,I.lH,λp hp=>(bV.mp hp).elim (λz=>I.pin p (fI _ z)) (h p),I.aK,I.len⟩
theorem NW{N:List Str}(hN:N.Nodup){i j:Nat}{x:Str}(a:N[i]?=some x)(b:N[j]?=some x):i=j:=by
 obtain⟨h1,e1⟩:=kY.mp a
 obtain⟨h2,e2⟩:=kY.mp b
 exact(Bl hN).mp (e1.trans e2.symm)
theorem YF{M:Model}{A:Around}{E:Value->Shared->Prop}{i:Nat}{x:Str}{v:V}{u:Value}{Q:Unit->Shared->Prop}(I:Inv X pins σ H s)(hN:X.N.Nodup)(hi:X.N[i]?=some x)(hx:Loc X.env.scope x)(r:RelV v u)
  (h:∀s',Inv X pins (σ.set i (some v)) H s'->(∃a,Heap.SameBut a s.heap s'.heap/\(a=X.env.locals\/X.env.cells.lookup x=some a))->Q () s') (hf:X.fn x=true\/X.env.scope.names.lookup x=some .local:=by first | exact .inl rfl | exact .inr rfl | assumption):wpAny M A (storeName X.env x u) Q E s:=by
 obtain⟨m,hn,hl⟩:=id I.loc
 have YG:(X.env.scope.kind==.class||(X.env.scope.kind==.module&&X.env.locals != X.env.globals))=false:=by rw[I.ok.kind];rfl
 have NX:i<σ.length:=by rw[I.len];exact(kY.mp hi).1
 have tR:=I.tR
 have tracked:∀{a:Addr} {h':Heap},(∃o,s.heap.get? a=some o/\H a=none)->Heap.SameBut a s.heap h'->dA X.prog X.w H h':=λ{a h'} ha hs b ob e=>by
  obtain⟨_,_,NY⟩:=ha
  refine(I.aK b ob e).qQ (λc w' hc q=>(hs.2 c ?_).trans q) (λ_ q=>q) (λ_ _ q=>q) λ_ _ q=>q
  rintro rfl
  rcases hc with rfl | hc
  ·rw[NY]at e;cases e
  ·rw[NY]at hc;cases hc
 rcases hx with hk | hk
 ·refine wpAny_storeName_local hk hn (λh' YH hs=>?_) YG
  obtain⟨oL,_,_,YI,_⟩:=id hn
  refine h _ ⟨I.ok,I.os,I.bare,⟨λb o e n hb hx=>?_,λb o e n hb hx=>?_,I.base.free,λb o e hx=>?_,I.base.pX,I.base.n6,I.base.j3⟩,⟨_,YH,λj y v' e1 e2 e3=>?_⟩,λy c e=>?_,I.free,I.lH,λp hp=>?_,tracked ⟨oL,YI,I.free⟩ hs,by simpa using I.len⟩ ⟨_,hs,.inl rfl⟩
  ·exact(hs.2 b (gb (dd (cg e) I.ok.above))).trans (I.base.keep b o e n hb hx)
  ·obtain⟨sl,e1⟩:=I.base.slot b o e n hb hx
   exact⟨sl,(hs.2 b (gb (dd (cg e) I.ok.above))).trans e1⟩
  ·obtain⟨o',e1⟩:=I.base.there b o e hx
   exact⟨o',(hs.2 b (gb (dd (cg e) I.ok.above))).trans e1⟩
  ·by_cases hj:j=i
   ·subst hj
    rw[hi]at e1;cases e1
    rw[EJ NX]at e2
    cases e2
    exact⟨u,r,.inl ⟨hk,by simp⟩⟩
   ·rw[tH (iu hj)]at e2
    obtain⟨u',r',q⟩:=hl j y v' e1 e2 e3
    refine⟨u',r',?_⟩
    rcases q with⟨k,e⟩ | ⟨k,c,e,z⟩
    ·refine .inl ⟨k,?_⟩
     have:y≠x:=λe=>hj (NW hN e1 (e ▸ hi))
     simp[this,e]
    ·exact .inr ⟨k,c,e,z.sameBut hs (tR y c e)⟩
  ·obtain⟨w',z⟩:=I.cell y c e
   exact⟨w',z.sameBut hs (tR y c e)⟩
  ·obtain⟨e,n,ne,nf,d⟩:=I.pin p hp
   exact⟨(hs.2 p.1 ne).trans e,n,ne,nf,d⟩
 ·have yE:X.fn x=true:=by
   rcases hf with z | z
   ·exact z
   ·rw[z]at hk;cases hk
  obtain⟨c,hc⟩:=I.ok.has x (.inl hk)
  obtain⟨w',z⟩:=I.cell x c hc
  refine wpAny_storeName_cell I.ok.kind hk hc z (λh' tU hs=>?_)
  obtain⟨oc,j5,YJ⟩:=id z
  refine h { s with heap:=h' } ⟨I.ok,I.os,I.bare,⟨λb o e n hb hx=>?_,λb o e n hb hx=>?_,I.base.free,λb o e hx=>?_,I.base.pX,I.base.n6,I.base.j3⟩,⟨m,hn.sameBut hs (iu (tR x c hc)),λj y v' e1 e2 e3=>?_⟩,λy c' e=>?_,I.free,I.lH,λp hp=>?_,tracked ⟨oc,j5,I.lH x c hc⟩ hs,by simpa using I.len⟩ ⟨c,hs,.inr hc⟩
  ·exact(hs.2 b (gb (dd (cg e) (I.ok.u3 x c yE hc)))).trans (I.base.keep b o e n hb hx)
  ·obtain⟨sl,e1⟩:=I.base.slot b o e n hb hx
   exact⟨sl,(hs.2 b (gb (dd (cg e) (I.ok.u3 x c yE hc)))).trans e1⟩
  ·obtain⟨o',e1⟩:=I.base.there b o e hx
   exact⟨o',(hs.2 b (gb (dd (cg e) (I.ok.u3 x c yE hc)))).trans e1⟩
  ·by_cases hj:j=i
   ·subst hj
    rw[hi]at e1;cases e1
    rw[EJ NX]at e2
    cases e2
    exact⟨u,r,.inr ⟨.inl hk,c,hc,tU⟩⟩
   ·rw[tH (iu hj)]at e2
    obtain⟨u',r',q⟩:=hl j y v' e1 e2 e3
    refine⟨u',r',?_⟩
    rcases q with q | ⟨k,c',e,z'⟩
    ·exact .inl q
    ·refine .inr ⟨k,c',e,z'.sameBut hs ?_⟩
     rintro rfl
     exact hj (NW hN e1 (I.ok.inj _ _ _ e hc ▸ hi))
  ·by_cases NZ:c'=c
   ·subst NZ;exact⟨_,tU⟩
   ·obtain⟨w2,z2⟩:=I.cell y c' e
    exact⟨w2,z2.sameBut hs NZ⟩
  ·obtain⟨e,n,ne,nf,d⟩:=I.pin p hp
   refine⟨(hs.2 p.1 ?_).trans e,n,ne,nf,d⟩
   intro q
   rw[q,j5]at e
   have q':oc=p.2:=de e
   exact d w' (by rw[<-q'];exact YJ)
theorem Fz{M:Model}{A:Around}{E:Value->Shared->Prop}{i:Nat}{x:Str}{v:V}{u:Value}{Q:Unit->Shared->Prop}(I:Inv X pins σ H s)(hN:X.N.Nodup)(hi:X.N[i]?=some x)(hx:Loc X.env.scope x)(r:RelV v u)
  (h:∀s',Inv X pins (σ.set i (some v)) H s'->Q () s') (hf:X.fn x=true\/X.env.scope.names.lookup x=some .local:=by first | exact .inl rfl | exact .inr rfl | assumption):wpAny M A (storeName X.env x u) Q E s :=
 YF I hN hi hx r (λs' I' _=>h s' I') hf
theorem Inv.YK{s':Shared}{ch:List Addr}(I:Inv X pins σ H s)(ho:s'.os=s.os)(u:Un (j4 X.stack) ch H H' s.heap s'.heap)(aK:dA X.prog X.w H' s'.heap)(hg:AllBare s'.gens)
  (qT:∀b∈ch,(b∈X.ex\/X.eQ.heap.objs.size<=b)/\b≠X.env.locals/\(∀x c,X.env.cells.lookup x=some c->c≠b)/\∀p∈X.pn++pins,p.1≠b):Inv X pins σ H' s':=by
 obtain⟨h',g',d',t',o'⟩:=s'
 have e:o'=s.os:=ho
 subst e
 exact I.call (g':=g') (t':=t') (d':=d') u aK hg qT
end
abbrev XK:=Value->Option Addr->Hp->Prop
abbrev St:=List (Option V)
abbrev VK:=V->Hp->Prop
abbrev TE:=St->Hp->VK->Prop
abbrev TT:=St->Hp->(Bool->Hp->Prop)->Prop
abbrev TA:=St->Hp->(List V->Hp->Prop)->Prop
structure Ends where
 nx:St->Hp->Prop
 rt:VK
 bk:St->Hp->Prop:=λ_ _=>False
 ct:St->Hp->Prop:=λ_ _=>False
abbrev TS:=Ends->St->Hp->Prop
def EP(X:Cx)(pins:List (Addr × Obj))(σ:St)(Q:VK)(u:Value)(s':Shared):Prop:=∃v H',Inv X pins σ H' s'/\RelV v u/\Q v H'
def TP(X:Cx)(pins:List (Addr × Obj))(σ:St)(Q:Bool->Hp->Prop)(b:Bool)(s':Shared):Prop:=∃H',Inv X pins σ H' s'/\Q b H'
def AP(X:Cx)(pins:List (Addr × Obj))(σ:St)(Q:List V->Hp->Prop)(us:List Value)(s':Shared):Prop:=∃vs H',Inv X pins σ H' s'/\Vals vs us/\Q vs H'
def SP(X:Cx)(pins:List (Addr × Obj))(D:Ends)(f:Flow)(s':Shared):Prop :=
 match f with
 | .next=>∃aL H',Inv X pins aL H' s'/\D.nx aL H'
 | .brk=>∃aL H',Inv X pins aL H' s'/\D.bk aL H'
 | .cont=>∃aL H',Inv X pins aL H' s'/\D.ct aL H'
 | .ret u=>∃v aL H',Inv X pins aL H' s'/\RelV v u/\D.rt v H'
def PE(X:Cx)(e:Expr)(t:TE):Prop :=
 ∀(pins:List (Addr × Obj)) (s:Shared) (σ:St) (H:Hp) (Q:VK),Inv X pins σ H s->t σ H Q->wpAny (model X.prog X.w) X.A (eval e X.env) (EP X pins σ Q) X.xe s
def PT(X:Cx)(e:Expr)(t:TT):Prop :=
 ∀(pins:List (Addr × Obj)) (s:Shared) (σ:St) (H:Hp) (Q:Bool->Hp->Prop),Inv X pins σ H s->t σ H Q->wpAny (model X.prog X.w) X.A (isTrue e X.env (eval e X.env)) (TP X pins σ Q) X.xe s
def PW(X:Cx)(e:Expr)(t:TT):Prop :=
 ∀(whole:Sem Value) (pins:List (Addr × Obj)) (s:Shared) (σ:St) (H:Hp) (Q:Bool->Hp->Prop),Inv X pins σ H s->t σ H Q->wpAny (model X.prog X.w) X.A (isTrue e X.env whole) (TP X pins σ Q) X.xe s
theorem PW.pt{X:Cx}{e:Expr}{t:TT}(h:PW X e t):PT X e t:=h _
def PA(X:Cx)(es:List Expr)(t:TA):Prop :=
 ∀(pos:Pos) (pins:List (Addr × Obj)) (s:Shared) (σ:St) (H:Hp) (Q:List V->Hp->Prop),Inv X pins σ H s->t σ H Q->wpAny (model X.prog X.w) X.A (spliced (backTo pos (starEach es X.env))) (AP X pins σ Q) X.xe s
def PS(X:Cx)(st:Stmt)(t:TS):Prop :=
 ∀(pins:List (Addr × Obj)) (s:Shared) (σ:St) (H:Hp) (D:Ends),Inv X pins σ H s->t D σ H->wpAny (model X.prog X.w) X.A (exec st X.env) (SP X pins D) X.xe s
def PSs(X:Cx)(st:List Stmt)(t:TS):Prop :=
 ∀(pins:List (Addr × Obj)) (s:Shared) (σ:St) (H:Hp) (D:Ends),Inv X pins σ H s->t D σ H->wpAny (model X.prog X.w) X.A (execs st X.env) (SP X pins D) X.xe s
theorem aN{α:Type}{t:Sem α}{Q Q':α->Shared->Prop}{M:Model}{A:Around}{E:Value->Shared->Prop}{s:Shared}(h:wpAny M A t Q E s)(hQ:∀a s,Q a s->Q' a s):wpAny M A t Q' E s:=wpAny_mono h hQ λ_ _ x=>x
section
variable{X:Cx}
def N0(i:Nat):TE:=λσ H Q=>∃v,σ[i]?=some (some v)/\Q v H
def tC(v:V):TE:=λ_ H Q=>Q v H
theorem qU{i:Nat}{x:Str}{pos:Pos}(hN:X.N[i]?=some x)(hv:lF X.env.scope x)(hd:(x==("__debug__":Str))=false:=by decide)(cC:(x==("__classdict__":Str))=false:=by decide):PE X (.Name x pos) (N0 i):=by
 intro pins s σ H Q I h
 obtain⟨v,e,h⟩:=h
 obtain⟨m,hn,hl⟩:=I.loc
 obtain⟨u,r,l⟩:=hl i x v hN e hv
 have fin:EP X pins σ Q u s:=⟨v,H,I,r,h⟩
 rcases l with⟨hk,hm⟩ | ⟨hk,c,hc,BP⟩
 ·exact wpAny_Name (wpAny_loadName_local I.ok.kind hk hn hm fin) hd
 ·rcases hk with hk | hk
  ·exact wpAny_Name (wpAny_loadName_cell I.ok.kind hk hc BP fin) hd
  ·exact wpAny_Name (wpAny_loadName_free I.ok.kind hk hc BP fin cC) hd
theorem wN{i j pos}:PE X (.Constant (.int i) j pos) (tC (.int i)):=λ_ _ _ H _ I h=>wpAny_Constant_int ⟨.int i,H,I.tok _,⟨_,rfl⟩,h⟩
theorem YL{b j pos}:PE X (.Constant (.bool b) j pos) (tC (.bl b)):=λ_ _ _ H _ I h=>Constant_bool ⟨.bl b,H,I,rfl,h⟩
theorem YM{j pos}:PE X (.Constant .none j pos) (tC .aq):=λ_ _ _ H _ I h=>Constant_none ⟨.aq,H,I,rfl,h⟩
def Gl(X:Cx)(x:Str):Prop:=X.env.kindOf x=some .globalImplicit
theorem BQ{E:Value->Shared->Prop}{pins:List (Addr × Obj)}{s:Shared}{σ:St}{H:Hp}{x:Str}{u:Value}{pos:Pos}{Q:Value->Shared->Prop}(I:Inv X pins σ H s)(hg:Gl X x)(hm:X.mg x=some u)(h:Q u s)
  (hd:(x==("__debug__":Str))=false:=by decide):wpAny (model X.prog X.w) X.A (eval (.Name x pos) X.env) Q E s :=
 XU I.ok.kind hg (Calls.loadGlobal_global (by rw[I.ok.glob];exact I.mod.glob.keeps I.bk) hm h) hd
theorem rW{E:Value->Shared->Prop}{pins:List (Addr × Obj)}{s:Shared}{σ:St}{H:Hp}{x:Str}{u:Value}{pos:Pos}{Q:Value->Shared->Prop}(I:Inv X pins σ H s)(hg:Gl X x)(hm:X.mg x=none)(hv:bootBuiltins x=some u)(h:Q u s)
  (hn:x≠"__name__":=by decide) (hd:(x==("__debug__":Str))=false:=by decide):wpAny (model X.prog X.w) X.A (eval (.Name x pos) X.env) Q E s:=by
 obtain⟨mb,h1,h2⟩:=I.mod.blt
 exact XU I.ok.kind hg (Calls.loadGlobal_builtin (by rw[I.ok.glob];exact I.mod.glob.keeps I.bk) hm (by rw[I.ok.blt];exact h1.keeps I.bk) ((h2 x hn).trans hv) h) hd
theorem YN{x:Str}{v:V}{u:Value}{pos:Pos}(hg:Gl X x)(hm:X.mg x=some u)(r:RelV v u)(hd:(x==("__debug__":Str))=false:=by decide):PE X (.Name x pos) (tC v) :=
 λ_ _ _ H _ I h=>BQ I hg hm ⟨v,H,I,r,h⟩ hd
theorem YO{x:Str}{v:V}{u:Value}{pos:Pos}(hg:Gl X x)(hm:X.mg x=none)(hv:bootBuiltins x=some u)(r:RelV v u)(hn:x≠"__name__":=by decide)(hd:(x==("__debug__":Str))=false:=by decide):PE X (.Name x pos) (tC v) :=
 λ_ _ _ H _ I h=>rW I hg hm hv ⟨v,H,I,r,h⟩ hn hd
variable{a b:Expr}{ta tb:TE}{pos:Pos}
def tB(t:TE):TT:=λσ H Q=>t σ H λx H1=>∃c,x=.bl c/\Q c H1
theorem BR{e:Expr}{t:TE}(h:PE X e t)(he:∀whole,isTrue e X.env whole=(do let v<-whole;standAt e.pos;holding [v] (truthy v)):=by intro _;rfl):PT X e (tB t):=by
 intro pins s σ H Q I hw
 refine isTrue_plain (aN (h pins s σ H _ I hw) λv s1 ⟨x,H1,I1,r1,q1⟩=>?_) (he _)
 obtain⟨d,rfl,q⟩:=q1
 cases r1
 exact wpAny_truthy_bool ⟨H1,I1,q⟩
variable{tA BS:TT}{rest:List Expr}
def YQ(t u:TT):TT:=λσ H Q=>t σ H λc H1=>if c=true then u σ H1 Q else Q false H1
def YR(t u:TT):TT:=λσ H Q=>t σ H λc H1=>if c=true then Q true H1 else u σ H1 Q
def YS(t:TT):TT:=λσ H Q=>t σ H λc H1=>Q (!c) H1
theorem YT(ha:PT X a tA):PW X (.BoolOp .And [a] pos) tA:=by
 intro wh pins s σ H Q I h
 refine isTrue_and (aN (ha pins s σ H Q I h) λc s1 e=>?_)
 cases c with
 | true=>exact isTrue_and_nil e
 | false=>exact e
theorem BU(ha:PT X a tA):PW X (.BoolOp .Or [a] pos) tA:=by
 intro wh pins s σ H Q I h
 refine isTrue_or (aN (ha pins s σ H Q I h) λc s1 e=>?_)
 cases c with
 | false=>exact isTrue_or_nil e
 | true=>exact e
theorem YU(ha:PT X a tA)(hb:PW X (.BoolOp .And (b::rest) pos) BS):PW X (.BoolOp .And (a::b::rest) pos) (YQ tA BS):=by
 intro wh pins s σ H Q I h
 refine isTrue_and (aN (ha pins s σ H _ I h) λc s1 ⟨H1,I1,q1⟩=>?_)
 cases c with
 | true=>exact hb wh pins s1 σ H1 Q I1 q1
 | false=>exact⟨H1,I1,q1⟩
theorem YV(ha:PT X a tA)(hb:PW X (.BoolOp .Or (b::rest) pos) BS):PW X (.BoolOp .Or (a::b::rest) pos) (YR tA BS):=by
 intro wh pins s σ H Q I h
 refine isTrue_or (aN (ha pins s σ H _ I h) λc s1 ⟨H1,I1,q1⟩=>?_)
 cases c with
 | true=>exact⟨H1,I1,q1⟩
 | false=>exact hb wh pins s1 σ H1 Q I1 q1
theorem BV(ha:PT X a tA):PT X (.UnaryOp .Not a pos) (YS tA):=by
 intro pins s σ H Q I h
 exact isTrue_not (ha pins s σ H (λc H1=>Q (!c) H1) I h)
def YW(ta tb:TE):TE:=λσ H Q=>ta σ H λx H1=>∃c,x=.bl c/\if c=true then tb σ H1 Q else Q (.bl false) H1
def YX(ta:TE):TE:=λσ H Q=>ta σ H λx H1=>∃c,x=.bl c/\Q (.bl (!c)) H1
theorem u5{op}{t:TE}(h:PE X a t):PE X (.BoolOp op [a] pos) t:=λpins s σ H Q I hw=>BoolOp_one (h pins s σ H Q I hw)
theorem YY(ha:PE X a ta)(hb:PE X (.BoolOp .And (b::rest) pos) tb):PE X (.BoolOp .And (a::b::rest) pos) (YW ta tb):=by
 intro pins s σ H Q I h
 refine BoolOp_and (aN (ha pins s σ H _ I h) λv s1 ⟨x,H1,I1,r1,q1⟩=>?_)
 obtain⟨c,rfl,q1⟩:=q1
 cases r1
 refine wpAny_truthy_bool ?_
 cases c with
 | true=>exact hb pins s1 σ H1 Q I1 q1
 | false=>exact⟨.bl false,H1,I1,rfl,q1⟩
theorem YZ(ha:PE X a ta):PE X (.UnaryOp .Not a pos) (YX ta):=by
 intro pins s σ H Q I h
 refine UnaryOp_ (aN (ha pins s σ H _ I h) λv s1 ⟨x,H1,I1,r1,q1⟩=>?_)
 obtain⟨c,rfl,q1⟩:=q1
 cases r1
 exact not_of (wpAny_truthy_bool ⟨.bl (!c),H1,I1,rfl,q1⟩)
def Y0(t:TT)(ta tb:TE):TE:=λσ H Q=>t σ H λc H1=>if c=true then ta σ H1 Q else tb σ H1 Q
theorem Y1{c:Expr}(hc:PT X c tA)(ha:PE X a ta)(hb:PE X b tb):PE X (.IfExp c a b pos) (Y0 tA ta tb):=by
 intro pins s σ H Q I h
 refine wpAny_IfExp (aN (hc pins s σ H _ I h) λd s1 ⟨H1,I1,q1⟩=>?_)
 cases d with
 | true=>exact ha pins s1 σ H1 Q I1 q1
 | false=>exact hb pins s1 σ H1 Q I1 q1
end
def bI(K:PySem.W.Frag)(H:Hp)(a:Addr)(xs:List V):Prop :=
 Rd H a (.lst xs) \/
  ∃(o:Obj) (its:Array Value) (n:Nat),K.lookup a=some o/\o.cls=.type "list"/\o.dict=none/\o.data=.seq its n/\its.size<=sizeLine/\Vals xs its.toList
def iX(K:PySem.W.Frag)(H:Hp)(a:Addr)(xs:List V):Prop :=
 Rd H a (.tup xs) \/
  ∃(o:Obj) (its:Array Value) (n:Nat),K.lookup a=some o/\o.cls=.type "tuple"/\o.data=.seq its n/\its.size<=sizeLine/\Vals xs its.toList
def Y2:Value->Option V
 | .none=>some .aq
 | .bool b=>some (.bl b)
 | .int i _=>some (.int i)
 | .str x _=>some (.str x)
 | .bytes b _=>some (.BK b)
 | .float b _=>some (.uY b)
 | .ref a=>some (.ref a)
 | .type n=>some (.ty n)
 | _=>none
theorem RelV.abs{x:V}{u:Value}(r:RelV x u):Y2 u=some x:=by
 cases x with
 | aq=>cases r;rfl
 | bl _=>cases r;rfl
 | int _=>obtain⟨t,rfl⟩:=r;rfl
 | str _=>obtain⟨t,rfl⟩:=r;rfl
 | BK _=>obtain⟨t,rfl⟩:=r;rfl
 | uY _=>obtain⟨t,rfl⟩:=r;rfl
 | ref _=>cases r;rfl
 | ty _=>cases r;rfl
theorem RelV.inj{x y:V}{u:Value}(r:RelV x u)(q:RelV y u):x=y:=de (r.abs.symm.trans q.abs)
theorem Vals.inj:∀{xs ys:List V} {us:List Value},Vals xs us->Vals ys us->xs=ys
 | _,_,_,.nil,.nil=>rfl
 | _,_,_,.cons r t,.cons r' t'=>by rw[r.inj r',Vals.inj t t']
section
variable{X:Cx}{pins:List (Addr × Obj)}{σ:St}{H:Hp}{s:Shared}{a:Addr}{xs ys:List V}
theorem bI.of{K:PySem.W.Frag}(h:H a=some (.lst xs)):bI K H a xs:=.inl (.inl h)
theorem iX.of{K:PySem.W.Frag}(h:H a=some (.tup xs)):iX K H a xs:=.inl (.inl h)
theorem Inv.list(I:Inv X pins σ H s)(h:bI X.K H a xs):∃its:List Value,Vals xs its/\PlainL s.heap a its.toArray/\xs.length<=sizeLine:=by
 rcases h with h | ⟨o,its,n,hk,hc,hd,hs,hz,r⟩
 ·obtain⟨z,its,n,r,e⟩:=h.ok I.aK
  exact⟨its,r,⟨_,n,e,rfl,rfl,rfl⟩,z⟩
 ·refine⟨its.toList,r,⟨o,n,I.dB a o hk,hc,hd,by simpa using hs⟩,?_⟩
  have e:=r.length
  simp only[wc]at e
  omega
theorem Inv.tuple(I:Inv X pins σ H s)(h:iX X.K H a xs):∃its:List Value,Vals xs its/\IsTup s.heap a its.toArray/\xs.length<=sizeLine:=by
 rcases h with h | ⟨o,its,n,hk,hc,hs,hz,r⟩
 ·obtain⟨z,its,r,p⟩:=h.ok I.aK
  exact⟨its,r,p,z⟩
 ·refine⟨its.toList,r,⟨o,I.dB a o hk,hc,n,by simpa using hs⟩,?_⟩
  have e:=r.length
  simp only[wc]at e
  omega
theorem Inv.BW(I:Inv X pins σ H s)(h:bI X.K H a xs)(h':bI X.K H a ys):xs=ys:=by
 obtain⟨its,r,⟨o,n,e,_,_,d⟩,_⟩:=I.list h
 obtain⟨its',r',⟨o',n',e',_,_,d'⟩,_⟩:=I.list h'
 rw[e]at e';cases e'
 rw[d]at d'
 injection d' with d1 _
 have:its=its':=by simpa using congrArg Array.toList d1
 subst this
 exact r.inj r'
end
abbrev Cx.pZ(X:Cx)(E:Value->Shared->Prop):Cx:={ X with xe:=E }
abbrev Cx.iC(X:Cx):Cx:=X.pZ λ_ _=>False
theorem Cx.Ok.pZ{X:Cx}(ok:X.Ok)(E:Value->Shared->Prop):(X.pZ E).Ok :=
 ⟨ok.mod,ok.kind,ok.glob,ok.blt,ok.above,ok.inj,ok.has,ok.u3,ok.hd,ok.frames,ok.yB,ok.yC,ok.bs,ok.og,ok.wK,ok.wL,ok.iB,ok.oh⟩
theorem Cx.Ok.rZ{X:Cx}{E:Value->Shared->Prop}(ok:(X.pZ E).Ok):X.Ok :=
 ⟨ok.mod,ok.kind,ok.glob,ok.blt,ok.above,ok.inj,ok.has,ok.u3,ok.hd,ok.frames,ok.yB,ok.yC,ok.bs,ok.og,ok.wK,ok.wL,ok.iB,ok.oh⟩
section
variable{X:Cx}{pins:List (Addr × Obj)}{σ:St}{H:Hp}{s:Shared}{E:Value->Shared->Prop}
theorem Inv.pZ(I:Inv X pins σ H s)(E:Value->Shared->Prop):Inv (X.pZ E) pins σ H s:=⟨I.ok.pZ E,I.os,I.bare,I.base,I.loc,I.cell,I.free,I.lH,I.pin,I.aK,I.len⟩
theorem Inv.rZ(I:Inv (X.pZ E) pins σ H s):Inv X pins σ H s:=⟨I.ok.rZ,I.os,I.bare,I.base,I.loc,I.cell,I.free,I.lH,I.pin,I.aK,I.len⟩
theorem SP.rZ{D:Ends}{f:Flow}{s':Shared}(h:SP (X.pZ E) pins D f s'):SP X pins D f s':=by
 cases f with
 | next=>obtain⟨aL,H',I,q⟩:=h;exact⟨aL,H',I.rZ,q⟩
 | brk=>obtain⟨aL,H',I,q⟩:=h;exact⟨aL,H',I.rZ,q⟩
 | cont=>obtain⟨aL,H',I,q⟩:=h;exact⟨aL,H',I.rZ,q⟩
 | ret u=>obtain⟨v,aL,H',I,r,q⟩:=h;exact⟨v,aL,H',I.rZ,r,q⟩
theorem PE.iC{e:Expr}{t:TE}(h:PE X.iC e t):PE X e t:=λpins s σ H Q I hw =>
 wpAny_mono (h pins s σ H Q (I.pZ _) hw) (λ_ _ ⟨v,H',I',r,q⟩=>⟨v,H',I'.rZ,r,q⟩) λ_ _ z=>gG z
theorem PSs.iC{st:List Stmt}{t:TS}(h:PSs X.iC st t):PSs X st t:=λpins s σ H D I hw =>
 wpAny_mono (h pins s σ H D (I.pZ _) hw) (λ_ _ q=>q.rZ) λ_ _ z=>gG z
end
section
variable{X:Cx}{st:Stmt}{rest:List Stmt}{t u:TS}{e:Expr}{te:TE}{pos:Pos}
def Y3:TS:=λD σ H=>D.nx σ H
def Y4(t u:TS):TS:=λD σ H=>t { D with nx:=u D } σ H
theorem wO:PSs X [] Y3:=λ_ _ σ H _ I h=>wpAny_execs_nil ⟨σ,H,I,h⟩
theorem fk(h1:PS X st t)(h2:PSs X rest u):PSs X (st::rest) (Y4 t u):=by
 intro pins s σ H D I h
 refine wpAny_execs_cons (aN (h1 pins s σ H { D with nx:=u D } I h) λf s1 q=>?_)
 cases f with
 | next =>
  obtain⟨aL,H',I',q⟩:=q
  exact h2 pins s1 aL H' D I' q
 | ret v=>exact q
 | brk=>exact q
 | cont=>exact q
theorem oi(h1:PS X st t):PSs X [st] t:=by
 intro pins s σ H D I h
 refine wpAny_execs_cons (aN (h1 pins s σ H D I h) λf s1 q=>?_)
 cases f with
 | next=>exact wpAny_execs_nil q
 | ret v=>exact q
 | brk=>exact q
 | cont=>exact q
theorem Inv.quiet{pins:List (Addr × Obj)}{σ:St}{H:Hp}{s:Shared}(I:Inv X pins σ H s):interactive X.env=false:=by simp[interactive,I.ok.kind]
def Y5(te:TE):TS:=λD σ H=>te σ H λ_ H1=>D.nx σ H1
theorem tV(he:PE X e te)(hs:swapsWith e none pos.line X.env=pure false:=by rfl):PS X (.Expr e pos) (Y5 te):=by
 intro pins s σ H D I h
 exact wpAny_Expr_any (aN (he pins s σ H _ I h) λv s1 ⟨x,H1,I1,r1,q1⟩=>⟨σ,H1,I1,q1⟩) I.quiet hs
def Y6(te:TE):TS:=λD σ H=>te σ H D.rt
theorem Y7(he:PE X e te):PS X (.Return (some e) pos) (Y6 te):=by
 intro pins s σ H D I h
 exact wpAny_Return_some (aN (he pins s σ H _ I h) λv s1 ⟨x,H1,I1,r1,q1⟩=>⟨x,σ,H1,I1,r1,q1⟩)
def Y8(c:TT)(t u:TS):TS:=λD σ H=>c σ H λb H1=>if b=true then t D σ H1 else u D σ H1
theorem wQ{c:Expr}{a b:List Stmt}{tc:TT}(hc:PT X c tc)(ha:PSs X a t)(hb:PSs X b u):PS X (.If c a b pos) (Y8 tc t u):=by
 intro pins s σ H D I h
 refine wpAny_If (aN (hc pins s σ H _ I h) λd s1 ⟨H1,I1,q1⟩=>?_)
 cases d with
 | true=>exact ha pins s1 σ H1 D I1 q1
 | false=>exact hb pins s1 σ H1 D I1 q1
def Y9:TS:=λ_ _ _=>False
theorem wU:PS X st Y9:=λ_ _ _ _ _ _ h=>h.elim
end
abbrev TG:=V->St->Hp->(St->Hp->Prop)->Prop
abbrev u6:=List V->St->Hp->(St->Hp->Prop)->Prop
def PG(X:Cx)(target:Expr)(t:TG):Prop :=
 ∀(pins:List (Addr × Obj)) (s:Shared) (σ:St) (H:Hp) (v:V) (u:Value) (Q:St->Hp->Prop),Inv X pins σ H s->RelV v u->t v σ H Q ->
  wpAny (model X.prog X.w) X.A (assign target X.env u) (λ_ s'=>∃aL H',Inv X pins aL H' s'/\Q aL H') X.xe s
def BX(X:Cx)(ts:List Expr)(t:u6):Prop :=
 ∀(pins:List (Addr × Obj)) (s:Shared) (σ:St) (H:Hp) (vs:List V) (us:List Value) (Q:St->Hp->Prop),Inv X pins σ H s->Vals vs us->t vs σ H Q ->
  wpAny (model X.prog X.w) X.A (assignInOrder ((assignEach ts X.env).map (·.2)) us) (λ_ s'=>∃aL H',Inv X pins aL H' s'/\Q aL H') X.xe s
abbrev yF:=V->V->V->Hp->(Hp->Prop)->Prop
def FA(X:Cx)(t:yF):Prop :=
 ∀(pins:List (Addr × Obj)) (s:Shared) (σ:St) (H:Hp) (o i v:V) (ov iv u:Value) (Q:Hp->Prop),Inv X pins σ H s->RelV o ov->RelV i iv->RelV v u->t o i v H Q ->
  wpAny (model X.prog X.w) X.A (setItem ov iv u) (λ_ s'=>∃H',Inv X pins σ H' s'/\Q H') X.xe s
abbrev wV:=V->V->Hp->VK->Prop
def FC(X:Cx)(op:Operator)(t:wV):Prop :=
 ∀(pins:List (Addr × Obj)) (s:Shared) (σ:St) (H:Hp) (x y:V) (v u:Value) (Q:VK),Inv X pins σ H s->RelV x v->RelV y u->t x y H Q ->
  wpAny (model X.prog X.w) X.A (inplaceOp op v u) (EP X pins σ Q) X.xe s
section
variable{X:Cx}{pos:Pos}
def BY(i:Nat):TG:=λv σ H Q=>Q (σ.set i (some v)) H
theorem BZ{i:Nat}{x:Str}(hN:X.N.Nodup)(hi:X.N[i]?=some x)(hx:Loc X.env.scope x)(hf:X.fn x=true\/X.env.scope.names.lookup x=some .local:=by first | exact .inl rfl | exact .inr rfl | assumption):PG X (.Name x pos) (BY i):=by
 intro pins s σ H v u Q I r h
 exact wpAny_assign_Name (Fz I hN hi hx r (λs' I'=>⟨_,H,I',h⟩) hf)
def Za:u6:=λvs σ H Q=>vs=[]/\Q σ H
def Zb(t:TG)(u:u6):u6:=λvs σ H Q=>∃v r,vs=v::r/\t v σ H λaL H'=>u r aL H' Q
theorem Zc:BX X [] Za:=by
 intro pins s σ H vs us Q I r h
 obtain⟨e,h⟩:=h
 subst e
 cases r
 exact assignInOrder_nil ⟨σ,H,I,h⟩
theorem N1{e:Expr}{es:List Expr}{t:TG}{u:u6}(h1:PG X e t)(h2:BX X es u)
  (hs:(assignEach (e::es) X.env).map (·.2)=assign e X.env::(assignEach es X.env).map (·.2):=by rfl):BX X (e::es) (Zb t u):=by
 intro pins s σ H vs us Q I r h
 obtain⟨v,vr,e1,h⟩:=h
 subst e1
 cases r with
 | cons r rr =>
  rw[hs]
  refine assignInOrder_cons (aN (h1 pins s σ H _ _ _ I r h) λ_ s1 ⟨iD,H1,I1,q1⟩=>?_)
  exact h2 pins s1 iD H1 _ _ Q I1 rr q1
def Zd(K:PySem.W.Frag)(n:Nat)(t:u6):TG:=λv σ H Q=>∃a xs,v=.ref a/\iX K H a xs/\xs.length=n/\t xs σ H Q
theorem Ze{es:List Expr}{k:Nat}{t:u6}{n:Nat}(hc:X.calm=true)(h:BX X es t)
  (hn:(assignEach es X.env).length=n:=by rfl) (gJ:(assignEach es X.env).findIdx? (·.1)=none:=by rfl):PG X (.Tuple es k pos) (Zd X.K n t):=by
 intro pins s σ H v u Q I r hw
 obtain⟨a,xs,e1,hq,hl,hw⟩:=hw
 subst e1
 cases r
 obtain⟨its,rv,ht,hz⟩:=I.tuple hq
 refine assign_Tuple_tuple (I.ok.hd hc) ht (by simp[hn,<- hl,rv.length]) gJ λh' hx=>?_
 have I1:Inv X pins σ H { s with heap:=h' }:=I.kept (t':=s.toks) λb o e=>hx b o (gb (cg e)) e
 exact h pins _ σ H xs _ Q I1 (by simpa using rv) hw
def Zf(to ti:TE)(t:yF):TG:=λv σ H Q=>to σ H λo H1=>ti σ H1 λi H2=>t o i v H2 λH3=>Q σ H3
theorem Zg{o i:Expr}{to ti:TE}{t:yF}(ho:PE X o to)(hi:PE X i ti)(hs:FA X t)
  (ha:∀v,assign (.Subscript o i pos) X.env v=(do
   let ov<-holding [v] (eval o X.env)
   let iv<-holding [v,ov] (eval i X.env)
   standAt pos
   holding [v,ov,iv] (setItem ov iv v)
   release [v,ov,iv] []):=by intro _;rfl):PG X (.Subscript o i pos) (Zf to ti t):=by
 intro pins s σ H v u Q I r h
 rw[ha]
 refine wpAny_bind (wpAny_holding (aN (ho pins s σ H _ I h) λov s1 ⟨x,H1,I1,r1,q1⟩=>?_))
 refine wpAny_bind (wpAny_holding (aN (hi pins s1 σ H1 _ I1 q1) λiv s2 ⟨y,H2,I2,r2,q2⟩=>?_))
 refine wpAny_bind (wpAny_standAt (wpAny_bind (wpAny_holding (aN (hs pins s2 σ H2 x y v ov iv u _ I2 r1 r2 r q2) λ_ s3 ⟨H3,I3,q3⟩=>?_))))
 exact wpAny_release ⟨σ,H3,I3,q3⟩
def FD(te:TE)(g:TG):TS:=λD σ H=>te σ H λx H1=>g x σ H1 D.nx
theorem Zh{tg e:Expr}{te:TE}{g:TG}(he:PE X e te)(hg:PG X tg g)(hs:swapsWithSole [tg] e pos.line X.env=pure false:=by rfl)(hw:swappedStores [tg] e X.env=pure none:=by rfl)
  (h1:(assignEach [tg] X.env).map (·.2)=[assign tg X.env]:=by rfl):PS X (.Assign [tg] e pos) (FD te g):=by
 intro pins s σ H D I h
 refine wpAny_Assign_stores (aN (he pins s σ H _ I h) λv s1 ⟨x,H1,I1,r1,q1⟩=>?_) hs hw
 rw[h1]
 exact aN (hg pins s1 σ H1 x v _ I1 r1 q1) λ_ s2 q=>q
theorem FE{i:Nat}{x:Str}{e:Expr}{te:TE}{pos':Pos}(hN:X.N.Nodup)(hi:X.N[i]?=some x)(hx:Loc X.env.scope x)(he:PE X e te)(hs:swapsWith e (some (.Name x pos')) pos.line X.env=pure false:=by rfl)(hf:X.fn x=true\/X.env.scope.names.lookup x=some .local:=by first | exact .inl rfl | exact .inr rfl | assumption) :
  PS X (.Assign [.Name x pos'] e pos) (FD te (BY i)):=by
 intro pins s σ H D I h
 refine wpAny_Assign_Name (aN (he pins s σ H _ I h) λv s1 ⟨y,H1,I1,r1,q1⟩=>?_) hs
 exact Fz I1 hN hi hx r1 (λs2 I2=>⟨_,H1,I2,q1⟩) hf
def Zi(i:Nat)(te:TE)(ti:wV):TS:=λD σ H=>∃x,σ[i]?=some (some x)/\te σ H λy H1=>ti x y H1 λz H2=>D.nx (σ.set i (some z)) H2
theorem Zj{i:Nat}{x:Str}{e:Expr}{te:TE}{op:Operator}{ti:wV}{pos':Pos}(hN:X.N.Nodup)(hi:X.N[i]?=some x)(hx:Loc X.env.scope x)(he:PE X e te)(ho:FC X op ti)(hf:X.fn x=true\/X.env.scope.names.lookup x=some .local:=by first | exact .inl rfl | exact .inr rfl | assumption) :
  PS X (.AugAssign (.Name x pos') op e pos) (Zi i te ti):=by
 intro pins s σ H D I h
 obtain⟨v,e1,h⟩:=h
 obtain⟨m,hn,hl⟩:=I.loc
 have Zk:lF X.env.scope x:=by rcases hx with k | k;exact .inl k;exact .inr (.inl k)
 obtain⟨u,r,l⟩:=hl i x v hi e1 Zk
 refine wpAny_AugAssign_Name ?_
 have go:wpAny (model X.prog X.w) X.A (eval e X.env) (λw u7=>wpAny (model X.prog X.w) X.A (inplaceOp op u w) (λr Zl=>wpAny (model X.prog X.w) X.A (storeName X.env x r) (λ_=>SP X pins D .next) X.xe Zl) X.xe u7) X.xe s:=by
  refine aN (he pins s σ H _ I h) λw s1 ⟨y,H1,I1,r1,q1⟩=>?_
  refine aN (ho pins s1 σ H1 v y u w _ I1 r r1 q1) λz s2 ⟨zv,H2,I2,r2,q2⟩=>?_
  exact Fz I2 hN hi hx r2 (λs3 I3=>⟨_,H2,I3,q2⟩) hf
 rcases l with⟨hk,hm⟩ | ⟨hk,c,hc,BP⟩
 ·exact wpAny_loadName_local I.ok.kind hk hn hm go
 ·rcases hk with hk | hk
  ·exact wpAny_loadName_cell I.ok.kind hk hc BP go
  ·rcases hx with k | k
   ·have:X.env.scope.names.lookup x=some .free:=hk
    rw[k]at this;cases this
   ·have:X.env.scope.names.lookup x=some .free:=hk
    rw[k]at this;cases this
def Zm(to ti te:TE)(B0:V->V->Hp->VK->Prop)(B4:wV)(B5:yF):TS:=λD σ H=>to σ H λo H1=>ti σ H1 λi H2=>B0 o i H2 λx H3=>te σ H3 λy H4=>B4 x y H4 λz H5=>B5 o i z H5 λH6=>D.nx σ H6
def N2(X:Cx)(t:V->V->Hp->VK->Prop):Prop :=
 ∀(pins:List (Addr × Obj)) (s:Shared) (σ:St) (H:Hp) (o i:V) (ov iv:Value) (Q:VK),Inv X pins σ H s->RelV o ov->RelV i iv->t o i H Q ->
  wpAny (model X.prog X.w) X.A (getItem ov iv) (EP X pins σ Q) X.xe s
theorem Zn{o i e:Expr}{to ti te:TE}{B0:V->V->Hp->VK->Prop}{B4:wV}{B5:yF}{op:Operator}{p5:Pos}(ho:PE X o to)(hi:PE X i ti)(hg:N2 X B0)(he:PE X e te)(hp:FC X op B4)(hs:FA X B5)
  (ha:∀ov iv new,augStore i ov iv new=(do holding [new,ov,iv] (setItem ov iv new);release [new,ov,iv] [];pure .next):=by intros;rfl):PS X (.AugAssign (.Subscript o i p5) op e pos) (Zm to ti te B0 B4 B5):=by
 intro pins s σ H D I h
 refine wpAny_AugAssign_SubscriptAny (aN (ho pins s σ H _ I h) λov s1 ⟨x1,H1,I1,r1,q1⟩=>?_) ha
 refine aN (hi pins s1 σ H1 _ I1 q1) λiv s2 ⟨x2,H2,I2,r2,q2⟩=>?_
 refine aN (hg pins s2 σ H2 x1 x2 ov iv _ I2 r1 r2 q2) λold s3 ⟨x3,H3,I3,r3,q3⟩=>?_
 refine aN (he pins s3 σ H3 _ I3 q3) λv s4 ⟨x4,H4,I4,r4,q4⟩=>?_
 refine aN (hp pins s4 σ H4 x3 x4 old v _ I4 r3 r4 q4) λnew s5 ⟨x5,H5,I5,r5,q5⟩=>?_
 exact aN (hs pins s5 σ H5 x1 x2 x5 ov iv new _ I5 r1 r2 r5 q5) λ_ s6 ⟨H6,I6,q6⟩=>⟨σ,H6,I6,q6⟩
def Zo(f:Int->Int->Int):wV:=λx y H Q=>∃i j,x=.int i/\y=.int j/\Q (.int (f i j)) H
theorem Zp:FC X .Add (Zo λi j=>i+j):=by
 intro pins s σ H x y v u Q I r1 r2 h
 obtain⟨i,j,e1,e2,q⟩:=h
 subst e1;subst e2
 obtain⟨t,rfl⟩:=r1
 obtain⟨t',rfl⟩:=r2
 exact iadd_int ⟨.int _,H,I.tok _,⟨_,rfl⟩,q⟩
end
section
variable{X:Cx}{pos:Pos}
def Zq(c:TT)(tb:TS):TS:=λD σ H=>∃W:Nat->St->Hp->Prop,(∃m,W m σ H)/\∀m σ H,W m σ H ->
 c σ H λb H1=>if b=true then ∃N:St->Hp->Prop,(∀aL H',N aL H'->∃m',m'<m/\W m' aL H')/\tb { D with nx:=N,ct:=N,bk:=D.nx } σ H1 else D.nx σ H1
theorem Zr{c:Expr}{body:List Stmt}{tc:TT}{tb:TS}(hp:PassesOwn (model X.prog X.w) X.A X.env X.xe)(hc:PT X c tc)(hb:PSs X body tb):PS X (.While c body [] pos) (Zq tc tb):=by
 intro pins s σ H D I h
 obtain⟨W,⟨m0,w0⟩,turn⟩:=h
 refine wpAny_While (codeAny_whileLoop (λn s'=>∃aL H',Inv X pins aL H' s'/\W n aL H') ?_ m0 ⟨σ,H,I,w0⟩)
 rintro n s1 ⟨iD,H1,I1,w1⟩
 refine wpAny_passesOwn hp (aN (hc pins s1 iD H1 _ I1 (turn n iD H1 w1)) λb s2 ⟨H2,I2,q2⟩=>?_)
 cases b with
 | true =>
  obtain⟨N,hN,q2⟩:=q2
  rw[if_pos rfl]
  refine wpAny_passesOwn hp (aN (hb pins s2 iD H2 _ I2 q2) λf s3 q3=>?_)
  cases f with
  | next =>
   obtain⟨p7,H3,I3,n3⟩:=q3
   obtain⟨m',hm,w3⟩:=hN p7 H3 n3
   exact⟨m',hm,p7,H3,I3,w3⟩
  | cont =>
   obtain⟨p7,H3,I3,n3⟩:=q3
   obtain⟨m',hm,w3⟩:=hN p7 H3 n3
   exact⟨m',hm,p7,H3,I3,w3⟩
  | brk=>exact q3
  | ret v=>exact q3
 | false =>
  rw[if_neg jk]
  exact wpAny_execs_nil ⟨iD,H2,I2,q2⟩
end
structure It where
 go:Nat->Hp->Prop
 oj:Nat->Hp->V->Hp->Prop
 stop:Nat->Hp->Prop
def j6(X:Cx)(pins:List (Addr × Obj))(H:Hp)(b:Addr):Prop :=
 H b=none/\b≠X.env.locals/\b ∉ X.fs/\(b∈X.ex\/X.eQ.heap.objs.size<=b)/\(∀x c,X.env.cells.lookup x=some c->c≠b)/\∀p∈X.pn++pins,p.1≠b
theorem Inv.B6{X:Cx}{pins:List (Addr × Obj)}{σ:St}{H H':Hp}{s:Shared}{b:Addr}(I:Inv X pins σ H s)(hb:s.heap.objs.size<=b)(hn:H' b=none):j6 X pins H' b:=by
 refine⟨hn,Nat.ne_of_gt (dd I.lt hb),I.NS hb,.inr (cQ I.sz hb),λx c e z=>?_,λp hp z=>?_⟩
 ·obtain⟨v,q⟩:=I.cell x c e
  exact absurd (dd q.lt (by rw[z];exact hb)) (iq _)
 ·exact absurd (dd (cg (I.pin p hp).1) (by rw[z];exact hb)) (iq _)
structure Turn(P:Program)(w:World)(K:PySem.W.Frag)(tg:Expr)(J:It)(fp:List Addr)(it:Addr)(tn:Nat->Heap->Prop):Prop where
 mem:it∈fp
 obj:∀i h,tn i h->∀b∈fp,∃o,h.get? b=some o/\∀v,o.data≠.cell v
 keep:∀i h h',tn i h->(∀b∈fp,∀o,h.get? b=some o->h'.get? b=some o)->tn i h'
 item:∀(X:Cx),X.prog=P->X.w=w->X.K=K->X.calm=true->∀(i:Nat) (pins:List (Addr × Obj)) (s:Shared) (σ:St) (H:Hp) (E:Value->Shared->Prop),Inv X pins σ H s->(∀b∈fp,j6 X pins H b)->tn i s.heap->J.go i H ->
  wpAny (model P w) X.A (pyNext (.ref it)) (λr s1=>∃u,r=some u /\
   wpAny (model P w) X.A (letOwnedTupleGo tg (.ref it) u) (λ_ s2=>∃x H',Inv X pins σ H' s2/\RelV x u/\J.oj i H x H'/\tn (i+1) s2.heap/\∀b∈fp,H' b=none) E s1) E s
 done:∀(X:Cx),X.prog=P->X.w=w->X.K=K->X.calm=true->∀(i:Nat) (pins:List (Addr × Obj)) (s:Shared) (σ:St) (H:Hp) (E:Value->Shared->Prop),Inv X pins σ H s->(∀b∈fp,j6 X pins H b)->tn i s.heap->J.stop i H ->
  wpAny (model P w) X.A (pyNext (.ref it)) (λr s1=>r=none/\Inv X pins σ H s1) E s
 self:∀(A:Around) (i:Nat) (s:Shared) (Q:Value->Shared->Prop) (E:Value->Shared->Prop),tn i s.heap->Q (.ref it) s->wpAny (model P w) A (pyIter (.ref it)) Q E s
abbrev TI:=St->Hp->(It->Hp->Prop)->Prop
def N3(X:Cx)(pins:List (Addr × Obj))(σ:St)(tg:Expr)(R:It->Hp->Prop)(FF:Value)(s2:Shared):Prop :=
 ∃(it:Addr) (fp:List Addr) (tn:Nat->Heap->Prop) (J:It) (H':Hp),FF=.ref it/\Inv X pins σ H' s2/\Turn X.prog X.w X.K tg J fp it tn/\tn 0 s2.heap/\(∀b∈fp,j6 X pins H' b)/\R J H'
def PI(X:Cx)(tg iter:Expr)(wi:TI):Prop :=
 ∀(pins:List (Addr × Obj)) (s:Shared) (σ:St) (H:Hp) (R:It->Hp->Prop),Inv X pins σ H s->wi σ H R ->
  wpAny (model X.prog X.w) X.A (eval iter X.env) (λv s1=>wpAny (model X.prog X.w) X.A (pyIter v) (N3 X pins σ tg R) X.xe s1) X.xe s
theorem N4{M:Model}{A:Around}{E:Value->Shared->Prop}{s:Shared}{tg:Expr}{it:Addr}{u:Value}{o:Obj}{n:String}{vs:Array Value}{Q:Unit->Shared->Prop}(ho:s.heap.get? it=some o)(hc:o.cls=.type n)(hd:o.data=.fields vs)
  (hn:["enumerate","zip","dict_itemiterator","dict_reverseitemiterator","odict_iterator","itertools.zip_longest","itertools.pairwise"].contains n=false) (hQ:Q () s):wpAny M A (letOwnedTupleGo tg (.ref it) u) Q E s:=by
 unfold letOwnedTupleGo
 cases tg<;>first
  | exact wpAny_pure hQ
  | (cases u<;>first
    | exact wpAny_pure hQ
    | (refine wpAny_bind (wpAny_load ho ?_)
       rw[hc,hd]
       show wpAny M A (if(["enumerate","zip","dict_itemiterator","dict_reverseitemiterator","odict_iterator","itertools.zip_longest","itertools.pairwise"].contains n&&vs[0]?==some (rawInt _))=true then _ else _) Q E s
       rw[if_neg (by intro h;rw[hn,kZ]at h;cases h)]
       exact wpAny_pure hQ))
def FG(K:PySem.W.Frag)(a:Addr):It :=
 ⟨λi H=>∃xs x,bI K H a xs/\xs[i]?=some x,λi H x H'=>H'=H/\∀xs,bI K H a xs->xs[i]?=some x,λi H=>∃xs,bI K H a xs/\xs.length<=i⟩
def yG(lo:Int)(n:Nat):It:=⟨λi _=>i<n,λi H x H'=>H'=H/\x=.int (lo+i),λi _=>n<=i⟩
theorem Zs{P:Program}{w:World}{K:PySem.W.Frag}{tg:Expr}(a it:Addr):Turn P w K tg (FG K a) [it] it (λi h=>h.IsListIter it a i) where
 mem:=by simp
 obj:=λi h st b hb=>by
  have e:b=it:=by simpa using hb
  subst e
  obtain⟨o,e,c,d⟩:=st
  exact⟨o,e,λv z=>by rw[d]at z;cases z⟩
 keep:=λi h h' st k=>st.at λo e=>k it (by simp) o e
 item:=by
  intro X hP hw hK hc i pins s σ H E I hf st hg
  subst hP hw hK
  obtain⟨xs,x,hq,hx⟩:=hg
  obtain⟨its,rv,p,hz⟩:=I.list hq
  obtain⟨u,hu,ru⟩:=rv.get hx
  obtain⟨f0,f1,f2,f3,f4,f5⟩:=hf it (by simp)
  refine wpAny_pyNext_list_item st p.isList (x:=u) (by simpa using hu) λh' tW sb=>?_
  have I1:Inv X pins σ H { s with heap:=h' }:=I.turned (t':=s.toks) (λb o hb e=>(sb.2 b hb).trans e) f0 f1 f3 f4 f5
  obtain⟨o,e,c,d⟩:=id tW
  exact⟨u,rfl,N4 (s:={ s with heap:=h' }) e c d (by decide) ⟨x,H,I1,ru,⟨rfl,λys hy=>by rw[I.BW hy hq];exact hx⟩,tW,λb hb=>(hf b hb).1⟩⟩
 done:=by
  intro X hP hw hK hc i pins s σ H E I hf st hg
  subst hP hw hK
  obtain⟨xs,hq,hx⟩:=hg
  obtain⟨its,rv,p,hz⟩:=I.list hq
  obtain⟨f0,f1,f2,f3,f4,f5⟩:=hf it (by simp)
  have hl:=rv.length
  exact wpAny_pyNext_list_end (I.ok.hd hc) st p.isList (by simp;omega) λh' eb=>⟨rfl,I.turned (t':=s.toks) (λb o hb e=>eb b o hb e) f0 f1 f3 f4 f5⟩
 self:=λ_ _ _ _ _ st h=>wpAny_pyIter_listiter st h
theorem Zt{P:Program}{w:World}{K:PySem.W.Frag}{tg:Expr}(it:Addr)(lo:Int)(n:Nat):Turn P w K tg (yG lo n) [it] it (λi h=>IsRangeIter h it (lo+(i:Nat)*1) ((n:Int)-(i:Nat)) 1) where
 mem:=by simp
 obj:=λi h st b hb=>by
  have e:b=it:=by simpa using hb
  subst e
  exact⟨_,st,λv z=>by
   have z':Data.fields _=Data.cell v:=z
   cases z'⟩
 keep:=λi h h' st k=>k it (by simp) _ st
 item:=by
  intro X hP hw hK hc i pins s σ H E I hf st hg
  subst hP hw hK
  obtain⟨f0,f1,f2,f3,f4,f5⟩:=hf it (by simp)
  have W:=Walks.range (prog:=X.prog) (w:=X.w) (I.ok.hd hc) it lo 1 n
  refine W.item i s _ _ hg st λv h' tk hv tW kk=>?_
  obtain⟨t,rfl⟩:=hv
  have I1:Inv X pins σ H { s with heap:=h',toks:=tk }:=I.turned (λb o hb e=>kk b o (by simpa using hb) e) f0 f1 f3 f4 f5
  refine⟨_,rfl,N4 (s:={ s with heap:=h',toks:=tk }) (n:="range_iterator") tW rfl rfl (by decide) ⟨.int (lo+i),H,I1,⟨t,?_⟩,⟨rfl,rfl⟩,tW,λb hb=>(hf b hb).1⟩⟩
  rw[uK]
 done:=by
  intro X hP hw hK hc i pins s σ H E I hf st hg
  subst hP hw hK
  obtain⟨f0,f1,f2,f3,f4,f5⟩:=hf it (by simp)
  exact wpAny_pyNext_range_end (I.ok.hd hc) st (by have:n<=i:=hg;omega) λh' eb=>⟨rfl,I.turned (t':=s.toks) (λb o hb e=>eb b o hb e) f0 f1 f3 f4 f5⟩
 self:=λ_ _ _ _ _ st h=>wpAny_pyIter_rangeiter st h
section
variable{X:Cx}{tg:Expr}
def Zu(K:PySem.W.Frag)(tl:TE):TI:=λσ H R=>tl σ H λx H1=>∃a,x=.ref a/\(∃xs,bI K H1 a xs)/\R (FG K a) H1
theorem N5{l:Expr}{tl:TE}(hl:PE X l tl):PI X tg l (Zu X.K tl):=by
 intro pins s σ H R I h
 refine aN (hl pins s σ H _ I h) λv s1 ⟨x,H1,I1,r1,q1⟩=>?_
 obtain⟨a,e,⟨xs,hq⟩,q⟩:=q1
 subst e
 cases r1
 obtain⟨its,rv,p,hz⟩:=I1.list hq
 refine wpAny_pyIter_list p.isList ?_
 refine⟨s1.heap.objs.size,[s1.heap.objs.size],_,_,H1,rfl,I1.kept (t':=s1.toks) λb o e=>gh _ e,Zs a _,⟨_,iw _ rfl,rfl,rfl⟩,λb hb=>?_,q⟩
 have e:b=s1.heap.objs.size:=by simpa using hb
 subst e
 exact I1.B6 (bG _) (I1.aK.fresh (bG _))
theorem N6{pins:List (Addr × Obj)}{σ:St}{H:Hp}{s:Shared}{R:It->Hp->Prop}{E:Value->Shared->Prop}{lo hi:Int}{t u v:Tok}{tk:Nat}(I:Inv X pins σ H s)(h1:-(2 ^ 62)<=lo)(h2:lo<2 ^ 62)(h3:-(2 ^ 62)<=hi)(h4:hi<2 ^ 62)
  (q:R (yG lo (hi-lo).toNat) H):wpAny (model X.prog X.w) X.A (pyIter (.ref s.heap.objs.size)) (N3 X pins σ tg R) E { s with heap:=s.heap.push { cls:=.type "range",data:=.fields #[.int lo t,.int hi u,.int 1 v] },toks:=tk }:=by
 refine wpAny_pyIter_range (IsRange.new ..) (small_one h1 h2 h3 h4) ?_
 have I1:Inv X pins σ H { s with heap:=s.heap.push { cls:=.type "range",data:=.fields #[.int lo t,.int hi u,.int 1 v] },toks:=tk }:=I.kept λb o e=>gh _ e
 refine⟨(s.heap.push { cls:=.type "range",data:=.fields #[.int lo t,.int hi u,.int 1 v] }).objs.size,[(s.heap.push { cls:=.type "range",data:=.fields #[.int lo t,.int hi u,.int 1 v] }).objs.size],_,_,H,rfl,
  I1.kept (t':=tk) λb o e=>gh _ e,Zt _ lo (hi-lo).toNat,?_,λb hb=>?_,q⟩
 ·have e1:lo+((0:Nat):Int)*1=lo:=by simp
  have e2:(((hi-lo).toNat:Nat):Int)-((0:Nat):Int)=Builtin.Range.rangeSize lo hi 1:=by rw[rangeSize_one];split<;>omega
  show IsRangeIter _ _ (lo+((0:Nat):Int)*1) ((((hi-lo).toNat:Nat):Int)-((0:Nat):Int)) 1
  rw[e1,e2]
  exact iw _ rfl
 ·have e:b=(s.heap.push { cls:=.type "range",data:=.fields #[.int lo t,.int hi u,.int 1 v] }).objs.size:=by simpa using hb
  subst e
  exact I1.B6 (bG _) (I1.aK.fresh (bG _))
def Zv(ta:TA):TI:=λσ H R=>ta σ H λvs H1=>∃j:Int,vs=[.int j]/\-(2 ^ 62)<=j/\j<2 ^ 62/\R (yG 0 j.toNat) H1
def Zw(ta:TA):TI:=λσ H R=>ta σ H λvs H1=>∃i j:Int,vs=[.int i,.int j]/\(-(2 ^ 62)<=i/\i<2 ^ 62/\-(2 ^ 62)<=j/\j<2 ^ 62)/\R (yG i (j-i).toNat) H1
theorem Zx{a:Expr}{ta:TA}{p pos:Pos}(hg:Gl X "range")(hm:X.mg "range"=none)(ha:PA X [a] ta)(hs:starEach [a] X.env=[(false,eval a X.env)]:=by rfl):PI X tg (.Call (.Name "range" p) [a] [] pos) (Zv ta):=by
 intro pins s σ H R I h
 refine Call_ (rW I hg hm boot_range (we (aN (ha pos pins s σ H _ I h) λus s1 ⟨vs,H1,I1,r1,q1⟩=>?_) hs rfl))
 obtain⟨j,e,q1,q2,q⟩:=q1
 subst e
 cases r1 with
 | cons r rr =>
  cases rr
  obtain⟨t,rfl⟩:=r
  exact call_range_1 (N6 I1 (by omega) (by omega) q1 q2 (by simpa using q))
theorem Zy{a b:Expr}{ta:TA}{p pos:Pos}(hg:Gl X "range")(hm:X.mg "range"=none)(ha:PA X [a,b] ta)(hs:starEach [a,b] X.env=[(false,eval a X.env),(false,eval b X.env)]:=by rfl)(dD:starEach [b] X.env=[(false,eval b X.env)]:=by rfl) :
  PI X tg (.Call (.Name "range" p) [a,b] [] pos) (Zw ta):=by
 intro pins s σ H R I h
 refine Call_ (rW I hg hm boot_range (we (aN (ha pos pins s σ H _ I h) λus s1 ⟨vs,H1,I1,r1,q1⟩=>?_) (by rw[hs,dD]) (by rw[dD];rfl)))
 obtain⟨i,j,e,⟨q1,q2,q3,q4⟩,q⟩:=q1
 subst e
 cases r1 with
 | cons r rr =>
  cases rr with
  | cons r' rr =>
   cases rr
   obtain⟨t,rfl⟩:=r
   obtain⟨t',rfl⟩:=r'
   exact call_range_2 (N6 I1 q1 q2 q3 q4 q)
def Zz(wi:TI)(g:TG)(tb:TS):TS:=λD σ H=>wi σ H λJ H1=>∃W:Nat->Nat->St->Hp->Prop,(∃m,W 0 m σ H1)/\∀i m σ H,W i m σ H ->
 (J.stop i H/\D.nx σ H)\/(J.go i H/\∃N:St->Hp->Prop,(∀aL H',N aL H'->∃m',m'<m/\W (i+1) m' aL H')/\∀x H',J.oj i H x H'->g x σ H' λqV H2=>tb { D with nx:=N,ct:=N,bk:=D.nx } qV H2)
def yH(fp:List Addr)(h:Heap):List (Addr × Obj):=fp.filterMap λb=>(h.get? b).map λo=>(b,o)
theorem B7{fp:List Addr}{h:Heap}{b:Addr}{o:Obj}(hb:b∈fp)(e:h.get? b=some o):(b,o)∈yH fp h:=MZ.mpr ⟨b,hb,by rw[e];rfl⟩
theorem ZA{fp:List Addr}{h:Heap}{p:Addr × Obj}(hp:p∈yH fp h):p.1∈fp/\h.get? p.1=some p.2:=by
 obtain⟨b,hb,e⟩:=MZ.mp hp
 cases q:h.get? b with
 | none=>rw[q]at e;cases e
 | some o =>
  rw[q]at e
  have e':(b,o)=p:=de e
  subst e'
  exact⟨hb,q⟩
theorem Inv.pinned{pins:List (Addr × Obj)}{σ:St}{H:Hp}{s:Shared}{fp:List Addr}(I:Inv X pins σ H s)(hf:∀b∈fp,j6 X pins H b)(ho:∀b∈fp,∃o,s.heap.get? b=some o/\∀v,o.data≠.cell v):Inv X (pins++yH fp s.heap) σ H s :=
 I.NV λp hp=>(bV.mp hp).elim (λz=>I.pin p (dv _ z)) λz=>by
  obtain⟨hb,e⟩:=ZA z
  obtain⟨f0,f1,f2,_⟩:=hf p.1 hb
  obtain⟨o,e',d⟩:=ho p.1 hb
  rw[e]at e';cases e'
  exact⟨e,f0,f1,f2,d⟩
theorem Inv.yI{pins pl:List (Addr × Obj)}{σ:St}{H:Hp}{s:Shared}(I:Inv X (pins++pl) σ H s):Inv X pins σ H s:=I.NV λp hp=>I.pin p (dv _ (fI _ hp))
theorem ZC{iter:Expr}{body:List Stmt}{wi:TI}{g:TG}{tb:TS}{pos:Pos}(hp:PassesOwn (model X.prog X.w) X.A X.env X.xe)(hc:X.calm=true)(hi:PI X tg iter wi)(hg:PG X tg g)(hb:PSs X body tb)
  (hs:∀x,foldedSetIterable iter X.env x=pure x:=by intro _;rfl):PS X (.For tg iter body [] pos) (Zz wi g tb):=by
 intro pins s σ H D I h
 refine wpAny_For (aN (hi pins s σ H _ I h) λv s1 h1=>aN h1 λFF s2 h2=>?_) hs
 obtain⟨it,fp,tn,J,H2,e,I2,T,yJ,f2,W,⟨m0,w0⟩,turn⟩:=h2
 subst e
 have FH:∀{H':Hp},(∀b∈fp,H' b=none)->∀b∈fp,j6 X pins H' b:=λhn b hb=>⟨hn b hb,(f2 b hb).2⟩
 refine codeAny_forLoop_any (λn s'=>∃i aL H',Inv X pins aL H' s'/\tn i s'.heap/\(∀b∈fp,H' b=none)/\W i n aL H') ?_ m0 ⟨0,σ,H2,I2,yJ,λb hb=>(f2 b hb).1,w0⟩
 rintro n s3 ⟨i,p7,H3,I3,N7,FI,w3⟩
 rcases turn i n p7 H3 w3 with⟨stop,qn⟩ | ⟨go,N,hN,step⟩
 ·refine wpAny_passesOwn hp (aN (T.done X rfl rfl rfl hc i pins s3 p7 H3 X.xe I3 (FH FI) N7 stop) λr s4 ⟨hr,I4⟩=>?_)
  subst hr
  exact wpAny_execs_nil ⟨p7,H3,I4,qn⟩
 ·refine wpAny_passesOwn hp (aN (T.item X rfl rfl rfl hc i pins s3 p7 H3 X.xe I3 (FH FI) N7 go) λr s4 ⟨u,hr,h4⟩=>?_)
  subst hr
  refine wpAny_passesOwn hp (aN h4 λ_ s5 ⟨x,H5,I5,r5,y5,u9,yK⟩=>?_)
  have FJ:=I5.pinned (FH yK) (T.obj _ _ u9)
  refine wpAny_passesOwn hp (aN (hg _ s5 p7 H5 x u _ FJ r5 (step x H5 y5)) λ_ s6 ⟨FK,H6,I6,q6⟩=>?_)
  refine wpAny_passesOwn hp (aN (hb _ s6 FK H6 _ I6 q6) λf s7 q7=>?_)
  have again:∀{p8:St} {H7:Hp},Inv X (pins++yH fp s5.heap) p8 H7 s7->N p8 H7->∃m,m<n/\∃i aL H',Inv X pins aL H' s7/\tn i s7.heap/\(∀b∈fp,H' b=none)/\W i m aL H':=λ{p8 H7} I7 n7=>by
   obtain⟨m',hm,w7⟩:=hN p8 H7 n7
   refine⟨m',hm,i+1,p8,H7,I7.yI,T.keep _ _ _ u9 λb hb o e=>(I7.pin (b,o) (dv _ (dv _ (B7 hb e)))).1,λb hb=>?_,w7⟩
   obtain⟨o,e,d⟩:=T.obj _ _ u9 b hb
   exact(I7.pin (b,o) (dv _ (dv _ (B7 hb e)))).2.1
  cases f with
  | next=>obtain⟨p8,H7,I7,n7⟩:=q7;exact again I7 n7
  | cont=>obtain⟨p8,H7,I7,n7⟩:=q7;exact again I7 n7
  | brk=>obtain⟨p8,H7,I7,q7⟩:=q7;exact⟨p8,H7,I7.yI,q7⟩
  | ret v=>obtain⟨x7,p8,H7,I7,r7,q7⟩:=q7;exact⟨x7,p8,H7,I7.yI,r7,q7⟩
end
abbrev R2:=V->V->Hp->VK->Prop
def cI(X:Cx)(f:Value->Value->Sem Value)(r:R2):Prop :=
 ∀(pins:List (Addr × Obj)) (s:Shared) (σ:St) (H:Hp) (x y:V) (v u:Value) (Q:VK),Inv X pins σ H s->RelV x v->RelV y u->r x y H Q ->
  wpAny (model X.prog X.w) X.A (f v u) (EP X pins σ Q) X.xe s
def FL(X:Cx)(f:Value->Sem Value)(r:V->Hp->VK->Prop):Prop :=
 ∀(pins:List (Addr × Obj)) (s:Shared) (σ:St) (H:Hp) (x:V) (v:Value) (Q:VK),Inv X pins σ H s->RelV x v->r x H Q ->
  wpAny (model X.prog X.w) X.A (f v) (EP X pins σ Q) X.xe s
def g5(X:Cx)(f:Value)(r:List V->Hp->VK->Prop):Prop :=
 ∀(pins:List (Addr × Obj)) (s:Shared) (σ:St) (H:Hp) (xs:List V) (us:List Value) (Q:VK),Inv X pins σ H s->Vals xs us->r xs H Q ->
  wpAny (model X.prog X.w) X.A (call f us) (EP X pins σ Q) X.xe s
def yL(r:R2)(ta tb:TE):TE:=λσ H Q=>ta σ H λx H1=>tb σ H1 λy H2=>r x y H2 Q
def ZD(r:V->Hp->VK->Prop)(ta:TE):TE:=λσ H Q=>ta σ H λx H1=>r x H1 Q
def rI(C:Int->Int->Prop)(g:Int->Int->V):R2:=λx y H Q=>∃i j,x=.int i/\y=.int j/\C i j/\Q (g i j) H
def lJ(g:Int->Int->V):R2:=λx y H Q=>∃i j,x=.int i/\y=.int j/\Q (g i j) H
def rU(g:Int->V):V->Hp->VK->Prop:=λx H Q=>∃i,x=.int i/\Q (g i) H
section
variable{X:Cx}{a b c:Expr}{ta tb tc:TE}{pos:Pos}
theorem FN(ha:PE X a ta)(hb:PE X b tb){pins:List (Addr × Obj)}{s:Shared}{σ:St}{H:Hp}{R:V->V->Hp->Prop}(I:Inv X pins σ H s)
  (h:ta σ H λx H1=>tb σ H1 λy H2=>R x y H2) {Q:Value->Shared->Prop} {f:Value->Value->Sem Value}
  (hf:∀v u s2 x y H2,Inv X pins σ H2 s2->RelV x v->RelV y u->R x y H2->wpAny (model X.prog X.w) X.A (f v u) Q X.xe s2) :
  wpAny (model X.prog X.w) X.A (eval a X.env) (λv bH=>wpAny (model X.prog X.w) X.A (eval b X.env) (λu u7=>wpAny (model X.prog X.w) X.A (f v u) Q X.xe u7) X.xe bH) X.xe s:=by
 refine aN (ha pins s σ H _ I h) λv s1 ⟨x,H1,I1,r1,q1⟩=>?_
 refine aN (hb pins s1 σ H1 _ I1 q1) λu s2 ⟨y,H2,I2,r2,q2⟩=>?_
 exact hf v u s2 x y H2 I2 r1 r2 q2
theorem yM{op:Operator}{r:R2}(ho:cI X (binaryOp op) r)(ha:PE X a ta)(hb:PE X b tb):PE X (.BinOp a op b pos) (yL r ta tb):=by
 intro pins s σ H Q I h
 exact wpAny_BinOp (FN ha hb I h λv u s2 x y H2 I2 rx ry q=>ho pins s2 σ H2 x y v u Q I2 rx ry q)
theorem ZE{op:UnaryOp}{r:V->Hp->VK->Prop}(ho:FL X (unaryOp op) r)(ha:PE X a ta):PE X (.UnaryOp op a pos) (ZD r ta):=by
 intro pins s σ H Q I h
 exact UnaryOp_ (aN (ha pins s σ H _ I h) λv s1 ⟨x,H1,I1,r1,q1⟩=>ho pins s1 σ H1 x v Q I1 r1 q1)
theorem wW{f:Value->Value->Sem Value}{C:Int->Int->Prop}{g:Int->Int->Int}
  (rule:∀(i j:Int) (t u:Tok) (s:Shared) (Q:Value->Shared->Prop) (E:Value->Shared->Prop),C i j->Q (.int (g i j) s.toks) { s with toks:=s.toks+1 }->wpAny (model X.prog X.w) X.A (f (.int i t) (.int j u)) Q E s) :
  cI X f (rI C λi j=>.int (g i j)):=by
 intro pins s σ H x y v u Q I rx ry h
 obtain⟨i,j,rfl,rfl,hc,q⟩:=h
 obtain⟨t,rfl⟩:=rx
 obtain⟨t',rfl⟩:=ry
 exact rule i j t t' s _ _ hc ⟨.int (g i j),H,I.tok _,⟨_,rfl⟩,q⟩
theorem wX{f:Value->Value->Sem Value}{g:Int->Int->Int}
  (rule:∀(i j:Int) (t u:Tok) (s:Shared) (Q:Value->Shared->Prop) (E:Value->Shared->Prop),Q (.int (g i j) s.toks) { s with toks:=s.toks+1 }->wpAny (model X.prog X.w) X.A (f (.int i t) (.int j u)) Q E s) :
  cI X f (lJ λi j=>.int (g i j)):=by
 intro pins s σ H x y v u Q I rx ry h
 obtain⟨i,j,rfl,rfl,q⟩:=h
 obtain⟨t,rfl⟩:=rx
 obtain⟨t',rfl⟩:=ry
 exact rule i j t t' s _ _ ⟨.int (g i j),H,I.tok _,⟨_,rfl⟩,q⟩
theorem B8{f:Value->Value->Sem Value}{g:Int->Int->Bool}
  (rule:∀(i j:Int) (t u:Tok) (s:Shared) (Q:Value->Shared->Prop) (E:Value->Shared->Prop),Q (.bool (g i j)) s->wpAny (model X.prog X.w) X.A (f (.int i t) (.int j u)) Q E s) :
  cI X f (lJ λi j=>.bl (g i j)):=by
 intro pins s σ H x y v u Q I rx ry h
 obtain⟨i,j,rfl,rfl,q⟩:=h
 obtain⟨t,rfl⟩:=rx
 obtain⟨t',rfl⟩:=ry
 exact rule i j t t' s _ _ ⟨.bl (g i j),H,I,rfl,q⟩
def gi(i j:Int):Prop:=(-(2 ^ 64)<i/\i<2 ^ 64)\/(-(2 ^ 64)<j/\j<2 ^ 64)
theorem gi.ok{i j:Int}(h:gi i j):IntMulOk i j:=by
 rcases h with⟨h1,h2⟩ | ⟨h1,h2⟩
 ·exact .of_left (intBits_le_64 h1 h2)
 ·exact .of_right (intBits_le_64 h1 h2)
theorem ZF(k:Nat):(0:Int)<=2 ^ k:=by
 rw[two_pow_cast]
 exact M0 _
theorem ZG:cI X (binaryOp .Add) (lJ λi j=>.int (i+j)):=wX λ_ _ _ _ _ _ _ q=>add_int q
theorem FP:cI X (binaryOp .Sub) (lJ λi j=>.int (i-j)):=wX λ_ _ _ _ _ _ _ q=>sub_int q
theorem ZH:cI X (binaryOp .Mod) (rI (λ_ j=>0<j) λi j=>.int (i%j)):=wW λi j _ _ _ _ _ hc q=>by
 have h1:(0:Int)<j:=hc
 exact mod_int' (by omega) (by rw[Int.fmod_eq_emod_of_nonneg i (by omega)];exact q)
theorem ZI:cI X (binaryOp .RShift) (rI (λ_ j=>0<=j) λi j=>.int (i/2 ^ j.toNat)):=wW λi j _ _ _ _ _ hc q =>
 rshift_int hc (by rw[XW i (ZF _)];exact q)
theorem ZJ:cI X (binaryOp .BitAnd) (lJ λi j=>.int (uL i j)):=wX λ_ _ _ _ _ _ _ q=>and_int q
theorem ZK:cI X (binaryOp .BitXor) (lJ λi j=>.int (tI i j)):=wX λ_ _ _ _ _ _ _ q=>xor_int q
theorem ZL:cI X (inplaceOp .Add) (lJ λi j=>.int (i+j)):=wX λ_ _ _ _ _ _ _ q=>iadd_int q
theorem ZM:cI X (inplaceOp .BitXor) (lJ λi j=>.int (tI i j)):=wX λ_ _ _ _ _ _ _ q=>ixor_int q
theorem ZN{f:Value->Sem Value}{g:Int->Int}
  (rule:∀(i:Int) (t:Tok) (s:Shared) (Q:Value->Shared->Prop) (E:Value->Shared->Prop),Q (.int (g i) s.toks) { s with toks:=s.toks+1 }->wpAny (model X.prog X.w) X.A (f (.int i t)) Q E s) :
  FL X f (rU λi=>.int (g i)):=by
 intro pins s σ H x v Q I rx h
 obtain⟨i,rfl,q⟩:=h
 obtain⟨t,rfl⟩:=rx
 exact rule i t s _ _ ⟨.int (g i),H,I.tok _,⟨_,rfl⟩,q⟩
theorem ZO:FL X (unaryOp .USub) (rU λi=>.int (-i)):=ZN λ_ _ _ _ _ q=>neg_int q
end
section
variable{X:Cx}{a b c:Expr}{ta tb tc:TE}{pos:Pos}
theorem ZP{pins:List (Addr × Obj)}{σ:St}{H:Hp}{s:Shared}{Q:VK}{k k':Bool}(I:Inv X pins σ H s)(q:Q (.bl k) H)(e:k=k'):EP X pins σ Q (.bool k') s:=by
 subst e
 exact⟨.bl k,H,I,rfl,q⟩
theorem ZQ:cI X (compareOp .Lt) (lJ λi j=>.bl (decide (i<j))):=B8 λ_ _ _ _ _ _ _ q=>lt_int q
theorem ZR:cI X (compareOp .LtE) (lJ λi j=>.bl (decide (i<=j))):=B8 λ_ _ _ _ _ _ _ q=>le_int q
theorem ZS:cI X (compareOp .Gt) (lJ λi j=>.bl (decide (j<i))):=B8 λ_ _ _ _ _ _ _ q=>gt_int q
theorem ZT:cI X (compareOp .GtE) (lJ λi j=>.bl (decide (j<=i))):=B8 λ_ _ _ _ _ _ _ q=>ge_int q
theorem ZU:cI X (compareOp .IsNot) (λx y H Q=>y=.aq/\Q (.bl (!decide (x=.aq))) H):=by
 intro pins s σ H x y v u Q I rx ry h
 obtain⟨rfl,q⟩:=h
 cases ry
 refine isnot_none_gen (ZP I q ?_)
 cases x<;>first
  | (cases rx;rfl)
  | (obtain⟨t,rfl⟩:=rx;rfl)
theorem cI.or{f:Value->Value->Sem Value}{r r':R2}(h:cI X f r)(h':cI X f r'):cI X f (λx y H Q=>r x y H Q\/r' x y H Q):=by
 intro pins s σ H x y v u Q I rx ry q
 rcases q with q | q
 ·exact h pins s σ H x y v u Q I rx ry q
 ·exact h' pins s σ H x y v u Q I rx ry q
theorem cj(b:Expr){op:CmpOp}(h:op≠.In:=by decide)(h2:op≠.NotIn:=by decide):behindInMarks op b=false:=by
 have e1:(op==CmpOp.In)=false:=by cases op<;>first | rfl | exact absurd rfl h
 have e2:(op==CmpOp.NotIn)=false:=by cases op<;>first | rfl | exact absurd rfl h2
 cases b<;>simp[behindInMarks,e1,e2]
theorem ZV{op:CmpOp}{r:R2}(ho:cI X (compareOp op) r)(ha:PE X a ta)(hb:PE X b tb)(hm:behindInMarks op b=false):PE X (.Compare a [op] [b] pos) (yL r ta tb):=by
 intro pins s σ H Q I h
 exact wpAny_Compare1 (FN ha hb I h λv u s2 x y H2 I2 rx ry q=>ho pins s2 σ H2 x y v u Q I2 rx ry q) hm
def N8(t:TE):TT:=λσ H Q=>t σ H λx H'=>∃k,x=.bl k/\Q k H'
theorem ZW{op:CmpOp}{r:R2}(ho:cI X (compareOp op) r)(ha:PE X a ta)(hb:PE X b tb)(hm:behindInMarks op b=false):PT X (.Compare a [op] [b] pos) (N8 (yL r ta tb)):=by
 intro pins s σ H Q I h
 refine wpAny_isTrue_Compare1 (aN (ha pins s σ H _ I h) λv s1 ⟨x,H1,I1,r1,q1⟩=>aN (hb pins s1 σ H1 _ I1 q1) λu s2 ⟨y,H2,I2,r2,q2⟩ =>
  aN (ho pins s2 σ H2 x y v u _ I2 r1 r2 q2) λc s3 ⟨z,H3,I3,r3,k,e,q3⟩=>?_) hm
 subst e
 cases r3
 exact wpAny_truthy_bool ⟨H3,I3,q3⟩
def N9(r r':R2)(ta tb tc:TE):TE:=λσ H Q=>ta σ H λx H1=>tb σ H1 λy H2=>r x y H2 λz H3=>∃k,z=.bl k /\
 (if k=true then tc σ H3 λw' H4=>r' y w' H4 Q else Q (.bl false) H3)
theorem ZX{op va:CmpOp}{r r':R2}(ho:cI X (compareOp op) r)(pY:cI X (compareOp va) r')(ha:PE X a ta)(hb:PE X b tb)(hc:PE X c tc)
  (hm:lastMarks [op,va] [b,c]=false:=by with_unfolding_all rfl):PE X (.Compare a [op,va] [b,c] pos) (N9 r r' ta tb tc):=by
 intro pins s σ H Q I h
 refine Compare_chain (aN (ha pins s σ H _ I h) λv s1 ⟨x,H1,I1,r1,q1⟩=>chain_link (aN (hb pins s1 σ H1 _ I1 q1) λu s2 ⟨y,H2,I2,r2,q2⟩ =>
  aN (ho pins s2 σ H2 x y v u _ I2 r1 r2 q2) λd s3 ⟨z,H3,I3,r3,k,e,q3⟩=>?_)) hm
 subst e
 cases r3
 refine wpAny_truthy_bool ?_
 cases k with
 | false=>exact ite_ff ⟨.bl false,H3,I3,rfl,q3⟩
 | true=>exact ite_tt (chain_last (aN (hc pins s3 σ H3 _ I3 q3) λw' s4 ⟨z',H4,I4,r4,q4⟩=>pY pins s4 σ H4 y z' u w' Q I4 r2 r4 q4))
theorem tX:(sizeLine:Nat)<2 ^ 63:=by rw[sizeLine_eq];decide
theorem ZY:cI X (binaryOp .Add) (λx y H Q=>∃i j,x=.str i/\y=.str j/\i.length+j.length<=sizeLine/\Q (.str (i++j)) H):=by
 intro pins s σ H x y v u Q I rx ry h
 obtain⟨i,j,rfl,rfl,hz,q⟩:=h
 obtain⟨t,rfl⟩:=rx
 obtain⟨t',rfl⟩:=ry
 exact add_str (λt' tk=>⟨.str (i++j),H,I.tok _,⟨_,rfl⟩,q⟩) hz
theorem yN{x:V}{us:List Value}(r:Vals [x] us):∃u,us=[u]/\RelV x u:=by
 cases r with
 | cons r1 r2=>cases r2;exact⟨_,rfl,r1⟩
theorem ZZ{x y:V}{us:List Value}(r:Vals [x,y] us):∃u w',us=[u,w']/\RelV x u/\RelV y w':=by
 cases r with
 | cons r1 r2 =>
  cases r2 with
  | cons r3 r4=>cases r4;exact⟨_,_,rfl,r1,r3⟩
theorem Z0(hc:X.calm=true):g5 X (.builtin "min") (λxs H Q=>∃i j,xs=[.int i,.int j]/\Q (.int (if j<i then j else i)) H):=by
 intro pins s σ H xs us Q I r h
 obtain⟨i,j,rfl,q⟩:=h
 obtain⟨u,w',rfl,⟨t,rfl⟩,⟨t',rfl⟩⟩:=ZZ r
 refine min_two_ints (I.ok.hd hc) λh' tk k=>⟨_,H,I.kept k,?_,q⟩
 by_cases hj:j<i
 ·rw[if_pos hj,if_pos hj];exact⟨_,rfl⟩
 ·rw[if_neg hj,if_neg hj];exact⟨_,rfl⟩
theorem Z1:g5 X (.type "int") (λxs H Q=>(∃i,xs=[.int i]/\Q (.int i) H)\/∃k,xs=[.bl k]/\Q (.int (if k then 1 else 0)) H):=by
 intro pins s σ H xs us Q I r h
 rcases h with⟨i,rfl,q⟩ | ⟨k,rfl,q⟩
 ·obtain⟨u,rfl,t,rfl⟩:=yN r
  exact call_int_int ⟨.int i,H,I,⟨_,rfl⟩,q⟩
 ·obtain⟨u,rfl,r1⟩:=yN r
  cases r1
  exact call_int_bool ⟨.int (if k then 1 else 0),H,I.tok _,⟨_,rfl⟩,q⟩
end
structure vb(h:Heap)(x dx C:Addr)(mA:Str->Option Value):Prop where
 obj:h.get? x=some (PySem.W.instObj C dx)
 ns:h.Ns1 dx mA
 ne:dx≠x
theorem Z2{h:Heap}{dx:Addr}{mA:Str->Option Value}(n:h.Ns1 dx mA):∃od,h.get? dx=some od/\∀name,PySem.W.lookIn name od=some (mA name):=by
 obtain⟨o,es,ep,ho,hd,hk,_,hm⟩:=n
 refine⟨o,ho,λname=>?_⟩
 have e:=hm name
 unfold nsFind findBy at e
 rw[<-Array.find?_toList]at e
 unfold PySem.W.lookIn
 rw[hd]
 dsimp only
 split
 ·rename_i y q
  rw[q]at e
  exact congrArg some e
 ·rename_i q
  rw[q]at e
  have a:es.toList.any (·.refKey)=false:=by
   rw[List.any_eq_false]
   intro y hy
   obtain⟨z,t,Z3⟩:=hk y (Array.mem_toList_iff.mp hy)
   simp[DictEntry.refKey,Z3]
  have a':¬ es.toList.any (·.refKey)=true:=by rw[a];exact jk
  rw[if_neg a']
  exact congrArg some e
theorem vb.look{h:Heap}{x dx C:Addr}{mA:Str->Option Value}(I:vb h x dx C mA):∃od,PySem.W.InstAt h x (PySem.W.instObj C dx) C (some od)/\∀name,PySem.W.lookIn name od=some (mA name) :=
 let⟨od,ho,hl⟩:=Z2 I.ns
 ⟨od,⟨I.obj,rfl,rfl,ho⟩,hl⟩
section
variable{prog:Program}{w:World}{A:Around}{E:Value->Shared->Prop}{s:Shared}{K:PySem.W.Frag}{x dx C f:Addr}{mA:Str->Option Value}{name:Str}{v:Value}
theorem Z4{expr:Bool}{Q:Value->Shared->Prop}(X:K.In s.heap)(I:vb s.heap x dx C mA)(hg:PySem.W.plainGet K C name=true)(hh:PySem.W.hasDictIn K C=true)
  (ha:PySem.W.findIn K (.ref C) name=some none) (hv:mA name=some v) (Z5:PySem.W.handedIn v=true) (h:Q v { s with toks:=s.toks+1 }) :
  wpAny (model prog w) A (getAttr (.ref x) name expr) Q E s:=by
 obtain⟨od,J,hl⟩:=I.look
 exact PySem.W.get_value X J (PySem.W.plainGet_of hg).1 (PySem.W.findObj_own hh ha rfl (by rw[hl,hv])) Z5 h
theorem Z6{pl:Sem Bool}{Q:Value × List Value->Shared->Prop}(X:K.In s.heap)(I:vb s.heap x dx C mA)(hg:PySem.W.plainGet K C name=true)
  (hf:PySem.W.findIn K (.ref C) name=some (some (.ref f))) (ht:PySem.W.isFn K (.ref f)=true) (hv:mA name=none) (h:Q (.ref f,[.ref x]) s) :
  wpAny (model prog w) A (getMethod (.ref x) name pl) Q E s:=by
 obtain⟨od,J,hl⟩:=I.look
 exact PySem.W.method_fn X J (PySem.W.plainGet_of hg).1 (PySem.W.plainGet_of hg).2 hf (beq_iff_eq.mp ht) (by show(PySem.W.lookIn name od).map (·.isSome)=some false;rw[hl,hv];rfl) h
theorem Z7{ns:List Str}{Q:Unit->Shared->Prop}(X:K.In s.heap)(I:vb s.heap x dx C mA)
  (hs:PySem.W.findIn K (.ref C) "__setattr__"=some (some (.builtin "object.__setattr__"))) (hp:PySem.W.plainOver K C=true) (ht:PySem.W.takerIn K C name=some none) (hh:PySem.W.hasDictIn K C=true)
  (hw:PySem.Within mA ns) (tY:ns.length<=sizeLine)
  (h:∀h',vb h' x dx C (λy=>if y=name then some v else mA y)->Heap.SameBut dx s.heap h'->Q () { s with heap:=h',toks:=s.toks+2 }) :
  wpAny (model prog w) A (setAttr (.ref x) name v) Q E s:=by
 obtain⟨od,J,hl⟩:=I.look
 refine PySem.W.set_plain X J hs (PySem.W.osa_open (s:={ s with toks:=s.toks+1 }) (r:=none) X J hp ht λb=>?_)
 obtain⟨cd,hc,u4⟩:=PySem.W.any_some hh
 have hx:s.heap.get? x=some ⟨.ref C,some dx,.plain,#[]⟩:=I.obj
 refine wpAny_bind (wpAny_pure (wpAny_bind (wpAny_bind (wpAny_loadPart hx (wpAny_bind (PySem.W.Looks.here (s:={ s with toks:=s.toks+1 }) (PySem.W.looks_clsIn X hc) ?_))))))
 rw[u4]
 refine wpAny_pure (a:=some dx) (wpAny_bind (wpAny_pure (wpAny_bind ?_)))
 refine wpAny_nsSet1 (s:={ s with toks:=s.toks+1 }) I.ns λh' yO dD=>?_
 obtain⟨oD,esD,epD,Z8,Z9,γ⟩:=yO.count (PySem.Within.cons name v hw)
 refine wpAny_bind (wpAny_lookBehind Z8 (by rw[Z9];exact pastItsLine_dict (cQ γ (by rw[eK];omega))) ?_)
 exact wpAny_pure (h _ ⟨(dD.2 _ (iu I.ne)).trans I.obj,yO,I.ne⟩ dD)
theorem ε{R:Result->Shared->Prop}{vs:List Value}{kw:List (Str × Value)}(X:K.In s.heap)(hm:PySem.W.makesIn K C=true)
  (hi:PySem.W.findIn K (.ref C) "__init__"=some (some (.ref f))) (hf:PySem.W.typeIn K (.ref f)=some (.type "function"))
  (h:codeAny (model prog w) (A.under (.builtin "type.__call__" ⟨.ref C::vs,kw⟩)) (.call (.ref f) ⟨.ref (s.heap.objs.size+1)::vs,kw⟩) (PySem.W.InitBack (s.heap.objs.size+1) R)
   { s with heap:=(s.heap.push PySem.W.emptyDict).push (PySem.W.instObj C s.heap.objs.size) }) :
  codeAny (model prog w) A (.call (.ref C) ⟨vs,kw⟩) R s:=by
 obtain⟨hh,g,d,t,os⟩:=s
 exact PySem.W.make_core (PySem.W.makes_of X hm) (PySem.W.looks_findIn X hi) (λself=>PySem.W.bind_fn X self hf) (.inl rfl) h
end
def bE(f:Str)(v:V):List (Str × V)->List (Str × V)
 | []=>[(f,v)]
 | (g,x)::r=>if g=f then(g,v)::r else(g,x)::bE f v r
theorem Oa(f g:Str)(v:V):∀fs:List (Str × V),(bE f v fs).lookup g=if g=f then some v else fs.lookup g
 | []=>by
  show qL g [(f,v)]=_
  by_cases h:g=f
  ·have hb:(g==f)=true:=beq_iff_eq.mpr h
   simp only[qL,hb,if_pos h]
  ·have hb:(g==f)=false:=beq_eq_false_iff_ne.mpr h
   simp only[qL,hb,if_neg h]
 | (k,x)::r=>by
  have ih:=Oa f g v r
  rw[show bE f v ((k,x)::r)=(if k=f then(k,v)::r else(k,x)::bE f v r) from rfl]
  by_cases hk:k=f
  ·rw[if_pos hk]
   by_cases h:g=k
   ·have hb:(g==k)=true:=beq_iff_eq.mpr h
    simp only[qL,hb,if_pos (h.trans hk)]
   ·have hb:(g==k)=false:=beq_eq_false_iff_ne.mpr h
    simp only[qL,hb,if_neg (λe:g=f=>h (e.trans hk.symm))]
  ·rw[if_neg hk]
   by_cases h:g=k
   ·have hb:(g==k)=true:=beq_iff_eq.mpr h
    simp only[qL,hb,if_neg (λe:g=f=>hk (h.symm.trans e))]
   ·have hb:(g==k)=false:=beq_eq_false_iff_ne.mpr h
    simp only[qL,hb]
    exact ih
theorem FQ(f:Str)(v:V):∀fs:List (Str × V),f∈(bE f v fs).map (·.1)/\∀g,g∈fs.map (·.1)->g∈(bE f v fs).map (·.1)
 | []=>⟨by simp[bE],λg h=>by simp at h⟩
 | (k,x)::r=>by
  obtain⟨i1,i2⟩:=FQ f v r
  rw[show bE f v ((k,x)::r)=(if k=f then(k,v)::r else(k,x)::bE f v r) from rfl]
  by_cases hk:k=f
  ·rw[if_pos hk]
   subst hk
   exact⟨by simp,λg h=>by simpa using h⟩
  ·rw[if_neg hk]
   refine⟨?_,λg h=>?_⟩
   ·rw[bR]
    exact fH _ i1
   ·rw[bR]at h ⊢
    rcases cN.mp h with e | e
    ·exact cN.mpr (.inl e)
    ·exact fH _ (i2 g e)
theorem Ob(f:Str)(v:V):∀fs:List (Str × V),(bE f v fs).length<=fs.length+1
 | []=>by simp[bE]
 | (k,x)::r=>by
  have ih:=Ob f v r
  rw[show bE f v ((k,x)::r)=(if k=f then(k,v)::r else(k,x)::bE f v r) from rfl]
  by_cases hk:k=f
  ·rw[if_pos hk,eK,eK];omega
  ·rw[if_neg hk,eK,eK];omega
theorem qP.some_of{v:V}{o:Option Value}(r:qP (some v) o):∃u,o=some u/\RelV v u:=by
 cases o with
 | none=>exact(show False from r).elim
 | some u=>exact⟨u,rfl,r⟩
theorem qP.none_of{o:Option Value}(r:qP none o):o=none:=by
 cases o with
 | none=>rfl
 | some u=>exact(show False from r).elim
theorem ζ{v:V}{u:Value}(r:RelV v u):PySem.W.handedIn u=true:=by
 cases v with
 | aq=>cases(show u=EH from r);rfl
 | bl b=>cases(show u=EI b from r);rfl
 | int i=>obtain⟨t,e⟩:=(show ∃t,u=rM i t from r);cases e;rfl
 | str x=>obtain⟨t,e⟩:=(show ∃t,u=Value.str x t from r);cases e;rfl
 | BK b=>obtain⟨t,e⟩:=(show ∃t,u=Value.bytes b t from r);cases e;rfl
 | uY b=>obtain⟨t,e⟩:=(show ∃t,u=Value.float b t from r);cases e;rfl
 | ref a=>cases(show u=gZ a from r);rfl
 | ty n=>cases(show u=Value.type n from r);rfl
section
variable{P:Program}{w:World}{H H':Hp}{h h':Heap}{a C dx:Addr}{fs fs':List (Str × V)}
theorem B9(aK:dA P w H h)(e:H a=some (.ins C dx fs)):∃mA,vb h a dx C mA/\(∀f,qP (fs.lookup f) (mA f))/\PySem.Within mA (fs.map (·.1))/\fs.length<=1000/\H dx=some (.own a):=by
 obtain⟨d,z,ne,ob,mA,n,r,q⟩:=(show fc P w H h a (.ins C dx fs) from aK a _ e)
 exact⟨mA,⟨ob,n,ne⟩,r,q,z,d⟩
end
structure di(K:PySem.W.Frag)(C:Addr):Prop where
 pg:PySem.W.plainGet K C Bn=true
 hd:PySem.W.hasDictIn K C=true
 po:PySem.W.plainOver K C=true
 sa:PySem.W.findIn K (.ref C) "__setattr__"=some (some (.builtin "object.__setattr__"))
theorem di.get{K:PySem.W.Frag}{C:Addr}(c:di K C)(f:Str):PySem.W.plainGet K C f=true:=c.pg
def bu(K:PySem.W.Frag)(C:Addr)(f:Str):Prop:=PySem.W.findIn K (.ref C) f=some none
theorem bu.η{K:PySem.W.Frag}{C:Addr}{f:Str}(n:bu K C f):PySem.W.takerIn K C f=some none:=by
 unfold PySem.W.takerIn
 rw[show PySem.W.findIn K (.ref C) f=some none from n]
 rfl
structure Meth(K:PySem.W.Frag)(C:Addr)(m:Str)(f:Addr):Prop where
 at_:PySem.W.findIn K (.ref C) m=some (some (.ref f))
 fn:PySem.W.isFn K (.ref f)=true
 kp:PySem.W.keepIn K (.ref f)=true
section
variable{X:Cx}{pins:List (Addr × Obj)}{σ:St}{H:Hp}{s:Shared}{a C dx:Addr}{fs:List (Str × V)}{f:Str}{v:V}{A:Around}{E:Value->Shared->Prop}
theorem θ{b:Bool}{Q:Value->Shared->Prop}(I:Inv X pins σ H s)(e:H a=some (.ins C dx fs))(c:di X.K C)(n:bu X.K C f)(l:fs.lookup f=some v)
  (h:∀u s',Inv X pins σ H s'->RelV v u->Q u s'):wpAny (model X.prog X.w) A (getAttr (.ref a) f b) Q E s:=by
 obtain⟨mA,O,r,_,_,_⟩:=B9 I.aK e
 obtain⟨u,hu,ru⟩:=qP.some_of (v:=v) (o:=mA f) (by rw[<-l];exact r f)
 exact Z4 I.dB O (c.get f) c.hd n hu (ζ ru) (h u _ (I.tok _) ru)
theorem FR{m:Str}{g:Addr}{pl:Sem Bool}{Q:Value × List Value->Shared->Prop}(I:Inv X pins σ H s)(e:H a=some (.ins C dx fs))(c:di X.K C)(k:Meth X.K C m g)(l:fs.lookup m=none)
  (h:Q (.ref g,[.ref a]) s):wpAny (model X.prog X.w) A (getMethod (.ref a) m pl) Q E s:=by
 obtain⟨mA,O,r,_,_,_⟩:=B9 I.aK e
 have hn:mA m=none:=qP.none_of (by rw[<-l];exact r m)
 exact Z6 I.dB O (c.get m) k.at_ k.fn hn h
theorem ι{y:V}{u:Value}{Q:Unit->Shared->Prop}(I:Inv X pins σ H s)(e:H a=some (.ins C dx fs))(c:di X.K C)(n:bu X.K C f)(hl:fs.length<1000)(ry:RelV y u)
  (h:∀s',Inv X pins σ (upd H a (.ins C dx (bE f y fs))) s'->Q () s'):wpAny (model X.prog X.w) A (setAttr (.ref a) f u) Q E s:=by
 obtain⟨mA,O,r,wi,_,ho⟩:=B9 I.aK e
 have hz:(fs.map (·.1)).length<=sizeLine:=by rw[aR,sizeLine_eq];omega
 refine Z7 I.dB O c.sa c.po n.η c.hd wi hz λh' O' sb=>h _ ?_
 have hd:∃o,h'.get? dx=some o:=let⟨o,_,_,e',_⟩:=O'.ns;⟨o,e'⟩
 refine I.write (x:=a) (e:=dx) (by rw[e];exact wg) (.inr ho) (λb q hb z=>(sb.2 b hb).trans z) hd ?_
 refine⟨by rw[bc O.ne];exact ho,?_,O.ne,O'.obj,_,O'.ns,λg=>?_,λg hg=>?_⟩
 ·have:=Ob f y fs;omega
 ·show qP ((bE f y fs).lookup g) (if g=f then some u else mA g)
  rw[Oa]
  by_cases q:g=f
  ·rw[if_pos q,if_pos q];exact ry
  ·rw[if_neg q,if_neg q];exact r g
 ·by_cases q:g=f
  ·rw[q];exact(FQ f y fs).1
  ·refine(FQ f y fs).2 g (wi g λz=>hg ?_)
   show(if g=f then some u else mA g)=none
   rw[if_neg q];exact z
theorem Inv.made(I:Inv X pins σ H s):Inv X pins σ (upd (upd H s.heap.objs.size (.own (s.heap.objs.size+1))) (s.heap.objs.size+1) (.ins C s.heap.objs.size []))
  { s with heap:=(s.heap.push PySem.W.emptyDict).push (PySem.W.instObj C s.heap.objs.size) }:=by
 have e1:(s.heap.push PySem.W.emptyDict).get? s.heap.objs.size=some PySem.W.emptyDict:=iw s.heap rfl
 have e2:((s.heap.push PySem.W.emptyDict).push (PySem.W.instObj C s.heap.objs.size)).get? (s.heap.objs.size+1)=some (PySem.W.instObj C s.heap.objs.size):=by
  have:=iw (s.heap.push PySem.W.emptyDict) (o:=PySem.W.instObj C s.heap.objs.size) rfl
  rwa [wj]at this
 have e3:(s.heap.push PySem.W.emptyDict).Ns s.heap.objs.size (λ_=>none):=⟨PySem.W.emptyDict,#[],_,e1,rfl,(λe he=>absurd he (by simp)),λ_=>rfl⟩
 have I1:=I.laid (a:=s.heap.objs.size) (o:=.own (s.heap.objs.size+1)) (h':=s.heap.push PySem.W.emptyDict) (t':=s.toks) (λb u q=>gh _ q) (bG _) ⟨_,e1⟩
 refine I1.laid (a:=s.heap.objs.size+1) (o:=.ins C s.heap.objs.size []) (t':=s.toks) (λb u q=>gh _ q) (tJ (wj _ _)) ?_
 have ne:s.heap.objs.size≠s.heap.objs.size+1:=gb (Bo _)
 refine⟨by rw[bc ne,bS],jl _,ne,e2,λ_=>none,(Heap.Ns1.of_empty e3).at λo q=>gh _ q,λ_=>wg,λy hy=>absurd rfl hy⟩
theorem μ{prog:Program}{w:World}{env:Env}{e:Expr}{f:Str}{pos:Pos}{s:Shared}{Q:Value->Shared->Prop}(hb:attributeBase e f env (eval e env)=eval e env)
  (h:wpAny (model prog w) A (eval e env) (λo bH=>wpAny (model prog w) A (getAttr o f true) Q E bH) E s):wpAny (model prog w) A (eval (.Attribute e f pos) env) Q E s :=
 Attribute_any_ h (by rw[arm_eval_Attribute,hb])
end
def ν(K:PySem.W.Frag)(ta:TE)(f:Str):TE:=λσ H Q=>ta σ H λx H1=>∃a C dx fs v,x=.ref a/\H1 a=some (.ins C dx fs)/\di K C/\bu K C f/\fs.lookup f=some v/\Q v H1
def ξ(K:PySem.W.Frag)(ta tv:TE)(f:Str):TS:=λD σ H=>tv σ H λy H1=>ta σ H1 λx H2=>∃a C dx fs,x=.ref a/\H2 a=some (.ins C dx fs)/\di K C/\bu K C f/\fs.length<1000 /\
 D.nx σ (upd H2 a (.ins C dx (bE f y fs)))
section
variable{X:Cx}{o e value:Expr}{f:Str}{pos pos' p5:Pos}{ta tv:TE}
theorem ve(he:PE X e ta)(hb:attributeBase e f X.env (eval e X.env)=eval e X.env):PE X (.Attribute e f pos) (ν X.K ta f):=by
 intro pins s σ H Q I h
 refine μ hb (aN (he pins s σ H _ I h) λu s1 ⟨x,H1,I1,rx,a,C,dx,fs,v,ex,ea,c,n,l,q⟩=>?_)
 subst ex
 obtain rfl:u=gZ a:=rx
 exact θ I1 ea c n l λu' s2 I2 ru=>⟨v,H1,I2,ru,q⟩
theorem iE(ha:PE X o ta)(hv:PE X value tv)(hs:swapsWith value (some (.Attribute o f pos')) pos.line X.env=pure false):PS X (.Assign [.Attribute o f pos'] value pos) (ξ X.K ta tv f):=by
 intro pins s σ H D I h
 refine plainObj_wpAny_Assign_Attribute (aN (hv pins s σ H _ I h) λu s1 ⟨y,H1,I1,ry,q⟩=>aN (ha pins s1 σ H1 _ I1 q) λov s2 ⟨x,H2,I2,rx,a,C,dx,fs,ex,ea,c,n,l,q2⟩=>?_) hs
 subst ex
 obtain rfl:ov=gZ a:=rx
 exact ι I2 ea c n l ry λs3 I3=>⟨σ,_,I3,q2⟩
end
section
variable{X:Cx}{pins:List (Addr × Obj)}{σ:St}{H:Hp}{s:Shared}{A:Around}{E:Value->Shared->Prop}{Q:Value->Shared->Prop}{c:Value}{b:Bool}
inductive js(K:PySem.W.Frag)(H:Hp):V->Value->Prop where
 | aq:js K H .aq (.type "NoneType")
 | bl (x:Bool):js K H (.bl x) (.type "bool")
 | int (i:Int):js K H (.int i) (.type "int")
 | str (x:Str):js K H (.str x) (.type "str")
 | uY (x:UInt64):js K H (.uY x) (.type "float")
 | lst {a:Addr} {xs:List V} (e:H a=some (.lst xs)):js K H (.ref a) (.type "list")
 | bD {a:Addr} {o:Obj} {xs:List V} (e:H a=some (.bD o (.lst xs))):js K H (.ref a) (.type "list")
 | tup {a:Addr} {xs:List V} (e:H a=some (.tup xs)):js K H (.ref a) (.type "tuple")
 | dK {a:Addr} {eo:List (Key × V)} (e:H a=some (.dK eo)):js K H (.ref a) (.type "dict")
 | dT {a:Addr} {eo:List (List Key × V)} (e:H a=some (.dT eo)):js K H (.ref a) (.type "dict")
 | ins {a C dx:Addr} {fs:List (Str × V)} (e:H a=some (.ins C dx fs)) (cl:di K C) (ha:PySem.W.findIn K (.ref C) "__class__"=some (some (.builtin "object.__class__")))
   (hn:PySem.W.specialIn K (.builtin "object.__class__") "__get__"=some (some (.builtin "getset_descriptor.__get__"))) (Oc:PySem.W.takesIn K (.builtin "object.__class__")=some true)
   (hm:PySem.W.mroIn K C (.type "object")=some true):js K H (.ref a) (.ref C)
theorem ο{x:V}{u t:Value}(I:Inv X pins σ H s)(rx:RelV x u)(ty:js X.K H x t)(e:PySem.W.kitOne X.K t c=some b)(h:∀tk,Q (.bool b) { s with toks:=tk }) :
  wpAny (model X.prog X.w) A (call (.builtin "isinstance") [u,c]) Q E s:=by
 cases ty with
 | aq=>cases(show u=EH from rx);exact PySem.W.kia_one PySem.W.kitx_none I.dB wg e (λz=>nomatch z) h
 | bl y=>cases(show u=EI y from rx);exact PySem.W.kia_one PySem.W.kitx_bool I.dB wg e (λz=>nomatch z) h
 | int i=>obtain⟨t,q⟩:=(show ∃t,u=rM i t from rx);cases q;exact PySem.W.kia_one PySem.W.kitx_int I.dB wg e (λz=>nomatch z) h
 | str y=>obtain⟨t,q⟩:=(show ∃t,u=Value.str y t from rx);cases q;exact PySem.W.kia_one PySem.W.kitx_str I.dB wg e (λz=>nomatch z) h
 | uY y=>obtain⟨t,q⟩:=(show ∃t,u=Value.float y t from rx);cases q;exact PySem.W.kia_one PySem.W.kitx_float I.dB wg e (λz=>nomatch z) h
 | @lst a xs ea =>
  cases(show u=gZ a from rx)
  obtain⟨_,_,n,_,h1⟩:=(show fc X.prog X.w H s.heap a (.lst xs) from I.aK a _ ea)
  exact PySem.W.kia_one PySem.W.kitx_list I.dB ⟨_,h1,rfl⟩ e (λz=>nomatch z) h
 | @bD a ob xs ea =>
  cases(show u=gZ a from rx)
  obtain⟨_,_,_,n,_,h1⟩:=(show fc X.prog X.w H s.heap a (.bD ob (.lst xs)) from I.aK a _ ea)
  exact PySem.W.kia_one PySem.W.kitx_list I.dB ⟨_,h1,rfl⟩ e (λz=>nomatch z) h
 | @tup a xs ea =>
  cases(show u=gZ a from rx)
  obtain⟨_,_,_,p⟩:=(show fc X.prog X.w H s.heap a (.tup xs) from I.aK a _ ea)
  obtain⟨o,h1,h2,_⟩:=p
  exact PySem.W.kia_one PySem.W.kitx_tuple I.dB ⟨o,h1,h2⟩ e (λz=>nomatch z) h
 | @dK a eo ea =>
  cases(show u=gZ a from rx)
  obtain⟨_,_,vs,_,p⟩:=(show fc X.prog X.w H s.heap a (.dK eo) from I.aK a _ ea)
  obtain⟨o,es,ep,h1,h2,_⟩:=p
  exact PySem.W.kia_one PySem.W.kitx_dict I.dB ⟨o,h1,h2.1⟩ e (λz=>nomatch z) h
 | @dT a eo ea =>
  cases(show u=gZ a from rx)
  obtain⟨_,_,xs,_,o,es,ep,h1,h2,_⟩:=(show fc X.prog X.w H s.heap a (.dT eo) from I.aK a _ ea)
  exact PySem.W.kia_one PySem.W.kitx_dict I.dB ⟨o,h1,h2.1⟩ e (λz=>nomatch z) h
 | @ins a C dx fs ea cl ha hn Oc hm =>
  cases(show u=gZ a from rx)
  obtain⟨mA,O,_⟩:=B9 I.aK ea
  obtain⟨od,J,_⟩:=O.look
  exact PySem.W.kia_one (PySem.W.kitx_own (cl.get _) cl.hd ha hn Oc hm) I.dB J e (λz=>nomatch z) h
end
structure cw(k:Nat)(A:Around):Prop where
 hd:A.handled=none
 dp:A.depth+3*k+5<recursionLimit
 un:A.units+16*k+200<cLine
theorem cw.mono{j k:Nat}{A:Around}(r:cw k A)(h:j<=k):cw j A:=⟨r.hd,by have:=r.dp;omega,by have:=r.un;omega⟩
theorem cw.deeper{k:Nat}{A:Around}(r:cw (k+1) A)(env:Env):cw k (A.deeper env) :=
 ⟨r.hd,by have:=r.dp;show A.depth+1+3*k+5<_;omega,by have:=r.un;show A.units+3+16*k+200<_;omega⟩
theorem π{A:Around}{C:Addr}{us:List Value}{kw:List (Str × Value)}:(A.under (.builtin "type.__call__" ⟨.ref C::us,kw⟩)).depth=A.depth+1:=by
 first | rfl | simp[Around.under,Code.weight,Code.isCreation,Code.isGuard,Code.isCaller,Code.frames,Code.isFrame,guardIds]
theorem ρ{A:Around}{C:Addr}{us:List Value}{kw:List (Str × Value)}:(A.under (.builtin "type.__call__" ⟨.ref C::us,kw⟩)).units=A.units+1:=by
 first | rfl | simp[Around.under,Code.cUnits,Code.frames,Code.isFrame]
theorem cw.make{k:Nat}{A:Around}(r:cw (k+1) A)(C:Addr)(us:List Value)(kw:List (Str × Value)):cw k (A.under (.builtin "type.__call__" ⟨.ref C::us,kw⟩)) :=
 ⟨r.hd,by have:=r.dp;rw[π];omega,by have:=r.un;rw[ρ];omega⟩
theorem cw.depth{k:Nat}{A:Around}(r:cw k A):A.depth<recursionLimit:=by have:=r.dp;omega
def τ:TA:=λ_ H Q=>Q [] H
def υ(ta:TE)(tr:TA):TA:=λσ H Q=>ta σ H λx H1=>tr σ H1 λxs H2=>Q (x::xs) H2
section
variable{X:Cx}{e:Expr}{es:List Expr}{te:TE}{t:TA}{pos:Pos}
theorem ff:PA X [] τ:=λ_ _ _ _ H Q I h=>M1 ⟨[],H,I,.nil,h⟩
theorem cy(ha:PE X e te)(hr:PA X es t)(hs:starEach (e::es) X.env=(false,eval e X.env)::starEach es X.env:=by rfl):PA X (e::es) (υ te t):=by
 intro pos pins s σ H Q I h
 rw[hs]
 show wpAny _ _ (spliced ((false,eval e X.env)::backTo pos (starEach es X.env))) _ _ s
 refine M3 (aN (ha pins s σ H _ I h) λu s1 ⟨x,H1,I1,r1,q1⟩=>?_)
 exact aN (hr pos pins s1 σ H1 _ I1 q1) λus s2 ⟨xs,H2,I2,r2,q2⟩=>⟨x::xs,H2,I2,.cons r1 r2,q2⟩
def χ(t:TA):TE:=λσ H Q=>t σ H λxs H1=>xs.length<=sizeLine/\∀p,H1 p=none->Q (.ref p) (upd H1 p (.tup xs))
def ω(t:TA):TE:=λσ H Q=>t σ H λxs H1=>xs.length<=sizeLine/\∀p,H1 p=none->Q (.ref p) (upd H1 p (.lst xs))
theorem Γ{x1}(h:PA X es t):PE X (.Tuple es x1 pos) (χ t):=by
 intro pins s σ H Q I hq
 refine wpAny_Tuple_spliced (aN (h pos pins s σ H _ I hq) λus s1 ⟨xs,H1,I1,r,z,q⟩=>⟨by rw[<-r.length];exact z,?_⟩)
 have hf:H1 s1.heap.objs.size=none:=I1.aK.fresh (bG _)
 refine⟨.ref s1.heap.objs.size,upd H1 s1.heap.objs.size (.tup xs),I1.laid (t':=s1.toks) (λb u e=>gh _ e) (bG _) ?_,rfl,q _ hf⟩
 exact⟨z,us,r,⟨_,iw _ rfl,rfl,_,rfl⟩⟩
theorem Δ(h:PA X es t):PE X (.List es pos) (ω t):=by
 intro pins s σ H Q I hq
 refine wpAny_List_spliced (aN (h pos pins s σ H _ I hq) λus s1 ⟨xs,H1,I1,r,z,q⟩=>⟨by rw[<-r.length];exact z,?_⟩)
 have hf:H1 s1.heap.objs.size=none:=I1.aK.fresh (bG _)
 refine⟨.ref s1.heap.objs.size,upd H1 s1.heap.objs.size (.lst xs),I1.laid (t':=s1.toks) (λb u e=>gh _ e) (bG _) ?_,rfl,q _ hf⟩
 exact⟨z,us,0,r,iw _ rfl⟩
end
abbrev Sp:=List V->Hp->VK->XK->Prop
abbrev fg:=List Env->Hp->Shared->XK->Value->Shared->Prop
structure j7(P:Program)(w:World)(K:PySem.W.Frag)(mg:Str->Option Value)(base:Heap)(A:Around)(outer:List Env)(s:Shared)(H:Hp):Prop where
 frames:A.frames=some outer
 mod:Mod K mg base
 bs:∀b o,base.get? b=some o->s.heap.get? b=some o/\H b=none
 og:base.objs.size<=s.heap.objs.size
 iB:s.heap.FunFrames base outer
 oh:∀b∈j4 outer,H b=none
 aK:dA P w H s.heap
 bare:AllBare s.gens
def CE(outer:List Env)(P:Program)(w:World)(H:Hp)(s:Shared)(Q:VK)(u:Value)(s':Shared):Prop :=
 ∃v H',s'.os=s.os/\AllBare s'.gens/\Un (j4 outer) [] H H' s.heap s'.heap/\dA P w H' s'.heap/\RelV v u/\Q v H'
def CR(CX:fg)(outer:List Env)(P:Program)(w:World)(H:Hp)(s:Shared)(Q:VK)(E:XK)(r:Result)(s':Shared):Prop :=
 match r with
 | .ok (.ret u)=>CE outer P w H s Q u s'
 | .ok _=>False
 | .error e=>CX outer H s E e s'
structure aO(P:Program)(w:World)(K:PySem.W.Frag)(mg:Str->Option Value)(base:Heap)(CX:fg)(k:Nat)(f:Addr)(fd:FuncData)(ps:List Str)(sp:Sp):Prop where
 len:∀vs H Q E,sp vs H Q E->vs.length=ps.length
 run:∀(A:Around) (outer:List Env) (s:Shared) (H:Hp) (args:Args) (us:List Value) (vs:List V) (Q:VK) (E:XK),cw k A->j7 P w K mg base A outer s H->BindsTo s fd args (ps.zip us)->Vals vs us->sp vs H Q E ->
  codeAny (model P w) A (.call (.ref f) args) (CR CX outer P w H s Q E) s
theorem aO.mono{P:Program}{w:World}{K:PySem.W.Frag}{mg:Str->Option Value}{base:Heap}{CX:fg}{j k:Nat}{f:Addr}{fd:FuncData}{ps:List Str}{sp:Sp}(F:aO P w K mg base CX j f fd ps sp)(h:j<=k) :
  aO P w K mg base CX k f fd ps sp:=⟨F.len,λA outer s H args us vs Q E hr=>F.run A outer s H args us vs Q E (hr.mono h)⟩
theorem aO.imp{P:Program}{w:World}{K:PySem.W.Frag}{mg:Str->Option Value}{base:Heap}{CX:fg}{k:Nat}{f:Addr}{fd:FuncData}{ps:List Str}{sp Od:Sp}(F:aO P w K mg base CX k f fd ps sp)
  (h:∀vs H Q E,Od vs H Q E->sp vs H Q E):aO P w K mg base CX k f fd ps Od :=
 ⟨λvs H Q E q=>F.len vs H Q E (h _ _ _ _ q),λA outer s H args us vs Q E hr he hb hv hs=>F.run A outer s H args us vs Q E hr he hb hv (h _ _ _ _ hs)⟩
theorem j7.make{P:Program}{w:World}{K:PySem.W.Frag}{mg:Str->Option Value}{base:Heap}{A:Around}{outer:List Env}{s:Shared}{H:Hp}(e:j7 P w K mg base A outer s H)(C:Addr)(us:List Value)(kw:List (Str × Value)) :
  j7 P w K mg base (A.under (.builtin "type.__call__" ⟨.ref C::us,kw⟩)) outer s H:=⟨by first | exact e.frames | (simpa[Around.under,Code.envs,Code.isFrame,pushEnvs]using e.frames),e.mod,e.bs,e.og,e.iB,e.oh,e.aK,e.bare⟩
section
variable{X:Cx}{pins:List (Addr × Obj)}{σ:St}{H:Hp}{s s':Shared}
theorem Inv.yP(I:Inv X pins σ H s):j7 X.prog X.w X.K X.mg X.base X.A X.stack s H :=
 ⟨I.ok.frames,I.ok.mod,I.bs,cQ I.ok.og I.sz,I.stack,I.NT,I.aK,I.bare⟩
theorem Inv.after{Q:VK}{u:Value}(I:Inv X pins σ H s)(h:CE X.stack X.prog X.w H s Q u s'):EP X pins σ Q u s':=by
 obtain⟨v,H',os,bare,un,aK,r,q⟩:=h
 obtain⟨hh,g,d,t,Θ⟩:=s'
 obtain rfl:Θ=s.os:=os
 exact⟨v,H',I.call (h':=hh) (g':=g) (d':=d) (t':=t) (ch:=[]) un aK bare (λb z=>absurd z (by simp)),r,q⟩
end
def Λ(sp:Sp)(fK:List V)(E:XK)(t:TA):TE:=λσ H Q=>t σ H λvs H1=>sp (vs++fK) H1 Q E
def Ξ(C:Addr)(m:Str)(sp:Sp)(fK:List V)(E:XK)(ta:TE)(t:TA):TE:=λσ H Q=>ta σ H λx H1=>∃a dx fs,x=.ref a/\H1 a=some (.ins C dx fs)/\fs.lookup m=none /\
 t σ H1 λvs H2=>sp (x::(vs++fK)) H2 Q E
def Φ(C:Addr)(sp:Sp)(fK:List V)(E:XK)(t:TA):TE:=λσ H Q=>t σ H λvs H1=>∀x dx,H1 x=none->H1 dx=none->dx≠x ->
 sp (.ref x::(vs++fK)) (upd (upd H1 dx (.own x)) x (.ins C dx [])) (λv H2=>v=.aq/\Q (.ref x) H2) E
def Binds(K:PySem.W.Frag)(fd:FuncData)(ps:List Str)(ds:List Value):Prop :=
 ∀(s:Shared) (us:List Value),K.In s.heap->(us++ds).length=ps.length->BindsTo s fd ⟨us,[]⟩ (ps.zip (us++ds))
theorem Binds.all{K:PySem.W.Frag}{fd:FuncData}{ps:List Str}(h:∀us:List Value,us.length=ps.length->bindArgs fd ⟨us,[]⟩=pure (ps.zip us)):Binds K fd ps []:=λs us _ hl=>by
 rw[fJ]at hl ⊢
 exact .of_eq (h us hl)
def p9(CX:fg)(X:Cx)(E:XK):Prop:=∀(pins:List (Addr × Obj)) (σ:St) (H:Hp) (s:Shared) (e:Value) (s':Shared),Inv X pins σ H s->CX X.stack H s E e s'->X.xe e s'
section
variable{X:Cx}{CX:fg}{k:Nat}{f C:Addr}{fd:FuncData}{ps:List Str}{sp:Sp}{fK:List V}{ds:List Value}{E:XK}{x m:Str}{p pos apos:Pos}{e o:Expr}{es:List Expr}{ta:TE}{t:TA}
theorem yQ{pins:List (Addr × Obj)}{σ:St}{H:Hp}{s:Shared}{Q:VK}{us:List Value}{vs:List V}(F:aO X.prog X.w X.K X.mg X.base CX k f fd ps sp)(hr:cw k X.A)(hb:Binds X.K fd ps ds)(hd:Vals fK ds)(hx:p9 CX X E)
  (I:Inv X pins σ H s) (r:Vals vs us) (h:sp (vs++fK) H Q E):wpAny (model X.prog X.w) X.A (call (.ref f) us) (EP X pins σ Q) X.xe s:=by
 have r2:Vals (vs++fK) (us++ds):=r.append hd
 have hl:(us++ds).length=ps.length:=by rw[<-r2.length];exact F.len _ _ _ _ h
 refine wpAny_call (codeAny_mono (F.run X.A X.stack s H ⟨us,[]⟩ (us++ds) (vs++fK) Q E hr I.yP (hb s us I.dB hl) r2 h) λr s' hq=>?_)
 cases r with
 | error e=>exact hx pins σ H s e s' I hq
 | ok fl =>
  cases fl with
  | ret u=>exact I.after hq
  | next=>exact gG hq
  | brk=>exact gG hq
  | cont=>exact gG hq
theorem lK(F:aO X.prog X.w X.K X.mg X.base CX k f fd ps sp)(hr:cw k X.A)(hg:Gl X x)(hm:X.mg x=some (.ref f))(hk:PySem.W.keepIn X.K (.ref f)=true)(hb:Binds X.K fd ps ds)(hd:Vals fK ds)(hx:p9 CX X E)
  (ha:PA X (e::es) t) (eC:(x==("__debug__":Str))=false:=by decide) (he:starEach (e::es) X.env=(false,eval e X.env)::starEach es X.env:=by rfl) (bU:(backTo pos (starEach es X.env)).any (·.1)=false:=by rfl) :
  PE X (.Call (.Name x p) (e::es) [] pos) (Λ sp fK E t):=by
 intro pins s σ H Q I h
 refine wpAny_Call_Name_kw (BQ I hg hm ?_ eC)
 refine PySem.W.callWith_K (h₀:=X.base) I.ok.mod.u0 hk (aN (ha pos pins s σ H _ I h) λus s1 ⟨vs,H1,I1,r,q⟩=>⟨I1.dB,?_⟩) he bU
 exact yQ F hr hb hd hx I1 r q
theorem Ψ{pl:Sem Bool}(he:PE X o ta)(c:di X.K C)(hm:Meth X.K C m f)(F:aO X.prog X.w X.K X.mg X.base CX k f fd ps sp)(hr:cw k X.A)(hb:Binds X.K fd ps ds)(hd:Vals fK ds)(hx:p9 CX X E)(ha:PA X (e::es) t)
  (gJ:starEach (e::es) X.env=(false,eval e X.env)::starEach es X.env:=by rfl) (bU:(backTo pos (starEach es X.env)).any (·.1)=false:=by rfl)
  (ht:eval (.Call (.Attribute o m apos) (e::es) [] pos) X.env=(do
   let ov<-eval o X.env
   standAt apos.atName
   let (f,first)<-holding [ov] (getMethod ov m pl)
   callWith pos f first (backTo pos (starEach (e::es) X.env)) (backToKw pos (keywordEach [] X.env))):=by rfl) :
  PE X (.Call (.Attribute o m apos) (e::es) [] pos) (Ξ C m sp fK E ta t):=by
 intro pins s σ H Q I h
 refine PySem.W.methodCall_KW (pl:=pl) (aN (he pins s σ H _ I h) λu s1 ⟨x,H1,I1,rx,a,dx,fs,ex,ea,l,q⟩=>?_) ht
 subst ex
 obtain rfl:u=gZ a:=rx
 refine FR I1 ea c hm l ?_
 refine PySem.W.callWith_K (first:=[.ref a]) (h₀:=X.base) I.ok.mod.u0 hm.kp (aN (ha pos pins s1 σ H1 _ I1 q) λus s2 ⟨vs,H2,I2,r,q2⟩=>⟨I2.dB,?_⟩) gJ bU
 exact yQ (us:=.ref a::us) (vs:=.ref a::vs) F hr hb hd hx I2 (.cons rfl r) q2
structure Mk(K:PySem.W.Frag)(C f:Addr):Prop where
 makes:PySem.W.makesIn K C=true
 init:PySem.W.findIn K (.ref C) "__init__"=some (some (.ref f))
 fn:PySem.W.isFn K (.ref f)=true
 kp:PySem.W.keepIn K (.ref C)=true
theorem Ω{pins:List (Addr × Obj)}{σ:St}{H:Hp}{s:Shared}{Q:VK}{us:List Value}{vs:List V}(M:Mk X.K C f)(F:aO X.prog X.w X.K X.mg X.base CX k f fd ps sp)(hr:cw (k+1) X.A)(hb:Binds X.K fd ps ds)(hd:Vals fK ds)
  (hx:p9 CX X E) (I:Inv X pins σ H s) (r:Vals vs us)
  (h:∀x dx,H x=none->H dx=none->dx≠x->sp (.ref x::(vs++fK)) (upd (upd H dx (.own x)) x (.ins C dx [])) (λv H2=>v=.aq/\Q (.ref x) H2) E) :
  wpAny (model X.prog X.w) X.A (call (.ref C) us) (EP X pins σ Q) X.xe s:=by
 have hq:=h (s.heap.objs.size+1) s.heap.objs.size (I.aK.fresh (Nat.le_succ _)) (I.aK.fresh (bG _)) (gb (Bo _))
 have I2:=Inv.made (C:=C) I
 have r2:Vals (V.ref (s.heap.objs.size+1)::(vs++fK)) (gZ (s.heap.objs.size+1)::(us++ds)):=.cons rfl (r.append hd)
 have hl:(gZ (s.heap.objs.size+1)::us++ds).length=ps.length:=by
  have e:=r2.length
  rw[F.len _ _ _ _ hq]at e
  exact e.symm
 refine wpAny_call (ε (f:=f) I.dB M.makes M.init (beq_iff_eq.mp M.fn) (codeAny_mono (F.run _ X.stack _ _ ⟨gZ (s.heap.objs.size+1)::us,[]⟩ (gZ (s.heap.objs.size+1)::(us++ds)) _ _ E (hr.make C us [])
  (I2.yP.make C us []) (hb _ (gZ (s.heap.objs.size+1)::us) I2.dB hl) r2 hq) λr s' se=>?_))
 cases r with
 | error e=>exact hx pins σ _ _ e s' I2 se
 | ok fl =>
  cases fl with
  | ret u =>
   obtain⟨v,H',I3,rv,ev,q3⟩:=I2.after se
   subst ev
   exact⟨rv,⟨V.ref (s.heap.objs.size+1),H',I3,rfl,q3⟩⟩
  | next=>exact gG se
  | brk=>exact gG se
  | cont=>exact gG se
theorem Oe(M:Mk X.K C f)(F:aO X.prog X.w X.K X.mg X.base CX k f fd ps sp)(hr:cw (k+1) X.A)(hg:Gl X x)(hm:X.mg x=some (.ref C))(hb:Binds X.K fd ps ds)(hd:Vals fK ds)(hx:p9 CX X E)
  (ha:PA X (e::es) t) (eC:(x==("__debug__":Str))=false:=by decide) (he:starEach (e::es) X.env=(false,eval e X.env)::starEach es X.env:=by rfl) (bU:(backTo pos (starEach es X.env)).any (·.1)=false:=by rfl) :
  PE X (.Call (.Name x p) (e::es) [] pos) (Φ C sp fK E t):=by
 intro pins s σ H Q I h
 refine wpAny_Call_Name_kw (BQ I hg hm ?_ eC)
 refine PySem.W.callWith_K (h₀:=X.base) I.ok.mod.u0 M.kp (aN (ha pos pins s σ H _ I h) λus s1 ⟨vs,H1,I1,r,q⟩=>⟨I1.dB,?_⟩) he bU
 exact Ω M F hr hb hd hx I1 r q
end
section
variable{X:Cx}{CX:fg}{k:Nat}{f C:Addr}{fd:FuncData}{ps ks:List Str}{sp:Sp}{E:XK}{x m:Str}{p pos apos ec0:Pos}{e o:Expr}{es:List Expr}{kws:List Keyword}{te ta:TE}{t tk:TA}{nm:Option Str}
variable{g:List Value->List Value->List Value}{gV:List V->List V->List V}
end
structure bf(N P:List Str)(sc:Scope):Prop where
 kind:sc.kind=.function
 co:sc.isCoroutine=false
 gen:sc.isGenerator=false
 nd:N.Nodup
 pre:N.take P.length=P
 par:∀x∈P,sc.names.lookup x=some .local\/sc.names.lookup x=some .cell
 cR4:∀y∈sc.names,y.2≠.free
theorem Of{kindOf:Str->Option NameKind}{x:Str}:∀{binds:List (Str × Value)} {m:Str->Option Value},(∀v,(x,v) ∉ binds)->bindL kindOf binds m x=m x
 | [],_,_=>rfl
 | (n,v)::r,m,h=>by
  unfold bindL
  rw[Of λw hw=>h w (fH _ hw)]
  split
  ·have:x≠n:=by rintro rfl;exact h v ir
   simp[this]
  ·rfl
theorem Og{kindOf:Str->Option NameKind}{x:Str}:∀{binds:List (Str × Value)} {m:Str->Option Value},(∀v,(x,v) ∉ binds)->bindC kindOf binds m x=m x
 | [],_,_=>rfl
 | (n,v)::r,m,h=>by
  unfold bindC
  rw[Og λw hw=>h w (fH _ hw)]
  split
  ·rfl
  ·have:x≠n:=by rintro rfl;exact h v ir
   simp[this]
theorem Oh{kindOf:Str->Option NameKind}{x:Str}{v:Value}:∀{P:List Str} {vs:List Value} {i:Nat} {m:Str->Option Value},P.Nodup->P[i]?=some x->vs[i]?=some v->kindOf x=some .local ->
  bindL kindOf (P.zip vs) m x=some v
 | [],_,_,_,_,h,_,_=>by simp at h
 | _::_,[],_,_,_,_,h,_=>by simp at h
 | p::P,w::vs,0,m,nd,h1,h2,hk=>by
  simp at h1 h2;subst h1;subst h2
  show bindL kindOf ((p,w)::P.zip vs) m p=_
  unfold bindL
  rw[Of λv hv=>(nS.mp nd).1 (Bp hv).1,if_pos hk]
  simp
 | p::P,w::vs,i+1,m,nd,h1,h2,hk=>by
  show bindL kindOf ((p,w)::P.zip vs) m x=_
  unfold bindL
  exact Oh (i:=i) (nS.mp nd).2 (by simpa using h1) (by simpa using h2) hk
theorem Oi{kindOf:Str->Option NameKind}{x:Str}{v:Value}:∀{P:List Str} {vs:List Value} {i:Nat} {m:Str->Option Value},P.Nodup->P[i]?=some x->vs[i]?=some v->kindOf x≠some .local ->
  bindC kindOf (P.zip vs) m x=some v
 | [],_,_,_,_,h,_,_=>by simp at h
 | _::_,[],_,_,_,_,h,_=>by simp at h
 | p::P,w::vs,0,m,nd,h1,h2,hk=>by
  simp at h1 h2;subst h1;subst h2
  show bindC kindOf ((p,w)::P.zip vs) m p=_
  unfold bindC
  rw[Og λv hv=>(nS.mp nd).1 (Bp hv).1,if_neg hk]
  simp
 | p::P,w::vs,i+1,m,nd,h1,h2,hk=>by
  show bindC kindOf ((p,w)::P.zip vs) m x=_
  unfold bindC
  exact Oi (i:=i) (nS.mp nd).2 (by simpa using h1) (by simpa using h2) hk
def start(N:List Str)(vs:List V):St:=vs.map some++aW (N.length-vs.length) none
def lM(CX:fg)(P:Program)(w:World)(K:PySem.W.Frag)(mg:Str->Option Value)(base:Heap)(N:List Str)(qual:Str)(scope:Scope)(f:Addr)(cd:Value)(A:Around)(outer:List Env)(s:Shared)(H:Hp)(E:XK):Cx where
 prog:=P
 w:=w
 K:=K
 mg:=mg
 base:=base
 A:=A.deeper (envOfC qual scope s.heap.objs.size f cd)
 N:=N
 eQ:=s
 qS:=H
 env:=envOfC qual scope s.heap.objs.size f cd
 outer:=outer
 stack:=envOfC qual scope s.heap.objs.size f cd::outer
 ex:=[]
 calm:=true
 fn:=λ_=>true
 pn:=[]
 xe:=λe s'=>wpAny (model P w) (A.deeper (envOfC qual scope s.heap.objs.size f cd)) (leaving (envOfC qual scope s.heap.objs.size f cd) e) (λ_ vg=>CX outer H s E e vg) (λe' vg=>CX outer H s E e' vg) s'
theorem Oj{sc:Scope}{n:Nat}{x:Str}(h:sc.names.lookup x=some .cell):∃c,(cellsFrom n sc.names []).lookup x=some c:=by
 have q:=PySem.W.cellsFrom_some sc.names n [] (.inl h)
 exact XX.mp q
theorem b45{CX:fg}{P:Program}{w:World}{K:PySem.W.Frag}{mg:Str->Option Value}{base:Heap}{N ps:List Str}{qual:Str}{scope:Scope}{f:Addr}{cd:Value}{A:Around}{outer:List Env}{s s1:Shared}{H:Hp}{E:XK}{us:List Value}{vs:List V}
  (S:bf N ps scope) (hd:A.handled=none) (e0:j7 P w K mg base A outer s H) (hl:vs.length=ps.length) (r:Vals vs us)
  (x:InCallC s s.heap.objs.size (bindL (envOfC qual scope s.heap.objs.size f cd).kindOf (ps.zip us) λ_=>none) (cellsFrom (s.heap.objs.size+1) scope.names []) (bindC (envOfC qual scope s.heap.objs.size f cd).kindOf (ps.zip us) λ_=>none) s1) :
  Inv (lM CX P w K mg base N qual scope f cd A outer s H E) [] (start N vs) H s1:=by
 have bU:ps.length<=N.length:=by have:=congrArg Bq S.pre;rw[jm]at this;omega
 obtain⟨h1,tk,rfl,hk⟩:=x.done
 have yR:∀b:Addr,b ∉ (lM CX P w K mg base N qual scope f cd A outer s H E).ex:=λb z=>absurd (show b∈([]:List Addr) from z) (by simp)
 refine⟨⟨e0.mod,S.kind,rfl,rfl,bG _,λy z c h1 h2=>?_,λy hy=>?_,λy c _ h=>?_,λ_=>hd,Around.frames_deeper e0.frames,.inr ⟨rfl,rfl⟩,λb z=>absurd z (yR b),e0.bs,e0.og,λb _ _=>yR b,λb z=>absurd z (yR b),e0.iB,e0.oh⟩,
  rfl,e0.bare,Un.kept hk,⟨_,x.toInCall.ns,λi y v h1 h2 h3=>?_⟩,λy c h=>⟨_,x.cell y c h⟩,e0.aK.fresh (bG _),λy c h=>?_,λp hp=>absurd (show p∈([]:List (Addr × Obj)) from hp) (by simp),e0.aK.kept hk,?_⟩
 ·exact name_of_addr x.apart (PySem.mem_of_lookup h1) (PySem.mem_of_lookup h2)
 ·have hy:scope.names.lookup y=some .cell\/scope.names.lookup y=some .free:=hy
  rcases hy with hy | hy
  ·exact Oj hy
  ·exact absurd rfl (S.cR4 _ (PySem.mem_of_lookup hy))
 ·exact Bk (x.above y c (PySem.mem_of_lookup h))
 ·have hi:i<vs.length:=by
   unfold start at h2
   by_cases hi:i<vs.length
   ·exact hi
   ·rw[wk (by simpa using hi)]at h2
    rw[yn]at h2
    split at h2<;>cases h2
  have ha:vs[i]?=some v:=by
   unfold start at h2
   rw[wm (by simpa using hi),bN]at h2
   cases e:vs[i]? with
   | none=>rw[e]at h2;cases h2
   | some a=>rw[e]at h2;cases h2;rfl
  obtain⟨u,hu,rv⟩:=r.get ha
  have hp:ps[i]?=some y:=by
   rw[<-S.pre,XY (by omega)];exact h1
  have Ol:ps.Nodup:=by rw[<-S.pre];exact S.nd.sublist (List.take_sublist _ _)
  refine⟨u,rv,?_⟩
  rcases S.par y (uM hp)with k | k
  ·exact .inl ⟨k,Oh Ol hp hu k⟩
  ·obtain⟨c,e⟩:=Oj (n:=s.heap.objs.size+1) k
   refine .inr ⟨.inl k,c,e,?_⟩
   have q:=x.cell y c e
   rw[Oi Ol hp hu (by show scope.names.lookup y≠_;rw[k];decide)]at q
   exact q
 ·exact e0.aK.fresh (Bk (x.above y c (PySem.mem_of_lookup h)))
 ·unfold start
  show _=N.length
  rw[df,aR,gH]
  omega
theorem FT{CX:fg}{P:Program}{w:World}{K:PySem.W.Frag}{mg:Str->Option Value}{base:Heap}{k:Nat}{f:Addr}{name qual:Str}{params:Arguments}{body:List Stmt}{scope:Scope}{dV kV doc pm aG ct oc:Value}{an od:Option Addr}
  {jt:Array (Option Value)} {N ps:List Str} {sp:Sp} (lk:K.lookup f=some ⟨oc,od,.func (PySem.W.fnOf name qual params body scope dV kV doc pm an aG ct),jt⟩) (cC:PySem.W.codeIn K aG qual=true) (S:bf N ps scope)
  (len:∀vs H Q E,sp vs H Q E->vs.length=ps.length)
  (ju:∀(A:Around) (outer:List Env) (s:Shared) (H:Hp) (vs:List V) (Q:VK) (E:XK),cw k (A.deeper (envOfC qual scope s.heap.objs.size f aG))->sp vs H Q E ->
   ∃t,PSs (lM CX P w K mg base N qual scope f aG A outer s H E) body t/\t { nx:=λ_ H'=>Q .aq H',rt:=Q } (start N vs) H) :
  aO P w K mg base CX (k+1) f (PySem.W.fnOf name qual params body scope dV kV doc pm an aG ct) ps sp:=by
 refine⟨len,λA outer s H args us vs Q E hr e0 hb r j8=>?_⟩
 have hl:=len _ _ _ _ j8
 have KX:K.In s.heap:=e0.mod.u0.keeps λb o e=>(e0.bs b o e).1
 have lim:s.heap.NoLimit:=e0.mod.nolimit.keeps λb o e=>(e0.bs b o e).1
 have iY:∀y∈ps.zip us,scope.names.lookup y.1=some .local\/(scope.names.lookup y.1=some .cell/\((cellsFrom (s.heap.objs.size+1) scope.names []).lookup y.1).isSome=true):=λ⟨n,v⟩ hy=>by
  rcases S.par n (Bp hy).1 with q | q
  ·exact .inl q
  ·exact .inr ⟨q,PySem.W.cellsFrom_some _ _ _ (.inl q)⟩
 refine codeAny_call_function hr.depth (KX _ _ lk) rfl S.co S.gen rfl (PySem.W.codeRec_of KX cC) (hb _ _ _ _ ?_)
 refine wpAny_newFunctionEnv_cells S.kind iY λenv he s1 x=>?_
 subst he
 refine⟨lim.keeps x.toInCall.keep,codeAny_func ?_⟩
 obtain⟨t,ht,hq⟩:=ju A outer s H vs Q E (hr.deeper _) j8
 have I:Inv (lM CX P w K mg base N qual scope f aG A outer s H E) [] (start N vs) H s1:=b45 S hr.hd e0 hl r x
 refine wpAny_mono (ht [] s1 (start N vs) H _ I hq) (λfl s' hs=>?_) λe s' hs=>hs
 have fin:∀{aL:St} {H':Hp} {v:V} {u:Value},Inv (lM CX P w K mg base N qual scope f aG A outer s H E) [] aL H' s'->RelV v u->Q v H'->CE outer P w H s Q u s' :=
  λ{aL H' v u} J rv q=>⟨v,H',J.os,J.bare,J.base,J.aK,rv,q⟩
 cases fl with
 | ret u =>
  obtain⟨v,aL,H',J,rv,q⟩:=hs
  exact fin J rv q
 | next =>
  obtain⟨aL,H',J,q⟩:=hs
  exact fin (v:=V.aq) (u:=EH) J rfl q
 | brk =>
  obtain⟨_,_,_,q⟩:=hs
  exact gG q
 | cont =>
  obtain⟨_,_,_,q⟩:=hs
  exact gG q
section
variable{X:Cx}{x:Str}{p pos:Pos}{e:Expr}{es:List Expr}{t:TA}{id T:String}{r:List V->Hp->VK->Prop}
def FU(r:List V->Hp->VK->Prop)(t:TA):TE:=λσ H Q=>t σ H λvs H1=>r vs H1 Q
theorem FV(hc:g5 X (.builtin id) r)(hg:Gl X x)(hm:X.mg x=none)(hv:bootBuiltins x=some (.builtin id))(ha:PA X (e::es) t)(hn:x≠"__name__":=by decide)(eC:(x==("__debug__":Str))=false:=by decide)
  (he:starEach (e::es) X.env=(false,eval e X.env)::starEach es X.env:=by rfl) (bU:(backTo pos (starEach es X.env)).any (·.1)=false:=by rfl):PE X (.Call (.Name x p) (e::es) [] pos) (FU r t):=by
 intro pins s σ H Q I h
 refine wpAny_Call_Name_kw (rW I hg hm hv ?_ hn eC)
 exact PyProof.Rows.callWith_builtin1 (aN (ha pos pins s σ H _ I h) λus s1 ⟨vs,H1,I1,r1,q1⟩=>hc pins s1 σ H1 vs us Q I1 r1 q1) he bU
theorem b13(hc:g5 X (.type T) r)(hg:Gl X x)(hm:X.mg x=none)(hv:bootBuiltins x=some (.type T))(ha:PA X (e::es) t)(hn:x≠"__name__":=by decide)(eC:(x==("__debug__":Str))=false:=by decide)
  (he:starEach (e::es) X.env=(false,eval e X.env)::starEach es X.env:=by rfl) (bU:(backTo pos (starEach es X.env)).any (·.1)=false:=by rfl):PE X (.Call (.Name x p) (e::es) [] pos) (FU r t):=by
 intro pins s σ H Q I h
 refine wpAny_Call_Name_kw (rW I hg hm hv ?_ hn eC)
 exact we (aN (ha pos pins s σ H _ I h) λus s1 ⟨vs,H1,I1,r1,q1⟩=>hc pins s1 σ H1 vs us Q I1 r1 q1) he bU
end
end L2
namespace HT
open PySem PyProof.Rows
section
open PySem.SeqAt
open PySem.AutoSeq1 (wpAny_loadPart')
open PySem.MeetsSeq PySem.MeetsSeq2 PySem.MeetsSeq3
end
section
variable{prog:Program}{w:World}{A:Around}{E:Value->Shared->Prop}{s:Shared}
def cZ(n d:Nat):Option Int->Nat
 | none=>d
 | some v=>if v<0 then(v+(n:Int)).toNat else min v.toNat n
theorem FW(n d k:Nat):cZ n d (some (k:Int))=min k n:=by
 show(if(k:Int)<0 then((k:Int)+(n:Int)).toNat else min (k:Int).toNat n)=min k n
 rw[if_neg (by omega),ft]
end
end HT
namespace L2
open PySem PySem.Spec PyProof.Rows
abbrev TO:=St->Hp->(Option Int->Hp->Prop)->Prop
def PO(X:Cx)(e:Option Expr)(t:TO):Prop :=
 ∀(pins:List (Addr × Obj)) (s:Shared) (σ:St) (H:Hp) (Q:Option Int->Hp->Prop),Inv X pins σ H s->t σ H Q ->
  wpAny (model X.prog X.w) X.A (evalPart e X.env) (λu s'=>∃o H',Inv X pins σ H' s'/\IsPart u o/\Q o H') X.xe s
def cr5:TO:=λ_ H Q=>Q none H
def cI3(t:TE):TO:=λσ H Q=>t σ H λx H1=>∃i,x=.int i/\Q (some i) H1
theorem Om{ns:List Int}:∀{us:List Value},Vals (ns.map V.int) us->IntsAre us ns:=by
 induction ns with
 | nil=>intro us r;rw[gv]at r;cases r;exact .nil
 | cons n ns ih =>
  intro us r
  rw[bR]at r
  cases r with
  | cons r1 r2 =>
   obtain⟨t,e⟩:=r1
   subst e
   exact .cons n t (ih r2)
section
variable{X:Cx}{e:Expr}{te:TE}{lo hi:Option Expr}{tl th:TO}{pos p2:Pos}
theorem co0:PO X none cr5:=by
 intro pins s σ H Q I h
 rw[evalPart_none]
 exact wpAny_pure ⟨none,H,I,.none,h⟩
theorem cr1(h:PE X e te):PO X (some e) (cI3 te):=by
 intro pins s σ H Q I hw
 rw[evalPart_some]
 refine aN (h pins s σ H _ I hw) λu s1 ⟨x,H1,I1,r1,q1⟩=>?_
 obtain⟨i,rfl,q⟩:=q1
 obtain⟨t,rfl⟩:=r1
 exact⟨some i,H1,I1,.int i t,q⟩
def vh(X:Cx)(r:V->Option Int->Option Int->Hp->VK->Prop):Prop :=
 ∀(pins:List (Addr × Obj)) (s:Shared) (σ:St) (H:Hp) (x:V) (v vl vu:Value) (lo hi:Option Int) (sl:Addr) (Q:VK),Inv X pins σ H s->RelV x v->s.heap.IsSliceOf sl vl vu .none->IsPart vl lo->IsPart vu hi->r x lo hi H Q ->
  ∃T id,typeLookup (.type T) "__getitem__"=pure (some (.builtin id))/\s.TypeIs v T/\wpAny (model X.prog X.w) X.A (getItem v (.ref sl)) (EP X pins σ Q) X.xe s
theorem vh.or{r r':V->Option Int->Option Int->Hp->VK->Prop}(h:vh X r)(h':vh X r'):vh X (λx lo hi H Q=>r x lo hi H Q\/r' x lo hi H Q):=by
 intro pins s σ H x v vl vu lo hi sl Q I rx hs pl pu q
 rcases q with q | q
 ·exact h pins s σ H x v vl vu lo hi sl Q I rx hs pl pu q
 ·exact h' pins s σ H x v vl vu lo hi sl Q I rx hs pl pu q
def tSl(r:V->Option Int->Option Int->Hp->VK->Prop)(te:TE)(tl th:TO):TE:=λσ H Q=>te σ H λx H1=>tl σ H1 λl H2=>th σ H2 λu H3=>r x l u H3 Q
theorem cf5{r:V->Option Int->Option Int->Hp->VK->Prop}(hr:vh X r)(he:PE X e te)(hl:PO X lo tl)(hu:PO X hi th):PE X (.Subscript e (.Slice lo hi none p2) pos) (tSl r te tl th):=by
 intro pins s σ H Q I h
 refine Subscript_ (aN (he pins s σ H _ I h) λv s1 ⟨x,H1,I1,r1,q1⟩=>?_)
 refine wpAny_Slice (aN (hl pins s1 σ H1 _ I1 q1) λvl s2 ⟨l,H2,I2,pl,q2⟩=>aN (hu pins s2 σ H2 _ I2 q2) λvu s3 ⟨u,H3,I3,pu,q3⟩=>?_)
 rw[evalPart_none]
 refine wpAny_pure ?_
 have I4:Inv X pins σ H3 { s3 with heap:=s3.heap.push { cls:=.type "slice",data:=.fields #[vl,vu,.none] } }:=I3.kept (t':=s3.toks) λb ob q=>gh _ q
 obtain⟨T,id,hT,ht,hg⟩:=hr pins { s3 with heap:=s3.heap.push { cls:=.type "slice",data:=.fields #[vl,vu,.none] } } σ H3 x v vl vu l u s3.heap.objs.size Q I4 r1 (Heap.IsSliceOf.new ..) pl pu q3
 show wpAny (model X.prog X.w) X.A (subscriptTail e (.Slice lo hi none p2) v (.ref s3.heap.objs.size)) (EP X pins σ Q) X.xe { s3 with heap:=s3.heap.push { cls:=.type "slice",data:=.fields #[vl,vu,.none] } }
 exact tail_any (ops:=[.ref s3.heap.objs.size,v]) ht hT hg (by with_unfolding_all rfl)
def wZ(xs:List V)(lo hi:Option Int):List V:=(xs.drop (HT.cZ xs.length 0 lo)).take (HT.cZ xs.length xs.length hi-HT.cZ xs.length 0 lo)
theorem bH7(xs:List V)(lo hi:Option Int):(wZ xs lo hi).length<=xs.length:=by
 unfold wZ
 rw[jm,jT]
 omega
end
def jv(n:Nat)(i:Int):Option Nat:=if 0<=i then(if i<n then some i.toNat else none)else if -(n:Int)<=i then some (i+n).toNat else none
def eD{α:Type}(xs:List α)(i:Int):Option α:=(jv xs.length i).bind λj=>xs[j]?
theorem Oo{n:Nat}{i:Int}{j:Nat}(h:jv n i=some j):seqIndex? i n=some j/\j<n/\-(n:Int)<=i/\i<n:=by
 unfold jv at h
 by_cases h0:0<=i
 ·rw[if_pos h0]at h
  by_cases h1:i<n
  ·rw[if_pos h1]at h
   have e:i.toNat=j:=de h
   exact⟨by rw[seqIndex_of h0 h1,e],by omega,by omega,h1⟩
  ·rw[if_neg h1]at h;cases h
 ·rw[if_neg h0]at h
  by_cases h1:-(n:Int)<=i
  ·rw[if_pos h1]at h
   have e:(i+n).toNat=j:=de h
   exact⟨by rw[seqIndex_neg (by omega) h1,e],by omega,h1,by omega⟩
  ·rw[if_neg h1]at h;cases h
theorem qW{α:Type}{xs:List α}{i:Int}{v:α}(h:eD xs i=some v):∃j,seqIndex? i xs.length=some j/\xs[j]?=some v/\j<xs.length/\-(xs.length:Int)<=i/\i<xs.length:=by
 unfold eD at h
 cases e:jv xs.length i with
 | none=>rw[e]at h;cases h
 | some j =>
  rw[e]at h
  obtain⟨h1,h2,h3,h4⟩:=Oo e
  exact⟨j,h1,h,h2,h3,h4⟩
def Oq(b:Expr):Prop:=∀o i,subscripted b false o i=operate [o,i] (getItem o i)
def si(X:Cx)(r:R2):Prop :=
 ∀(value slice:Expr) (pins:List (Addr × Obj)) (s:Shared) (σ:St) (H:Hp) (x y:V) (v u:Value) (Q:VK),Inv X pins σ H s->RelV x v->RelV y u->r x y H Q ->
  subscripted slice false v u=operate [v,u] (getItem v u)->wpAny (model X.prog X.w) X.A (subscriptTail value slice v u) (EP X pins σ Q) X.xe s
def yS(X:Cx)(id:String)(r:V->List V->Hp->VK->Prop):Prop :=
 ∀(pins:List (Addr × Obj)) (s:Shared) (σ:St) (H:Hp) (x:V) (xs:List V) (v:Value) (us:List Value) (Q:VK),Inv X pins σ H s->RelV x v->Vals xs us->r x xs H Q ->
  wpAny (model X.prog X.w) X.A (call (.builtin id) (v::us)) (EP X pins σ Q) X.xe s
section
variable{X:Cx}{a b:Expr}{ta tb:TE}{pos:Pos}
theorem si.or{r r':R2}(h:si X r)(h':si X r'):si X (λx y H Q=>r x y H Q\/r' x y H Q):=by
 intro value slice pins s σ H x y v u Q I rx ry q hs
 rcases q with q | q
 ·exact h value slice pins s σ H x y v u Q I rx ry q hs
 ·exact h' value slice pins s σ H x y v u Q I rx ry q hs
theorem cG9{r:R2}(hr:si X r)(ha:PE X a ta)(hb:PE X b tb)(hs:Oq b):PE X (.Subscript a b pos) (yL r ta tb):=by
 intro pins s σ H Q I h
 exact Subscript_ (FN ha hb I h λv u s2 x y H2 I2 rx ry q=>hr a b pins s2 σ H2 x y v u Q I2 rx ry q (hs _ _))
def Ot(K:PySem.W.Frag):R2:=λx y H Q=>∃p xs i v,x=.ref p/\y=.int i/\bI K H p xs/\eD xs i=some v/\Q v H
def Ou(K:PySem.W.Frag):R2:=λx y H Q=>∃p xs i v,x=.ref p/\y=.int i/\iX K H p xs/\eD xs i=some v/\Q v H
def Ov:R2:=λx y H Q=>∃z i c,x=.str z/\y=.int i/\z.length<=sizeLine/\eD z.cps.toList i=some c/\Q (.str ⟨#[c]⟩) H
theorem cS5:si X (Ot X.K):=by
 intro value slice pins s σ H x y v u Q I rx ry h hs
 obtain⟨p,xs,i,z,rfl,rfl,hq,he,q⟩:=h
 cases rx
 obtain⟨t,rfl⟩:=ry
 obtain⟨its,r,pl,hz⟩:=I.list hq
 obtain⟨j,h1,h2,h3,h4,h5⟩:=qW he
 obtain⟨w,ew,fu⟩:=r.get h2
 have hl:=r.length
 have hn:=tX
 have fin:EP X pins σ Q w s:=⟨z,H,I,fu,q⟩
 by_cases h0:0<=i
 ·have hj:i.toNat=j:=by
   rw[seqIndex_of h0 h5]at h1
   exact de h1
  exact item_listR pl.isList h0 (by omega) (by rw[hj];simpa using ew) fin hs
 ·have hj:(i+(its.toArray.size:Int)).toNat=j:=by
   rw[seqIndex_neg (by omega) h4]at h1
   rw[cO,<- hl]
   exact de h1
  exact subscriptTail_builtinR (x:=w) pl.isList.typeIs slot_list_getitem.lookup
   (wpAny_getItem_list_neg (Q:=λr s'=>r=w/\EP X pins σ Q r s') pl.isList (by omega) (by rw[cO]<;>omega) (by omega) (by rw[hj];simpa using ew) ⟨rfl,fin⟩) hs
theorem cS6:si X (Ou X.K):=by
 intro value slice pins s σ H x y v u Q I rx ry h hs
 obtain⟨p,xs,i,z,rfl,rfl,hq,he,q⟩:=h
 cases rx
 obtain⟨t,rfl⟩:=ry
 obtain⟨its,r,pl,hz⟩:=I.tuple hq
 obtain⟨j,h1,h2,h3,h4,h5⟩:=qW he
 obtain⟨w,ew,fu⟩:=r.get h2
 have hl:=r.length
 have hn:=tX
 have fin:EP X pins σ Q w s:=⟨z,H,I,fu,q⟩
 exact subscriptTail_builtinR (x:=w) pl.typeIs slot_tuple_getitem.lookup
  (getItem_tuple (j:=j) (Q:=λr s'=>r=w/\EP X pins σ Q r s') pl (by omega) (by omega) (by rw[cO,<- hl];exact h1) (by simpa using ew) ⟨rfl,fin⟩) hs
theorem cw6:si X Ov:=by
 intro value slice pins s σ H x y v u Q I rx ry h hs
 obtain⟨z,i,c,rfl,rfl,hz,he,q⟩:=h
 obtain⟨t,rfl⟩:=rx
 obtain⟨t',rfl⟩:=ry
 obtain⟨j,h1,h2,h3,h4,h5⟩:=qW he
 have hl:z.cps.toList.length=z.length:=by simp[Str.length]
 rw[hl]at h1 h4 h5
 have hn:=tX
 exact tail_any (typeIs_str s z t) slot_str_getitem.lookup (getItem_str (c:=c) (by
  have e1:decide (i < -(2 ^ 63:Int))=false:=decide_eq_false (by omega)
  have e2:decide (i ≥ 2 ^ 63)=false:=decide_eq_false (by omega)
  rw[e1,e2,k7]) (by rw[h1];simpa using h2) ⟨.str ⟨#[c]⟩,H,I.tok _,⟨_,rfl⟩,q⟩) hs
def rIx(K:PySem.W.Frag):R2:=λx y H Q=>Ot K x y H Q\/Ou K x y H Q\/Ov x y H Q
theorem cE7:si X (rIx X.K):=cS5.or (cS6.or cw6)
theorem bR3(its:List Value)(n j:Nat)(u:Value):Br (·.setIfInBounds j u) { cls:=.type "list",data:=.seq its.toArray n }={ cls:=.type "list",data:=.seq (its.set j u).toArray n }:=by
 simp[Br]
theorem Inv.lst{pins:List (Addr × Obj)}{σ:St}{H:Hp}{s:Shared}{p:Addr}{xs:List V}(I:Inv X pins σ H s)(h:H p=some (.lst xs)) :
  ∃(its:List Value) (n:Nat),Vals xs its/\s.heap.get? p=some { cls:=.type "list",data:=.seq its.toArray n }/\xs.length<=sizeLine:=by
 obtain⟨z,its,n,r,e⟩:=I.aK p _ h
 exact⟨its,n,r,e,z⟩
theorem Inv.cT1{pins:List (Addr × Obj)}{σ:St}{H:Hp}{s:Shared}{p:Addr}{xs ys:List V}{its its':List Value}{n n':Nat}{f:Obj->Obj}(I:Inv X pins σ H s)(h:H p=some (.lst xs))
  (ho:s.heap.get? p=some { cls:=.type "list",data:=.seq its.toArray n }) (hf:f { cls:=.type "list",data:=.seq its.toArray n }={ cls:=.type "list",data:=.seq its'.toArray n' }) (r:Vals ys its') (hz:ys.length<=sizeLine) (t:Nat) :
  Inv X pins σ (upd H p (.lst ys)) { s with heap:=s.heap.update p f,toks:=t }:=by
 have e:(s.heap.update p f).get? p=some { cls:=.type "list",data:=.seq its'.toArray n' }:=by
  rw[Heap.get?_update_self f ho (by rw[hf]<;>rfl),hf]
 refine I.write (x:=p) (e:=p) (by rw[h];trivial) (.inl rfl) (λb u hb q=>(Heap.get?_update_other _ _ (iu hb)).trans q) ⟨_,e⟩ ?_
 exact⟨hz,its',n',r,e⟩
def cI8:V->V->V->Hp->(Hp->Prop)->Prop:=λo i v H Q=>∃p xs k j,o=.ref p/\i=.int k/\H p=some (.lst xs)/\jv xs.length k=some j/\Q (upd H p (.lst (xs.set j v)))
theorem Ow:FA X cI8:=by
 intro pins s σ H o i v ov iv u Q I ro ri rv h
 obtain⟨p,xs,k,j,rfl,rfl,hp,hj,q⟩:=h
 cases ro
 obtain⟨t,rfl⟩:=ri
 obtain⟨its,n,r,ho,hz⟩:=I.lst hp
 obtain⟨h1,h2,h3,h4⟩:=Oo hj
 have hl:=r.length
 have hn:=tX
 have I':Inv X pins σ (upd H p (.lst (xs.set j v))) { s with heap:=s.heap.update p (Br (·.setIfInBounds j u)) } :=
  I.cT1 hp ho (bR3 its n j u) (r.set rv j) (by rw[uN];exact hz) s.toks
 by_cases h0:0<=k
 ·have hk:k.toNat=j:=by
   rw[seqIndex_of h0 h4]at h1
   exact de h1
  exact PySem.W.ki_setAt ho h0 (by omega) (by rw[cO,<- hl];exact h4) (by rw[hk];exact⟨_,I',q⟩)
 ·have hk:(k+(its.toArray.size:Int)).toNat=j:=by
   rw[seqIndex_neg (by omega) h3]at h1
   rw[cO,<- hl]
   exact de h1
  exact PySem.W.ki_setBack ho (by omega) (by rw[cO,<- hl];exact h3) (by omega) (by rw[hk];exact⟨_,I',q⟩)
theorem FX(lo hi:Option Int)(n:Nat):(sliceBounds lo hi none n).1=((HT.cZ n 0 lo:Nat):Int)/\(sliceBounds lo hi none n).2.1=((HT.cZ n n hi:Nat):Int)/\(sliceBounds lo hi none n).2.2=1:=by
 refine⟨?_,?_,rfl⟩
 ·cases lo with
  | none=>simp[sliceBounds,HT.cZ]
  | some i =>
   simp only[sliceBounds,HT.cZ,k9,show(1:Int)>0 by decide,if_true]
   by_cases h:i<0
   ·simp only[h,if_true]<;>omega
   ·simp only[h,if_false]<;>omega
 ·cases hi with
  | none=>simp[sliceBounds,HT.cZ]
  | some i =>
   simp only[sliceBounds,HT.cZ,k9,show(1:Int)>0 by decide,if_true]
   by_cases h:i<0
   ·simp only[h,if_true]<;>omega
   ·simp only[h,if_false]<;>omega
theorem by6(its:List Value)(lo hi:Option Int):slicePick its.toArray lo hi none=((its.drop (HT.cZ its.length 0 lo)).take (HT.cZ its.length its.length hi-HT.cZ its.length 0 lo)).toArray:=by
 obtain⟨h1,h2,h3⟩:=FX lo hi its.toArray.size
 unfold slicePick
 rw[h1,h2,h3]
 simp only[sliceRange_one,pick_run,cO]<;>rfl
def cQ0(K:PySem.W.Frag):V->Option Int->Option Int->Hp->VK->Prop:=λx lo hi H Q=>∃a xs,x=.ref a/\bI K H a xs/\∀p,H p=none->Q (.ref p) (upd H p (.lst (wZ xs lo hi)))
theorem cT5:vh X (cQ0 X.K):=by
 intro pins s σ H x v vl vu lo hi sl Q I rx hs pl pu h
 obtain⟨a,xs,rfl,hx,q⟩:=h
 cases rx
 obtain⟨its,r,ht,hz⟩:=I.list hx
 have hlen:=r.length
 refine⟨"list",_,slot_list_getitem.lookup,ht.isList.typeIs,?_⟩
 refine wpAny_getItem_list_slice ht.isList hs pl pu .none (by simp) ?_ (by rw[cO]<;>omega)
 rw[by6,<- hlen]
 refine⟨.ref s.heap.objs.size,_,I.laid (t':=s.toks) (o:=.lst (wZ xs lo hi)) (λb ob q=>gh _ q) (bG _) ?_,rfl,q _ (I.aK.fresh (bG _))⟩
 exact⟨cQ (bH7 xs lo hi) hz,_,0,(r.drop (HT.cZ xs.length 0 lo)).take (HT.cZ xs.length xs.length hi-HT.cZ xs.length 0 lo),iw _ rfl⟩
def sj:V->Bool
 | .aq=>true
 | .bl _=>true
 | .int _=>true
 | .str _=>true
 | _=>false
def qX:V->V->Bool
 | .aq,.aq=>true
 | .bl a,.bl b=>a==b
 | .bl a,.int b=>(if a then 1 else 0)==b
 | .int a,.bl b=>a==(if b then 1 else 0)
 | .int a,.int b=>a==b
 | .str a,.str b=>a==b
 | _,_=>false
theorem cA6{A:Around}{s:Shared}{y x:V}{u v:Value}(ry:RelV y u)(rx:RelV x v)(fy:sj y=true)(fx:sj x=true):EK A s u v (qX y x):=by
 cases y with
 | aq =>
  cases ry
  cases x with
  | aq=>cases rx;exact SeqAt.EqAt.same _
  | bl b=>cases rx;exact SeqAt.EqAt.none_bool b
  | int b=>obtain⟨t,rfl⟩:=rx;exact SeqAt.EqAt.none_int b t
  | str b=>obtain⟨t,rfl⟩:=rx;exact SeqAt.EqAt.none_str b t
  | _=>exact absurd (show false=true from fx) jk
 | bl a =>
  cases ry
  cases x with
  | aq=>cases rx;exact SeqAt.EqAt.bool_none a
  | bl b=>cases rx;exact SeqAt.EqAt.bool_bool a b
  | int b=>obtain⟨t,rfl⟩:=rx;exact SeqAt.EqAt.bool_int a b t
  | str b=>obtain⟨t,rfl⟩:=rx;exact SeqAt.EqAt.bool_str a b t
  | _=>exact absurd (show false=true from fx) jk
 | int a =>
  obtain⟨t',rfl⟩:=ry
  cases x with
  | aq=>cases rx;exact SeqAt.EqAt.int_none a t'
  | bl b=>cases rx;exact SeqAt.EqAt.int_bool a t' b
  | int b=>obtain⟨t,rfl⟩:=rx;exact SeqAt.EqAt.int_int a t' b t
  | str b=>obtain⟨t,rfl⟩:=rx;exact SeqAt.EqAt.int_str a t' b t
  | _=>exact absurd (show false=true from fx) jk
 | str a =>
  obtain⟨t',rfl⟩:=ry
  cases x with
  | aq=>cases rx;exact SeqAt.EqAt.str_none a t'
  | bl b=>cases rx;exact SeqAt.EqAt.str_bool a t' b
  | int b=>obtain⟨t,rfl⟩:=rx;exact SeqAt.EqAt.str_int a t' b t
  | str b=>obtain⟨t,rfl⟩:=rx;exact SeqAt.EqAt.str_str a t' b t
  | _=>exact absurd (show false=true from fx) jk
 | _=>exact absurd (show false=true from fy) jk
def sk(x:V)(u:Value):Bool:=match u with
 | .none=>qX .aq x
 | .bool b=>qX (.bl b) x
 | .int i _=>qX (.int i) x
 | .str z _=>qX (.str z) x
 | _=>false
theorem Ox{x y:V}{u:Value}(r:RelV y u)(f:sj y=true):sk x u=qX y x:=by
 cases y with
 | aq=>cases r;rfl
 | bl b=>cases r;rfl
 | int i=>obtain⟨t,rfl⟩:=r;rfl
 | str z=>obtain⟨t,rfl⟩:=r;rfl
 | _=>exact absurd (show false=true from f) jk
theorem FY{x:V}:∀{xs:List V} {us:List Value},Vals xs us->xs.all sj=true->us.any (sk x)=xs.any λy=>qX y x
 | _,_,.nil,_=>rfl
 | y::xs,u::us,.cons r t,f=>by
  rw[cH,eZ]at f
  rw[List.any_cons,List.any_cons,Ox r f.1,FY t f.2]
theorem FZ{A:Around}{s:Shared}{x:V}{v:Value}(rx:RelV x v)(fx:sj x=true):∀{xs:List V} {us:List Value},Vals xs us->xs.all sj=true->∀u∈us,EK A s u v (sk x u)
 | _,_,.nil,_=>λu hu=>by cases hu
 | y::xs,u::us,.cons r t,f=>λu' hu=>by
  rw[cH,eZ]at f
  rcases cN.mp hu with rfl | hu
  ·rw[Ox r f.1];exact cA6 r rx f.1 fx
  ·exact FZ rx fx t f.2 u' hu
def Ca(x:V)(xs:List V):Bool:=xs.any λy=>qX y x
def rIn(K:PySem.W.Frag)(neg:Bool):R2:=λx y H Q=>∃p xs,y=.ref p/\(bI K H p xs\/iX K H p xs)/\sj x=true/\xs.all sj=true/\Q (.bl (if neg then !Ca x xs else Ca x xs)) H
theorem bF0:cI X (compareOp .NotIn) (rIn X.K true):=by
 intro pins s σ H x y v u Q I rx ry h
 obtain⟨p,xs,rfl,hq,fx,fs,q⟩:=h
 cases ry
 rcases hq with hq | hq
 ·obtain⟨its,r,pl,hz⟩:=I.list hq
  refine SeqAt.notIn_listAt (sk x) pl.isList (λw hw=>FZ rx fx r fs w (by simpa using hw)) ⟨.bl _,H,I,rfl,?_⟩
  rw[show its.toArray.any (sk x)=its.any (sk x) by simp,FY r fs]
  exact q
 ·obtain⟨its,r,pl,hz⟩:=I.tuple hq
  refine SeqAt.notIn_tupleAt (sk x) pl (λw hw=>FZ rx fx r fs w (by simpa using hw)) ⟨.bl _,H,I,rfl,?_⟩
  rw[show its.toArray.any (sk x)=its.any (sk x) by simp,FY r fs]
  exact q
theorem Oy:g5 X (.builtin "len") (λxs H Q=>∃p ys,xs=[.ref p]/\(bI X.K H p ys\/iX X.K H p ys)/\Q (.int ys.length) H):=by
 intro pins s σ H xs us Q I r h
 obtain⟨p,ys,rfl,hq,q⟩:=h
 obtain⟨u,rfl,rx⟩:=yN r
 cases rx
 have hn:=tX
 rcases hq with hq | hq
 ·obtain⟨its,r',pl,hz⟩:=I.list hq
  have hlen:=r'.length
  exact Calls.call_len_list pl.isList (by simp only[cO]<;>omega) ⟨.int ys.length,H,I.tok _,⟨s.toks+1,by rw[cO,hlen]⟩,q⟩
 ·obtain⟨its,r',pl,hz⟩:=I.tuple hq
  have hlen:=r'.length
  exact len_tuple pl (by simp only[cO]<;>omega) ⟨.int ys.length,H,I.tok _,⟨s.toks+1,by rw[cO,hlen]⟩,q⟩
theorem bD7:g5 X (.builtin "len") (λxs H Q=>∃z,xs=[.str z]/\z.length<=sizeLine/\Q (.int z.length) H):=by
 intro pins s σ H xs us Q I r h
 obtain⟨z,rfl,hz,q⟩:=h
 obtain⟨u,rfl,t,rfl⟩:=yN r
 have hn:=tX
 exact len_str (by omega) ⟨.int z.length,H,I.tok _,⟨_,rfl⟩,q⟩
theorem g5.or{f:Value}{r r':List V->Hp->VK->Prop}(h:g5 X f r)(h':g5 X f r'):g5 X f (λxs H Q=>r xs H Q\/r' xs H Q):=by
 intro pins s σ H xs us Q I rs q
 rcases q with q | q
 ·exact h pins s σ H xs us Q I rs q
 ·exact h' pins s σ H xs us Q I rs q
theorem bE1:g5 X (.type "list") (λxs H Q=>∃p ys,xs=[.ref p]/\(bI X.K H p ys\/iX X.K H p ys)/\∀l,H l=none->Q (.ref l) (upd H l (.lst ys))):=by
 intro pins s σ H xs us Q I r h
 obtain⟨p,ys,rfl,hq,q⟩:=h
 obtain⟨u,rfl,rx⟩:=yN r
 cases rx
 have fin:∀(its:List Value),Vals ys its->ys.length<=sizeLine->∀(h':Heap) (c':Nat),(∀b o',s.heap.get? b=some o'->h'.get? b=some o') ->
   h'.get? s.heap.objs.size=some { cls:=.type "list",dict:=none,data:=.seq its.toArray c',slots:=#[] }->EP X pins σ Q (.ref s.heap.objs.size) { s with heap:=h' }:=λits r' hz h' c' kp e =>
  ⟨.ref s.heap.objs.size,_,I.laid (t':=s.toks) kp (bG _) (show fc X.prog X.w _ h' _ (.lst ys) from⟨hz,its,c',r',e⟩),rfl,q _ (I.aK.fresh (bG _))⟩
 rcases hq with hq | hq
 ·obtain⟨its,r',pl,hz⟩:=I.list hq
  have hlen:=r'.length
  obtain⟨o,ho,hc,n,hd⟩:=pl.isList
  exact call_list_seq p (.inl rfl) ho hc hd (λh' c' kp e=>fin its r' hz h' c' kp e) (by simp only[cO]<;>omega)
 ·obtain⟨its,r',pl,hz⟩:=I.tuple hq
  have hlen:=r'.length
  obtain⟨o,ho,hc,n,hd⟩:=pl
  exact call_list_seq p (.inr rfl) ho hc hd (λh' c' kp e=>fin its r' hz h' c' kp e) (by simp only[cO]<;>omega)
def Ga(K:PySem.W.Frag)(T:String)(x:V)(H:Hp):Prop:=match x with
 | .str _=>T="str"
 | .int _=>T="int"
 | .ref p=>(T="list"/\∃xs,bI K H p xs)\/(T="tuple"/\∃o,K.lookup p=some o/\o.cls=.type "tuple"/\o.dict=none) \/
   (T="dict"/\((∃eo,H p=some (.dK eo))\/∃eo,H p=some (.dT eo)))\/(T="set"/\∃S n,H p=some (.set S n))
 | _=>False
theorem Oz{pins:List (Addr × Obj)}{σ:St}{H:Hp}{s:Shared}{T:String}{x:V}{v:Value}(I:Inv X pins σ H s)(r:RelV x v)(ty:Ga X.K T x H) :
  s.TypeIs v T/\∀a,v=.ref a->∃ob,s.heap.get? a=some ob/\ob.dict=none:=by
 cases x with
 | str z =>
  obtain⟨t,rfl⟩:=r
  cases(show T="str" from ty)
  exact⟨typeIs_str s z t,λ_ e=>nomatch e⟩
 | int i =>
  obtain⟨t,rfl⟩:=r
  cases(show T="int" from ty)
  exact⟨typeIs_int s i t,λ_ e=>nomatch e⟩
 | ref p =>
  cases r
  rcases ty with⟨rfl,xs,hq⟩ | ⟨rfl,o,hk,hc,hd⟩ | ⟨rfl,hk⟩ | ⟨rfl,S,n,hk⟩
  ·obtain⟨its,_,pl,_⟩:=I.list hq
   refine⟨pl.isList.typeIs,λa e=>?_⟩
   cases e
   obtain⟨o,n,e,c,hd,_⟩:=pl
   exact⟨o,e,hd⟩
  ·refine⟨⟨o,I.dB p o hk,hc⟩,λa e=>?_⟩
   cases e
   exact⟨o,I.dB _ o hk,hd⟩
  ·have z:∃o,s.heap.get? p=some o/\o.ExactDict:=by
    rcases hk with⟨eo,hk⟩ | ⟨eo,hk⟩
    ·obtain⟨_,_,_,_,o,_,_,e,ex,_⟩:=I.aK p _ hk
     exact⟨o,e,ex⟩
    ·obtain⟨_,_,_,_,o,_,_,e,ex,_⟩:=I.aK p _ hk
     exact⟨o,e,ex⟩
   obtain⟨o,e,ex⟩:=z
   refine⟨⟨o,e,ex.1⟩,λa e2=>?_⟩
   cases e2
   exact⟨o,e,ex.2.1⟩
  ·obtain⟨o,_,_,_,e,ex,_⟩:=I.aK p _ hk
   refine⟨⟨o,e,ex.1⟩,λa e2=>?_⟩
   cases e2
   exact⟨o,e,ex.2.1⟩
 | _=>exact gG ty
def OA(K:PySem.W.Frag)(T:String)(r:V->List V->Hp->VK->Prop)(to:TE):TE:=λσ H Q=>to σ H λx H1=>Ga K T x H1/\r x [] H1 Q
def tBM(K:PySem.W.Frag)(T:String)(r:V->List V->Hp->VK->Prop)(to:TE)(t:TA):TE:=λσ H Q=>to σ H λx H1=>Ga K T x H1/\t σ H1 λxs H2=>r x xs H2 Q
variable{o e:Expr}{es:List Expr}{to:TE}{t:TA}{name:Str}{apos bJ:Pos}{T id:String}{r:V->List V->Hp->VK->Prop}
theorem cy2(pa:PlainAttrs T)(slot:Slot T name id)(Gb:typeOf (.builtin id)=pure (.type "method_descriptor"))(hm:yS X id r)(ho:PE X o to)
  (jw:attributeBase o name X.env (eval o X.env)=eval o X.env:=by rfl) (jx:(apos.endLine==bJ.line)=true:=by rfl):PE X (.Call (.Attribute o name apos) [] [] bJ) (OA X.K T r to):=by
 intro pins s σ H Q I h
 refine wpAny_Call_method0_late jw jx (aN (ho pins s σ H _ I h) λv s1 ⟨x,H1,I1,r1,ty,q1⟩=>?_)
 obtain⟨h1,h2⟩:=Oz I1 r1 ty
 exact⟨T,id,pa,slot,Gb,h1,h2,Calls.callWith_builtin rfl (PySem.evalArgs_none (hm pins s1 σ H1 x [] v [] Q I1 r1 .nil q1))⟩
theorem yT(pa:PlainAttrs T)(slot:Slot T name id)(Gb:typeOf (.builtin id)=pure (.type "method_descriptor"))(hm:yS X id r)(ho:PE X o to)(ha:PA X (e::es) t)
  (jw:attributeBase o name X.env (eval o X.env)=eval o X.env:=by rfl)
  (sq:((backTo bJ (starEach (e::es) X.env)).all (λx=>!x.1)&&(backToKw bJ (keywordEach [] X.env)).all (λx=>x.1.isSome)
   && decide ((e::es).length+([]:List Keyword).length+(if([]:List Keyword).isEmpty then 0 else 1)<30))=true:=by rfl)
  (jx:(apos.endLine==bJ.line)=true:=by rfl) (hs:starEach (e::es) X.env=(false,eval e X.env)::starEach es X.env:=by rfl) (sr:(backTo bJ (starEach es X.env)).any (·.1)=false:=by rfl) :
  PE X (.Call (.Attribute o name apos) (e::es) [] bJ) (tBM X.K T r to t):=by
 intro pins s σ H Q I h
 refine wpAny_Call_method_late jw sq jx rfl (aN (ho pins s σ H _ I h) λv s1 ⟨x,H1,I1,r1,ty,q1⟩=>?_)
 obtain⟨h1,h2⟩:=Oz I1 r1 ty
 refine⟨T,id,pa,slot,Gb,h1,h2,?_⟩
 have hA:=ha bJ pins s1 σ H1 _ I1 q1
 rw[hs]at hA ⊢
 refine Calls.callWith_builtin (by show(false||(backTo bJ (starEach es X.env)).any (·.1))=false;rw[sr]<;>rfl) (Calls.evalArgs_plain ?_)
 exact aN hA λus s2 ⟨vs,H2,I2,r2,q2⟩=>hm pins s2 σ H2 x vs v us Q I2 r1 r2 q2
/- xs.append(e),list.index on a ec2 tuple .. are yS facts of 06m -/
end
def Gd(X:Cx)(id:String)(r:V->List V->Hp->VK->Prop):Prop :=
 ∀(pins:List (Addr × Obj)) (s:Shared) (σ:St) (H:Hp) (x:V) (xs:List V) (v:Value) (us:List Value) (Q:VK),Inv X pins σ H s->RelV x v->Vals xs us->r x xs H Q ->
  wpAny (model X.prog X.w) X.A (call (.builtin id) (v::us)) (EP X pins σ Q) X.xe s
theorem Vals.one:∀{x:V} {us:List Value},Vals [x] us->∃u,us=[u]/\RelV x u
 | _,_,h=>by cases h with | cons r h=>cases h;exact⟨_,rfl,r⟩
theorem Vals.two:∀{x y:V} {us:List Value},Vals [x,y] us->∃u v,us=[u,v]/\RelV x u/\RelV y v
 | _,_,_,h=>by cases h with | cons r h=>cases h with | cons q h=>cases h;exact⟨_,_,rfl,r,q⟩
theorem Vals.eraseIdx:∀{xs:List V} {us:List Value} (i:Nat),Vals xs us->Vals (xs.eraseIdx i) (us.eraseIdx i)
 | _,_,_,.nil=>.nil
 | _,_,0,.cons _ t=>t
 | _,_,i+1,.cons r t=>.cons r (Vals.eraseIdx i t)
theorem Vals.rep{xs:List V}{us:List Value}(h:Vals xs us):∀k:Nat,Vals (aW k xs).flatten (aW k us).flatten
 | 0=>.nil
 | k+1=>by
  rw[uO,uO,wo,wo]
  exact Vals.append h (Vals.rep h k)
theorem OB{α:Type}:∀(l:List α) (i:Nat),(l.eraseIdx i).length<=l.length
 | [],_=>bG _
 | _::_,0=>Nat.le_succ _
 | _::r,i+1=>Nat.succ_le_succ (OB r i)
theorem OC(its:List Value):∀(k:Nat) (acc:List Value),
  List.foldl (λx1 x2=>x1++x2) acc.toArray (aW k its.toArray)=(acc++(aW k its).flatten).toArray
 | 0,acc=>by simp
 | k+1,acc=>by
  have e:acc.toArray++its.toArray=(acc++its).toArray:=by simp
  have e2:(acc++its)++(aW k its).flatten=acc++(aW (k+1) its).flatten:=by
   rw[uO,wo,eM]
  rw[<-e2,<- OC its k (acc++its),<- e,uO,uP]
section
variable{X:Cx}{pins:List (Addr × Obj)}{σ:St}{H:Hp}{s:Shared}{l b:Addr}{xs ys zs:List V}
theorem Inv.Ge{its its':List Value}{n:Nat}{f:Array Value->Array Value}{t':Nat}(I:Inv X pins σ H s)(hH:H l=some (.lst xs))
  (e:s.heap.get? l=some { cls:=.type "list",data:=.seq its.toArray n }) (hf:f its.toArray=its'.toArray) (hv:Vals ys its') (hz:ys.length<=sizeLine) :
  Inv X pins σ (upd H l (.lst ys)) { s with heap:=s.heap.update l (Br f),toks:=t' }:=by
 have q:=PySem.IsL.update e f
 rw[hf]at q
 refine I.write (x:=l) (e:=l) (by rw[hH];exact trivial) (.inl rfl) (λb' u hb hu=>(Heap.get?_update_other s.heap (Br f) (iu hb)).trans hu) ⟨_,q⟩ ?_
 exact⟨hz,its',_,hv,q⟩
theorem Inv.OD{its:List Value}{t':Nat}(I:Inv X pins σ H s)(hv:Vals ys its)(hz:ys.length<=sizeLine) :
  Inv X pins σ (upd H s.heap.objs.size (.lst ys)) { s with heap:=s.heap.push { cls:=.type "list",data:=.seq its.toArray },toks:=t' } :=
 I.laid (λ_ _ q=>gh _ q) (bG _) ⟨hz,its,0,hv,iw _ rfl⟩
theorem Inv.fresh(I:Inv X pins σ H s):H s.heap.objs.size=none:=I.aK.fresh (bG _)
theorem Inv.vi(I:Inv X pins σ H s)(hH:H l=some (.lst xs)):xs.length<=sizeLine/\∃(its:List Value) (n:Nat),Vals xs its/\xs.length=its.length/\s.heap.get? l=some { cls:=.type "list",data:=.seq its.toArray n }:=by
 obtain⟨z,its,n,r,e⟩:=I.aK l _ hH
 exact⟨z,its,n,r,r.length,e⟩
theorem OE{n:Nat}(h:n<=sizeLine):EL n=false:=by
 unfold EL
 exact decide_eq_false (by omega)
end
section
variable{X:Cx}
def cr7:V->List V->Hp->VK->Prop:=λx vs H Q=>∃l xs y,x=.ref l/\vs=[y]/\H l=some (.lst xs)/\xs.length<sizeLine/\Q .aq (upd H l (.lst (xs++[y])))
theorem Gf:Gd X "list.append" cr7:=by
 intro pins s σ H x vs v us Q I rx rv h
 obtain⟨l,xs,y,rfl,rfl,hH,hz,q⟩:=h
 cases rx
 obtain⟨u,rfl,ru⟩:=rv.one
 obtain⟨z,its,n,r,hl,e⟩:=I.vi hH
 refine call_meets F.slot_list_append ⟨_,e,rfl⟩ F.entry_list_append (F.args_list_append_2 _ _) (PySem.list_append l its.toArray n u (by rw[cO];omega)) ⟨e,?_⟩
 refine⟨.aq,_,I.Ge (its':=its++[u]) hH e (by simp) (r.append (.cons ru .nil)) ?_,rfl,q⟩
 rw[df,EM]
 omega
def cs6:V->List V->Hp->VK->Prop:=λx vs H Q=>∃l b xs zs,x=.ref l/\vs=[.ref b]/\H l=some (.lst xs)/\H b=some (.lst zs)/\xs.length+zs.length<=sizeLine/\Q .aq (upd H l (.lst (xs++zs)))
theorem bX1:Gd X "list.extend" cs6:=by
 intro pins s σ H x vs v us Q I rx rv h
 obtain⟨l,b,xs,zs,rfl,rfl,hH,hB,hz,q⟩:=h
 cases rx
 obtain⟨u,rfl,ru⟩:=rv.one
 cases ru
 obtain⟨z,its,n,r,hl,e⟩:=I.vi hH
 obtain⟨z2,vj,n2,r2,yU,e2⟩:=I.vi hB
 have tY:its.toArray.size+vj.toArray.size<=sizeLine:=by rw[cO,cO];omega
 have Gg:¬ (!its.toArray.isEmpty&&EL (its.toArray.size+vj.toArray.size))=true:=by
  rw[OE tY,EN]
  exact jk
 refine call_meets F.slot_list_extend ⟨_,e,rfl⟩ F.entry_list_extend (F.args_list_extend_2 _ _)
  (AutoSeq1.list_extend_list_list_0 l its.toArray n b vj.toArray n2 Gg (by rw[cO];omega) (by omega)) ⟨e,e2,?_⟩
 refine⟨.aq,_,I.Ge (its':=its++vj) hH e (by simp) (r.append r2) ?_,rfl,q⟩
 rw[df]
 omega
def cF8:V->List V->Hp->VK->Prop:=λx vs H Q=>∃l xs i k y,x=.ref l/\vs=[.int i]/\H l=some (.lst xs)/\-(2 ^ 63)<=i/\i<2 ^ 63/\seqIndex? i xs.length=some k/\xs[k]?=some y/\Q y (upd H l (.lst (xs.eraseIdx k)))
theorem b82:Gd X "list.pop" cF8:=by
 intro pins s σ H x vs v us Q I rx rv h
 obtain⟨l,xs,i,k,y,rfl,rfl,hH,h1,h2,hk,hy,q⟩:=h
 cases rx
 obtain⟨u,rfl,ru⟩:=rv.one
 obtain⟨t,rfl⟩:=ru
 obtain⟨z,its,n,r,hl,e⟩:=I.vi hH
 obtain⟨w,hw,fu⟩:=r.get hy
 refine call_meets F.slot_list_pop ⟨_,e,rfl⟩ F.entry_list_pop (F.args_list_pop_2 _ _)
  (MeetsSeq.list_pop_at l its.toArray n i t k w (fitsIndex_both h1 h2) (by rw[cO,<- hl];exact hk) (by rw[<-Array.getElem?_toList];exact hw) (by rw[cO];omega)) ⟨e,?_⟩
 refine⟨y,_,I.Ge (its':=its.eraseIdx k) hH e ?_ (r.eraseIdx k) ?_,fu,q⟩
 ·show its.toArray.eraseIdxIfInBounds k=(its.eraseIdx k).toArray
  rw[List.eraseIdxIfInBounds_toArray]
 ·have:=OB xs k
  omega
def cP8:R2:=λx y H Q=>∃l b xs zs,x=.ref l/\y=.ref b/\H l=some (.lst xs)/\H b=some (.lst zs)/\xs.length+zs.length<=sizeLine/\∀p,H p=none->Q (.ref p) (upd H p (.lst (xs++zs)))
theorem OF:cI X (binaryOp .Add) cP8:=by
 intro pins s σ H x y v u Q I rx ry h
 obtain⟨l,b,xs,zs,rfl,rfl,hH,hB,hz,q⟩:=h
 cases rx
 cases ry
 obtain⟨z,its,n,r,hl,e⟩:=I.vi hH
 obtain⟨z2,vj,n2,r2,yU,e2⟩:=I.vi hB
 refine PySem.P.add_list e e2 ?_ (by rw[cO,cO];omega)
 have ea:its.toArray++vj.toArray=(its++vj).toArray:=by simp
 rw[ea]
 exact⟨.ref _,_,I.OD (t':=s.toks) (r.append r2) (by rw[df];omega),rfl,q _ I.fresh⟩
def cO2:R2:=λx y H Q=>∃l k xs,x=.ref l/\y=.int k/\H l=some (.lst xs)/\-(2 ^ 63)<=k/\k<2 ^ 63/\xs.length*k.toNat<=sizeLine /\
 ∀p,H p=none->Q (.ref p) (upd H p (.lst (aW k.toNat xs).flatten))
theorem cp9{α:Type}(xs:List α)(k:Nat):(aW k xs).flatten.length=k*xs.length:=by
 induction k with
 | zero=>simp
 | succ k ih=>rw[uO,wo,df,ih,Nat.succ_mul,yo]
theorem cD5:cI X (binaryOp .Mult) cO2:=by
 intro pins s σ H x y v u Q I rx ry h
 obtain⟨l,k,xs,rfl,rfl,hH,h1,h2,hz,q⟩:=h
 cases rx
 obtain⟨t,rfl⟩:=ry
 obtain⟨z,its,n,r,hl,e⟩:=I.vi hH
 have hlen:its.toArray.size*k.toNat<=sizeLine:=by rw[cO,<- hl];exact hz
 have cV2:¬ its.toArray.size*k.toNat>(2 ^ 63-1)/8:=by
  have:(sizeLine:Nat)<=(2 ^ 63-1)/8:=by decide
  omega
 have cV3:¬ (!Builtin.List.listFitsIndex k)=true:=by
  rw[fitsIndex_both h1 h2]
  exact jk
 have Gg:¬ EL (its.toArray.size*k.toNat)=true:=by
  rw[OE hlen]
  exact jk
 have cV4:List.foldl (λx1 x2=>x1++x2) #[] (aW (if its.toArray.isEmpty=true then 0 else k.toNat) its.toArray)=(aW k.toNat its).flatten.toArray:=by
  have f0:∀m:Nat,List.foldl (λx1 x2=>x1++x2) #[] (aW m its.toArray)=(aW m its).flatten.toArray:=λm=>by
   have:=OC its m []
   rw[jU]at this
   exact this
  rw[f0]
  cases its with
  | nil=>simp
  | cons a r'=>rw[if_neg (by simp)]
 refine wpAny_binaryOp_repeat_ref (T:="list") (U:="int") (by decide) ⟨_,e,rfl⟩ (λs'=>typeIs_int s' k t) noFill_list_mul F.fills_int_mul F.slot_int_rmul repeat_list F.slot_int_index.lookup
  (call_meets F.slot_int_rmul (typeIs_int s k t) F.entry_int_rmul (F.args_int_rmul_2 _ _) (int___rmul___int_list k t l its.toArray n)
   ⟨e,rfl,⟨_,e,rfl⟩,call_meets F.slot_list_mul ⟨_,e,rfl⟩ F.entry_list_mul (F.args_list_mul_2 _ _) (AutoListH.list___mul___list_int_3 l its.toArray n k t cV3 cV2 Gg) ⟨e,?_⟩⟩)
 rw[cV4]
 exact⟨.ref _,_,I.OD (t':=s.toks) (r.rep k.toNat) (by rw[cp9,jV];exact hz),rfl,q _ I.fresh⟩
end
section
variable{prog:Program}{w:World}{A:Around}{E:Value->Shared->Prop}{s:Shared}
end
section
variable{X:Cx}
end
end L2
namespace Att
open PySem PySem.W PySem.Calls PyProof.Rows
theorem br7{P:Params}{h:Heap}:∀(ns:List Int) (vs:List Value),WellAll P h vs (ns.map WData.int)->IntsAre vs ns:=by
 intro ns
 induction ns with
 | nil =>
  intro vs w
  rw[gv]at w
  cases w
  exact .nil
 | cons n ns ih =>
  intro vs w
  rw[bR]at w
  cases w with
  | cons a b =>
   cases a
   exact .cons _ _ (ih _ b)
theorem b27{l:OpenLaw}{n:Nat}(hn:l.most=some n){P:Params}{h:Heap}{args:List WData}{vals:List Value}
  (Cb:l.row.toRowW.claim.pre args=true) (Gh:WellAll P h vals args) :
  ∃a vs ns,vals=[gZ a]/\args=[WData.list (ns.map WData.int)]/\h.get? a=some { cls:=.type "list",data:=.seq vs.toArray }/\IntsAre vs ns/\ns.length<=n:=by
 have yV:WShape.hasAll [] args [.list .int]=true:=(pre_splitW Cb).1
 have hc:l.pre.holds [] { args:=args }=true:=(pre_splitW Cb).2
 obtain⟨d,r,rfl,h1,h2⟩:=hasAllW_cons yV
 obtain rfl:=hasAllW_nil h2
 obtain⟨xs,rfl,h3⟩:=hasW_list h1
 obtain⟨ns,rfl⟩:=items_int h3
 have hlen:ns.length<=n:=by
  unfold OpenLaw.pre at hc
  have h4:(WTm.not (.lt (.lit (.int (n:Int))) (.len (.arg 0)))).holds [] { args:=[.list (ns.map .int)] }=true:=by
   have h4:=(holds_andW hc).1
   rw[hn]at h4
   exact h4
  have h5:=condW_of h4 (w_not (w_lt w_lit (w_len_list (w_arg rfl))))
  rw[aR]at h5
  refine M4 λq=>?_
  have q':(n:Int)<((ns.length:Nat):Int):=by omega
  first
   | (rw[decide_eq_true q']at h5;exact absurd h5 (by decide))
   | (simp at h5;omega)
 cases Gh with
 | cons w1 w2 =>
  cases w2
  cases w1 with
  | list ho cV7=>exact⟨_,_,ns,rfl,rfl,ho,br7 ns _ cV7,hlen⟩
theorem bY5(l:OpenLaw)(args:List WData):l.row.toRowW.claim.post args (.bool true) args=true :=
 postW_of (r:=l.row.toRowW) (X:=(true==true))
  (show WShape.has [] (.bool true) .bool=true by first | rfl | decide | simp[WShape.has,WShape.arms,WShape.armsAll])
  (show(WTm.eq .res (.lit (.bool true))).value [] { args:=args,res:=some (.bool true),after:=args }=some (.bool (true==true)) from w_eq_bool (w_res rfl) w_lit) rfl
theorem cV9{l:OpenLaw}{n:Nat}{q:Program}{loose:List Str}{XP:(Str->Option Value)->Heap->Prop}{YP:World->Heap->Prop}{d:DefRec}
  (hn:l.most=some n) (yW:d.params.defaults=[])
  (call:∀(w:World) (eQ bH:Shared) (mg mb:Str->Option Value) (fa:Addr) (o:Obj) (pm cd doc:Value) (a:Addr) (vs:List Value) (ns:List Int),
   Ground q loose [] XP w eQ mg mb bH.heap->YP w bH.heap ->
   bH.heap.get? fa=some o->o.data=.func (docDef d.name d.params d.body d.scope pm cd doc)->bH.heap.CodeRec cd d.name->mg d.name=some (.ref fa) ->
   bH.heap.get? a=some { cls:=.type "list",data:=.seq vs.toArray }->IntsAre vs ns->ns.length<=n->bH.gens=#[] ->
   codeAny (model l.prog w) callerA (.call (.ref fa) ⟨[.ref a],[]⟩) (λr s'=>r=.ok (.ret (.bool true))/\OldK bH.heap s'.heap/\s'.os=bH.os/\AllBare s'.gens) bH) :
  WalkO q loose XP YP l.row.toRowW d [] (λf vs=>PySem.call f vs):=by
 intro w eQ bH mg mb G Y fa o pm cd doc dV kV ho hd cC hD yX hg args vals as Cb ec3 hrd Gh fv
 obtain rfl:dV=.none:=Dflts.none hD yW
 obtain rfl:kV=.none:=Dflts.noKw hD
 obtain⟨a,vs,ns,rfl,rfl,Gi,hints,hlen⟩:=b27 hn Cb Gh
 refine enter_call (codeAny_mono (call w eQ bH mg mb fa o pm cd doc a vs ns G Y ho (fd_plain hd) cC yX Gi hints hlen hg) λr s' hq=>?_)
 obtain⟨rfl,h2,h3,h4⟩:=hq
 exact⟨.inl ⟨.bool true,.bool true,[],rfl,λ_=>rfl,.bool true,bY5 l _,λ_=>⟨M5,λ_ hm=>(nomatch hm)⟩⟩,h2,h3,h4⟩
section
variable{prog:Program}{w:World}{A:Around}{E:Value->Shared->Prop}{s:Shared}{K:Frag}
end
end Att
namespace L2
open PySem PySem.Spec PyProof.Rows
theorem OG:∀{vs:List Value} {ns:List Int},IntsAre vs ns->Vals (ns.map V.int) vs
 | _,_,.nil=>.nil
 | _,_,.cons n t h=>.cons ⟨t,rfl⟩ (OG h)
end L2
/- THE ec6 ec7 (shape;LID,My.* are ec9):
   My.gj: a structure of OH addresses ed0 ed1 ed2 names (classes,ed3);My.Txt K t: a structure (Prop) of OH equations over K;
   My.ed4:{K} {implicit addresses ..} (e1:nsIn K mainGlobals "law"=some (some (.ref f))) (e2:K.lookup f=some ⟨oc,od,.func (fnOf "law" "law" params body scope dV kV doc pm an aG ct),sl⟩) (e3:codeIn K aG "law"=true) ..:∃t,My.Txt K t
(OH tactic k_is has no namespace: write k_is) -/
namespace L2
open PySem PySem.Spec PyProof.Rows
def g7(s:Stmt)(j:Nat):Stmt:=match s with
 | .ClassDef _ _ _ body _ _ _ _ _ _ _=>body.getD j (.Pass ⟨0,0,0,0⟩)
 | _=>.Pass ⟨0,0,0,0⟩
def jy(s:Stmt):Arguments:=match s with
 | .FunctionDef _ a _ _ _ _ _ _ _ _=>a
 | _=>{ posonlyargs:=[],args:=[],vararg:=none,kwonlyargs:=[],kw_defaults:=[],kwarg:=none,defaults:=[] }
def gy(s:Stmt):List Stmt:=match s with
 | .FunctionDef _ _ b _ _ _ _ _ _ _=>b
 | _=>[]
def aM(s:Stmt):Scope:=match s with
 | .FunctionDef _ _ _ _ _ _ sc _ _ _=>sc
 | _=>{ kind:=.function,names:=[],isGenerator:=false,isCoroutine:=false }
abbrev aS:fg:=λ_ _ _ _ _ _=>False
abbrev E0:XK:=λ_ _ _=>False
theorem dH{X:Cx}:p9 aS X E0:=λ_ _ _ _ _ _ _ h=>h.elim
structure bh(K:PySem.W.Frag)(x qual:Str)(st:Stmt)(f:Addr)(fd:FuncData):Prop where
 ex:∃(oc:Value) (od:Option Addr) (kV doc pm:Value) (an:Option Addr) (aG ct:Value) (jt:Array (Option Value)),
  fd=PySem.W.fnOf x qual (jy st) (gy st) (aM st) .none kV doc pm an aG ct/\K.lookup f=some ⟨oc,od,.func fd,jt⟩/\PySem.W.codeIn K aG qual=true
 kp:PySem.W.keepIn K (.ref f)=true
section
variable{P:Program}{w:World}{K:PySem.W.Frag}{mg:Str->Option Value}{base:Heap}
theorem bh.ok{x qual:Str}{st:Stmt}{f:Addr}{fd:FuncData}{N ps:List Str}{k:Nat}{sp:Sp}(F:bh K x qual st f fd)(S:bf N ps (aM st))(len:∀vs H Q E,sp vs H Q E->vs.length=ps.length)
  (ju:∀(aG:Value) (A:Around) (outer:List Env) (s:Shared) (H:Hp) (vs:List V) (Q:VK) (E:XK),cw k (A.deeper (envOfC qual (aM st) s.heap.objs.size f aG))->sp vs H Q E ->
   ∃t,PSs (lM aS P w K mg base N qual (aM st) f aG A outer s H E).iC (gy st) t/\t { nx:=λ_ H'=>Q .aq H',rt:=Q } (start N vs) H):aO P w K mg base aS (k+1) f fd ps sp:=by
 obtain⟨oc,od,kV,doc,pm,an,aG,ct,jt,rfl,lk,cC⟩:=F.ex
 refine FT lk cC S len λA outer s H vs Q E hr j8=>?_
 obtain⟨t,h,q⟩:=ju aG A outer s H vs Q E hr j8
 exact⟨t,h.iC,q⟩
theorem bh.binds{x qual:Str}{st:Stmt}{f:Addr}{fd:FuncData}{ps:List Str}(F:bh K x qual st f fd)
  (h:∀(kV doc pm:Value) (an:Option Addr) (aG ct:Value) (us:List Value),us.length=ps.length->bindArgs (PySem.W.fnOf x qual (jy st) (gy st) (aM st) .none kV doc pm an aG ct) ⟨us,[]⟩=pure (ps.zip us)):Binds K fd ps []:=by
 obtain⟨oc,od,kV,doc,pm,an,aG,ct,jt,rfl,lk,cC⟩:=F.ex
 exact .all (h kV doc pm an aG ct)
theorem Cc{x qual:Str}{st:Stmt}{f:Addr}{oc:Value}{od an:Option Addr}{jt:Array (Option Value)}{kV doc pm aG ct:Value}(l:K.lookup f=some ⟨oc,od,.func (PySem.W.fnOf x qual (jy st) (gy st) (aM st) .none kV doc pm an aG ct),jt⟩)
  (c:PySem.W.codeIn K aG qual=true) (k:PySem.W.keepIn K (.ref f)=true):bh K x qual st f (PySem.W.fnOf x qual (jy st) (gy st) (aM st) .none kV doc pm an aG ct):=⟨⟨oc,od,kV,doc,pm,an,aG,ct,jt,rfl,l,c⟩,k⟩
end
section
variable{X:Cx}
theorem pv(i:Nat){x:Str}{pos:Pos}(hN:X.N[i]?=some x:=by rfl)(hv:lF X.env.scope x:=by first | exact au rfl | exact bB (au rfl) | exact bB (bB rfl))(hd:(x==("__debug__":Str))=false:=by decide)
  (cC:(x==("__classdict__":Str))=false:=by decide):PE X (.Name x pos) (N0 i):=qU hN hv hd cC
end
theorem lN{A B:Prop}(h:B):if false=true then A else B:=by
 rw[if_neg jk]
 exact h
theorem tZ{A B:Prop}(h:A):if true=true then A else B:=by
 rw[if_pos rfl]
 exact h
end L2
namespace Mf
def bl(n:Nat):Nat:=if n=0 then 0 else n.log2+1
theorem g8{n m:Nat}:bl n<=m↔n<2 ^ m:=by
 unfold bl
 by_cases h:n=0
 ·simp[h,yp]
 ·rw[if_neg h]
  rw[<-EO h]
  omega
theorem Gj{n m:Nat}:m<bl n↔2 ^ m<=n:=by
 have:=@g8 n m
 omega
theorem su(n:Nat):n<2 ^ bl n:=g8.mp (bG _)
theorem OI{n:Nat}(h:n≠0):2 ^ (bl n-1)<=n:=by
 have:0<bl n:=by unfold bl;rw[if_neg h];omega
 exact Gj.mp (by omega)
theorem qa{n:Nat}(h:n≠0):0<bl n:=by
 unfold bl;rw[if_neg h];omega
theorem yY:bl 0=0:=rfl
theorem Cd{n:Nat}(h:n≠0):n.testBit (bl n-1)=true:=by
 have h1:=OI h
 have h2:=su n
 have hp:=qa h
 have e:bl n=(bl n-1)+1:=by omega
 rw[e,nU]at h2
 rw[XZ]
 have:n/2 ^ (bl n-1)=1:=by
  apply Nat.div_eq_of_lt_le
  ·omega
  ·omega
 rw[this];rfl
theorem bO5{x n:Nat}(h:∀i,n<=i->x.testBit i=false):x<2 ^ n:=by
 apply Nat.lt_pow_two_of_testBit
 intro i hi
 exact h i hi
theorem cq4{x y n:Nat}(hx:x<2 ^ (n+1))(hy:y<2 ^ (n+1))(tx:x.testBit n=true)(ty:y.testBit n=true):x ^^^ y<2 ^ n:=by
 apply bO5
 intro i hi
 rw[rO]
 by_cases e:i=n
 ·rw[e,tx,ty];rfl
 ·have g9:n+1<=i:=by omega
  have p:2 ^ (n+1)<=2 ^ i:=jW (by decide) g9
  rw[ER (dd hx p),ER (dd hy p)]
  rfl
theorem OJ(x y z:Nat):(x ^^^ y) ^^^ (z ^^^ y)=x ^^^ z:=by
 apply Bt;intro i;simp only[rO]
 cases x.testBit i<;>cases y.testBit i<;>cases z.testBit i<;>rfl
theorem OK(x y z t:Nat):(x ^^^ y) ^^^ (z ^^^ t)=(x ^^^ z) ^^^ (y ^^^ t):=by
 apply Bt;intro i;simp only[rO]
 cases x.testBit i<;>cases y.testBit i<;>cases z.testBit i<;>cases t.testBit i<;>rfl
def P(a b:Nat):Nat->Nat
 | 0=>0
 | k+1=>P a b k ^^^ (if b.testBit k then a <<< k else 0)
def cl(a b:Nat):Nat:=P a b (bl b)
theorem OL{a b k:Nat}(h:b<2 ^ k):∀j,P a b (k+j)=P a b k
 | 0=>rfl
 | j+1=>by
  show P a b (k+j) ^^^ (if b.testBit (k+j)then a <<< (k+j)else 0)=_
  rw[OL h j]
  have p:2 ^ k<=2 ^ (k+j):=jW (by decide) (by omega)
  rw[ER (dd h p)]
  simp
theorem w4{a b k:Nat}(h:b<2 ^ k):P a b k=cl a b:=by
 have h1:=g8.mpr h
 have e:k=bl b+(k-bl b):=by omega
 rw[e,OL (su b)]
 rfl
theorem OM(a a' b:Nat):∀k,P (a ^^^ a') b k=P a b k ^^^ P a' b k
 | 0=>(uQ 0).symm
 | k+1=>by
  show P (a ^^^ a') b k ^^^ _=(P a b k ^^^ _) ^^^ (P a' b k ^^^ _)
  rw[OM a a' b k]
  by_cases t:b.testBit k=true
  ·rw[if_pos t,if_pos t,if_pos t,X0]
   ac_rfl
  ·rw[if_neg t,if_neg t,if_neg t]
   simp
theorem ON(a b b':Nat):∀k,P a (b ^^^ b') k=P a b k ^^^ P a b' k
 | 0=>(uQ 0).symm
 | k+1=>by
  show P a (b ^^^ b') k ^^^ _=(P a b k ^^^ _) ^^^ (P a b' k ^^^ _)
  rw[ON a b b' k,rO]
  cases b.testBit k<;>cases b'.testBit k<;>simp
  ·ac_rfl
  ·ac_rfl
  ·exact(OJ _ _ _).symm
theorem vk(a a' b:Nat):cl (a ^^^ a') b=cl a b ^^^ cl a' b:=OM a a' b _
theorem w5{x y n:Nat}(hx:x<2 ^ n)(hy:y<2 ^ n):x ^^^ y<2 ^ n:=Nat.xor_lt_two_pow hx hy
theorem bA4(a b b':Nat):cl a (b ^^^ b')=cl a b ^^^ cl a b':=by
 let k:=bl b+bl b'
 have h1:b<2 ^ k:=g8.mp (by omega)
 have h2:b'<2 ^ k:=g8.mp (by omega)
 rw[<-w4 (w5 h1 h2),<- w4 h1,<- w4 h2,ON]
theorem OO(b:Nat):∀k,P 0 b k=0
 | 0=>rfl
 | k+1=>by
  show P 0 b k ^^^ _=0
  rw[OO b k];simp
theorem t7(b:Nat):cl 0 b=0:=OO b _
theorem bC5(b k:Nat):(b/2).testBit k=b.testBit (k+1):=by
 rw[ES]
theorem OP(a b:Nat):∀k,P a b (k+1)=(if b%2=1 then a else 0) ^^^ P (2*a) (b/2) k
 | 0=>by
  show 0 ^^^ _=_ ^^^ 0
  rw[uR,uQ,Bu]
  simp
 | k+1=>by
  show P a b (k+1) ^^^ _=_ ^^^ (P (2*a) (b/2) k ^^^ _)
  rw[OP a b k,bC5,wq]
  have e:a <<< (k+1)=(2*a) <<< k:=by
   rw[pQ,pQ,nU]
   rw[jV 2 a,tK,jV 2]
  rw[e]
theorem cl0{b k:Nat}(h:b<2 ^ (k+1)):b/2<2 ^ k:=by
 rw[nU]at h;omega
theorem cC6(a b:Nat):cl a b=(if b%2=1 then a else 0) ^^^ cl (2*a) (b/2):=by
 have h:b<2 ^ (bl b+1):=Nat.lt_trans (su b) (by rw[nU];have:=yp (bl b);omega)
 rw[<-w4 h,OP,w4 (cl0 h)]
theorem OQ(a b:Nat):∀k,P (2*a) b k=2*P a b k
 | 0=>rfl
 | k+1=>by
  show P (2*a) b k ^^^ _=2*(P a b k ^^^ _)
  rw[OQ a b k]
  have d:∀x y:Nat,2*(x ^^^ y)=2*x ^^^ 2*y:=by
   intro x y
   have h:=@X0 1 x y
   rw[pQ,pQ,pQ,Nat.pow_one]at h
   rw[jV 2 (x ^^^ y),jV 2 x,jV 2 y]
   exact h
  rw[d]
  by_cases t:b.testBit k=true
  ·rw[if_pos t,if_pos t,pQ,pQ,tK]
  ·rw[if_neg t,if_neg t]
theorem Gk(a b:Nat):cl (2*a) b=2*cl a b:=OQ a b _
theorem yZ(a c t:Nat)(ht:t<2):cl a (2*c+t)=2*cl a c ^^^ (if t=1 then a else 0):=by
 rw[cC6,Gk,M6]
 have e1:(2*c+t)/2=c:=by omega
 have e2:(2*c+t)%2=t:=by omega
 rw[e1,e2]
theorem cz4(a c:Nat):cl a (2*c)=2*cl a c:=by
 have h:=yZ a c 0 (by decide)
 simpa using h
theorem OR(c t:Nat)(ht:t<2):2*c ^^^ t=2*c+t:=by
 apply Bt
 intro i
 cases i with
 | zero =>
  rw[rO,Bu,Bu,Bu]
  have:t=0\/t=1:=by omega
  rcases this with h | h<;>subst h<;>simp<;>omega
 | succ i =>
  rw[rO,ES,ES,ES]
  have e1:2*c/2=c:=by omega
  have e2:t/2=0:=by omega
  have e3:(2*c+t)/2=c:=by omega
  rw[e1,e2,e3];simp
theorem Gm:∀b:Nat,cl 1 b=b:=by
 intro b
 induction b using ET with
 | ind b ih =>
  by_cases h:b=0
  ·subst h;rfl
  ·have e:b=2*(b/2)+b%2:=by omega
   rw[e,yZ 1 (b/2) (b%2) (by omega),ih (b/2) (by omega)]
   have:b%2=0\/b%2=1:=by omega
   rcases this with h | h
   ·rw[h];simp
   ·rw[h];rw[if_pos rfl];exact OR _ _ (by decide)
theorem y6:∀b a:Nat,cl a b=cl b a:=by
 intro b
 induction b using ET with
 | ind b ih =>
  intro a
  by_cases h:b=0
  ·subst h;rw[t7];rfl
  ·have e:b=2*(b/2)+b%2:=by omega
   have lt:b%2<2:=by omega
   have e':cl b a=cl (2*(b/2) ^^^ b%2) a:=by rw[OR _ _ lt,<- e]
   rw[e',vk,Gk,<- ih (b/2) (by omega) a]
   have e'':cl a b=cl a (2*(b/2)+b%2):=by rw[<-e]
   rw[e'',yZ _ _ _ lt]
   have:b%2=0\/b%2=1:=by omega
   rcases this with h | h
   ·rw[h,t7];rfl
   ·rw[h,Gm];rfl
theorem Gp{a m:Nat}(h:a<2 ^ m)(b:Nat):∀k,P a b (k+1)<2 ^ (m+k)
 | 0=>by
  show 0 ^^^ _<_
  rw[uR,EU]
  by_cases t:b.testBit 0=true
  ·rw[if_pos t];simpa using h
  ·rw[if_neg t];exact yp m
 | k+1=>by
  show P a b (k+1) ^^^ _<_
  have i:=Gp h b k
  have p:2 ^ (m+k)<=2 ^ (m+(k+1)):=jW (by decide) (by omega)
  apply w5 (dd i p)
  by_cases t:b.testBit (k+1)=true
  ·rw[if_pos t,pQ,yq 2 m]
   exact(X1 (yp _)).mpr h
  ·rw[if_neg t];exact yp _
theorem cH3{a b m n:Nat}(h:a<2 ^ m)(h':b<2 ^ (n+1)):cl a b<2 ^ (m+n):=by
 rw[<-w4 h'];exact Gp h b n
theorem cJ4{a b:Nat}(ha:a≠0)(hb:b≠0):2 ^ (bl a-1+(bl b-1))<=cl a b:=by
 have e:bl b=(bl b-1)+1:=by have:=qa hb;omega
 have ta:=Cd ha
 have tb:=Cd hb
 apply Nat.ge_two_pow_of_testBit
 unfold cl
 rw[e]
 show(P a b (bl b-1) ^^^ _).testBit _=true
 have e2:bl b-1+1-1=bl b-1:=by omega
 rw[e2,rO,if_pos tb]
 have f:(P a b (bl b-1)).testBit (bl a-1+(bl b-1))=false:=by
  cases q:bl b-1 with
  | zero=>show Nat.testBit 0 _=false;exact Nat.zero_testBit _
  | succ k =>
   apply ER
   have l:=Gp (su a) b k
   have p:=qa ha
   have e3:bl a-1+(k+1)=bl a+k:=by omega
   rw[e3];exact l
 rw[f,X2]
 have e4:bl a-1+(bl b-1)-(bl b-1)=bl a-1:=by omega
 rw[e4,ta]
 simp
theorem OS{a b:Nat}(ha:a≠0)(hb:b≠0):bl (cl a b)=bl a+bl b-1:=by
 have p1:=qa ha
 have p2:=qa hb
 have h1:bl (cl a b)<=bl a+(bl b-1):=g8.mpr (cH3 (su a) (by
  have e:bl b-1+1=bl b:=by omega
  rw[e];exact su b))
 have h2:=Gj.mpr (cJ4 ha hb)
 omega
theorem OT(s b:Nat):cl (2 ^ s) b=b <<< s:=by
 induction s with
 | zero=>rw[Bv,Gm];rfl
 | succ s ih =>
  rw[nU,jV,Gk,ih,pQ,pQ,nU]
  rw[<-tK,jV 2,tK,jV 2,<- tK,tK]
theorem cd2{a q b r s:Nat}(h:a=cl q b ^^^ r):a=cl (q ^^^ 2 ^ s) b ^^^ (r ^^^ b <<< s):=by
 rw[vk,OT,h,OJ]
theorem OU{b r:Nat}(hb:b≠0)(h:bl b<=bl r):bl (r ^^^ b <<< (bl r-bl b))<bl r:=by
 have p:=qa hb
 have hr:r≠0:=by
  intro z;rw[z,yY]at h;omega
 have:r ^^^ b <<< (bl r-bl b)<2 ^ (bl r-1):=by
  apply cq4
  ·have e:bl r-1+1=bl r:=by omega
   rw[e];exact su r
  ·have e:bl r-1+1=bl b+(bl r-bl b):=by omega
   rw[e,pQ,yq]
   exact(X1 (yp _)).mpr (su b)
  ·exact Cd hr
  ·rw[X2]
   have e:bl r-1-(bl r-bl b)=bl b-1:=by omega
   rw[e,Cd hb]
   simp;omega
 have:=g8.mpr this
 omega
theorem bS8{x y z:Nat}(h:x ^^^ y=z):x=z ^^^ y:=by
 rw[<-h,wq,Bw,uQ]
theorem Gq{x y:Nat}(h:x ^^^ y=0):x=y:=by
 have:=bS8 h
 rwa [uR]at this
theorem bP9{b q r q' r':Nat}(h:cl q b ^^^ r=cl q' b ^^^ r')(hr:bl r<bl b)(bF:bl r'<bl b):q=q'/\r=r':=by
 have hb:b≠0:=by intro z;rw[z,yY]at hr;omega
 have e:cl (q ^^^ q') b=r ^^^ r':=by
  rw[vk]
  have z:(cl q b ^^^ r) ^^^ (cl q' b ^^^ r')=0:=by rw[h,Bw]
  rw[OK]at z
  exact Gq z
 have lt:bl (r ^^^ r')<bl b:=by
  have h1:r<2 ^ (bl b-1):=g8.mp (by omega)
  have h2:r'<2 ^ (bl b-1):=g8.mp (by omega)
  have:=g8.mpr (w5 h1 h2)
  have:=qa hb
  omega
 have z:q ^^^ q'=0:=by
  apply EV
  intro hq
  have h1:=OS hq hb
  have h2:=qa hq
  rw[e]at h1
  omega
 have zq:=Gq z
 subst zq
 rw[z,t7]at e
 exact⟨rfl,Gq e.symm⟩
end Mf
namespace Mf
open PySem PySem.Builtin.Int
theorem cm7(x y:Nat):(x ^^^ y)+2*(x &&& y)=x+y:=by
 induction x using ET generalizing y with
 | ind x ih =>
  by_cases h:x=0
  ·subst h;simp
  ·have h1:=ih (x/2) (by omega) (y/2)
   have e1:(x ^^^ y)/2=x/2 ^^^ y/2:=Nat.xor_div_two
   have e2:(x &&& y)/2=x/2 &&& y/2:=Nat.and_div_two
   have t:∀n:Nat,n%2=if n.testBit 0=true then 1 else 0:=by
    intro n
    rw[Bu]
    by_cases h:n%2=1
    ·simp[h]
    ·simp[h];omega
   have m1:(x ^^^ y)%2=(x%2+y%2)%2:=by
    rw[t (x ^^^ y),t x,t y,rO]
    cases x.testBit 0<;>cases y.testBit 0<;>rfl
   have m2:(x &&& y)%2=x%2*(y%2):=by
    rw[t (x &&& y),t x,t y,M7]
    cases x.testBit 0<;>cases y.testBit 0<;>rfl
   have d1:=M8 (x ^^^ y) 2
   have d2:=M8 (x &&& y) 2
   rw[e1]at d1
   rw[e2]at d2
   have hx:x%2=0\/x%2=1:=by omega
   have hy:y%2=0\/y%2=1:=by omega
   rcases hx with hx | hx<;>rcases hy with hy | hy<;>rw[hx,hy]at m1 m2<;>omega
theorem OV{x y:Int}(hx:0<=x)(hy:0<=y):uL x y=((x.toNat &&& y.toNat:Nat):Int):=by
 unfold uL
 rw[decide_eq_true hx,decide_eq_true hy]
theorem cb4{x y:Int}(hx:0<=x)(hy:0<=y):Builtin.bitOr x y=((x.toNat ||| y.toNat:Nat):Int):=by
 unfold Builtin.bitOr uL Builtin.bitNot
 rw[decide_eq_false (by omega),decide_eq_false (by omega)]
 show-(-((((- (-x-1)-1).toNat ||| (-(-y-1)-1).toNat:Nat):Int))-1)-1=_
 have e1:(- (-x-1)-1).toNat=x.toNat:=by omega
 have e2:(- (-y-1)-1).toNat=y.toNat:=by omega
 rw[e1,e2]
 omega
theorem cA1(x y:Nat):(x ||| y)=(x ^^^ y)+(x &&& y):=by
 have d:(x ^^^ y) &&& (x &&& y)=0:=by
  apply Bt;intro i
  simp only[rO,M7,Nat.zero_testBit]
  cases x.testBit i<;>cases y.testBit i<;>rfl
 have e:(x ||| y)=(x ^^^ y) ^^^ (x &&& y):=by
  apply Bt;intro i
  simp only[rO,M7,Nat.testBit_or]
  cases x.testBit i<;>cases y.testBit i<;>rfl
 have h:=cm7 (x ^^^ y) (x &&& y)
 rw[d]at h
 rw[e];omega
theorem b55{x y:Int}(hx:0<=x)(hy:0<=y):tI x y=((x.toNat ^^^ y.toNat:Nat):Int):=by
 unfold tI
 rw[cb4 hx hy,OV hx hy,cA1]
 omega
theorem y7(x y:Nat):tI (x:Int) (y:Int)=((x ^^^ y:Nat):Int):=by
 rw[b55 (by omega) (by omega)];rfl
theorem bP8(x y:Nat):uL (x:Int) (y:Int)=((x &&& y:Nat):Int):=by
 rw[OV (by omega) (by omega)];rfl
theorem w9(x k:Nat):(x:Int)*2 ^ ((k:Int)).toNat=((x <<< k:Nat):Int):=by
 rw[pQ]
 simp
theorem cr4(x k:Nat):(x:Int)/2 ^ ((k:Int)).toNat=((x >>> k:Nat):Int):=by
 rw[X3]
 simp
theorem cq3(x k:Nat):((x >>> k) &&& 1=1)↔x.testBit k=true:=by
 rw[XZ,X3]
 have:(x/2 ^ k) &&& 1=(x/2 ^ k)%2:=Nat.and_two_pow_sub_one_eq_mod _ 1
 rw[this]
 simp
end Mf
namespace Mf
theorem OW(a b:Nat):∀c,cl (cl a b) c=cl a (cl b c):=by
 intro c
 induction c using ET with
 | ind c ih =>
  by_cases h:c=0
  ·subst h;rfl
  ·have e:c=2*(c/2)+c%2:=by omega
   have lt:c%2<2:=by omega
   have i:=ih (c/2) (by omega)
   rw[e,yZ _ _ _ lt,yZ _ _ _ lt,i,bA4,cz4]
   have:c%2=0\/c%2=1:=by omega
   rcases this with h | h
   ·rw[h];rfl
   ·rw[h];rfl
def xa:Nat->Nat->Nat->Nat
 | 0,a,_=>a
 | n+1,a,b=>if bl a<bl b then a else xa n (a ^^^ b <<< (bl a-bl b)) b
def md(a b:Nat):Nat:=xa (bl a+1) a b
theorem OX{b:Nat}(hb:b≠0):∀n a,bl a<n->(∃q,a=cl q b ^^^ xa n a b)/\bl (xa n a b)<bl b
 | 0,_,h=>absurd h (by omega)
 | n+1,a,h=>by
  unfold xa
  by_cases l:bl a<bl b
  ·rw[if_pos l]
   exact⟨⟨0,by rw[t7,uR]⟩,l⟩
  ·rw[if_neg l]
   have less:=OU hb (show bl b<=bl a by omega)
   obtain⟨⟨q,e⟩,l2⟩:=OX hb n (a ^^^ b <<< (bl a-bl b)) (by omega)
   refine⟨⟨q ^^^ 2 ^ (bl a-bl b),?_⟩,l2⟩
   rw[vk,OT]
   have e2:a=(a ^^^ b <<< (bl a-bl b)) ^^^ b <<< (bl a-bl b):=by rw[wq,Bw,uQ]
   rw[e]at e2
   refine e2.trans ?_
   generalize xa n _ b=r
   rw[wq,M6 r,<- wq]
theorem y8{b:Nat}(hb:b≠0)(a:Nat):(∃q,a=cl q b ^^^ md a b)/\bl (md a b)<bl b:=OX hb _ a (by omega)
theorem y9{a b q r:Nat}(h:a=cl q b ^^^ r)(hr:bl r<bl b):md a b=r:=by
 have hb:b≠0:=by intro z;rw[z,yY]at hr;omega
 obtain⟨⟨q',e⟩,l⟩:=y8 hb a
 exact(bP9 (e.symm.trans h) l hr).2
theorem cJ5(q:Nat){b:Nat}(hb:b≠0):md (cl q b) b=0 :=
 y9 (q:=q) (by rw[uQ]) (by rw[yY];exact qa hb)
theorem Gr{x y:Nat}(h:x<=y):bl x<=bl y:=g8.mpr (iU h (su y))
def al(a:Nat):Bool:=decide (2<=a)&&(aw (2 ^ ((bl a-1)/2+1)-2)).all λi=>md a (2+i) != 0
theorem cf9{a:Nat}(h:a<2):al a=false:=by
 unfold al;rw[decide_eq_false (by omega)];rfl
theorem ct6{a:Nat}(h:2<=a)(k:∀i,i<2 ^ ((bl a-1)/2+1)-2->md a (2+i)≠0):al a=true:=by
 unfold al
 rw[decide_eq_true h,iy,bZ]
 intro i hi
 have:=k i (bw.mp hi)
 simpa using this
theorem b89{a i:Nat}(k:i<2 ^ ((bl a-1)/2+1)-2)(z:md a (2+i)=0):al a=false:=by
 unfold al
 rw[Bool.and_eq_false_iff]
 right
 rw[List.all_eq_false]
 exact⟨i,bw.mpr k,by simp[z]⟩
theorem b90{a:Nat}(h:2<=a){b:Nat}(hb:b<2 ^ ((bl a-1)/2+1)):b<a/\2*bl b<=bl a+1:=by
 have h2:2<=bl a:=by
  have:=Gj.mpr (show 2 ^ 1<=a by omega)
  omega
 have l:=g8.mpr hb
 refine⟨dd hb (cQ (jW (by decide) ?_) (OI (by omega))),by omega⟩
 omega
end Mf
namespace L2
open PySem PySem.Spec PyProof.Rows Mf
theorem gK:bootBuiltins "len"=some (.builtin "len"):=by decide +kernel
theorem by0:bootBuiltins "isinstance"=some (.builtin "isinstance"):=by decide +kernel
theorem OY:bootBuiltins "min"=some (.builtin "min"):=by decide +kernel
theorem za:bootBuiltins "all"=some (.builtin "all"):=by decide +kernel
theorem cD8:bootBuiltins "any"=some (.builtin "any"):=by decide +kernel
theorem zb:bootBuiltins "sum"=some (.builtin "sum"):=by decide +kernel
theorem Gu:bootBuiltins "int"=some (.type "int"):=by decide +kernel
theorem OZ:bootBuiltins "bool"=some (.type "bool"):=by decide +kernel
theorem zc:bootBuiltins "list"=some (.type "list"):=by decide +kernel
theorem cd4:bootBuiltins "range"=some (.type "range"):=by decide +kernel
section
variable{X:Cx}{a b o:Expr}{ta tb to:TE}{pos apos bJ:Pos}
theorem O0(i:Int):EW i=bl i.natAbs:=by
 unfold EW bl
 by_cases h:i=0
 ·subst h;rfl
 ·have h':¬ i.natAbs=0:=by omega
  rw[if_neg h',if_neg (by simpa using h)]
def O1:V->List V->Hp->VK->Prop:=λx vs H Q=>∃i,x=.int i/\vs=[]/\Q (.int (bl i.natAbs:Nat)) H
theorem b66:yS X "int.bit_length" O1:=by
 intro pins s σ H x xs v us Q I rx rs h
 obtain⟨i,rfl,rfl,q⟩:=h
 obtain⟨t,rfl⟩:=rx
 cases rs
 refine call_int_bit_length ?_
 rw[O0]
 exact⟨.int _,H,I.tok _,⟨_,rfl⟩,q⟩
theorem Gv(ho:PE X o to)(jw:attributeBase o "bit_length" X.env (eval o X.env)=eval o X.env:=by rfl)(jx:(apos.endLine==bJ.line)=true:=by rfl) :
  PE X (.Call (.Attribute o "bit_length" apos) [] [] bJ) (OA X.K "int" O1 to) :=
 cy2 PySem.F.plainAttrs_int PySem.F.slot_int_bit_length PySem.F.type_int_bit_length b66 ho jw jx
def O2(i j:Int):Prop:=0<=j/\((bl i.natAbs:Nat):Int)+j<=134217728
theorem O3:cI X (binaryOp .LShift) (rI O2 λi j=>.int (i*2 ^ j.toNat)):=wW λi j _ _ _ _ _ hc q =>
 lshift_int hc.1 (by rw[O0];exact Int.le_trans hc.2 (by decide)) q
theorem cH7{x:Str}{n:String}(hg:Gl X x)(hm:X.mg x=none)(hv:bootBuiltins x=some (.type n))(hn:x≠"__name__":=by decide)(hd:(x==("__debug__":Str))=false:=by decide):PE X (.Name x pos) (tC (.ty n)) :=
 YO hg hm hv rfl hn hd
def cO1(K:PySem.W.Frag):List V->Hp->VK->Prop:=λxs H Q=>∃x n t b,xs=[x,.ty n]/\js K H x t/\PySem.W.kitOne K t (.type n)=some b/\Q (.bl b) H
theorem bo8:g5 X (.builtin "isinstance") (cO1 X.K):=by
 intro pins s σ H xs us Q I r h
 obtain⟨x,n,t,b,rfl,ty,e,q⟩:=h
 obtain⟨u,v,rfl,ru,rv⟩:=r.two
 cases(show v=Value.type n from rv)
 exact ο I ru ty e λtk=>⟨.bl b,H,I.tok _,rfl,q⟩
end
theorem ct9(b i:Nat):decide (V.int (uL ((b:Int)/2 ^ ((0:Int)+(i:Int)).toNat) 1)=V.int 1)=b.testBit i:=by
 have e:((0:Int)+(i:Int)).toNat=((i:Int)).toNat:=by omega
 rw[e,cr4,show(1:Int)=((1:Nat):Int) from rfl,bP8,tL,decide_eq_true_iff,<- cq3]
 constructor
 ·intro h;injection h with h;omega
 ·intro h;rw[h]
theorem cc4{a b i:Nat}(h:b.testBit i=true):tI ((P a b i:Nat):Int) ((a:Int)*2 ^ ((0:Int)+(i:Int)).toNat)=((P a b (i+1):Nat):Int):=by
 have e:((0:Int)+(i:Int)).toNat=((i:Int)).toNat:=by omega
 rw[e,w9,y7]
 show _=((P a b i ^^^ (if b.testBit i then a <<< i else 0):Nat):Int)
 rw[if_pos h]
theorem bP1{a b i:Nat}(h:¬ b.testBit i=true):P a b (i+1)=P a b i:=by
 show P a b i ^^^ (if b.testBit i then a <<< i else 0)=_
 rw[if_neg h,uQ]
theorem dI{i j:Int}:decide (V.int i=V.int j)=true↔i=j:=by
 rw[decide_eq_true_iff]
 exact⟨λh=>by injection h,λh=>by rw[h]⟩
end L2
namespace L2
open PySem PySem.Spec PyProof.Rows
section
variable{X:Cx}
end
def Ce(X:Cx)(scope:Scope)(N:List Str)(cl:List (Str × Addr))(C:Addr)(s:Shared)(H:Hp)(fp:List Addr):Cx where
 prog:=X.prog
 w:=X.w
 K:=X.K
 mg:=X.mg
 base:=X.base
 A:=X.A
 N:=N
 eQ:=s
 qS:=H
 env:=compEnvC scope cl C X.env
 outer:=X.stack
 stack:=X.stack
 ex:=fp
 fn:=λ_=>false
 calm:=X.calm
 pn:=[]
 xe:=λ_ _=>False
def qY(X:Cx)(scope:Scope)(cl:List (Str × Addr)):List (Str × Nat)->Prop
 | []=>True
 | (y,i)::r=>(X.N[i]?=some y/\(X.env.scope.names.lookup y=some .cell\/X.env.scope.names.lookup y=some .free)/\((relabel scope X.env).names.lookup y=some .cell\/(relabel scope X.env).names.lookup y=some .free)/\∃c,cl.lookup y=some c/\X.env.cells.lookup y=some c)/\qY X scope cl r
theorem qY.at{X:Cx}{scope:Scope}{cl:List (Str × Addr)}:∀{aD:List (Str × Nat)},qY X scope cl aD->∀p∈aD,X.N[p.2]?=some p.1/\(X.env.scope.names.lookup p.1=some .cell\/X.env.scope.names.lookup p.1=some .free)/\((relabel scope X.env).names.lookup p.1=some .cell\/(relabel scope X.env).names.lookup p.1=some .free)/\∃c,cl.lookup p.1=some c/\X.env.cells.lookup p.1=some c
 | [],_,p,hp=>absurd hp (by simp)
 | (y,i)::r,h,p,hp=>by
  rcases cN.mp hp with e | e
  ·subst e;exact h.1
  ·exact qY.at h.2 p e
def qZ(Y:Cx)(ifs:List Expr)(t:TT):Prop :=
 ∀(pins:List (Addr × Obj)) (s:Shared) (σ:St) (H:Hp) (Q:Bool->Hp->Prop),Inv Y pins σ H s->t σ H Q ->
  wpAny (model Y.prog Y.w) Y.A (forIn ifs true λc r=>if r=true then do let ok<-isTrue c Y.env (eval c Y.env);pure (EX ok)else pure (EX r)) (TP Y pins σ Q) Y.xe s
def cQ4:TT:=λ_ H Q=>Q true H
theorem cl9{Y:Cx}:qZ Y [] cQ4:=λ_ _ _ H _ I h=>wpAny_tests_nil ⟨H,I,h⟩
theorem cn0{Y:Cx}{c:Expr}{t:TT}(h:PT Y c t):qZ Y [c] t:=λpins s σ H Q I q=>wpAny_tests_one (h pins s σ H Q I q)
section
variable{X:Cx}{elt iter:Expr}{x:Str}{px pos:Pos}{ifs:List Expr}{scope:Scope}{cl:List (Str × Addr)}{aD:List (Str × Nat)}{wi:TI}{tt:TT}{te:TE}
end
section
variable{prog:Program}{w:World}{A:Around}{R:Result->Shared->Prop}{s:Shared}
theorem bD8{elt target iter:Expr}{ifs:List Expr}{scope:Scope}{pos:Pos}{it acc:Value}{env:Env}(Iv:Nat->Shared->Prop)
  (turn:∀n s,Iv n s->wpAny (model prog w) A (pyNext it) (λr s1=>match r with
   | none=>R (.ok .next) s1
   | some v=>wpAny (model prog w) A (letOwnedTupleGo target it v) (λ_ t1=>wpAny (model prog w) A (assign target env v) (λ_ s2 =>
     wpAny (model prog w) A (forIn ifs true λc r=>if r=true then do let ok<-isTrue c env (eval c env);pure (EX ok)else pure (EX r)) (λok s3 =>
      if ok=true then wpAny (model prog w) A (eval elt env) (λy s4=>wpAny (model prog w) A (call (.builtin "list.append") [acc,y]) (λ_ s5=>∃m,m<n/\Iv m s5) (λ_ _=>False) s4) (λ_ _=>False) s3
      else ∃m,m<n/\Iv m s3) (λ_ _=>False) s2) (λ_ _=>False) t1) (λ_ _=>False) s1) (λ_ _=>False) s)
  (n:Nat) (h:Iv n s):codeAny (model prog w) A (.compLoop (.ListComp elt [⟨target,iter,ifs,0⟩] scope pos) 0 it acc env) R s:=by
 refine codeAny_loop rfl Iv (λn s hI=>?_) n h
 change wpAny _ A (Sem.onRaise (compTurn (.ListComp elt [⟨target,iter,ifs,0⟩] scope pos) 0 it acc env) λx=>do noteFrame x env;theTreesLotGoes x) _ _ s
 refine wpAny_noted (wpAny_mono (E:=λ_ _=>False) ?_ (λ_ _ q=>q) λ_ _ z=>z.elim)
 rw[compTurn_list]
 refine wpAny_bind (wpAny_standAt (wpAny_bind (aN (turn n s hI) λr s1 h1=>?_)))
 cases r with
 | none=>exact wpAny_pure h1
 | some v =>
  refine wpAny_bind (aN h1 λ_ t1 k1=>wpAny_bind (aN k1 λ_ s2 h2=>wpAny_bind (aN h2 λok s3 h3=>?_)))
  cases ok with
  | false=>exact wpAny_pure ⟨rfl,h3⟩
  | true=>exact wpAny_bind (wpAny_bind (aN h3 λy s4 h4=>wpAny_bind (aN h4 λ_ s5 h5=>wpAny_pure (wpAny_pure ⟨rfl,h5⟩))))
end
section
variable{X:Cx}{elt iter:Expr}{x:Str}{px pos:Pos}{ifs:List Expr}{scope:Scope}{cl:List (Str × Addr)}{aD:List (Str × Nat)}{wi:TI}{tt:TT}{te:TE}
end
section
variable{X:Cx}
theorem O4{bs:List Bool}{us:List Value}(r:Vals (bs.map V.bl) us):bs.length=us.length/\∀(i:Nat) (v:Value),us[i]?=some v->∃b,bs[i]?=some b/\v=.bool b:=by
 have l:=r.length
 rw[aR]at l
 refine⟨l,λi v e=>?_⟩
 have hi:i<us.length:=(kY.mp e).1
 have hb:i<bs.length:=by omega
 obtain⟨u,e2,q⟩:=r.get (i:=i) (x:=V.bl bs[i]) (by rw[bN,aJ hb];rfl)
 rw[e]at e2
 cases e2
 exact⟨bs[i],aJ hb,q⟩
theorem Gw{s:Shared}{h':Heap}{o:Obj}(hk:∀b x,b ∉ [s.heap.objs.size]->(s.heap.push o).get? b=some x->h'.get? b=some x)(b:Addr)(x:Obj)(e:s.heap.get? b=some x):h'.get? b=some x :=
 hk b x (λhm=>iq _ (by have:=cg e;rw[dh.mp hm]at this;exact this)) (gh _ e)
theorem ce4(bs:List Bool):((aw bs.length).all λi=>(bs[i]?).getD true)=bs.all id:=by
 rw[tL,bZ,bZ]
 constructor
 ·intro h b hb
  obtain⟨i,hi,rfl⟩:=jn hb
  have:=h i (bw.mpr hi)
  rwa [aJ hi]at this
 ·intro h i hi
  have g9:=bw.mp hi
  rw[aJ g9]
  exact h _ (eN g9)
theorem b96(bs:List Bool):((aw bs.length).any λi=>(bs[i]?).getD false)=bs.any id:=by
 rw[tL,M9,M9]
 constructor
 ·rintro⟨i,hi,h⟩
  have g9:=bw.mp hi
  rw[aJ g9]at h
  exact⟨_,eN g9,h⟩
 ·rintro⟨b,hb,h⟩
  obtain⟨i,hi,rfl⟩:=jn hb
  exact⟨i,bw.mpr hi,by rw[aJ hi];exact h⟩
theorem cb2(hc:X.calm=true):g5 X (.builtin "all") (λxs H Q=>∃(p:Addr) (bs:List Bool),xs=[.ref p]/\bI X.K H p (bs.map V.bl)/\Q (.bl (bs.all id)) H):=by
 intro pins s σ H xs us Q I r h
 obtain⟨p,bs,rfl,hS,q⟩:=h
 obtain⟨u,rfl,ru⟩:=r.one
 cases ru
 obtain⟨its,rv,pl,hz⟩:=I.list hS
 obtain⟨hlen,Gx⟩:=O4 rv
 have hl:=pl.isList
 have fL:p<s.heap.objs.size:=by obtain⟨_,e,_⟩:=hl;exact cg e
 refine call_all_walk (wpAny_pyIter_list hl ?_)
 refine⟨s.heap.objs.size,[s.heap.objs.size,p],[s.heap.objs.size],its.toArray.size,_,_,λi=>(bs[i]?).getD true,rfl,Walks.list (A:=X.A.in1) (I.ok.hd hc) _ p (gb fL) its.toArray,
  ⟨⟨_,iw _ rfl,rfl,rfl⟩,hl.push _⟩,λi v s' Q' E' hP hQ=>?_,λh' tk hk=>?_⟩
 ·obtain⟨b,e,rfl⟩:=Gx i v (by simpa using hP)
  simp only[e,iz]at hQ
  exact wpAny_truthy_bool hQ
 ·have e:((aw its.toArray.size).all λi=>(bs[i]?).getD true)=bs.all id:=by
   rw[cO,<- hlen];exact ce4 bs
  rw[e]
  exact⟨.bl _,H,I.kept (h':=h') (t':=tk) (Gw hk),rfl,q⟩
theorem cb1(hc:X.calm=true):g5 X (.builtin "any") (λxs H Q=>∃(p:Addr) (bs:List Bool),xs=[.ref p]/\bI X.K H p (bs.map V.bl)/\Q (.bl (bs.any id)) H):=by
 intro pins s σ H xs us Q I r h
 obtain⟨p,bs,rfl,hS,q⟩:=h
 obtain⟨u,rfl,ru⟩:=r.one
 cases ru
 obtain⟨its,rv,pl,hz⟩:=I.list hS
 obtain⟨hlen,Gx⟩:=O4 rv
 have hl:=pl.isList
 have fL:p<s.heap.objs.size:=by obtain⟨_,e,_⟩:=hl;exact cg e
 refine call_any_walk (wpAny_pyIter_list hl ?_)
 refine⟨s.heap.objs.size,[s.heap.objs.size,p],[s.heap.objs.size],its.toArray.size,_,_,λi=>(bs[i]?).getD false,rfl,Walks.list (A:=X.A.in1) (I.ok.hd hc) _ p (gb fL) its.toArray,
  ⟨⟨_,iw _ rfl,rfl,rfl⟩,hl.push _⟩,λi v s' Q' E' hP hQ=>?_,λh' tk hk=>?_⟩
 ·obtain⟨b,e,rfl⟩:=Gx i v (by simpa using hP)
  simp only[e,iz]at hQ
  exact wpAny_truthy_bool hQ
 ·have e:((aw its.toArray.size).any λi=>(bs[i]?).getD false)=bs.any id:=by
   rw[cO,<- hlen];exact b96 bs
  rw[e]
  exact⟨.bl _,H,I.kept (h':=h') (t':=tk) (Gw hk),rfl,q⟩
end
def q0(X:Cx):List (Str × Addr)->Prop
 | []=>True
 | (y,c)::r=>X.env.cells.lookup y=some c/\q0 X r
theorem q0.all{X:Cx}:∀{cl:List (Str × Addr)},q0 X cl->∀y c,cl.lookup y=some c->X.env.cells.lookup y=some c
 | [],_,y,c,h=>by simp at h
 | (z,d)::r,h,y,c,e=>by
  rw[gw]at e
  cases q:y==z with
  | true =>
   rw[q]at e
   cases e
   rw[eq_of_beq q]
   exact h.1
  | false =>
   rw[q]at e
   exact q0.all h.2 y c e
def q8(cl:List (Str × Addr)):List (Str × NameKind)->Prop
 | []=>True
 | (y,k)::r=>(k=.local\/k=.globalImplicit\/∃c,cl.lookup y=some c)/\q8 cl r
theorem q8.all{cl:List (Str × Addr)}:∀{ns:List (Str × NameKind)},q8 cl ns->∀y,(ns.lookup y=some .cell\/ns.lookup y=some .free)->∃c,cl.lookup y=some c
 | [],_,y,h=>by simp at h
 | (z,k)::r,h,y,e=>by
  rw[gw]at e
  cases q:y==z with
  | true =>
   rw[q]at e
   rw[eq_of_beq q]
   rcases h.1 with g | g | g
   ·rw[g]at e;rcases e with e | e<;>cases e
   ·rw[g]at e;rcases e with e | e<;>cases e
   ·exact g
  | false =>
   rw[q]at e
   exact q8.all h.2 y e
section
variable{X:Cx}{elt iter:Expr}{x:Str}{px pos:Pos}{ifs:List Expr}{scope:Scope}{cl:List (Str × Addr)}{wi:TI}{tt:TT}{te:TE}
end
end L2
namespace L2
open PySem PySem.Spec PyProof.Rows Mf
end L2
namespace L2
end L2
namespace L2
open PySem PySem.Spec PyProof.Rows
def iZ(aD:List (Str × Nat))(n:Nat)(σ:L2.St):St:=(aD.map λp=>(σ[p.2]?).getD none)++aW n none
def O5(J:It)(aD:List (Str × Nat))(n:Nat)(g:TG)(tt:TT)(te:TE)(σ:L2.St)(H1:Hp)(Q:VK):Prop:=∀D,H1 D=none->∃W:Nat->Nat->List V->Hp->Prop,(∃m,W 0 m [] (upd H1 D (.lst []))) /\
 ∀i m acc H2,W i m acc H2->H2 D=some (.lst acc)/\((J.stop i H2/\Q (.ref D) H2)\/(J.go i H2/\∀x H3,J.oj i H2 x H3->H3 D=some (.lst acc)/\g x (iZ aD n σ) H3 λiD H4 =>
  (iD.length=(iZ aD n σ).length/\∀j,j<aD.length->iD[j]?=(iZ aD n σ)[j]?)/\tt iD H4 λb H5=>H5 D=some (.lst acc) /\
  if b=true then te iD H5 λy H6=>H6 D=some (.lst acc)/\acc.length<sizeLine/\∃m',m'<m/\W (i+1) m' (acc++[y]) (upd H6 D (.lst (acc++[y])))else ∃m',m'<m/\W (i+1) m' acc H5))
def Cf(wi:TI)(aD:List (Str × Nat))(n:Nat)(g:TG)(tt:TT)(te:TE):TE:=λσ H Q=>wi σ H λJ H1=>O5 J aD n g tt te σ H1 Q
section
variable{X:Cx}{elt iter tg:Expr}{pos:Pos}{ifs:List Expr}{scope:Scope}{cl:List (Str × Addr)}{wi:TI}{tt:TT}{te:TE}{g:TG}
end
section
variable{X:Cx}{tg:Expr}
end
def Trf(h:Heap)(a T:Addr)(cls fl:Value):Prop :=
 ∃oe vs oT ts,h.get? a=some oe/\oe.cls=cls/\oe.dict=none/\oe.data=.fields vs/\vs[1]?=some (.ref T)/\T≠a/\h.get? T=some oT/\oT.data=.fields ts/\ts[3]?=some fl
abbrev Trc(h:Heap)(a T:Addr)(cls:Value):Prop:=Trf h a T cls .none
section
variable{M:Model}{A:Around}{E:Value->Shared->Prop}{s:Shared}{base:Heap}{env:Env}{outer:List Env}{L a T:Addr}{cls:Value}{oe:Obj}{vs:Array Value}{Q:Unit->Shared->Prop}
end
structure Apart(X:Cx)(pins:List (Addr × Obj))(H:Hp)(b:Addr):Prop where
 old:X.eQ.heap.get? b=none
 free:H b=none
 loc:b≠X.env.locals
 cell:∀x c,X.env.cells.lookup x=some c->c≠b
 pin:∀p∈X.pn++pins,p.1≠b
 fr:b ∉ j4 X.stack
section
variable{X:Cx}{pins:List (Addr × Obj)}{σ:St}{H H':Hp}{s:Shared}{a T b:Addr}{cls:Value}{M:Model}{Q:Unit->Shared->Prop}{E:Value->Shared->Prop}{h':Heap}
end
section
variable{X:Cx}{pins:List (Addr × Obj)}{σ:St}{H H':Hp}{s:Shared}{a T b:Addr}{cls:Value}{M:Model}{Q:Unit->Shared->Prop}{E:Value->Shared->Prop}{h':Heap}
end
end L2
namespace L2
open PySem PySem.W PySem.Spec PySem.Calls PyProof.Rows
section
variable{prog:Program}{w:World}{A:Around}{E:Value->Shared->Prop}{s:Shared}{K:Frag}{x D:Addr}{ox:Obj}{odo:Option Obj}
end
section
variable{prog:Program}{w:World}{A:Around}{E:Value->Shared->Prop}{s:Shared}{K:Frag}{x D:Addr}{ox:Obj}{odo:Option Obj}
end
end L2
namespace L2
open PySem PySem.Spec PyProof.Rows
section
variable{X:Cx}{pins:List (Addr × Obj)}{σ:St}{H:Hp}{s:Shared}{h':Heap}{its:List Addr}{T:Addr}{o:HO}{t':Nat}
theorem Inv.Cg(I:Inv X pins σ H s)(k:∀b o,b ∉ its->s.heap.get? b=some o->h'.get? b=some o)(hf:∀b∈its,j6 X pins H b):Inv X pins σ H { s with heap:=h',toks:=t' }:=by
 have tS:∀b u,H b=some u->b ∉ its:=λb u e z=>by have:=(hf b z).1;rw[this]at e;cases e
 refine I.step (g':=s.gens) (d':=s.drawn) (ch:=its) (λb hb=>?_) (λb o _ _ hc e _=>k b o hc e) (λb o _ _ hc e _=>⟨o.slots,k b o hc e⟩) (λ_ _ _ _ n=>n)
  (λb o hc e=>⟨o,k b o hc e⟩) (λ_ _ e=>e) (λ_ _ _ e=>e) (λb ps e=>⟨#[],by rw[e];simp⟩) (λm hm=>?_) (λb u e=>?_) I.bare
 ·obtain⟨_,h1,_,h2,h3,h4⟩:=hf b hb
  exact⟨h2,h1,h3,h4⟩
 ·obtain⟨o,es,ep,ho,r⟩:=hm
  exact⟨o,es,ep,k _ o (λz=>(hf _ z).2.1 rfl) ho,r⟩
 ·refine(I.aK b u e).qQ (λc v hc q=>k c v ?_ q) (λ_ q=>q) (λ_ _ q=>q) λ_ _ q=>q
  rcases hc with z | z
  ·rw[z];exact tS b u e
  ·exact tS c _ z
theorem Inv.O6(I:Inv X pins σ H s)(k:∀b o,b ∉ its->s.heap.get? b=some o->h'.get? b=some o)(hf:∀b∈its,j6 X pins H b)(hT:s.heap.objs.size<=T)(new:fc X.prog X.w (upd H T o) h' T o) :
  Inv X pins σ (upd H T o) { s with heap:=h',toks:=t' }:=by
 have tS:∀b u,H b=some u->b ∉ its:=λb u e z=>by have:=(hf b z).1;rw[this]at e;cases e
 have fT:H T=none:=I.aK.fresh hT
 have neT:∀b u,H b=some u->b≠T:=λb u e z=>by rw[z,fT]at e;cases e
 have neS:∀b u,s.heap.get? b=some u->b≠T:=λb u e z=>absurd (dd (cg e) hT) (by rw[z];exact iq _)
 refine I.step (g':=s.gens) (d':=s.drawn) (ch:=its) (λb hb=>?_) (λb o _ _ hc e _=>k b o hc e) (λb o _ _ hc e _=>⟨o.slots,k b o hc e⟩) (λb u _ e n=>by rw[bc (neS b u e)];exact n)
  (λb o hc e=>⟨o,k b o hc e⟩) (λb _ e=>by rw[bc (neT b _ e)];exact e) (λb _ _ e=>by rw[bc (neT b _ e)];exact e) (λb ps e=>⟨#[],by rw[bc (neT b _ e),e];simp⟩) (λm hm=>?_) (λb u e=>?_) I.bare
 ·obtain⟨_,h1,_,h2,h3,h4⟩:=hf b hb
  exact⟨h2,h1,h3,h4⟩
 ·obtain⟨o,es,ep,ho,r⟩:=hm
  exact⟨o,es,ep,k _ o (λz=>(hf _ z).2.1 rfl) ho,r⟩
 ·by_cases hb:b=T
  ·subst hb;rw[bS]at e;cases e;exact new
  ·rw[bc hb]at e
   refine(I.aK b u e).qQ (λc v hc q=>k c v ?_ q) (λc q=>by rw[bc (neT c _ q)];exact q) (λc _ q=>by rw[bc (neT c _ q)];exact q) λc _ q=>by rw[bc (neT c _ q)];exact q
   rcases hc with z | z
   ·rw[z];exact tS b u e
   ·exact tS c _ z
def Gz(K:PySem.W.Frag)(a b:Addr):It :=
 ⟨λi H=>∃xs ys x y,bI K H a xs/\bI K H b ys/\xs[i]?=some x/\ys[i]?=some y,
  λi H v H'=>∃T x y,v=.ref T/\H T=none/\H'=upd H T (.tup [x,y])/\(∀xs,bI K H a xs->xs[i]?=some x)/\∀ys,bI K H b ys->ys[i]?=some y,
  λi H=>∃xs ys,bI K H a xs/\bI K H b ys/\(xs.length<=i\/ys.length<=i)⟩
theorem t9{K:PySem.W.Frag}{a c:Addr}{xs:List V}(hk:X.K=K)(I:Inv X pins σ H s)(h:bI K H a xs)(hf:j6 X pins H c)(ho:∃o,s.heap.get? c=some o/\o.cls≠.type "list"):a≠c:=by
 subst hk
 obtain⟨its,rv,p,hz⟩:=I.list h
 obtain⟨o,e,d⟩:=ho
 obtain⟨o',e',c',_⟩:=p.isList
 intro z
 subst z
 rw[e]at e';cases e'
 exact d c'
theorem ca3{P:Program}{w:World}{K:PySem.W.Frag}{elts:List Expr}{k:Nat}{pos:Pos}(a b z TI TO i1 i2:Addr)(D5:[z,TI,TO,i1,i2].Nodup) :
  Turn P w K (.Tuple elts k pos) (Gz K a b) [z,TI,TO,i1,i2] z (λi h=>IsZip h z TI TO .none/\IsPair h TI (.ref i1) (.ref i2)/\(∃u v,IsPair h TO u v)/\h.IsListIter i1 a i/\h.IsListIter i2 b i):=by
 have ap:∀(X:Cx) (pins:List (Addr × Obj)) (s:Shared) (σ:St) (H:Hp) (i:Nat) (xs ys:List V),X.K=K->Inv X pins σ H s->(∀b∈[z,TI,TO,i1,i2],j6 X pins H b)->IsZip s.heap z TI TO .none->(∃u v,IsPair s.heap TO u v)->s.heap.IsListIter i1 a i->s.heap.IsListIter i2 b i ->
   bI K H a xs->bI K H b ys->ZipApart z TI TO i1 i2 a b:=by
  intro X pins s σ H i xs ys hK I hf hz j9 h1 h2 hx hy
  simp only[nS,cN,not_or,jo,not_false_eq_true,and_true]at D5
  obtain⟨⟨d1,d2,d3,d4⟩,⟨d5,d6,d7⟩,⟨d8,d9⟩,d10,_⟩:=D5
  have oz:∃o,s.heap.get? z=some o/\o.cls≠.type "list":=⟨_,hz,by intro q;exact absurd (EY q) (by decide)⟩
  have O7:∃o,s.heap.get? TO=some o/\o.cls≠.type "list":=by obtain⟨u,v,e⟩:=j9;exact⟨_,e,by intro q;exact absurd (EY q) (by decide)⟩
  have o1:∃o,s.heap.get? i1=some o/\o.cls≠.type "list":=by obtain⟨o,e,c,d⟩:=h1;exact⟨_,e,by rw[c];intro q;exact absurd (EY q) (by decide)⟩
  have o2:∃o,s.heap.get? i2=some o/\o.cls≠.type "list":=by obtain⟨o,e,c,d⟩:=h2;exact⟨_,e,by rw[c];intro q;exact absurd (EY q) (by decide)⟩
  exact⟨iu d1,iu d2,iu d3,iu d4,d5,d6,d7,d8,d9,d10,
   t9 hK I hx (hf z (by simp)) oz,t9 hK I hx (hf TO (by simp)) O7,t9 hK I hx (hf i1 (by simp)) o1,t9 hK I hx (hf i2 (by simp)) o2,
   t9 hK I hy (hf z (by simp)) oz,t9 hK I hy (hf TO (by simp)) O7,t9 hK I hy (hf i1 (by simp)) o1,t9 hK I hy (hf i2 (by simp)) o2⟩
 refine⟨by simp,λi h st c hc=>?_,λi h h' st kk=>?_,?_,?_,λ_ _ _ _ _ st h=>wpAny_pyIter_zip st.1 h⟩
 ·obtain⟨hz,qe,⟨u,v,j9⟩,⟨o1,e1,c1,d1⟩,⟨o2,e2,c2,d2⟩⟩:=st
  simp only[cN,jo,or_false]at hc
  rcases hc with rfl | rfl | rfl | rfl | rfl
  ·exact⟨_,hz,λv q=>by cases q⟩
  ·exact⟨_,qe,λv q=>by cases q⟩
  ·exact⟨_,j9,λv q=>by cases q⟩
  ·exact⟨_,e1,λv q=>by rw[d1]at q;cases q⟩
  ·exact⟨_,e2,λv q=>by rw[d2]at q;cases q⟩
 ·obtain⟨hz,qe,⟨u,v,j9⟩,h1,h2⟩:=st
  exact⟨kk _ (by simp) _ hz,kk _ (by simp) _ qe,⟨u,v,kk _ (by simp) _ j9⟩,h1.at λo e=>kk _ (by simp) o e,h2.at λo e=>kk _ (by simp) o e⟩
 ·intro X hP hw hK hc i pins s σ H E I hf st hg
  obtain⟨xs,ys,x,y,hx,hy,ex,ey⟩:=hg
  obtain⟨hz,qe,⟨u,v,j9⟩,h1,h2⟩:=st
  have D:=ap X pins s σ H i xs ys hK I hf hz ⟨u,v,j9⟩ h1 h2 hx hy
  subst hP hw hK
  obtain⟨as,ra,pa,_⟩:=I.list hx
  obtain⟨bs,rb,pb,_⟩:=I.list hy
  obtain⟨ux,GA,rx⟩:=ra.get ex
  obtain⟨uy,euy,ry⟩:=rb.get ey
  refine wpAny_pyNext_zip_item D hz qe j9 h1 h2 pa.isList pb.isList (x:=ux) (y:=uy) (by simpa using GA) (by simpa using euy) λh' z' TO' om lQ T' sz kk=>?_
  have fT:H s.heap.objs.size=none:=I.aK.fresh (bG _)
  have I1:Inv X pins σ (upd H s.heap.objs.size (.tup [x,y])) { s with heap:=h',toks:=s.toks }:=I.O6 (its:=[z,TO,i1,i2]) (λc o hc e=>kk c o (λq=>hc (by simp[q])) (λq=>hc (by simp[q])) (λq=>hc (by simp[q])) (λq=>hc (by simp[q])) e)
   (λc hc=>hf c (by simp only[cN,jo,or_false]at hc ⊢;rcases hc with rfl | rfl | rfl | rfl<;>simp)) (bG _) ⟨by show 2<=sizeLine;decide,[ux,uy],.cons rx (.cons ry .nil),⟨_,T',rfl,_,rfl⟩⟩
  have nT:∀c∈[z,TI,TO,i1,i2],c≠s.heap.objs.size:=λc hc q=>by
   have:∃o,s.heap.get? c=some o:=by
    simp only[cN,jo,or_false]at hc
    rcases hc with rfl | rfl | rfl | rfl | rfl
    ·exact⟨_,hz⟩
    ·exact⟨_,qe⟩
    ·exact⟨_,j9⟩
    ·obtain⟨o,e,_⟩:=h1;exact⟨o,e⟩
    ·obtain⟨o,e,_⟩:=h2;exact⟨o,e⟩
   obtain⟨o,e⟩:=this
   exact absurd (cg e) (by rw[q];exact iq _)
  refine⟨_,rfl,wpAny_letOwnedTupleGo_zip z' λGB GC sb=>?_⟩
  have GD:∀c∈[z],j6 X pins (upd H s.heap.objs.size (.tup [x,y])) c:=λc hc=>by
   have e:c=z:=by simpa using hc
   subst e
   obtain⟨f0,fr⟩:=hf c (by simp)
   exact⟨by rw[bc (nT c (by simp))];exact f0,fr⟩
  have I2:=Inv.Cg (h':=GB) (its:=[z]) (t':=s.toks) I1 (λc o hc e=>sb.extBut _ _ (λq=>hc (by simp[q])) e) GD
  refine⟨.ref s.heap.objs.size,_,I2,rfl,⟨_,x,y,rfl,fT,rfl,λxs' dW=>by rw[I.BW dW hx];exact ex,λO8 hy'=>by rw[I.BW hy' hy];exact ey⟩,⟨GC,sb.extBut _ _ D.TIz (kk _ _ D.TIz D.TITO D.TIi1 D.TIi2 qe),⟨ux,uy,sb.extBut _ _ D.TOz TO'⟩,om.extBut sb.extBut D.i1z,lQ.extBut sb.extBut D.i2z⟩,λc hc=>?_⟩
  rw[bc (nT c hc)]
  exact(hf c hc).1
 ·intro X hP hw hK hc i pins s σ H E I hf st hg
  obtain⟨xs,ys,hx,hy,hl⟩:=hg
  obtain⟨hz,qe,⟨u,v,j9⟩,h1,h2⟩:=st
  have D:=ap X pins s σ H i xs ys hK I hf hz ⟨u,v,j9⟩ h1 h2 hx hy
  subst hP hw hK
  obtain⟨as,ra,pa,_⟩:=I.list hx
  obtain⟨bs,rb,pb,_⟩:=I.list hy
  have la:=ra.length
  have lb:=rb.length
  refine wpAny_pyNext_zip_end (I.ok.hd hc) D hz qe j9 h1 h2 pa.isList pb.isList (hl.imp (λq=>by simp;omega) λq=>by simp;omega) λh' kk=>⟨rfl,?_⟩
  exact I.Cg (its:=[z,TO,i1,i2]) (t':=s.toks) (λc o hc e=>kk c o (λq=>hc (by simp[q])) (λq=>hc (by simp[q])) (λq=>hc (by simp[q])) (λq=>hc (by simp[q])) e)
   (λc hc=>hf c (by simp only[cN,jo,or_false]at hc ⊢;rcases hc with rfl | rfl | rfl | rfl<;>simp))
def GF(K:PySem.W.Frag)(a:Addr):It :=
 ⟨λi H=>∃xs x,bI K H a xs/\xs[i]?=some x,
  λi H v H'=>∃T x,v=.ref T/\H T=none/\H'=upd H T (.tup [.int i,x])/\∀xs,bI K H a xs->xs[i]?=some x,
  λi H=>∃xs,bI K H a xs/\xs.length<=i⟩
theorem b18{P:Program}{w:World}{K:PySem.W.Frag}{elts:List Expr}{k:Nat}{pos:Pos}(a z it:Addr)(ua:z≠it) :
  Turn P w K (.Tuple elts k pos) (GF K a) [z,it] z (λi h=>(∃old,IsEnum h z it i old)/\h.IsListIter it a i):=by
 refine⟨by simp,λi h st c hc=>?_,λi h h' st kk=>?_,?_,?_,λ_ _ _ _ _ st h=>by obtain⟨⟨old,e⟩,_⟩:=st;exact wpAny_pyIter_enum e h⟩
 ·obtain⟨⟨old,hz⟩,⟨o1,e1,c1,d1⟩⟩:=st
  simp only[cN,jo,or_false]at hc
  rcases hc with rfl | rfl
  ·exact⟨_,hz,λv q=>by cases q⟩
  ·exact⟨_,e1,λv q=>by rw[d1]at q;cases q⟩
 ·obtain⟨⟨old,hz⟩,h1⟩:=st
  exact⟨⟨old,kk _ (by simp) _ hz⟩,h1.at λo e=>kk _ (by simp) o e⟩
 ·intro X hP hw hK hc i pins s σ H E I hf st hg
  subst hP hw hK
  obtain⟨xs,x,hx,ex⟩:=hg
  obtain⟨⟨old,hz⟩,h1⟩:=st
  obtain⟨as,ra,pa,_⟩:=I.list hx
  obtain⟨ux,GA,rx⟩:=ra.get ex
  refine wpAny_pyNext_enum_item hz h1 pa.isList (x:=ux) (by simpa using GA) ua λh' z' om T' sz kk=>?_
  have fT:H s.heap.objs.size=none:=I.aK.fresh (bG _)
  have I1:Inv X pins σ (upd H s.heap.objs.size (.tup [.int i,x])) { s with heap:=h',toks:=s.toks+1 }:=I.O6 (its:=[z,it]) (λc o hc e=>kk c o (λq=>hc (by simp[q])) (λq=>hc (by simp[q])) e)
   (λc hc=>hf c hc) (bG _) ⟨by show 2<=sizeLine;decide,[.int i s.toks,ux],.cons ⟨_,rfl⟩ (.cons rx .nil),⟨_,T',rfl,_,rfl⟩⟩
  have nT:∀c∈[z,it],c≠s.heap.objs.size:=λc hc q=>by
   have:∃o,s.heap.get? c=some o:=by
    simp only[cN,jo,or_false]at hc
    rcases hc with rfl | rfl
    ·exact⟨_,hz⟩
    ·obtain⟨o,e,_⟩:=h1;exact⟨o,e⟩
   obtain⟨o,e⟩:=this
   exact absurd (cg e) (by rw[q];exact iq _)
  refine⟨_,rfl,wpAny_letOwnedTupleGo_enum z' λGB GC sb=>?_⟩
  have GD:∀c∈[z],j6 X pins (upd H s.heap.objs.size (.tup [.int i,x])) c:=λc hc=>by
   have e:c=z:=by simpa using hc
   subst e
   obtain⟨f0,fr⟩:=hf c (by simp)
   exact⟨by rw[bc (nT c (by simp))];exact f0,fr⟩
  have I2:=Inv.Cg (h':=GB) (its:=[z]) (t':=s.toks+1) I1 (λc o hc e=>sb.extBut _ _ (λq=>hc (by simp[q])) e) GD
  refine⟨.ref s.heap.objs.size,_,I2,rfl,⟨_,x,rfl,fT,rfl,λxs' dW=>by rw[I.BW dW hx];exact ex⟩,⟨⟨ux,by simpa using GC⟩,om.extBut sb.extBut (iu ua)⟩,λc hc=>?_⟩
  rw[bc (nT c hc)]
  exact(hf c hc).1
 ·intro X hP hw hK hc i pins s σ H E I hf st hg
  subst hP hw hK
  obtain⟨xs,hx,hl⟩:=hg
  obtain⟨⟨old,hz⟩,h1⟩:=st
  obtain⟨as,ra,pa,_⟩:=I.list hx
  have la:=ra.length
  refine wpAny_pyNext_enum_end (I.ok.hd hc) hz h1 pa.isList (by simp;omega) λh' kk=>⟨rfl,?_⟩
  exact I.Cg (its:=[it]) (t':=s.toks) (λc o hc e=>kk c o (λq=>hc (by simp[q])) e) (λc hc=>hf c (by simp at hc ⊢;simp[hc]))
end
section
variable{X:Cx}{a b:Expr}{ta:TA}{p pos p5:Pos}{elts:List Expr}{x1:Nat}
def cQ7(K:PySem.W.Frag)(ta:TA):TI:=λσ H R=>ta σ H λvs H1=>∃a b,vs=[.ref a,.ref b]/\(∃xs,bI K H1 a xs)/\(∃ys,bI K H1 b ys)/\R (Gz K a b) H1
theorem cd0:bootBuiltins "zip"=some (.type "zip"):=by decide +kernel
theorem cw7(hg:Gl X "zip")(hm:X.mg "zip"=none)(ha:PA X [a,b] ta)(hs:starEach [a,b] X.env=[(false,eval a X.env),(false,eval b X.env)]:=by rfl)(dD:starEach [b] X.env=[(false,eval b X.env)]:=by rfl) :
  PI X (.Tuple elts x1 p5) (.Call (.Name "zip" p) [a,b] [] pos) (cQ7 X.K ta):=by
 intro pins s σ H R I h
 refine Call_ (rW I hg hm cd0 (we (aN (ha pos pins s σ H _ I h) λus s1 zq=>?_) (by rw[hs,dD]) (by rw[dD];rfl)))
 obtain⟨vs,H1,I1,r1,q1⟩:=zq
 obtain⟨a,b,e,⟨xs,hx⟩,⟨ys,hy⟩,q⟩:=q1
 subst e
 cases r1 with
 | cons r rr =>
  cases rr with
  | cons r2 rr =>
   cases rr
   cases r
   cases r2
   obtain⟨as,ra,pa,_⟩:=I1.list hx
   obtain⟨bs,rb,pb,_⟩:=I1.list hy
   refine call_zip_2 pa.isList pb.isList λh' hz qe j9 h1 h2 sz kk=>wpAny_pyIter_zip hz ?_
   refine⟨_,[s1.heap.objs.size+4,s1.heap.objs.size+2,s1.heap.objs.size+3,s1.heap.objs.size,s1.heap.objs.size+1],_,_,H1,rfl,I1.kept (t':=s1.toks) kk,ca3 a b _ _ _ _ _ (by simp),⟨hz,qe,⟨_,_,j9⟩,h1,h2⟩,λc hc=>?_,q⟩
   have hle:s1.heap.objs.size<=c:=by
    simp only[cN,jo,or_false]at hc
    rcases hc with rfl | rfl | rfl | rfl | rfl<;>omega
   exact I1.B6 hle (I1.aK.fresh hle)
def cH1(K:PySem.W.Frag)(ta:TA):TI:=λσ H R=>ta σ H λvs H1=>∃a,vs=[.ref a]/\(∃xs,bI K H1 a xs)/\R (GF K a) H1
theorem bs9:bootBuiltins "enumerate"=some (.type "enumerate"):=by decide +kernel
theorem cl6(hg:Gl X "enumerate")(hm:X.mg "enumerate"=none)(ha:PA X [a] ta)(hs:starEach [a] X.env=[(false,eval a X.env)]:=by rfl) :
  PI X (.Tuple elts x1 p5) (.Call (.Name "enumerate" p) [a] [] pos) (cH1 X.K ta):=by
 intro pins s σ H R I h
 refine Call_ (rW I hg hm bs9 (we (aN (ha pos pins s σ H _ I h) λus s1 zq=>?_) hs rfl))
 obtain⟨vs,H1,I1,r1,q1⟩:=zq
 obtain⟨a,e,⟨xs,hx⟩,q⟩:=q1
 subst e
 cases r1 with
 | cons r rr =>
  cases rr
  cases r
  obtain⟨as,ra,pa,_⟩:=I1.list hx
  refine call_enumerate_list pa.isList λh' hz h1 sz kk=>wpAny_pyIter_enum hz ?_
  refine⟨_,[s1.heap.objs.size+1,s1.heap.objs.size],_,_,H1,rfl,I1.kept (t':=s1.toks) kk,b18 a (s1.heap.objs.size+1) s1.heap.objs.size (Nat.succ_ne_self _),⟨⟨_,hz⟩,h1⟩,λc hc=>?_,q⟩
  have hle:s1.heap.objs.size<=c:=by
   simp only[cN,jo,or_false]at hc
   rcases hc with rfl | rfl<;>omega
  exact I1.B6 hle (I1.aK.fresh hle)
end
end L2
namespace L2
open PySem PySem.Spec PyProof.Rows PySem.W PySem.Calls
section
variable{X:Cx}
def xb{α:Type}(xs:List α)(lo hi:Option Int):List α:=(xs.drop (HT.cZ xs.length 0 lo)).take (HT.cZ xs.length xs.length hi-HT.cZ xs.length 0 lo)
theorem b30(x:Str)(lo hi:Option Int):Txt.slice x lo hi=⟨(xb x.cps.toList lo hi).toArray⟩:=by
 have hx:x.length=x.cps.size:=rfl
 have e:(EZ lo hi 1 x.length).filterMap (x.cps[·]?)=xb x.cps.toList lo hi:=by
  obtain⟨h1,h2,h3⟩:=FX lo hi x.length
  have e0:EZ lo hi 1 x.length=sliceRange (sliceBounds lo hi none x.length).1 (sliceBounds lo hi none x.length).2.1 1:=by
   cases lo<;>cases hi<;>rfl
  rw[e0,h1,h2]
  simp only[sliceRange_one,pick_run]
  unfold xb
  rw[hx,wc]
 unfold Txt.slice
 split
 ·rename_i h
  have hl:(EZ lo hi 1 x.length).length=x.length:=by
   rw[eZ]at h;exact eq_of_beq h.2
  have hs:(xb x.cps.toList lo hi)=x.cps.toList:=by
   have e2:HT.cZ x.cps.toList.length x.cps.toList.length hi-HT.cZ x.cps.toList.length 0 lo=x.length:=by
    obtain⟨h1,h2,h3⟩:=FX lo hi x.length
    have e0:EZ lo hi 1 x.length=sliceRange (sliceBounds lo hi none x.length).1 (sliceBounds lo hi none x.length).2.1 1:=by
     cases lo<;>cases hi<;>rfl
    rw[e0,h1,h2]at hl
    simp only[sliceRange_one,aR,bC]at hl
    rw[wc,<- hx]
    omega
   unfold xb
   have le:HT.cZ x.cps.toList.length x.cps.toList.length hi<=x.cps.toList.length:=by
    cases hi with
    | none=>simp[HT.cZ]
    | some i=>simp only[HT.cZ];split<;>omega
   have le2:HT.cZ x.cps.toList.length 0 lo<=x.cps.toList.length:=by
    cases lo with
    | none=>simp[HT.cZ]
    | some i=>simp only[HT.cZ];split<;>omega
   rw[wc,<- hx]at e2 le le2 ⊢
   have z:HT.cZ x.length 0 lo=0:=by omega
   have z2:HT.cZ x.length x.length hi=x.length:=by omega
   rw[z,z2,List.drop_zero,Nat.sub_zero,hx,<- wc,uS]
  rw[hs]
 ·rw[e]
theorem cz9:vh X (λx lo hi H Q=>∃z,x=.str z/\z.length<=sizeLine/\Q (.str ⟨(xb z.cps.toList lo hi).toArray⟩) H):=by
 intro pins s σ H x v vl vu lo hi sl Q I rx hs pl pu h
 obtain⟨z,rfl,hz,q⟩:=h
 obtain⟨t,rfl⟩:=rx
 refine⟨"str",_,F.slot_str_getitem.lookup,typeIs_str _ _ _,?_⟩
 have fin:∀(l u:Option (Int × Tok)),l.map (·.1)=lo->u.map (·.1)=hi->partValue l=vl->partValue u=vu->wpAny (model X.prog X.w) X.A (getItem (.str z t) (.ref sl)) (EP X pins σ Q) X.xe s:=by
  intro l u h1 h2 h3 h4
  obtain⟨o,e1,e2,e3⟩:=hs
  refine wpAny_getItem_str_slice (l:=l) (u:=u) (st:=none) ⟨o,e1,e2,by rw[e3,h3,h4];rfl⟩ rfl ?_
  have e:Txt.slice z lo hi=(if(((none:Option (Int × Tok)).map (·.1)).getD 1==1&&(slicePicked z l u none).length==z.length)=true then z else⟨((slicePicked z l u none).filterMap (z.cps[·]?)).toArray⟩):=by
   unfold Txt.slice slicePicked;rw[h1,h2];rfl
  refine post_val_or_str ⟨?_,λt' k=>?_⟩
  ·rw[<-e];exact cQ (Txt.slice_le z _ _) hz
  ·rw[<-e,b30];exact⟨.str _,H,I.tok _,⟨_,rfl⟩,q⟩
 cases pl with
 | none =>
  cases pu with
  | none=>exact fin none none rfl rfl rfl rfl
  | int j tj=>exact fin none (some (j,tj)) rfl rfl rfl rfl
 | int i ti =>
  cases pu with
  | none=>exact fin (some (i,ti)) none rfl rfl rfl rfl
  | int j tj=>exact fin (some (i,ti)) (some (j,tj)) rfl rfl rfl rfl
end
end L2
namespace L3
open PySem L2
def ka:HO->Bool
 | .dN _=>false
 | _=>true
structure ag(H H':Hp):Prop where
 get:∀b o,H b=some o->(h:ka o=true:=by rfl)->H' b=some o
 tb:∀b ps,H b=some (.dN ps)->∃more,H' b=some (.dN (ps++more))
instance {H H':Hp}:CoeFun (ag H H') λ_=>∀b o,H b=some o->(h:ka o=true:=by rfl)->H' b=some o:=⟨λs=>@ag.get _ _ s⟩
theorem GG{o:HO}(h:ka o=false):∃ps,o=.dN ps:=by
 cases o with
 | dN ps=>exact⟨ps,rfl⟩
 | _=>cases h
theorem ag.of{H H':Hp}(h:∀b o,H b=some o->H' b=some o):ag H H':=⟨λb o e _=>h b o e,λb ps e=>⟨#[],by rw[h b _ e];simp⟩⟩
theorem ag.refl(H:Hp):ag H H:=.of λ_ _ h=>h
theorem ag.trans{H H1 H2:Hp}(a:ag H H1)(b:ag H1 H2):ag H H2 :=
 ⟨λc o h n=>b.get c o (a.get c o h n) n,λc ps h=>by
  obtain⟨m1,e1⟩:=a.tb c ps h
  obtain⟨m2,e2⟩:=b.tb c _ e1
  exact⟨m1++m2,by rw[e2,wb]⟩⟩
theorem ag.any{H H':Hp}(e:ag H H'){l:Addr}{o:HO}(h:H l=some o):∃o',H' l=some o':=by
 cases n:ka o with
 | true=>exact⟨o,e.get l o h n⟩
 | false =>
  obtain⟨ps,rfl⟩:=GG n
  obtain⟨m,q⟩:=e.tb l ps h
  exact⟨_,q⟩
theorem ag.free{H H':Hp}(e:ag H H'){l:Addr}(h:H' l=Option.none):H l=Option.none:=by
 cases q:H l with
 | none=>rfl
 | some o =>
  obtain⟨o',z⟩:=e.any q
  rw[z]at h
  cases h
inductive xf where
 | ext (φ:Addr->Heap->Prop)
 | lam (of oc:Obj) (c k:Addr)
instance:Coe (Addr->Heap->Prop) xf:=⟨.ext⟩
def GH(H:Hp)(k:Addr):Prop:=∃ψ,H k=some (.ext ψ)/\∀h,ψ h->∃q,h.CodeRec (.ref k) q
def lU(of oc:Obj)(c p:Addr):Heap->Prop:=λh=>h.get? p=some of/\h.get? c=some oc
structure oo(H:Hp)(p:Addr)(of oc:Obj)(c k:Addr):Prop where
 fn:H p=some (.ext (lU of oc c p))
 cell:H c=some (.own p)
 GI:GH H k
def vm(H:Hp)(p:Addr):xf->Prop
 | .ext φ=>H p=some (.ext (φ p))
 | .lam of oc c k=>oo H p of oc c k
theorem vm.mono{H H':Hp}{p:Addr}:∀{z:xf},vm H p z->(∀a o,H a=some o->(∀ws,o≠.lst ws)->ka o=true->H' a=some o)->vm H' p z
 | .ext φ,x,k=>k _ _ x (λws q=>by cases q) rfl
 | .lam of oc c k',x,k=>⟨k _ _ x.fn (λws q=>by cases q) rfl,k _ _ x.cell (λws q=>by cases q) rfl,let⟨ψ,e,h⟩:=x.GI;⟨ψ,k _ _ e (λws q=>by cases q) rfl,h⟩⟩
inductive D where
 | aq | bl (b:Bool) | int (i:Int) | str (x:Str)
 | lst (o:Bool) (xs:List D)
 | tup (xs:List D)
 | obj (C:Addr) (ns:List Str) (xs:List D)
 | fz (xs:List D)
 | bK (z:xf)
 deriving Inhabited
def D.pl:D->Bool
 | .lst o xs=>!o&&zd xs
 | .tup xs=>zd xs
 | _=>true
where zd:List D->Bool
 | []=>true
 | d::ds=>d.pl&&zd ds
def D.fr:D->Bool
 | .lst o xs=>o&&ze xs
 | .tup xs=>ze xs
 | .obj _ _ _=>false
 | .fz _=>false
 | _=>true
where ze:List D->Bool
 | []=>true
 | d::ds=>d.fr&&ze ds
def D.sh:D->D
 | .lst _ xs=>.lst false (zh xs)
 | .tup xs=>.tup (zh xs)
 | d=>d
where zh:List D->List D
 | []=>[]
 | d::ds=>d.sh::zh ds
theorem O9(ds:List D):D.pl.zd ds=ds.all D.pl:=by induction ds with | nil=>rfl | cons d ds ih=>simp[D.pl.zd,ih]
theorem Pa(ds:List D):D.fr.ze ds=ds.all D.fr:=by induction ds with | nil=>rfl | cons d ds ih=>simp[D.fr.ze,ih]
theorem Pb(ds:List D):D.sh.zh ds=ds.map D.sh:=by induction ds with | nil=>rfl | cons d ds ih=>simp[D.sh.zh,ih]
theorem eR(o:Bool)(xs:List D):(D.lst o xs).pl=(!o&&xs.all D.pl):=by simp[D.pl,O9]
theorem hJ(xs:List D):(D.tup xs).pl=xs.all D.pl:=by simp[D.pl,O9]
theorem eE(o:Bool)(xs:List D):(D.lst o xs).fr=(o&&xs.all D.fr):=by simp[D.fr,Pa]
theorem kb(xs:List D):(D.tup xs).fr=xs.all D.fr:=by simp[D.fr,Pa]
theorem cE(o:Bool)(xs:List D):(D.lst o xs).sh=.lst false (xs.map D.sh):=by simp[D.sh,Pb]
theorem iF(xs:List D):(D.tup xs).sh=.tup (xs.map D.sh):=by simp[D.sh,Pb]
inductive R(F H:Hp):List D->List V->List Addr->Prop
 | nil:R F H [] [] []
 | aq {ds vs B}:R F H ds vs B->R F H (.aq::ds) (.aq::vs) B
 | bl {b ds vs B}:R F H ds vs B->R F H (.bl b::ds) (.bl b::vs) B
 | int {i ds vs B}:R F H ds vs B->R F H (.int i::ds) (.int i::vs) B
 | str {x ds vs B}:R F H ds vs B->R F H (.str x::ds) (.str x::vs) B
 | shr {p ws xs ds vs B}:F p=some (.lst ws)->R F H xs ws []->R F H ds vs B->R F H (.lst false xs::ds) (.ref p::vs) B
 | own {p ws xs A ds vs B}:H p=some (.lst ws)->F p=none->R F H xs ws A->R F H ds vs B->R F H (.lst true xs::ds) (.ref p::vs) (p::(A++B))
 | tup {p ws xs A ds vs B}:H p=some (.tup ws)->R F H xs ws A->R F H ds vs B->R F H (.tup xs::ds) (.ref p::vs) (A++B)
 | obj {p C dx ns ws xs ds vs B}:H p=some (.ins C dx (ns.zip ws))->ns.length=ws.length->R F H xs ws []->R F H ds vs B->R F H (.obj C ns xs::ds) (.ref p::vs) B
 | fz {p o ws xs ds vs B}:F p=some (.bD o (.lst ws))->R F H xs ws []->R F H ds vs B->R F H (.fz xs::ds) (.ref p::vs) B
 | bK {p z ds vs B}:vm H p z->R F H ds vs B->R F H (.bK z::ds) (.ref p::vs) B
inductive S(F H:Hp):List D->List V->Prop
 | nil:S F H [] []
 | aq {ds vs}:S F H ds vs->S F H (.aq::ds) (.aq::vs)
 | bl {b ds vs}:S F H ds vs->S F H (.bl b::ds) (.bl b::vs)
 | int {i ds vs}:S F H ds vs->S F H (.int i::ds) (.int i::vs)
 | str {x ds vs}:S F H ds vs->S F H (.str x::ds) (.str x::vs)
 | shr {p ws xs ds vs}:F p=some (.lst ws)->R F H xs ws []->S F H ds vs->S F H (.lst false xs::ds) (.ref p::vs)
 | own {p ws xs ds vs}:H p=some (.lst ws)->S F H xs ws->S F H ds vs->S F H (.lst true xs::ds) (.ref p::vs)
 | tup {p ws xs ds vs}:H p=some (.tup ws)->S F H xs ws->S F H ds vs->S F H (.tup xs::ds) (.ref p::vs)
 | obj {p C dx ns ws xs ds vs}:H p=some (.ins C dx (ns.zip ws))->ns.length=ws.length->R F H xs ws []->S F H ds vs->S F H (.obj C ns xs::ds) (.ref p::vs)
 | fz {p o ws xs ds vs}:F p=some (.bD o (.lst ws))->R F H xs ws []->S F H ds vs->S F H (.fz xs::ds) (.ref p::vs)
 | bK {p z ds vs}:vm H p z->S F H ds vs->S F H (.bK z::ds) (.ref p::vs)
section
variable{F F' H H':Hp}{d:D}{ds es:List D}{v:V}{vs ws:List V}{A B:List Addr}
theorem R.length(r:R F H ds vs A):ds.length=vs.length:=by
 induction r<;>simp_all
theorem S.length(r:S F H ds vs):ds.length=vs.length:=by
 induction r<;>simp_all
theorem R.qf{vs:List V}{A:List Addr}(r:R F H [] vs A):vs=[]/\A=[]:=by cases r;exact⟨rfl,rfl⟩
def Rv(F H:Hp)(ds:List D)(v:V)(vs:List V)(B:List Addr):D->Prop
 | .lst true xs=>∃p ws A B',v=.ref p/\H p=some (.lst ws)/\F p=none/\R F H xs ws A/\R F H ds vs B'/\B=p::(A++B')
 | .tup xs=>∃p ws A B',v=.ref p/\H p=some (.tup ws)/\R F H xs ws A/\R F H ds vs B'/\B=A++B'
 | _=>R F H ds vs B
theorem R.rv{d:D}{ds:List D}{v:V}{vs:List V}{B:List Addr}(r:R F H (d::ds) (v::vs) B):Rv F H ds v vs B d:=by
 cases r with
 | aq q=>exact q
 | bl q=>exact q
 | int q=>exact q
 | str q=>exact q
 | shr _ _ q=>exact q
 | own h f x q=>exact⟨_,_,_,_,rfl,h,f,x,q,rfl⟩
 | tup h x q=>exact⟨_,_,_,_,rfl,h,x,q,rfl⟩
 | obj _ _ _ q=>exact q
 | fz _ _ q=>exact q
 | bK _ q=>exact q
theorem R.cons(r:R F H [d] [v] A)(q:R F H ds vs B):R F H (d::ds) (v::vs) (A++B):=by
 cases r with
 | aq r=>rw[r.qf.2];exact .aq q
 | bl r=>rw[r.qf.2];exact .bl q
 | int r=>rw[r.qf.2];exact .int q
 | str r=>rw[r.qf.2];exact .str q
 | shr h x r=>rw[r.qf.2];exact .shr h x q
 | own h f x r=>rw[r.qf.2,fJ];exact R.own h f x q
 | tup h x r=>rw[r.qf.2,fJ];exact R.tup h x q
 | obj h l x r=>rw[r.qf.2];exact .obj h l x q
 | fz h x r=>rw[r.qf.2];exact .fz h x q
 | bK h r=>rw[r.qf.2];exact .bK h q
theorem R.cX(r:R F H (d::ds) vs A):∃v b8 A1 A2,vs=v::b8/\A=A1++A2/\R F H [d] [v] A1/\R F H ds b8 A2:=by
 cases r with
 | aq r=>exact⟨_,_,[],_,rfl,rfl,.aq .nil,r⟩
 | bl r=>exact⟨_,_,[],_,rfl,rfl,.bl .nil,r⟩
 | int r=>exact⟨_,_,[],_,rfl,rfl,.int .nil,r⟩
 | str r=>exact⟨_,_,[],_,rfl,rfl,.str .nil,r⟩
 | shr h x r=>exact⟨_,_,[],_,rfl,rfl,.shr h x .nil,r⟩
 | @own p _ _ A1 _ _ B1 h f x r=>exact⟨_,_,p::A1,B1,rfl,rfl,by simpa using R.own h f x .nil,r⟩
 | @tup p _ _ A1 _ _ B1 h x r=>exact⟨_,_,A1,B1,rfl,rfl,by simpa using R.tup h x .nil,r⟩
 | obj h l x r=>exact⟨_,_,[],_,rfl,rfl,.obj h l x .nil,r⟩
 | fz h x r=>exact⟨_,_,[],_,rfl,rfl,.fz h x .nil,r⟩
 | bK h r=>exact⟨_,_,[],_,rfl,rfl,.bK h .nil,r⟩
theorem S.cons(r:S F H [d] [v])(q:S F H ds vs):S F H (d::ds) (v::vs):=by
 cases r with
 | aq r=>exact .aq q
 | bl r=>exact .bl q
 | int r=>exact .int q
 | str r=>exact .str q
 | shr h x r=>exact .shr h x q
 | own h x r=>exact .own h x q
 | tup h x r=>exact .tup h x q
 | obj h l x r=>exact .obj h l x q
 | fz h x r=>exact .fz h x q
 | bK h r=>exact .bK h q
theorem S.cX(r:S F H (d::ds) vs):∃v b8,vs=v::b8/\S F H [d] [v]/\S F H ds b8:=by
 cases r with
 | aq r=>exact⟨_,_,rfl,.aq .nil,r⟩
 | bl r=>exact⟨_,_,rfl,.bl .nil,r⟩
 | int r=>exact⟨_,_,rfl,.int .nil,r⟩
 | str r=>exact⟨_,_,rfl,.str .nil,r⟩
 | shr h x r=>exact⟨_,_,rfl,.shr h x .nil,r⟩
 | own h x r=>exact⟨_,_,rfl,.own h x .nil,r⟩
 | tup h x r=>exact⟨_,_,rfl,.tup h x .nil,r⟩
 | obj h l x r=>exact⟨_,_,rfl,.obj h l x .nil,r⟩
 | fz h x r=>exact⟨_,_,rfl,.fz h x .nil,r⟩
 | bK h r=>exact⟨_,_,rfl,.bK h .nil,r⟩
theorem R.append:∀{ds:List D} {vs:List V} {A:List Addr},R F H ds vs A->R F H es ws B->R F H (ds++es) (vs++ws) (A++B)
 | [],_,_,r,q=>by cases r;exact q
 | d::ds,_,_,r,q=>by
  obtain⟨v,b8,A1,A2,rfl,rfl,h1,h2⟩:=r.cX
  simpa using h1.cons (R.append h2 q)
theorem S.append:∀{ds:List D} {vs:List V},S F H ds vs->S F H es ws->S F H (ds++es) (vs++ws)
 | [],_,r,q=>by cases r;exact q
 | d::ds,_,r,q=>by
  obtain⟨v,b8,rfl,h1,h2⟩:=r.cX
  exact h1.cons (S.append h2 q)
theorem R.split:∀{ds:List D} {vs:List V} {A:List Addr},R F H (ds++es) vs A->∃v1 v2 A1 A2,vs=v1++v2/\A=A1++A2/\R F H ds v1 A1/\R F H es v2 A2
 | [],vs,A,r=>⟨[],vs,[],A,rfl,rfl,.nil,r⟩
 | d::ds,_,_,r=>by
  obtain⟨v,b8,A1,A2,rfl,rfl,h1,h2⟩:=R.cX (ds:=ds++es) r
  obtain⟨v1,v2,B1,B2,rfl,rfl,h3,h4⟩:=R.split (ds:=ds) h2
  exact⟨v::v1,v2,A1++B1,B2,rfl,by simp,h1.cons h3,h4⟩
theorem R.get:∀{ds:List D} {vs:List V} {A:List Addr} {i:Nat},R F H ds vs A->ds[i]?=some d->∃v A1,vs[i]?=some v/\R F H [d] [v] A1/\A1 ⊆ A
 | [],_,_,_,_,e=>by simp at e
 | d'::ds,_,_,i,r,e=>by
  obtain⟨v,b8,A1,A2,rfl,rfl,h1,h2⟩:=r.cX
  cases i with
  | zero=>simp at e;subst e;exact⟨v,A1,rfl,h1,by simp⟩
  | succ i =>
   obtain⟨w,B1,e2,q,sb⟩:=R.get (ds:=ds) (i:=i) h2 (by simpa using e)
   exact⟨w,B1,by simpa using e2,q,λx hx=>dv _ (sb hx)⟩
theorem S.get:∀{ds:List D} {vs:List V} {i:Nat},S F H ds vs->ds[i]?=some d->∃v,vs[i]?=some v/\S F H [d] [v]
 | [],_,_,_,e=>by simp at e
 | d'::ds,_,i,r,e=>by
  obtain⟨v,b8,rfl,h1,h2⟩:=r.cX
  cases i with
  | zero=>simp at e;subst e;exact⟨v,rfl,h1⟩
  | succ i =>
   obtain⟨w,e2,q⟩:=S.get (ds:=ds) (i:=i) h2 (by simpa using e)
   exact⟨w,by simpa using e2,q⟩
theorem S.get':∀{ds:List D} {vs:List V} {i:Nat},S F H ds vs->vs[i]?=some v->∃d,ds[i]?=some d/\S F H [d] [v]
 | [],_,_,r,e=>by cases r;simp at e
 | d'::ds,_,i,r,e=>by
  obtain⟨v,b8,rfl,h1,h2⟩:=r.cX
  cases i with
  | zero=>simp at e;subst e;exact⟨d',rfl,h1⟩
  | succ i =>
   obtain⟨w,e2,q⟩:=S.get' (ds:=ds) (i:=i) h2 (by simpa using e)
   exact⟨w,by simpa using e2,q⟩
theorem S.take:∀{ds:List D} {vs:List V} (n:Nat),S F H ds vs->S F H (ds.take n) (vs.take n)
 | _,_,0,r=>by simpa using S.nil
 | [],_,n+1,r=>by cases r;exact .nil
 | d::ds,_,n+1,r=>by
  obtain⟨v,b8,rfl,h1,h2⟩:=r.cX
  exact h1.cons (S.take n h2)
theorem S.drop:∀{ds:List D} {vs:List V} (n:Nat),S F H ds vs->S F H (ds.drop n) (vs.drop n)
 | _,_,0,r=>by simpa using r
 | [],_,n+1,r=>by cases r;exact .nil
 | d::ds,_,n+1,r=>by
  obtain⟨v,b8,rfl,h1,h2⟩:=r.cX
  exact S.drop n h2
theorem jz{p:Addr}{o:HO}(h:Rd F p o)(s:ag F F')(n:ka o=true:=by rfl):Rd F' p o:=by
 rcases h with h | ⟨u,h⟩
 ·exact .inl (s.get _ _ h n)
 ·exact .inr ⟨u,s _ _ h⟩
theorem R.s(r:R F H ds vs A):S F H ds vs:=by
 induction r with
 | nil=>exact .nil
 | aq _ ih=>exact .aq ih
 | bl _ ih=>exact .bl ih
 | int _ ih=>exact .int ih
 | str _ ih=>exact .str ih
 | shr h x _ _ ih=>exact .shr h x ih
 | own h f _ _ i1 i2=>exact .own h i1 i2
 | tup h _ _ i1 i2=>exact .tup h i1 i2
 | obj h l x _ _ ih=>exact .obj h l x ih
 | fz h x _ _ ih=>exact .fz h x ih
 | bK h _ ih=>exact .bK h ih
structure gL(W:List Addr)(H H':Hp):Prop where
 get:∀a o,H a=some o->a ∉ W->(h:ka o=true:=by rfl)->H' a=some o
instance {W:List Addr} {H H':Hp}:CoeFun (gL W H H') λ_=>∀a o,H a=some o->a ∉ W->(h:ka o=true:=by rfl)->H' a=some o:=⟨λs=>@gL.get _ _ _ s⟩
def iG(W:List Addr)(H:Hp):Prop:=∀a∈W,∃ws,H a=some (.lst ws)
theorem R.keep{W:List Addr}(hf:ag F F')(hb:gL W H H')(hl:iG W H)(r:R F H ds vs A)(hn:∀a∈A,F' a=none)(hd:∀a∈A,a ∉ W):R F' H' ds vs A:=by
 induction r with
 | nil=>exact .nil
 | aq _ ih=>exact .aq (ih hn hd)
 | bl _ ih=>exact .bl (ih hn hd)
 | int _ ih=>exact .int (ih hn hd)
 | str _ ih=>exact .str (ih hn hd)
 | shr h x _ i1 ih=>exact .shr (hf _ _ h) (i1 (by simp) (by simp)) (ih hn hd)
 | own h f _ _ i1 i2 =>
  refine .own (hb _ _ h (hd _ (by simp))) (hn _ (by simp)) (i1 (λa ha=>hn a ?_) λa ha=>hd a ?_) (i2 (λa ha=>hn a ?_) λa ha=>hd a ?_)<;>simp[ha]
 | @tup p ws _ _ _ _ _ h _ _ i1 i2 =>
  refine .tup (hb _ _ h λz=>?_) (i1 (λa ha=>hn a ?_) λa ha=>hd a ?_) (i2 (λa ha=>hn a ?_) λa ha=>hd a ?_)<;>try simp[ha]
  obtain⟨q,e⟩:=hl _ z
  rw[h]at e;cases e
 | obj h l x _ i1 ih =>
  refine .obj (hb _ _ h λz=>?_) l (i1 (by simp) (by simp)) (ih hn hd)
  obtain⟨q,e⟩:=hl _ z
  rw[h]at e;cases e
 | fz h x _ i1 ih=>exact .fz (hf _ _ h) (i1 (by simp) (by simp)) (ih hn hd)
 | bK h _ ih =>
  exact .bK (h.mono λa o e n t=>hb.get a o e (λz=>by
   obtain⟨q,e'⟩:=hl _ z
   rw[e]at e';cases e';exact n _ rfl) t) (ih hn hd)
theorem gL.same(h:ag H H'):gL [] H H':=⟨λa o e _ n=>h.get a o e n⟩
theorem iG.nil:iG [] H:=λa h=>absurd h (by simp)
theorem R.grow(hf:ag F F')(hb:ag H H')(r:R F H ds vs A)(hn:∀a∈A,F' a=none):R F' H' ds vs A :=
 r.keep hf (gL.same hb) iG.nil hn (by simp)
theorem R.shared(hf:ag F F')(hb:ag H H')(r:R F H ds vs []):R F' H' ds vs []:=r.grow hf hb (by simp)
theorem S.mono(hf:ag F F')(hb:ag H H')(r:S F H ds vs):S F' H' ds vs:=by
 induction r with
 | nil=>exact .nil
 | aq _ ih=>exact .aq ih
 | bl _ ih=>exact .bl ih
 | int _ ih=>exact .int ih
 | str _ ih=>exact .str ih
 | shr h x _ ih=>exact .shr (hf _ _ h) (x.shared hf hb) ih
 | own h _ _ i1 i2=>exact .own (hb _ _ h) i1 i2
 | tup h _ _ i1 i2=>exact .tup (hb _ _ h) i1 i2
 | obj h l x _ ih=>exact .obj (hb _ _ h) l (x.shared hf hb) ih
 | fz h x _ ih=>exact .fz (hf _ _ h) (x.shared hf hb) ih
 | bK h _ ih=>exact .bK (h.mono λa o e _ t=>hb.get a o e t) ih
theorem S.r(s:S F H ds vs)(p:ds.all D.pl=true):R F H ds vs []:=by
 induction s with
 | nil=>exact .nil
 | aq _ ih=>exact .aq (ih (by simpa[D.pl]using p))
 | bl _ ih=>exact .bl (ih (by simpa[D.pl]using p))
 | int _ ih=>exact .int (ih (by simpa[D.pl]using p))
 | str _ ih=>exact .str (ih (by simpa[D.pl]using p))
 | shr h x _ ih=>exact .shr h x (ih (by simp[eR]at p;simpa using p.2))
 | own h _ _ i1 i2=>simp[eR]at p
 | tup h _ _ i1 i2 =>
  rw[cH,hJ,eZ]at p
  simpa using R.tup h (i1 p.1) (i2 p.2)
 | obj h l x _ ih=>exact .obj h l x (ih (by simpa[D.pl]using p))
 | fz h x _ ih=>exact .fz h x (ih (by simpa[D.pl]using p))
 | bK h _ ih=>exact .bK h (ih (by simpa[D.pl]using p))
theorem R.pl(r:R F H ds vs []):ds.all D.pl=true:=by
 generalize e:([]:List Addr)=A at r
 induction r with
 | nil=>rfl
 | aq _ ih=>simp[D.pl];simpa using ih e
 | bl _ ih=>simp[D.pl];simpa using ih e
 | int _ ih=>simp[D.pl];simpa using ih e
 | str _ ih=>simp[D.pl];simpa using ih e
 | shr h x _ i1 ih=>simp only[cH,eR,i1 rfl,ih e];rfl
 | own h f _ _ i1 i2=>cases e
 | tup h _ _ i1 i2 =>
  obtain⟨e1,e2⟩:=wt.mp e.symm
  simp only[cH,hJ,i1 e1.symm,i2 e2.symm];rfl
 | obj h l x _ i1 ih=>simp[D.pl];simpa using ih e
 | fz h x _ i1 ih=>simp[D.pl];simpa using ih e
 | bK h _ ih=>simp[D.pl];simpa using ih e
theorem D.Ci:∀{d:D},d.pl=true->d.sh=d
 | .aq,_=>rfl
 | .bl _,_=>rfl
 | .int _,_=>rfl
 | .str _,_=>rfl
 | .obj _ _ _,_=>rfl
 | .fz _,_=>rfl
 | .bK _,_=>rfl
 | .lst o xs,h=>by
  rw[eR,eZ]at h
  have:∀(l:List D),(∀x∈l,x∈xs)->l.all D.pl=true->l.map D.sh=l:=by
   intro l hl hp
   induction l with
   | nil=>rfl
   | cons x l ih =>
    simp only[cH,eZ]at hp
    have hx:x∈xs:=hl x (by simp)
    rw[bR,D.Ci hp.1,ih (λy hy=>hl y (by simp[hy])) hp.2]
  rw[cE,this xs (λ_ h=>h) h.2]
  cases o<;>simp_all
 | .tup xs,h=>by
  rw[hJ]at h
  have:∀(l:List D),(∀x∈l,x∈xs)->l.all D.pl=true->l.map D.sh=l:=by
   intro l hl hp
   induction l with
   | nil=>rfl
   | cons x l ih =>
    simp only[cH,eZ]at hp
    have hx:x∈xs:=hl x (by simp)
    rw[bR,D.Ci hp.1,ih (λy hy=>hl y (by simp[hy])) hp.2]
  rw[iF,this xs (λ_ h=>h) h]
termination_by d=>sizeOf d
theorem q9{l:List D}(h:l.all D.pl=true):l.map D.sh=l:=by
 induction l with
 | nil=>rfl
 | cons x l ih =>
  simp only[cH,eZ]at h
  rw[bR,D.Ci h.1,ih h.2]
theorem S.frozen(e:ag F H)(s:S F H ds vs):R H H (ds.map D.sh) vs []:=by
 induction s with
 | nil=>exact .nil
 | aq _ ih=>exact .aq ih
 | bl _ ih=>exact .bl ih
 | int _ ih=>exact .int ih
 | str _ ih=>exact .str ih
 | shr h x _ ih =>
  rw[bR,cE,q9 x.pl]
  exact .shr (e _ _ h) (x.shared e (ag.refl _)) ih
 | own h _ _ i1 i2=>rw[bR,cE];exact .shr h i1 i2
 | tup h _ _ i1 i2=>rw[bR,iF];simpa using R.tup h i1 i2
 | obj h l x _ ih=>exact .obj h l (x.shared e (ag.refl _)) ih
 | fz h x _ ih=>exact .fz (e _ _ h) (x.shared e (ag.refl _)) ih
 | bK h _ ih=>exact .bK h ih
def bD(F H:Hp)(A:List Addr):Hp:=λa=>if a∈A then H a else F a
theorem ke(e:ag F H):ag F (bD F H A):=⟨λa o h n=>by unfold bD;split;exact e.get _ _ h n;exact h,λa ps h=>by unfold bD;split;exact e.tb _ _ h;exact⟨#[],by rw[h];simp⟩⟩
theorem vn(e:ag F H):ag (bD F H A) H:=⟨λa o h n=>by unfold bD at h;split at h;exact h;exact e.get _ _ h n,λa ps h=>by unfold bD at h;split at h;exact⟨#[],by rw[h];simp⟩;exact e.tb _ _ h⟩
theorem vo{a:Addr}(h:a ∉ A):bD F H A a=F a:=by unfold bD;rw[if_neg h]
theorem cx6{a:Addr}(h:a∈A):bD F H A a=H a:=by unfold bD;rw[if_pos h]
theorem R.bD(e:ag F H)(r:R F H ds vs A):∀A',A ⊆ A'->R (L3.bD F H A') H (ds.map D.sh) vs []:=by
 induction r with
 | nil=>exact λ_ _=>.nil
 | aq _ ih=>exact λA' h=>.aq (ih A' h)
 | bl _ ih=>exact λA' h=>.bl (ih A' h)
 | int _ ih=>exact λA' h=>.int (ih A' h)
 | str _ ih=>exact λA' h=>.str (ih A' h)
 | shr h x _ i1 ih =>
  intro A' hA
  rw[bR,cE,q9 x.pl]
  exact .shr (ke e _ _ h) (x.shared (ke e) (ag.refl _)) (ih A' hA)
 | own h f _ _ i1 i2 =>
  intro A' hA
  rw[bR,cE]
  exact .shr ((cx6 (hA (by simp))).trans h) (i1 A' λa ha=>hA (by simp[ha])) (i2 A' λa ha=>hA (by simp[ha]))
 | tup h _ _ i1 i2 =>
  intro A' hA
  rw[bR,iF]
  simpa using R.tup h (i1 A' λa ha=>hA (by simp[ha])) (i2 A' λa ha=>hA (by simp[ha]))
 | obj h l x _ i1 ih=>exact λA' hA=>.obj h l (x.shared (ke e) (ag.refl _)) (ih A' hA)
 | fz h x _ i1 ih=>exact λA' hA=>.fz (ke e _ _ h) (x.shared (ke e) (ag.refl _)) (ih A' hA)
 | bK h _ ih=>exact λA' hA=>.bK h (ih A' hA)
theorem R.lists(r:R F H ds vs A):∀a∈A,(∃ws,H a=some (.lst ws))/\F a=none:=by
 induction r with
 | nil=>simp
 | aq _ ih=>exact ih
 | bl _ ih=>exact ih
 | int _ ih=>exact ih
 | str _ ih=>exact ih
 | shr h x _ i1 ih=>exact ih
 | own h f _ _ i1 i2 =>
  intro a ha
  rcases cN.mp ha with rfl | ha
  ·exact⟨⟨_,h⟩,f⟩
  ·exact(bV.mp ha).elim (i1 a) (i2 a)
 | tup h _ _ i1 i2=>exact λa ha=>(bV.mp ha).elim (i1 a) (i2 a)
 | obj h l x _ i1 ih=>exact ih
 | fz h x _ i1 ih=>exact ih
 | bK h _ ih=>exact ih
theorem R.xg(r:R F H ds vs A)(hd:ds.all D.fr=true)(e:ag F' F):R F' H ds vs A:=by
 induction r with
 | nil=>exact .nil
 | aq _ ih=>exact .aq (ih (by simpa[D.fr]using hd))
 | bl _ ih=>exact .bl (ih (by simpa[D.fr]using hd))
 | int _ ih=>exact .int (ih (by simpa[D.fr]using hd))
 | str _ ih=>exact .str (ih (by simpa[D.fr]using hd))
 | shr h x _ i1 ih=>simp[eE]at hd
 | own h f _ _ i1 i2 =>
  rw[cH,eE,eZ,iy]at hd
  exact .own h (e.free f) (i1 hd.1) (i2 hd.2)
 | tup h _ _ i1 i2 =>
  rw[cH,kb,eZ]at hd
  exact .tup h (i1 hd.1) (i2 hd.2)
 | obj h l x _ i1 ih=>simp[D.fr]at hd
 | fz h x _ i1 ih=>simp[D.fr]at hd
 | bK h _ ih=>exact .bK h (ih (by simpa[D.fr]using hd))
theorem R.inj(r:R F H ds vs A):∀{B:List Addr},R F H ds vs B->A=B:=by
 induction r with
 | nil=>exact λq=>q.qf.2.symm
 | aq _ ih=>exact λq=>ih q.rv
 | bl _ ih=>exact λq=>ih q.rv
 | int _ ih=>exact λq=>ih q.rv
 | str _ ih=>exact λq=>ih q.rv
 | shr h x _ i1 ih=>exact λq=>ih q.rv
 | own h f _ _ i1 i2 =>
  intro B q
  obtain⟨p,ws,A,B',e,h',f',x',q',rfl⟩:=q.rv
  cases e
  rw[h]at h';cases h'
  rw[i1 x',i2 q']
 | tup h _ _ i1 i2 =>
  intro B q
  obtain⟨p,ws,A,B',e,h',x',q',rfl⟩:=q.rv
  cases e
  rw[h]at h';cases h'
  rw[i1 x',i2 q']
 | obj h l x _ i1 ih=>exact λq=>ih q.rv
 | fz h x _ i1 ih=>exact λq=>ih q.rv
 | bK h _ ih=>exact λq=>ih q.rv
theorem R.perm{ps qs:List (D × V)}(hp:ps.Perm qs):∀{A:List Addr},R F H (ps.map (·.1)) (ps.map (·.2)) A->∃A',R F H (qs.map (·.1)) (qs.map (·.2)) A'/\A.Perm A':=by
 induction hp with
 | nil=>exact λr=>⟨_,r,.refl _⟩
 | cons x _ ih =>
  intro A r
  obtain⟨v,b8,A1,A2,e,rfl,h1,h2⟩:=R.cX r
  obtain⟨rfl,rfl⟩:=rP e
  obtain⟨A',r',p⟩:=ih h2
  exact⟨A1++A',h1.cons r',p.append_left _⟩
 | swap x y l =>
  intro A r
  obtain⟨v,b8,A1,A2,e,rfl,h1,h2⟩:=R.cX r
  obtain⟨rfl,rfl⟩:=rP e
  obtain⟨v2,GJ,B1,B2,e,rfl,h3,h4⟩:=R.cX h2
  obtain⟨rfl,rfl⟩:=rP e
  exact⟨B1++(A1++B2),h3.cons (h1.cons h4),by rw[<-eM,<- eM];exact tM.append_right _⟩
 | trans _ _ i1 i2 =>
  intro A r
  obtain⟨A',r',p⟩:=i1 r
  obtain⟨A2,r2,p2⟩:=i2 r'
  exact⟨A2,r2,p.trans p2⟩
def Full(F H:Hp):Prop:=∀a o,H a=some o->(∀ws,o≠.lst ws)->F a=some o
theorem Full.refl(H:Hp):Full H H:=λ_ _ h _=>h
theorem R.full(hF:Full F H)(hs:ag F H')(r:R F H ds vs A)(e:A=[]):R F H' ds vs []:=by
 induction r with
 | nil=>exact .nil
 | aq _ ih=>exact .aq (ih e)
 | bl _ ih=>exact .bl (ih e)
 | int _ ih=>exact .int (ih e)
 | str _ ih=>exact .str (ih e)
 | shr h x _ i1 ih=>exact .shr h (i1 rfl) (ih e)
 | own h f _ _ i1 i2=>cases e
 | tup h _ _ i1 i2 =>
  obtain⟨e1,e2⟩:=wt.mp e
  exact R.tup (A:=[]) (B:=[]) (hs _ _ (hF _ _ h (by intro ws z;cases z))) (i1 e1) (i2 e2)
 | obj h l x _ i1 ih=>exact .obj (hs _ _ (hF _ _ h (by intro ws z;cases z))) l (i1 rfl) (ih e)
 | fz h x _ i1 ih=>exact .fz h (i1 rfl) (ih e)
 | bK h _ ih=>exact .bK (h.mono λa o e n t=>hs.get a o (hF a o e n) t) (ih e)
open Classical in
def snap(F H:Hp):Hp:=λa=>if(∃o,H a=some o/\∀ws,o≠.lst ws)then H a else F a
theorem xh:Full (snap F H) H:=λa o h n=>by unfold snap;rw[if_pos ⟨o,h,n⟩];exact h
theorem vp(e:ag F H):ag F (snap F H):=⟨λa o h n=>by
 unfold snap;split
 ·exact e.get a o h n
 ·exact h,λa ps h=>by
 unfold snap;split
 ·exact e.tb a ps h
 ·exact⟨#[],by rw[h];simp⟩⟩
theorem cb7(e:ag F H):ag (snap F H) H:=⟨λa o h n=>by
 unfold snap at h;split at h
 ·exact h
 ·exact e.get a o h n,λa ps h=>by
 unfold snap at h;split at h
 ·exact⟨#[],by rw[h];simp⟩
 ·exact e.tb a ps h⟩
theorem b11(e:ag F H){a:Addr}{ws:List V}(h:snap F H a=some (.lst ws)):F a=some (.lst ws):=by
 unfold snap at h;split at h
 ·rename_i z
  obtain⟨o,h1,h2⟩:=z
  rw[h]at h1;exact absurd (de h1).symm (h2 ws)
 ·exact h
theorem bX7{a:Addr}{ws:List V}(h:H a=some (.lst ws))(n:F a=none):snap F H a=none:=by
 unfold snap;split
 ·rename_i z
  obtain⟨o,h1,h2⟩:=z
  rw[h]at h1;exact absurd (de h1).symm (h2 ws)
 ·exact n
end
abbrev Dl:=List (Option D)
inductive RS(F H:Hp):Dl->St->List Addr->Prop
 | nil:RS F H [] [] []
 | aq {δ σ o C}:RS F H δ σ C->RS F H (none::δ) (o::σ) C
 | dO {d v A δ σ C}:R F H [d] [v] A->RS F H δ σ C->RS F H (some d::δ) (some v::σ) (A++C)
theorem i5{A B:List Addr}:(A++B).Nodup↔A.Nodup/\B.Nodup/\∀a∈A,a ∉ B:=by
 rw[Na]
 constructor
 ·rintro⟨h1,h2,h3⟩;exact⟨h1,h2,λa ha hb=>h3 a ha a hb rfl⟩
 ·rintro⟨h1,h2,h3⟩;exact⟨h1,h2,λa ha b hb e=>h3 a ha (e ▸ hb)⟩
section
variable{F F' H H':Hp}{d:D}{v:V}{δ:Dl}{σ:St}{A C:List Addr}{i:Nat}
theorem RS.length(r:RS F H δ σ C):δ.length=σ.length:=by induction r<;>simp_all
theorem RS.pick:∀{δ:Dl} {σ:St} {C:List Addr} {i:Nat},RS F H δ σ C->δ[i]?=some (some d)->∃v A C',σ[i]?=some (some v)/\R F H [d] [v] A/\RS F H (δ.set i none) σ C'/\C.Perm (A++C')
 | _,_,_,_,.nil,e=>by simp at e
 | _,_,_,i,.aq r,e=>by
  cases i with
  | zero=>simp at e
  | succ i =>
   obtain⟨v,A,C',e1,h1,h2,p⟩:=RS.pick r (by simpa using e)
   exact⟨v,A,C',by simpa using e1,h1,.aq h2,p⟩
 | _,_,_,i,.dO (A:=A0) (C:=C0) h r,e=>by
  cases i with
  | zero =>
   simp at e;subst e
   exact⟨_,A0,C0,rfl,h,.aq r,.refl _⟩
  | succ i =>
   obtain⟨v,A,C',e1,h1,h2,p⟩:=RS.pick r (by simpa using e)
   refine⟨v,A,A0++C',by simpa using e1,h1,.dO h h2,(p.append_left A0).trans ?_⟩
   rw[<-eM,<- eM]
   exact tM.append_right _
theorem RS.fill:∀{δ:Dl} {σ:St} {C:List Addr} {i:Nat},RS F H δ σ C->δ[i]?=some none->σ[i]?=some (some v)->R F H [d] [v] A->∃C',RS F H (δ.set i (some d)) σ C'/\C'.Perm (A++C)
 | _,_,_,_,.nil,e,_,_=>by simp at e
 | _,_,_,i,.aq r,e,e2,h=>by
  cases i with
  | zero=>simp at e2;subst e2;exact⟨_,.dO h r,.refl _⟩
  | succ i =>
   obtain⟨C',h1,p⟩:=RS.fill r (by simpa using e) (by simpa using e2) h
   exact⟨C',.aq h1,p⟩
 | _,_,_,i,.dO (A:=A0) (C:=C0) h0 r,e,e2,h=>by
  cases i with
  | zero=>simp at e
  | succ i =>
   obtain⟨C',h1,p⟩:=RS.fill r (by simpa using e) (by simpa using e2) h
   refine⟨A0++C',.dO h0 h1,(p.append_left A0).trans ?_⟩
   rw[<-eM,<- eM]
   exact tM.append_right _
theorem RS.drop:∀{δ:Dl} {σ:St} {C:List Addr} (i:Nat),RS F H δ σ C->∃C',RS F H (δ.set i none) σ C'/\C'.Sublist C
 | _,_,_,_,.nil=>⟨_,.nil,.refl _⟩
 | _,_,_,i,.aq r=>by
  cases i with
  | zero=>exact⟨_,.aq r,.refl _⟩
  | succ i=>obtain⟨C',h,s⟩:=RS.drop i r;exact⟨C',.aq h,s⟩
 | _,_,_,i,.dO (A:=A0) h0 r=>by
  cases i with
  | zero=>exact⟨_,.aq r,List.sublist_append_right _ _⟩
  | succ i=>obtain⟨C',h,s⟩:=RS.drop i r;exact⟨_,.dO h0 h,(Nb A0).append s⟩
theorem RS.zi:∀{δ:Dl} {σ:St} {C:List Addr} {i:Nat} (o:Option V),RS F H δ σ C->(δ[i]?=some none\/δ[i]?=none)->RS F H δ (σ.set i o) C
 | _,_,_,_,_,.nil,_=>.nil
 | _,_,_,i,_,.aq r,e=>by
  cases i with
  | zero=>exact .aq r
  | succ i=>exact .aq (RS.zi _ r (by simpa using e))
 | _,_,_,i,_,.dO h0 r,e=>by
  cases i with
  | zero=>simp at e
  | succ i=>exact .dO h0 (RS.zi _ r (by simpa using e))
theorem RS.keep{W:List Addr}(hf:ag F F')(hb:gL W H H')(hl:iG W H)(r:RS F H δ σ C)(hn:∀a∈C,F' a=none)(hd:∀a∈C,a ∉ W):RS F' H' δ σ C:=by
 induction r with
 | nil=>exact .nil
 | aq _ ih=>exact .aq (ih hn hd)
 | dO h _ ih=>exact .dO (h.keep hf hb hl (λa ha=>hn a (by simp[ha])) λa ha=>hd a (by simp[ha])) (ih (λa ha=>hn a (by simp[ha])) λa ha=>hd a (by simp[ha]))
theorem RS.lists(r:RS F H δ σ C):∀a∈C,(∃ws,H a=some (.lst ws))/\F a=none:=by
 induction r with
 | nil=>simp
 | aq _ ih=>exact ih
 | dO h _ ih=>exact λa ha=>(bV.mp ha).elim (h.lists a) (ih a)
end
structure Bs where
 H0:Hp
 F0:Hp
inductive c29(H0 F H:Hp)(σ:St)(δ:Dl)(ts:List (D × V)):Prop
 | mk (A C) (r:R F H (ts.map (·.1)) (ts.map (·.2)) A) (s:RS F H δ σ C) (nd:(A++C).Nodup) (fr:∀a∈A++C,H0 a=none)
structure ak(B:Bs)(F H:Hp)(σ:St)(δ:Dl)(ts:List (D × V)):Prop where
 ext:ag F H
 b1:ag B.H0 H
 b2:ag B.F0 F
 b3:∀a ws,F a=some (.lst ws)->B.F0 a=some (.lst ws)\/B.H0 a=none
 own:c29 B.H0 F H σ δ ts
section
variable{B:Bs}{F F' H H':Hp}{d:D}{v:V}{δ:Dl}{σ:St}{ts ps:List (D × V)}{A C W:List Addr}{i:Nat}{p:Addr}{xs ys:List D}{vs ws:List V}
theorem ak.look(c:ak B F H σ δ ts)(e:δ[i]?=some (some d)):∃v,σ[i]?=some (some v)/\S F H [d] [v]:=by
 obtain⟨A,C,r,s,nd,fr⟩:=c.own
 obtain⟨v,A',C',e1,h1,h2,p⟩:=s.pick e
 exact⟨v,e1,h1.s⟩
theorem ak.len(c:ak B F H σ δ ts):δ.length=σ.length:=let⟨_,_,_,s,_,_⟩:=c.own;s.length
theorem ak.grow(c:ak B F H σ δ ts)(h:ag H H'):ak B F H' σ δ ts:=by
 obtain⟨A,C,r,s,nd,fr⟩:=c.own
 exact⟨c.ext.trans h,c.b1.trans h,c.b2,c.b3,A,C,r.grow (ag.refl _) h λa ha=>(r.lists a ha).2,s.keep (ag.refl _) (gL.same h) iG.nil (λa ha=>(s.lists a ha).2) (by simp),nd,fr⟩
theorem ak.pop(c:ak B F H σ δ ((d,v)::ts)):ak B F H σ δ ts:=by
 obtain⟨A,C,r,s,nd,fr⟩:=c.own
 obtain⟨w,b8,A1,A2,e,rfl,h1,h2⟩:=R.cX r
 obtain⟨rfl,rfl⟩:=rP e
 refine⟨c.ext,c.b1,c.b2,c.b3,A2,C,h2,s,?_,λa ha=>fr a (by simp at ha ⊢;exact .inr ha)⟩
 rw[eM]at nd
 exact(i5.mp nd).2.1
theorem ak.top(c:ak B F H σ δ ((d,v)::ts)):S F H [d] [v]:=by
 obtain⟨A,C,r,s,nd,fr⟩:=c.own
 obtain⟨w,b8,A1,A2,e,rfl,h1,h2⟩:=R.cX r
 obtain⟨rfl,rfl⟩:=rP e
 exact h1.s
theorem ak.pushS(c:ak B F H σ δ ts)(s:S F H [d] [v])(pl:d.pl=true):ak B F H σ δ ((d,v)::ts):=by
 obtain⟨A,C,r,q,nd,fr⟩:=c.own
 exact⟨c.ext,c.b1,c.b2,c.b3,A,C,(s.r (by simp[pl])).cons r,q,nd,fr⟩
theorem ag.upd{o:HO}(h:H p=none):ag H (upd H p o):=.of λb u e=>by rw[bc (e7 e h)];exact e
theorem ak.pack(c:ak B F H σ δ (ps++ts))(hs:ag H H')(k:∀A1,R F H' (ps.map (·.1)) (ps.map (·.2)) A1->A1.Nodup->∃A',R F H' [d] [v] A'/\A'.Nodup/\∀a∈A',a∈A1\/H a=none):ak B F H' σ δ ((d,v)::ts):=by
 obtain⟨A,C,r,s,nd,fr⟩:=c.own
 rw[dw,dw]at r
 obtain⟨v1,v2,A1,A2,e,rfl,h1,h2⟩:=R.split r
 have l1:(ps.map (·.2)).length=v1.length:=by rw[<-h1.length];simp
 obtain⟨rfl,rfl⟩:=E1 e l1
 rw[eM]at nd fr
 obtain⟨n1,n2,n3⟩:=i5.mp nd
 have g1:=h1.grow (ag.refl F) hs λa ha=>(h1.lists a ha).2
 have g2:=h2.grow (ag.refl F) hs λa ha=>(h2.lists a ha).2
 have gs:=s.keep (ag.refl F) (gL.same hs) iG.nil (λa ha=>(s.lists a ha).2) (by simp)
 obtain⟨A',r',GK,sub⟩:=k A1 g1 n1
 refine⟨c.ext.trans hs,c.b1.trans hs,c.b2,c.b3,A'++A2,C,r'.cons g2,gs,?_,?_⟩
 ·rw[eM]
  refine i5.mpr ⟨GK,n2,λa ha hb=>?_⟩
  rcases sub a ha with z | z
  ·exact n3 a z hb
  ·rcases bV.mp hb with y | y
   ·obtain⟨⟨_,q⟩,_⟩:=h2.lists a y;rw[z]at q;cases q
   ·obtain⟨⟨_,q⟩,_⟩:=s.lists a y;rw[z]at q;cases q
 ·intro a ha
  rw[eM]at ha
  rcases bV.mp ha with y | y
  ·rcases sub a y with z | z
   ·exact fr a (by simp[z])
   ·exact c.b1.free z
  ·exact fr a (dv _ y)
theorem ak.GL(c:ak B F H σ δ ts)(hs:ag H H')(r:R F H' [d] [v] A)(nd:A.Nodup)(fr:∀a∈A,H a=none):ak B F H' σ δ ((d,v)::ts) :=
 ak.pack (ps:=[]) c hs λ_ _ _=>⟨A,r,nd,λa ha=>.inr (fr a ha)⟩
theorem ak.rh(c:ak B F H σ δ ts)(hp:H p=none)(s:S F H xs vs)(pl:xs.all D.pl=true):ak B F (upd H p (.lst vs)) σ δ ((.lst true xs,.ref p)::ts) :=
 c.GL (ag.upd hp) (A:=[p]) (by simpa using R.own bS (c.ext.free hp) ((s.r pl).shared (ag.refl _) (ag.upd hp)) .nil) (by simp) (by simp[hp])
theorem ak.c30(c:ak B F H σ δ (ps++ts))(hp:H p=none):ak B F (upd H p (.lst (ps.map (·.2)))) σ δ ((.lst true (ps.map (·.1)),.ref p)::ts):=by
 refine c.pack (ag.upd hp) λA1 r nd=>⟨p::A1,by simpa using R.own bS (c.ext.free hp) r .nil,nS.mpr ⟨λh=>?_,nd⟩,λa ha=>?_⟩
 ·obtain⟨A,C,r0,_,_,_⟩:=c.own
  rw[dw,dw]at r0
  obtain⟨v1,v2,B1,B2,e,rfl,h1,h2⟩:=R.split r0
  have l1:(ps.map (·.2)).length=v1.length:=by rw[<-h1.length];simp
  obtain⟨rfl,rfl⟩:=E1 e l1
  have g1:=h1.grow (ag.refl F) (ag.upd (o:=.lst (ps.map (·.2))) hp) λa ha=>(h1.lists a ha).2
  have:A1=B1:=R.inj r g1
  subst this
  obtain⟨⟨_,q⟩,_⟩:=h1.lists p h
  rw[hp]at q;cases q
 ·rcases cN.mp ha with rfl | h
  ·exact .inr hp
  ·exact .inl h
theorem ak.c31(c:ak B F H σ δ (ps++ts))(hp:H p=none):ak B F (upd H p (.tup (ps.map (·.2)))) σ δ ((.tup (ps.map (·.1)),.ref p)::ts) :=
 c.pack (ag.upd hp) λA1 r nd=>⟨A1,by simpa using R.tup (F:=F) bS r .nil,nd,λa ha=>.inl ha⟩
theorem ak.perm(c:ak B F H σ δ ps)(h:ps.Perm ts):ak B F H σ δ ts:=by
 obtain⟨A,C,r,s,nd,fr⟩:=c.own
 obtain⟨A',r',p⟩:=r.perm h
 have pp:=p.append_right C
 exact⟨c.ext,c.b1,c.b2,c.b3,A',C,r',s,pp.nodup_iff.mp nd,λa ha=>fr a (pp.mem_iff.mpr ha)⟩
theorem ak.move(c:ak B F H σ δ ts)(e:δ[i]?=some (some d)):∃v,σ[i]?=some (some v)/\ak B F H σ (δ.set i none) ((d,v)::ts):=by
 obtain⟨A,C,r,s,nd,fr⟩:=c.own
 obtain⟨v,A',C',e1,h1,h2,p⟩:=s.pick e
 have pp:(A++C).Perm ((A'++A)++C'):=by
  refine(p.append_left A).trans ?_
  rw[<-eM]
  exact tM.append_right _
 exact⟨v,e1,c.ext,c.b1,c.b2,c.b3,A'++A,C',h1.cons r,h2,pp.nodup_iff.mp nd,λa ha=>fr a (pp.mem_iff.mpr ha)⟩
theorem ak.forget(c:ak B F H σ δ ts)(i:Nat):ak B F H σ (δ.set i none) ts:=by
 obtain⟨A,C,r,s,nd,fr⟩:=c.own
 obtain⟨C',h,sb⟩:=s.drop i
 exact⟨c.ext,c.b1,c.b2,c.b3,A,C',r,h,nd.sublist ((Nb A).append sb),λa ha=>fr a (((Nb A).append sb).subset ha)⟩
theorem ak.fill(c:ak B F H σ δ ((d,v)::ts))(e:δ[i]?=some none)(e2:σ[i]?=some (some v)):ak B F H σ (δ.set i (some d)) ts:=by
 obtain⟨A,C,r,s,nd,fr⟩:=c.own
 obtain⟨w,b8,A1,A2,e',rfl,h1,h2⟩:=R.cX r
 obtain⟨rfl,rfl⟩:=rP e'
 obtain⟨C',s',p⟩:=s.fill e e2 h1
 have pp:((A1++A2)++C).Perm (A2++C'):=by
  refine((tM (l₁:=A1) (l₂:=A2)).append_right C).trans ?_
  rw[eM]
  exact(p.symm).append_left A2
 exact⟨c.ext,c.b1,c.b2,c.b3,A2,C',h2,s',pp.nodup_iff.mp nd,λa ha=>fr a (pp.mem_iff.mpr ha)⟩
theorem ak.zi(c:ak B F H σ δ ts)(o:Option V)(e:δ[i]?=some none\/δ[i]?=none):ak B F H (σ.set i o) δ ts:=by
 obtain⟨A,C,r,s,nd,fr⟩:=c.own
 exact⟨c.ext,c.b1,c.b2,c.b3,A,C,r,s.zi o e,nd,fr⟩
theorem ak.store(c:ak B F H σ δ ((d,v)::ts))(i:Nat):ak B F H (σ.set i (some v)) (δ.set i (some d)) ts:=by
 by_cases hi:i<δ.length
 ·have c1:=c.forget i
  have hs:i<σ.length:=by rw[<-c.len];exact hi
  have e:(δ.set i none)[i]?=some none:=by simp[hi]
  have c2:=(c1.zi (some v) (.inl e)).fill (i:=i) e (by simp[hs])
  rwa [Nc]at c2
 ·have hs:¬ i<σ.length:=by rw[<-c.len];exact hi
  rw[X4 (by omega),X4 (by omega)]
  exact c.pop
theorem ak.mut(c:ak B F H σ δ (ps++ts))(e:δ[i]?=some (some (.lst true xs)))(e2:σ[i]?=some (some (.ref p)))
  (k:∀ws A1 A2,H p=some (.lst ws)->R F H xs ws A1->R F H (ps.map (·.1)) (ps.map (·.2)) A2->(A1++A2).Nodup->∃A',R F H ys vs A'/\A'.Nodup/\∀a∈A',a∈A1++A2) :
  ak B F (upd H p (.lst vs)) σ (δ.set i (some (.lst true ys))) ts:=by
 have hi:i<δ.length:=(kY.mp e).1
 obtain⟨v,e3,c1⟩:=c.move e
 rw[e2]at e3;cases e3
 obtain⟨A,C,r,s,nd,fr⟩:=c1.own
 have r':R F H (([.lst true xs]++ps.map (·.1))++ts.map (·.1)) ((.ref p::ps.map (·.2))++ts.map (·.2)) A:=by simpa using r
 obtain⟨v1,v2,A1,A2,e4,rfl,h1,h2⟩:=R.split r'
 have l1:(V.ref p::ps.map (·.2)).length=v1.length:=by rw[<-h1.length];simp
 obtain⟨rfl,rfl⟩:=E1 e4 l1
 obtain⟨p',xi,B1,B2,ep,hH,hF,hx,hr,rfl⟩:=h1.rv
 cases ep
 ·skip
  rw[eM]at nd fr
  obtain⟨n1,n2,n3⟩:=i5.mp nd
  obtain⟨m1,m2⟩:=nS.mp n1
  obtain⟨A',ra,nda,sub⟩:=k xi B1 B2 hH hx hr m2
  have pA:p ∉ A':=λz=>m1 (sub _ z)
  have pR:p ∉ A2++C:=λz=>n3 p (by simp) z
  have but:gL [p] H (upd H p (.lst vs)):=⟨λa o q z _=>by rw[bc (by simpa using z)];exact q⟩
  have hl:iG [p] H:=λa ha=>by rw[dh.mp ha];exact⟨_,hH⟩
  have g1:=ra.keep (ag.refl F) but hl (λa ha=>(ra.lists a ha).2) λa ha z=>pA (by rw[<-dh.mp z];exact ha)
  have g2:=h2.keep (ag.refl F) but hl (λa ha=>(h2.lists a ha).2) λa ha z=>pR (by rw[<-dh.mp z];exact fI _ ha)
  have gs:=s.keep (ag.refl F) but hl (λa ha=>(s.lists a ha).2) λa ha z=>pR (by rw[<-dh.mp z];exact dv _ ha)
  have fp:B.H0 p=none:=fr p (by simp)
  have b1:ag B.H0 (upd H p (.lst vs)):=⟨λa o q n=>by
   rw[bc (λz=>by rw[z,fp]at q;cases q)]
   exact c1.b1.get a o q n,λa ps q=>by
   rw[bc (λz=>by rw[z,fp]at q;cases q)]
   exact c1.b1.tb a ps q⟩
  have ext:ag F (upd H p (.lst vs)):=⟨λa o q n=>by
   rw[bc (λz=>by rw[z,hF]at q;cases q)]
   exact c1.ext.get a o q n,λa ps q=>by
   rw[bc (λz=>by rw[z,hF]at q;cases q)]
   exact c1.ext.tb a ps q⟩
  have c2:ak B F (upd H p (.lst vs)) σ (δ.set i none) ((.lst true ys,.ref p)::ts):=by
   refine⟨ext,b1,c1.b2,c1.b3,(p::A')++A2,C,R.cons (by simpa using R.own bS hF g1 .nil) g2,gs,?_,?_⟩
   ·rw[eM]
    refine i5.mpr ⟨nS.mpr ⟨pA,nda⟩,n2,λa ha hb=>?_⟩
    rcases cN.mp ha with rfl | ha
    ·exact pR hb
    ·exact n3 a (fH _ (sub a ha)) hb
   ·intro a ha
    rw[eM]at ha
    rcases bV.mp ha with z | z
    ·rcases cN.mp z with rfl | z
     ·exact fp
     ·exact fr a (fI _ (fH _ (sub a z)))
    ·exact fr a (dv _ z)
  have c3:=c2.fill (i:=i) (by simp[hi]) e2
  rwa [Nc]at c3
theorem ak.GN(c:ak B F H σ δ ((d,v)::ts)):∃F',ag F F'/\ak B F' H σ δ ((d.sh,v)::ts):=by
 obtain⟨A,C,r,s,nd,fr⟩:=c.own
 obtain⟨w,b8,A1,A2,e',rfl,h1,h2⟩:=R.cX r
 obtain⟨rfl,rfl⟩:=rP e'
 rw[eM]at nd fr
 obtain⟨n1,n2,n3⟩:=i5.mp nd
 have out:∀a∈A2++C,bD F H A1 a=F a:=λa ha=>vo λz=>n3 a z ha
 have b3:∀a o,bD F H A1 a=some (.lst o)->B.F0 a=some (.lst o)\/B.H0 a=none:=λa o q=>by
  by_cases z:a∈A1
  ·exact .inr (fr a (fI _ z))
  ·rw[vo z]at q;exact c.b3 a o q
 refine⟨bD F H A1,ke c.ext,vn c.ext,c.b1,c.b2.trans (ke c.ext),b3,A2,C,?_,?_,n2,λa ha=>fr a (dv _ ha)⟩
 ·have g1:=h1.bD c.ext A1 (λ_ h=>h)
  exact R.cons (A:=[]) g1 (h2.keep (ke c.ext) (gL.same (ag.refl H)) iG.nil (λa ha=>by rw[out a (fI _ ha)];exact(h2.lists a ha).2) (by simp))
 ·exact s.keep (ke c.ext) (gL.same (ag.refl H)) iG.nil (λa ha=>by rw[out a (dv _ ha)];exact(s.lists a ha).2) (by simp)
theorem ak.freeze(c:ak B F H σ δ ts)(e:δ[i]?=some (some d)):∃F',ag F F'/\ak B F' H σ (δ.set i (some d.sh)) ts:=by
 have hi:i<δ.length:=(kY.mp e).1
 obtain⟨v,e2,c1⟩:=c.move e
 obtain⟨F',s,c2⟩:=c1.GN
 refine⟨F',s,?_⟩
 have c3:=c2.fill (i:=i) (by simp[hi]) e2
 rwa [Nc]at c3
theorem ak.rebase(c:ak B F H σ δ ts):ak ⟨B.H0,F⟩ F H σ δ ts:=⟨c.ext,c.b1,ag.refl _,λ_ _ q=>.inl q,c.own⟩
theorem ak.c33{F1:Hp}(c:ak ⟨B.H0,F1⟩ F H σ δ ts)(h:ag B.F0 F1)(h3:∀a ws,F1 a=some (.lst ws)->B.F0 a=some (.lst ws)\/B.H0 a=none):ak B F H σ δ ts :=
 ⟨c.ext,c.b1,h.trans c.b2,λa o q=>(c.b3 a o q).elim (h3 a o) .inr,c.own⟩
theorem ak.call(c:ak B F H σ δ ts)(hs:ag H H')(hf:ag F F')(he:ag F' H')(h3:∀a ws,F' a=some (.lst ws)->F a=some (.lst ws)\/H a=none)(r:R F' H' [d] [v] A)(nd:A.Nodup)(fr:∀a∈A,H a=none) :
  ak B F' H' σ δ ((d,v)::ts):=by
 obtain⟨A0,C,r0,s,nd0,fr0⟩:=c.own
 have no:∀a,(∃ws,H a=some (.lst ws))/\F a=none->F' a=none:=λa zz=>by
  obtain⟨⟨ws,e⟩,n⟩:=zz
  cases q:F' a with
  | none=>rfl
  | some o =>
   have q2:H' a=some o:=by
    cases n:ka o with
    | true=>exact he.get a o q n
    | false =>
     obtain⟨ps,rfl⟩:=GG n
     obtain⟨m,z⟩:=he.tb a ps q
     rw[hs a _ e]at z
     cases z
   rw[hs a _ e]at q2
   cases q2
   rcases h3 a ws q with z | z
   ·rw[n]at z;cases z
   ·rw[e]at z;cases z
 refine⟨he,c.b1.trans hs,c.b2.trans hf,λa o q=>(h3 a o q).elim (c.b3 a o) λz=>.inr (c.b1.free z),A++A0,C,R.cons r (r0.grow hf hs λa ha=>no a (r0.lists a ha)),
  s.keep hf (gL.same hs) iG.nil (λa ha=>no a (s.lists a ha)) (by simp),?_,?_⟩
 ·rw[eM]
  refine i5.mpr ⟨nd,nd0,λa ha hb=>?_⟩
  have z:=fr a ha
  rcases bV.mp hb with y | y
  ·obtain⟨⟨_,q⟩,_⟩:=r0.lists a y;rw[z]at q;cases q
  ·obtain⟨⟨_,q⟩,_⟩:=s.lists a y;rw[z]at q;cases q
 ·intro a ha
  rw[eM]at ha
  rcases bV.mp ha with y | y
  ·exact c.b1.free (fr a y)
  ·exact fr0 a y
theorem ak.inS(c:ak B F H σ δ ((d,v)::ts)):ak B F H (some v::σ) (some d::δ) ts:=by
 obtain⟨A,C,r,s,nd,fr⟩:=c.own
 obtain⟨w,b8,A1,A2,e',rfl,h1,h2⟩:=R.cX r
 obtain⟨rfl,rfl⟩:=rP e'
 have pp:((A1++A2)++C).Perm (A2++(A1++C)):=by
  rw[<-eM];exact tM.append_right C
 exact⟨c.ext,c.b1,c.b2,c.b3,A2,A1++C,h2,.dO h1 s,pp.nodup_iff.mp nd,λa ha=>fr a (pp.mem_iff.mpr ha)⟩
theorem ak.c37{w:V}(c:ak B F H (some w::σ) (some d::δ) ts):ak B F H σ δ ((d,w)::ts):=by
 obtain⟨A,C,r,s,nd,fr⟩:=c.own
 cases s with
 | @dO _ _ A1 _ _ C1 h1 s =>
  have pp:(A++(A1++C1)).Perm ((A1++A)++C1):=by
   rw[<-eM];exact tM.append_right C1
  exact⟨c.ext,c.b1,c.b2,c.b3,A1++A,C1,R.cons h1 r,s,pp.nodup_iff.mp nd,λa ha=>fr a (pp.mem_iff.mpr ha)⟩
theorem ak.c38(c:ak B F H σ δ ((d,v)::(.lst true xs,.ref p)::ts))(hp:H p=some (.lst ws)):ak B F (upd H p (.lst (ws++[v]))) σ δ ((.lst true (xs++[d]),.ref p)::ts):=by
 have c1:=(c.perm (List.Perm.swap _ _ _)).inS
 refine(ak.mut (ps:=[(d,v)]) (i:=0) (ys:=xs++[d]) (vs:=ws++[v]) c1 rfl rfl λgz A1 A2 h r1 r2 nd=>?_).c37
 rw[hp]at h;cases h
 exact⟨A1++A2,r1.append r2,nd,λa ha=>ha⟩
theorem ak.app(c:ak B F H σ δ ((d,v)::ts))(e:δ[i]?=some (some (.lst true xs)))(e2:σ[i]?=some (some (.ref p)))(hp:H p=some (.lst ws)) :
  ak B F (upd H p (.lst (ws++[v]))) σ (δ.set i (some (.lst true (xs++[d])))) ts :=
 ak.mut (ps:=[(d,v)]) c e e2 λgz A1 A2 h r1 r2 nd=>by
  rw[hp]at h;cases h
  exact⟨A1++A2,r1.append r2,nd,λa ha=>ha⟩
theorem R.Pc:∀{xs:List D} {ws:List V} {A1 A2:List Addr} (j:Nat),R F H xs ws A1->R F H [d] [v] A2->(A1++A2).Nodup->∃A',R F H (xs.set j d) (ws.set j v) A'/\A'.Nodup/\∀a∈A',a∈A1++A2
 | [],_,A1,A2,j,r,q,nd=>by cases r;exact⟨[],.nil,by simp,by simp⟩
 | x::xs,_,A1,A2,j,r,q,nd=>by
  obtain⟨w,gz,B1,B2,rfl,rfl,h1,h2⟩:=r.cX
  rw[eM]at nd
  obtain⟨n1,n2,n3⟩:=i5.mp nd
  cases j with
  | zero =>
   refine⟨A2++B2,q.cons h2,(tM (l₁:=B2) (l₂:=A2)).nodup_iff.mp n2,λa ha=>?_⟩
   simp only[bV]at ha ⊢
   rcases ha with z | z
   ·exact .inr z
   ·exact .inl (.inr z)
  | succ j =>
   obtain⟨A',r',GK,sub⟩:=R.Pc j h2 q n2
   refine⟨B1++A',h1.cons r',i5.mpr ⟨n1,GK,λa ha hb=>n3 a ha (sub a hb)⟩,λa ha=>?_⟩
   rcases bV.mp ha with z | z
   ·simp[z]
   ·have:=sub a z
    simp only[bV]at this ⊢
    rcases this with z | z
    ·exact .inl (.inr z)
    ·exact .inr z
theorem ak.Pd(c:ak B F H σ δ ((d,v)::ts))(e:δ[i]?=some (some (.lst true xs)))(e2:σ[i]?=some (some (.ref p)))(hp:H p=some (.lst ws))(j:Nat) :
  ak B F (upd H p (.lst (ws.set j v))) σ (δ.set i (some (.lst true (xs.set j d)))) ts :=
 ak.mut (ps:=[(d,v)]) c e e2 λgz A1 A2 h r1 r2 nd=>by
  rw[hp]at h;cases h
  exact r1.Pc j r2 nd
theorem ak.ownAt(c:ak B F H σ δ ts)(e:δ[i]?=some (some (.lst true xs))):∃p ws,σ[i]?=some (some (.ref p))/\H p=some (.lst ws)/\xs.length=ws.length:=by
 obtain⟨v,e1,s⟩:=c.look e
 cases s with
 | own h x _=>exact⟨_,_,e1,h,x.length⟩
theorem RS.start{ds:List D}{vs:List V}(r:R F H ds vs [])(n:Nat):RS F H (ds.map some++aW n none) (vs.map some++aW n none) []:=by
 have z:∀n,RS F H (aW n none) (aW n none) []:=λn=>by
  induction n with
  | zero=>exact .nil
  | succ n ih=>exact .aq ih
 have:∀(ds:List D) (vs:List V),R F H ds vs []->RS F H (ds.map some++aW n none) (vs.map some++aW n none) []:=by
  intro ds
  induction ds with
  | nil=>intro vs r;cases r;exact z n
  | cons d ds ih =>
   intro vs r
   obtain⟨v,b8,A1,A2,rfl,e,h1,h2⟩:=r.cX
   obtain⟨rfl,rfl⟩:=wt.mp e.symm
   exact .dO (A:=[]) h1 (ih _ h2)
 exact this ds vs r
theorem ak.start{ds:List D}{vs:List V}(e:ag F H)(r:R F H ds vs [])(n:Nat):ak ⟨H,F⟩ F H (vs.map some++aW n none) (ds.map some++aW n none) [] :=
 ⟨e,ag.refl _,ag.refl _,λ_ _ q=>.inl q,[],[],.nil,RS.start r n,by simp,by simp⟩
theorem ak.snap(c:ak B F H σ δ ts):ak B (L3.snap F H) H σ δ ts:=by
 obtain⟨A,C,r,s,nd,fr⟩:=c.own
 have no:∀a,(∃ws,H a=some (.lst ws))/\F a=none->L3.snap F H a=none:=λa ⟨⟨ws,e⟩,n⟩=>bX7 e n
 exact⟨cb7 c.ext,c.b1,c.b2.trans (vp c.ext),λa ws q=>c.b3 a ws (b11 c.ext q),A,C,r.grow (vp c.ext) (ag.refl _) λa ha=>no a (r.lists a ha),
  s.keep (vp c.ext) (gL.same (ag.refl _)) iG.nil (λa ha=>no a (s.lists a ha)) (by simp),nd,fr⟩
end
end L3
namespace L3
open PySem L2 PySem.Spec PyProof.Rows
abbrev aI:=Dl->(D->Dl->Prop)->Prop
abbrev gn:=Dl->(Bool->Dl->Prop)->Prop
abbrev cJ:=Dl->(List D->Dl->Prop)->Prop
structure vq where
 nx:Dl->Prop
 rt:D->Prop
 bk:Dl->Prop:=λ_=>False
 ct:Dl->Prop:=λ_=>False
 xc:Addr->Dl->Prop:=λ_ _=>False
 xr:Addr->Dl->Prop:=λ_ _=>False
abbrev c9:=vq->Dl->Prop
inductive lE(t:aI)(σ:L2.St)(H:Hp)(Q:VK):Prop
 | mk (B F δ ts Qd) (c:ak B F H σ δ ts) (q:t δ Qd) (k:∀d ai v F' H',Qd d ai->ag F F'->ag H H'->ak B F' H' σ ai ((d,v)::ts)->Q v H')
inductive lB(t:aI)(σ:L2.St)(H:Hp)(Q:VK):Prop
 | mk (B F δ ts Qd) (c:ak B F H σ δ ts) (q:t δ Qd) (k:∀d ai v F' H',Qd d ai->ag F F'->ag H H'->ak B F' H' σ ai ts->S F' H' [d] [v]->Q v H')
inductive lT(t:gn)(σ:L2.St)(H:Hp)(Q:Bool->Hp->Prop):Prop
 | mk (B F δ ts Qd) (c:ak B F H σ δ ts) (q:t δ Qd) (k:∀b ai F' H',Qd b ai->ag F F'->ag H H'->ak B F' H' σ ai ts->Q b H')
inductive lA(t:cJ)(σ:L2.St)(H:Hp)(Q:List V->Hp->Prop):Prop
 | mk (B F δ ts Qd) (c:ak B F H σ δ ts) (q:t δ Qd) (k:∀ds ai vs F' H',Qd ds ai->ag F F'->ag H H'->ak B F' H' σ ai ts->S F' H' ds vs->Q vs H')
inductive lO(t:cJ)(σ:L2.St)(H:Hp)(Q:List V->Hp->Prop):Prop
 | mk (B F δ ts Qd) (c:ak B F H σ δ ts) (q:t δ Qd) (k:∀(ps:List (D × V)) ai F' H',Qd (ps.map (·.1)) ai->ag F F'->ag H H'->ak B F' H' σ ai (ps++ts)->Q (ps.map (·.2)) H')
def XL(X:Cx)(B:Bs)(Dd:vq):Prop :=
 (∀C ai pins aL F' H' s' a T,Dd.xc C ai->ak B F' H' aL ai []->Inv X pins aL H' s'->Trc s'.heap a T (.ref C)->Apart X pins H' a->Apart X pins H' T->X.xe (.ref a) s') /\
 (∀C ai pins aL F' H' s' h' e vs,Dd.xr C ai->ak B F' H' aL ai []->Inv X pins aL H' s'->Heap.MadeExcOf s'.heap h' e (.ref C) vs->X.xe (.ref e) { s' with heap:=h' })
theorem XL.none{X:Cx}{B:Bs}{Dd:vq}(h1:∀C δ,¬ Dd.xc C δ)(h2:∀C δ,¬ Dd.xr C δ):XL X B Dd:=⟨λC δ _ _ _ _ _ _ _ h=>absurd h (h1 C δ),λC δ _ _ _ _ _ _ _ _ h=>absurd h (h2 C δ)⟩
structure LK(X:Cx)(B:Bs)(Dd:vq)(D:Ends):Prop where
 k1:∀ai aL F' H',Dd.nx ai->ak B F' H' aL ai []->D.nx aL H'
 k2:∀d v ai aL F' H',Dd.rt d->ak B F' H' aL ai [(d,v)]->D.rt v H'
 k3:∀ai aL F' H',Dd.bk ai->ak B F' H' aL ai []->D.bk aL H'
 k4:(∀ai aL F' H',Dd.ct ai->ak B F' H' aL ai []->D.ct aL H')/\XL X B Dd
inductive lS(X:Cx)(t:c9)(D:Ends)(σ:L2.St)(H:Hp):Prop
 | mk (B F δ Dd) (c:ak B F H σ δ []) (q:t Dd δ) (k:LK X B Dd D)
section
variable{X:Cx}{e a b c:Expr}{es:List Expr}{pos:Pos}{st:Stmt}{zj:List Stmt}
theorem dj{t t':TE}(h:PE X e t)(m:∀σ H Q,t' σ H Q->t σ H Q):PE X e t':=λpins s σ H Q I q=>h pins s σ H Q I (m σ H Q q)
theorem GO{t t':TT}(h:PT X e t)(m:∀σ H Q,t' σ H Q->t σ H Q):PT X e t':=λpins s σ H Q I q=>h pins s σ H Q I (m σ H Q q)
theorem Pe{t t':TT}(h:PW X e t)(m:∀σ H Q,t' σ H Q->t σ H Q):PW X e t':=λwh pins s σ H Q I q=>h wh pins s σ H Q I (m σ H Q q)
theorem zk{t t':TA}(h:PA X es t)(m:∀σ H Q,t' σ H Q->t σ H Q):PA X es t':=λp pins s σ H Q I q=>h p pins s σ H Q I (m σ H Q q)
theorem jA{t t':TS}(h:PS X st t)(m:∀D σ H,t' D σ H->t D σ H):PS X st t':=λpins s σ H D I q=>h pins s σ H D I (m D σ H q)
theorem GP{t t':TS}(h:PSs X zj t)(m:∀D σ H,t' D σ H->t D σ H):PSs X zj t':=λpins s σ H D I q=>h pins s σ H D I (m D σ H q)
variable{t u ta tb tc:aI}
theorem ae(h:PE X e (lE t)):PE X e (lB t):=dj h λσ H Q zq=>by
 obtain⟨B,F,δ,ts,Qd,c,q,k⟩:=zq
 exact⟨B,F,δ,ts,Qd,c,q,λd ai v F' H' hd sf sh c'=>k d ai v F' H' hd sf sh c'.pop c'.top⟩
def kg(t:aI):aI:=λδ Q=>t δ λd ai=>d.pl=true/\Q d ai
theorem da(h:PE X e (lB t)):PE X e (lE (kg t)):=dj h λσ H Q zq=>by
 obtain⟨B,F,δ,ts,Qd,c,q,k⟩:=zq
 exact⟨B,F,δ,ts,_,c,q,λd ai v F' H' hd sf sh c' s=>k d ai v F' H' hd.2 sf sh (c'.pushS s hd.1)⟩
def jB(i:Nat):aI:=λδ Q=>match δ[i]? with
 | some (some d)=>Q d δ
 | _=>False
def jC(i:Nat):aI:=λδ Q=>match δ[i]? with
 | some (some d)=>Q d (δ.set i none)
 | _=>False
theorem cm5{i:Nat}{δ:Dl}{Q:D->Dl->Prop}(h:jB i δ Q):∃d,δ[i]?=some (some d)/\Q d δ:=by
 unfold jB at h
 split at h
 ·rename_i d e;exact⟨d,e,h⟩
 ·exact h.elim
theorem b80{i:Nat}{δ:Dl}{Q:D->Dl->Prop}(h:jC i δ Q):∃d,δ[i]?=some (some d)/\Q d (δ.set i none):=by
 unfold jC at h
 split at h
 ·rename_i d e;exact⟨d,e,h⟩
 ·exact h.elim
def dC(d:D):aI:=λδ Q=>Q d δ
theorem bv(i:Nat){x:Str}(hN:X.N[i]?=some x:=by rfl)(hv:lF X.env.scope x:=by first | exact au rfl | exact bB (au rfl) | exact bB (bB rfl))(hd:(x==("__debug__":Str))=false:=by decide)
  (cC:(x==("__classdict__":Str))=false:=by decide):PE X (.Name x pos) (lB (jB i)):=dj (qU hN hv hd cC) λσ H Q zq=>by
 obtain⟨B,F,δ,ts,Qd,c,q,k⟩:=zq
 obtain⟨d,e,q⟩:=cm5 q
 obtain⟨v,e1,s⟩:=c.look e
 exact⟨v,e1,k d δ v F H q (ag.refl _) (ag.refl _) c s⟩
theorem em(i:Nat){x:Str}(hN:X.N[i]?=some x:=by rfl)(hv:lF X.env.scope x:=by first | exact au rfl | exact bB (au rfl) | exact bB (bB rfl))(hd:(x==("__debug__":Str))=false:=by decide)
  (cC:(x==("__classdict__":Str))=false:=by decide):PE X (.Name x pos) (lE (jC i)):=dj (qU hN hv hd cC) λσ H Q zq=>by
 obtain⟨B,F,δ,ts,Qd,c,q,k⟩:=zq
 obtain⟨d,e,q⟩:=b80 q
 obtain⟨v,e1,c'⟩:=c.move e
 exact⟨v,e1,k d _ v F H q (ag.refl _) (ag.refl _) c'⟩
theorem Cj{B:Bs}{F H:Hp}{σ:L2.St}{δ:Dl}{ts:List (D × V)}{Qd:D->Dl->Prop}{Q:VK}{d:D}{v:V}(c:ak B F H σ δ ts)(q:Qd d δ)(s:S F H [d] [v])(p:d.pl=true)
  (k:∀d ai v F' H',Qd d ai->ag F F'->ag H H'->ak B F' H' σ ai ((d,v)::ts)->Q v H'):Q v H:=k d δ v F H q (ag.refl _) (ag.refl _) (c.pushS s p)
theorem ao{i j}:PE X (.Constant (.int i) j pos) (lE (dC (.int i))):=dj wN λσ H Q ⟨B,F,δ,ts,Qd,c,q,k⟩=>Cj c q (.int .nil) rfl k
theorem qg{i j}:PE X (.Constant (.bool i) j pos) (lE (dC (.bl i))):=dj YL λσ H Q ⟨B,F,δ,ts,Qd,c,q,k⟩=>Cj c q (.bl .nil) rfl k
theorem GQ{j}:PE X (.Constant .none j pos) (lE (dC .aq)):=dj YM λσ H Q ⟨B,F,δ,ts,Qd,c,q,k⟩=>Cj c q (.aq .nil) rfl k
theorem cD9{x:Str}{i:Int}{tk:Tok}(hg:Gl X x)(hm:X.mg x=some (.int i tk))(hd:(x==("__debug__":Str))=false:=by decide):PE X (.Name x pos) (lE (dC (.int i))) :=
 dj (YN (v:=.int i) hg hm ⟨_,rfl⟩ hd) λσ H Q ⟨B,F,δ,ts,Qd,c,q,k⟩=>Cj c q (.int .nil) rfl k
abbrev cS:=D->D->(D->Prop)->Prop
def Ck(r:R2)(rd:cS):Prop:=∀{B:Bs} {F H:Hp} {σ:L2.St} {δ:Dl} {ts:List (D × V)} {x y:D} {v w:V} {Q:VK} {Qd:D->Prop},ak B F H σ δ ts->S F H [x] [v]->S F H [y] [w]->rd x y Qd ->
 (∀d z H',Qd d->ag H H'->ak B F H' σ δ ((d,z)::ts)->Q z H')->r v w H Q
def bW(X:Cx)(f:Value->Value->Sem Value)(rd:cS):Prop:=∃r,cI X f r/\Ck r rd
theorem bW.or{f:Value->Value->Sem Value}{r1 r2:cS}(h1:bW X f r1)(h2:bW X f r2):bW X f λx y Q=>r1 x y Q\/r2 x y Q:=by
 obtain⟨q1,a1,b1⟩:=h1
 obtain⟨q2,a2,b2⟩:=h2
 refine⟨_,a1.or a2,λ{B F H σ δ ts x y v w Q Qd} c sx sy h k=>?_⟩
 rcases h with h | h
 ·exact .inl (b1 c sx sy h k)
 ·exact .inr (b2 c sx sy h k)
theorem bW.imp{f:Value->Value->Sem Value}{r1 r2:cS}(h1:bW X f r1)(h:∀x y Q,r2 x y Q->r1 x y Q):bW X f r2:=by
 obtain⟨q1,a1,b1⟩:=h1
 exact⟨q1,a1,λ{B F H σ δ ts x y v w Q Qd} c sx sy h2 k=>b1 c sx sy (h _ _ _ h2) k⟩
def i6(rd:cS)(ta tb:aI):aI:=λδ Q=>ta δ λx aj=>tb aj λy aY=>rd x y λd=>Q d aY
theorem GR{r:R2}{rd:cS}(hl:Ck r rd):∀σ H Q,lE (i6 rd ta tb) σ H Q->yL r (lB ta) (lB tb) σ H Q:=λσ H Q ⟨B,F,δ,ts,Qd,c,q,k⟩ =>
 ⟨B,F,δ,ts,_,c,q,λx aj v F1 H1 q1 f1 h1 c1 s1=>⟨B,F1,aj,ts,_,c1,q1,λy aY w F2 H2 q2 f2 h2 c2 s2 =>
  hl c2 (s1.mono f2 h2) s2 q2 λd z H' hd hs c3=>k d aY z F2 H' hd (f1.trans f2) ((h1.trans h2).trans hs) c3⟩⟩
theorem az{op:Operator}{rd:cS}(ho:bW X (binaryOp op) rd)(ha:PE X a (lB ta))(hb:PE X b (lB tb)):PE X (.BinOp a op b pos) (lE (i6 rd ta tb)):=by
 obtain⟨r,h1,h2⟩:=ho
 exact dj (yM h1 ha hb) (GR h2)
theorem vt{op:CmpOp}{rd:cS}(ho:bW X (compareOp op) rd)(ha:PE X a (lB ta))(hb:PE X b (lB tb))(hm:behindInMarks op b=false):PE X (.Compare a [op] [b] pos) (lE (i6 rd ta tb)):=by
 obtain⟨r,h1,h2⟩:=ho
 exact dj (ZV h1 ha hb hm) (GR h2)
def dT(t:aI):gn:=λδ Q=>t δ λd ai=>∃k,d=.bl k/\Q k ai
theorem ce1{te:TE}(h:∀σ H Q,lE t σ H Q->te σ H Q):∀σ H Q,lT (dT t) σ H Q->N8 te σ H Q:=λσ H Q zz=>by
 obtain⟨B,F,δ,ts,Qd,c,q,k⟩:=zz
 refine h σ H _ ⟨B,F,δ,ts,_,c,q,λd ai v F' H' hd sf sh c'=>?_⟩
 obtain⟨b,rfl,qb⟩:=hd
 have s:=c'.top
 cases s with
 | bl _=>exact⟨b,rfl,k b ai F' H' qb sf sh c'.pop⟩
theorem cK{op:CmpOp}{rd:cS}(ho:bW X (compareOp op) rd)(ha:PE X a (lB ta))(hb:PE X b (lB tb))(hm:behindInMarks op b=false):PT X (.Compare a [op] [b] pos) (lT (dT (i6 rd ta tb))):=by
 obtain⟨r,h1,h2⟩:=ho
 exact GO (ZW h1 ha hb hm) (ce1 (GR h2))
def kh(r r':cS)(ta tb tc:aI):aI:=λδ Q=>ta δ λx aj=>tb aj λy aY=>r x y λd=>∃k,d=.bl k/\if k=true then tc aY λz gM=>r' y z λd'=>Q d' gM else Q (.bl false) aY
theorem ub(h:PE X e (lB t))(he:∀whole,isTrue e X.env whole=(do let v<-whole;standAt e.pos;holding [v] (truthy v)):=by intro _;rfl):PT X e (lT (dT t)) :=
 GO (BR h he) λσ H Q zq=>by
 obtain⟨B,F,δ,ts,Qd,c,q,k⟩:=zq
 exact⟨B,F,δ,ts,_,c,q,λd ai v F' H' hd sf sh c' s=>by
  obtain⟨b,rfl,qb⟩:=hd
  cases s with
  | bl _=>exact⟨b,rfl,k b ai F' H' qb sf sh c'⟩⟩
variable{tA tB:gn}{rest:List Expr}
def lV(t u:gn):gn:=λδ Q=>t δ λc aj=>if c=true then u aj Q else Q false aj
def lX(t u:gn):gn:=λδ Q=>t δ λc aj=>if c=true then Q true aj else u aj Q
def lZ(t:gn):gn:=λδ Q=>t δ λc aj=>Q (!c) aj
theorem cJ8(ha:PT X a (lT tA))(hb:PW X (.BoolOp .And (b::rest) pos) (lT tB)):PW X (.BoolOp .And (a::b::rest) pos) (lT (lV tA tB)) :=
 Pe (YU ha hb) λσ H Q zq=>by
 obtain⟨B,F,δ,ts,Qd,c,q,k⟩:=zq
 exact⟨B,F,δ,ts,_,c,q,λb aj F1 H1 q1 f1 h1 c1=>by
  cases b with
  | true=>exact tZ ⟨B,F1,aj,ts,Qd,c1,by simpa using q1,λb ai F' H' hd sf sh c'=>k b ai F' H' hd (f1.trans sf) (h1.trans sh) c'⟩
  | false=>exact lN (k false aj F1 H1 (by simpa using q1) f1 h1 c1)⟩
theorem zo(ha:PT X a (lT tA))(hb:PW X (.BoolOp .Or (b::rest) pos) (lT tB)):PW X (.BoolOp .Or (a::b::rest) pos) (lT (lX tA tB)) :=
 Pe (YV ha hb) λσ H Q zq=>by
 obtain⟨B,F,δ,ts,Qd,c,q,k⟩:=zq
 exact⟨B,F,δ,ts,_,c,q,λb aj F1 H1 q1 f1 h1 c1=>by
  cases b with
  | true=>exact tZ (k true aj F1 H1 (by simpa using q1) f1 h1 c1)
  | false=>exact lN ⟨B,F1,aj,ts,Qd,c1,by simpa using q1,λb ai F' H' hd sf sh c'=>k b ai F' H' hd (f1.trans sf) (h1.trans sh) c'⟩⟩
theorem Cm(ha:PT X a (lT tA)):PT X (.UnaryOp .Not a pos) (lT (lZ tA)) :=
 GO (BV ha) λσ H Q zq=>by
 obtain⟨B,F,δ,ts,Qd,c,q,k⟩:=zq
 exact⟨B,F,δ,ts,_,c,q,λb aj F1 H1 q1 f1 h1 c1=>k _ aj F1 H1 q1 f1 h1 c1⟩
def l6(ta tb:aI):aI:=λδ Q=>ta δ λx aj=>∃c,x=.bl c/\if c=true then tb aj Q else Q (.bl false) aj
def l7(ta:aI):aI:=λδ Q=>ta δ λx aj=>∃c,x=.bl c/\Q (.bl (!c)) aj
theorem rj(ha:PE X a (lB ta))(hb:PE X (.BoolOp .And (b::rest) pos) (lE tb)):PE X (.BoolOp .And (a::b::rest) pos) (lE (l6 ta tb)) :=
 dj (YY ha hb) λσ H Q zq=>by
 obtain⟨B,F,δ,ts,Qd,c,q,k⟩:=zq
 exact⟨B,F,δ,ts,_,c,q,λd aj v F1 H1 q1 f1 h1 c1 s1=>by
  obtain⟨b,rfl,qb⟩:=q1
  cases s1 with
  | bl _ =>
   refine⟨b,rfl,?_⟩
   cases b with
   | true=>exact tZ ⟨B,F1,aj,ts,Qd,c1,by simpa using qb,λd ai v F' H' hd sf sh c'=>k d ai v F' H' hd (f1.trans sf) (h1.trans sh) c'⟩
   | false=>exact lN (k _ aj _ F1 H1 (by simpa using qb) f1 h1 (c1.pushS (.bl .nil) rfl))⟩
theorem Pf(ha:PE X a (lB ta)):PE X (.UnaryOp .Not a pos) (lE (l7 ta)) :=
 dj (YZ ha) λσ H Q zq=>by
 obtain⟨B,F,δ,ts,Qd,c,q,k⟩:=zq
 exact⟨B,F,δ,ts,_,c,q,λd aj v F1 H1 q1 f1 h1 c1 s1=>by
  obtain⟨b,rfl,qb⟩:=q1
  cases s1 with
  | bl _=>exact⟨b,rfl,k _ aj _ F1 H1 qb f1 h1 (c1.pushS (.bl .nil) rfl)⟩⟩
def l8(t:gn)(ta tb:aI):aI:=λδ Q=>t δ λc aj=>if c=true then ta aj Q else tb aj Q
theorem cO3(hc:PT X c (lT tA))(ha:PE X a (lE ta))(hb:PE X b (lE tb)):PE X (.IfExp c a b pos) (lE (l8 tA ta tb)) :=
 dj (Y1 hc ha hb) λσ H Q zq=>by
 obtain⟨B,F,δ,ts,Qd,c,q,k⟩:=zq
 exact⟨B,F,δ,ts,_,c,q,λb aj F1 H1 q1 f1 h1 c1=>by
  cases b with
  | true=>exact tZ ⟨B,F1,aj,ts,Qd,c1,by simpa using q1,λd ai v F' H' hd sf sh c'=>k d ai v F' H' hd (f1.trans sf) (h1.trans sh) c'⟩
  | false=>exact lN ⟨B,F1,aj,ts,Qd,c1,by simpa using q1,λd ai v F' H' hd sf sh c'=>k d ai v F' H' hd (f1.trans sf) (h1.trans sh) c'⟩⟩
def ki:cJ:=λδ Q=>Q [] δ
def kj(t:aI)(r:cJ):cJ:=λδ Q=>t δ λd aj=>r aj λds aY=>Q (d::ds) aY
theorem av:PA X [] (lA ki):=zk ff λσ H Q ⟨B,F,δ,ts,Qd,c,q,k⟩=>k [] δ [] F H q (ag.refl _) (ag.refl _) c .nil
variable{tr:cJ}
theorem ah(ha:PE X e (lB t))(hr:PA X es (lA tr))(hs:starEach (e::es) X.env=(false,eval e X.env)::starEach es X.env:=by rfl):PA X (e::es) (lA (kj t tr)) :=
 zk (cy ha hr hs) λσ H Q zq=>by
 obtain⟨B,F,δ,ts,Qd,c,q,k⟩:=zq
 exact⟨B,F,δ,ts,_,c,q,λd aj v F1 H1 q1 f1 h1 c1 s1=>⟨B,F1,aj,ts,_,c1,q1,λds aY vs F2 H2 q2 f2 h2 c2 s2 =>
  k (d::ds) aY (v::vs) F2 H2 q2 (f1.trans f2) (h1.trans h2) c2 ((s1.mono f2 h2).cons s2)⟩⟩
theorem cA:PA X [] (lO ki):=zk ff λσ H Q ⟨B,F,δ,ts,Qd,c,q,k⟩=>k [] δ F H q (ag.refl _) (ag.refl _) c
theorem cP(ha:PE X e (lE t))(hr:PA X es (lO tr))(hs:starEach (e::es) X.env=(false,eval e X.env)::starEach es X.env:=by rfl):PA X (e::es) (lO (kj t tr)) :=
 zk (cy ha hr hs) λσ H Q zq=>by
 obtain⟨B,F,δ,ts,Qd,c,q,k⟩:=zq
 exact⟨B,F,δ,ts,_,c,q,λd aj v F1 H1 q1 f1 h1 c1=>⟨B,F1,aj,(d,v)::ts,_,c1,q1,λps aY F2 H2 q2 f2 h2 c2 =>
  k ((d,v)::ps) aY F2 H2 q2 (f1.trans f2) (h1.trans h2) (c2.perm (List.perm_middle))⟩⟩
def l9(t:cJ):aI:=λδ Q=>t δ λds ai=>ds.length<=sizeLine/\Q (.lst true ds) ai
def mf(t:cJ):aI:=λδ Q=>t δ λds ai=>ds.length<=sizeLine/\Q (.tup ds) ai
theorem dm(h:PA X es (lO tr)):PE X (.List es pos) (lE (l9 tr)) :=
 dj (Δ h) λσ H Q zq=>by
 obtain⟨B,F,δ,ts,Qd,c,q,k⟩:=zq
 exact⟨B,F,δ,ts,_,c,q,λps aj F1 H1 q1 f1 h1 c1=>⟨by simpa using q1.1,λp hp=>k _ aj _ F1 _ q1.2 f1 (h1.trans (ag.upd hp)) (c1.c30 hp)⟩⟩
theorem ud{x1}(h:PA X es (lO tr)):PE X (.Tuple es x1 pos) (lE (mf tr)) :=
 dj (Γ h) λσ H Q zq=>by
 obtain⟨B,F,δ,ts,Qd,c,q,k⟩:=zq
 exact⟨B,F,δ,ts,_,c,q,λps aj F1 H1 q1 f1 h1 c1=>⟨by simpa using q1.1,λp hp=>k _ aj _ F1 _ q1.2 f1 (h1.trans (ag.upd hp)) (c1.c31 hp)⟩⟩
end
abbrev bg:=List D->(D->Prop)->Prop
inductive bo(sp:bg)(vs:List V)(H:Hp)(Q:VK)(E:XK):Prop
 | mk (F ds Qd) (e:ag F H) (r:R F H ds vs []) (q:sp ds Qd) (k:∀d v F' H' A,Qd d->ag H H'->ag F F'->ag F' H'->(∀a ws,F' a=some (.lst ws)->F a=some (.lst ws)\/H a=none)->R F' H' [d] [v] A->A.Nodup->(∀a∈A,H a=none)->Q v H')
def jD(sp:bg)(t:cJ):aI:=λδ Q=>t δ λds ai=>sp (ds.map D.sh) λd=>(ds.all D.pl||d.fr)=true/\Q d ai
theorem Cn{B:Bs}{F H:Hp}{σ:L2.St}{δ:Dl}{ts:List (D × V)}{Qd:D->Prop}{Q:VK}{E:XK}{ds:List D}{vs:List V}{sp:bg}(c:ak B F H σ δ ts)(s:S F H ds vs)(q:sp (ds.map D.sh) λd=>(ds.all D.pl||d.fr)=true/\Qd d)
  (k:∀d v F' H',Qd d->ag F F'->ag H H'->ak B F' H' σ δ ((d,v)::ts)->Q v H'):bo sp vs H Q E:=by
 by_cases hp:ds.all D.pl=true
 ·rw[q9 hp]at q
  exact⟨F,ds,_,c.ext,s.r hp,q,λd v F' H' A hd hs hf he h3 r nd fr=>k d v F' H' hd.2 hf hs (c.call hs hf he h3 r nd fr)⟩
 ·refine⟨H,ds.map D.sh,_,ag.refl _,s.frozen c.ext,q,λd v F' H' A hd hs hf he h3 r nd fr=>?_⟩
  have fM:d.fr=true:=by
   have:=hd.1
   rw[Nd]at this
   exact this.resolve_left hp
  exact k d v F H' hd.2 (ag.refl _) hs (c.GL hs (r.xg (by simp[fM]) (c.ext.trans hf)) nd fr)
section
variable{X:Cx}{CX:fg}{n:Nat}{f:Addr}{fd:FuncData}{ps:List Str}{sp:bg}{E:XK}{x:Str}{p pos:Pos}{e:Expr}{es:List Expr}{t:cJ}
theorem xj(F:aO X.prog X.w X.K X.mg X.base CX n f fd ps (bo sp))(hr:cw n X.A)(hg:Gl X x)(hm:X.mg x=some (.ref f))(hk:PySem.W.keepIn X.K (.ref f)=true)(hb:Binds X.K fd ps [])(hx:p9 CX X E)
  (ha:PA X (e::es) (lA t)) (eC:(x==("__debug__":Str))=false:=by decide) (he:starEach (e::es) X.env=(false,eval e X.env)::starEach es X.env:=by rfl) (bU:(backTo pos (starEach es X.env)).any (·.1)=false:=by rfl) :
  PE X (.Call (.Name x p) (e::es) [] pos) (lE (jD sp t)) :=
 dj (lK F hr hg hm hk hb .nil hx ha eC he bU) λσ H Q zq=>by
 obtain⟨B,F,δ,ts,Qd,c,q,k⟩:=zq
 exact⟨B,F,δ,ts,_,c,q,λds aj vs F1 H1 q1 f1 h1 c1 s1=>by
  show bo sp (vs++[]) H1 Q E
  rw[fJ]
  exact Cn c1 s1 q1 λd v F' H' hd hf hs c'=>k d aj v F' H' hd (f1.trans hf) (h1.trans hs) c'⟩
end
def i7(N:List Str)(ds:List D):Dl:=ds.map some++aW (N.length-ds.length) none
section
variable{P:Program}{w:World}{K:PySem.W.Frag}{mg:Str->Option Value}{base:Heap}
theorem bz{x qual:Str}{st:Stmt}{f:Addr}{fd:FuncData}{N ps:List Str}{k:Nat}{sp:bg}(F:bh K x qual st f fd)(S:bf N ps (aM st))(len:∀ds Q,sp ds Q->ds.length=ps.length)
  (ju:∀(aG:Value) (A:Around) (outer:List Env) (s:Shared) (H:Hp) (E:XK),cw k (A.deeper (envOfC qual (aM st) s.heap.objs.size f aG)) ->
   ∃t:c9,PSs (lM aS P w K mg base N qual (aM st) f aG A outer s H E).iC (gy st) (lS (lM aS P w K mg base N qual (aM st) f aG A outer s H E).iC t)/\∀ds Q,sp ds Q->t { nx:=λ_=>Q .aq,rt:=Q } (i7 N ds)):aO P w K mg base aS (k+1) f fd ps (bo sp):=by
 refine F.ok S (λvs H Q E ⟨F,ds,Qd,e,r,h,_⟩=>by rw[<-r.length];exact len ds Qd h) λaG A outer s H vs Q E hr zz=>?_
 obtain⟨F,ds,Qd,e,r,h,k⟩:=zz
 obtain⟨t,ht,hq⟩:=ju aG A outer s H E hr
 have fin:∀d v ai aL F' H',Qd d->ak ⟨H,F⟩ F' H' aL ai [(d,v)]->Q v H':=λd v ai aL F' H' hd c=>by
  obtain⟨A,C,r',s',nd,fr⟩:=c.own
  exact k d v F' H' A hd c.b1 c.b2 c.ext c.b3 r' (i5.mp nd).1 λa ha=>fr a (fI _ ha)
 have e1:L2.start N vs=vs.map some++aW (N.length-ds.length) none:=by unfold L2.start;rw[r.length]
 refine⟨_,ht,⟨H,F⟩,F,i7 N ds,_,?_,hq ds Qd h,λai aL F' H' hd c=>fin .aq .aq ai aL F' H' hd (c.pushS (.aq .nil) rfl),fin,λ_ _ _ _ z=>z.elim,λ_ _ _ _ z=>z.elim,XL.none (λ_ _ z=>z) λ_ _ z=>z⟩
 rw[e1]
 exact ak.start e r _
end
section
variable{X:Cx}{e a b c:Expr}{es:List Expr}{pos:Pos}{st:Stmt}{zj rest:List Stmt}{t u:c9}{te:aI}{tt:gn}
def mh:c9:=λD δ=>D.nx δ
def Pg(t u:c9):c9:=λD δ=>t { D with nx:=u D } δ
theorem aB{t u:c9}{En:vq}{δ:Dl}(h:∀U:Dl->Prop,(∀ai,u En ai->U ai)->t { En with nx:=U } δ):Pg t u En δ:=h (u En) λ_ z=>z
theorem eG:PSs X [] (lS X mh):=GP wO λD σ H ⟨B,F,δ,Dd,c,q,k⟩=>k.k1 δ σ F H q c
theorem aC(h1:PS X st (lS X t))(h2:PSs X rest (lS X u)):PSs X (st::rest) (lS X (Pg t u)) :=
 GP (fk h1 h2) λD σ H zq=>by
 obtain⟨B,F,δ,Dd,c,q,k1,k2,k3,k4⟩:=zq
 exact⟨B,F,δ,{ Dd with nx:=u Dd },c,q,λai aL F' H' hq c'=>⟨B,F',ai,Dd,c',hq,k1,k2,k3,k4⟩,k2,k3,k4⟩
theorem aH(h1:PS X st (lS X t)):PSs X [st] (lS X t):=oi h1
theorem zt:PS X st (lS X λ_ _=>False):=jA wU λD σ H ⟨_,_,_,_,_,q,_⟩=>q.elim
def km(i:Nat)(t:c9):c9:=λD δ=>∃d,δ[i]?=some (some d)/\t D (δ.set i (some d.sh))
theorem zu(i:Nat)(h:PSs X zj (lS X t)):PSs X zj (lS X (km i t)):=GP h λD σ H zz=>by
 obtain⟨B,F,δ,Dd,c,⟨d,e,q⟩,k⟩:=zz
 obtain⟨F',s,c'⟩:=c.freeze e
 exact⟨B,F',_,Dd,c',q,k⟩
def kn(i:Nat)(t:aI):c9:=λD δ=>t δ λd ai=>D.nx (ai.set i (some d))
theorem aP{i:Nat}{x:Str}{pos':Pos}(hN:X.N.Nodup)(hi:X.N[i]?=some x)(hx:Loc X.env.scope x)(he:PE X e (lE te))(hs:swapsWith e (some (.Name x pos')) pos.line X.env=pure false:=by rfl)
  (hf:X.fn x=true\/X.env.scope.names.lookup x=some .local:=by first | exact .inl rfl | exact .inr rfl | assumption):PS X (.Assign [.Name x pos'] e pos) (lS X (kn i te)) :=
 jA (FE hN hi hx he hs hf) λD σ H zq=>by
 obtain⟨B,F,δ,Dd,c,q,k1,k2,k3,k4⟩:=zq
 exact⟨B,F,δ,[],_,c,q,λd ai v F' H' hd sf sh c'=>k1 _ _ F' H' hd (c'.store i)⟩
def mi(t:aI):c9:=λD δ=>t δ λd _=>D.rt d
theorem aZ(he:PE X e (lE te)):PS X (.Return (some e) pos) (lS X (mi te)) :=
 jA (Y7 he) λD σ H zq=>by
 obtain⟨B,F,δ,Dd,c,q,k1,k2,k3,k4⟩:=zq
 exact⟨B,F,δ,[],_,c,q,λd ai v F' H' hd sf sh c'=>k2 d v ai σ F' H' hd c'⟩
def mj(t:aI):c9:=λD δ=>t δ λ_ ai=>D.nx ai
theorem cC1(he:PE X e (lB te))(hs:swapsWith e none pos.line X.env=pure false:=by rfl):PS X (.Expr e pos) (lS X (mj te)) :=
 jA (tV he hs) λD σ H zq=>by
 obtain⟨B,F,δ,Dd,c,q,k1,k2,k3,k4⟩:=zq
 exact⟨B,F,δ,[],_,c,q,λd ai v F' H' hd sf sh c' s=>k1 ai σ F' H' hd c'⟩
def mm(tc:gn)(t u:c9):c9:=λD δ=>tc δ λb ai=>if b=true then t D ai else u D ai
theorem eH{l r:List Stmt}(hc:PT X c (lT tt))(ha:PSs X l (lS X t))(hb:PSs X r (lS X u)):PS X (.If c l r pos) (lS X (mm tt t u)) :=
 jA (wQ hc ha hb) λD σ H zq=>by
 obtain⟨B,F,δ,Dd,c,q,k⟩:=zq
 exact⟨B,F,δ,[],_,c,q,λb ai F' H' hq sf sh c'=>by
  cases b with
  | true=>exact tZ ⟨B,F',ai,Dd,c',by simpa using hq,k⟩
  | false=>exact lN ⟨B,F',ai,Dd,c',by simpa using hq,k⟩⟩
def mn(i:Nat)(rd:cS)(t:aI):c9:=λD δ=>∃x,δ[i]?=some (some x)/\t δ λy aj=>rd x y λz=>D.nx (aj.set i (some z))
theorem zw{i:Nat}{x:Str}{op:Operator}{rd:cS}{pos':Pos}(hN:X.N.Nodup)(hi:X.N[i]?=some x)(hx:Loc X.env.scope x)(he:PE X e (lB te))(ho:bW X (inplaceOp op) rd)
  (hf:X.fn x=true\/X.env.scope.names.lookup x=some .local:=by first | exact .inl rfl | exact .inr rfl | assumption):PS X (.AugAssign (.Name x pos') op e pos) (lS X (mn i rd te)):=by
 obtain⟨r,h1,h2⟩:=ho
 refine jA (Zj hN hi hx he (ti:=r) h1 hf) λD σ H zz=>?_
 obtain⟨B,F,δ,Dd,c,⟨d0,e0,q⟩,k1,k2,k3,k4⟩:=zz
 obtain⟨v0,e1,s0⟩:=c.look e0
 exact⟨v0,e1,B,F,δ,[],_,c,q,λd ai v F' H' hd sf sh c' s=>h2 c' (s0.mono sf sh) s hd λz w H2 hz h3 c3=>k1 _ _ F' H2 hz (c3.store i)⟩
def mq(tc:gn)(tb:c9):c9:=λD δ=>∃W:Nat->Dl->Prop,(∃m,W m δ)/\∀m δ,W m δ->tc δ λb ai=>if b=true then tb { D with nx:=λai=>∃m',m'<m/\W m' ai,ct:=λai=>∃m',m'<m/\W m' ai,bk:=D.nx } ai else D.nx ai
theorem xk{body:List Stmt}(hp:PassesOwn (model X.prog X.w) X.A X.env X.xe)(hc:PT X c (lT tt))(hb:PSs X body (lS X t)):PS X (.While c body [] pos) (lS X (mq tt t)) :=
 jA (Zr hp hc hb) λD σ H zz=>by
  obtain⟨B,F,δ,Dd,c,⟨W,⟨m0,w0⟩,hw⟩,k1,k2,k3,k4⟩:=zz
  refine⟨λm σ H=>∃F δ,ak B F H σ δ []/\W m δ,⟨m0,F,δ,c,w0⟩,λm σ H ⟨F,δ,c,w⟩=>⟨B,F,δ,[],_,c,hw m δ w,λb ai F' H' hq sf sh c'=>?_⟩⟩
  cases b with
  | true =>
   refine tZ ⟨λaL H'=>∃m',m'<m/\∃F δ,ak B F H' aL δ []/\W m' δ,λaL H' z=>z,B,F',ai,{ Dd with nx:=λai=>∃m',m'<m/\W m' ai,ct:=λai=>∃m',m'<m/\W m' ai,bk:=Dd.nx },c',by simpa using hq,λaY qV F2 H2 ⟨m',hm,w2⟩ c2=>⟨m',hm,F2,aY,c2,w2⟩,k2,λaY qV F2 H2 z c2=>k1 aY qV F2 H2 z c2,λaY qV F2 H2 ⟨m',hm,w2⟩ c2=>⟨m',hm,F2,aY,c2,w2⟩,k4.2⟩
  | false=>exact lN (k1 ai σ F' H' (by simpa using hq) c')
end
structure JD(J:It)(F:Hp)(xs:List D):Prop where
 go:∀i H,ag F H->i<xs.length->J.go i H
 oj:∀i H x H',ag F H->i<xs.length->J.oj i H x H'->∃d,xs[i]?=some d/\ag H H'/\R F H' [d] [x] []
 stop:∀i H,ag F H->xs.length<=i->J.stop i H
abbrev kq:=Dl->(Bool->List D->Dl->Prop)->Prop
inductive lI(t:kq)(σ:L2.St)(H:Hp)(Rr:It->Hp->Prop):Prop
 | mk (B F δ ts Qd) (c:ak B F H σ δ ts) (q:t δ Qd) (k:∀g xs ai J F' H',Qd g xs ai->ag F F'->ag H H'->ak B F' H' σ ai ts->JD J H' (xs.map D.sh)->(g=true->xs.all D.pl=true/\JD J F' xs)->Rr J H')
abbrev i8:=D->Dl->(Dl->Prop)->Prop
inductive lG(m:Nat)(t:i8)(v:V)(σ:L2.St)(H:Hp)(Q:L2.St->Hp->Prop):Prop
 | mk (B F δ ts d Qd) (c:ak B F H σ δ ((d,v)::ts)) (q:t d δ Qd) (k:∀ai aL,Qd ai->aL.length=σ.length->(∀j,j<m->aL[j]?=σ[j]?)->ak B F H aL ai ts->Q aL H)
def gO:D->Option (List D)
 | .lst _ xs=>some xs
 | .fz xs=>some xs
 | _=>none
section
variable{B:Bs}{F H F1:Hp}{σ:L2.St}{δ:Dl}{ts:List (D × V)}
end
section
variable{X:Cx}{e a b c tg l iter:Expr}{es:List Expr}{pos:Pos}{t u:c9}{te:aI}{tt:gn}{ta:cJ}{m:Nat}
theorem xm{w w':TI}(h:PI X tg iter w)(m:∀σ H Q,w' σ H Q->w σ H Q):PI X tg iter w':=λpins s σ H Q I q=>h pins s σ H Q I (m σ H Q q)
theorem Ph{w w':TG}(h:PG X tg w)(m:∀v σ H Q,w' v σ H Q->w v σ H Q):PG X tg w':=λpins s σ H v u Q I r q=>h pins s σ H v u Q I r (m v σ H Q q)
def gN(i:Nat):i8:=λd δ Q=>Q (δ.set i (some d))
theorem fw{i:Nat}{x:Str}(hN:X.N.Nodup)(hi:X.N[i]?=some x)(hx:Loc X.env.scope x)(hm:m<=i:=by decide)(hf:X.fn x=true\/X.env.scope.names.lookup x=some .local:=by first | exact .inl rfl | exact .inr rfl | assumption):PG X (.Name x pos) (lG m (gN i)) :=
 Ph (BZ hN hi hx hf) λv σ H Q ⟨B,F,δ,ts,d,Qd,c,q,k⟩=>k _ _ q (by simp) (λj hj=>by rw[tH (by omega)]) (c.store i)
theorem sC{K:PySem.W.Frag}{F H:Hp}{p:Addr}{xs:List D}{ws:List V}(hp:Rd F p (.lst ws))(r:R F H xs ws [])(hF:Full F H):JD (FG K p) F xs where
 go:=λi H' hs hi=>by
  have l:=r.length
  have g9:i<ws.length:=by omega
  exact⟨ws,ws[i],.inl (jz hp hs),aJ g9⟩
 oj:=λi H' x H2 hs hi zz=>by
  obtain⟨e,y⟩:=zz
  subst e
  have hx:=y ws (.inl (jz hp hs))
  obtain⟨v,A1,e2,r1,sub⟩:=(r.full hF hs rfl).get (aJ hi)
  rw[hx]at e2;cases e2
  have:A1=[]:=X5.mpr λa ha=>by simpa using sub ha
  subst this
  exact⟨_,aJ hi,ag.refl _,r1⟩
 stop:=λi H' hs hi=>⟨ws,.inl (jz hp hs),by have:=r.length;omega⟩
theorem Co{F:Hp}(lo:Int)(n:Nat):JD (yG lo n) F ((aw n).map λ(k:Nat)=>D.int (lo+(k:Int))) where
 go:=λi H' hs hi=>by
  have g9:i<n:=by simpa using hi
  exact g9
 oj:=λi H' x H2 hs hi zz=>by
  obtain⟨e,y⟩:=zz
  subst e y
  have g9:i<n:=by simpa using hi
  exact⟨.int (lo+i),by simp[gI g9],ag.refl _,.int .nil⟩
 stop:=λi H' hs hi=>by
  have g9:n<=i:=by simpa using hi
  exact g9
def mr(t:aI):kq:=λδ Q=>t δ λd ai=>∃xs,gO d=some xs/\Q true (xs.map D.sh) ai
theorem cQ3(xs:List D){F H:Hp}{ws:List V}(r:R F H (xs.map D.sh) ws []):(xs.map D.sh).map D.sh=xs.map D.sh:=q9 r.pl
theorem zx(h:PE X l (lE te)):PI X tg l (lI (mr te)) :=
 xm (N5 h) λσ H Q zq=>by
 obtain⟨B,F,δ,ts,Qd,c,q,k⟩:=zq
 exact⟨B,F,δ,ts,_,c,q,λd aj v F1 H1 hd f1 h1 c1=>by
  obtain⟨xs,e,hq⟩:=hd
  obtain⟨F2,f2,c2⟩:=c1.GN
  have tp:=c2.top
  have c3:=c2.pop.snap
  have e2:=c2.ext
  have sn:=vp e2
  cases d with
  | lst o ys =>
   obtain rfl:=de e
   rw[cE]at tp
   cases tp with
   | @shr p ws _ _ _ hp r _ =>
    have r3:=r.shared sn (ag.refl _)
    refine⟨p,rfl,⟨ws,bI.of (e2 _ _ hp)⟩,k true _ aj _ _ H1 hq ((f1.trans f2).trans sn) h1 c3 ?_ λ_=>⟨r.pl,sC (.inl (sn _ _ hp)) r3 xh⟩⟩
    rw[cQ3 _ r]
    exact sC (.inl (e2 _ _ hp)) (r.shared e2 (ag.refl _)) (Full.refl _)
  | fz ys =>
   obtain rfl:=de e
   cases tp with
   | @fz p o ws _ _ _ hp r _ =>
    have r3:=r.shared sn (ag.refl _)
    have es:=q9 r.pl
    rw[es]at hq
    refine⟨p,rfl,⟨ws,.inl (.inr ⟨o,e2 _ _ hp⟩)⟩,k true _ aj _ _ H1 hq ((f1.trans f2).trans sn) h1 c3 ?_ λ_=>⟨r.pl,sC (.inr ⟨o,sn _ _ hp⟩) r3 xh⟩⟩
    rw[es]
    exact sC (.inr ⟨o,e2 _ _ hp⟩) (r.shared e2 (ag.refl _)) (Full.refl _)
  | aq=>cases e
  | bl _=>cases e
  | int _=>cases e
  | str _=>cases e
  | tup _=>cases e
  | obj _ _ _=>cases e
  | bK _=>cases e⟩
def mw(t:aI):kq:=λδ Q=>t δ λd ai=>∃xs,gO d=some xs/\Q d.pl xs ai
theorem kr(h:PE X l (lB te)):PI X tg l (lI (mw te)) :=
 xm (N5 h) λσ H Q zq=>by
 obtain⟨B,F,δ,ts,Qd,c,q,k⟩:=zq
 exact⟨B,F,δ,ts,_,c,q,λd aj v F1 H1 hd f1 h1 c1 s=>by
  obtain⟨xs,e,hq⟩:=hd
  have c3:=c1.snap
  have e2:=c1.ext
  have sn:=vp e2
  cases s with
  | @shr p ws ys _ _ hp r _ =>
   obtain rfl:=de e
   refine⟨p,rfl,⟨ws,bI.of (e2 _ _ hp)⟩,k _ _ aj _ _ H1 hq (f1.trans sn) h1 c3 ?_ λ_=>⟨r.pl,sC (.inl (sn _ _ hp)) (r.shared sn (ag.refl _)) xh⟩⟩
   rw[q9 r.pl]
   exact sC (.inl (e2 _ _ hp)) (r.shared e2 (ag.refl _)) (Full.refl _)
  | @own p ws ys _ _ hp r _ =>
   obtain rfl:=de e
   refine⟨p,rfl,⟨ws,bI.of hp⟩,k _ _ aj _ _ H1 hq (f1.trans sn) h1 c3 (sC (.inl hp) (r.frozen e2) (Full.refl _)) λz=>by simp[eR]at z⟩
  | @fz p o ws ys _ _ hp r _ =>
   obtain rfl:=de e
   refine⟨p,rfl,⟨ws,.inl (.inr ⟨o,e2 _ _ hp⟩)⟩,k _ _ aj _ _ H1 hq (f1.trans sn) h1 c3 ?_ λ_=>⟨r.pl,sC (.inr ⟨o,sn _ _ hp⟩) (r.shared sn (ag.refl _)) xh⟩⟩
   rw[q9 r.pl]
   exact sC (.inr ⟨o,e2 _ _ hp⟩) (r.shared e2 (ag.refl _)) (Full.refl _)
  | aq _=>cases e
  | bl _=>cases e
  | int _=>cases e
  | str _=>cases e
  | tup _ _ _=>cases e
  | obj _ _ _ _=>cases e
  | bK _ _=>cases e⟩
theorem zy(f:Nat->Int)(l:List Nat):(l.map λk=>D.int (f k)).map D.sh=l.map λk=>D.int (f k):=by simp[D.sh]
theorem Pj(f:Nat->Int)(l:List Nat):(l.map λk=>D.int (f k)).all D.pl=true:=by simp[D.pl]
def mB(t:cJ):kq:=λδ Q=>t δ λds ai=>∃j:Int,ds=[.int j]/\(-(2 ^ 62)<=j/\j<2 ^ 62)/\Q true ((aw j.toNat).map λ(k:Nat)=>D.int (0+(k:Int))) ai
theorem fm{p:Pos}(hg:Gl X "range")(hm:X.mg "range"=none)(ha:PA X [a] (lA ta))(hs:starEach [a] X.env=[(false,eval a X.env)]:=by rfl):PI X tg (.Call (.Name "range" p) [a] [] pos) (lI (mB ta)) :=
 xm (Zx hg hm ha hs) λσ H Q zq=>by
 obtain⟨B,F,δ,ts,Qd,c,q,k⟩:=zq
 exact⟨B,F,δ,ts,_,c,q,λds aj vs F1 H1 hd f1 h1 c1 s=>by
  obtain⟨j,rfl,⟨b1,b2⟩,hq⟩:=hd
  cases s with
  | int s =>
   cases s
   refine⟨j,rfl,b1,b2,k true _ aj _ _ H1 hq f1 h1 c1 ?_ λ_=>⟨Pj _ _,Co 0 _⟩⟩
   rw[zy]
   exact Co 0 _⟩
def mC(t:cJ):kq:=λδ Q=>t δ λds ai=>∃i j:Int,ds=[.int i,.int j]/\(-(2 ^ 62)<=i/\i<2 ^ 62/\-(2 ^ 62)<=j/\j<2 ^ 62)/\Q true ((aw (j-i).toNat).map λ(k:Nat)=>D.int (i+(k:Int))) ai
theorem zA{p:Pos}(hg:Gl X "range")(hm:X.mg "range"=none)(ha:PA X [a,b] (lA ta))(hs:starEach [a,b] X.env=[(false,eval a X.env),(false,eval b X.env)]:=by rfl)(dD:starEach [b] X.env=[(false,eval b X.env)]:=by rfl) :
  PI X tg (.Call (.Name "range" p) [a,b] [] pos) (lI (mC ta)) :=
 xm (Zy hg hm ha hs dD) λσ H Q zq=>by
 obtain⟨B,F,δ,ts,Qd,c,q,k⟩:=zq
 exact⟨B,F,δ,ts,_,c,q,λds aj vs F1 H1 hd f1 h1 c1 s=>by
  obtain⟨i,j,rfl,bd,hq⟩:=hd
  cases s with
  | int s =>
   cases s with
   | int s =>
    cases s
    refine⟨i,j,rfl,bd,k true _ aj _ _ H1 hq f1 h1 c1 ?_ λ_=>⟨Pj _ _,Co i _⟩⟩
    rw[zy]
    exact Co i _⟩
def iH(xs:List D)(g:i8)(tb:c9):c9:=λEn aj=>∃Iv:Nat->Dl->Prop,Iv 0 aj /\
 (∀i d ai,xs[i]?=some d->Iv i ai->g d ai λaY=>tb { En with nx:=Iv (i+1),ct:=Iv (i+1),bk:=En.nx } aY)/\∀ai,Iv xs.length ai->En.nx ai
theorem iH.mk{xs:List D}{g:i8}{tb:c9}{En:vq}{δ:Dl}(Iv:Nat->Dl->Prop)(h0:Iv 0 δ)(ht:∀i d ai,xs[i]?=some d->Iv i ai->g d ai λaY=>tb { En with nx:=Iv (i+1),ct:=Iv (i+1),bk:=En.nx } aY)
  (hf:∀ai,Iv xs.length ai->En.nx ai):iH xs g tb En δ:=⟨Iv,h0,ht,hf⟩
def mD(ti:kq)(g:i8)(tb:c9):c9:=λEn δ=>ti δ λsh xs aj=>sh=true/\iH xs g tb En aj
theorem eU{ti:kq}{g:i8}{body:List Stmt}(hp:PassesOwn (model X.prog X.w) X.A X.env X.xe)(hc:X.calm=true)(hi:PI X tg iter (lI ti))(hg:PG X tg (lG 0 g))(hb:PSs X body (lS X t))
  (hs:∀x,foldedSetIterable iter X.env x=pure x:=by intro _;rfl):PS X (.For tg iter body [] pos) (lS X (mD ti g t)) :=
 jA (ZC hp hc hi hg hb hs) λEn σ H zq=>by
 obtain⟨B,F,δ,Dd,c,q,k1,k2,k3,k4⟩:=zq
 exact⟨B,F,δ,[],_,c,q,λsh xs aj J F1 H1 hq f1 h1 c1 _ jd=>by
  obtain⟨yV,Iv,i0,turn,fin⟩:=hq
  obtain⟨bU,jd⟩:=jd yV
  have un:∀{F' H':Hp} {aL:L2.St} {ai:Dl} {ts:List (D × V)},ak ⟨B.H0,F1⟩ F' H' aL ai ts->ak B F' H' aL ai ts:=λc'=>c'.c33 c1.b2 c1.b3
  refine⟨λi m σ H=>m=xs.length-i/\i<=xs.length/\∃F δ,ak ⟨B.H0,F1⟩ F H σ δ []/\Iv i δ,⟨_,rfl,jl _,F1,aj,c1.rebase,i0⟩,?_⟩
  rintro i m qV H2 ⟨rfl,hi,F2,aY,c2,iv⟩
  have s2:ag F1 H2:=c2.b2.trans c2.ext
  by_cases fL:i<xs.length
  ·refine .inr ⟨jd.go i H2 s2 fL,λaL H'=>∃F δ,ak ⟨B.H0,F1⟩ F H' aL δ []/\Iv (i+1) δ,λaL H' z=>⟨xs.length-(i+1),by omega,rfl,fL,z⟩,λx H3 y=>?_⟩
   obtain⟨d,e,s3,r⟩:=jd.oj i H2 x H3 s2 fL y
   have c3:=(c2.grow s3).pushS (d:=d) (v:=x) ((r.s).mono c2.b2 (ag.refl _)) (by have:=r.pl;simpa using this)
   refine⟨⟨B.H0,F1⟩,F2,aY,[],d,_,c3,turn i d aY e iv,λai aL hq _ _ c4=>?_⟩
   exact⟨⟨B.H0,F1⟩,F2,ai,_,c4,hq,λmE sD F5 H5 h5 c5=>⟨F5,mE,c5,h5⟩,λd5 v5 mE sD F5 H5 h5 c5=>k2 d5 v5 mE sD F5 H5 h5 (un c5),λmE sD F5 H5 h5 c5=>k1 mE sD F5 H5 h5 (un c5),λmE sD F5 H5 h5 c5=>⟨F5,mE,c5,h5⟩,⟨λC mE pins sD F5 H5 s5 a T h5 c5=>k4.2.1 C mE pins sD F5 H5 s5 a T h5 (un c5),λC mE pins sD F5 H5 s5 h' e vs h5 c5=>k4.2.2 C mE pins sD F5 H5 s5 h' e vs h5 (un c5)⟩⟩
  ·have e:i=xs.length:=by omega
   subst e
   exact .inl ⟨jd.stop _ H2 s2 (bG _),k1 aY qV F2 H2 (fin aY iv) (un c2)⟩⟩
end
def gA(δ:Dl)(q:Str × Nat):Option D:=(δ[q.2]?).getD none
def gq(δ:Dl)(q:Str × Nat):Bool:=match gA δ q with
 | some d=>d.pl
 | none=>true
def dP(aD:List (Str × Nat))(n:Nat)(δ:Dl):Dl:=(aD.map λq=>(gA δ q).map D.sh)++aW n none
def sE(sh:Bool)(xs:List D)(aD:List (Str × Nat))(n:Nat)(g:i8)(tt:gn)(te:aI)(aj:Dl)(Q:D->Dl->Prop):Prop:=∃(p:D->Bool) (f:D->D),
 (∀x∈xs.map D.sh,g x (dP aD n aj) λaY=>tt aY λb gM=>b=p x/\(p x=true->te gM λd _=>d=f x)) /\
 ((sh&&aD.all (gq aj))=true\/∀x∈xs.map D.sh,p x=true->(f x).fr=true)/\xs.length<=sizeLine/\Q (.lst true (((xs.map D.sh).filter p).map f)) aj
def jE(ti:kq)(aD:List (Str × Nat))(n:Nat)(g:i8)(tt:gn)(te:aI):aI:=λδ Q=>ti δ λsh xs aj=>sE sh xs aD n g tt te aj Q
def gB:gn:=λδ Q=>Q true δ
theorem GS{sh:Bool}{xs:List D}{aD:List (Str × Nat)}{n m:Nat}{te:aI}{aj:Dl}{Q:D->Dl->Prop}(f:D->D)(hx:∀x∈xs.map D.sh,te ((dP aD n aj).set m (some x)) λd _=>d=f x)
  (fM:(sh&&aD.all (gq aj))=true\/∀x∈xs.map D.sh,(f x).fr=true) (hl:xs.length<=sizeLine) (hq:Q (.lst true ((xs.map D.sh).map f)) aj):sE sh xs aD n (gN m) gB te aj Q :=
 ⟨λ_=>true,f,λx h=>⟨rfl,λ_=>hx x h⟩,fM.imp id λh x hx _=>h x hx,hl,by rw[X6.mpr (λ_ _=>rfl)];exact hq⟩
theorem bV2{sh:Bool}{a:List Int}{aD:List (Str × Nat)}{n m:Nat}{te:aI}{aj:Dl}{Q:D->Dl->Prop}(f:Int->Int)(hl:a.length<=sizeLine)(hx:∀i∈a,te ((dP aD n aj).set m (some (.int i))) λd _=>d=.int (f i))
  (hq:Q (.lst true ((a.map f).map D.int)) aj):sE sh (a.map D.int) aD n (gN m) gB te aj Q:=by
 refine GS (λx=>match x with | .int i=>.int (f i) | _=>.aq) (λx h=>?_) (.inr λx h=>?_) (by simpa using hl) ?_
 ·obtain⟨y,hy,rfl⟩:=aT.mp h
  obtain⟨i,hi,rfl⟩:=aT.mp hy
  exact hx i hi
 ·obtain⟨y,hy,rfl⟩:=aT.mp h
  obtain⟨i,hi,rfl⟩:=aT.mp hy
  rfl
 ·have:((a.map D.int).map D.sh).map (λx=>match x with | .int i=>D.int (f i) | _=>.aq)=(a.map f).map D.int:=by simp[D.sh]
  rw[this];exact hq
section
variable{B:Bs}{F H:Hp}{σ:L2.St}{δ:Dl}{ts:List (D × V)}
theorem Pk(c:ak B F H σ δ ts)(n:Nat):∀(aD:List (Str × Nat)),aD.all (gq δ)=true->RS F H (dP aD n δ) (iZ aD n σ) []
 | [],_=>by
  have z:∀n,RS F H (aW n none) (aW n none) []:=λn=>by
   induction n with
   | zero=>exact .nil
   | succ n ih=>exact .aq ih
  exact z n
 | q::r,h=>by
  rw[cH,eZ]at h
  have ih:=Pk c n r h.2
  show RS F H ((gA δ q).map D.sh::dP r n δ) ((σ[q.2]?).getD none::iZ r n σ) []
  cases e:gA δ q with
  | none=>exact .aq ih
  | some d =>
   have e2:δ[q.2]?=some (some d):=by
    unfold gA at e
    cases z:δ[q.2]? with
    | none=>rw[z]at e;cases e
    | some o=>rw[z]at e;exact congrArg some e
   have hp:d.pl=true:=by have:=h.1;unfold gq at this;rw[e]at this;exact this
   obtain⟨v,e3,s⟩:=c.look e2
   rw[e3]
   show RS F H (some d.sh::_) (some v::_) []
   rw[D.Ci hp]
   exact .dO (A:=[]) (s.r (by simp[hp])) ih
theorem Pl(c:ak B F H σ δ ts)(n:Nat):∀(aD:List (Str × Nat)),RS H H (dP aD n δ) (iZ aD n σ) []
 | []=>by
  have z:∀n,RS H H (aW n none) (aW n none) []:=λn=>by
   induction n with
   | zero=>exact .nil
   | succ n ih=>exact .aq ih
  exact z n
 | q::r=>by
  have ih:=Pl c n r
  show RS H H ((gA δ q).map D.sh::dP r n δ) ((σ[q.2]?).getD none::iZ r n σ) []
  cases e:gA δ q with
  | none=>exact .aq ih
  | some d =>
   have e2:δ[q.2]?=some (some d):=by
    unfold gA at e
    cases z:δ[q.2]? with
    | none=>rw[z]at e;cases e
    | some o=>rw[z]at e;exact congrArg some e
   obtain⟨v,e3,s⟩:=c.look e2
   rw[e3]
   exact .dO (A:=[]) (s.frozen c.ext) ih
theorem Pm{α:Type}(xs:List α)(p:α->Bool)(i:Nat)(x:α)(h:xs[i]?=some x):(xs.take (i+1)).filter p=(xs.take i).filter p++(if p x=true then [x]else []):=by
 rw[rQ,h,List.filter_append]
 simp only[Nf]
 by_cases hp:p x=true<;>simp[hp]
end
section
variable{X:Cx}{elt iter tg:Expr}{pos:Pos}{ifs:List Expr}{scope:Scope}{cl:List (Str × Addr)}{ti:kq}{tt:gn}{te:aI}{g:i8}
theorem GU{B:Bs}{F1 H1:Hp}{σ:L2.St}{aj:Dl}{ts:List (D × V)}{J:It}{Qd:D->Dl->Prop}{Q:VK}{xs:List D}{sh:Bool}{aD:List (Str × Nat)}{n:Nat}(c1:ak B F1 H1 σ aj ts)
  (sF:JD J H1 (xs.map D.sh)) (vv:sh=true->xs.all D.pl=true/\JD J F1 xs) (p:D->Bool) (f:D->D)
  (hx:∀x∈xs.map D.sh,g x (dP aD n aj) λaY=>tt aY λb gM=>b=p x/\(p x=true->te gM λd _=>d=f x))
  (fM:(sh&&aD.all (gq aj))=true\/∀x∈xs.map D.sh,p x=true->(f x).fr=true) (hlen:xs.length<=sizeLine) (hq:Qd (.lst true (((xs.map D.sh).filter p).map f)) aj)
  (k:∀d ai v F' H',Qd d ai->ag F1 F'->ag H1 H'->ak B F' H' σ ai ((d,v)::ts)->Q v H'):O5 J aD n (lG aD.length g) (lT tt) (lE te) σ H1 Q:=by
 intro Dp hD
 have cD:ak B F1 (upd H1 Dp (.lst [])) σ aj ((.lst true [],.ref Dp)::ts):=c1.rh hD .nil rfl
 refine⟨λi m acc H2=>m=xs.length-i/\i<=xs.length/\H2 Dp=some (.lst acc)/\ag H1 H2/\acc.length<=i/\∃F2,ag F1 F2 /\
  ak B F2 H2 σ aj ((.lst true ((((xs.map D.sh).take i).filter p).map f),.ref Dp)::ts),⟨xs.length,rfl,jl _,bS,ag.upd hD,bG _,F1,ag.refl _,by simpa using cD⟩,?_⟩
 rintro i m acc H2 ⟨rfl,hi,zB,zC,hal,F2,sG,c2⟩
 refine⟨zB,?_⟩
 by_cases fL:i<xs.length
 case neg =>
  have e:i=xs.length:=by omega
  subst e
  refine .inl ⟨sF.stop _ H2 zC (by simp),k _ aj _ F2 H2 ?_ sG zC c2⟩
  have:(xs.map D.sh).take xs.length=xs.map D.sh:=by rw[E2 (by simp)]
  rw[this]
  exact hq
 case pos =>
  refine .inr ⟨sF.go i H2 zC (by simpa using fL),λx H3 y=>?_⟩
  obtain⟨d0,e0,GV,r0⟩:=sF.oj i H2 x H3 zC (by simpa using fL) y
  have Pn:d0∈xs.map D.sh:=uM e0
  have Po:H3 Dp=some (.lst acc):=GV _ _ zB
  have c3:=c2.grow GV
  have GW:=zC.trans GV
  refine⟨Po,?_⟩
  have ku:=hx d0 Pn
  have turn:∀Fi,ag Fi H3->RS Fi H3 (dP aD n aj) (iZ aD n σ) []->S Fi H3 [d0] [x]->d0.pl=true ->
    (∀d v F' H' A,d=f d0->p d0=true->ag H3 H'->ag Fi F'->ag F' H'->(∀a ws,F' a=some (.lst ws)->Fi a=some (.lst ws)\/H3 a=none)->R F' H' [d] [v] A->A.Nodup->(∀a∈A,H3 a=none) ->
     ∃F4,ag F2 F4/\ak B F4 H' σ aj ((d,v)::(.lst true ((((xs.map D.sh).take i).filter p).map f),.ref Dp)::ts)) ->
    lG aD.length g x (iZ aD n σ) H3 λiD H4 =>
     (iD.length=(iZ aD n σ).length/\∀j,j<aD.length->iD[j]?=(iZ aD n σ)[j]?)/\lT tt iD H4 λb H5=>H5 Dp=some (.lst acc) /\
     if b=true then lE te iD H5 λy H6=>H6 Dp=some (.lst acc)/\acc.length<sizeLine/\∃m',m'<xs.length-i /\
      (m'=xs.length-(i+1)/\i+1<=xs.length/\upd H6 Dp (.lst (acc++[y])) Dp=some (.lst (acc++[y]))/\ag H1 (upd H6 Dp (.lst (acc++[y])))/\(acc++[y]).length<=i+1/\∃F2,ag F1 F2 /\
       ak B F2 (upd H6 Dp (.lst (acc++[y]))) σ aj ((.lst true ((((xs.map D.sh).take (i+1)).filter p).map f),.ref Dp)::ts))
     else ∃m',m'<xs.length-i/\(m'=xs.length-(i+1)/\i+1<=xs.length/\H5 Dp=some (.lst acc)/\ag H1 H5/\acc.length<=i+1/\∃F2,ag F1 F2 /\
       ak B F2 H5 σ aj ((.lst true ((((xs.map D.sh).take (i+1)).filter p).map f),.ref Dp)::ts)):=by
   intro Fi hFi hRS hS bU back
   have ci:ak ⟨H3,Fi⟩ Fi H3 (iZ aD n σ) (dP aD n aj) []:=⟨hFi,ag.refl _,ag.refl _,λ_ _ q=>.inl q,[],[],.nil,hRS,by simp,by simp⟩
   refine⟨⟨H3,Fi⟩,Fi,dP aD n aj,[],d0,_,ci.pushS hS bU,ku,λai iD hq1 l1 k1 c4=>⟨⟨l1,k1⟩,⟨H3,Fi⟩,Fi,ai,[],_,c4,hq1,λb mE F5 H5 hb f5 h5 c5=>?_⟩⟩
   obtain⟨hb,ht⟩:=hb
   have Cp:H5 Dp=some (.lst acc):=h5 _ _ Po
   refine⟨Cp,?_⟩
   by_cases hp:p d0=true
   ·rw[hb,hp]
    refine tZ ⟨⟨H3,Fi⟩,F5,mE,[],_,c5,ht hp,λd δ6 v F6 H6 hd f6 h6 c6=>?_⟩
    have Pp:H6 Dp=some (.lst acc):=h6 _ _ Cp
    obtain⟨A,C,r,s,nd,fr⟩:=c6.own
    obtain⟨F4,xn,c7⟩:=back d v F6 H6 A hd hp c6.b1 c6.b2 c6.ext c6.b3 r (i5.mp nd).1 λa ha=>fr a (fI _ ha)
    have c8:=c7.c38 Pp
    refine⟨Pp,by omega,xs.length-(i+1),by omega,rfl,fL,bS,?_,by simpa using hal,F4,sG.trans xn,?_⟩
    ·have Pq:=GW.trans c6.b1
     exact⟨λa o q n=>by rw[bc (e7 q hD)];exact Pq.get a o q n,λa ps q=>by rw[bc (e7 q hD)];exact Pq.tb a ps q⟩
    ·have e9:(((xs.map D.sh).take (i+1)).filter p).map f=(((xs.map D.sh).take i).filter p).map f++[d]:=by
      rw[Pm _ p i d0 e0,hp,hd];simp
     rw[e9]
     exact c8
   ·have Cq:p d0=false:=by simpa using hp
    rw[hb,Cq]
    refine lN ⟨xs.length-(i+1),by omega,rfl,fL,Cp,GW.trans h5,by omega,F2,sG,?_⟩
    have e9:(((xs.map D.sh).take (i+1)).filter p).map f=(((xs.map D.sh).take i).filter p).map f:=by
     rw[Pm _ p i d0 e0,Cq];simp
    rw[e9]
    exact c3.grow h5
  by_cases hA:(sh&&aD.all (gq aj))=true
  ·rw[eZ]at hA
   obtain⟨bU,jd⟩:=vv hA.1
   have yV:=q9 bU
   rw[yV]at e0
   obtain⟨d1,e1,_,r1⟩:=jd.oj i H2 x H3 (sG.trans c2.ext) fL y
   rw[e0]at e1;cases e1
   have c53:d0.pl=true:=by have:=r1.pl;simpa using this
   refine turn F2 c3.ext (Pk c3 n aD hA.2) ((r1.s).mono sG (ag.refl _)) c53 λd v F' H' A hd hp hs hf he h3 r nd fr=>⟨F',hf,c3.call hs hf he h3 r nd fr⟩
  ·have c54:=fM.resolve_left hA
   refine turn H3 (ag.refl _) (Pl c3 n aD) ((r0.shared GW (ag.refl _)).s) (by have:=r0.pl;simpa using this) λd v F' H' A hd hp hs hf he h3 r nd fr=>⟨F2,ag.refl _,?_⟩
   exact c3.GL hs (r.xg (by rw[hd];simp[c54 d0 Pn hp]) (c3.ext.trans hf)) nd fr
theorem dX{Y:Cx}:qZ Y [] (lT gB):=λ_ _ _ H _ I ⟨B,F,δ,ts,Qd,c,q,k⟩=>cl9 _ _ _ H _ I (k true δ F H q (ag.refl _) (ag.refl _) c)
theorem GX{Y:Cx}{c:Expr}(h:PT Y c (lT tt)):qZ Y [c] (lT tt):=cn0 h
end
section
variable{X:Cx}{F H:Hp}{v w:V}
def l2(rd:cS):R2:=λv w H Q=>∃B F σ δ ts x y Qd,ak B F H σ δ ts/\S F H [x] [v]/\S F H [y] [w]/\rd x y Qd/\∀d z H',Qd d->ag H H'->ak B F H' σ δ ((d,z)::ts)->Q z H'
theorem bW.of{f:Value->Value->Sem Value}{rd:cS}(h:cI X f (l2 rd)):bW X f rd:=⟨_,h,λ{B F H σ δ ts x y v w Q Qd} c sx sy q k=>⟨B,F,σ,δ,ts,x,y,Qd,c,sx,sy,q,k⟩⟩
theorem xo{f:Value->Value->Sem Value}{C:Int->Int->Prop}{g:Int->Int->V}{gd:Int->Int->D}(ho:cI X f (rI C g))(hg:∀i j F H,S F H [gd i j] [g i j])(hp:∀i j,(gd i j).pl=true):bW X f λx y Q=>∃i j,x=.int i/\y=.int j/\C i j/\Q (gd i j) :=
 ⟨_,ho,λ{B F H σ δ ts x y v w Q Qd} c sx sy h k=>by
  obtain⟨i,j,rfl,rfl,hc,q⟩:=h
  cases sx;cases sy
  exact⟨i,j,rfl,rfl,hc,k _ _ _ q (ag.refl _) (c.pushS (hg i j F H) (hp i j))⟩⟩
theorem rm{f:Value->Value->Sem Value}{g:Int->Int->V}{gd:Int->Int->D}(ho:cI X f (lJ g))(hg:∀i j F H,S F H [gd i j] [g i j])(hp:∀i j,(gd i j).pl=true):bW X f λx y Q=>∃i j,x=.int i/\y=.int j/\Q (gd i j) :=
 ⟨_,ho,λ{B F H σ δ ts x y v w Q Qd} c sx sy h k=>by
  obtain⟨i,j,rfl,rfl,q⟩:=h
  cases sx;cases sy
  exact⟨i,j,rfl,rfl,k _ _ _ q (ag.refl _) (c.pushS (hg i j F H) (hp i j))⟩⟩
theorem iJ{o:Bool}{xs:List D}(s:S F H [.lst o xs] [v])(e:ag F H):∃p ws,v=.ref p/\H p=some (.lst ws)/\S F H xs ws:=by
 cases s with
 | shr h r _=>exact⟨_,_,rfl,e _ _ h,r.s⟩
 | own h r _=>exact⟨_,_,rfl,h,r⟩
theorem qh{xs:List D}(s:S F H [.tup xs] [v]):∃p ws,v=.ref p/\H p=some (.tup ws)/\S F H xs ws:=by
 cases s with
 | tup h r _=>exact⟨_,_,rfl,h,r⟩
theorem oq{d:D}{xs:List D}(s:S F H [d] [v])(e:ag F H)(h:gO d=some xs):∃p ws,v=.ref p/\Rd H p (.lst ws)/\S F H xs ws:=by
 cases s with
 | shr h' r _=>cases h;exact⟨_,_,rfl,.inl (e _ _ h'),r.s⟩
 | own h' r _=>cases h;exact⟨_,_,rfl,.inl h',r⟩
 | fz h' r _=>cases h;exact⟨_,_,rfl,.inr ⟨_,e _ _ h'⟩,r.s⟩
 | aq _=>cases h
 | bl _=>cases h
 | int _=>cases h
 | str _=>cases h
 | tup _ _ _=>cases h
 | obj _ _ _ _=>cases h
 | bK _ _=>cases h
theorem S.rep{xs:List D}{ws:List V}(s:S F H xs ws):∀k:Nat,S F H (aW k xs).flatten (aW k ws).flatten
 | 0=>by simpa using S.nil
 | k+1=>by
  rw[uO,uO,wo,wo]
  exact s.append (S.rep s k)
def kx:cS:=λx y Q=>match x,y with
 | .int i,.int j=>Q (.int (i+j))
 | .str a,.str b=>a.length+b.length<=sizeLine/\Q (.str (a++b))
 | .lst _ xs,.lst _ ys=>(xs.length+ys.length<=sizeLine/\xs.all D.pl=true/\ys.all D.pl=true)/\Q (.lst true (xs++ys))
 | _,_=>False
theorem cL6:bW X (binaryOp .Add) λx y Q=>∃o xs o' ys,x=.lst o xs/\y=.lst o' ys/\(xs.length+ys.length<=sizeLine/\xs.all D.pl=true/\ys.all D.pl=true)/\Q (.lst true (xs++ys)) :=
 ⟨_,OF,λ{B F H σ δ ts x y v w Q Qd} c sx sy h k=>by
  obtain⟨o,xs,o',ys,rfl,rfl,⟨hz,h1,h2⟩,q⟩:=h
  obtain⟨p,ws,rfl,e1,s1⟩:=iJ sx c.ext
  obtain⟨p',gz,rfl,e2,s2⟩:=iJ sy c.ext
  refine⟨p,p',ws,gz,rfl,rfl,e1,e2,by rw[<-s1.length,<- s2.length];exact hz,λr hr=>?_⟩
  exact k _ _ _ q (ag.upd hr) (c.rh hr (s1.append s2) (by simp[h1,h2]))⟩
theorem c56:bW X (binaryOp .Add) λx y Q=>∃i j,x=.str i/\y=.str j/\i.length+j.length<=sizeLine/\Q (.str (i++j)) :=
 ⟨_,ZY,λ{B F H σ δ ts x y v w Q Qd} c sx sy h k=>by
  obtain⟨i,j,rfl,rfl,hz,q⟩:=h
  cases sx;cases sy
  exact⟨i,j,rfl,rfl,hz,k _ _ _ q (ag.refl _) (c.pushS (.str .nil) rfl)⟩⟩
theorem cm:bW X (binaryOp .Add) kx:=((rm (gd:=λi j=>.int (i+j)) ZG (λ_ _ _ _=>.int .nil) λ_ _=>rfl).or (c56.or cL6)).imp λx y Q h=>by
 unfold kx at h
 split at h
 ·exact .inl ⟨_,_,rfl,rfl,h⟩
 ·exact .inr (.inl ⟨_,_,rfl,rfl,h.1,h.2⟩)
 ·exact .inr (.inr ⟨_,_,_,_,rfl,rfl,h.1,h.2⟩)
 ·exact h.elim
def iI(C:Int->Int->Prop)(g:Int->Int->D):cS:=λx y Q=>match x,y with
 | .int i,.int j=>C i j/\Q (g i j)
 | _,_=>False
def fA(g:Int->Int->D):cS:=λx y Q=>match x,y with
 | .int i,.int j=>Q (g i j)
 | _,_=>False
theorem zD{f:Value->Value->Sem Value}{C:Int->Int->Prop}{g:Int->Int->D}(h:bW X f λx y Q=>∃i j,x=.int i/\y=.int j/\C i j/\Q (g i j)):bW X f (iI C g):=h.imp λx y Q h=>by
 unfold iI at h
 split at h
 ·exact⟨_,_,rfl,rfl,h.1,h.2⟩
 ·exact h.elim
theorem sH{f:Value->Value->Sem Value}{g:Int->Int->D}(h:bW X f λx y Q=>∃i j,x=.int i/\y=.int j/\Q (g i j)):bW X f (fA g):=h.imp λx y Q h=>by
 unfold fA at h
 split at h
 ·exact⟨_,_,rfl,rfl,h⟩
 ·exact h.elim
def mF:cS:=fA λi j=>.int (i-j)
theorem dq:bW X (binaryOp .Sub) mF:=sH (rm FP (λ_ _ _ _=>.int .nil) λ_ _=>rfl)
def GY(_ j:Int):Prop:=0<j/\j.natAbs.log2<9000
theorem ue{i j:Int}(h1:0<j)(h2:j<1073741824):GY i j:=⟨h1,by
 have h:j.natAbs<2 ^ 30:=by omega
 have:=(EO (show j.natAbs≠0 by omega)).mpr h
 omega⟩
theorem b84:cI X (binaryOp .FloorDiv) (rI GY λi j=>.int (i/j)):=wW λi j _ _ _ _ _ hc q =>
 floordiv_int (show j≠0 by have:=hc.1;omega) (by rw[XW i (by have:=hc.1;omega)];exact q) (.inl (PyProof.noPylong_of_log2 hc.2))
def mG:cS:=iI GY λi j=>.int (i/j)
theorem sJ:bW X (binaryOp .FloorDiv) mG:=zD (xo b84 (λ_ _ _ _=>.int .nil) λ_ _=>rfl)
def mH:cS:=iI (λ_ j=>0<j) λi j=>.int (i%j)
theorem fo:bW X (binaryOp .Mod) mH:=zD (xo ZH (λ_ _ _ _=>.int .nil) λ_ _=>rfl)
def mI:cS:=iI O2 λi j=>.int (i*2 ^ j.toNat)
theorem zE:bW X (binaryOp .LShift) mI:=zD (xo O3 (λ_ _ _ _=>.int .nil) λ_ _=>rfl)
def mJ:cS:=iI (λ_ j=>0<=j) λi j=>.int (i/2 ^ j.toNat)
theorem cM0:bW X (binaryOp .RShift) mJ:=zD (xo ZI (λ_ _ _ _=>.int .nil) λ_ _=>rfl)
def mK:cS:=fA λi j=>.int (uL i j)
theorem cI6:bW X (binaryOp .BitAnd) mK:=sH (rm ZJ (λ_ _ _ _=>.int .nil) λ_ _=>rfl)
def mM:cS:=fA λi j=>.int (tI i j)
theorem Pr:bW X (binaryOp .BitXor) mM:=sH (rm ZK (λ_ _ _ _=>.int .nil) λ_ _=>rfl)
theorem cd5:cI X (binaryOp .Mult) (rI IntMulOk λi j=>.int (i*j)):=wW λ_ _ _ _ _ _ _ hc q=>mul_int q hc
def ky:cS:=λx y Q=>match x,y with
 | .int i,.int j=>IntMulOk i j/\Q (.int (i*j))
 | .lst _ xs,.int k=>(-(2 ^ 63)<=k/\k<2 ^ 63/\xs.length*k.toNat<=sizeLine/\xs.all D.pl=true)/\Q (.lst true (aW k.toNat xs).flatten)
 | _,_=>False
theorem cI9:bW X (binaryOp .Mult) λx y Q=>∃o xs k,x=.lst o xs/\y=.int k/\(-(2 ^ 63)<=k/\k<2 ^ 63/\xs.length*k.toNat<=sizeLine/\xs.all D.pl=true)/\Q (.lst true (aW k.toNat xs).flatten) :=
 ⟨_,cD5,λ{B F H σ δ ts x y v w Q Qd} c sx sy h k=>by
  obtain⟨o,xs,n,rfl,rfl,⟨b1,b2,hz,h1⟩,q⟩:=h
  obtain⟨p,ws,rfl,e1,s1⟩:=iJ sx c.ext
  cases sy
  refine⟨p,n,ws,rfl,rfl,e1,b1,b2,by rw[<-s1.length];exact hz,λr hr=>?_⟩
  refine k _ _ _ q (ag.upd hr) (c.rh hr (s1.rep _) ?_)
  rw[bZ]
  intro x hx
  obtain⟨l,hl,Pt⟩:=E3.mp hx
  rw[(wu.mp hl).2]at Pt
  exact bZ.mp h1 x Pt⟩
theorem dQ:bW X (binaryOp .Mult) ky:=((xo (gd:=λi j=>.int (i*j)) cd5 (λ_ _ _ _=>.int .nil) λ_ _=>rfl).or cI9).imp λx y Q h=>by
 unfold ky at h
 split at h
 ·exact .inl ⟨_,_,rfl,rfl,h.1,h.2⟩
 ·exact .inr ⟨_,_,_,rfl,rfl,h.1,h.2⟩
 ·exact h.elim
theorem cw5:bW X (inplaceOp .Add) (fA λi j=>.int (i+j)):=sH (rm ZL (λ_ _ _ _=>.int .nil) λ_ _=>rfl)
theorem GZ:bW X (inplaceOp .BitXor) (fA λi j=>.int (tI i j)):=sH (rm ZM (λ_ _ _ _=>.int .nil) λ_ _=>rfl)
theorem b02:cI X (inplaceOp .Mult) (rI IntMulOk λi j=>.int (i*j)):=wW λ_ _ _ _ _ _ _ hc q=>imul_int q hc
theorem cD4:bW X (inplaceOp .Mult) (iI IntMulOk λi j=>.int (i*j)):=zD (xo b02 (λ_ _ _ _=>.int .nil) λ_ _=>rfl)
def mN:cS:=fA λi j=>.bl (decide (i<j))
def mO:cS:=fA λi j=>.bl (decide (i<=j))
def mP:cS:=fA λi j=>.bl (decide (j<i))
def mQ:cS:=fA λi j=>.bl (decide (j<=i))
theorem xp:bW X (compareOp .Lt) mN:=sH (rm ZQ (λ_ _ _ _=>.bl .nil) λ_ _=>rfl)
theorem jF:bW X (compareOp .LtE) mO:=sH (rm ZR (λ_ _ _ _=>.bl .nil) λ_ _=>rfl)
theorem zF:bW X (compareOp .Gt) mP:=sH (rm ZS (λ_ _ _ _=>.bl .nil) λ_ _=>rfl)
theorem cR1:bW X (compareOp .GtE) mQ:=sH (rm ZT (λ_ _ _ _=>.bl .nil) λ_ _=>rfl)
def jG:D->Bool
 | .aq=>true
 | _=>false
def kz:cS:=λx y Q=>match y with
 | .aq=>Q (.bl (!jG x))
 | _=>False
theorem cp2{d:D}(s:S F H [d] [v]):decide (v=.aq)=jG d:=by cases s<;>simp[jG]
theorem cy0:bW X (compareOp .IsNot) kz:=⟨_,ZU,λ{B F H σ δ ts x y v w Q Qd} c sx sy h k=>by
 unfold kz at h
 split at h
 ·cases sy
  refine⟨rfl,?_⟩
  rw[cp2 sx]
  exact k _ _ _ h (ag.refl _) (c.pushS (.bl .nil) rfl)
 ·exact h.elim⟩
def bP:D->D->Bool
 | .aq,.aq=>true
 | .bl a,.bl b=>a==b
 | .bl a,.int b=>(if a then 1 else 0)==b
 | .int a,.bl b=>a==(if b then 1 else 0)
 | .int a,.int b=>a==b
 | .str a,.str b=>a==b
 | .lst _ xs,.lst _ ys=>gC xs ys
 | .tup xs,.tup ys=>gC xs ys
 | _,_=>false
where gC:List D->List D->Bool
 | [],[]=>true
 | x::xs,y::ys=>bP x y&&gC xs ys
 | _,_=>false
def dR:Nat->D->Bool
 | _,.aq=>true
 | _,.bl _=>true
 | _,.int _=>true
 | _,.str _=>true
 | n+1,.lst _ xs=>xs.all (dR n)
 | n+1,.tup xs=>xs.all (dR n)
 | _,_=>false
theorem G1:∀(xs ys:List D),xs.length=ys.length->bP.gC xs ys=(aw xs.length).all λj=>bP (xs.getD j .aq) (ys.getD j .aq)
 | [],[],_=>rfl
 | x::xs,y::ys,h=>by
  rw[eK,E4,cH,tN]
  show(bP x y&&bP.gC xs ys)=_
  rw[G1 xs ys (by simpa using h)]
  rfl
theorem G2:∀(xs ys:List D),xs.length≠ys.length->bP.gC xs ys=false
 | [],[],h=>absurd rfl h
 | [],_::_,_=>rfl
 | _::_,[],_=>rfl
 | x::xs,y::ys,h=>by
  show(bP x y&&bP.gC xs ys)=false
  rw[G2 xs ys (by simpa using h),EN]
def ofV:V->D
 | .bl b=>.bl b
 | .int i=>.int i
 | .str z=>.str z
 | _=>.aq
theorem zG{x:D}{v:V}(h:dR 0 x=true)(s:S F H [x] [v]):x=ofV v:=by
 cases s with
 | aq _=>rfl
 | bl _=>rfl
 | int _=>rfl
 | str _=>rfl
 | _=>cases h
theorem Pu{x:D}(h:dR 0 x=true):bP x x=true:=by
 cases x with
 | aq=>rfl
 | bl b=>exact beq_self_eq_true b
 | int i=>exact beq_self_eq_true i
 | str z=>exact beq_self_eq_true z
 | _=>cases h
theorem uf{n:Nat}{x:D}(h:dR (n+1) x=true):dR 0 x=true\/(∃o xs,x=.lst o xs/\xs.all (dR n)=true)\/∃xs,x=.tup xs/\xs.all (dR n)=true:=by
 cases x with
 | lst o xs=>exact .inr (.inl ⟨o,xs,rfl,h⟩)
 | tup xs=>exact .inr (.inr ⟨xs,rfl,h⟩)
 | obj _ _ _=>exact absurd h jk
 | fz _=>exact absurd h jk
 | bK _=>exact absurd h jk
 | _=>exact .inl rfl
theorem Cr{x:D}{p:Addr}(h:dR 0 x=true)(s:S F H [x] [.ref p]):False:=by
 rw[zG h s]at s
 cases s
theorem Pw:∀(n:Nat) {xs ys:List D} {vs:List V},xs.all (dR n)=true->ys.all (dR n)=true->S F H xs vs->S F H ys vs->ag F H->bP.gC xs ys=true:=by
 intro n xs
 induction n generalizing xs with
 | zero =>
  induction xs with
  | nil=>intro ys vs _ _ s1 s2 _;cases s1;cases s2;rfl
  | cons x xs ih =>
   intro ys vs h1 h2 s1 s2 e
   obtain⟨v,b8,rfl,q1,r1⟩:=s1.cX
   cases ys with
   | nil=>cases s2
   | cons y ys =>
    obtain⟨v',GJ,ee,q2,r2⟩:=s2.cX
    obtain⟨rfl,rfl⟩:=rP ee
    rw[cH,eZ]at h1 h2
    show(bP x y&&bP.gC xs ys)=true
    rw[ih h1.2 h2.2 r1 r2 e,iA,zG h2.1 q2,<- zG h1.1 q1]
    exact Pu h1.1
 | succ n Px =>
  induction xs with
  | nil=>intro ys vs _ _ s1 s2 _;cases s1;cases s2;rfl
  | cons x xs ih =>
   intro ys vs h1 h2 s1 s2 e
   obtain⟨v,b8,rfl,q1,r1⟩:=s1.cX
   cases ys with
   | nil=>cases s2
   | cons y ys =>
    obtain⟨v',GJ,ee,q2,r2⟩:=s2.cX
    obtain⟨rfl,rfl⟩:=rP ee
    rw[cH,eZ]at h1 h2
    show(bP x y&&bP.gC xs ys)=true
    rw[ih h1.2 h2.2 r1 r2 e,iA]
    have h1:=h1.1
    have h2:=h2.1
    clear ih r1 r2 s1 s2
    rcases uf h1 with k1 | ⟨o1,a1,rfl,k1⟩ | ⟨a1,rfl,k1⟩
    ·rcases uf h2 with k2 | ⟨o2,a2,rfl,k2⟩ | ⟨a2,rfl,k2⟩
     ·rw[zG k2 q2,<- zG k1 q1]
      exact Pu k1
     ·obtain⟨p,ws,rfl,_⟩:=iJ q2 e
      exact(Cr k1 q1).elim
     ·obtain⟨p,ws,rfl,_⟩:=qh q2
      exact(Cr k1 q1).elim
    ·obtain⟨p,ws,rfl,e1,t1⟩:=iJ q1 e
     rcases uf h2 with k2 | ⟨o2,a2,rfl,k2⟩ | ⟨a2,rfl,k2⟩
     ·exact(Cr k2 q2).elim
     ·obtain⟨p2,G3,ev,e2,t2⟩:=iJ q2 e
      cases ev
      cases e1.symm.trans e2
      exact Px k1 k2 t1 t2 e
     ·obtain⟨p2,G3,ev,e2,t2⟩:=qh q2
      cases ev
      cases e1.symm.trans e2
    ·obtain⟨p,ws,rfl,e1,t1⟩:=qh q1
     rcases uf h2 with k2 | ⟨o2,a2,rfl,k2⟩ | ⟨a2,rfl,k2⟩
     ·exact(Cr k2 q2).elim
     ·obtain⟨p2,G3,ev,e2,t2⟩:=iJ q2 e
      cases ev
      cases e1.symm.trans e2
     ·obtain⟨p2,G3,ev,e2,t2⟩:=qh q2
      cases ev
      cases e1.symm.trans e2
      exact Px k1 k2 t1 t2 e
end
structure Py(A:Around)(s:Shared)(u w:Value)(b:Bool):Prop where
 rc:SeqAt.RcAt A s u w b
 ne:SeqAt.RcNeAt A s u w (!b)
 eq:EK A s u w b
section
variable{X:Cx}{F H:Hp}{v w:V}
theorem Pz{xs:List V}{us:List Value}(r:Vals xs us){j:Nat}(h:j<us.toArray.size):∃x,xs[j]?=some x/\RelV x us.toArray[j]:=by
 have l:=r.length
 have hj:j<xs.length:=by rw[l];simpa using h
 obtain⟨u,e,q⟩:=r.get (aJ hj)
 obtain⟨_,z⟩:=kY.mp e
 refine⟨_,aJ hj,?_⟩
 have:us.toArray[j]=u:=by simpa using z
 rw[this];exact q
theorem PB{xs:List D}{j:Nat}{d:D}(h:xs[j]?=some d):xs.getD j .aq=d:=by rw[aF,h];rfl
theorem xq{x:D}{v:V}{u:Value}(h:dR 0 x=true)(s:S F H [x] [v])(r:RelV v u):(x=.aq/\u=.none)\/(∃b,x=.bl b/\u=.bool b)\/(∃i t,x=.int i/\u=.int i t)\/∃z t,x=.str z/\u=.str z t:=by
 cases s with
 | aq _=>cases r;exact .inl ⟨rfl,rfl⟩
 | bl _=>cases r;exact .inr (.inl ⟨_,rfl,rfl⟩)
 | int _=>obtain⟨t,rfl⟩:=r;exact .inr (.inr (.inl ⟨_,t,rfl,rfl⟩))
 | str _=>obtain⟨t,rfl⟩:=r;exact .inr (.inr (.inr ⟨_,t,rfl,rfl⟩))
 | _=>exact absurd h jk
theorem PC{x y:D}{u u':Value}{A:Around}{s:Shared}(h1:(x=.aq/\u=.none)\/(∃b,x=.bl b/\u=.bool b)\/(∃i t,x=.int i/\u=.int i t)\/∃z t,x=.str z/\u=.str z t)(h2:(y=.aq/\u'=.none)\/(∃b,y=.bl b/\u'=.bool b)\/(∃i t,y=.int i/\u'=.int i t)\/∃z t,y=.str z/\u'=.str z t):Py A s u u' (bP x y):=by
 rcases h1 with⟨rfl,rfl⟩ | ⟨a,rfl,rfl⟩ | ⟨a,t,rfl,rfl⟩ | ⟨a,t,rfl,rfl⟩<;>rcases h2 with⟨rfl,rfl⟩ | ⟨b,rfl,rfl⟩ | ⟨b,t',rfl,rfl⟩ | ⟨b,t',rfl,rfl⟩
 ·exact⟨.none_none,.none_none,.same _⟩
 ·exact⟨.none_bool _,.none_bool _,.none_bool _⟩
 ·exact⟨.none_int _ _,.none_int _ _,.none_int _ _⟩
 ·exact⟨.none_str _ _,.none_str _ _,.none_str _ _⟩
 ·exact⟨.bool_none _,.bool_none _,.bool_none _⟩
 ·exact⟨.bool_bool _ _,.bool_bool _ _,.bool_bool _ _⟩
 ·exact⟨.bool_int _ _ _,.bool_int _ _ _,.bool_int _ _ _⟩
 ·exact⟨.bool_str _ _ _,.bool_str _ _ _,.bool_str _ _ _⟩
 ·exact⟨.int_none _ _,.int_none _ _,.int_none _ _⟩
 ·exact⟨.int_bool _ _ _,.int_bool _ _ _,.int_bool _ _ _⟩
 ·exact⟨.int_int _ _ _ _,.int_int _ _ _ _,.int_int _ _ _ _⟩
 ·exact⟨.int_str _ _ _ _,.int_str _ _ _ _,.int_str _ _ _ _⟩
 ·exact⟨.str_none _ _,.str_none _ _,.str_none _ _⟩
 ·exact⟨.str_bool _ _ _,.str_bool _ _ _,.str_bool _ _ _⟩
 ·exact⟨.str_int _ _ _ _,.str_int _ _ _ _,.str_int _ _ _ _⟩
 ·exact⟨.str_str _ _ _ _,.str_str _ _ _ _,.str_str _ _ _ _⟩
theorem PD{pins:List (Addr × Obj)}{σ:L2.St}{s:Shared}(I:Inv X pins σ H s)(e:ag F H):∀(n:Nat) (x y:D) (v w:V) (u u':Value) (A:Around),dR n x=true->dR n y=true->S F H [x] [v]->S F H [y] [w]->RelV v u->RelV w u' ->
  A.units+n<cLine->Py A s u u' (bP x y):=by
 intro n
 induction n with
 | zero =>
  intro x y v w u u' A hx hy sx sy rv fu hu
  exact PC (xq hx sx rv) (xq hy sy fu)
 | succ n ih =>
  intro x y v w u u' A hx hy sx sy rv fu hu
  have bx:A.units<cLine:=iU (Nat.le_add_right ..) hu
  have PF:A.in1.units+n<cLine:=by show A.units+1+n<cLine;rw[Ng,yo 1];exact hu
  have items:∀{xs ys:List D} {vs ws:List V} {us vw:List Value},xs.all (dR n)=true->ys.all (dR n)=true->S F H xs vs->S F H ys ws->Vals vs us->Vals ws vw ->
    ∀j (h1:j<us.toArray.size) (h2:j<vw.toArray.size),EK A.in1 s us.toArray[j] vw.toArray[j] (bP (xs.getD j .aq) (ys.getD j .aq)):=by
   intro xs ys vs ws us vw hx hy sx sy r1 r2 j h1 h2
   obtain⟨a,e1,q1⟩:=Pz r1 h1
   obtain⟨b,e2,q2⟩:=Pz r2 h2
   obtain⟨d1,g1,t1⟩:=sx.get' e1
   obtain⟨d2,g2,t2⟩:=sy.get' e2
   rw[PB g1,PB g2]
   exact(ih d1 d2 a b _ _ A.in1 (bZ.mp hx d1 (uM g1)) (bZ.mp hy d2 (uM g2)) t1 t2 q1 q2 PF).eq
  clear ih hu PF
  rcases uf hx with k1 | ⟨o,xs,rfl,k1⟩ | ⟨xs,rfl,k1⟩
  ·have f:=xq k1 sx rv
   rcases uf hy with k2 | ⟨o',ys,rfl,k2⟩ | ⟨ys,rfl,k2⟩
   ·exact PC f (xq k2 sy fu)
   ·obtain⟨p',gz,rfl,e2,t2⟩:=iJ sy e
    cases fu
    obtain⟨qi,r2,p2,z2⟩:=I.list (bI.of (K:=X.K) e2)
    have p2:=p2.isList
    rcases f with⟨rfl,rfl⟩ | ⟨a,rfl,rfl⟩ | ⟨a,t,rfl,rfl⟩ | ⟨a,t,rfl,rfl⟩
    ·exact⟨.none_list p2 bx,.none_list p2 bx,.none_list p2 bx⟩
    ·exact⟨.bool_list _ p2 bx,.bool_list _ p2 bx,.bool_list _ p2 bx⟩
    ·exact⟨.int_list _ _ p2 bx,.int_list _ _ p2 bx,.int_list _ _ p2 bx⟩
    ·exact⟨.str_list _ _ p2 bx,.str_list _ _ p2 bx,.str_list _ _ p2 bx⟩
   ·obtain⟨p',gz,rfl,e2,t2⟩:=qh sy
    cases fu
    obtain⟨qi,r2,p2,z2⟩:=I.tuple (iX.of (K:=X.K) e2)
    rcases f with⟨rfl,rfl⟩ | ⟨a,rfl,rfl⟩ | ⟨a,t,rfl,rfl⟩ | ⟨a,t,rfl,rfl⟩
    ·exact⟨.none_tuple p2 bx,.none_tuple p2 bx,.none_tuple p2 bx⟩
    ·exact⟨.bool_tuple _ p2 bx,.bool_tuple _ p2 bx,.bool_tuple _ p2 bx⟩
    ·exact⟨.int_tuple _ _ p2 bx,.int_tuple _ _ p2 bx,.int_tuple _ _ p2 bx⟩
    ·exact⟨.str_tuple _ _ p2 bx,.str_tuple _ _ p2 bx,.str_tuple _ _ p2 bx⟩
  ·obtain⟨p,ws,rfl,e1,t1⟩:=iJ sx e
   cases rv
   obtain⟨its,r1,p1,z1⟩:=I.list (bI.of (K:=X.K) e1)
   have p1:=p1.isList
   rcases uf hy with k2 | ⟨o',ys,rfl,k2⟩ | ⟨ys,rfl,k2⟩
   ·rcases xq k2 sy fu with⟨rfl,rfl⟩ | ⟨a,rfl,rfl⟩ | ⟨a,t,rfl,rfl⟩ | ⟨a,t,rfl,rfl⟩
    ·exact⟨.list_none p1 bx,.list_none p1 bx,.list_none p1 bx⟩
    ·exact⟨.list_bool _ p1 bx,.list_bool _ p1 bx,.list_bool _ p1 bx⟩
    ·exact⟨.list_int _ _ p1 bx,.list_int _ _ p1 bx,.list_int _ _ p1 bx⟩
    ·exact⟨.list_str _ _ p1 bx,.list_str _ _ p1 bx,.list_str _ _ p1 bx⟩
   ·obtain⟨p',gz,rfl,e2,t2⟩:=iJ sy e
    cases fu
    obtain⟨qi,r2,p2,z2⟩:=I.list (bI.of (K:=X.K) e2)
    have p2:=p2.isList
    have zH:xs.length=its.length:=t1.length.trans r1.length
    have Ct:ys.length=qi.length:=t2.length.trans r2.length
    by_cases hl:xs.length=ys.length
    ·have tY:its.toArray.size=qi.toArray.size:=by rw[cO,cO,<- zH,<- Ct];exact hl
     have ev:(aw its.toArray.size).all (λj=>bP (xs.getD j .aq) (ys.getD j .aq))=bP (.lst o xs) (.lst o' ys):=by
      show _=bP.gC xs ys
      rw[G1 xs ys hl,cO,<- zH]
     have a:=SeqAt.RcAt.lists (e:=λj=>bP (xs.getD j .aq) (ys.getD j .aq)) p1 p2 tY bx (items k1 k2 t1 t2 r1 r2)
     have b:=SeqAt.RcNeAt.lists (e:=λj=>bP (xs.getD j .aq) (ys.getD j .aq)) p1 p2 tY bx (items k1 k2 t1 t2 r1 r2)
     rw[ev]at a b
     refine⟨a,b,?_⟩
     by_cases vx:p=p'
     ·subst vx
      cases e1.symm.trans e2
      rw[show bP (.lst o xs) (.lst o' ys)=true from Pw n k1 k2 t1 t2 e]
      exact .same _
     ·exact .of_refs vx a
    ·have tY:(its.toArray.size != qi.toArray.size)=true:=bne_iff_ne.mpr (by rw[cO,cO,<- zH,<- Ct];exact hl)
     rw[show bP (.lst o xs) (.lst o' ys)=false from G2 xs ys hl]
     have a:=SeqAt.RcAt.lists_lengths p1 p2 tY bx
     refine⟨a,SeqAt.RcNeAt.lists_lengths p1 p2 tY bx,.of_refs (λvx=>?_) a⟩
     subst vx
     cases e1.symm.trans e2
     exact hl (t1.length.trans t2.length.symm)
   ·obtain⟨p',gz,rfl,e2,t2⟩:=qh sy
    cases fu
    obtain⟨qi,r2,p2,z2⟩:=I.tuple (iX.of (K:=X.K) e2)
    exact⟨.list_tuple p1 p2 bx,.list_tuple p1 p2 bx,.list_tuple p1 p2 bx⟩
  ·obtain⟨p,ws,rfl,e1,t1⟩:=qh sx
   cases rv
   obtain⟨its,r1,p1,z1⟩:=I.tuple (iX.of (K:=X.K) e1)
   rcases uf hy with k2 | ⟨o',ys,rfl,k2⟩ | ⟨ys,rfl,k2⟩
   ·rcases xq k2 sy fu with⟨rfl,rfl⟩ | ⟨a,rfl,rfl⟩ | ⟨a,t,rfl,rfl⟩ | ⟨a,t,rfl,rfl⟩
    ·exact⟨.tuple_none p1 bx,.tuple_none p1 bx,.tuple_none p1 bx⟩
    ·exact⟨.tuple_bool _ p1 bx,.tuple_bool _ p1 bx,.tuple_bool _ p1 bx⟩
    ·exact⟨.tuple_int _ _ p1 bx,.tuple_int _ _ p1 bx,.tuple_int _ _ p1 bx⟩
    ·exact⟨.tuple_str _ _ p1 bx,.tuple_str _ _ p1 bx,.tuple_str _ _ p1 bx⟩
   ·obtain⟨p',gz,rfl,e2,t2⟩:=iJ sy e
    cases fu
    obtain⟨qi,r2,p2,z2⟩:=I.list (bI.of (K:=X.K) e2)
    have p2:=p2.isList
    exact⟨.tuple_list p1 p2 bx,.tuple_list p1 p2 bx,.tuple_list p1 p2 bx⟩
   ·obtain⟨p',gz,rfl,e2,t2⟩:=qh sy
    cases fu
    obtain⟨qi,r2,p2,z2⟩:=I.tuple (iX.of (K:=X.K) e2)
    have zH:xs.length=its.length:=t1.length.trans r1.length
    have Ct:ys.length=qi.length:=t2.length.trans r2.length
    have ev:((aw (min its.toArray.size qi.toArray.size)).all (λj=>bP (xs.getD j .aq) (ys.getD j .aq))&&its.toArray.size==qi.toArray.size)=bP (.tup xs) (.tup ys):=by
     show _=bP.gC xs ys
     rw[cO,cO,<- zH,<- Ct]
     by_cases hl:xs.length=ys.length
     ·rw[G1 xs ys hl,<- hl,wz,beq_self_eq_true,iA]
     ·rw[G2 xs ys hl,beq_false_of_ne hl,EN]
    have a:=SeqAt.RcAt.tuples (e:=λj=>bP (xs.getD j .aq) (ys.getD j .aq)) p1 p2 bx (items k1 k2 t1 t2 r1 r2)
    have b:=SeqAt.RcNeAt.tuples (e:=λj=>bP (xs.getD j .aq) (ys.getD j .aq)) p1 p2 bx (items k1 k2 t1 t2 r1 r2)
    rw[ev]at a b
    refine⟨a,b,?_⟩
    by_cases vx:p=p'
    ·subst vx
     cases e1.symm.trans e2
     rw[show bP (.tup xs) (.tup ys)=true from Pw n k1 k2 t1 t2 e]
     exact .same _
    ·exact .of_refs vx a
def mR:cS:=λx y Q=>(dR 6 x=true/\dR 6 y=true)/\Q (.bl (bP x y))
def mS:cS:=λx y Q=>(dR 6 x=true/\dR 6 y=true)/\Q (.bl (!bP x y))
theorem i9(hu:X.A.units+6<cLine):bW X (compareOp .Eq) mR:=bW.of λpins s σ H v w u u' Q I rv fu zz=>by
 obtain⟨B,F,aL,δ,ts,x,y,Qd,c,sx,sy,⟨⟨hx,hy⟩,q⟩,k⟩:=zz
 exact(PD I c.ext 6 x y v w u u' X.A hx hy sx sy rv fu hu).rc _ _ _ _ ⟨.bl _,H,I,rfl,k _ _ _ q (ag.refl _) (c.pushS (.bl .nil) rfl)⟩
theorem qj(hu:X.A.units+6<cLine):bW X (compareOp .NotEq) mS:=bW.of λpins s σ H v w u u' Q I rv fu zz=>by
 obtain⟨B,F,aL,δ,ts,x,y,Qd,c,sx,sy,⟨⟨hx,hy⟩,q⟩,k⟩:=zz
 exact(PD I c.ext 6 x y v w u u' X.A hx hy sx sy rv fu hu).ne _ _ _ _ ⟨.bl _,H,I,rfl,k _ _ _ q (ag.refl _) (c.pushS (.bl .nil) rfl)⟩
end
section
variable{X:Cx}{F H:Hp}{v w:V}{e a b c o:Expr}{es:List Expr}{pos p p2 apos bJ:Pos}{t ta tb tc te:aI}{tr:cJ}{x:Str}
theorem b21{r r':R2}{rd zI:cS}(hl:Ck r rd)(tT:Ck r' zI):∀σ H Q,lE (kh rd zI ta tb tc) σ H Q->N9 r r' (lB ta) (lB tb) (lB tc) σ H Q:=λσ H Q ⟨B,F,δ,ts,Qd,c,q,k⟩ =>
 ⟨B,F,δ,ts,_,c,q,λx aj v F1 H1 q1 f1 h1 c1 s1=>⟨B,F1,aj,ts,_,c1,q1,λy aY w F2 H2 q2 f2 h2 c2 s2=>by
  refine hl c2 (s1.mono f2 h2) s2 q2 λd z H' hd hs c3=>?_
  obtain⟨b,rfl,qb⟩:=hd
  have st:=c3.top
  cases st with
  | bl _ =>
   refine⟨b,rfl,?_⟩
   cases b with
   | true =>
    refine tZ ⟨B,F2,aY,ts,_,c3.pop,by simpa using qb,λz gM w3 F3 H3 q3 f3 h3 c4 s3=>?_⟩
    exact tT c4 (s2.mono f3 (hs.trans h3)) s3 q3 λd z H' hd hs' c5=>k d gM z F3 H' hd ((f1.trans f2).trans f3) ((((h1.trans h2).trans hs).trans h3).trans hs') c5
   | false=>exact lN (k _ aY _ F2 H' (by simpa using qb) (f1.trans f2) ((h1.trans h2).trans hs) (c3.pop.pushS (.bl .nil) rfl))⟩⟩
theorem xu{op va:CmpOp}{rd zI:cS}(ho:bW X (compareOp op) rd)(pY:bW X (compareOp va) zI)(ha:PE X a (lB ta))(hb:PE X b (lB tb))(hc:PE X c (lB tc))
  (hm:lastMarks [op,va] [b,c]=false:=by with_unfolding_all rfl):PE X (.Compare a [op,va] [b,c] pos) (lE (kh rd zI ta tb tc)):=by
 obtain⟨r,h1,h2⟩:=ho
 obtain⟨r',om,lQ⟩:=pY
 exact dj (ZX h1 om ha hb hc hm) (b21 h2 lQ)
def mT(t:aI):aI:=λδ Q=>t δ λd ai=>match d with
 | .int i=>Q (.int (-i)) ai
 | _=>False
theorem cL5(ha:PE X a (lB ta)):PE X (.UnaryOp .USub a pos) (lE (mT ta)):=dj (ZE ZO ha) λσ H Q zq=>by
 obtain⟨B,F,δ,ts,Qd,c,q,k⟩:=zq
 exact⟨B,F,δ,ts,_,c,q,λd aj v F1 H1 q1 f1 h1 c1 s1=>by
 cases s1 with
 | int _=>exact⟨_,rfl,k _ aj _ F1 H1 q1 f1 h1 (c1.pushS (.int .nil) rfl)⟩
 | _=>exact q1.elim⟩
abbrev jH:=List D->(D->Prop)->Prop
def lc(rd:jH):List V->Hp->VK->Prop:=λvs H Q=>∃B F σ δ ts ds Qd,ak B F H σ δ ts/\S F H ds vs/\rd ds Qd/\∀d z H',Qd d->ag H H'->ak B F H' σ δ ((d,z)::ts)->Q z H'
def gP(X:Cx)(f:Value)(rd:jH):Prop:=g5 X f (lc rd)
theorem gP.of{f:Value}{r:List V->Hp->VK->Prop}{rd:jH}(h:g5 X f r)(m:∀vs H Q,lc rd vs H Q->r vs H Q):gP X f rd:=λpins s σ H xs us Q I r q=>h pins s σ H xs us Q I r (m xs H Q q)
def jI(rd:jH)(t:cJ):aI:=λδ Q=>t δ λds ai=>rd ds λd=>Q d ai
theorem PH{rd:jH}:∀σ H Q,lE (jI rd tr) σ H Q->FU (lc rd) (lA tr) σ H Q:=λσ H Q zq=>by
 obtain⟨B,F,δ,ts,Qd,c,q,k⟩:=zq
 exact⟨B,F,δ,ts,_,c,q,λds aj vs F1 H1 q1 f1 h1 c1 s1 =>
 ⟨B,F1,σ,aj,ts,ds,_,c1,s1,q1,λd z H' hd hs c'=>k d aj z F1 H' hd f1 (h1.trans hs) c'⟩⟩
theorem dE{id:String}{rd:jH}(hc:gP X (.builtin id) rd)(hg:Gl X x)(hm:X.mg x=none)(hv:bootBuiltins x=some (.builtin id))(ha:PA X (e::es) (lA tr))(hn:x≠"__name__":=by decide)(eC:(x==("__debug__":Str))=false:=by decide)
  (he:starEach (e::es) X.env=(false,eval e X.env)::starEach es X.env:=by rfl) (bU:(backTo pos (starEach es X.env)).any (·.1)=false:=by rfl):PE X (.Call (.Name x p) (e::es) [] pos) (lE (jI rd tr)) :=
 dj (FV hc hg hm hv ha hn eC he bU) PH
theorem Cu{T:String}{rd:jH}(hc:gP X (.type T) rd)(hg:Gl X x)(hm:X.mg x=none)(hv:bootBuiltins x=some (.type T))(ha:PA X (e::es) (lA tr))(hn:x≠"__name__":=by decide)(eC:(x==("__debug__":Str))=false:=by decide)
  (he:starEach (e::es) X.env=(false,eval e X.env)::starEach es X.env:=by rfl) (bU:(backTo pos (starEach es X.env)).any (·.1)=false:=by rfl):PE X (.Call (.Name x p) (e::es) [] pos) (lE (jI rd tr)) :=
 dj (b13 hc hg hm hv ha hn eC he bU) PH
theorem mU{d:D}{vs:List V}(s:S F H [d] vs):∃v,vs=[v]/\S F H [d] [v]:=by
 obtain⟨v,b8,rfl,h1,h2⟩:=s.cX
 cases h2
 exact⟨v,rfl,h1⟩
theorem cM2{d d':D}{vs:List V}(s:S F H [d,d'] vs):∃v v',vs=[v,v']/\S F H [d] [v]/\S F H [d'] [v']:=by
 obtain⟨v,b8,rfl,h1,h2⟩:=s.cX
 obtain⟨v',rfl,h3⟩:=mU h2
 exact⟨v,v',rfl,h1,h3⟩
theorem kA{K:PySem.W.Frag}{p:Addr}{ws:List V}(h:Rd H p (.lst ws)):bI K H p ws:=.inl h
def kB:jH:=λds Q=>match ds with
 | [.lst _ xs]=>Q (.int xs.length)
 | [.fz xs]=>Q (.int xs.length)
 | [.tup xs]=>Q (.int xs.length)
 | [.str z]=>z.length<=sizeLine/\Q (.int z.length)
 | _=>False
theorem hZ:gP X (.builtin "len") kB:=gP.of (Oy.or bD7) λvs H Q zz=>by
 obtain⟨B,F,σ,δ,ts,ds,Qd,c,s,q,k⟩:=zz
 unfold kB at q
 split at q
 ·obtain⟨v,rfl,s1⟩:=mU s
  obtain⟨p,ws,rfl,h,t⟩:=oq s1 c.ext rfl
  refine .inl ⟨p,ws,rfl,.inl (kA h),?_⟩
  rw[<-t.length]
  exact k _ _ _ q (ag.refl _) (c.pushS (.int .nil) rfl)
 ·obtain⟨v,rfl,s1⟩:=mU s
  obtain⟨p,ws,rfl,h,t⟩:=oq s1 c.ext rfl
  refine .inl ⟨p,ws,rfl,.inl (kA h),?_⟩
  rw[<-t.length]
  exact k _ _ _ q (ag.refl _) (c.pushS (.int .nil) rfl)
 ·obtain⟨v,rfl,s1⟩:=mU s
  obtain⟨p,ws,rfl,h,t⟩:=qh s1
  refine .inl ⟨p,ws,rfl,.inr (iX.of h),?_⟩
  rw[<-t.length]
  exact k _ _ _ q (ag.refl _) (c.pushS (.int .nil) rfl)
 ·obtain⟨v,rfl,s1⟩:=mU s
  cases s1
  exact .inr ⟨_,rfl,q.1,k _ _ _ q.2 (ag.refl _) (c.pushS (.int .nil) rfl)⟩
 ·exact q.elim
def kC:jH:=λds Q=>match ds with
 | [.lst _ xs]=>xs.all D.pl=true/\Q (.lst true xs)
 | [.fz xs]=>Q (.lst true xs)
 | [.tup xs]=>xs.all D.pl=true/\Q (.lst true xs)
 | _=>False
theorem G4:gP X (.type "list") kC:=gP.of bE1 λvs H Q zz=>by
 obtain⟨B,F,σ,δ,ts,ds,Qd,c,s,q,k⟩:=zz
 unfold kC at q
 split at q
 ·obtain⟨v,rfl,s1⟩:=mU s
  obtain⟨p,ws,rfl,h,t⟩:=oq s1 c.ext rfl
  exact⟨p,ws,rfl,.inl (kA h),λl hl=>k _ _ _ q.2 (ag.upd hl) (c.rh hl t q.1)⟩
 ·obtain⟨v,rfl,s1⟩:=mU s
  cases s1 with
  | fz h r _=>exact⟨_,_,rfl,.inl (kA (.inr ⟨_,c.ext _ _ h⟩)),λl hl=>k _ _ _ q (ag.upd hl) (c.rh hl r.s r.pl)⟩
 ·obtain⟨v,rfl,s1⟩:=mU s
  obtain⟨p,ws,rfl,h,t⟩:=qh s1
  exact⟨p,ws,rfl,.inr (iX.of h),λl hl=>k _ _ _ q.2 (ag.upd hl) (c.rh hl t q.1)⟩
 ·exact q.elim
def ii(g:Int->Int->Int):jH:=λds Q=>match ds with
 | [.int i,.int j]=>Q (.int (g i j))
 | _=>False
theorem cH4{f:Value}{g:Int->Int->Int}(h:g5 X f (λxs H Q=>∃i j,xs=[.int i,.int j]/\Q (.int (g i j)) H)):gP X f (ii g):=gP.of h λvs H Q zz=>by
 obtain⟨B,F,σ,δ,ts,ds,Qd,c,s,q,k⟩:=zz
 unfold ii at q
 split at q
 ·obtain⟨v,v',rfl,s1,s2⟩:=cM2 s
  cases s1;cases s2
  exact⟨_,_,rfl,k _ _ _ q (ag.refl _) (c.pushS (.int .nil) rfl)⟩
 ·exact q.elim
theorem PJ(hc:X.calm=true):gP X (.builtin "min") (ii λi j=>if j<i then j else i):=cH4 (Z0 hc)
def sM(bs:List Bool):List D:=bs.map D.bl
theorem G5:∀{bs:List Bool} {ws:List V},S F H (sM bs) ws->ws=bs.map V.bl
 | [],_,s=>by cases s;rfl
 | b::bs,_,s=>by
  cases s with
  | bl s=>rw[G5 s];rfl
def kD:jH:=λds Q=>match ds with
 | [.lst _ xs]=>∃bs,xs=sM bs/\Q (.bl (bs.all id))
 | _=>False
def kE:jH:=λds Q=>match ds with
 | [.lst _ xs]=>∃bs,xs=sM bs/\Q (.bl (bs.any id))
 | _=>False
theorem zJ(hc:X.calm=true):gP X (.builtin "all") kD:=gP.of (cb2 hc) λvs H Q zz=>by
 obtain⟨B,F,σ,δ,ts,ds,Qd,c,s,q,k⟩:=zz
 unfold kD at q
 split at q
 ·obtain⟨v,rfl,s1⟩:=mU s
  obtain⟨bs,rfl,q⟩:=q
  obtain⟨p,ws,rfl,h,t⟩:=oq s1 c.ext rfl
  rw[G5 t]at h
  exact⟨p,bs,rfl,kA h,k _ _ _ q (ag.refl _) (c.pushS (.bl .nil) rfl)⟩
 ·exact q.elim
theorem cH6(hc:X.calm=true):gP X (.builtin "any") kE:=gP.of (cb1 hc) λvs H Q zz=>by
 obtain⟨B,F,σ,δ,ts,ds,Qd,c,s,q,k⟩:=zz
 unfold kE at q
 split at q
 ·obtain⟨v,rfl,s1⟩:=mU s
  obtain⟨bs,rfl,q⟩:=q
  obtain⟨p,ws,rfl,h,t⟩:=oq s1 c.ext rfl
  rw[G5 t]at h
  exact⟨p,bs,rfl,kA h,k _ _ _ q (ag.refl _) (c.pushS (.bl .nil) rfl)⟩
 ·exact q.elim
def G6:D->Option String
 | .int _=>some "int"
 | .bl _=>some "bool"
 | .aq=>some "NoneType"
 | .str _=>some "str"
 | .lst _ _=>some "list"
 | .fz _=>some "list"
 | .tup _=>some "tuple"
 | _=>none
def G7(k n:String):Option Bool:=([("int","int",true),("int","bool",false),("int","list",false),("int","tuple",false),("int","str",false),("bool","int",true),("bool","bool",true),("bool","list",false),("bool","tuple",false),("bool","str",false),
 ("NoneType","int",false),("NoneType","bool",false),("NoneType","list",false),("NoneType","tuple",false),("NoneType","str",false),("str","int",false),("str","bool",false),("str","list",false),("str","tuple",false),("str","str",true),
 ("list","int",false),("list","bool",false),("list","list",true),("list","tuple",false),("list","str",false),("tuple","int",false),("tuple","bool",false),("tuple","list",false),("tuple","tuple",true),("tuple","str",false)].find? λz=>z.1==k&&z.2.1==n).map (·.2.2)
def rq(n:String)(d:D):Option Bool:=(G6 d).bind λk=>G7 k n
theorem cx7{K:PySem.W.Frag}{k n:String}{r:Bool}(h:G7 k n=some r):PySem.W.kitOne K (.type k) (.type n)=some r:=by
 unfold G7 at h
 obtain⟨z,hz,rfl⟩:=BA.mp h
 have hm:=Nh hz
 have hp:=List.find?_some hz
 rw[eZ,beq_iff_eq,beq_iff_eq]at hp
 obtain⟨rfl,rfl⟩:=hp
 simp only[cN,jo,or_false]at hm
 repeat' (rcases hm with hm | hm)
 all_goals rfl
theorem cs8{K:PySem.W.Frag}{d:D}(s:S F H [d] [v])(e:ag F H){k:String}(h:G6 d=some k):js K H v (.type k):=by
 cases s with
 | int _=>cases h;exact .int _
 | bl _=>cases h;exact .bl _
 | aq _=>cases h;exact .aq
 | str _=>cases h;exact .str _
 | shr h' _ _=>cases h;exact .lst (e _ _ h')
 | own h' _ _=>cases h;exact .lst h'
 | fz h' _ _=>cases h;exact .bD (e _ _ h')
 | tup h' _ _=>cases h;exact .tup h'
 | obj _ _ _ _=>cases h
 | bK _ _=>cases h
theorem cL0{K:PySem.W.Frag}{d:D}(s:S F H [d] [v])(e:ag F H){n:String}{r:Bool}(h:rq n d=some r):∃t,js K H v t/\PySem.W.kitOne K t (.type n)=some r:=by
 unfold rq at h
 cases hk:G6 d with
 | none=>rw[hk]at h;cases h
 | some k=>rw[hk]at h;exact⟨_,cs8 s e hk,cx7 h⟩
def mV(n:String)(t:aI):aI:=λδ Q=>t δ λd ai=>∃r,rq n d=some r/\Q (.bl r) ai
theorem zK{n:String}{y:Str}{q:Pos}(hg:Gl X "isinstance")(hm:X.mg "isinstance"=none)(zL:Gl X y)(ug:X.mg y=none)(hv2:bootBuiltins y=some (.type n))(ha:PE X a (lB ta))
  (hn:y≠"__name__":=by decide) (hd:(y==("__debug__":Str))=false:=by decide)
  (hs:starEach [a,.Name y q] X.env=(false,eval a X.env)::starEach [.Name y q] X.env:=by rfl) (dD:starEach [.Name y q] X.env=(false,eval (.Name y q) X.env)::starEach [] X.env:=by rfl) (bU:(backTo pos (starEach [.Name y q] X.env)).any (·.1)=false:=by rfl) :
  PE X (.Call (.Name "isinstance" p) [a,.Name y q] [] pos) (lE (mV n ta)) :=
 dj (FV bo8 hg hm by0 (cy ha (cy (cH7 zL ug hv2 hn hd) ff dD) hs) (by decide) (by decide) hs bU) λσ H Q zq=>by
 obtain⟨B,F,δ,ts,Qd,c,q,k⟩:=zq
 exact⟨B,F,δ,ts,_,c,q,λd aj v F1 H1 q1 f1 h1 c1 s1=>by
  obtain⟨r,e,qr⟩:=q1
  obtain⟨t,h2,h3⟩:=cL0 (K:=X.K) s1 c1.ext e
  exact⟨v,n,t,r,rfl,h2,h3,k _ aj _ F1 H1 qr f1 h1 (c1.pushS (.bl .nil) rfl)⟩⟩
theorem G8{xs:List D}{ws:List V}{i:Int}{d:D}(s:S F H xs ws)(h:eD xs i=some d):∃v,eD ws i=some v/\S F H [d] [v]:=by
 unfold eD at h ⊢
 rw[<-s.length]
 cases e:jv xs.length i with
 | none=>rw[e]at h;cases h
 | some j =>
  rw[e]at h
  exact s.get h
def kF(x y:D)(Q:D->Prop):Prop:=match x,y with
 | .lst _ xs,.int i=>∃d,eD xs i=some d/\Q d
 | .fz xs,.int i=>∃d,eD xs i=some d/\Q d
 | .tup xs,.int i=>∃d,eD xs i=some d/\Q d
 | .str z,.int i=>z.length<=sizeLine/\∃ch,eD z.cps.toList i=some ch/\Q (.str ⟨#[ch]⟩)
 | _,_=>False
def mW(ta tb:aI):aI:=λδ Q=>ta δ λx aj=>tb aj λy aY=>kF x y λd=>Q d aY
theorem bt(ha:PE X a (lB ta))(hb:PE X b (lB tb))(hs:Oq b):PE X (.Subscript a b pos) (lB (mW ta tb)) :=
 dj (cG9 cE7 ha hb hs) λσ H Q zq=>by
 obtain⟨B,F,δ,ts,Qd,c,q,k⟩:=zq
 exact⟨B,F,δ,ts,_,c,q,λx aj v F1 H1 q1 f1 h1 c1 s1=>⟨B,F1,aj,ts,_,c1,q1,λy aY w F2 H2 q2 f2 h2 c2 s2=>by
  have qk:=s1.mono f2 h2
  have fin:∀d z,Qd d aY->S F2 H2 [d] [z]->Q z H2:=λd z hd s=>k d aY z F2 H2 hd (f1.trans f2) (h1.trans h2) c2 s
  unfold kF at q2
  split at q2
  ·obtain⟨d,ed,qd⟩:=q2
   cases s2
   obtain⟨p,ws,rfl,h,t⟩:=oq qk c2.ext rfl
   obtain⟨z,ez,sz⟩:=G8 t ed
   exact .inl ⟨p,ws,_,z,rfl,rfl,kA h,ez,fin d z qd sz⟩
  ·obtain⟨d,ed,qd⟩:=q2
   cases s2
   obtain⟨p,ws,rfl,h,t⟩:=oq qk c2.ext rfl
   obtain⟨z,ez,sz⟩:=G8 t ed
   exact .inl ⟨p,ws,_,z,rfl,rfl,kA h,ez,fin d z qd sz⟩
  ·obtain⟨d,ed,qd⟩:=q2
   cases s2
   obtain⟨p,ws,rfl,h,t⟩:=qh qk
   obtain⟨z,ez,sz⟩:=G8 t ed
   exact .inr (.inl ⟨p,ws,_,z,rfl,rfl,iX.of h,ez,fin d z qd sz⟩)
  ·obtain⟨hz,ch,ec,qc⟩:=q2
   cases qk
   cases s2
   exact .inr (.inr ⟨_,_,ch,rfl,rfl,hz,ec,fin _ _ qc (.str .nil)⟩)
  ·exact q2.elim⟩⟩
abbrev vy:=Dl->(Option Int->Dl->Prop)->Prop
inductive lP(t:vy)(σ:L2.St)(H:Hp)(Q:Option Int->Hp->Prop):Prop
 | mk (B F δ ts Qd) (c:ak B F H σ δ ts) (q:t δ Qd) (k:∀o ai F' H',Qd o ai->ag F F'->ag H H'->ak B F' H' σ ai ts->Q o H')
theorem PK{oe:Option Expr}{u u':TO}(h:PO X oe u)(m:∀σ H Q,u' σ H Q->u σ H Q):PO X oe u':=λpins s σ H Q I q=>h pins s σ H Q I (m σ H Q q)
def mX:vy:=λδ Q=>Q none δ
def mY(t:aI):vy:=λδ Q=>t δ λd ai=>match d with
 | .int i=>Q (some i) ai
 | _=>False
theorem vz:PO X none (lP mX):=PK co0 λσ H Q ⟨B,F,δ,ts,Qd,c,q,k⟩=>k none δ F H q (ag.refl _) (ag.refl _) c
theorem ql(h:PE X e (lB t)):PO X (some e) (lP (mY t)):=PK (cr1 h) λσ H Q zq=>by
 obtain⟨B,F,δ,ts,Qd,c,q,k⟩:=zq
 exact⟨B,F,δ,ts,_,c,q,λd aj v F1 H1 q1 f1 h1 c1 s1=>by
 cases s1 with
 | int _=>exact⟨_,rfl,k _ aj F1 H1 q1 f1 h1 c1⟩
 | _=>exact q1.elim⟩
def gr{α:Type}(xs:List α)(lo hi:Option Int):List α:=(xs.drop (HT.cZ xs.length 0 lo)).take (HT.cZ xs.length xs.length hi-HT.cZ xs.length 0 lo)
theorem S.cut{xs:List D}{ws:List V}(s:S F H xs ws)(lo hi:Option Int):S F H (gr xs lo hi) (wZ ws lo hi):=by
 unfold gr wZ
 rw[<-s.length]
 exact(s.drop _).take _
theorem PL{xs:List D}{p:D->Bool}(h:xs.all p=true)(lo hi:Option Int):(gr xs lo hi).all p=true:=by
 rw[bZ]at h ⊢
 intro x hx
 exact h x (rS (wA hx))
def mZ(t:aI):aI:=λδ Q=>t δ λd ai=>match d with
 | .int i=>Q (.int (Mf.bl i.natAbs:Nat)) ai
 | _=>False
theorem vA(ho:PE X o (lB t))(jw:attributeBase o "bit_length" X.env (eval o X.env)=eval o X.env:=by rfl)(jx:(apos.endLine==bJ.line)=true:=by rfl):PE X (.Call (.Attribute o "bit_length" apos) [] [] bJ) (lE (mZ t)) :=
 dj (Gv ho jw jx) λσ H Q zq=>by
 obtain⟨B,F,δ,ts,Qd,c,q,k⟩:=zq
 exact⟨B,F,δ,ts,_,c,q,λd aj v F1 H1 q1 f1 h1 c1 s1=>by
  cases s1 with
  | int _=>exact⟨rfl,_,rfl,rfl,k _ aj _ F1 H1 q1 f1 h1 (c1.pushS (.int .nil) rfl)⟩
  | _=>exact q1.elim⟩
end
section
variable{X:Cx}{F H:Hp}{v w:V}{e a b c o tg:Expr}{es:List Expr}{pos p p2 apos bJ pos':Pos}{t ta tb tc te ti:aI}{tr:cJ}{x:Str}{i:Nat}
def m3(i:Nat)(t:aI):c9:=λD δ=>(∃xs,δ[i]?=some (some (.lst true xs)))/\t δ λd ai=>∃xs,ai[i]?=some (some (.lst true xs))/\xs.length<sizeLine/\D.nx (ai.set i (some (.lst true (xs++[d]))))
theorem ot(hN:X.N[i]?=some x)(hv:lF X.env.scope x)(he:PE X e (lE t))(hd:(x==("__debug__":Str))=false:=by decide)(cC:(x==("__classdict__":Str))=false:=by decide)
  (jw:attributeBase (.Name x p) "append" X.env (eval (.Name x p) X.env)=eval (.Name x p) X.env:=by rfl)
  (sq:((backTo bJ (starEach [e] X.env)).all (λx=>!x.1)&&(backToKw bJ (keywordEach [] X.env)).all (λx=>x.1.isSome)
   && decide ([e].length+([]:List Keyword).length+(if([]:List Keyword).isEmpty then 0 else 1)<30))=true:=by rfl)
  (jx:(apos.endLine==bJ.line)=true:=by rfl) (hs:starEach [e] X.env=(false,eval e X.env)::starEach [] X.env:=by rfl) (sr:(backTo bJ (starEach [] X.env)).any (·.1)=false:=by rfl)
  (qm:swapsWith (.Call (.Attribute (.Name x p) "append" apos) [e] [] bJ) none pos.line X.env=pure false:=by rfl) :
  PS X (.Expr (.Call (.Attribute (.Name x p) "append" apos) [e] [] bJ) pos) (lS X (m3 i t)) :=
 jA (tV (yT PySem.F.plainAttrs_list PySem.F.slot_list_append PySem.F.type_list_append Gf (qU hN hv hd cC) (cy he ff hs) jw sq jx hs sr) qm) λEn σ H zz=>by
  obtain⟨B,F,δ,Dd,c,⟨⟨ys,ey⟩,q⟩,k1,k2,k3,k4⟩:=zz
  obtain⟨p0,xi,g1,g2,g3⟩:=c.ownAt ey
  refine⟨.ref p0,g1,.inl ⟨rfl,_,bI.of g2⟩,B,F,δ,[],_,c,q,λd ai v F' H' hd sf sh c'=>?_⟩
  obtain⟨xs,ex,hl,hn⟩:=hd
  obtain⟨p1,ws,r1,r2,r3⟩:=c'.ownAt ex
  rw[g1]at r1;cases r1
  exact⟨p0,ws,v,rfl,rfl,r2,by omega,k1 _ _ F' _ hn (c'.app ex g1 r2)⟩
def m4(i:Nat)(te ti:aI):c9:=λD δ=>te δ λd aj=>∃ys,aj[i]?=some (some (.lst true ys))/\kg ti aj λk aY=>match k with
 | .int n=>∃xs j,aY[i]?=some (some (.lst true xs))/\jv xs.length n=some j/\D.nx (aY.set i (some (.lst true (xs.set j d))))
 | _=>False
theorem G9(hN:X.N[i]?=some x)(hv:lF X.env.scope x)(he:PE X e (lE te))(hi:PE X b (lB ti))(hd:(x==("__debug__":Str))=false:=by decide)(cC:(x==("__classdict__":Str))=false:=by decide)
  (ha:∀v,assign (.Subscript (.Name x p) b pos') X.env v=(do
   let ov<-holding [v] (eval (.Name x p) X.env)
   let iv<-holding [v,ov] (eval b X.env)
   standAt pos'
   holding [v,ov,iv] (setItem ov iv v)
   release [v,ov,iv] []):=by intro _;rfl)
  (hs:swapsWithSole [.Subscript (.Name x p) b pos'] e pos.line X.env=pure false:=by rfl) (hw:swappedStores [.Subscript (.Name x p) b pos'] e X.env=pure none:=by rfl)
  (h1:(assignEach [.Subscript (.Name x p) b pos'] X.env).map (·.2)=[assign (.Subscript (.Name x p) b pos') X.env]:=by rfl) :
  PS X (.Assign [.Subscript (.Name x p) b pos'] e pos) (lS X (m4 i te ti)) :=
 jA (Zh he (Zg (qU hN hv hd cC) (da hi) Ow ha) hs hw h1) λEn σ H zq=>by
 obtain⟨B,F,δ,Dd,c,q,k1,k2,k3,k4⟩:=zq
 exact⟨B,F,δ,[],_,c,q,λd aj v F1 H1 hq f1 h1 c1=>by
  obtain⟨ys,ey,hq⟩:=hq
  obtain⟨p0,xi,g1,g2,g3⟩:=c1.ownAt ey
  refine⟨.ref p0,g1,B,F1,aj,[(d,v)],_,c1,hq,λkd aY kv F2 H2 hk f2 h2 c2=>?_⟩
  have st:=c2.top
  split at hk
  ·obtain⟨xs,j,ex,ej,hn⟩:=hk
   cases st
   have c3:=c2.pop
   obtain⟨p1,ws,r1,r2,r3⟩:=c3.ownAt ex
   rw[g1]at r1;cases r1
   exact⟨p0,ws,_,j,rfl,rfl,r2,by rw[<-r3];exact ej,k1 _ _ F2 _ hn (c3.Pd ex g1 r2 j)⟩
  ·exact hk.elim⟩
end
theorem eI{A:Around}{k:Nat}(hr:cw k A):A.units+6<cLine:=by have:=hr.un;omega
def ax(ns:List Int):List D:=ns.map D.int
def Ha(o:Obj):Bool:=match o.cls with
 | .type n=>n != "list"
 | _=>true
def PM:bg:=λds Q=>∃ns:List Int,ds=[.fz (ax ns)]/\ns.length<=63/\Q (.bl true)
theorem qo{F H:Hp}:∀ns:List Int,R F H (ax ns) (ns.map V.int) []
 | []=>.nil
 | n::ns=>.int (qo ns)
theorem bG8{K:PySem.W.Frag}{a:Addr}{o:Obj}(h:K.lookup a=some o):(a,o)∈K:=by
 induction K with
 | nil=>cases h
 | cons p K ih =>
  obtain⟨b,u⟩:=p
  rw[gw]at h
  split at h
  ·rename_i z
   have:a=b:=by simpa using z
   cases h;subst this;simp
  ·exact fH _ (ih h)
section
variable{B:Bs}{F H:Hp}{σ:L2.St}{δ:Dl}{ts ps:List (D × V)}{i k:Nat}{p q:Addr}{l1 l2 ys O8:List D}{ws vw:List V}
end
section
variable{X:Cx}{F H:Hp}{e b:Expr}{pos p pr apos bJ Hb:Pos}{t ti te:aI}{x y:Str}{i j:Nat}
end
theorem ou(i:Int):(D.int i).pl=true:=rfl
theorem oy(i:Bool):(D.bl i).pl=true:=rfl
theorem oA(i:Str):(D.str i).pl=true:=rfl
theorem oB:D.aq.pl=true:=rfl
theorem oE(xs:List D):(D.fz xs).pl=true:=rfl
theorem oF(C:Addr)(ns:List Str)(xs:List D):(D.obj C ns xs).pl=true:=rfl
theorem oG(i:Int):(D.int i).fr=true:=rfl
theorem oH(i:Bool):(D.bl i).fr=true:=rfl
theorem oI(i:Str):(D.str i).fr=true:=rfl
theorem oJ:D.aq.fr=true:=rfl
theorem h7(i:Int):(D.int i).sh=.int i:=rfl
theorem oK(i:Bool):(D.bl i).sh=.bl i:=rfl
theorem oM(i:Str):(D.str i).sh=.str i:=rfl
theorem oN:D.aq.sh=.aq:=rfl
theorem oO(xs:List D):(D.fz xs).sh=.fz xs:=rfl
theorem oQ(C:Addr)(ns:List Str)(xs:List D):(D.obj C ns xs).sh=.obj C ns xs:=rfl
theorem m5{α:Type}(n:Nat)(x:α):(aW n [x]).flatten=aW n x:=by
 induction n with
 | zero=>rfl
 | succ n ih=>rw[uO,wo,ih];rfl
theorem h9(ns:List Int):(ax ns).length=ns.length:=by simp[ax]
theorem jJ(ns:List Int):(ax ns).all D.pl=true:=by simp[ax,D.pl]
theorem kG(ns:List Int):(ax ns).all D.fr=true:=by simp[ax,D.fr]
theorem fB(ns:List Int):(ax ns).map D.sh=ax ns:=by simp[ax,D.sh]
theorem iK(a b:List Int):ax a++ax b=ax (a++b):=by simp[ax]
theorem oR(n:Nat)(i:Int):aW n (D.int i)=ax (aW n i):=by simp[ax]
theorem kH(n:Nat)(i:Int):dR n (.int i)=true:=by cases n<;>rfl
theorem oS(n:Nat)(i:Str):dR n (.str i)=true:=by cases n<;>rfl
theorem ia(i j:Int):bP (.int i) (.int j)=decide (i=j):=by
 show(i==j)=_
 rw[Bool.beq_eq_decide_eq]
theorem PN:∀(a b:List Int),bP.gC (ax a) (ax b)=decide (a=b)
 | [],[]=>rfl
 | [],_::_=>by simp[ax,bP.gC]
 | _::_,[]=>by simp[ax,bP.gC]
 | x::xs,y::ys=>by
  show(bP (.int x) (.int y)&&bP.gC (ax xs) (ax ys))=_
  rw[PN xs ys,ia,tL];simp
theorem m6(o o':Bool)(a b:List Int):bP (.lst o (ax a)) (.lst o' (ax b))=decide (a=b):=PN a b
theorem PQ{ns:List Int}{k:Nat}(h:k<ns.length):(ax ns)[k]?=some (.int ns[k]):=by simp[ax,h]
theorem oU{ns:List Int}{k:Int}(h0:0<=k)(h:k<ns.length):eD (ax ns) k=some (.int (ns.getD k.toNat 0)):=by
 unfold eD jv
 rw[if_pos h0,h9,if_pos h]
 show(ax ns)[k.toNat]?=_
 have hk:k.toNat<ns.length:=by omega
 rw[PQ hk,aF,aJ hk];rfl
theorem m8(ns:List Int)(lo hi:Option Int):gr (ax ns) lo hi=ax (gr ns lo hi):=by simp[gr,ax,Ni,Nj]
theorem oV(i:Int):rq "int" (.int i)=some true:=by rfl
theorem oW(i:Int):rq "bool" (.int i)=some false:=by rfl
theorem oX(i:Int):rq "list" (.int i)=some false:=by rfl
theorem oY(o:Bool)(xs:List D):rq "list" (.lst o xs)=some true:=by rfl
theorem oZ:rq "int" .aq=some false:=by rfl
theorem pf(x:Str):rq "str" (.str x)=some true:=by rfl
theorem ph(xs:List D):rq "tuple" (.tup xs)=some true:=by rfl
theorem sL:sizeLine=16777216:=rfl
theorem pj{p:Prop}[Decidable p]:(decide p=true)=p:=by simp
theorem PR{α:Type}(xs:List α)(a b:Nat):gr xs (some (a:Int)) (some (b:Int))=(xs.drop a).take (b-a):=by
 unfold gr
 rw[HT.FW,HT.FW]
 by_cases h:a<=xs.length
 ·rw[Nat.min_eq_left h]
  apply E5
  intro i
  rw[X7,X7,Nk]
  by_cases hi:i<b-a
  ·rw[if_pos hi]
   by_cases hb:a+i<xs.length
   ·rw[if_pos (by omega)]
   ·rw[gx (by omega)];simp
  ·rw[if_neg hi,if_neg (by omega)]
 ·rw[Nat.min_eq_right (show xs.length<=a by omega),Nl (bG _),Nl (show xs.length<=a by omega)];simp
end L3
namespace L2
open PySem PySem.Spec PyProof.Rows
section
variable{X:Cx}{e:Expr}{te:TE}{lo hi:Option Expr}{st:Expr}{tl th ts:TO}{pos p2:Pos}
theorem PU(ns:List Int):∀k,k<=ns.length->preSum (λi=>ns.getD i 0) k=(ns.take k).sum
 | 0,_=>rfl
 | k+1,h=>by
  show preSum (λi=>ns.getD i 0) k+ns.getD k 0=_
  rw[PU ns k (by omega),rQ,aJ (by omega),E6,aF,aJ (by omega)]
  simp
theorem b17(hc:X.calm=true):g5 X (.builtin "sum") (λxs H Q=>∃(p:Addr) (ns:List Int),xs=[.ref p]/\bI X.K H p (ns.map V.int)/\Q (.int ns.sum) H):=by
 intro pins s σ H xs us Q I r h
 obtain⟨p,ns,rfl,hS,q⟩:=h
 obtain⟨u,rfl,ru⟩:=r.one
 cases ru
 obtain⟨its,rv,pl,hz⟩:=I.list hS
 have hi:=Om rv
 have hlen:ns.length=its.length:=by have:=rv.length;simpa using this
 have hl:=pl.isList
 have fL:p<s.heap.objs.size:=by obtain⟨_,e,_⟩:=hl;exact cg e
 refine call_sum_walkG (wpAny_pyIter_list hl ?_)
 refine⟨s.heap.objs.size,[s.heap.objs.size,p],[s.heap.objs.size],its.toArray.size,_,_,λi=>ns.getD i 0,rfl,Walks.list (A:=X.A.in1) (I.ok.hd hc) _ p (gb fL) its.toArray,
  ⟨⟨_,iw _ rfl,rfl,rfl⟩,hl.push _⟩,λb hb=>?_,λi v hP=>?_,λh' tk t' hk=>?_⟩
 ·simp only[wj]
  rcases cN.mp hb with rfl | hb
  ·exact Bo _
  ·rw[dh.mp hb];exact E7 fL
 ·have e:its[i]?=some v:=by simpa using hP
  obtain⟨x,ex,q2⟩:∃x,(ns.map V.int)[i]?=some x/\RelV x v:=by
   have g9:i<its.length:=(kY.mp e).1
   obtain⟨u,e2,q2⟩:=rv.get (i:=i) (x:=V.int ns[i]) (by rw[bN,aJ (by omega)];rfl)
   rw[e]at e2;cases e2
   exact⟨_,by rw[bN,aJ (by omega)];rfl,q2⟩
  rw[bN]at ex
  obtain⟨n,en,rfl⟩:=BA.mp ex
  obtain⟨t,rfl⟩:=q2
  exact⟨t,by show rM n t=rM (ns.getD i 0) t;rw[aF,en];rfl⟩
 ·rw[cO,<- hlen,PU ns _ (bG _),uS]
  exact⟨.int _,H,I.kept (h':=h') (t':=tk) (Gw hk),⟨_,rfl⟩,q⟩
def gD{α:Type}(xs:List α)(lo hi st:Option Int):List α:=(sliceRange (sliceBounds lo hi st xs.length).1 (sliceBounds lo hi st xs.length).2.1 (sliceBounds lo hi st xs.length).2.2).filterMap (xs[·]?)
theorem Cv{xs:List V}{us:List Value}(r:Vals xs us):∀ix:List Nat,Vals (ix.filterMap (xs[·]?)) (ix.filterMap (us[·]?))
 | []=>.nil
 | i::ix=>by
  rw[rN,rN]
  cases e:xs[i]? with
  | none=>rw[r.none_of e];exact Cv r ix
  | some x =>
   obtain⟨u,e2,q⟩:=r.get e
   rw[e2]
   exact .cons q (Cv r ix)
def cO7(K:PySem.W.Frag)(te:TE)(tl th ts:TO):TE:=λσ H Q=>te σ H λx H1=>tl σ H1 λl H2=>th σ H2 λu H3=>ts σ H3 λd H4=>∃a xs,x=.ref a/\bI K H4 a xs/\d≠some 0/\∀p,H4 p=none->Q (.ref p) (upd H4 p (.lst (gD xs l u d)))
theorem bZ3(he:PE X e te)(hl:PO X lo tl)(hu:PO X hi th)(gJ:PO X (some st) ts):PE X (.Subscript e (.Slice lo hi (some st) p2) pos) (cO7 X.K te tl th ts):=by
 intro pins s σ H Q I h
 refine Subscript_ (aN (he pins s σ H _ I h) λv s1 zz=>?_)
 obtain⟨x,H1,I1,r1,q1⟩:=zz
 refine wpAny_Slice (aN (hl pins s1 σ H1 _ I1 q1) λvl s2 ⟨l,H2,I2,pl,q2⟩=>aN (hu pins s2 σ H2 _ I2 q2) λvu s3 ⟨u,H3,I3,pu,q3⟩=>aN (gJ pins s3 σ H3 _ I3 q3) λvd s4 zz=>?_)
 obtain⟨d,H4,I4,pd,q4⟩:=zz
 obtain⟨a,xs,rfl,hx,h0,q⟩:=q4
 cases r1
 have I5:Inv X pins σ H4 { s4 with heap:=s4.heap.push { cls:=.type "slice",data:=.fields #[vl,vu,vd] } }:=I4.kept (t':=s4.toks) λb ob q=>gh _ q
 obtain⟨its,r,ht,hz⟩:=I5.list hx
 have hlen:=r.length
 show wpAny (model X.prog X.w) X.A (subscriptTail e (.Slice lo hi (some st) p2) (.ref a) (.ref s4.heap.objs.size)) (EP X pins σ Q) X.xe { s4 with heap:=s4.heap.push { cls:=.type "slice",data:=.fields #[vl,vu,vd] } }
 refine tail_any (ops:=[.ref a,.ref s4.heap.objs.size]) ht.isList.typeIs slot_list_getitem.lookup ?_ (by with_unfolding_all rfl)
 refine wpAny_getItem_list_slice ht.isList (Heap.IsSliceOf.new ..) pl pu pd h0 ?_ (by rw[cO]<;>omega)
 have ep:slicePick its.toArray l u d=(gD its l u d).toArray:=by unfold slicePick gD;simp
 have el:(gD xs l u d).length<=xs.length:=by
  have e1:=slicePick_size_le its.toArray l u d
  rw[ep,cO,cO]at e1
  have e2:Vals (gD xs l u d) (gD its l u d):=by unfold gD;rw[<-hlen];exact Cv r _
  have:=e2.length
  omega
 rw[ep]
 refine⟨.ref _,_,I5.laid (t':=s4.toks) (o:=.lst (gD xs l u d)) (λb ob q=>gh _ q) (bG _) ?_,rfl,q _ (I5.aK.fresh (bG _))⟩
 exact⟨cQ el hz,_,0,by unfold gD;rw[<-hlen];exact Cv r _,iw _ rfl⟩
end
end L2
namespace L3
open PySem L2 PySem.Spec PyProof.Rows
section
variable{X:Cx}{F H:Hp}{e:Expr}{t:aI}{lo hi:Option Expr}{st:Expr}{tl th td:vy}{pos p2:Pos}
theorem Hc:∀{a:List Int} {ws:List V},S F H (ax a) ws->ws=a.map V.int
 | [],_,s=>by cases s;rfl
 | b::bs,_,s=>by
  cases s with
  | int s=>rw[Hc s];rfl
def jc:jH:=λds Q=>match ds with
 | [.lst _ xs]=>∃a,xs=ax a/\Q (.int a.sum)
 | _=>False
theorem zM(hc:X.calm=true):gP X (.builtin "sum") jc:=gP.of (b17 hc) λvs H Q zz=>by
 obtain⟨B,F,σ,δ,ts,ds,Qd,c,s,q,k⟩:=zz
 unfold jc at q
 split at q
 ·obtain⟨v,rfl,s1⟩:=mU s
  obtain⟨a,rfl,q⟩:=q
  obtain⟨p,ws,rfl,h,t⟩:=oq s1 c.ext rfl
  rw[Hc t]at h
  exact⟨p,a,rfl,kA h,k _ _ _ q (ag.refl _) (c.pushS (.int .nil) rfl)⟩
 ·exact q.elim
theorem S.He{xs:List D}{ws:List V}(s:S F H xs ws):∀ix:List Nat,S F H (ix.filterMap (xs[·]?)) (ix.filterMap (ws[·]?))
 | []=>.nil
 | i::ix=>by
  rw[rN,rN]
  cases e:xs[i]? with
  | none =>
   have:ws[i]?=none:=by
    have:=s.length
    rw[MY]at e ⊢
    omega
   rw[this];exact S.He s ix
  | some x =>
   obtain⟨u,e2,q⟩:=s.get e
   rw[e2]
   exact q.cons (S.He s ix)
theorem S.pick{xs:List D}{ws:List V}(s:S F H xs ws)(l u d:Option Int):S F H (gD xs l u d) (gD ws l u d):=by
 unfold gD;rw[<-s.length];exact s.He _
def m9(t:aI)(tl th td:vy):aI:=λδ Q=>t δ λx aj=>tl aj λl aY=>th aY λu gM=>td gM λd Hf=>match x with
 | .lst _ xs=>xs.all D.pl=true/\d≠some 0/\Q (.lst true (gD xs l u d)) Hf
 | _=>False
theorem PV(he:PE X e (lB t))(hl:PO X lo (lP tl))(hu:PO X hi (lP th))(hd:PO X (some st) (lP td)):PE X (.Subscript e (.Slice lo hi (some st) p2) pos) (lE (m9 t tl th td)) :=
 dj (bZ3 he hl hu hd) λσ H Q zq=>by
 obtain⟨B,F,δ,ts,Qd,c,q,k⟩:=zq
 exact⟨B,F,δ,ts,_,c,q,λx aj v F1 H1 q1 f1 h1 c1 s1=>⟨B,F1,aj,ts,_,c1,q1,λl aY F2 H2 q2 f2 h2 c2=>⟨B,F2,aY,ts,_,c2,q2,λu gM F3 H3 q3 f3 h3 c3=>⟨B,F3,gM,ts,_,c3,q3,λd Hf F4 H4 q4 f4 h4 c4=>by
  have qk:=s1.mono ((f2.trans f3).trans f4) ((h2.trans h3).trans h4)
  split at q4
  ·obtain⟨p,ws,rfl,h,t⟩:=oq qk c4.ext rfl
   refine⟨p,ws,rfl,kA h,q4.2.1,λr hr=>k _ Hf _ F4 _ q4.2.2 (((f1.trans f2).trans f3).trans f4) ((((h1.trans h2).trans h3).trans h4).trans (ag.upd hr)) (c4.rh hr (t.pick _ _ _) ?_)⟩
   rw[bZ]
   intro x hx
   unfold gD at hx
   obtain⟨i,_,hi⟩:=MZ.mp hx
   exact bZ.mp q4.1 x (uM hi)
  ·exact q4.elim⟩⟩⟩⟩
theorem pq(a:List Int)(l u d:Option Int):gD (ax a) l u d=ax (gD a l u d):=by
 unfold gD
 rw[h9]
 generalize sliceRange _ _ _=ix
 induction ix with
 | nil=>rfl
 | cons i ix ih =>
  rw[rN,rN,ih]
  have e:(ax a)[i]?=(a[i]?).map D.int:=by unfold ax;rw[bN]
  rw[e]
  cases a[i]?<;>rfl
def Hg:Expr->Option Int
 | .Constant (.int i) _ _=>some i
 | _=>none
def Cw:List Expr->Option (List Int)
 | []=>some []
 | e::es=>(Hg e).bind λi=>(Cw es).map (i :: ·)
theorem ce0{e:Expr}{i:Int}(h:Hg e=some i):∃a b,e=.Constant (.int i) a b:=by
 cases e with
 | Constant c a b =>
  cases c with
  | int j=>cases h;exact⟨_,_,rfl⟩
  | _=>cases h
 | _=>cases h
def cH9(ns:List Int):cJ:=λδ Q=>Q (ax ns) δ
theorem PX:∀(es:List Expr) (ns:List Int),Cw es=some ns->PA X es (lO (cH9 ns))
 | [],ns,h=>by cases h;exact cA
 | e::es,ns,h=>by
  obtain⟨i,hi,h2⟩:=Option.bind_eq_some_iff.mp (show(Hg e).bind (λi=>(Cw es).map (i :: ·))=some ns from h)
  obtain⟨ms,hm,rfl⟩:=BA.mp h2
  obtain⟨a,b,rfl⟩:=ce0 hi
  exact zk (cP (ao (i:=i)) (PX es ms hm)) λ_ _ _ q=>q
def nh(ns:List Int):aI:=λδ Q=>ns.length<=sizeLine/\Q (.lst true (ax ns)) δ
theorem PY{es:List Expr}{ns:List Int}(h:Cw es=some ns):PE X (.List es pos) (lE (nh ns)) :=
 dj (dm (PX es ns h)) λ_ _ _ zq=>by
 obtain⟨B,F,δ,ts,Qd,c,q,k⟩:=zq
 exact⟨B,F,δ,ts,Qd,c,by
  show(ax ns).length<=sizeLine/\_
  rw[h9];exact q,k⟩
theorem bW8{ns:List Int}(h:0<ns.length):eD (ax ns) (-1)=some (.int (ns.getD (ns.length-1) 0)):=by
 unfold eD jv
 rw[if_neg (by decide),h9,if_pos (by omega)]
 have hk:((-1:Int)+ns.length).toNat=ns.length-1:=by omega
 show(ax ns)[((-1:Int)+ns.length).toNat]?=_
 rw[hk,PQ (by omega),aF,aJ (by omega)];rfl
theorem zN{a b:Int}(k:Nat)(ha:a.natAbs<2 ^ k)(hb:b.natAbs<2 ^ k)(hk:k<=1000000):IntMulOk a b:=by
 have f:∀{a:Int},a.natAbs<2 ^ k->EW a<=2 ^ 20:=λ{a} ha=>by
  unfold EW
  have:(2:Nat) ^ 20=1048576:=by decide
  split
  ·omega
  ·rename_i h
   have h0:a≠0:=by simpa using h
   have:=(EO (show a.natAbs≠0 by omega)).mpr ha
   omega
 exact IntMulOk.of_bits (f ha) (f hb)
def tab(f:Nat->Int)(n:Nat):List Int:=(aw n).map f
theorem vB(f:Nat->Int)(n:Nat):(tab f n).length=n:=by simp[tab]
theorem PZ(f:Nat->Int){n i:Nat}(h:i<n):(tab f n).getD i 0=f i:=by
 unfold tab
 rw[aF,bN,gI h];rfl
theorem Hh(f:Nat->Int)(n:Nat):tab f n++[f n]=tab f (n+1):=by unfold tab;rw[pS,dw];rfl
theorem P0(f:Nat->Int)(n:Nat):tab f (n+1)=f 0::tab (λi=>f (i+1)) n:=by
 unfold tab;rw[E4,bR,bO];rfl
theorem kI{n:Nat}{g:i8}{tb:c9}{En:vq}{δ:Dl}(Iv:Nat->Dl->Prop)(h0:Iv 0 δ)(ht:∀k ai,k<n->Iv k ai->g (.int k) ai λaY=>tb { En with nx:=Iv (k+1),ct:=Iv (k+1),bk:=En.nx } aY)
  (hf:∀ai,Iv n ai->En.nx ai):iH (wB (λ(k:Nat)=>D.int (0+(k:Int))) (aw (n:Int).toNat)) g tb En δ:=by
 rw[ft]
 refine iH.mk Iv h0 (λi d ai hd iv=>?_) λai iv=>hf ai (by simpa using iv)
 rw[bN]at hd
 obtain⟨k,hk,rfl⟩:=BA.mp hd
 have hi:i<n:=by have:=(kY.mp hk).1;simpa using this
 rw[gI hi]at hk
 cases hk
 rw[tO]
 exact ht i ai hi iv
theorem Hi{sh:Bool}{n:Nat}{aD:List (Str × Nat)}{m i:Nat}{te:aI}{aj:Dl}{Q:D->Dl->Prop}(f:Nat->Int)(hl:n<=sizeLine)(hx:∀k,k<n->te ((dP aD m aj).set i (some (.int k))) λd _=>d=.int (f k))
  (hq:Q (.lst true (ax (tab f n))) aj):sE sh (wB (λ(k:Nat)=>D.int (0+(k:Int))) (aw (n:Int).toNat)) aD m (gN i) gB te aj Q:=by
 rw[ft,show(wB (λ(k:Nat)=>D.int (0+(k:Int))) (aw n))=((aw n).map λ(k:Nat)=>(0+(k:Int))).map D.int from by rw[bO];rfl]
 refine bV2 (λc=>f c.toNat) (by simpa using hl) (λc hc=>?_) ?_
 ·obtain⟨k,hk,rfl⟩:=aT.mp hc
  have:=hx k (bw.mp hk)
  rw[tO,ft]
  exact this
 ·rw[show((aw n).map λ(k:Nat)=>(0+(k:Int))).map (λc=>f c.toNat)=tab f n from by unfold tab;rw[bO];apply jq;intro k _;simp]
  exact hq
theorem b44{sh:Bool}{n:Nat}{aD:List (Str × Nat)}{m i:Nat}{te:aI}{aj:Dl}{Q:D->Dl->Prop}(f:Nat->D)(hl:n<=sizeLine)(hx:∀k,k<n->te ((dP aD m aj).set i (some (.int k))) λd _=>d=f k)
  (fM:∀k,k<n->(f k).fr=true) (hq:Q (.lst true ((aw n).map f)) aj):sE sh (wB (λ(k:Nat)=>D.int (0+(k:Int))) (aw (n:Int).toNat)) aD m (gN i) gB te aj Q:=by
 rw[ft]
 refine GS (λx=>match x with | .int c=>f c.toNat | _=>.aq) (λx h=>?_) (.inr λx h=>?_) (by simpa using hl) ?_
 ·obtain⟨y,hy,rfl⟩:=aT.mp h
  obtain⟨k,hk,rfl⟩:=aT.mp hy
  have:=hx k (bw.mp hk)
  rw[h7,tO]
  exact this
 ·obtain⟨y,hy,rfl⟩:=aT.mp h
  obtain⟨k,hk,rfl⟩:=aT.mp hy
  rw[h7,tO]
  exact fM k (bw.mp hk)
 ·rw[bO,bO,show(aw n).map (((λx=>match x with | D.int c=>f c.toNat | _=>.aq) ∘ D.sh) ∘ λ(k:Nat)=>D.int (0+(k:Int)))=(aw n).map f from jq λk _=>by simp[h7]]
  exact hq
theorem qW{xs:List D}{k:Int}{d:D}(h0:0<=k)(h:xs[k.toNat]?=some d):eD xs k=some d:=by
 unfold eD jv
 have hk:k.toNat<xs.length:=(kY.mp h).1
 rw[if_pos h0,if_pos (by omega)]
 exact h
theorem xv(f:Nat->Int){n k:Nat}(h:k<n):eD (ax (tab f n)) (k:Int)=some (.int (f k)):=by
 rw[oU (by omega) (by rw[vB];omega),ft,PZ f h]
end
section
variable{P:Program}{w:World}{K:PySem.W.Frag}{mg:Str->Option Value}{base:Heap}
end
section
variable{X:Cx}{n:Nat}{f:Addr}{fd:FuncData}{ps:List Str}{sp:SpX}{x:Str}{p pos:Pos}{e:Expr}{es:List Expr}{t:cJ}{tx:ed7}
end
section
variable{X:Cx}{pins Fy:List (Addr × Obj)}{σ:L2.St}{H:Hp}{s:Shared}{a:Addr}
end
section
variable{X:Cx}{tb th:c9}{body c88:List Stmt}{c89:Stmt}{K n:Str}{Kc:Addr}{i:Nat}{kp c90 pos:Pos}
end
section
variable{X:Cx}{F H:Hp}{v:V}{a:Expr}{ta:aI}{p pos:Pos}
end
section
variable{K:PySem.W.Frag}{mg:Str->Option Value}{x:Str}{C:Addr}
end
theorem ib{CX:fg}{P:Program}{w:World}{K:PySem.W.Frag}{mg:Str->Option Value}{base:Heap}{N:List Str}{q:Str}{sc:Scope}{f:Addr}{aG:Value}{A:Around}{outer:List Env}{s:Shared}{H:Hp}{E:XK}:(lM CX P w K mg base N q sc f aG A outer s H E).K=K:=rfl
theorem pz(φ:xf):(D.bK φ).pl=true:=rfl
theorem pB(φ:xf):(D.bK φ).sh=.bK φ:=rfl
theorem ie{X:Cx}:X.iC.K=X.K:=rfl
def gQ(xs ys:List D):List D:=eO (λx y=>D.tup [x,y]) xs ys
def iM(xs:List D):List D:=xs.mapIdx λi x=>D.tup [.int i,x]
theorem P1(xs ys:List D):(gQ xs ys).map D.sh=gQ (xs.map D.sh) (ys.map D.sh):=by
 unfold gQ
 rw[E8,List.zipWith_map]
 congr 1
theorem cq8{xs ys:List D}(h1:xs.all D.pl=true)(h2:ys.all D.pl=true):(gQ xs ys).all D.pl=true:=by
 unfold gQ
 rw[bZ]at h1 h2 ⊢
 intro d hd
 obtain⟨i,hi,e⟩:=jn hd
 rw[List.getElem_zipWith]at e
 subst e
 rw[hJ]
 simp only[cH,lh,iA,eZ]
 exact⟨h1 _ (eN _),h2 _ (eN _)⟩
theorem cf8(xs:List D):(iM xs).map D.sh=iM (xs.map D.sh):=by
 unfold iM
 apply E5
 intro i
 simp only[bN,E9,Option.map_map]
 cases xs[i]? with
 | none=>rfl
 | some x =>
  show some (D.sh (.tup [.int i,x]))=some (D.tup [.int i,x.sh])
  rw[iF];rfl
theorem cb6{xs:List D}(h1:xs.all D.pl=true):(iM xs).all D.pl=true:=by
 unfold iM
 rw[bZ]at h1 ⊢
 intro d hd
 obtain⟨i,hi,e⟩:=jn hd
 rw[List.getElem_mapIdx]at e
 subst e
 rw[hJ]
 simp only[cH,lh,iA,eZ]
 exact⟨rfl,h1 _ (eN _)⟩
theorem vC(xs:List D):(iM xs).length=xs.length:=by simp[iM]
theorem Hj(xs ys:List D):(gQ xs ys).length=min xs.length ys.length:=by simp[gQ]
section
variable{F H:Hp}{d:D}{v:V}{xs ys:List D}{ws us:List V}{p q:Addr}{K:PySem.W.Frag}
theorem Hk(s:S F H [d] [v])(e2:ag F H)(e:gO d=some xs):∃p ws,v=.ref p/\Rd H p (.lst ws)/\R H H (xs.map D.sh) ws []/\(d.pl=true->xs.all D.pl=true/\Rd F p (.lst ws)/\R F H xs ws []):=by
 cases s with
 | @shr p ws ys _ _ hp r _ =>
  obtain rfl:=de e
  refine⟨p,ws,rfl,.inl (e2 _ _ hp),?_,λ_=>⟨r.pl,.inl hp,r⟩⟩
  rw[q9 r.pl]
  exact r.shared e2 (ag.refl _)
 | @own p ws ys _ _ hp r _ =>
  obtain rfl:=de e
  exact⟨p,ws,rfl,.inl hp,r.frozen e2,λz=>by simp[eR]at z⟩
 | @fz p o ws ys _ _ hp r _ =>
  obtain rfl:=de e
  refine⟨p,ws,rfl,.inr ⟨o,e2 _ _ hp⟩,?_,λ_=>⟨r.pl,.inr ⟨o,hp⟩,r⟩⟩
  rw[q9 r.pl]
  exact r.shared e2 (ag.refl _)
 | aq _=>cases e
 | bl _=>cases e
 | int _=>cases e
 | str _=>cases e
 | tup _ _ _=>cases e
 | obj _ _ _ _=>cases e
 | bK _ _=>cases e
theorem Hl(r:R F H xs ws []){i:Nat}(hi:i<xs.length){x:V}(hx:ws[i]?=some x):R F H [xs[i]] [x] []:=by
 obtain⟨v,A1,e2,r1,sub⟩:=r.get (aJ hi)
 rw[hx]at e2;cases e2
 have:A1=[]:=X5.mpr λa ha=>by simpa using sub ha
 subst this
 exact r1
theorem P2(hp:Rd F p (.lst ws))(r:R F H xs ws [])(hq:Rd F q (.lst us))(t:R F H ys us [])(hF:Full F H):JD (Gz K p q) F (gQ xs ys) where
 go:=λi H' hs hi=>by
  rw[Hj]at hi
  have l1:=r.length
  have l2:=t.length
  exact⟨ws,us,_,_,.inl (jz hp hs),.inl (jz hq hs),aJ (show i<ws.length by omega),aJ (show i<us.length by omega)⟩
 oj:=λi H' v H2 hs hi zz=>by
  obtain⟨T,x,y,e1,e2,e3,hx,hy⟩:=zz
  subst e1 e3
  have Cy:=hi
  rw[Hj]at Cy
  have h1:=Hl (r.full hF hs rfl) (show i<xs.length by omega) (hx ws (.inl (jz hp hs)))
  have h2:=Hl (t.full hF hs rfl) (show i<ys.length by omega) (hy us (.inl (jz hq hs)))
  have sm:=ag.upd (o:=.tup [x,y]) e2
  refine⟨_,aJ hi,sm,?_⟩
  have eg:(gQ xs ys)[i]=.tup [xs[i]'(by omega),ys[i]'(by omega)]:=by simp[gQ]
  rw[eg]
  exact R.tup (A:=[]) (B:=[]) bS ((h1.shared (ag.refl _) sm).cons (h2.shared (ag.refl _) sm)) .nil
 stop:=λi H' hs hi=>by
  rw[Hj]at hi
  have l1:=r.length
  have l2:=t.length
  exact⟨ws,us,.inl (jz hp hs),.inl (jz hq hs),by omega⟩
theorem P4(hp:Rd F p (.lst ws))(r:R F H xs ws [])(hF:Full F H):JD (GF K p) F (iM xs) where
 go:=λi H' hs hi=>by
  rw[vC]at hi
  have l1:=r.length
  exact⟨ws,_,.inl (jz hp hs),aJ (show i<ws.length by omega)⟩
 oj:=λi H' v H2 hs hi zz=>by
  obtain⟨T,x,e1,e2,e3,hx⟩:=zz
  subst e1 e3
  have Cy:=hi
  rw[vC]at Cy
  have h1:=Hl (r.full hF hs rfl) Cy (hx ws (.inl (jz hp hs)))
  have sm:=ag.upd (o:=.tup [.int i,x]) e2
  refine⟨_,aJ hi,sm,?_⟩
  have eg:(iM xs)[i]=.tup [.int i,xs[i]]:=by simp[iM]
  rw[eg]
  exact R.tup (A:=[]) (B:=[]) bS (.int (h1.shared (ag.refl _) sm)) .nil
 stop:=λi H' hs hi=>by
  rw[vC]at hi
  have l1:=r.length
  exact⟨ws,.inl (jz hp hs),by omega⟩
end
section
variable{X:Cx}{a b:Expr}{ta:cJ}{p pos p5:Pos}{elts:List Expr}{x1:Nat}
def ni(t:cJ):kq:=λδ Q=>t δ λds ai=>match ds with
 | [d1,d2]=>∃xs ys,gO d1=some xs/\gO d2=some ys/\Q (d1.pl&&d2.pl) (gQ xs ys) ai
 | _=>False
theorem Hm(hg:Gl X "zip")(hm:X.mg "zip"=none)(ha:PA X [a,b] (lA ta))(hs:starEach [a,b] X.env=[(false,eval a X.env),(false,eval b X.env)]:=by rfl)(dD:starEach [b] X.env=[(false,eval b X.env)]:=by rfl) :
  PI X (.Tuple elts x1 p5) (.Call (.Name "zip" p) [a,b] [] pos) (lI (ni ta)) :=
 xm (cw7 hg hm ha hs dD) λσ H Q zq=>by
 obtain⟨B,F,δ,ts,Qd,c,q,k⟩:=zq
 exact⟨B,F,δ,ts,_,c,q,λds aj vs F1 H1 hd f1 h1 c1 s=>by
  match ds,hd,s with
  | [d1,d2],⟨xs,ys,i1,i2,hq⟩,s =>
   obtain⟨v1,b8,rfl,s1,s2⟩:=s.cX
   obtain⟨v2,ed8,rfl,s2,s3⟩:=s2.cX
   cases s3
   have e2:=c1.ext
   have sn:=vp e2
   obtain⟨p1,w1,rfl,r1,t1,u1⟩:=Hk s1 e2 i1
   obtain⟨p2,w2,rfl,r2,t2,u2⟩:=Hk s2 e2 i2
   refine⟨p1,p2,rfl,⟨w1,.inl r1⟩,⟨w2,.inl r2⟩,k _ _ aj _ _ H1 hq (f1.trans sn) h1 c1.snap ?_ λz=>?_⟩
   ·rw[P1]
    exact P2 r1 t1 r2 t2 (Full.refl _)
   ·rw[eZ]at z
    obtain⟨a1,a2,a3⟩:=u1 z.1
    obtain⟨b1,b2,b3⟩:=u2 z.2
    exact⟨cq8 a1 b1,P2 (jz a2 sn) (a3.shared sn (ag.refl _)) (jz b2 sn) (b3.shared sn (ag.refl _)) xh⟩⟩
def nj(t:cJ):kq:=λδ Q=>t δ λds ai=>match ds with
 | [d1]=>∃xs,gO d1=some xs/\Q d1.pl (iM xs) ai
 | _=>False
theorem xw(hg:Gl X "enumerate")(hm:X.mg "enumerate"=none)(ha:PA X [a] (lA ta))(hs:starEach [a] X.env=[(false,eval a X.env)]:=by rfl) :
  PI X (.Tuple elts x1 p5) (.Call (.Name "enumerate" p) [a] [] pos) (lI (nj ta)) :=
 xm (cl6 hg hm ha hs) λσ H Q zq=>by
 obtain⟨B,F,δ,ts,Qd,c,q,k⟩:=zq
 exact⟨B,F,δ,ts,_,c,q,λds aj vs F1 H1 hd f1 h1 c1 s=>by
  match ds,hd,s with
  | [d1],⟨xs,i1,hq⟩,s =>
   obtain⟨v1,b8,rfl,s1,s2⟩:=s.cX
   cases s2
   have e2:=c1.ext
   have sn:=vp e2
   obtain⟨p1,w1,rfl,r1,t1,u1⟩:=Hk s1 e2 i1
   refine⟨p1,rfl,⟨w1,.inl r1⟩,k _ _ aj _ _ H1 hq (f1.trans sn) h1 c1.snap ?_ λz=>?_⟩
   ·rw[cf8]
    exact P4 r1 t1 (Full.refl _)
   ·obtain⟨a1,a2,a3⟩:=u1 z
    exact⟨cb6 a1,P4 (jz a2 sn) (a3.shared sn (ag.refl _)) xh⟩⟩
end
section
variable{X:Cx}{F H:Hp}{e b:Expr}{pos p p2 p3 pr apos bJ Hb:Pos}{t ti te:aI}{x y:Str}{i j:Nat}
theorem Ho{α:Type}{xs:List α}{k:Nat}{v:α}(h:xs[k]?=some v):eD xs (k:Int)=some v:=by
 unfold eD jv
 have hk:k<xs.length:=(kY.mp h).1
 rw[if_pos (by omega),if_pos (by omega)]
 exact h
end
section
variable{X:Cx}{CX:fg}{k:Nat}{f:Addr}{fd:FuncData}{ps:List Str}{sp:bg}{E:XK}{fn x1 x2 y1 y2:Str}{i1 i2 j1 j2:Nat}{tk:Nat}
 {tp t1 t2 zp ed9 q1 q2 fp ee0 a1 a2 c94 ee1 uh cp Hb pr apos bJ ee2 pos:Pos}
end
theorem ak.c95{B:Bs}{F H:Hp}{σ:L2.St}{δ:Dl}{ts:List (D × V)}{a b:D}{v:V}(c:ak B F H σ δ ((.tup [a,b],v)::ts)):∃p u w,v=.ref p/\H p=some (.tup [u,w])/\ak B F H σ δ ((a,u)::(b,w)::ts):=by
 obtain⟨A,C,r,s,nd,fr⟩:=c.own
 cases r with
 | @tup p ws xs A1 _ _ B1 hp r1 r2 =>
  obtain⟨u,gz,A2,A3,rfl,rfl,h1,h2⟩:=r1.cX
  obtain⟨w,ee3,A4,A5,rfl,rfl,h3,h4⟩:=h2.cX
  cases h4
  refine⟨p,u,w,rfl,hp,c.ext,c.b1,c.b2,c.b3,A2++(A4++B1),C,h1.cons (h3.cons r2),s,?_,?_⟩
  ·simpa using nd
  ·intro a ha;exact fr a (by simpa using ha)
section
variable{X:Cx}{y1 y2:Str}{i1 i2 tk m:Nat}{t1 t2 tp:Pos}
def fO(i1 i2:Nat):i8:=λd δ Q=>match d with
 | .tup [a,b]=>Q ((δ.set i1 (some a)).set i2 (some b))
 | _=>False
theorem vD(hc:X.calm=true)(Cz:X.N.Nodup)(m1:X.N[i1]?=some y1)(l1:Loc X.env.scope y1)(m2:X.N[i2]?=some y2)(l2:Loc X.env.scope y2)(P5:m<=i1:=by decide)(ug:m<=i2:=by decide)
  (f1:X.fn y1=true\/X.env.scope.names.lookup y1=some .local:=by first | exact .inl rfl | exact .inr rfl | assumption) (f2:X.fn y2=true\/X.env.scope.names.lookup y2=some .local:=by first | exact .inl rfl | exact .inr rfl | assumption)
  (Hq:(assignEach [.Name y1 t1,.Name y2 t2] X.env).map (·.2)=assign (.Name y1 t1) X.env::(assignEach [.Name y2 t2] X.env).map (·.2):=by rfl) (Hr:(assignEach [.Name y2 t2] X.env).map (·.2)=assign (.Name y2 t2) X.env::(assignEach [] X.env).map (·.2):=by rfl)
  (hn:(assignEach [.Name y1 t1,.Name y2 t2] X.env).length=2:=by rfl) (gJ:(assignEach [.Name y1 t1,.Name y2 t2] X.env).findIdx? (·.1)=none:=by rfl) :
  PG X (.Tuple [.Name y1 t1,.Name y2 t2] tk tp) (lG m (fO i1 i2)) :=
 Ph (Ze hc (N1 (BZ Cz m1 l1 f1) (N1 (BZ Cz m2 l2 f2) Zc Hr) Hq) hn gJ) λv σ H Q zz=>by
  obtain⟨B,F,δ,ts,d,Qd,c,q,k⟩:=zz
  obtain⟨a,b,rfl,q⟩:∃a b,d=D.tup [a,b]/\Qd ((δ.set i1 (some a)).set i2 (some b)):=by
   unfold fO at q
   split at q
   ·exact⟨_,_,rfl,q⟩
   ·exact q.elim
  obtain⟨p,u,w,rfl,hp,c2⟩:=c.c95
  refine⟨p,[u,w],rfl,iX.of hp,rfl,u,[w],rfl,w,[],rfl,rfl,k _ _ q (by simp) (λj hj=>?_) ((c2.store i1).store i2)⟩
  rw[tH (by omega),tH (by omega)]
end
open Classical in
theorem fP{α:Type}{sh:Bool}{xs:List D}{aD:List (Str × Nat)}{n m:Nat}{te:aI}{aj:Dl}{Q:D->Dl->Prop}(l:List α)(e g:α->D)(kJ:xs.map D.sh=l.map e)(inj:∀a b,e a=e b->a=b)
  (hx:∀a∈l,te ((dP aD n aj).set m (some (e a))) λd _=>d=g a) (fM:(sh&&aD.all (gq aj))=true\/∀a∈l,(g a).fr=true) (hl:l.length<=sizeLine) (hq:Q (.lst true (l.map g)) aj):sE sh xs aD n (gN m) gB te aj Q:=by
 let f:D->D:=λx=>if h:∃a∈l,e a=x then g h.choose else .aq
 have hf:∀a∈l,f (e a)=g a:=λa ha=>by
  have h:∃b∈l,e b=e a:=⟨a,ha,rfl⟩
  show(if h:∃b∈l,e b=e a then g h.choose else .aq)=g a
  rw[dif_pos h]
  exact congrArg g (inj _ _ h.choose_spec.2)
 refine GS f (λx h=>?_) (fM.imp id λh x hx=>?_) ?_ ?_
 ·rw[kJ]at h
  obtain⟨a,ha,rfl⟩:=aT.mp h
  rw[hf a ha];exact hx a ha
 ·rw[kJ]at hx
  obtain⟨a,ha,rfl⟩:=aT.mp hx
  rw[hf a ha];exact h a ha
 ·have:=congrArg Bq kJ
  simp at this
  omega
 ·rw[kJ,bO,show l.map (f ∘ e)=l.map g from jq λa ha=>hf a ha]
  exact hq
end L3
namespace L2
open PySem PySem.Spec PyProof.Rows
section
variable{X:Cx}
end
end L2
namespace L3
open PySem L2 PySem.Spec PyProof.Rows
abbrev tx(l:List Nat):D:=.str ⟨l.toArray⟩
section
variable{X:Cx}{F H:Hp}{e:Expr}{es:List Expr}{t:aI}{pos p p2 apos bJ:Pos}
def kK(x:D)(lo hi:Option Int)(Q:D->Prop):Prop:=match x with
 | .lst _ xs=>xs.all D.pl=true/\Q (.lst true (gr xs lo hi))
 | .fz xs=>Q (.lst true (gr xs lo hi))
 | .str z=>z.length<=sizeLine/\Q (tx (gr z.cps.toList lo hi))
 | _=>False
def nk(t:aI)(tl th:vy):aI:=λδ Q=>t δ λx aj=>tl aj λl aY=>th aY λu gM=>kK x l u λd=>Q d gM
theorem xx{lo hi:Option Expr}{tl th:vy}(he:PE X e (lB t))(hl:PO X lo (lP tl))(hu:PO X hi (lP th)):PE X (.Subscript e (.Slice lo hi none p2) pos) (lE (nk t tl th)) :=
 dj (cf5 (cT5.or cz9) he hl hu) λσ H Q zq=>by
 obtain⟨B,F,δ,ts,Qd,c,q,k⟩:=zq
 exact⟨B,F,δ,ts,_,c,q,λx aj v F1 H1 q1 f1 h1 c1 s1=>⟨B,F1,aj,ts,_,c1,q1,λl aY F2 H2 q2 f2 h2 c2=>⟨B,F2,aY,ts,_,c2,q2,λu gM F3 H3 q3 f3 h3 c3=>by
  have qk:=s1.mono (f2.trans f3) (h2.trans h3)
  unfold kK at q3
  split at q3
  ·obtain⟨p,ws,rfl,h,t⟩:=oq qk c3.ext rfl
   exact .inl ⟨p,ws,rfl,kA h,λr hr=>k _ gM _ F3 _ q3.2 ((f1.trans f2).trans f3) (((h1.trans h2).trans h3).trans (ag.upd hr)) (c3.rh hr (t.cut _ _) (PL q3.1 _ _))⟩
  ·obtain⟨p,ws,rfl,h,t⟩:=oq qk c3.ext rfl
   cases qk with
   | fz h' r _=>exact .inl ⟨_,_,rfl,kA (.inr ⟨_,c3.ext _ _ h'⟩),λr' hr=>k _ gM _ F3 _ q3 ((f1.trans f2).trans f3) (((h1.trans h2).trans h3).trans (ag.upd hr)) (c3.rh hr (r.s.cut _ _) (PL r.pl _ _))⟩
  ·cases qk with
   | str _=>exact .inr ⟨_,rfl,q3.1,k _ gM _ F3 H3 q3.2 ((f1.trans f2).trans f3) ((h1.trans h2).trans h3) (c3.pushS (.str .nil) rfl)⟩
  ·exact q3.elim⟩⟩⟩
end
theorem pE(a:List Nat):(⟨a.toArray⟩:Str).length=a.length:=by show a.toArray.size=_;simp
def ay(l:List Nat):List D:=ax (l.map λ(n:Nat)=>(n:Int))
theorem fQ(l:List Nat):(ay l).length=l.length:=by unfold ay;rw[h9,aR]
theorem dF(l:List Nat):ay l=l.map λ(n:Nat)=>D.int (n:Int):=by unfold ay ax;rw[bO];rfl
theorem vE(l:List Nat):(ay l).map D.sh=l.map λ(n:Nat)=>D.int (n:Int):=by unfold ay;rw[fB];exact dF l
theorem pF(a b:Nat)(h:D.int (a:Int)=D.int (b:Int)):a=b:=by injection h with h;omega
theorem je(l:List Nat):(ay l).all D.pl=true:=jJ _
theorem kL(l:List Nat):(ay l).map D.sh=ay l:=fB _
theorem nq(a b:List Nat):ay a++ay b=ay (a++b):=by unfold ay;rw[iK,dw]
theorem pG(l:List Nat)(lo hi:Option Int):gr (ay l) lo hi=ay (gr l lo hi):=by
 unfold ay
 rw[m8]
 congr 1
 unfold gr
 rw[aR,Nj,Ni]
theorem P6{α:Type}(xs:List α)(b:Nat):gr xs none (some (b:Int))=xs.take b:=by
 have:=PR xs 0 b
 unfold gr at this ⊢
 simpa[HT.cZ]using this
theorem Hs{α:Type}(xs:List α)(a:Nat):gr xs (some (a:Int)) none=xs.drop a:=by
 unfold gr
 rw[HT.FW]
 show(xs.drop (min a xs.length)).take (xs.length-min a xs.length)=_
 by_cases h:a<=xs.length
 ·rw[Nat.min_eq_left h,E2 (by rw[jT];exact bG _)]
 ·rw[Nat.min_eq_right (by omega),List.drop_length,Nl (by omega)];simp
end L3
namespace L2
open PySem PySem.Spec PyProof.Rows
section
variable{X:Cx}{tg l o e:Expr}{tl to te:TE}{apos bJ:Pos}
end
end L2
namespace L3
open PySem L2 PySem.Spec PyProof.Rows
section
variable{X:Cx}{F H:Hp}{tg l e:Expr}{te t tb:aI}{apos bJ pos:Pos}
variable{o:Expr}
theorem CA:∀{ns:List Int} {ws:List V},S F H (ax ns) ws->ws=ns.map V.int
 | [],_,s=>by cases s;rfl
 | n::ns,_,s=>by
  cases s with
  | int s=>rw[CA s];rfl
end
end L3
namespace L2
open PySem PySem.Spec PyProof.Rows
def Tb(ts:List Addr)(H:Hp):Prop:=∀P∈ts,∃ps,H P=some (.dN ps)
structure xy(ts:List Addr)(H:Hp):Prop where
 any:∀b,H b=none\/(∃o xs,H b=some (.bD o (.lst xs)))\/(b∈ts/\H b=some (.dN #[]))
 tab:∀P∈ts,H P=some (.dN #[])
theorem xy.tb{ts:List Addr}{H:Hp}(h:xy ts H):Tb ts H:=λP hP=>⟨#[],h.tab P hP⟩
def Bm(mg:Str->Option Value)(base:Heap):Prop:=∃bm o,mg "__builtins__"=some (.ref bm)/\bm≠builtinsNs/\bm≠mainGlobals/\base.get? bm=some o/\o.cls=.type "module"/\o.dict=some builtinsNs/\o.data=.plain
theorem b38{P:Program}{w:World}{K:PySem.W.Frag}{mg mb:Str->Option Value}{CX:fg}{k:Nat}{fa a:Addr}{fd:FuncData}{x:Str}{sp:Sp}{bH:Shared}{vs:List Value}{ns:List Int}{ts:List Addr}
  (KX:K.In bH.heap) (CB:bH.heap.Ns mainGlobals mg) (hb:bH.heap.Ns builtinsNs mb) (hbb:∀x:Str,x≠"__name__"->mb x=bootBuiltins x) (c98:bH.heap.NoLimit) (hg:bH.gens=#[])
  (ht:∀P∈ts,bH.heap.get? P=some (PySem.W.tabObj #[])) (Ht:∀P∈ts,isCodeTable bH.heap P) (hkt:∀P∈ts,K.lookup P=none)
  (ha:bH.heap.get? a=some { cls:=.type "list",data:=.seq vs.toArray }) (hi:IntsAre vs ns) (hl:ns.length<=sizeLine) (hr:cw k callerA)
  (zO:Bm mg bH.heap) (F:∀base:Heap,K.In base->base.Ns mainGlobals mg->Bm mg base->aO P w K mg base CX k fa fd [x] sp) (da0:∀(s:Shared) (u:Value),BindsTo s fd ⟨[u],[]⟩ [(x,u)])
  (j8:∀H:Hp,xy ts H->bI K H a (ns.map V.int)->sp [.ref a] H (λv _=>v=.bl true) λ_ _ _=>False)
  (Hu:∀H e s',CX [] H bH (λ_ _ _=>False) e s'->False) :
  codeAny (model P w) callerA (.call (.ref fa) ⟨[.ref a],[]⟩) (λr s'=>r=.ok (.ret (.bool true))/\OldK bH.heap s'.heap/\s'.os=bH.os/\AllBare s'.gens) bH:=by
 have rv:=OG hi
 have da1:=hi.length
 have nat:a ∉ ts:=λz=>by
  have:=ht a z
  rw[ha]at this
  cases this
 have core:∀H:Hp,xy ts H->bI K H a (ns.map V.int)->dA P w H bH.heap->(∀b,H b≠none->b=a\/b∈ts)->(H a≠none->K.lookup a=none) ->
   codeAny (model P w) callerA (.call (.ref fa) ⟨[.ref a],[]⟩) (λr s'=>r=.ok (.ret (.bool true))/\OldK bH.heap s'.heap/\s'.os=bH.os/\AllBare s'.gens) bH:=by
  intro H hO hS aK hA hK
  have Hv:∀{b:Addr} {o:Obj},bH.heap.get? b=some o->H b=none->(qR bH.heap H).get? b=some o:=λe n=>YA e n
  have yR:∀{b:Addr} {o:Obj} {es:Array DictEntry} {ep:Nat},bH.heap.get? b=some o->o.data=.dict es ep->H b=none:=λ{b o es ep} e d=>by
   cases q:H b with
   | none=>rfl
   | some u =>
    rcases hA b (by rw[q];simp)with e' | e'
    ·subst e'
     rw[ha]at e;cases e
     have d':Data.seq vs.toArray _=Data.dict es ep:=d
     cases d'
    ·rw[ht b e']at e;cases e
     have d':Data.fields #[]=Data.dict es ep:=d
     cases d'
  have CC:∀{b:Addr} {m:Str->Option Value},bH.heap.Ns b m->(qR bH.heap H).Ns b m:=λ{b m} ⟨o,es,ep,e,d,r⟩=>⟨o,es,ep,Hv e (yR e d),d,r⟩
  have P7:K.In (qR bH.heap H):=λb o e=>Hv (KX b o e) (by
   cases q:H b with
   | none=>rfl
   | some u =>
    rcases hA b (by rw[q];simp)with e' | e'
    ·subst e'
     rw[hK (by rw[q];simp)]at e;cases e
    ·rw[hkt b e']at e;cases e)
  have hBm:Bm mg (qR bH.heap H):=by
   obtain⟨bm,o,b1,b2,b3,b4,b5,b6,b7⟩:=zO
   refine⟨bm,o,b1,b2,b3,Hv b4 ?_,b5,b6,b7⟩
   cases q:H bm with
   | none=>rfl
   | some u =>
    rcases hA bm (by rw[q];simp)with e' | e'
    ·rw[e',ha]at b4;cases b4
     have d':Data.seq vs.toArray _=Data.plain:=b7
     cases d'
    ·rw[ht bm e']at b4;cases b4
     have d':Data.fields #[]=Data.plain:=b7
     cases d'
  have hM:Mod K mg (qR bH.heap H):=⟨P7,CC CB,⟨mb,CC hb,hbb⟩,let⟨mc,h1,h2⟩:=c98;⟨mc,CC h1,h2⟩⟩
  have e0:j7 P w K mg (qR bH.heap H) callerA [] bH H:=⟨rfl,hM,λb o e=>YB e,tJ (Yz _ _),trivial,λb hb=>absurd (show b∈([]:List Addr) from hb) (by simp),aK,.of_eq hg⟩
  refine codeAny_mono ((F _ P7 (CC CB) hBm).run callerA [] bH H ⟨[.ref a],[]⟩ [.ref a] [.ref a] _ _ hr e0 (da0 bH (.ref a)) (.cons rfl .nil) (j8 H hO hS)) λr s' h=>?_
  cases r with
  | error e=>exact(Hu H e s' h).elim
  | ok fl =>
   cases fl with
   | next=>exact gG h
   | brk=>exact gG h
   | cont=>exact gG h
   | ret u =>
    obtain⟨v,H',os,bare,un,P8,r',q⟩:=h
    have q':v=.bl true:=q
    subst q'
    obtain rfl:u=EI true:=r'
    have each:∀b o,bH.heap.get? b=some o->asItWas bH.heap s'.heap b o/\∃o',s'.heap.get? b=some o':=λb o e=>by
     cases q:H b with
     | none =>
      have z:=un.keep b o e q (by intro z;exact absurd (show b∈([]:List Addr) from z) (by simp)) (by simp)
      exact⟨.inl z,o,z⟩
     | some u =>
      rcases hO.any b with z | ⟨ob,xs,z⟩ | ⟨nt,z⟩
      ·rw[q]at z;cases z
      ·have z2:=un.n6 b ob _ z
       obtain⟨e1,_⟩:=aK b _ z
       obtain⟨e2,_⟩:=P8 b _ z2
       rw[e]at e1;cases e1
       exact⟨.inl e2,_,e2⟩
      ·obtain⟨more,z2⟩:=un.j3 b _ z
       have e2:=(P8 b _ z2).1
       rw[ht b nt]at e;cases e
       exact⟨.inr (.inl ⟨Ht b nt,rfl,#[],more,rfl,e2⟩),_,e2⟩
    exact⟨rfl,⟨λb o e=>(each b o e).1,λb o e=>(each b o e).2⟩,os,bare⟩
 have tok:∀(H:Hp) (b:Addr),b∈ts->fc P w H bH.heap b (.dN #[]):=λH b hb=>⟨ht b hb,trivial,λpos cv q=>by cases q⟩
 cases hk:K.lookup a with
 | some o =>
  have e:=KX a o hk
  rw[ha]at e
  cases e
  refine core (λb=>if b∈ts then some (.dN #[])else none) ⟨λb=>?_,λb hb=>if_pos hb⟩ (.inr ⟨_,vs.toArray,_,hk,rfl,rfl,rfl,by rw[cO,da1];exact hl,by simpa using rv⟩) (λb u z=>?_) (λb z=>?_) λz=>absurd (if_neg nat) z
  ·by_cases hb:b∈ts
   ·exact .inr (.inr ⟨hb,if_pos hb⟩)
   ·exact .inl (if_neg hb)
  ·by_cases hb:b∈ts
   ·have z':=(if_pos hb).symm.trans z
    cases z'
    exact tok _ b hb
   ·have z':=(if_neg hb).symm.trans z
    cases z'
  ·by_cases hb:b∈ts
   ·exact .inr hb
   ·exact absurd (if_neg hb) z
 | none =>
  refine core (λb=>if b=a then some (.bD { cls:=.type "list",data:=.seq vs.toArray } (.lst (ns.map V.int)))else if b∈ts then some (.dN #[])else none) ⟨λb=>?_,λb hb=>?_⟩ (.inl (.inr ⟨{ cls:=.type "list",data:=.seq vs.toArray },if_pos rfl⟩)) (λb u z=>?_) (λb z=>?_) λ_=>hk
  ·by_cases hb:b=a
   ·exact .inr (.inl ⟨_,_,if_pos hb⟩)
   ·by_cases nt:b∈ts
    ·exact .inr (.inr ⟨nt,(if_neg hb).trans (if_pos nt)⟩)
    ·exact .inl ((if_neg hb).trans (if_neg nt))
  ·have ua:b≠a:=λz=>nat (z ▸ hb)
   exact(if_neg ua).trans (if_pos hb)
  ·by_cases hb:b=a
   ·have z':=(if_pos hb).symm.trans z
    cases z'
    subst hb
    exact⟨ha,by rw[aR];exact hl,vs,_,rv,ha⟩
   ·by_cases nt:b∈ts
    ·have z':=((if_neg hb).trans (if_pos nt)).symm.trans z
     cases z'
     exact tok _ b nt
    ·have z':=((if_neg hb).trans (if_neg nt)).symm.trans z
     cases z'
  ·by_cases hb:b=a
   ·exact .inl hb
   ·by_cases nt:b∈ts
    ·exact .inr nt
    ·exact absurd ((if_neg hb).trans (if_neg nt)) z
theorem da3{l:PySem.W.OpenLaw}{n k:Nat}{q:Program}{loose:List Str}{XP:(Str->Option Value)->Heap->Prop}{YP:World->Heap->Prop}{d:DefRec}{K:Params->PySem.W.Frag}{CX:World->fg}{sp:World->Sp}{x:Str}{ts:List Addr}
  (hn:l.most=some n) (yO:n<=sizeLine) (yW:d.params.defaults=[]) (hr:cw k callerA)
  (hY:∀(w:World) (h:Heap),YP w h->(K w.params).In h/\∀P∈ts,h.get? P=some (PySem.W.tabObj #[]))
  (hC:∀(w:World) (h:Heap),(K w.params).In h->∀P∈ts,(K w.params).lookup P=none/\∃c,PySem.W.CodeHd h c P)
  (F:∀(w:World) (mg:Str->Option Value) (fa:Addr) (h:Heap),(K w.params).In h->h.Ns mainGlobals mg->mg d.name=some (.ref fa) ->
   ∃fd:FuncData,(∀(s:Shared) (u:Value),BindsTo s fd ⟨[u],[]⟩ [(x,u)]) /\
    ∀base:Heap,(K w.params).In base->base.Ns mainGlobals mg->Bm mg base->aO l.prog w (K w.params) mg base (CX w) k fa fd [x] (sp w))
  (j8:∀(w:World) (H:Hp) (a:Addr) (ns:List Int),ns.length<=n->xy ts H->bI (K w.params) H a (ns.map V.int)->sp w [.ref a] H (λv _=>v=.bl true) λ_ _ _=>False)
  (Hu:∀(w:World) (H:Hp) (s:Shared) (e:Value) (s':Shared),CX w [] H s (λ_ _ _=>False) e s'->False) :
  PySem.W.WalkO q loose XP YP l.row.toRowW d [] (λf vs=>PySem.call f vs):=by
 refine Att.cV9 hn yW λw eQ bH mg mb fa o pm cd doc a vs ns G Y ho hd cC yX Gi hints hlen hg=>?_
 obtain⟨KX,hT⟩:=hY w _ Y
 obtain⟨fd,hb,hF⟩:=F w mg fa _ KX G.T.g yX
 have Ht:∀P∈ts,isCodeTable bH.heap P:=λP hP=>by
  obtain⟨_,c,C⟩:=hC w _ KX P hP
  exact(C.tab (hT P hP)).isCodeTable
 have zO:Bm mg bH.heap:=by
  obtain⟨bm,ob,b1,b2,b3,b4,b5,b6⟩:=G.T.bmain
  refine⟨bm,ob,b1,b2,λq=>?_,b3,b4,b5,b6⟩
  obtain⟨o,es,ep,e,hd,_⟩:=G.T.g
  rw[q,e]at b3;cases b3;rw[hd]at b6;cases b6
 exact b38 KX G.T.g G.T.b G.T.builtins G.T.nolimit hg hT Ht (λP hP=>(hC w _ KX P hP).1) Gi hints (cQ hlen yO) hr zO hF hb (λH hO hS=>j8 w H a ns hlen hO hS) λH e s'=>Hu w H bH e s'
end L2
namespace L3
open PySem L2 PySem.Spec PyProof.Rows
def vF(ts:List Addr)(sp:Sp):Sp:=λvs H Q E=>Tb ts H/\sp vs H Q E
theorem Hw{X:Cx}{pins:List (Addr × Obj)}{σ:L2.St}{H:Hp}{s:Shared}{ts:List Addr}(I:Inv X pins σ H s)(h:Tb ts X.qS):Tb ts H:=λP hP=>by
 obtain⟨ps,e⟩:=h P hP
 obtain⟨m,e2⟩:=I.base.j3 P ps e
 exact⟨_,e2⟩
def CD(ts:List Addr)(K:PySem.W.Frag):Sp:=λvs H Q _=>∃(a:Addr) (ns:List Int),vs=[.ref a]/\xy ts H/\bI K H a (ns.map V.int)/\ns.length<=63/\∀H',Q (.bl true) H'
theorem cd7{ts:List Addr}{K:PySem.W.Frag}(nl:K.all (λp=>Ha p.2)=true){vs:List V}{H:Hp}{Q:VK}{E:XK}(h:CD ts K vs H Q E):vF ts (bo PM) vs H Q E:=by
 obtain⟨a,ns,rfl,hO,hS,hl,q⟩:=h
 have hz:∃o,H a=some (.bD o (.lst (ns.map V.int))):=by
  rcases hS with (hS | hS) | ⟨o,its,n,hk,hc,_⟩
  ·rcases hO.any a with z | ⟨o,xs,z⟩ | ⟨_,z⟩
   ·rw[hS]at z;cases z
   ·rw[hS]at z;cases z
   ·rw[hS]at z;cases z
  ·exact hS
  ·have hm:=bG8 hk
   have:=bZ.mp nl _ hm
   simp[Ha,hc]at this
 obtain⟨o,ho⟩:=hz
 refine⟨hO.tb,H,[.fz (ax ns)],λd=>d=.bl true,ag.refl _,.fz ho (qo ns) .nil,⟨ns,rfl,hl,rfl⟩,λd v F' H' A hd hs hf he h3 r nd fr=>?_⟩
 subst hd
 cases r
 exact q H'
end L3
namespace L2
open PySem PySem.Spec PyProof.Rows
def rem(H:Hp)(f c:Addr):Hp:=λb=>if b=f\/b=c then none else H b
def sN(H H':Hp)(f c:Addr):Hp:=λb=>if b=f\/b=c then H b else H' b
section
variable{P:Program}{w:World}{H H':Hp}{h:Heap}{a b f c:Addr}{o:HO}{of oc:Obj}
theorem P9:rem H f c f=none:=if_pos (.inl rfl)
theorem CF:rem H f c c=none:=if_pos (.inr rfl)
theorem jf(h1:b≠f)(h2:b≠c):rem H f c b=H b:=if_neg (by simp[h1,h2])
theorem xB(e:H b=none):rem H f c b=none:=by unfold rem;split;rfl;exact e
theorem Qa(e:rem H f c b=some o):b≠f/\b≠c/\H b=some o:=by
 unfold rem at e
 split at e
 ·cases e
 ·rename_i n
  exact⟨λz=>n (.inl z),λz=>n (.inr z),e⟩
theorem ui(h1:b≠f)(h2:b≠c):sN H H' f c b=H' b:=if_neg (by simp[h1,h2])
theorem Qb:sN H H' f c f=H f:=if_pos (.inl rfl)
theorem Hx:sN H H' f c c=H c:=if_pos (.inr rfl)
theorem fc.rem{φ:Heap->Prop}(x:fc P w H h a o)(ha:a≠f)(hf:H f=some (.ext φ))(hc:H c=some (.own f)\/H c=none)(Hy:¬ ∀h',φ h'->∃q,h'.CodeRec (.ref f) q):fc P w (rem H f c) h a o:=by
 have own:∀b,H b=some (.own a)->L2.rem H f c b=some (.own a):=λb e=>by
  rw[jf (λz=>by subst z;rw[hf]at e;cases e) (λz=>by subst z;rcases hc with hc | hc<;>(rw[hc]at e;cases e);exact ha rfl)];exact e
 have tup:∀b xs,H b=some (.tup xs)->L2.rem H f c b=some (.tup xs):=λb xs e=>by
  rw[jf (λz=>by subst z;rw[hf]at e;cases e) (λz=>by subst z;rcases hc with hc | hc<;>(rw[hc]at e;cases e))];exact e
 induction o with
 | lst xs=>exact x
 | tup xs=>exact x
 | dK eo=>exact x
 | dT eo =>
  obtain⟨z,y,xs,r,ob⟩:=x
  exact⟨z,y,xs,Paired.Fv r λp q z=>⟨z.1,tup _ _ z.2.1,z.2.2⟩,ob⟩
 | set S n=>exact x
 | ins C dx fs =>
  obtain⟨d,r⟩:=x
  exact⟨own _ d,r⟩
 | own y=>exact x
 | xd fs=>exact x
 | BL lo hi=>exact x
 | bD ob u ih=>obtain⟨e,q⟩:=x;exact⟨e,ih q⟩
 | dN ps =>
  obtain⟨e,t,cc⟩:=x
  refine⟨e,t,λpos cv q=>?_⟩
  obtain⟨d,φ,e1,e2,e3⟩:=cc pos cv q
  refine⟨d,φ,e1,?_,e3⟩
  rw[jf (λz=>?_) (λz=>by subst z;rcases hc with hc | hc<;>(rw[hc]at e2;cases e2))]
  ·exact e2
  ·subst z
   rw[hf]at e2;cases e2
   exact Hy e3
 | met f y=>exact x
 | ext φ=>obtain⟨p,r,st⟩:=x;exact⟨p,r,λh1 h2 p1 kk=>st h1 h2 p1 λb o hb q=>kk b o (hb.imp id (own b)) q⟩
theorem Qc{φ:Heap->Prop}{fd:FuncData}(p:φ h)(g:∀h',φ h'->h'.get? f=some of)(hd:of.data=.func fd):¬ ∀h',φ h'->∃q,h'.CodeRec (.ref f) q:=λz=>by
 obtain⟨q,k,ok,vs,t,q1,q2,q3,_⟩:=z h p
 cases q1
 rw[g h p]at q2;cases q2
 rw[hd]at q3;cases q3
theorem dA.lam(ok:dA P w H h)(hf:H f=some (.ext (L3.lU of oc c f))):L3.lU of oc c f h:=(ok f _ hf).1
theorem dA.rem{fd:FuncData}(ok:dA P w H h)(hf:H f=some (.ext (L3.lU of oc c f)))(hc:H c=some (.own f))(hd:of.data=.func fd):dA P w (rem H f c) h:=λb o e =>
 let⟨h1,_,h3⟩:=Qa e;(ok b o h3).rem h1 hf (.inl hc) (Qc (ok.lam hf) (λ_ p=>p.1) hd)
end
theorem j7.rem{P:Program}{w:World}{K:PySem.W.Frag}{mg:Str->Option Value}{base:Heap}{A:Around}{outer:List Env}{s:Shared}{H:Hp}{f c:Addr}{of oc:Obj}{fd:FuncData}(e:j7 P w K mg base A outer s H)
  (hf:H f=some (.ext (L3.lU of oc c f))) (hc:H c=some (.own f)) (hd:of.data=.func fd):j7 P w K mg base A outer s (rem H f c) :=
 ⟨e.frames,e.mod,λb o q=>⟨(e.bs b o q).1,xB (e.bs b o q).2⟩,e.og,e.iB,λb hb=>xB (e.oh b hb),e.aK.rem hf hc hd,e.bare⟩
theorem CE.add{P:Program}{w:World}{K:PySem.W.Frag}{mg:Str->Option Value}{base:Heap}{A:Around}{outer:List Env}{s s':Shared}{H:Hp}{f c:Addr}{of oc:Obj}{Q Q':VK}{u:Value}(e0:j7 P w K mg base A outer s H)
  (hf:H f=some (.ext (L3.lU of oc c f))) (hc:H c=some (.own f)) (h:CE outer P w (rem H f c) s Q u s') (hQ:∀v H',Q v H'->H' f=none->H' c=none->Q' v (sN H H' f c)):CE outer P w H s Q' u s':=by
 obtain⟨v,H',os,bare,un,aK,r,q⟩:=h
 obtain⟨gf,gc⟩:=e0.aK.lam hf
 have Qe:∀{b o},H b=some o->b ∉ j4 outer:=λ{b o} e z=>by rw[e0.oh b z]at e;cases e
 have nf:H' f=none:=un.free f _ gf P9 (by simp)
 have nc:H' c=none:=un.free c _ gc CF (by simp)
 have kf:=un.keep f _ gf P9 (Qe hf) (by simp)
 have kc:=un.keep c _ gc CF (Qe hc) (by simp)
 refine⟨v,sN H H' f c,os,bare,⟨λb o e n=>un.keep b o e (xB n),λb o e n=>un.slot b o e (xB n),λb o e n x=>?_,un.there,λb xs e=>?_,λb ob xs e=>?_,λb ps e=>?_⟩,λb o e=>?_,r,hQ v H' q nf nc⟩
 ·rw[ui (λz=>by subst z;rw[hf]at n;cases n) (λz=>by subst z;rw[hc]at n;cases n)]
  exact un.free b o e (xB n) x
 ·have n1:b≠f:=λz=>by subst z;rw[hf]at e;cases e
  have n2:b≠c:=λz=>by subst z;rw[hc]at e;cases e
  rw[ui n1 n2]
  exact un.pX b xs (by rw[jf n1 n2];exact e)
 ·have n1:b≠f:=λz=>by subst z;rw[hf]at e;cases e
  have n2:b≠c:=λz=>by subst z;rw[hc]at e;cases e
  rw[ui n1 n2]
  exact un.n6 b ob xs (by rw[jf n1 n2];exact e)
 ·have n1:b≠f:=λz=>by subst z;rw[hf]at e;cases e
  have n2:b≠c:=λz=>by subst z;rw[hc]at e;cases e
  rw[ui n1 n2]
  exact un.j3 b ps (by rw[jf n1 n2];exact e)
 ·by_cases z:b=f
  ·subst z
   rw[Qb,hf]at e;cases e
   refine⟨⟨kf,kc⟩,⟨_,kf⟩,λh1 h2 p kk=>⟨kk b _ (.inl rfl) p.1,kk c _ (.inr ?_) p.2⟩⟩
   rw[Hx];exact hc
  ·by_cases z2:b=c
   ·subst z2
    rw[Hx,hc]at e;cases e
    exact⟨_,kc⟩
   ·rw[ui z z2]at e
    have up:∀{b' o'},H' b'=some o'->sN H H' f c b'=some o':=λ{b' o'} q=>by
     rw[ui (λz=>by subst z;rw[nf]at q;cases q) (λz=>by subst z;rw[nc]at q;cases q)];exact q
    exact(aK b o e).qQ (λ_ _ _ q=>q) (λ_ q=>up q) (λ_ _ q=>up q) λ_ _ q=>up q
theorem b79{prog:Program}{w:World}{A:Around}{R:Result->Shared->Prop}{s:Shared}{a:Addr}{args:Args}{o:Obj}{fd:FuncData}{body:Expr}{q:Str}(da6:A.depth<recursionLimit)
  (ho:s.heap.get? a=some o)
  (u4:o.data=.func fd) (hco:fd.scope.isCoroutine=false) (da8:fd.scope.isGenerator=false) (ju:fd.body=.expr body) (cC:s.heap.CodeRec fd.code q)
  (h:wpAny (model prog w) A.in1 (bindArgs fd args) (λbinds bH =>
   wpAny (model prog w) A.in1 (newFunctionEnv fd.scope fd.globals fd.closure binds (q++".<locals>.") (some a) fd.code none fd.builtins)
    (λenv u7=>u7.heap.NoLimit/\codeAny (model prog w) A (.expr body env) R u7) (λe s'=>R (.error e) s') bH) (λe s'=>R (.error e) s') s) :
  codeAny (model prog w) A (.call (.ref a) args) R s:=by
 refine codeAny_of_tree ?_
 show wpAny _ A.in1 (callAny (.ref a) args) _ _ s
 simp only[callAny]
 refine wpAny_bind (wpAny_load ho ?_)
 obtain⟨c,oc,vs,tq,hc,j5,Hz,hq⟩:=cC
 simp only[u4,callFunction,hco,da8,ju,hc]
 rw[hc]at h
 refine wpAny_bind (m:=field (.ref c) 1) (wpAny_field j5 Hz hq (wpAny_bind (wpAny_pure ?_)))
 exact wpAny_bind (wpAny_mono h (λbinds bH CG=>wpAny_bind (wpAny_mono CG (λenv u7 Qf=>wpAny_bind (wpAny_enterFrame Qf.1 da6
  (wpAny_pure (And.intro rfl Qf.2)))) λ_ _ h'=>h')) λ_ _ h'=>h')
structure Qg(p1 p2 x:Str)(sc:Scope):Prop where
 kind:sc.kind=.function
 co:sc.isCoroutine=false
 gen:sc.isGenerator=false
 nd:[p1,p2,x].Nodup
 l1:sc.names.lookup p1=some .local
 l2:sc.names.lookup p2=some .local
 Qh:∀y∈sc.names,y.2≠.cell
 only:∀y∈sc.names,y.2=.free->y.1=x
 lx:sc.names.lookup x=some .free
def vG(CX:fg)(P:Program)(w:World)(K:PySem.W.Frag)(mg:Str->Option Value)(base:Heap)(N:List Str)(qual:Str)(scope:Scope)(f:Addr)(cd:Value)(cl:List (Str × Addr))(A:Around)(outer:List Env)(s:Shared)(H:Hp)(E:XK):Cx where
 prog:=P
 w:=w
 K:=K
 mg:=mg
 base:=base
 A:=A.deeper (PySem.W.envX qual scope s.heap.objs.size f cd cl)
 N:=N
 eQ:=s
 qS:=H
 env:=PySem.W.envX qual scope s.heap.objs.size f cd cl
 outer:=outer
 stack:=PySem.W.envX qual scope s.heap.objs.size f cd cl::outer
 ex:=[]
 calm:=true
 fn:=λ_=>false
 pn:=[]
 xe:=λe s'=>wpAny (model P w) (A.deeper (PySem.W.envX qual scope s.heap.objs.size f cd cl)) (leaving (PySem.W.envX qual scope s.heap.objs.size f cd cl) e) (λ_ vg=>CX outer H s E e vg) (λe' vg=>CX outer H s E e' vg) s'
theorem cp5{CX:fg}{P:Program}{w:World}{K:PySem.W.Frag}{mg:Str->Option Value}{base:Heap}{p1 p2 x qn q:Str}{params:Arguments}{body:Expr}{scope:Scope}{pm kM:Value}{f c c':Addr}{k:Nat}{A:Around}{outer:List Env}{s:Shared}{H:Hp}{E:XK}
  {u1 u2 uc:Value} {v1 v2 vc:V} {Q:VK} {t:TE} {args:Args} (S:Qg p1 p2 x scope) (e0:j7 P w K mg base A outer s H) (hr:cw (k+1) A)
  (hf:s.heap.get? f=some (PySem.W.kla_obj "<lambda>" qn params body scope [(x,c)] pm c' kM)) (hc:s.heap.IsCell c (some uc)) (rc:RelV vc uc) (hH:H c=none) (cC:s.heap.CodeRec (.ref c') q)
  (hb:bindArgs (PySem.W.kla_fn "<lambda>" qn params body scope [(x,c)] pm (.ref c') kM) args=pure [(p1,u1),(p2,u2)]) (r1:RelV v1 u1) (r2:RelV v2 u2)
  (ht:PE (vG CX P w K mg base [p1,p2,x] q scope f (.ref c') [(x,c)] A outer s H E) body t) (h:t [some v1,some v2,some vc] H Q) :
  codeAny (model P w) A (.call (.ref f) args) (CR CX outer P w H s Q E) s:=by
 have lim:s.heap.NoLimit:=e0.mod.nolimit.keeps λb o e=>(e0.bs b o e).1
 refine b79 hr.depth hf rfl S.co S.gen rfl cC ?_
 rw[hb]
 have db0:∀y∈[(p1,u1),(p2,u2)],scope.names.lookup y.1=some .local:=λy hy=>by
  simp at hy
  rcases hy with rfl | rfl
  ·exact S.l1
  ·exact S.l2
 refine wpAny_pure (wpAny_newFunctionEnv S.Qh db0 (λCG CB Qi=>⟨lim.fresh _ Qi,?_⟩) S.kind)
 show codeAny _ _ (.expr body (PySem.W.envX q scope s.heap.objs.size f (.ref c') [(x,c)])) _ _
 have hk:∀b o,s.heap.get? b=some o->CG.get? b=some o:=λb o e=>Qi.extBut b o (gb (cg e)) (gh _ e)
 have du:p1≠p2/\p1≠x/\p2≠x:=by have:=S.nd;simp at this;exact⟨this.1.1,this.1.2,this.2⟩
 have look:∀y d,([(x,c)]:List (Str × Addr)).lookup y=some d->y=x/\d=c:=λy d e=>by
  rw[gw]at e
  split at e
  ·rename_i z;exact⟨beq_iff_eq.mp z,(de e).symm⟩
  ·cases e
 have I:Inv (vG CX P w K mg base [p1,p2,x] q scope f (.ref c') [(x,c)] A outer s H E) [] [some v1,some v2,some vc] H { s with heap:=CG,toks:=s.toks+[(p1,u1),(p2,u2)].length }:=by
  refine⟨⟨e0.mod,S.kind,rfl,rfl,bG _,λy z d h1 h2=>?_,λy hy=>?_,λy d z _=>absurd z (by simp[vG]),λ_=>hr.hd,Around.frames_deeper e0.frames,.inr ⟨rfl,rfl⟩,λb z=>absurd z (by simp[vG]),e0.bs,e0.og,λb _ _=>by simp[vG],λb z=>absurd z (by simp[vG]),e0.iB,e0.oh⟩,
   rfl,e0.bare,Un.kept hk,⟨_,CB,λi y v h1 h2 h3=>?_⟩,λy d h=>?_,e0.aK.fresh (bG _),λy d h=>?_,λp hp=>absurd (show p∈([]:List (Addr × Obj)) from hp) (by simp),e0.aK.kept hk,rfl⟩
  ·exact(look y d h1).1.trans (look z d h2).1.symm
  ·have hy:scope.names.lookup y=some .cell\/scope.names.lookup y=some .free:=hy
   rcases hy with hy | hy
   ·exact absurd rfl (S.Qh _ (PySem.mem_of_lookup hy))
   ·obtain rfl:y=x:=S.only _ (PySem.mem_of_lookup hy) rfl
    exact⟨c,by show([(y,c)]:List (Str × Addr)).lookup y=_;rw[gw,beq_self_eq_true]⟩
  ·match i,h1,h2 with
   | 0,h1,h2 =>
    cases h1;cases h2
    exact⟨u1,r1,.inl ⟨S.l1,by
     show([(p1,u1),(p2,u2)]:List (Str × Value)).reverse.lookup p1=_
     simp[gw,beq_eq_false_iff_ne.mpr du.1]⟩⟩
   | 1,h1,h2 =>
    cases h1;cases h2
    exact⟨u2,r2,.inl ⟨S.l2,by
     show([(p1,u1),(p2,u2)]:List (Str × Value)).reverse.lookup p2=_
     simp[gw]⟩⟩
   | 2,h1,h2 =>
    cases h1;cases h2
    exact⟨uc,rc,.inr ⟨.inr S.lx,c,by show([(x,c)]:List (Str × Addr)).lookup x=_;rw[gw,beq_self_eq_true],hc.keeps hk⟩⟩
   | n+3,h1,h2=>cases h2
  ·obtain⟨rfl,rfl⟩:=look y d h
   exact⟨_,hc.keeps hk⟩
  ·obtain⟨rfl,rfl⟩:=look y d h
   exact hH
 refine PySem.W.kla_codeExpr (wpAny_mono (ht [] _ _ H _ I h) (λu s' hs=>?_) λe s' hs=>hs)
 obtain⟨v,H',J,rv,q⟩:=hs
 exact⟨v,H',J.os,J.bare,J.base,J.aK,rv,q⟩
end L2
namespace L3
open PySem L2 PySem.Spec PyProof.Rows
theorem ag.sN{H H':Hp}{f c:Addr}{o1 o2:HO}(h:ag (rem H f c) H')(h1:H f=some o1)(n1:ka o1=true)(h2:H c=some o2)(n2:ka o2=true):ag H (sN H H' f c) where
 get b o e n:=by
  by_cases z:b=f
  ·rw[z,Qb,<- z];exact e
  ·by_cases z2:b=c
   ·rw[z2,Hx,<- z2];exact e
   ·rw[ui z z2];exact h.get b o (by rw[jf z z2];exact e) n
 tb b ps e:=by
  have z:b≠f:=λz=>by subst z;rw[h1]at e;cases e;cases n1
  have z2:b≠c:=λz=>by subst z;rw[h2]at e;cases e;cases n2
  rw[ui z z2]
  exact h.tb b ps (by rw[jf z z2];exact e)
abbrev xC:=Int->Int->(Int->Prop)->Prop
structure zP(P:Program)(w:World)(K:PySem.W.Frag)(mg:Str->Option Value)(base:Heap)(n:Nat)(of oc:Obj)(c k:Addr)(sp:xC):Prop where
 fn:∃o1 od fd sl,of=⟨o1,od,.func fd,sl⟩
 run:∀(A:Around) (outer:List Env) (s:Shared) (H:Hp) (f:Addr) (t u:Tok) (i j:Int) (Qd:Int->Prop),cw n A->j7 P w K mg base A outer s H->s.heap.get? f=some of->s.heap.get? c=some oc->H c=none->(∃q,s.heap.CodeRec (.ref k) q)->sp i j Qd ->
  codeAny (model P w) A (.call (.ref f) ⟨[.int i t,.int j u],[]⟩) (CR aS outer P w H s (λv H'=>∃r,v=.int r/\Qd r/\ag H H') (λ_ _ _=>False)) s
def nu(L:Obj->Obj->Addr->Addr->xC->Prop)(i:Nat)(ta:cJ):aI:=λδ Q=>∃of oc c k sp,δ[i]?=some (some (.bK (.lam of oc c k)))/\L of oc c k sp/\ta δ λds ai=>∃a b,ds=[.int a,.int b]/\sp a b λr=>Q (.int r) ai
theorem Qj{X:Cx}{n i:Nat}{x:Str}{p pos:Pos}{e1 e2:Expr}{ta:cJ}(hN:X.N[i]?=some x)(hv:lF X.env.scope x)(hr:cw n X.A)(ha:PA X [e1,e2] (lA ta))
  (hd:(x==("__debug__":Str))=false:=by decide) (cC:(x==("__classdict__":Str))=false:=by decide) (he:starEach [e1,e2] X.env=(false,eval e1 X.env)::starEach [e2] X.env:=by rfl) (bU:(backTo pos (starEach [e2] X.env)).any (·.1)=false:=by rfl) :
  PE X (.Call (.Name x p) [e1,e2] [] pos) (lE (nu (zP X.prog X.w X.K X.mg X.base n) i ta)):=by
 intro pins s σ H Q I zz
 obtain⟨B,F,δ,ts,Qd,c,⟨of,oc,cc,k,sp,ed,L,q⟩,kk⟩:=zz
 obtain⟨v,ev,sv⟩:=c.look ed
 obtain⟨f,rfl,lam⟩:∃f,v=.ref f/\oo H f of oc cc k:=by
  cases sv with
  | bK h _=>exact⟨_,rfl,h⟩
 refine wpAny_Call_Name_kw (aN (qU hN hv hd cC pins s σ H (λv' H'=>v'=.ref f/\H'=H) I ⟨_,ev,rfl,rfl⟩) λu s1 zz=>?_)
 obtain⟨v',H',I1,r1,e1,e2⟩:=zz
 subst e1 e2
 obtain rfl:u=.ref f:=r1
 have fnAt:∀{H1:Hp} {s2:Shared},Inv X pins σ H1 s2->oo H1 f of oc cc k->PySem.W.FnAt f s2.heap:=λ{H1 s2} J l=>by
  obtain⟨o1,od,fd,sl,e⟩:=L.fn
  exact⟨o1,od,fd,sl,by rw[<-e];exact(J.aK.lam l.fn).1⟩
 refine PySem.W.callWith_F (fnAt I1 lam) (aN (ha pos pins s1 σ H' (λvs H2=>∃a b ai F',vs=[.int a,.int b]/\(sp a b λr=>Qd (.int r) ai)/\ag F F'/\ag H' H2/\ak B F' H2 σ ai ts) I1
  ⟨B,F,δ,ts,_,c,q,λds ai vs F' H2 ⟨a,b,eds,q2⟩ f1 h1 c1 s1=>?_⟩) λus s2 ⟨vs,H2,I2,r2,a,b,ai,F',evs,q2,f1,h1,c1⟩=>⟨fnAt I2 ((show vm H' f (.lam of oc cc k) from lam).mono λa o e _ t=>h1.get a o e t),?_⟩) he bU
 ·subst eds
  refine⟨a,b,ai,F',?_,q2,f1,h1,c1⟩
  cases s1 with
  | int s1=>cases s1 with
   | int s1=>cases s1;rfl
 ·subst evs
  have uj:oo H2 f of oc cc k:=(show vm H' f (.lam of oc cc k) from lam).mono λa o e _ t=>h1.get a o e t
  obtain⟨o1,od,fd,sl,eof⟩:=L.fn
  have db3:of.data=.func fd:=by rw[eof]
  obtain⟨gf,gc⟩:=I2.aK.lam uj.fn
  obtain⟨ψ,eψ,zQ⟩:=uj.GI
  obtain⟨u1,u2,t1,t2,rfl⟩:∃(u1 u2:Unit) (t1 t2:Tok),us=[.int a t1,.int b t2]:=by
   cases r2 with
   | cons ra r2=>cases r2 with
    | cons rb r2 =>
     cases r2
     obtain⟨t1,rfl⟩:=ra
     obtain⟨t2,rfl⟩:=rb
     exact⟨(),(),t1,t2,rfl⟩
  refine wpAny_call (codeAny_mono (L.run X.A X.stack s2 (rem H2 f cc) f t1 t2 a b _ hr (I2.yP.rem uj.fn uj.cell db3) gf gc CF (zQ _ (I2.aK k _ eψ).1) q2) λr s' hq=>?_)
  cases r with
  | error e=>exact hq.elim
  | ok fl =>
   cases fl with
   | ret u =>
    refine I2.after (CE.add I2.yP uj.fn uj.cell hq (Q':=Q) ?_)
    rintro v H3 ⟨r,rfl,hqd,hs⟩ nf nc
    have sm:=hs.sN uj.fn rfl uj.cell rfl
    exact kk _ ai _ F' _ hqd f1 (h1.trans sm) ((c1.grow sm).pushS (.int .nil) rfl)
   | next=>exact gG hq
   | brk=>exact gG hq
   | cont=>exact gG hq
end L3
namespace L2
open PySem PySem.Spec PyProof.Rows
theorem bB6{p:Pos}{c:Value}(l:List Value)(h:TriplesOk l):TriplesOk (l++[rawInt p.line,rawInt p.col,c]):=by
 fun_induction TriplesOk l with
 | case1=>simp[TriplesOk,rawInt]
 | case2 a b d e f rest ih=>exact ih h
 | case3=>exact h.elim
theorem bR6{p q:Pos}{c cv:Value}(l:List Value)(h:TriplesOk l)(e:codeAmong q (l++[rawInt p.line,rawInt p.col,c])=some cv):codeAmong q l=some cv\/cv=c:=by
 fun_induction TriplesOk l with
 | case1 =>
  simp only[jU,rawInt,codeAmong]at e
  split at e
  ·exact .inr (de e).symm
  ·cases e
 | case2 a b d e' f rest ih =>
  simp only[lj,codeAmong]at e ⊢
  split at e
  ·rename_i z;rw[if_pos z];exact .inl e
  ·rename_i z;rw[if_neg z];exact ih h e
 | case3=>exact h.elim
def sO(f:Addr)(o:Obj):Heap->Prop:=λh=>h.get? f=some o
def cQ2(P c:Addr)(x:Str)(params:Arguments)(body:Expr)(scope:Scope):TE:=λ_ H Q=>(∃ps,H P=some (.dN ps)) /\
 ∀f k qn pm kM H',H f=none->H' f=some (.ext (sO f (PySem.W.kla_obj "<lambda>" qn params body scope [(x,c)] pm k kM)))->L3.GH H' k->k≠f->L3.ag H H'->(∀a ws,H' a=some (.lst ws)->H a=some (.lst ws))->Q (.ref f) H'
theorem Qk{X:Cx}{P c cc:Addr}{x:Str}{params:Arguments}{body:Expr}{scope:Scope}{pos:Pos}(iN:closureFor scope X.env=pure [(x,c)])(CH:X.env.code=.ref cc)(hK:PySem.W.codeHdIn X.K cc P=true)(zO:Bm X.mg X.base)
  (db9:defaultsOf params X.env=([],[]):=by rfl):PE X (.Lambda params body scope pos) (cQ2 P c x params body scope):=by
 intro pins s σ H Q I zz
 obtain⟨⟨ps,hP⟩,q⟩:=zz
 obtain⟨bm,ob,b1,b2,b3,b4,b5,b6,b7⟩:=zO
 have C:=PySem.W.codeHd_of_K I.dB hK
 obtain⟨oP,CI,codes⟩:=I.aK P _ hP
 have hg:=I.mod.glob.keeps I.bk
 have Ql:∀{b o},X.base.get? b=some o->b≠P:=λ{b o} e z=>by
  have:=(I.bs b o e).2
  rw[z,hP]at this;cases this
 have hgP:mainGlobals≠P:=by
  obtain⟨o,es,ep,e,_⟩:=I.mod.glob
  exact Ql e
 have Qm:s.heap.BuiltinsAt X.mg P:=⟨bm,ob,b1,b2,b3,Ql b4,I.bk _ _ b4,b5,b6,b7⟩
 refine PySem.W.kla_eval db9 ?_
 have fresh:∀{b:Addr},s.heap.objs.size<=b->H b=none:=λ{b} h=>I.aK.fresh h
 cases HA:codeAmong pos ps.toList with
 | none =>
  refine PySem.W.kla_makeFunction (mg:=X.mg) iN I.ok.glob hg CH C oP CI HA hgP Qm λk kM h' tk hx zR fL dc1 Qn=>?_
  have HB:P<s.heap.objs.size:=cg oP
  have hPk:k≠P:=λz=>by rw[z]at zR;exact absurd HB (yr.mpr zR)
  have vH:s.heap.objs.size<=h'.objs.size:=cQ zR (Bk fL)
  have hPf:h'.objs.size≠P:=λz=>by rw[<-z]at HB;exact absurd HB (yr.mpr vH)
  have Qo:k≠h'.objs.size:=gb fL
  generalize Qp:PySem.W.kla_obj "<lambda>" (X.env.qual++"<lambda>") params body scope [(x,c)] ((X.mg "__name__").getD .none) k kM=obj
  have fM:obj.isFreed=false:=by rw[<-Qp];rfl
  have zS:∀b,b≠P->b≠k->b≠h'.objs.size->upd (upd (upd H P (.dN (ps++#[rawInt pos.line,rawInt pos.col,.ref k]))) k (.ext λh=>∃q,h.CodeRec (.ref k) q)) h'.objs.size (.ext (sO h'.objs.size obj)) b=H b:=λb n1 n2 n3=>by
   rw[bc n3,bc n2,bc n1]
  have CJ:upd (upd (upd H P (.dN (ps++#[rawInt pos.line,rawInt pos.col,.ref k]))) k (.ext λh=>∃q,h.CodeRec (.ref k) q)) h'.objs.size (.ext (sO h'.objs.size obj)) h'.objs.size=some (.ext (sO h'.objs.size obj)):=bS
  have atK:upd (upd (upd H P (.dN (ps++#[rawInt pos.line,rawInt pos.col,.ref k]))) k (.ext λh=>∃q,h.CodeRec (.ref k) q)) h'.objs.size (.ext (sO h'.objs.size obj)) k=some (.ext λh=>∃q,h.CodeRec (.ref k) q):=by rw[bc Qo,bS]
  have CK:upd (upd (upd H P (.dN (ps++#[rawInt pos.line,rawInt pos.col,.ref k]))) k (.ext λh=>∃q,h.CodeRec (.ref k) q)) h'.objs.size (.ext (sO h'.objs.size obj)) P=some (.dN (ps++#[rawInt pos.line,rawInt pos.col,.ref k])):=by rw[bc hPf.symm,bc hPk.symm,bS]
  generalize hHn:upd (upd (upd H P (.dN (ps++#[rawInt pos.line,rawInt pos.col,.ref k]))) k (.ext λh=>∃q,h.CodeRec (.ref k) q)) h'.objs.size (.ext (sO h'.objs.size obj))=Hn at zS CJ atK CK
  have old:∀{b o},H b=some o->b≠P->Hn b=some o:=λ{b o} e n=>by
   have hb:b<s.heap.objs.size:=I.aK.lt e
   rw[zS b n (λz=>absurd hb (yr.mpr (z ▸ zR))) (λz=>absurd hb (yr.mpr (z ▸ vH)))];exact e
  have kept:∀b o,b≠P->s.heap.get? b=some o->(h'.push obj).get? b=some o:=λb o n e=>gh _ (hx b o n e)
  have un:Un X.fs [] H Hn s.heap (h'.push obj):=by
   refine⟨λb o e n _ _=>kept b o (λz=>by rw[z,hP]at n;cases n) e,λb o e n _ _=>⟨o.slots,kept b o (λz=>by rw[z,hP]at n;cases n) e⟩,λb o e n _=>?_,λb o e _=>?_,λb xs e=>old e (λz=>by rw[z,hP]at e;cases e),λb ob xs e=>old e (λz=>by rw[z,hP]at e;cases e),λb Qq e=>?_⟩
   ·have hb:=cg e
    rw[zS b (λz=>by rw[z,hP]at n;cases n) (λz=>absurd hb (yr.mpr (z ▸ zR))) (λz=>absurd hb (yr.mpr (z ▸ vH)))];exact n
   ·by_cases z:b=P
    ·rw[z];exact⟨_,gh _ Qn⟩
    ·exact⟨o,kept b o z e⟩
   ·by_cases z:b=P
    ·subst z
     rw[hP]at e;cases e
     exact⟨_,CK⟩
    ·exact⟨#[],by rw[old e z];simp⟩
  have aK:dA X.prog X.w Hn (h'.push obj):=λb o e=>by
   by_cases z1:b=h'.objs.size
   ·subst z1
    rw[CJ]at e;cases e
    exact⟨iw _ fM,⟨_,iw _ fM⟩,λh1 h2 p kk=>kk _ _ (.inl rfl) p⟩
   ·by_cases z2:b=k
    ·subst z2
     rw[atK]at e;cases e
     have hr:=dc1.push obj
     refine⟨⟨_,hr⟩,?_,λh1 h2 ⟨q,c1,o1,vs,t,e1,e2,r⟩ kk=>?_⟩
     ·obtain⟨c1,o1,vs,t,e1,e2,_⟩:=hr
      cases e1
      exact⟨o1,e2⟩
     ·cases e1
      exact⟨q,_,o1,vs,t,rfl,kk _ _ (.inl rfl) e2,r⟩
    ·by_cases z3:b=P
     ·subst z3
      rw[CK]at e;cases e
      refine⟨gh _ Qn,by rw[X8];exact bB6 _ CI,λp' cv e'=>?_⟩
      rw[X8]at e'
      rcases bR6 _ CI e' with e' | e'
      ·obtain⟨d,φ,e1,e2,e3⟩:=codes p' cv e'
       exact⟨d,φ,e1,old e2 (λz=>by rw[z,hP]at e2;cases e2),e3⟩
      ·exact⟨k,_,e',atK,λh' p=>p⟩
     ·rw[zS b z3 z2 z1]at e
      have nP:∀{b' o'},H b'=some o'->(∀ps,o'≠.dN ps)->b'≠P:=λ{b' o'} e n z=>by rw[z,hP]at e;cases e;exact n _ rfl
      refine(I.aK b o e).qQ (λb' u CL e'=>kept b' u ?_ e') (λb' e'=>old e' (nP e' (λps z=>by cases z))) (λb' xs e'=>old e' (nP e' (λps z=>by cases z))) λb' φ e'=>old e' (nP e' (λps z=>by cases z))
      rcases CL with rfl | CL
      ·exact z3
      ·exact nP CL (λps z=>by cases z)
  refine⟨.ref h'.objs.size,Hn,I.un un aK,rfl,q _ k _ _ _ _ (fresh vH) (by rw[Qp];exact CJ) ⟨_,atK,λh p=>p⟩ Qo ⟨λb o e n=>old e (λz=>by rw[z,hP]at e;cases e;cases n),λb Qq e=>?_⟩ λa ws e=>?_⟩
  ·exact un.j3 b Qq e
  ·by_cases z1:a=h'.objs.size
   ·subst z1;rw[CJ]at e;cases e
   ·by_cases z2:a=k
    ·subst z2;rw[atK]at e;cases e
    ·by_cases z3:a=P
     ·subst z3;rw[CK]at e;cases e
     ·rw[zS a z3 z2 z1]at e;exact e
 | some cv =>
  obtain⟨k,φ,rfl,hk,Hy⟩:=codes pos cv HA
  refine PySem.W.kla_makeFunctionHit (mg:=X.mg) iN I.ok.glob hg CH C oP CI HA Qm λkM h' tk hx vH=>?_
  have hf:=fresh vH
  refine⟨.ref h'.objs.size,upd H h'.objs.size (.ext (sO h'.objs.size (PySem.W.kla_obj "<lambda>" (X.env.qual++"<lambda>") params body scope [(x,c)] ((X.mg "__name__").getD .none) k kM))),I.laid (λb u e=>gh _ (hx b u e)) vH ?_,rfl,q _ k (X.env.qual++"<lambda>") ((X.mg "__name__").getD .none) kM _ hf bS ⟨φ,?_,Hy⟩ (e7 hk hf) (L3.ag.of λb o e=>?_) λa ws e=>?_⟩
  ·exact⟨iw _ rfl,⟨_,iw _ rfl⟩,λh1 h2 p kk=>kk _ _ (.inl rfl) p⟩
  ·rw[bc (e7 hk hf)];exact hk
  ·rw[bc (e7 e hf)];exact e
  ·by_cases z:a=h'.objs.size
   ·subst z;rw[bS]at e;cases e
   ·rw[bc z]at e;exact e
structure xD(K:PySem.W.Frag)(C:Addr)(m:Str)(f:Addr):Prop where
 ga:PySem.W.specialIn K (.ref C) "__getattribute__"=some (some (.builtin "type.__getattribute__"))
 rd:PySem.W.readsIn K C (.type "type")=true
 at_:PySem.W.findCls K (.ref C) (.type "type") m=some (.val (.ref f))
 kp:PySem.W.keepIn K (.ref f)=true
section
variable{X:Cx}{CX:fg}{k:Nat}{f C:Addr}{fd:FuncData}{ps:List Str}{sp:Sp}{E:XK}{x m:Str}{p pos apos:Pos}{e o:Expr}{es:List Expr}{ta:TE}{t:TA}
theorem cb8{pins:List (Addr × Obj)}{σ:St}{H:Hp}{s:Shared}{pl:Sem Bool}{A:Around}{E':Value->Shared->Prop}{Q:Value × List Value->Shared->Prop}(I:Inv X pins σ H s)(M:xD X.K C m f)(h:∀s',Inv X pins σ H s'->Q (.ref f,[]) s') :
  wpAny (model X.prog X.w) A (getMethod (.ref C) m pl) Q E' s :=
 PySem.W.method_cls I.dB M.ga (PySem.W.cls_value (mc:=.type "type") I.dB M.rd M.at_ rfl (h _ (I.tok _)))
theorem Qr{pins:List (Addr × Obj)}{σ:St}{H:Hp}{s:Shared}{pl:Sem Bool}{Q:Value->Shared->Prop}{QA:List V->Hp->Prop}(I:Inv X pins σ H s)(M:xD X.K C m f)(hg:Gl X x)(hm:X.mg x=some (.ref C))(ha:PA X (e::es) t)(h:t σ H QA)
  (hq:∀us s1 vs H1,Inv X pins σ H1 s1->Vals vs us->QA vs H1->wpAny (model X.prog X.w) X.A (call (.ref f) us) Q X.xe s1)
  (eC:(x==("__debug__":Str))=false:=by decide) (gJ:starEach (e::es) X.env=(false,eval e X.env)::starEach es X.env:=by rfl) (bU:(backTo pos (starEach es X.env)).any (·.1)=false:=by rfl)
  (ht:eval (.Call (.Attribute (.Name x p) m apos) (e::es) [] pos) X.env=(do
   let ov<-eval (.Name x p) X.env
   standAt apos.atName
   let (f,first)<-holding [ov] (getMethod ov m pl)
   callWith pos f first (backTo pos (starEach (e::es) X.env)) (backToKw pos (keywordEach [] X.env))):=by rfl) :
  wpAny (model X.prog X.w) X.A (eval (.Call (.Attribute (.Name x p) m apos) (e::es) [] pos) X.env) Q X.xe s:=by
 refine PySem.W.methodCall_KW (pl:=pl) (BQ I hg hm ?_ eC) ht
 refine cb8 I M λs1 I1=>?_
 refine PySem.W.callWith_K (first:=[]) (h₀:=X.base) I.ok.mod.u0 M.kp (aN (ha pos pins s1 σ H _ I1 h) λus s2 ⟨vs,H2,I2,r,q2⟩=>⟨I2.dB,?_⟩) gJ bU
 exact hq us s2 vs H2 I2 r q2
def cK7(sp:Sp)(E:XK)(c:Addr)(i:Nat)(t:TA):TE:=λσ H Q=>t σ H λvs H1=>∃f of fd v,H1 f=some (.ext (sO f of))/\of.data=.func fd/\σ[i]?=some (some v) /\
 ∀oc u,oc.data=.cell (some u)->RelV v u->H1 c=none->c≠f->sp vs (upd (upd H1 f (.ext (L3.lU of oc c f))) c (.own f)) (λr H2=>H2 f=some (.ext (L3.lU of oc c f))/\H2 c=some (.own f)/\Q r (rem H2 f c)) E
theorem Qs{pl:Sem Bool}{y:Str}{c:Addr}{i:Nat}(M:xD X.K C m f)(F:aO X.prog X.w X.K X.mg X.base aS k f fd ps sp)(hr:cw k X.A)(hb:Binds X.K fd ps [])(hg:Gl X x)(hm:X.mg x=some (.ref C))
  (hN:X.N[i]?=some y) (hy:X.env.scope.names.lookup y=some .cell) (iN:X.env.cells.lookup y=some c) (yE:X.fn y=true) (ha:PA X (e::es) t)
  (eC:(x==("__debug__":Str))=false:=by decide) (gJ:starEach (e::es) X.env=(false,eval e X.env)::starEach es X.env:=by rfl) (bU:(backTo pos (starEach es X.env)).any (·.1)=false:=by rfl)
  (ht:eval (.Call (.Attribute (.Name x p) m apos) (e::es) [] pos) X.env=(do
   let ov<-eval (.Name x p) X.env
   standAt apos.atName
   let (f,first)<-holding [ov] (getMethod ov m pl)
   callWith pos f first (backTo pos (starEach (e::es) X.env)) (backToKw pos (keywordEach [] X.env))):=by rfl) :
  PE X (.Call (.Attribute (.Name x p) m apos) (e::es) [] pos) (cK7 sp E c i t):=by
 intro pins s σ H Q I h
 refine Qr (pl:=pl) I M hg hm ha h (λus s1 vs H1 I1 r zq=>?_) eC gJ bU ht
 obtain⟨fa,of,fdd,v,hf,hd,hv,hq⟩:=zq
 obtain⟨ml,_,hl⟩:=I1.loc
 obtain⟨u,rv,lk⟩:=hl i y v hN hv (.inr (.inl hy))
 obtain⟨oc,gc,j5⟩:∃oc,s1.heap.get? c=some oc/\oc.data=.cell (some u):=by
  rcases lk with⟨hk,_⟩ | ⟨_,c',tU,ic⟩
  ·rw[show X.env.kindOf y=some .cell from hy]at hk;cases hk
  ·rw[iN]at tU;cases tU;exact ic
 have nc:H1 c=none:=I1.lH y c iN
 have uk:c≠fa:=λz=>by rw[z,hf]at nc;cases nc
 have gf:s1.heap.get? fa=some of:=(I1.aK fa _ hf).1
 have se:=hq oc u j5 rv nc uk
 have Qt:=I1.ok.u3 y c yE iN
 generalize hH:upd (upd H1 fa (.ext (L3.lU of oc c fa))) c (.own fa)=Hp at se
 have Qu:Hp c=some (.own fa):=by rw[<-hH,bS]
 have atf:Hp fa=some (.ext (L3.lU of oc c fa)):=by rw[<-hH,bc uk.symm,bS]
 have rz:∀b,b≠fa->b≠c->Hp b=H1 b:=λb n1 n2=>by rw[<-hH,bc n2,bc n1]
 have nfs:c ∉ X.fs:=λhb=>by
  obtain⟨_,o,ho,_⟩:=I1.ok.iB.mem hb
  exact absurd (dd (cg ho) Qt) (iq _)
 have nst:∀b∈j4 X.stack,b≠c:=λb hb z=>by
  rcases cN.mp (I1.BO b hb)with e | hb
  ·exact I1.tR y c iN (z ▸ e)
  ·exact nfs (z ▸ hb)
 have dc9:dA X.prog X.w Hp s1.heap:=λb ob q=>by
  by_cases z1:b=c
  ·subst z1;rw[Qu]at q;cases q;exact⟨_,gc⟩
  ·by_cases z2:b=fa
   ·subst z2;rw[atf]at q;cases q
    exact⟨⟨gf,gc⟩,⟨_,gf⟩,λh1 h2 p kk=>⟨kk _ _ (.inl rfl) p.1,kk _ _ (.inr Qu) p.2⟩⟩
   ·rw[rz b z2 z1]at q
    have x1:=(I1.aK b ob q).rem (f:=fa) (c:=c) z2 hf (.inr nc) (Qc gf (λ_ p=>p) hd)
    have up:∀{b' o'},rem H1 fa c b'=some o'->Hp b'=some o':=λ{b' o'} q=>by
     obtain⟨n1,n2,q'⟩:=Qa q
     rw[rz b' n1 n2];exact q'
    exact x1.qQ (λ_ _ _ q=>q) (λ_ q=>up q) (λ_ _ q=>up q) λ_ _ q=>up q
 have e0:j7 X.prog X.w X.K X.mg X.base X.A X.stack s1 Hp:=by
  have e1:=I1.yP
  refine⟨e1.frames,e1.mod,λb ob q=>⟨(e1.bs b ob q).1,?_⟩,e1.og,e1.iB,λb hb=>?_,dc9,e1.bare⟩
  ·have HC:=(I1.ok.bs b ob q).1
   rw[rz b (λz=>by have:=(e1.bs b ob q).2;rw[z,hf]at this;cases this) (λz=>absurd (dd (cg HC) (z ▸ Qt)) (iq _))]
   exact(e1.bs b ob q).2
  ·have nb:=e1.oh b hb
   rw[rz b (λz=>by rw[z,hf]at nb;cases nb) (nst b hb)];exact nb
 have hlen:us.length=ps.length:=by rw[<-r.length];exact F.len _ _ _ _ se
 refine wpAny_call (codeAny_mono (F.run X.A X.stack s1 Hp ⟨us,[]⟩ us vs _ E hr e0 (by have:=hb s1 us I1.dB (by rw[fJ];exact hlen);rwa [fJ]at this) r se) λrr s' hz=>?_)
 cases rr with
 | error e=>exact hz.elim
 | ok fl =>
  cases fl with
  | next=>exact gG hz
  | brk=>exact gG hz
  | cont=>exact gG hz
  | ret u' =>
   obtain⟨v',H2,os,bare,un,Qv,rv',q1,q2,q3⟩:=hz
   obtain⟨_,Qw⟩:=Qv.lam q1
   refine I1.after ⟨v',rem H2 fa c,os,bare,⟨λb ob g n hb hx=>?_,λb ob g n hb hx=>?_,λb ob g n hx=>?_,un.there,λb xs g=>?_,λb ob xs g=>?_,λb ps g=>?_⟩,Qv.rem q1 q2 hd,rv',q3⟩
   ·by_cases z:b=c
    ·rw[z,gc]at g;cases g;rw[z];exact Qw
    ·exact un.keep b ob g (by rw[rz b (λz=>by rw[z,hf]at n;cases n) z];exact n) hb hx
   ·by_cases z:b=c
    ·rw[z,gc]at g;cases g;rw[z];exact⟨_,Qw⟩
    ·exact un.slot b ob g (by rw[rz b (λz=>by rw[z,hf]at n;cases n) z];exact n) hb hx
   ·by_cases z:b=c
    ·rw[z];exact CF
    ·exact xB (un.free b ob g (by rw[rz b (λz=>by rw[z,hf]at n;cases n) z];exact n) hx)
   ·have n1:b≠fa:=λz=>by rw[z,hf]at g;cases g
    have n2:b≠c:=λz=>by rw[z,nc]at g;cases g
    rw[jf n1 n2]
    exact un.pX b xs (by rw[rz b n1 n2];exact g)
   ·have n1:b≠fa:=λz=>by rw[z,hf]at g;cases g
    have n2:b≠c:=λz=>by rw[z,nc]at g;cases g
    rw[jf n1 n2]
    exact un.n6 b ob xs (by rw[rz b n1 n2];exact g)
   ·have n1:b≠fa:=λz=>by rw[z,hf]at g;cases g
    have n2:b≠c:=λz=>by rw[z,nc]at g;cases g
    rw[jf n1 n2]
    exact un.j3 b ps (by rw[rz b n1 n2];exact g)
end
end L2
namespace L3
open PySem L2 PySem.Spec PyProof.Rows
theorem zT{ts:List Addr}{H H':Hp}(h:Tb ts H)(s:ag H H'):Tb ts H':=λP hP=>by
 obtain⟨ps,e⟩:=h P hP
 obtain⟨m,e2⟩:=s.tb P ps e
 exact⟨_,e2⟩
theorem Qx{P:Program}{w:World}{K:PySem.W.Frag}{mg:Str->Option Value}{base:Heap}{n:Nat}{p1 p2 x qn:Str}{params:Arguments}{body:Expr}{scope:Scope}{pm kM:Value}{oc:Obj}{c k:Addr}{m:Int}{tm:Tok}{sp:xC}(S:Qg p1 p2 x scope)
  (j5:oc.data=.cell (some (.int m tm))) (hb:∀u1 u2:Value,bindArgs (PySem.W.kla_fn "<lambda>" qn params body scope [(x,c)] pm (.ref k) kM) ⟨[u1,u2],[]⟩=pure [(p1,u1),(p2,u2)])
  (ju:∀(q:Str) (f:Addr) (A:Around) (outer:List Env) (s:Shared) (H:Hp) (E:XK),cw n (A.deeper (PySem.W.envX q scope s.heap.objs.size f (.ref k) [(x,c)])) ->
   ∃t:aI,PE (vG aS P w K mg base [p1,p2,x] q scope f (.ref k) [(x,c)] A outer s H E).iC body (lE t)/\∀i j Qd,sp i j Qd->t [some (.int i),some (.int j),some (.int m)] λd _=>∃r,d=.int r/\Qd r) :
  zP P w K mg base (n+1) (PySem.W.kla_obj "<lambda>" qn params body scope [(x,c)] pm k kM) oc c k sp where
 fn:=⟨_,_,_,_,rfl⟩
 run A outer s H f t u i j Qd hr e0 gf gc hH cC h:=by
  obtain⟨q,cC⟩:=cC
  obtain⟨tt,ht,hq⟩:=ju q f A outer s H (λ_ _ _=>False) (hr.deeper _)
  refine cp5 (v1:=.int i) (v2:=.int j) (vc:=.int m) (E:=λ_ _ _=>False) S e0 hr gf ⟨oc,gc,j5⟩ ⟨tm,rfl⟩ hH cC (hb _ _) ⟨t,rfl⟩ ⟨u,rfl⟩ ht.iC ?_
  refine⟨⟨H,H⟩,H,_,[],_,?_,hq i j Qd h,λd ai v F' H' hd f1 h1 c1=>?_⟩
  ·exact ak.start (ds:=[.int i,.int j,.int m]) (vs:=[.int i,.int j,.int m]) (ag.refl H) (.int (.int (.int .nil))) 0
  ·obtain⟨r,rfl,hd⟩:=hd
   have s1:=c1.top
   cases s1
   exact⟨r,rfl,hd,h1⟩
section
variable{X:Cx}{CX:fg}{n:Nat}{f:Addr}{fd:FuncData}{ps:List Str}{sp:bg}{E:XK}{x:Str}{p pos:Pos}{e:Expr}{es:List Expr}{t:cJ}{tl:List Addr}
theorem HD(hT:Tb tl X.qS)(F:aO X.prog X.w X.K X.mg X.base CX n f fd ps (vF tl (bo sp)))(hr:cw n X.A)(hg:Gl X x)(hm:X.mg x=some (.ref f))(hk:PySem.W.keepIn X.K (.ref f)=true)(hb:Binds X.K fd ps [])(hx:p9 CX X E)
  (ha:PA X (e::es) (lA t)) (eC:(x==("__debug__":Str))=false:=by decide) (he:starEach (e::es) X.env=(false,eval e X.env)::starEach es X.env:=by rfl) (bU:(backTo pos (starEach es X.env)).any (·.1)=false:=by rfl) :
  PE X (.Call (.Name x p) (e::es) [] pos) (lE (jD sp t)):=by
 intro pins s σ H Q I zz
 obtain⟨B,F',δ,ts,Qd,c,q,k⟩:=zz
 have tb:=Hw I hT
 refine lK F hr hg hm hk hb .nil hx ha eC he bU pins s σ H Q I ⟨B,F',δ,ts,_,c,q,λds aj vs F1 H1 q1 f1 h1 c1 s1=>?_⟩
 refine⟨zT tb h1,?_⟩
 rw[fJ]
 exact Cn c1 s1 q1 λd v F' H' hd hf hs c'=>k d aj v F' H' hd (f1.trans hf) (h1.trans hs) c'
end
section
variable{P:Program}{w:World}{K:PySem.W.Frag}{mg:Str->Option Value}{base:Heap}
theorem CM{x qual:Str}{st:Stmt}{f:Addr}{fd:FuncData}{N ps:List Str}{k:Nat}{sp:bg}{tl:List Addr}(F:bh K x qual st f fd)(S:bf N ps (aM st))(len:∀ds Q,sp ds Q->ds.length=ps.length)
  (ju:∀(aG:Value) (A:Around) (outer:List Env) (s:Shared) (H:Hp) (E:XK),Tb tl H->cw k (A.deeper (envOfC qual (aM st) s.heap.objs.size f aG)) ->
   ∃t:c9,PSs (lM aS P w K mg base N qual (aM st) f aG A outer s H E).iC (gy st) (lS (lM aS P w K mg base N qual (aM st) f aG A outer s H E).iC t)/\∀ds Q,sp ds Q->t { nx:=λ_=>Q .aq,rt:=Q } (i7 N ds)):aO P w K mg base aS (k+1) f fd ps (vF tl (bo sp)):=by
 refine F.ok S (λvs H Q E ⟨_,F,ds,Qd,e,r,h,_⟩=>by rw[<-r.length];exact len ds Qd h) λaG A outer s H vs Q E hr zz=>?_
 obtain⟨tb,F,ds,Qd,e,r,h,k⟩:=zz
 obtain⟨t,ht,hq⟩:=ju aG A outer s H E tb hr
 have fin:∀d v ai aL F' H',Qd d->ak ⟨H,F⟩ F' H' aL ai [(d,v)]->Q v H':=λd v ai aL F' H' hd c=>by
  obtain⟨A,C,r',s',nd,fr⟩:=c.own
  exact k d v F' H' A hd c.b1 c.b2 c.ext c.b3 r' (i5.mp nd).1 λa ha=>fr a (fI _ ha)
 have e1:L2.start N vs=vs.map some++aW (N.length-ds.length) none:=by unfold L2.start;rw[r.length]
 refine⟨_,ht,⟨H,F⟩,F,i7 N ds,_,?_,hq ds Qd h,λai aL F' H' hd c=>fin .aq .aq ai aL F' H' hd (c.pushS (.aq .nil) rfl),fin,λ_ _ _ _ z=>z.elim,λ_ _ _ _ z=>z.elim,XL.none (λ_ _ z=>z) λ_ _ z=>z⟩
 rw[e1]
 exact ak.start e r _
theorem Qy{x qual:Str}{st:Stmt}{f cc:Addr}{fd:FuncData}{N ps:List Str}{k:Nat}{sp:Sp}(F:bh K x qual st f fd)(CH:fd.code=.ref cc)(S:bf N ps (aM st))(len:∀vs H Q E,sp vs H Q E->vs.length=ps.length)
  (ju:∀(A:Around) (outer:List Env) (s:Shared) (H:Hp) (vs:List V) (Q:VK) (E:XK),cw k (A.deeper (envOfC qual (aM st) s.heap.objs.size f (.ref cc)))->sp vs H Q E ->
   ∃t,PSs (lM aS P w K mg base N qual (aM st) f (.ref cc) A outer s H E).iC (gy st) t/\t { nx:=λ_ H'=>Q .aq H',rt:=Q } (L2.start N vs) H):aO P w K mg base aS (k+1) f fd ps sp:=by
 obtain⟨oc,od,kV,doc,pm,an,aG,ct,jt,rfl,lk,cC⟩:=F.ex
 obtain rfl:aG=.ref cc:=CH
 refine FT lk cC S len λA outer s H vs Q E hr j8=>?_
 obtain⟨t,h,q⟩:=ju A outer s H vs Q E hr j8
 exact⟨t,h.iC,q⟩
end
theorem bS9{ns:List Str}{xs:List D}{ws:List V}{F H:Hp}{f:Str}{d:D}(r:R F H xs ws [])(h:(ns.zip xs).lookup f=some d):∃w,(ns.zip ws).lookup f=some w/\R F H [d] [w] []:=by
 generalize e:([]:List Addr)=A at r
 induction ns generalizing xs ws A with
 | nil=>simp at h
 | cons n ns ih =>
  cases xs with
  | nil=>simp at h
  | cons x xs =>
   obtain⟨v,b8,A1,A2,rfl,rfl,h1,h2⟩:=R.cX r
   obtain⟨rfl,rfl⟩:=wt.mp e.symm
   rw[X9]at h ⊢
   by_cases z:f=n
   ·subst z
    rw[gw,beq_self_eq_true]at h
    cases h
    refine⟨v,?_,h1⟩
    rw[gw,beq_self_eq_true]
   ·have z':(f==n)=false:=beq_eq_false_iff_ne.mpr z
    rw[gw,z']at h
    obtain⟨w,e1,e2⟩:=ih h [] rfl h2
    refine⟨w,?_,e2⟩
    rw[gw,z']
    exact e1
theorem Qz{ns:List Str}{ws:List V}{f:Str}(h:f ∉ ns):(ns.zip ws).lookup f=none:=by
 induction ns generalizing ws with
 | nil=>simp
 | cons n ns ih =>
  cases ws with
  | nil=>simp
  | cons w ws =>
   rw[X9,gw]
   have hn:(f==n)=false:=beq_eq_false_iff_ne.mpr λz=>h (by rw[z];simp)
   simp only[hn]
   exact ih λz=>h (by simp[z])
theorem HE{F H:Hp}{C:Addr}{ns:List Str}{xs:List D}{v:V}(s:S F H [.obj C ns xs] [v]):∃p dx ws,v=.ref p/\H p=some (.ins C dx (ns.zip ws))/\ns.length=ws.length/\R F H xs ws []:=by
 cases s with
 | obj h l r _=>exact⟨_,_,_,rfl,h,l,r⟩
section
variable{X:Cx}{e o:Expr}{es:List Expr}{f m x:Str}{pos p apos:Pos}{t to:aI}{ta:cJ}{n:Nat}
def kN(K:PySem.W.Frag)(t:aI)(f:Str):aI:=λδ Q=>t δ λd ai=>∃C ns xs v,d=.obj C ns xs/\di K C/\bu K C f/\(ns.zip xs).lookup f=some v/\Q v ai
theorem cH5(he:PE X e (lB t))(hb:attributeBase e f X.env (eval e X.env)=eval e X.env:=by rfl):PE X (.Attribute e f pos) (lB (kN X.K t f)) :=
 dj (ve he hb) λσ H Q zq=>by
 obtain⟨B,F,δ,ts,Qd,c,q,k⟩:=zq
 exact⟨B,F,δ,ts,_,c,q,λd ai v F' H' ⟨C,ns,xs,w,ed,hc,hn,hl,hq⟩ f1 h1 c1 s1=>by
  subst ed
  obtain⟨p,dx,ws,rfl,hp,_,r⟩:=HE s1
  obtain⟨u,hu,ru⟩:=bS9 r hl
  exact⟨p,C,dx,_,u,rfl,hp,hc,hn,hu,k w ai u F' H' hq f1 h1 c1 ru.s⟩⟩
structure nv(P:Program)(w:World)(K:PySem.W.Frag)(mg:Str->Option Value)(base:Heap)(n:Nat)(m:Str)(C:Addr)(sp:bg):Prop where
 cls:di K C
 ex:∃f fd ps,Meth K C m f/\aO P w K mg base aS n f fd ps (bo sp)/\Binds K fd ps []
def kO(MO:Addr->bg->Prop)(m:Str)(to:aI)(ta:cJ):aI:=λδ Q=>to δ λd aj=>∃C ns xs sp,d=.obj C ns xs/\MO C sp/\m ∉ ns/\ta aj λds aY=>sp ((D.obj C ns xs::ds).map D.sh) λr=>((D.obj C ns xs::ds).all D.pl||r.fr)=true/\Q r aY
theorem cw0{pl:Sem Bool}(ho:PE X o (lB to))(hr:cw n X.A)(ha:PA X (e::es) (lA ta))
  (gJ:starEach (e::es) X.env=(false,eval e X.env)::starEach es X.env:=by rfl) (bU:(backTo pos (starEach es X.env)).any (·.1)=false:=by rfl)
  (ht:eval (.Call (.Attribute o m apos) (e::es) [] pos) X.env=(do
   let ov<-eval o X.env
   standAt apos.atName
   let (f,first)<-holding [ov] (getMethod ov m pl)
   callWith pos f first (backTo pos (starEach (e::es) X.env)) (backToKw pos (keywordEach [] X.env))):=by rfl) :
  PE X (.Call (.Attribute o m apos) (e::es) [] pos) (lE (kO (nv X.prog X.w X.K X.mg X.base n m) m to ta)):=by
 intro pins s σ H Q I zz
 obtain⟨B,F,δ,ts,Qd,c,q,k⟩:=zz
 refine PySem.W.methodCall_KW (pl:=pl) (aN (ho pins s σ H (λx H1=>∃d aj F1,S F1 H1 [d] [x]/\ak B F1 H1 σ aj ts/\ag F F1/\ag H H1/\∃C ns xs sp,d=.obj C ns xs/\nv X.prog X.w X.K X.mg X.base n m C sp/\m ∉ ns/\ta aj λds aY=>sp ((D.obj C ns xs::ds).map D.sh) λr=>((D.obj C ns xs::ds).all D.pl||r.fr)=true/\Qd r aY) I
  ⟨B,F,δ,ts,_,c,q,λd aj v F1 H1 hq f1 h1 c1 s1=>⟨d,aj,F1,s1,c1,f1,h1,hq⟩⟩) λu s1 zq=>?_) ht
 obtain⟨x,H1,I1,rx,d,aj,F1,sd,c1,f1,h1,C,ns,xs,sp,ed,M,hm,hq⟩:=zq
 subst ed
 obtain⟨a,dx,ws,rfl,ea,hl,r0⟩:=HE sd
 obtain rfl:u=gZ a:=rx
 obtain⟨f,fd,ps,zU,FO,hb⟩:=M.ex
 refine FR I1 ea M.cls zU (Qz hm) ?_
 refine PySem.W.callWith_K (first:=[.ref a]) (h₀:=X.base) I.ok.mod.u0 zU.kp (aN (ha pos pins s1 σ H1 (λvs H2=>∃ds aY F2,S F2 H2 ds vs/\ak B F2 H2 σ aY ts/\ag F1 F2/\ag H1 H2/\sp ((D.obj C ns xs::ds).map D.sh) λr=>((D.obj C ns xs::ds).all D.pl||r.fr)=true/\Qd r aY) I1
  ⟨B,F1,aj,ts,_,c1,hq,λds aY vs F2 H2 hq f2 h2 c2 s2=>⟨ds,aY,F2,s2,c2,f2,h2,hq⟩⟩) λus s2 ⟨vs,H2,I2,r,ds,aY,F2,sds,c2,f2,h2,j8⟩=>⟨I2.dB,?_⟩) gJ bU
 refine yQ (us:=.ref a::us) (vs:=.ref a::vs) (fK:=[]) FO hr hb .nil dH I2 (.cons rfl r) ?_
 rw[fJ]
 exact Cn c2 (.obj (h2 _ _ ea) hl (r0.shared f2 h2) sds) j8 λd v F' H' hd hf hs c'=>k d aY v F' H' hd (f1.trans (f2.trans hf)) (h1.trans (h2.trans hs)) c'
def kP(MO:Addr->bg->Prop)(m:Str)(to:aI):aI:=λδ Q=>to δ λd aj=>∃C ns xs sp,d=.obj C ns xs/\MO C sp/\m ∉ ns/\sp [D.obj C ns xs] λr=>Q r aj
theorem cv4{pl:Sem Bool}(ho:PE X o (lB to))(hr:cw n X.A)
  (ht:eval (.Call (.Attribute o m apos) [] [] pos) X.env=(do
   let ov<-eval o X.env
   standAt apos.atName
   let (f,first)<-holding [ov] (getMethod ov m pl)
   callWith pos f first (backTo pos (starEach [] X.env)) (backToKw pos (keywordEach [] X.env))):=by rfl) :
  PE X (.Call (.Attribute o m apos) [] [] pos) (lE (kP (nv X.prog X.w X.K X.mg X.base n m) m to)):=by
 intro pins s σ H Q I zz
 obtain⟨B,F,δ,ts,Qd,c,q,k⟩:=zz
 refine PySem.W.methodCall_KW (pl:=pl) (aN (ho pins s σ H (λx H1=>∃d aj F1,S F1 H1 [d] [x]/\ak B F1 H1 σ aj ts/\ag F F1/\ag H H1/\∃C ns xs sp,d=.obj C ns xs/\nv X.prog X.w X.K X.mg X.base n m C sp/\m ∉ ns/\sp [D.obj C ns xs] λr=>Qd r aj) I
  ⟨B,F,δ,ts,_,c,q,λd aj v F1 H1 hq f1 h1 c1 s1=>⟨d,aj,F1,s1,c1,f1,h1,hq⟩⟩) λu s1 zq=>?_) ht
 obtain⟨x,H1,I1,rx,d,aj,F1,sd,c1,f1,h1,C,ns,xs,sp,ed,M,hm,hq⟩:=zq
 subst ed
 obtain⟨a,dx,ws,rfl,ea,hl,r0⟩:=HE sd
 obtain rfl:u=gZ a:=rx
 obtain⟨f,fd,ps,zU,FO,hb⟩:=M.ex
 refine FR I1 ea M.cls zU (Qz hm) ?_
 refine PySem.W.callWith_K0 (first:=[.ref a]) I1.dB zU.kp (yQ (us:=[.ref a]) (vs:=[.ref a]) (fK:=[]) FO hr hb .nil dH I1 (.cons rfl .nil) ?_)
 show bo sp [.ref a] H1 Q E0
 exact Cn (Qd:=λr=>Qd r aj) c1 (.obj ea hl r0 .nil) (by simpa[D.sh,D.pl]using hq) λd v F' H' hd hf hs c'=>k d aj v F' H' hd (f1.trans hf) (h1.trans hs) c'
end
structure bQ(x:Addr)(H H':Hp):Prop where
 get:∀b o,b≠x->H b=some o->ka o=true->H' b=some o
 tb:∀b ps,H b=some (.dN ps)->∃more,H' b=some (.dN (ps++more))
theorem bQ.trans{x:Addr}{H H1 H2:Hp}(a:bQ x H H1)(b:bQ x H1 H2):bQ x H H2 :=
 ⟨λc o n h t=>b.get c o n (a.get c o n h t) t,λc ps h=>by
  obtain⟨m1,e1⟩:=a.tb c ps h
  obtain⟨m2,e2⟩:=b.tb c _ e1
  exact⟨m1++m2,by rw[e2,wb]⟩⟩
theorem ag.x{x:Addr}{H H':Hp}(h:ag H H'):bQ x H H':=⟨λb o _ e n=>h.get b o e n,h.tb⟩
theorem bQ.upd{x C dx:Addr}{H:Hp}{o o':HO}(h:H x=some o)(n:ka o=true):bQ x H (upd H x o') :=
 ⟨λb o z e _=>by rw[bc z];exact e,λb ps e=>⟨#[],by rw[bc (λz=>by rw[z,h]at e;cases e;cases n),e];simp⟩⟩
def HF(tl:List Addr)(C:Addr)(kQ:List D->List Str->List D->Prop):Sp:=λvs H Q _=>∃x dx b8 ds ns xs,vs=.ref x::b8/\Tb tl H/\H x=some (.ins C dx [])/\R H H ds b8 []/\kQ ds ns xs /\
 ∀H' ws A,bQ x H H'->H' x=some (.ins C dx (ns.zip ws))->ns.length=ws.length->R (λ_=>none) H' xs ws A->A.Nodup->(∀a∈A,H a=none)->Q .aq H'
def nz(C:Addr)(kQ:List D->List Str->List D->Prop)(ta:cJ):aI:=λδ Q=>ta δ λds ai=>∃ns xs,kQ (ds.map D.sh) ns xs/\Q (.obj C ns (xs.map D.sh)) ai
theorem ak.made{B:Bs}{F H H':Hp}{σ:L2.St}{δ:Dl}{ts:List (D × V)}{C dx x:Addr}{ns:List Str}{xs:List D}{ws:List V}{A:List Addr}(c:ak B F H σ δ ts)(hs:ag H H')(hx:H' x=some (.ins C dx (ns.zip ws)))(hl:ns.length=ws.length)
  (r:R (λ_=>none) H' xs ws A) (fr:∀a∈A,H a=none):ag F (L3.bD F H' A)/\ak B (L3.bD F H' A) H' σ δ ((.obj C ns (xs.map D.sh),.ref x)::ts):=by
 have c1:=c.grow hs
 have hF:∀a∈A,F a=none:=λa ha=>c.ext.free (fr a ha)
 have r1:R F H' xs ws A:=r.keep (ag.of λb o e=>by cases e) (gL.same (ag.refl _)) iG.nil hF (by simp)
 have r2:=r1.bD c1.ext A (λ_ h=>h)
 have fs:ag F (L3.bD F H' A):=ke c1.ext
 obtain⟨A',C',r',s',nd,xE⟩:=c.own
 have out:∀a,(∃ws,H a=some (.lst ws))/\F a=none->L3.bD F H' A a=none:=λa zz=>by
  obtain⟨⟨ws,h⟩,hf⟩:=zz
  rw[vo (λz=>by rw[fr a z]at h;cases h)];exact hf
 have g1:=r'.grow fs hs λa ha=>out a (r'.lists a ha)
 have g2:=s'.keep fs (gL.same hs) iG.nil (λa ha=>out a (s'.lists a ha)) (by simp)
 refine⟨fs,vn c1.ext,c1.b1,c1.b2.trans fs,λa ws h=>?_,A',C',?_,g2,nd,xE⟩
 ·by_cases z:a∈A
  ·exact .inr (c.b1.free (fr a z))
  ·rw[vo z]at h;exact c.b3 a ws h
 ·exact R.obj hx hl r2 g1
section
variable{X:Cx}{CX:fg}{n:Nat}{f C:Addr}{fd:FuncData}{ps:List Str}{kQ:List D->List Str->List D->Prop}{E:XK}{x:Str}{p pos:Pos}{e:Expr}{es:List Expr}{t:cJ}{tl:List Addr}
theorem QB(hT:Tb tl X.qS)(M:Mk X.K C f)(F:aO X.prog X.w X.K X.mg X.base CX n f fd ps (HF tl C kQ))(hr:cw (n+1) X.A)(hg:Gl X x)(hm:X.mg x=some (.ref C))(hb:Binds X.K fd ps [])(hx:p9 CX X E)
  (ha:PA X (e::es) (lA t)) (eC:(x==("__debug__":Str))=false:=by decide) (he:starEach (e::es) X.env=(false,eval e X.env)::starEach es X.env:=by rfl) (bU:(backTo pos (starEach es X.env)).any (·.1)=false:=by rfl) :
  PE X (.Call (.Name x p) (e::es) [] pos) (lE (nz C kQ t)):=by
 intro pins s σ H Q I zz
 obtain⟨B,F',δ,ts,Qd,c,q,k⟩:=zz
 have tb:=Hw I hT
 refine Oe M F hr hg hm hb .nil hx ha eC he bU pins s σ H Q I ⟨B,F',δ,ts,_,c,q,λds aj vs F1 H1 q1 f1 h1 c1 s1=>?_⟩
 intro x dx du eV ua
 obtain⟨ns,xs,hI,hq⟩:=q1
 have sm:ag H1 (upd (upd H1 dx (.own x)) x (.ins C dx [])):=.of λb o e=>by rw[bc (e7 e du),bc (e7 e eV)];exact e
 refine⟨x,dx,vs,ds.map D.sh,ns,xs,by rw[fJ],zT (zT tb h1) sm,bS,(s1.frozen c1.ext).shared sm sm,hI,λH' ws A zV dW hl r nd fr=>⟨rfl,?_⟩⟩
 have s2:ag H1 H':=⟨λb o e n=>zV.get b o (e7 e du) (sm.get b o e n) n,λb ps e=>by
  obtain⟨m1,e1⟩:=sm.tb b ps e
  obtain⟨m2,e2⟩:=zV.tb b _ e1
  exact⟨m1++m2,by rw[e2,wb]⟩⟩
 obtain⟨fs,c2⟩:=c1.made s2 dW hl r λa ha=>sm.free (fr a ha)
 exact k _ aj _ _ H' hq (f1.trans fs) (h1.trans s2) c2
end
end L3
namespace Mf
open PySem L2 L3
def gm(m:Bool × Nat)(a b:Nat):Nat:=if m.1 then md (cl a b) m.2 else a*b%m.2
def aa(m:Bool × Nat):Nat:=if m.1 then 2 ^ (bl m.2-1)else m.2
def CN(g:Nat->Nat->Nat)(a:Nat):Nat->Nat->List Int->Option (List Int)
 | 0,_,_=>none
 | f+1,p,acc=>if p=1 then some acc else if p<64 then CN g a f (g p a) (acc++[(p:Int)])else none
def HG(g:Nat->Nat->Nat)(a:Nat):Option (List Int):=CN g a 64 (g 1 a) [1]
def CO(g:Nat->Nat->Nat)(many:Nat):Nat->Nat->List Int->Option (List Int)
 | 0,_,_=>none
 | f+1,st,l=>if l.length+1<many then(match HG g (st+1)with | some l'=>CO g many f (st+1) l' | none=>none)else some l
def zW(g:Nat->Nat->Nat)(many:Nat):Option (List Int):=match HG g 1 with | some l=>CO g many 62 1 l | none=>none
def zX(g:Nat->Nat->Nat):xC:=λi j Q=>∃a b:Nat,i=a/\j=b/\a<64/\b<64/\Q (g a b:Nat)
def iO:List Nat:=[7,11,13,19,25,31,37,41,47,55,59,61,67,73,87,91,97,103,109,115,117]
def sP:List Nat:=[2,3,5,7,11,13,17,19,23,29,31,37,41,43,47,53,59,61]
def aA:List (Bool × Nat):=iO.map (λn=>(true,n))++sP.map λn=>(false,n)
def sQ(l:List Int):Nat->List Int
 | 0=>aW (l.length+1) 0
 | i+1=>(sQ l i).set (l.getD i 0).toNat (i:Int)
def fh(l:List Int):List Int:=sQ l l.length
theorem zY(l:List Int):∀i,(sQ l i).length=l.length+1
 | 0=>by simp[sQ]
 | i+1=>by simp[sQ,zY l i]
def um(l g:List Int)(a:Nat):List Int:=if a=0 then aW (l.length+1) 0 else 0::(aw l.length).map λ(b:Nat)=>l.getD ((g.getD a 0+g.getD (b+1) 0)%(l.length:Int)).toNat 0
def xF(l g:List Int)(n:Nat):List D:=(aw n).map λa=>D.lst true (ax (um l g a))
def uo(l g:List Int):List D:=xF l g (l.length+1)
end Mf
namespace L3
open PySem L2 Mf
def LI(H:Hp)(p:Addr)(ns:List Int):Prop:=H p=some (.lst (ns.map V.int))
theorem LI.same{H H':Hp}{p:Addr}{ns:List Int}(h:LI H p ns)(s:ag H H'):LI H' p ns:=s.get _ _ h
theorem LI.upd{H:Hp}{p x:Addr}{ns:List Int}{o o':HO}(h:LI H p ns)(hx:H x=some o)(n:∀ws,o≠.lst ws):LI (upd H x o') p ns:=by
 unfold LI
 rw[bc (λz=>by rw[z]at h;unfold LI at h;rw[hx]at h;cases h;exact n _ rfl)];exact h
theorem QC{F' H' H:Hp}{v:V}{A:List Addr}{ns:List Int}(r:R F' H' [.lst true (ax ns)] [v] A)(fr:∀a∈A,H a=none):∃p,v=.ref p/\LI H' p ns/\H p=none:=by
 cases r with
 | @own p ws xs A1 _ _ B1 hp hf r1 r2 =>
  have:=Hc r1.s
  subst this
  exact⟨p,rfl,hp,fr p (by simp)⟩
structure dd6(K:PySem.W.Frag)(C f:Addr):Prop where
 cls:di K C
 many:bu K C "many"
 wide:bu K C "wide"
 HH:bu K C "powers"
 dd7:bu K C "logs"
 step:bu K C "step"
 sp:Meth K C "step_power" f
structure QD(g:Nat->Nat->Nat)(many:Nat)(l:List Int)(st:Int):Prop where
 lo:2<=many
 hi:many<=64
 step:zW g many=some l
 len:l.length+1=many
 ins:∀x∈l,0<=x/\x.toNat<=l.length
 st:l[((1:Int)%((many:Int)-1)).toNat]?=some st
def jg(b:Str):List Str:=[b,"many","wide","powers","logs","step"]
def CP(n0:Int)(many:Nat)(p1 p2:Addr)(st:Int):List V:=[.int n0,.int many,.int ((bl many:Nat)-1),.ref p1,.ref p2,.int st]
theorem xG{f:Str}{v:V}:∀{fs:List (Str × V)},(∀p∈fs,p.1≠f)->bE f v fs=fs++[(f,v)]
 | [],_=>rfl
 | (g,x)::r,h=>by
  unfold bE
  rw[if_neg (h (g,x) (by simp)),xG λp hp=>h p (by simp[hp])];rfl
theorem oo.vI{H:Hp}{x C dx f c k:Addr}{fs:List (Str × V)}{o':HO}{of oc:Obj}(h:oo H f of oc c k)(hx:H x=some (.ins C dx fs)):oo (L2.upd H x o') f of oc c k:=by
 obtain⟨ψ,e,zQ⟩:=h.GI
 exact⟨by rw[bc (λz=>by rw[<-z,h.fn]at hx;cases hx)];exact h.fn,by rw[bc (λz=>by rw[<-z,h.cell]at hx;cases hx)];exact h.cell,ψ,by rw[bc (λz=>by rw[<-z,e]at hx;cases hx)];exact e,zQ⟩
theorem zZ{H:Hp}{x p:Addr}{o o':HO}(hx:H x=some o)(h:L2.upd H x o' p=none):H p=none:=by
 by_cases z:p=x
 ·subst z;rw[bS]at h;cases h
 ·rw[bc z]at h;exact h
theorem CQ{α:Type}{b f:Str}{v:α}{r:List (Str × α)}(h:b≠f):((b,v)::r).lookup f=r.lookup f:=by
 rw[gw,beq_eq_false_iff_ne.mpr (iu h)]
section
variable{H2 H3 H':Hp}{x f c p:Addr}{o1 o2:HO}
theorem z5{b:Addr}{o:HO}(e:H3 b=some o)(nb:b≠f)(nc:H3 c=none):L2.upd (L2.upd H3 f o1) c o2 b=some o:=by
 rw[bc (e7 e nc),bc nb];exact e
theorem QE(hs:ag H2 H3)(nf:H2 f=none)(nc:H3 c=none)(s:bQ x (L2.upd (L2.upd H3 f o1) c o2) H'):bQ x H2 (rem H' f c) where
 get b o n e t:=by
  have z1:=e7 e nf
  have e3:=hs.get b o e t
  rw[jf z1 (e7 e3 nc)]
  exact s.get b o n (z5 e3 z1 nc) t
 tb b ps e:=by
  have z1:=e7 e nf
  obtain⟨m,e3⟩:=hs.tb b ps e
  obtain⟨m2,e4⟩:=s.tb b _ (z5 e3 z1 nc)
  exact⟨m++m2,by rw[jf z1 (e7 e3 nc),e4,wb]⟩
theorem CS(hs:ag H2 H3)(h:L2.upd (L2.upd H3 f o1) c o2 p=none):H2 p=none:=by
 refine hs.free ?_
 by_cases z:p=c
 ·subst z;rw[bS]at h;cases h
 ·rw[bc z]at h
  by_cases z2:p=f
  ·subst z2;rw[bS]at h;cases h
  ·rw[bc z2]at h;exact h
theorem LI.rem{l:List Int}{φ:Heap->Prop}{y:Addr}(h:LI H' p l)(hf:H' f=some (.ext φ))(hc:H' c=some (.own y)):LI (rem H' f c) p l:=by
 unfold LI at h ⊢
 rw[jf (λz=>by rw[z,hf]at h;cases h) (λz=>by rw[z,hc]at h;cases h)];exact h
theorem QF{of oc:Obj}{k:Addr}(ua:c≠f)(nc:H3 c=none)(hk:GH H3 k)(kf:k≠f):oo (L2.upd (L2.upd H3 f (.ext (lU of oc c f))) c (.own f)) f of oc c k:=by
 obtain⟨ψ,e,zQ⟩:=hk
 exact⟨by rw[bc ua.symm,bS],bS,ψ,z5 e kf nc,zQ⟩
end
def fl(m:Bool × Nat):List Int:=(zW (gm m) (aa m)).getD []
def fst(m:Bool × Nat):Int:=(fl m).getD ((1:Int)%((aa m:Int)-1)).toNat 0
def QG(m:Bool × Nat):Bool:=decide (2<=aa m)&&decide (aa m<=64)&&(zW (gm m) (aa m)).isSome&&decide ((fl m).length+1=aa m)&&(fl m).all (λx=>decide (0<=x)&&decide (x.toNat<=(fl m).length))&&decide (((1:Int)%((aa m:Int)-1)).toNat<(fl m).length)
theorem cn6:aA.all QG=true:=by decide +kernel
theorem cT{m:Bool × Nat}(h:m∈aA):QD (gm m) (aa m) (fl m) (fst m):=by
 have h:=bZ.mp cn6 m h
 simp only[QG,eZ,decide_eq_true_eq,bZ]at h
 obtain⟨⟨⟨⟨⟨h1,h2⟩,h3⟩,h4⟩,h5⟩,h6⟩:=h
 obtain⟨l,e⟩:=XX.mp h3
 have el:fl m=l:=by unfold fl;rw[e];rfl
 refine⟨h1,h2,by rw[e,el],h4,λx hx=>h5 x hx,?_⟩
 unfold fst
 rw[aF,aJ h6];rfl
theorem ca5:∀p∈sP,(decide (2<=(p:Int))&&decide ((p:Int)<=61)&&(aw ((p:Int).toNat-2)).all λi=>(p:Int)%(2+(i:Int)) != 0)=true:=by decide +kernel
theorem co3:∀p∈iO,(decide (4<=(p:Int))&&decide ((p:Int)<=127)&&al (p:Int).toNat)=true:=by decide +kernel
theorem R.vI{F H:Hp}{x C dx:Addr}{fs:List (Str × V)}{o':HO}{ds:List D}{vs:List V}{A:List Addr}(r:R F H ds vs A)(hx:H x=some (.ins C dx fs))(hd:ds.all D.fr=true):R F (L2.upd H x o') ds vs A:=by
 have up:∀{a o},H a=some o->(∀C dx fs,o≠.ins C dx fs)->L2.upd H x o' a=some o:=λ{a o} e n=>by
  rw[bc (λz=>by rw[z,hx]at e;cases e;exact n _ _ _ rfl)];exact e
 induction r with
 | nil=>exact .nil
 | aq _ ih=>exact .aq (ih (by simpa[D.fr]using hd))
 | bl _ ih=>exact .bl (ih (by simpa[D.fr]using hd))
 | int _ ih=>exact .int (ih (by simpa[D.fr]using hd))
 | str _ ih=>exact .str (ih (by simpa[D.fr]using hd))
 | shr h x _ i1 ih=>simp[eE]at hd
 | own h f _ _ i1 i2 =>
  rw[cH,eE,eZ,iy]at hd
  exact .own (up h λ_ _ _ z=>by cases z) f (i1 hd.1) (i2 hd.2)
 | tup h _ _ i1 i2 =>
  rw[cH,kb,eZ]at hd
  exact .tup (up h λ_ _ _ z=>by cases z) (i1 hd.1) (i2 hd.2)
 | obj h l x _ i1 ih=>simp[D.fr]at hd
 | fz h x _ i1 ih=>simp[D.fr]at hd
 | @bK p z _ _ _ h r ih =>
  refine .bK ?_ (ih (by simpa[D.fr]using hd))
  cases z with
  | ext φ=>exact up h λ_ _ _ z=>by cases z
  | lam of oc c k=>exact oo.vI h hx
theorem QH(l g:List Int):(uo l g).all D.fr=true:=by
 unfold uo xF
 rw[tN,bZ]
 intro a _
 show(D.lst true (ax _)).fr=true
 rw[eE,kG];rfl
theorem bQ.free{x a:Addr}{H H':Hp}(s:bQ x H H')(hx:H' x≠none)(h:H' a=none):H a=none:=by
 cases q:H a with
 | none=>rfl
 | some o =>
  by_cases z:a=x
  ·subst z;exact absurd h hx
  ·cases n:ka o with
   | true=>rw[s.get a o z q n]at h;cases h
   | false =>
    obtain⟨ps,rfl⟩:=GG n
    obtain⟨m,e⟩:=s.tb a ps q
    rw[e]at h;cases h
theorem QI(l:List Int):∀i,∀x∈sQ l i,0<=x
 | 0=>λx hx=>by rw[(wu.mp hx).2];exact Int.le_refl _
 | i+1=>λx hx=>by
  unfold sQ at hx
  rcases Nm hx with h | h
  ·exact QI l i x h
  ·rw[h];exact M0 _
theorem cb5:∀p∈iO,bl p<=7:=by decide +kernel
theorem bW1:∀p∈iO,1<=bl p:=by decide +kernel
theorem b98(a b:Nat):bl (cl a b)<=bl a+bl b:=by
 by_cases ha:a=0
 ·subst ha;rw[t7];exact jl _
 ·by_cases hb:b=0
  ·subst hb
   have:cl a 0=0:=rfl
   rw[this];exact jl _
  ·rw[OS ha hb];omega
def xH(l g:List Int):List D:=(aw (l.length+1)).map λa=>D.lst false (ax (um l g a))
theorem ca6(l g:List Int):(D.lst true (uo l g)).sh=.lst false (xH l g):=by
 rw[cE]
 unfold uo xF xH
 rw[bO]
 congr 1
 apply jq
 intro a _
 show D.sh (.lst true (ax _))=_
 rw[cE,fB]
abbrev pD(m:Bool × Nat):List D:=[.int m.2,.int (aa m),.int ((bl (aa m):Nat)-1),.lst false (ax (fl m)),.lst false (ax (fh (fl m))),.int (fst m)]
def xI(C:Addr)(p:Nat):D:=.obj C (jg "prime") (pD (false,p))
def z7(C:Addr)(p:Nat):D:=.obj C (jg "bits"++[("products":Str)]) (pD (true,p)++[.lst false (xH (fl (true,p)) (fh (fl (true,p))))])
def fD(cb cp:Addr)(m:Bool × Nat):D:=if m.1 then z7 cb m.2 else xI cp m.2
theorem QJ{u p:Nat}(h:bl u<bl p):md u p=u:=y9 (q:=0) (by rw[t7,uR]) h
theorem bU2{u v n:Nat}(hu:bl u<n)(hv:bl v<n):bl (u ^^^ v)<n:=by
 have h1:u<2 ^ (n-1):=g8.mp (by omega)
 have h2:v<2 ^ (n-1):=g8.mp (by omega)
 have:=g8.mpr (w5 h1 h2)
 omega
theorem QK{p:Nat}(hp:p≠0)(u v:Nat):md (u ^^^ v) p=md u p ^^^ md v p:=by
 obtain⟨⟨q1,e1⟩,l1⟩:=y8 hp u
 obtain⟨⟨q2,e2⟩,l2⟩:=y8 hp v
 refine y9 (q:=q1 ^^^ q2) ?_ (bU2 l1 l2)
 rw[vk,<- OK,<- e1,<- e2]
theorem cq2{p:Nat}(hp:p≠0)(w:Nat):md (cl p w) p=0:=by rw[y6];exact cJ5 w hp
theorem cq:∀m∈aA,0<m.2:=by decide +kernel
theorem fS(m:Bool × Nat)(a b:Nat):gm m a b=gm m b a:=by
 unfold gm
 split
 ·rw[y6]
 ·rw[jV]
theorem QL{n:Nat}(hn:n≠0)(u c:Nat):md (cl (md u n) c) n=md (cl u c) n:=by
 obtain⟨⟨q,e⟩,_⟩:=y8 hn u
 have h:cl u c=cl n (cl q c) ^^^ cl (md u n) c:=by
  conv=>lhs;rw[e]
  rw[vk,y6 n q,OW]
 rw[h,QK hn,cq2 hn,uR]
theorem iP{m:Bool × Nat}(h:0<m.2)(a b c:Nat):gm m (gm m a b) c=gm m a (gm m b c):=by
 unfold gm
 split
 ·rw[QL (by omega),y6 (md (cl b c) m.2) a,QL (by omega),OW a b c,y6 (cl b c) a]
 ·rw[yt,Nn,<- yt,yt a (b*c%m.2),Nn,<- yt,tK]
theorem QM{m:Bool × Nat}(h:m.1=true){a:Nat}:a<aa m↔bl a<=bl m.2-1:=by
 unfold aa
 rw[if_pos h];exact g8.symm
theorem sR{m:Bool × Nat}{a:Nat}(ha:a<aa m):gm m 1 a=a:=by
 obtain⟨k,n⟩:=m
 cases k with
 | true =>
  show md (cl 1 a) n=a
  rw[Gm]
  have h1:=(QM (m:=(true,n)) rfl).mp ha
  have h1:bl a<=bl n-1:=h1
  by_cases z:bl n=0
  ·have a0:a=0:=by
    have:=g8 (n:=a) (m:=0)
    have:=this.mp (by omega)
    omega
   subst a0
   have n0:n=0:=by
    have:=(g8 (n:=n) (m:=0)).mp (by omega)
    omega
   subst n0
   decide
  ·exact QJ (by omega)
 | false=>show 1*a%n=a;rw[qM];exact BB ha
theorem qp{m:Bool × Nat}{a:Nat}(ha:a<aa m):gm m a 1=a:=by rw[fS];exact sR ha
def lg(m:Bool × Nat)(a:Nat):Int:=(fh (fl m)).getD a 0
def pw(m:Bool × Nat)(k:Nat):Int:=(fl m).getD k 0
def HI(m:Bool × Nat):Bool:=((aw (aa m-1)).all λk=>decide (1<=pw m k)&&decide (pw m k<aa m)&&decide (lg m (pw m k).toNat=k))&&((aw (aa m-1)).all λa=>decide (0<=lg m (a+1))&&decide (lg m (a+1)<(aa m:Int)-1)&&decide (pw m (lg m (a+1)).toNat=((a+1:Nat):Int)))
theorem QN:aA.all HI=true:=by decide +kernel
theorem CT{m:Bool × Nat}(hm:m∈aA){k:Nat}(hk:k<aa m-1):1<=pw m k/\pw m k<aa m/\lg m (pw m k).toNat=k:=by
 have h:=bZ.mp QN m hm
 simp only[HI,eZ,bZ,decide_eq_true_eq,bw]at h
 have:=h.1 k hk
 exact⟨this.1.1,this.1.2,this.2⟩
theorem CU{m:Bool × Nat}(hm:m∈aA){a:Nat}(h1:1<=a)(h2:a<aa m):0<=lg m a/\lg m a<(aa m:Int)-1/\pw m (lg m a).toNat=a:=by
 have h:=bZ.mp QN m hm
 simp only[HI,eZ,bZ,decide_eq_true_eq,bw]at h
 have:=h.2 (a-1) (by omega)
 rw[show a-1+1=a by omega]at this
 exact⟨this.1.1,this.1.2,this.2⟩
theorem fC(m:Bool × Nat)(b:Nat)(h:0<m.2):gm m 0 b=0:=by
 unfold gm
 split
 ·rw[t7];exact QJ (by rw[yY];exact qa (by omega))
 ·rw[Np,Nat.zero_mod]
theorem ig(m:Bool × Nat)(b:Nat)(h:0<m.2):gm m b 0=0:=by rw[fS];exact fC m b h
def stC(m:Bool × Nat):Bool:=decide (pw m 0=1)&&(aw (aa m-1)).all λk=>decide (gm m (pw m k).toNat (pw m (1%(aa m-1))).toNat=(pw m ((k+1)%(aa m-1))).toNat)
theorem QO:aA.all stC=true:=by decide +kernel
theorem QP(m:Bool × Nat)(hm:m∈aA):pw m 0=1:=by
 have h:=bZ.mp QO m hm
 simp only[stC,eZ,decide_eq_true_eq]at h
 exact h.1
def pN(m:Bool × Nat)(k:Nat):Nat:=(pw m (k%(aa m-1))).toNat
theorem cK8{m:Bool × Nat}(hm:m∈aA)(k:Nat):pN m k<aa m:=by
 have fv:=(cT hm).lo
 have:=CT hm (yu k (show 0<aa m-1 by omega))
 unfold pN
 omega
theorem QQ{m:Bool × Nat}(hm:m∈aA)(k:Nat):gm m (pN m k) (pN m 1)=pN m (k+1):=by
 have fv:=(cT hm).lo
 have h:=bZ.mp QO m hm
 simp only[stC,eZ,decide_eq_true_eq,bZ,bw]at h
 have h2:=h.2 (k%(aa m-1)) (yu k (by omega))
 rw[Fc]at h2
 exact h2
theorem QR{m:Bool × Nat}(hm:m∈aA)(i:Nat):∀j,gm m (pN m i) (pN m j)=pN m (i+j)
 | 0=>by
  have e:pN m 0=1:=by unfold pN;rw[Nat.zero_mod,QP m hm];rfl
  rw[e,qp (cK8 hm i)];rfl
 | j+1=>by rw[<-QQ hm j,<- iP (cq m hm),QR hm i j,QQ hm];rfl
theorem HJ{m:Bool × Nat}(hm:m∈aA){a b:Nat}(a1:1<=a)(a2:a<aa m)(b1:1<=b)(b2:b<aa m):((gm m a b:Nat):Int)=pw m ((lg m a+lg m b)%((aa m:Int)-1)).toNat:=by
 have fv:=(cT hm).lo
 obtain⟨g0,g1,g2⟩:=CU hm a1 a2
 obtain⟨f0,f1,f2⟩:=CU hm b1 b2
 have ea:pN m (lg m a).toNat=a:=by unfold pN;rw[BB (by omega),g2];rfl
 have eb:pN m (lg m b).toNat=b:=by unfold pN;rw[BB (by omega),f2];rfl
 have e:=QR hm (lg m a).toNat (lg m b).toNat
 rw[ea,eb]at e
 rw[e]
 have ei:((lg m a+lg m b)%((aa m:Int)-1)).toNat=((lg m a).toNat+(lg m b).toNat)%(aa m-1):=by
  have:(((lg m a).toNat+(lg m b).toNat)%(aa m-1):Nat)=((lg m a+lg m b)%((aa m:Int)-1)):=by
   rw[yv,uT,wC g0,wC f0,Int.natCast_sub (by omega)];rfl
  omega
 rw[ei]
 have:=CT hm (yu ((lg m a).toNat+(lg m b).toNat) (show 0<aa m-1 by omega))
 unfold pN
 omega
theorem cu1{p a:Nat}(hp:p∈iO)(ha:a<aa (true,p)):um (fl (true,p)) (fh (fl (true,p))) a=(aw (aa (true,p))).map λb=>((gm (true,p) a b:Nat):Int):=by
 have hm:(true,p)∈aA:=fI _ (Fd hp)
 have h0:=cq _ hm
 have hF:=cT hm
 have hlen:=hF.len
 unfold um
 split
 ·rename_i h
  subst h
  rw[hlen]
  refine yw (by simp) λi h1 h2=>?_
  simp[fC _ _ h0]
 ·rename_i h
  rw[<-hlen,E4,bR,bO,ig _ _ h0]
  congr 1
  apply jq
  intro b hb
  have hb:=bw.mp hb
  show(fl (true,p)).getD (((fh (fl (true,p))).getD a 0+(fh (fl (true,p))).getD (b+1) 0)%((fl (true,p)).length:Int)).toNat 0=((gm (true,p) a (b+1):Nat):Int)
  rw[HJ hm (by omega) ha (by omega) (by omega),show(((fl (true,p)).length:Nat):Int)=(aa (true,p):Int)-1 by omega]
  rfl
theorem HK{p a b:Nat}(hp:p∈iO)(ha:a<aa (true,p))(hb:b<aa (true,p)):eD (ax (um (fl (true,p)) (fh (fl (true,p))) a)) (b:Int)=some (.int (gm (true,p) a b:Nat)):=by
 refine qW (by omega) ?_
 rw[cu1 hp ha]
 unfold ax
 rw[ft,bN,bN,gI hb];rfl
theorem HL{p a:Nat}(hp:p∈iO)(ha:a<aa (true,p)):eD (xH (fl (true,p)) (fh (fl (true,p)))) (a:Int)=some (.lst false (ax (um (fl (true,p)) (fh (fl (true,p))) a))):=by
 have hF:=cT (m:=(true,p)) (fI _ (Fd hp))
 refine qW (by omega) ?_
 unfold xH
 rw[ft,bN,gI (by rw[hF.len];exact ha)];rfl
theorem cC8(C:Addr)(p:Nat):D.obj C (jg "bits"++[("products":Str)]) (wB D.sh [.int p,.int (aa (true,p)),.int ((bl (aa (true,p)):Nat)-1),.lst true (ax (fl (true,p))),.lst true (ax (fh (fl (true,p)))),.int (fst (true,p)),.lst true (uo (fl (true,p)) (fh (fl (true,p))))])=z7 C p:=by
 simp only[bR,gv]
 rw[ca6]
 simp only[cE,h7,fB];rfl
theorem b86(C:Addr)(p:Nat):D.obj C (jg "prime") (wB D.sh [.int p,.int p,.int ((bl p:Nat)-1),.lst true (ax (fl (false,p))),.lst true (ax (fh (fl (false,p)))),.int (fst (false,p))])=xI C p:=by
 simp only[bR,gv,cE,h7,fB];rfl
theorem CV{n:Nat}(h:(true,n)∈aA):n∈iO:=by
 rcases bV.mp h with h | h
 ·obtain⟨x,hx,e⟩:=aT.mp h
  cases e;exact hx
 ·obtain⟨x,hx,e⟩:=aT.mp h
  cases e
theorem bF7{n:Nat}(h:(false,n)∈aA):n∈sP:=by
 rcases bV.mp h with h | h
 ·obtain⟨x,hx,e⟩:=aT.mp h
  cases e
 ·obtain⟨x,hx,e⟩:=aT.mp h
  cases e;exact hx
open Classical in
theorem bX0{α:Type}{sh:Bool}{xs:List D}{aD:List (Str × Nat)}{n:Nat}{g0:i8}{te:aI}{aj:Dl}{Q:D->Dl->Prop}(l:List α)(e g:α->D)(kJ:xs.map D.sh=l.map e)(inj:∀a b,e a=e b->a=b)
  (hx:∀a∈l,g0 (e a) (dP aD n aj) λaY=>te aY λd _=>d=g a) (hg:∀d δ (P P':Dl->Prop),(∀ai,P ai->P' ai)->g0 d δ P->g0 d δ P') (fM:(sh&&aD.all (gq aj))=true\/∀a∈l,(g a).fr=true) (hl:l.length<=sizeLine) (hq:Q (.lst true (l.map g)) aj):sE sh xs aD n g0 gB te aj Q:=by
 let f:D->D:=λx=>if h:∃a∈l,e a=x then g h.choose else .aq
 have hf:∀a∈l,f (e a)=g a:=λa ha=>by
  have h:∃b∈l,e b=e a:=⟨a,ha,rfl⟩
  show(if h:∃b∈l,e b=e a then g h.choose else .aq)=g a
  rw[dif_pos h]
  exact congrArg g (inj _ _ h.choose_spec.2)
 refine⟨λ_=>true,f,λx h=>?_,fM.imp id λh x hx _=>?_,?_,?_⟩
 ·rw[kJ]at h
  obtain⟨a,ha,rfl⟩:=aT.mp h
  rw[hf a ha]
  exact hg _ _ _ _ (λai h=>⟨rfl,λ_=>h⟩) (hx a ha)
 ·rw[kJ]at hx
  obtain⟨a,ha,rfl⟩:=aT.mp hx
  rw[hf a ha];exact h a ha
 ·have:=congrArg Bq kJ
  simp at this
  omega
 ·rw[kJ,X6.mpr (λ_ _=>rfl),bO,show l.map (f ∘ e)=l.map g from jq λa ha=>hf a ha]
  exact hq
theorem cc5{i1 i2:Nat}(d:D)(δ:Dl)(P P':Dl->Prop)(h:∀ai,P ai->P' ai)(q:fO i1 i2 d δ P):fO i1 i2 d δ P':=by
 unfold fO at q ⊢
 split at q
 ·exact h _ q
 ·exact q
theorem bY0(xs ys:List Int):(gQ (ax xs) (ax ys)).map D.sh=(xs.zip ys).map λz=>D.tup [.int z.1,.int z.2]:=by
 rw[P1,fB,fB]
 unfold gQ ax
 rw[List.zipWith_map,List.zip,E8]
end L3
namespace L3
open PySem L2 PySem.Spec PyProof.Rows
section
variable{X:Cx}{e o:Expr}{es:List Expr}{f m x:Str}{pos p apos:Pos}{to:aI}{ta:cJ}{n:Nat}
end
section
variable{X:Cx}{tb th:c9}{body c88:List Stmt}{c89:Stmt}{K:Str}{Kc:Addr}{kp c90 pos:Pos}
end
end L3
namespace L3
open PySem L2 Mf
theorem QS{m:Bool × Nat}(hm:m∈aA){a b:Nat}(a1:1<=a)(a2:a<aa m)(b1:1<=b)(b2:b<aa m):∃r:Nat,pw m ((lg m a-lg m b)%((aa m:Int)-1)).toNat=r/\r<aa m/\gm m r b=a:=by
 have hF:=cT hm
 have fv:=hF.lo
 have n0:=iV (lg m a-lg m b) (show(aa m:Int)-1≠0 by omega)
 have n1:=jr (lg m a-lg m b) (show(0:Int)<(aa m:Int)-1 by omega)
 obtain⟨p1,p2,p3⟩:=CT hm (k:=((lg m a-lg m b)%((aa m:Int)-1)).toNat) (by omega)
 obtain⟨g0,g1,g2⟩:=CU hm a1 a2
 refine⟨(pw m ((lg m a-lg m b)%((aa m:Int)-1)).toNat).toNat,by omega,by omega,?_⟩
 have e:=HJ hm (a:=(pw m ((lg m a-lg m b)%((aa m:Int)-1)).toNat).toNat) (by omega) (by omega) b1 b2
 rw[p3,wC n0,Int.emod_add_emod,Int.sub_add_cancel,Fe g0 g1,g2]at e
 omega
end L3
namespace L3
open PySem L2 PySem.Spec PyProof.Rows
section
variable{X:Cx}{e o a:Expr}{es:List Expr}{f m y:Str}{pos p apos q:Pos}{t to ta':aI}{ta:cJ}{n:Nat}{P:Program}{w:World}{K:PySem.W.Frag}{mg:Str->Option Value}{base:Heap}
theorem eW(he:PE X e (lB t))(hK:K=X.K:=by rfl)(hb:attributeBase e f X.env (eval e X.env)=eval e X.env:=by rfl):PE X (.Attribute e f pos) (lB (kN K t f)):=by
 subst hK;exact cH5 he hb
theorem qq{pl:Sem Bool}(ho:PE X o (lB to))(hr:cw n X.A)(ha:PA X (e::es) (lA ta))(hP:P=X.prog:=by rfl)(hw:w=X.w:=by rfl)(hK:K=X.K:=by rfl)(hm:mg=X.mg:=by rfl)(hb:base=X.base:=by rfl)
  (gJ:starEach (e::es) X.env=(false,eval e X.env)::starEach es X.env:=by rfl) (bU:(backTo pos (starEach es X.env)).any (·.1)=false:=by rfl)
  (ht:eval (.Call (.Attribute o m apos) (e::es) [] pos) X.env=(do
   let ov<-eval o X.env
   standAt apos.atName
   let (f,first)<-holding [ov] (getMethod ov m pl)
   callWith pos f first (backTo pos (starEach (e::es) X.env)) (backToKw pos (keywordEach [] X.env))):=by rfl) :
  PE X (.Call (.Attribute o m apos) (e::es) [] pos) (lE (kO (nv P w K mg base n m) m to ta)):=by
 subst hP hw hK hm hb;exact cw0 ho hr ha gJ bU ht
theorem QT{pl:Sem Bool}(ho:PE X o (lB to))(hr:cw n X.A)(hP:P=X.prog:=by rfl)(hw:w=X.w:=by rfl)(hK:K=X.K:=by rfl)(hm:mg=X.mg:=by rfl)(hb:base=X.base:=by rfl)
  (ht:eval (.Call (.Attribute o m apos) [] [] pos) X.env=(do
   let ov<-eval o X.env
   standAt apos.atName
   let (f,first)<-holding [ov] (getMethod ov m pl)
   callWith pos f first (backTo pos (starEach [] X.env)) (backToKw pos (keywordEach [] X.env))):=by rfl) :
  PE X (.Call (.Attribute o m apos) [] [] pos) (lE (kP (nv P w K mg base n m) m to)):=by
 subst hP hw hK hm hb;exact cv4 ho hr ht
end
theorem HM:∀m∈Mf.aA,1<=Mf.bl m.2/\Mf.bl m.2<=7:=by decide +kernel
end L3
namespace L3
open PySem L2 Mf
def gp(m:Bool × Nat)(a b:Nat):Nat:=if m.1 then a ^^^ b else(a+b)%m.2
def gl(m:Bool × Nat)(a b:Nat):Int:=if m.1 then(a ^^^ b:Nat)else((a:Int)-b)%m.2
def gd(m:Bool × Nat)(xs ys:List Nat):Nat:=(eO (gm m) xs ys).foldl (gp m) 0
def uq(c:Int):Bool × Nat:=if c%2=0 then(true,iO.getD (c/2%21).toNat 0)else(false,sP.getD (c/2%18).toNat 0)
theorem cb9(c:Int):uq c∈aA:=by
 unfold uq
 split
 ·refine fI _ (aT.mpr ⟨_,?_,rfl⟩)
  have h:(c/2%21).toNat<iO.length:=by
   have:=jr (c/2) (show(0:Int)<21 by decide)
   show _<21
   omega
  rw[aF,aJ h]
  exact eN _
 ·refine dv _ (aT.mpr ⟨_,?_,rfl⟩)
  have h:(c/2%18).toNat<sP.length:=by
   have:=jr (c/2) (show(0:Int)<18 by decide)
   show _<18
   omega
  rw[aF,aJ h]
  exact eN _
def gR(m:Bool × Nat):D:=.tup [.bl m.1,.int m.2]
theorem xJ(cb cp:Addr)(m:Bool × Nat):fD cb cp m=.obj (if m.1 then cb else cp) (if m.1 then jg "bits"++[("products":Str)]else jg "prime") (if m.1 then pD (true,m.2)++[.lst false (xH (fl (true,m.2)) (fh (fl (true,m.2))))]else pD (false,m.2)):=by
 obtain⟨k,n⟩:=m
 cases k<;>rfl
theorem QU(m:Bool × Nat)(x:Str)(h:x ∉ (["bits","prime","many","wide","powers","logs","step","products"]:List Str)):x ∉ (if m.1 then jg "bits"++[("products":Str)]else jg "prime"):=by
 obtain⟨k,n⟩:=m
 intro z
 apply h
 cases k
 ·have z:x∈jg "prime":=z
  simp[jg]at z
  simp only[cN]
  rcases z with z | z | z | z | z | z<;>simp[z]
 ·have z:x∈jg "bits"++[("products":Str)]:=z
  simp[jg]at z
  simp only[cN]
  rcases z with z | z | z | z | z | z | z<;>simp[z]
theorem QV(cb cp:Addr)(m:Bool × Nat):(fD cb cp m).sh=fD cb cp m:=by rw[xJ];rfl
theorem HN(cb cp:Addr)(m:Bool × Nat):(fD cb cp m).pl=true:=by rw[xJ];rfl
theorem cv2(m:Bool × Nat):(gR m).sh=gR m:=rfl
theorem cq6(m:Bool × Nat):(gR m).pl=true:=rfl
def QW(P:Program)(w:World)(K:PySem.W.Frag)(mg:Str->Option Value)(base:Heap)(n:Nat)(cb cp:Addr)(m:Bool × Nat)(x:Str)(ds:List D)(Q:D->Prop):Prop:=∃C ns xs sp,fD cb cp m=.obj C ns xs/\nv P w K mg base n x C sp/\x ∉ ns/\sp (.obj C ns xs::ds) Q
theorem rA(m:Bool × Nat)(a b:Nat):gp m a b=gp m b a:=by
 unfold gp
 split
 ·rw[M6]
 ·rw[yo]
theorem HP(m:Bool × Nat)(a b c:Nat):gp m (gp m a b) c=gp m a (gp m b c):=by
 unfold gp
 split
 ·rw[wq]
 ·rw[Fc,Nat.add_mod_mod,Ng]
theorem HQ{m:Bool × Nat}(h:0<m.2)(a b c:Nat):gm m (gp m a b) c=gp m (gm m a c) (gm m b c):=by
 unfold gm gp
 split
 ·rw[vk,QK (by omega)]
 ·rw[yt,Nn,<- yt,wD,Fc,Nat.add_mod_mod]
theorem z9{m:Bool × Nat}(h:0<m.2)(a b c:Nat):gm m c (gp m a b)=gp m (gm m c a) (gm m c b):=by rw[fS,HQ h,fS m a,fS m b]
theorem b92:∀m∈aA,m.1=true->2<=bl m.2:=by decide +kernel
theorem HR{m:Bool × Nat}(hm:m∈aA){a b:Nat}(ha:a<aa m)(hb:b<aa m):gp m a b<aa m:=by
 have h0:=cq m hm
 obtain⟨k,n⟩:=m
 cases k with
 | true=>exact w5 ha hb
 | false=>exact yu _ h0
theorem bX{m:Bool × Nat}(hm:m∈aA)(a b:Nat):gm m a b<aa m:=by
 have h0:=cq m hm
 obtain⟨k,n⟩:=m
 cases k with
 | true =>
  have h2:=b92 (true,n) hm rfl
  have:=(y8 (show n≠0 by have:0<n:=h0;omega) (cl a b)).2
  refine(QM rfl).mpr ?_
  show bl (md (cl a b) n)<=bl n-1
  omega
 | false=>exact yu _ h0
theorem Aa{m:Bool × Nat}{a:Nat}(ha:a<aa m):gp m 0 a=a:=by
 obtain⟨k,n⟩:=m
 cases k with
 | true=>exact uR a
 | false=>show(0+a)%n=a;rw[Ff];exact BB ha
theorem qt{m:Bool × Nat}{a:Nat}(ha:a<aa m):gp m a 0=a:=by rw[rA];exact Aa ha
theorem cI7{m:Bool × Nat}(hm:m∈aA){a b:Nat}(ha:a<aa m)(hb:b<aa m):∃r:Nat,gl m a b=r/\r<aa m/\gp m r b=a:=by
 have h0:=cq m hm
 obtain⟨k,n⟩:=m
 cases k with
 | true=>exact⟨a ^^^ b,rfl,w5 ha hb,by show a ^^^ b ^^^ b=a;rw[wq,Bw,uQ]⟩
 | false =>
  have h0:0<n:=h0
  have ha:a<n:=ha
  have hb:b<n:=hb
  refine⟨(a+(n-b))%n,?_,yu _ h0,?_⟩
  ·show((a:Int)-b)%n=_
   rw[yv,uT,Int.natCast_sub (by omega),show((a:Int)+((n:Int)-b))=((a:Int)-b)+n by omega,Int.add_emod_right]
  ·show((a+(n-b))%n+b)%n=a
   rw[Fc,show a+(n-b)+b=a+n by omega,Nat.add_mod_right,BB ha]
def eS(m:Bool × Nat)(n:Int):Nat:=(pw m (n%((aa m:Int)-1)).toNat).toNat
theorem sS{m:Bool × Nat}(hm:m∈aA)(n:Int):1<=eS m n/\eS m n<aa m/\lg m (eS m n)=n%((aa m:Int)-1)/\pw m (n%((aa m:Int)-1)).toNat=eS m n:=by
 have fv:=(cT hm).lo
 have n0:=iV n (show(aa m:Int)-1≠0 by omega)
 have n1:=jr n (show(0:Int)<(aa m:Int)-1 by omega)
 obtain⟨p1,p2,p3⟩:=CT hm (k:=(n%((aa m:Int)-1)).toNat) (by omega)
 unfold eS
 rw[p3]
 omega
theorem HS{m:Bool × Nat}(hm:m∈aA)(n:Int):eS m n<aa m:=(sS hm n).2.1
theorem HU{m:Bool × Nat}(hm:m∈aA)(a b:Int):gm m (eS m a) (eS m b)=eS m (a+b):=by
 obtain⟨a1,a2,a3,_⟩:=sS hm a
 obtain⟨b1,b2,b3,_⟩:=sS hm b
 have e:=HJ hm a1 a2 b1 b2
 rw[a3,b3,<- Int.add_emod]at e
 have c:=(sS hm (a+b)).2.2.2
 rw[c]at e
 omega
theorem cx8{m:Bool × Nat}(hm:m∈aA):eS m 0=1:=by
 unfold eS
 rw[Int.zero_emod,show(0:Int).toNat=0 from rfl,QP m hm];rfl
theorem QX{m:Bool × Nat}(hm:m∈aA){a:Nat}(h1:1<=a)(h2:a<aa m):eS m (lg m a)=a:=by
 obtain⟨g0,g1,g2⟩:=CU hm h1 h2
 unfold eS
 rw[Fe g0 g1,g2];rfl
theorem cL2{m:Bool × Nat}(hm:m∈aA)(n:Int):(fl m)[(n%((aa m:Int)-1)).toNat]?=some ((eS m n:Nat):Int):=by
 have hF:=cT hm
 have fv:=hF.lo
 have n0:=iV n (show(aa m:Int)-1≠0 by omega)
 have n1:=jr n (show(0:Int)<(aa m:Int)-1 by omega)
 have hk:(n%((aa m:Int)-1)).toNat<(fl m).length:=by have:=hF.len;omega
 rw[<-(sS hm n).2.2.2]
 unfold pw
 rw[aF,aJ hk];rfl
theorem cM1{m:Bool × Nat}(hm:m∈aA){a b:Nat}(a1:1<=a)(a2:a<aa m)(b1:1<=b)(b2:b<aa m):gm m a b≠0:=by
 rw[<-QX hm a1 a2,<- QX hm b1 b2,HU hm]
 have:=(sS hm (lg m a+lg m b)).1
 omega
end L3
namespace L2
open PySem PySem.Spec PyProof.Rows
section
variable{X:Cx}{a:Expr}{ta:TA}{p pos:Pos}{tg:Expr}
end
end L2
namespace L3
open PySem L2 PySem.Spec PyProof.Rows
section
variable{F H:Hp}{K:PySem.W.Frag}{p:Addr}{ws:List V}{xs:List D}
end
section
variable{X:Cx}{a:Expr}{ta:cJ}{p pos:Pos}{tg:Expr}
end
end L3
namespace L3
open PySem L2 Mf
def px(m:Bool × Nat)(x:Nat):Nat->Nat
 | 0=>1
 | k+1=>gm m (px m x k) x
def AllLt(n:Nat)(l:List Nat):Prop:=∀a∈l,a<n
theorem AllLt.getD{n:Nat}{l:List Nat}(h:AllLt n l)(h0:0<n)(k:Nat):l.getD k 0<n:=by
 rw[aF]
 cases e:l[k]? with
 | none=>exact h0
 | some v=>exact h v (uM e)
end L3
namespace L3
open PySem L2 PySem.Spec PyProof.Rows
theorem bY4(n:Nat)(l:List Nat):(ay l).all (dR n)=true:=by
 rw[dF,tN,bZ]
 intro a _
 exact kH n _
theorem Ab(n:Nat)(o:Bool)(l:List Nat):dR (n+1) (.lst o (ay l))=true:=bY4 n l
theorem xK(o o':Bool)(a b:List Nat):bP (.lst o (ay a)) (.lst o' (ay b))=decide (a=b):=by
 unfold ay
 rw[m6]
 congr 1
 apply propext
 constructor
 ·intro h
  have:=congrArg (wB qN) h
  have e:(qN ∘ λ(n:Nat)=>(n:Int))=id:=by funext x;rfl
  rw[bO,bO,e,List.map_id,List.map_id]at this
  exact this
 ·intro h;rw[h]
theorem qu{l:List Nat}{k:Int}(h0:0<=k)(h:k.toNat<l.length):eD (ay l) k=some (.int ((l.getD k.toNat 0:Nat):Int)):=by
 refine qW h0 ?_
 rw[dF,bN,aJ h,aF,aJ h];rfl
theorem QY{n:Nat}{k:Int}(h0:0<=k)(h:k.toNat<n):jv n k=some k.toNat:=by
 unfold jv
 rw[if_pos h0,if_pos (by omega)]
theorem xM{n:Nat}(k:Int)(h:k=n):(((aw k.toNat).map λ(k:Nat)=>D.int (0+(k:Int))).map D.sh)=(aw n).map λ(i:Nat)=>D.int (i:Int):=by
 subst h
 rw[zy,ft]
 simp
theorem QZ(l:List Nat)(k v:Nat):(ay l).set k (.int (v:Nat))=ay (l.set k v):=by
 rw[dF,dF,Nq]
theorem ca1(l:List Nat):(ay l).all D.fr=true:=kG _
theorem CW(o:Bool)(l:List Nat):(D.lst o (ay l)).sh=.lst false (ay l):=by rw[cE,kL]
theorem jK(l:List Nat):(D.lst true (ay l)).fr=true:=by rw[eE,ca1];rfl
section
variable{X:Cx}
def pH:jH:=λds Q=>match ds with
 | [.int i]=>Q (.int (if i<0 then -i else i))
 | _=>False
def kR:jH:=λds Q=>match ds with
 | [.int i]=>Q (.int i)
 | [.bl b]=>Q (.int (if b then 1 else 0))
 | _=>False
theorem cC4:gP X (.type "int") kR:=gP.of Z1 λvs H Q zz=>by
 obtain⟨B,F,σ,δ,ts,ds,Qd,c,s,q,k⟩:=zz
 unfold kR at q
 split at q
 ·obtain⟨v,rfl,s1⟩:=mU s
  cases s1
  exact .inl ⟨_,rfl,k _ _ _ q (ag.refl _) (c.pushS (.int .nil) rfl)⟩
 ·obtain⟨v,rfl,s1⟩:=mU s
  cases s1
  exact .inr ⟨_,rfl,k _ _ _ q (ag.refl _) (c.pushS (.int .nil) rfl)⟩
 ·exact q.elim
end
end L3
namespace L3
open PySem L2 Mf
def bq(m:Bool × Nat)(a b:Nat):Nat:=(gl m a b).toNat
theorem kS{m:Bool × Nat}(hm:m∈aA){a b:Nat}(ha:a<aa m)(hb:b<aa m):gl m a b=(bq m a b:Nat)/\bq m a b<aa m/\gp m (bq m a b) b=a:=by
 obtain⟨r,e,h1,h2⟩:=cI7 hm ha hb
 have:bq m a b=r:=by unfold bq;rw[e];rfl
 rw[this]
 exact⟨e,h1,h2⟩
theorem HV{n:Nat}{f:Nat->Nat->Nat}:∀{a b:List Nat},(∀x∈a,∀y∈b,f x y<n)->AllLt n (eO f a b)
 | [],_,_=>by intro x hx;simp at hx
 | _::_,[],_=>by intro x hx;simp at hx
 | x::a,y::b,h=>by
  intro z hz
  rw[List.zipWith_cons_cons]at hz
  rcases cN.mp hz with rfl | hz
  ·exact h x (by simp) y (by simp)
  ·exact HV (λx hx y hy=>h x (by simp[hx]) y (by simp[hy])) z hz
theorem bR9(xs ys:List Nat):(gQ (ay xs) (ay ys)).map D.sh=(xs.zip ys).map λz=>D.tup [.int (z.1:Int),.int (z.2:Int)]:=by
 unfold ay
 rw[bY0,List.zip_map,bO];rfl
theorem Q0{sh:Bool}{aD:List (Str × Nat)}{n i1 i2:Nat}{te:aI}{aj:Dl}{Q:D->Dl->Prop}(f:Nat->Nat->Nat){A B:List Nat}(hx:∀x∈A,∀y∈B,fO i1 i2 (.tup [.int (x:Int),.int (y:Int)]) (dP aD n aj) λaY=>te aY λd _=>d=.int ((f x y:Nat):Int))
  (hl:A.length<=100000) (hq:Q (.lst true (ay (eO f A B))) aj):sE sh (gQ (ay A) (ay B)) aD n (fO i1 i2) gB te aj Q:=by
 refine bX0 (A.zip B) (λz=>D.tup [.int (z.1:Int),.int (z.2:Int)]) (λz=>D.int ((f z.1 z.2:Nat):Int)) (bR9 A B) (λa b h=>?_) (λz hz=>hx z.1 (Bp hz).1 z.2 (Bp hz).2) cc5 (.inr λ_ _=>rfl) (by rw[Nr,sL];omega) ?_
 ·injection h with h
  simp at h
  exact Prod.ext (by omega) (by omega)
 ·rw[show((A.zip B).map λz=>D.int ((f z.1 z.2:Nat):Int))=ay (eO f A B) by rw[dF,List.zip,E8,E8]]
  exact hq
end L3
namespace L3
open PySem L2 PySem.Spec PyProof.Rows
theorem ak.dg7{B:Bs}{F H:Hp}{σ:L2.St}{δ:Dl}{ps ts:List (D × V)}{p:Addr}{o:HO}{A1:List Addr}(c:ak B F H σ δ (ps++ts))(hp:H p=none)(r:R F (upd H p o) (ps.map (·.1)) (ps.map (·.2)) A1):p ∉ A1:=λh=>by
 obtain⟨A,C,r0,_,_,_⟩:=c.own
 rw[dw,dw]at r0
 obtain⟨v1,v2,B1,B2,e,rfl,h1,h2⟩:=R.split r0
 have l1:(ps.map (·.2)).length=v1.length:=by rw[<-h1.length];simp
 obtain⟨rfl,rfl⟩:=E1 e l1
 have g1:=h1.grow (ag.refl F) (ag.upd (o:=o) hp) λa ha=>(h1.lists a ha).2
 have:A1=B1:=R.inj r g1
 subst this
 obtain⟨ws,e⟩:=(h1.lists p h).1
 rw[hp]at e;cases e
theorem ak.join{B:Bs}{F H:Hp}{σ:L2.St}{δ:Dl}{ts:List (D × V)}{p p' r:Addr}{xs ys:List D}{ws gz:List V}(c:ak B F H σ δ ((.lst true ys,.ref p')::(.lst true xs,.ref p)::ts))(e1:H p=some (.lst ws))(e2:H p'=some (.lst gz))(hr:H r=none) :
  ak B F (upd H r (.lst (ws++gz))) σ δ ((.lst true (xs++ys),.ref r)::ts):=by
 refine ak.pack (ps:=[(.lst true ys,.ref p'),(.lst true xs,.ref p)]) c (ag.upd hr) λA1 r1 nd=>?_
 have nin:=ak.dg7 (ps:=[(.lst true ys,.ref p'),(.lst true xs,.ref p)]) (ts:=ts) c hr r1
 have n1:p≠r:=λz=>by rw[z,hr]at e1;cases e1
 have n2:p'≠r:=λz=>by rw[z,hr]at e2;cases e2
 have r1:R F (upd H r (.lst (ws++gz))) [.lst true ys,.lst true xs] [.ref p',.ref p] A1:=r1
 cases r1 with
 | @own _ wy _ Ay _ _ By hy fy ry rb =>
  cases rb with
  | @own _ wx _ Ax _ _ Bx hx fx rx rc =>
   cases rc
   rw[bc n2,e2]at hy;cases hy
   rw[bc n1,e1]at hx;cases hx
   refine⟨r::(Ax++Ay),by simpa using R.own bS (c.ext.free hr) (rx.append ry) .nil,?_,λa ha=>?_⟩
   ·refine nS.mpr ⟨λz=>nin ?_,?_⟩
    ·rcases bV.mp z with z | z<;>simp[z]
    ·have sl:(Ay++Ax).Sublist (p'::Ay++(p::Ax++[])):=by
      rw[fJ]
      exact(((Nt p Ax).append_left Ay).trans (Nt p' _))
     exact tM.nodup_iff.mp (nd.sublist sl)
   ·simp only[cN,bV]at ha ⊢
    rcases ha with rfl | ha | ha
    ·exact .inr hr
    ·simp[ha]
    ·simp[ha]
section
variable{X:Cx}{a b:Expr}{ta tb:aI}{pos:Pos}
def nB(ta tb:aI):aI:=λδ Q=>ta δ λx aj=>tb aj λy aY=>∃xs ys,x=.lst true xs/\y=.lst true ys/\xs.length+ys.length<=sizeLine/\Q (.lst true (xs++ys)) aY
theorem cC7(ha:PE X a (lE ta))(hb:PE X b (lE tb)):PE X (.BinOp a .Add b pos) (lE (nB ta tb)) :=
 dj (yM OF ha hb) λσ H Q ⟨B,F,δ,ts,Qd,c,q,k⟩ =>
  ⟨B,F,δ,ts,_,c,q,λx aj v F1 H1 q1 f1 h1 c1=>⟨B,F1,aj,(x,v)::ts,_,c1,q1,λy aY w F2 H2 q2 f2 h2 c2=>by
   obtain⟨xs,ys,rfl,rfl,hz,hq⟩:=q2
   obtain⟨p',gz,rfl,e2,s2⟩:=iJ c2.top c2.ext
   obtain⟨p,ws,rfl,e1,s1⟩:=iJ c2.pop.top c2.ext
   refine⟨p,p',ws,gz,rfl,rfl,e1,e2,by rw[<-s1.length,<- s2.length];exact hz,λr hr=>?_⟩
   exact k _ aY _ F2 _ hq (f1.trans f2) ((h1.trans h2).trans (ag.upd hr)) (c2.join e1 e2 hr)⟩⟩
end
theorem bU8{a b:List Nat}(h:ay a=ay b):a=b:=by
 have:=xK true true a b
 rw[h,show bP (D.lst true (ay b)) (D.lst true (ay b))=true from(xK _ _ _ _).trans (decide_eq_true rfl)]at this
 exact of_decide_eq_true this.symm
theorem ur{o:Bool}(a b:List Nat)(h:D.lst o (ay a)=D.lst o (ay b)):a=b:=bU8 (by injection h)
end L3
namespace L3
open PySem L2 Mf
theorem Q1{m:Bool × Nat}(hm:m∈aA)(k:Int):∀n:Nat,px m (eS m k) n=eS m (k*n)
 | 0=>by
  show 1=eS m (k*((0:Nat):Int))
  rw[show k*((0:Nat):Int)=0 by omega,cx8 hm]
 | n+1=>by
  show gm m (px m (eS m k) n) (eS m k)=_
  rw[Q1 hm k n,HU hm,uT,wF]
  congr 1
  omega
end L3
namespace L2
open PySem PySem.Spec PyProof.Rows
end L2
namespace L3
open PySem L2 PySem.Spec PyProof.Rows Mf
end L3
namespace L3
open PySem L2 Mf
def cf(l:List Nat)(k:Nat):Nat:=l.getD k 0
theorem sT{l:List Nat}{k:Nat}(h:l.length<=k):cf l k=0:=by
 unfold cf;rw[aF,gx h];rfl
theorem cF{m:Bool × Nat}(hm:m∈aA){l:List Nat}(h:AllLt (aa m) l)(k:Nat):cf l k<aa m:=h.getD (by have:=(cT hm).lo;omega) k
theorem ct4(a:Nat)(l:List Nat)(k:Nat):cf (a::l) (k+1)=cf l k:=rfl
theorem CY(m:Bool × Nat)(x:Nat):bq m x x=0:=by
 obtain⟨k,n⟩:=m
 cases k with
 | true=>show(((x ^^^ x:Nat):Int)).toNat=0;rw[Bw];rfl
 | false=>show(((x:Int)-(x:Int))%(n:Int)).toNat=0;rw[Int.sub_self,Int.zero_emod];rfl
end L3
namespace L3
open PySem L2 PySem.Spec PyProof.Rows
section
variable{B:Bs}{F H:Hp}{σ:L2.St}{δ:Dl}{ts ps:List (D × V)}{i k:Nat}{p q:Addr}{l1 l2 ys O8:List D}{ws vw:List V}
end
section
variable{X:Cx}{F H:Hp}{e b:Expr}{pos p p2 p3 pr apos bJ Hb:Pos}{t ti te:aI}{x y:Str}{i j:Nat}
end
end L3
namespace L3
structure Rg(N:Nat)(p q:Nat->Nat->Nat):Prop where
 pc:∀a b,p a b=p b a
 pa:∀a b c,p (p a b) c=p a (p b c)
 mc:∀a b,q a b=q b a
 ma:∀{a b c},a<N->b<N->c<N->q (q a b) c=q a (q b c)
 dl:∀a b c,q a (p b c)=p (q a b) (q a c)
 z:∀{a},a<N->p 0 a=a
 qz:∀a,q a 0=0
 one:∀{a},a<N->q 1 a=a
 lp:∀{a b},a<N->b<N->p a b<N
 lq:∀a b,q a b<N
 ng:∀{a},a<N->∃b,b<N/\p a b=0
section
variable{N:Nat}{p q:Nat->Nat->Nat}
def sm(p:Nat->Nat->Nat):Nat->(Nat->Nat)->Nat
 | 0,_=>0
 | n+1,f=>p (sm p n f) (f n)
theorem Rg.pos(r:Rg N p q):0<N:=iU (jl _) (r.lq 0 0)
theorem Rg.z'(r:Rg N p q){a:Nat}(h:a<N):p a 0=a:=by rw[r.pc];exact r.z h
theorem Rg.Q2(r:Rg N p q){a b c:Nat}(ha:a<N)(hb:b<N)(hc:c<N)(h:p a c=p b c):a=b:=by
 obtain⟨d,_,e⟩:=r.ng hc
 have:=congrArg (λx=>p x d) h
 simp only[r.pa,e]at this
 rw[r.z' ha,r.z' hb]at this
 exact this
theorem Rg.cn(r:Rg N p q){a b:Nat}(ha:a<N)(hb:b<N)(h:p a b=b):a=0:=r.Q2 ha r.pos hb (by rw[h,r.z hb])
theorem cu{f g:Nat->Nat}:∀{n:Nat},(∀j,j<n->f j=g j)->sm p n f=sm p n g
 | 0,_=>rfl
 | n+1,h=>by rw[sm,sm,cu λj hj=>h j (by omega),h n (by omega)]
theorem qv(r:Rg N p q){f:Nat->Nat}:∀{n:Nat},(∀j,j<n->f j<N)->sm p n f<N
 | 0,_=>r.pos
 | n+1,h=>r.lp (qv r λj hj=>h j (by omega)) (h n (by omega))
theorem fE(r:Rg N p q){f:Nat->Nat}:∀{n:Nat},(∀j,j<n->f j=0)->sm p n f=0
 | 0,_=>rfl
 | n+1,h=>by rw[sm,fE r λj hj=>h j (by omega),h n (by omega)];exact r.z r.pos
theorem Rg.four(r:Rg N p q)(a b c d:Nat):p (p a b) (p c d)=p (p a c) (p b d):=by
 rw[r.pa,r.pa,<- r.pa b,<- r.pa c,r.pc b c]
theorem qw(r:Rg N p q)(f g:Nat->Nat):∀n,sm p n (λj=>p (f j) (g j))=p (sm p n f) (sm p n g)
 | 0=>(r.z r.pos).symm
 | n+1=>by rw[sm,qw r f g n,sm,sm,r.four]
theorem sU(r:Rg N p q)(c:Nat)(f:Nat->Nat):∀n,sm p n (λj=>q c (f j))=q c (sm p n f)
 | 0=>(r.qz c).symm
 | n+1=>by rw[sm,sU r c f n,sm,r.dl]
theorem Q3(r:Rg N p q)(F:Nat->Nat->Nat)(k:Nat):∀n,sm p n (λi=>sm p k λj=>F i j)=sm p k λj=>sm p n λi=>F i j
 | 0=>(fE r λ_ _=>rfl).symm
 | n+1=>by
  rw[sm,Q3 r F k n,<- qw r];rfl
theorem HW(r:Rg N p q){f:Nat->Nat}(n:Nat):∀k,(∀j,j<n+k->f j<N)->sm p (n+k) f=p (sm p n f) (sm p k λj=>f (n+j))
 | 0,h=>(r.z' (qv r λj hj=>h j (by omega))).symm
 | k+1,h=>by
  rw[<-Ng,sm,HW r n k λj hj=>h j (by omega),sm,r.pa]
theorem ce5(r:Rg N p q){f:Nat->Nat}(n:Nat)(h:∀j,j<n+1->f j<N):sm p (n+1) f=p (f 0) (sm p n λj=>f (j+1)):=by
 rw[yo n 1,HW r 1 n λj hj=>h j (by omega)]
 show p (p 0 (f 0)) _=_
 rw[r.z (h 0 (by omega))]
 congr 1
 exact cu λj _=>by rw[yo]
end
section
variable{N:Nat}{p q:Nat->Nat->Nat}
end
end L3
namespace L3
open PySem L2 Mf
theorem rg{m:Bool × Nat}(hm:m∈aA):Rg (aa m) (gp m) (gm m) where
 pc:=rA m
 pa:=HP m
 mc:=fS m
 ma:=λ_ _ _=>iP (cq m hm) _ _ _
 dl:=λa b c=>z9 (cq m hm) b c a
 z:=Aa
 qz:=λa=>ig m a (cq m hm)
 one:=sR
 lp:=HR hm
 lq:=bX hm
 ng:=λ{a} ha=>by
  have g:=kS hm (a:=0) (b:=a) (by omega) ha
  exact⟨_,g.2.1,(rA m _ _).trans g.2.2⟩
theorem cg0(p:Nat->Nat->Nat)(l:List Nat):l.foldl p 0=sm p l.length λj=>l.getD j 0:=by
 have key:∀n,n<=l.length->(l.take n).foldl p 0=sm p n λj=>l.getD j 0:=by
  intro n
  induction n with
  | zero=>intro _;rfl
  | succ n ih =>
   intro h
   rw[rQ,aJ (by omega),Fg,ih (by omega),sm,aF,aJ (show n<l.length by omega)]
   rfl
 have:=key l.length (bG _)
 rw[uS]at this
 exact this
theorem cx3{m:Bool × Nat}(hm:m∈aA)(f:Nat)(b:List Nat)(j:Nat):cf (b.map (gm m f)) j=gm m f (cf b j):=by
 unfold cf
 rw[aF,bN,aF]
 cases b[j]? with
 | none=>exact(ig m f (cq m hm)).symm
 | some x=>rfl
theorem Q4{m:Bool × Nat}(hm:m∈aA){a b:Nat}(ha:a<aa m)(hb:b<aa m)(h0:b≠0):∃r,r<aa m/\gm m r b=a:=by
 by_cases a0:a=0
 ·exact⟨0,by have:=(cT hm).lo;omega,by rw[a0];exact fC m b (cq m hm)⟩
 ·obtain⟨r,_,h1,h2⟩:=QS hm (show 1<=a by omega) ha (show 1<=b by omega) hb
  exact⟨r,h1,h2⟩
end L3
namespace L3
open PySem L2 PySem.Spec PyProof.Rows
section
variable{X:Cx}{i j:Nat}{x y:Str}{p pos pos' apos bJ:Pos}
end
section
variable{X:Cx}{e:Expr}{t:aI}{p pos:Pos}
end
section
variable{X:Cx}
theorem cg1(i:Int)(ns:List Int):Ca (.int i) (ns.map V.int)=decide (i∈ns):=by
 unfold Ca
 rw[List.any_map,tL,M9,decide_eq_true_iff]
 exact⟨λ⟨x,hx,he⟩=>(show x=i by simpa[qX]using he) ▸ hx,λhx=>⟨i,hx,by simp[qX]⟩⟩
def kT:cS:=λx y Q=>match x,y with
 | .int i,.lst _ xs=>∃ns:List Int,xs=ax ns/\Q (.bl (!decide (i∈ns)))
 | _,_=>False
theorem cA8:bW X (compareOp .NotIn) kT :=
 ⟨_,bF0,λ{B F H σ δ ts x y v w Q Qd} c sx sy h k=>by
  unfold kT at h
  split at h
  ·rename_i i o xs
   obtain⟨ns,rfl,q⟩:=h
   obtain⟨p,ws,rfl,e1,s1⟩:=iJ sy c.ext
   have e:=CA s1
   subst e
   cases sx
   refine⟨p,_,rfl,.inl (bI.of e1),rfl,by simp[sj],?_⟩
   rw[if_pos rfl,cg1]
   exact k _ _ _ q (ag.refl _) (c.pushS (.bl .nil) rfl)
  ·exact h.elim⟩
end
end L3
namespace L3
open PySem L2 Mf
def aE(o:Bool)(T:List (List Nat)):List D:=T.map λr=>.lst o (ay r)
theorem gu(o:Bool)(T:List (List Nat)):(aE o T).length=T.length:=by unfold aE;rw[aR]
theorem cY(o:Bool)(T:List (List Nat)):(aE o T).map D.sh=aE false T:=by
 unfold aE
 rw[bO]
 exact jq λr _=>CW o r
theorem jh(T:List (List Nat)):(aE false T).all D.pl=true:=by
 unfold aE
 rw[tN,bZ]
 intro r _
 show(D.lst false (ay r)).pl=true
 rw[eR,je];rfl
theorem vJ(T:List (List Nat)):(aE true T).all D.fr=true:=by
 unfold aE
 rw[tN,bZ]
 intro r _
 exact jK r
theorem vK(o:Bool)(S T:List (List Nat)):aE o S++aE o T=aE o (S++T):=by unfold aE;rw[dw]
theorem pI(o:Bool)(T:List (List Nat))(lo hi:Option Int):gr (aE o T) lo hi=aE o (gr T lo hi):=by
 unfold aE gr
 rw[aR,Nj,Ni]
theorem Ac(o:Bool){T:List (List Nat)}{i:Nat}(h:i<T.length):eD (aE o T) (i:Int)=some (.lst o (ay T[i])):=by
 refine L3.Ho ?_
 unfold aE
 rw[bN,aJ h];rfl
theorem bU4(n:Nat)(o:Bool)(T:List (List Nat)):(aE o T).all (dR (n+1))=true:=by
 unfold aE
 rw[tN,bZ]
 intro r _
 exact Ab _ _ _
theorem Q5(n:Nat)(o o':Bool)(T:List (List Nat)):dR (n+2) (.lst o (aE o' T))=true:=bU4 n o' T
theorem Q6(o o':Bool):∀(a b:List (List Nat)),bP.gC (aE o a) (aE o' b)=decide (a=b)
 | [],[]=>rfl
 | [],_::_=>by simp[aE,bP.gC]
 | _::_,[]=>by simp[aE,bP.gC]
 | x::xs,y::ys=>by
  show(bP (.lst o (ay x)) (.lst o' (ay y))&&bP.gC (aE o xs) (aE o' ys))=_
  rw[Q6 o o' xs ys,xK,tL];simp
theorem cl3(o o' o1 o2:Bool)(a b:List (List Nat)):bP (.lst o (aE o1 a)) (.lst o' (aE o2 b))=decide (a=b):=Q6 o1 o2 a b
open Classical in
theorem HX{α:Type}{sh:Bool}{xs:List D}{aD:List (Str × Nat)}{n:Nat}{g0:i8}{tt:gn}{te:aI}{aj:Dl}{Q:D->Dl->Prop}(l:List α)(e g:α->D)(kp:α->Bool)(kJ:xs.map D.sh=l.map e)(inj:∀a b,e a=e b->a=b)
  (hx:∀a∈l,g0 (e a) (dP aD n aj) λaY=>tt aY λb gM=>b=kp a/\(kp a=true->te gM λd _=>d=g a)) (fM:(sh&&aD.all (gq aj))=true\/∀a∈l,kp a=true->(g a).fr=true) (hl:l.length<=sizeLine) (hq:Q (.lst true ((l.filter kp).map g)) aj):sE sh xs aD n g0 tt te aj Q:=by
 have pick:∀{β:Type} (h:α->β) (z:β),∃f:D->β,∀a∈l,f (e a)=h a:=λh z=>⟨λx=>if w:∃a∈l,e a=x then h w.choose else z,λa ha=>by
  have w:∃b∈l,e b=e a:=⟨a,ha,rfl⟩
  show(if w:∃b∈l,e b=e a then h w.choose else z)=h a
  rw[dif_pos w]
  exact congrArg h (inj _ _ w.choose_spec.2)⟩
 obtain⟨f,hf⟩:=pick g .aq
 obtain⟨p,hp⟩:=pick kp false
 refine⟨p,f,λx h=>?_,fM.imp id λh x dW=>?_,?_,?_⟩
 ·rw[kJ]at h
  obtain⟨a,ha,rfl⟩:=aT.mp h
  rw[hp a ha,hf a ha]
  exact hx a ha
 ·rw[kJ]at dW
  obtain⟨a,ha,rfl⟩:=aT.mp dW
  rw[hp a ha,hf a ha];exact h a ha
 ·have:=congrArg Bq kJ
  simp at this
  omega
 ·rw[kJ,List.filter_map,bO,show l.filter (p ∘ e)=l.filter kp from List.filter_congr λa ha=>hp a ha,show(l.filter kp).map (f ∘ e)=(l.filter kp).map g from jq λa ha=>hf a (tG.mp ha).1]
  exact hq
theorem HY{o:Bool}{G:List (List Nat)}{i:Nat}{d:D}(h:(iM (aE o G))[i]?=some d):∃hi:i<G.length,d=.tup [.int i,.lst o (ay G[i])]:=by
 unfold iM aE at h
 rw[E9,bN]at h
 by_cases hi:i<G.length
 ·rw[aJ hi]at h
  exact⟨hi,(de h).symm⟩
 ·rw[gx (by omega)]at h;cases h
theorem Q7(r:List Nat):(iM (ay r)).map D.sh=(aw r.length).map λ(i:Nat)=>D.tup [.int (i:Int),.int ((r.getD i 0:Nat):Int)]:=by
 apply E5
 intro i
 unfold iM
 rw[dF,bN,E9,bN,bN]
 by_cases hi:i<r.length
 ·have e:r.getD i 0=r[i]:=by rw[aF,aJ hi];rfl
  rw[aJ hi,gI hi]
  show _=some (D.tup [D.int (i:Int),D.int ((r.getD i 0:Nat):Int)])
  rw[e];rfl
 ·rw[gx (show r.length<=i by omega),gx (show(aw r.length).length<=i by simpa using hi)];rfl
theorem Q8{r:List Nat}(h:∃x∈r,x≠0):((aw r.length).filter λi=>r.getD i 0 != 0)[0]?=some (r.findIdx (· != 0)):=by
 obtain⟨x,hx,h0⟩:=h
 have hl:r.findIdx (· != 0)<r.length:=Nu ⟨x,hx,by simpa using h0⟩
 rw[<-List.head?_eq_getElem?,List.head?_filter,List.find?_range_eq_some]
 refine⟨?_,bw.mpr hl,λj hj=>?_⟩
 ·rw[aF,aJ hl]
  exact Ya (w:=hl)
 ·have:=List.not_of_lt_findIdx hj
  rw[aF,aJ (by omega)]
  simpa using this
def af(T:List (List Nat)):Nat:=(T.headD []).length
def nC(T:List (List Nat))(j:Nat):Option Nat:=T.findIdx? λr=>r.getD j 0 != 0
def ij(m:Bool × Nat)(T:List (List Nat))(l:List Nat)(j:Nat):List (List Nat):=T.map λr=>eO (λx y=>bq m x (gm m (r.getD j 0) y)) r l
def rC(m:Bool × Nat)(b:Nat):Nat:=((aw (aa m)).find? λr=>gm m r b==1).getD 0
theorem CZ{m:Bool × Nat}(hm:m∈aA){b r:Nat}(hr:r<aa m)(h:gm m r b=1):rC m b=r:=by
 have m0:=cq m hm
 unfold rC
 cases e:(aw (aa m)).find? λr=>gm m r b==1 with
 | none =>
  have:=Nv.mp e r (bw.mpr hr)
  simp[h]at this
 | some r' =>
  have h':gm m r' b=1:=by simpa using List.find?_some e
  have l':r'<aa m:=bw.mp (Nh e)
  show r'=r
  rw[<-qp hr,<- h',<- iP m0,fS m r r',iP m0,h,qp l']
def RT(N w:Nat)(T:List (List Nat)):Prop:=∀r∈T,r.length=w/\AllLt N r
theorem RT.app{N w:Nat}{S T:List (List Nat)}(a:RT N w S)(b:RT N w T):RT N w (S++T):=λr hr=>(bV.mp hr).elim (a r) (b r)
theorem Q9{m:Bool × Nat}(hm:m∈aA){w j:Nat}{T:List (List Nat)}{l:List Nat}(h:RT (aa m) w T)(hl:l.length=w):RT (aa m) w (ij m T l j):=λr hr=>by
 obtain⟨r,h1,rfl⟩:=aT.mp hr
 obtain⟨a,b⟩:=h r h1
 exact⟨by rw[qO,a,hl,wz],HV λx hx y hy=>(kS hm (b x hx) (bX hm _ y)).2.1⟩
def eJ(m:Bool × Nat)(T:List (List Nat))(i p:Nat):List Nat:=(T.getD i []).map (gm m (rC m ((T.getD i []).getD p 0)))
def ji(m:Bool × Nat)(s:List (List Nat) × List (List Nat))(p:Nat):List (List Nat) × List (List Nat):=match nC s.2 p with
 | none=>s
 | some i=>(ij m s.1 (eJ m s.2 i p) p++[eJ m s.2 i p],ij m (s.2.take i++s.2.drop (i+1)) (eJ m s.2 i p) p)
def nD(m:Bool × Nat)(G:List (List Nat))(k:Nat):List (List Nat) × List (List Nat):=(aw k).foldl (ji m) ([],G)
def bL(m:Bool × Nat)(G:List (List Nat)):List (List Nat):=(nD m G (af G)).1
theorem HZ(m:Bool × Nat)(G:List (List Nat))(k:Nat):nD m G (k+1)=ji m (nD m G k) k:=by
 unfold nD
 rw[pS,Fg];rfl
theorem C2{T:List (List Nat)}{j i:Nat}(h:nC T j=some i):∃hi:i<T.length,T[i].getD j 0≠0/\T.getD i []=T[i]:=by
 obtain⟨hi,h1,_⟩:=Yb.mp h
 exact⟨hi,by simpa using h1,by rw[aF,aJ hi];rfl⟩
structure Ad(N w n:Nat)(s:List (List Nat) × List (List Nat)):Prop where
 a:RT N w s.1
 b:RT N w s.2
 l:s.1.length+s.2.length<=n
theorem b88{m:Bool × Nat}(hm:m∈aA){w n p:Nat}{s:List (List Nat) × List (List Nat)}(h:Ad (aa m) w n s):Ad (aa m) w n (ji m s p):=by
 unfold ji
 split
 ·exact h
 ·rename_i i e
  obtain⟨hi,h1,h2⟩:=C2 e
  have hl:(eJ m s.2 i p).length=w:=by unfold eJ;rw[aR,h2];exact(h.b _ (eN hi)).1
  have hr:RT (aa m) w [eJ m s.2 i p]:=λr hr=>by
   rw[dh]at hr
   refine⟨by rw[hr];exact hl,λx hx=>?_⟩
   rw[hr]at hx
   obtain⟨y,_,rfl⟩:=aT.mp hx
   exact bX hm _ _
  refine⟨(Q9 hm h.a hl).app hr,Q9 hm (λr hr=>h.b r ?_) hl,?_⟩
  ·rcases bV.mp hr with hr | hr
   ·exact wA hr
   ·exact rS hr
  ·have:=h.l
   unfold ij
   rw[df,aR,aR,df,jm,jT]
   show s.1.length+1+_<=n
   omega
theorem C5{m:Bool × Nat}(hm:m∈aA){w:Nat}{G:List (List Nat)}(h:RT (aa m) w G):∀k,Ad (aa m) w G.length (nD m G k)
 | 0=>⟨(λr hr=>nomatch hr),h,tJ (Ff _)⟩
 | k+1=>by rw[HZ];exact b88 hm (C5 hm h k)
theorem cc2(j:Nat)(l:List Nat):decide ((j:Int)∈l.map λ(n:Nat)=>(n:Int))=l.contains j:=by
 rw[tL,decide_eq_true_iff,uU,aT]
 exact⟨λ⟨a,h,e⟩=>(show a=j by omega) ▸ h,λh=>⟨j,h,rfl⟩⟩
theorem ct5{o:Bool}{G:List (List Nat)}{f:List Nat->Nat}{k:Nat}{d:D}(h:(gQ (ay (G.map f)) (aE o G))[k]?=some d):∃hk:k<G.length,d=.tup [.int ((f G[k]:Nat):Int),.lst o (ay G[k])]:=by
 unfold gQ aE at h
 rw[dF,BC,bN,bN,bN]at h
 by_cases hk:k<G.length
 ·rw[aJ hk]at h
  exact⟨hk,(de h).symm⟩
 ·rw[gx (by omega)]at h;cases h
theorem Ra{α:Type}(a:α->Nat)(b:α->Nat):∀(l:List α) (x:List Nat),(l.foldl (λx z=>x.set (a z) (b z)) x).length=x.length
 | [],_=>rfl
 | z::l,x=>by rw[uP,Ra a b l,uN]
end L3
namespace L2
open PySem PySem.Spec PyProof.Rows
theorem bO6{M:Model}{A:Around}{E:Value->Shared->Prop}{s:Shared}{scope:Scope}{globals:Addr}{cl:List (Str × Addr)}{qual:Str}{env:Env}{bi:Addr}{Q:Env->Shared->Prop}
  (hQ:Q (newEnv scope s.heap.objs.size globals (cellsFrom (s.heap.objs.size+1) scope.names cl) qual none .none (some env) bi) { s with heap:=pushCells (s.heap.push { cls:=.type "dict",data:=.dict #[] }) scope.names }) :
  wpAny M A (newFunctionEnv scope globals cl [] qual none .none (some env) bi) Q E s:=by
 simp only[newFunctionEnv,Option.isSome_some,if_true]
 refine wpAny_bind (wpAny_alloc (wpAny_bind (wpAny_layCells _ (λname kind cells=>by cases e:kind==Fh<;>simp[e]) _ _ _ _ ?_)))
 rw[List.forIn_nil]
 refine wpAny_bind (wpAny_pure (wpAny_pure ?_))
 have z:({ s with heap:=s.heap.push { cls:=.type "dict",data:=.dict #[] } }:Shared).heap.objs.size=s.heap.objs.size+1:=wj ..
 rw[z]
 exact hQ
theorem Ae:∀(ns:List (Str × NameKind)) (n:Nat) (acc:List (Str × Addr)) (y:Str) (c:Addr),(cellsFrom n ns acc).lookup y=some c->(n<=c/\(y,Fh)∈ns)\/acc.lookup y=some c
 | [],_,_,_,_,h=>.inr h
 | (z,k)::r,n,acc,y,c,h=>by
  unfold cellsFrom at h
  split at h
  ·rename_i hk
   rcases Ae r (n+1) _ y c h with⟨h1,h2⟩ | h1
   ·exact .inl ⟨by omega,fH _ h2⟩
   ·rw[gw]at h1
    cases q:y==z with
    | true =>
     rw[q]at h1;cases h1
     exact .inl ⟨bG _,by rw[eq_of_beq q,eq_of_beq hk];exact ir⟩
    | false=>rw[q]at h1;exact .inr h1
  ·rcases Ae r n acc y c h with⟨h1,h2⟩ | h1
   ·exact .inl ⟨h1,fH _ h2⟩
   ·exact .inr h1
theorem Ia:∀(ns:List (Str × NameKind)) (n:Nat) (acc:List (Str × Addr)),(∀y z c,acc.lookup y=some c->acc.lookup z=some c->y=z)->(∀y c,acc.lookup y=some c->c<n) ->
  ∀y z c,(cellsFrom n ns acc).lookup y=some c->(cellsFrom n ns acc).lookup z=some c->y=z
 | [],_,_,i,_,y,z,c,h1,h2=>i y z c h1 h2
 | (u,k)::r,n,acc,i,b,y,z,c,h1,h2=>by
  unfold cellsFrom at h1 h2
  split at h1
  ·rw[if_pos (by assumption)]at h2
   refine Ia r (n+1) ((u,n)::acc) (λy z c e1 e2=>?_) (λy c e=>?_) y z c h1 h2
   ·rw[gw]at e1 e2
    cases q1:y==u with
    | true =>
     rw[q1]at e1;cases e1
     cases q2:z==u with
     | true=>rw[eq_of_beq q1,eq_of_beq q2]
     | false=>rw[q2]at e2;exact absurd (b _ _ e2) (iq _)
    | false =>
     rw[q1]at e1
     cases q2:z==u with
     | true=>rw[q2]at e2;cases e2;exact absurd (b _ _ e1) (iq _)
     | false=>rw[q2]at e2;exact i y z c e1 e2
   ·rw[gw]at e
    cases q:y==u with
    | true=>rw[q]at e;cases e;exact Bo _
    | false=>rw[q]at e;exact E7 (b _ _ e)
  ·rw[if_neg (by assumption)]at h2
   exact Ia r n acc i b y z c h1 h2
theorem Ib:∀(ns:List (Str × NameKind)) (n:Nat) (acc:List (Str × Addr)) (y:Str) (c:Addr),(y,Fh)∈ns->(cellsFrom n ns acc).lookup y=some c->n<=c
 | [],_,_,_,_,m,_=>nomatch m
 | (z,k)::r,n,acc,y,c,m,h=>by
  unfold cellsFrom at h
  split at h
  ·rename_i hk
   rcases cN.mp m with e | m
   ·have e1:y=z:=(Prod.mk.inj e).1
    rcases Ae r (n+1) _ y c h with⟨h1,_⟩ | h1
    ·exact BD h1
    ·rw[gw,e1,beq_self_eq_true]at h1
     exact tJ (de h1)
   ·exact BD (Ib r (n+1) _ y c m h)
  ·rename_i hk
   rcases cN.mp m with e | m
   ·cases e;exact absurd rfl hk
   ·exact Ib r n acc y c m h
def dJ(X:Cx)(scope:Scope)(N:List Str)(cl:List (Str × Addr))(C:Addr)(s:Shared)(H:Hp)(fp:List Addr):Cx :=
 { Ce X scope N (cellsFrom (C+1) scope.names cl) C s H fp with fn:=λy=>scope.names.contains (y,Fh) }
section
variable{X:Cx}{scope:Scope}{cl:List (Str × Addr)}
theorem b95{pins:List (Addr × Obj)}{σ:St}{H:Hp}{s:Shared}{fp:List Addr}{C:Addr}(I:Inv X pins σ H s)(iY:scope.kind=.function)(hC:s.heap.objs.size<=C)
  (iN:∀y c,cl.lookup y=some c->X.env.cells.lookup y=some c) (di4:∀y,((relabel scope X.env).names.lookup y=some .cell\/(relabel scope X.env).names.lookup y=some .free)->∃c,(cellsFrom (C+1) scope.names cl).lookup y=some c)
  (hf:∀b∈fp,j6 X pins H b) (ho:∀b∈fp,∃o,s.heap.get? b=some o/\∀v,o.data≠.cell v) (N:List Str):(dJ X scope N cl C s H fp).Ok where
 mod:=I.ok.mod
 kind:=iY
 glob:=I.ok.glob
 blt:=I.ok.blt
 above:=hC
 inj:=Ia scope.names (C+1) cl (λy z c h1 h2=>I.ok.inj y z c (iN _ _ h1) (iN _ _ h2)) λy c e=>by
  obtain⟨v,o,ho,_⟩:=I.cell y c (iN y c e)
  exact Nat.lt_succ_of_le (Bk (dd (cg ho) hC))
 has:=di4
 u3:=λy c h e=>cQ hC (BD (Ib _ _ _ y c (uU.mp h) e))
 hd:=I.ok.hd
 frames:=I.ok.frames
 yB:=.inl rfl
 yC:=λb hb=>⟨by
  obtain⟨o,e,_⟩:=ho b hb
  exact gb (dd (cg e) hC),λy c e z=>by
  rcases Ae _ _ _ y c e with⟨h1,_⟩ | h1
  ·obtain⟨o,e,_⟩:=ho b hb
   rw[z]at h1
   exact absurd (dd (cg e) (cQ hC (BD h1))) (iq _)
  ·exact(hf b hb).2.2.2.2.1 y c (iN _ _ h1) z⟩
 bs:=I.bs
 og:=cQ I.ok.og I.sz
 wK:=λb o e hb=>by
  rcases(hf b hb).2.2.2.1 with z | z
  ·exact I.ok.wK b o e z
  ·exact absurd (dd (cg (I.ok.bs b o e).1) z) (iq _)
 wL:=λb hb z=>(cN.mp (I.BO b z)).elim (hf b hb).2.1 (hf b hb).2.2.1
 iB:=I.stack
 oh:=I.NT
end
theorem Ic:∀(ns:List (Str × NameKind)) (h:Heap) (acc:List (Str × Addr)) (y:Str) (c:Addr),(cellsFrom h.objs.size ns acc).lookup y=some c->(∃o,(pushCells h ns).get? c=some o/\o.data=.cell none)\/acc.lookup y=some c
 | [],_,_,_,_,e=>.inr e
 | (z,k)::r,h,acc,y,c,e=>by
  unfold cellsFrom at e
  unfold pushCells
  split at e
  ·rename_i hk
   rw[if_pos hk]
   rw[<-wj h { cls:=.type "cell",data:=.cell none }]at e
   rcases Ic r _ _ y c e with h1 | h1
   ·exact .inl h1
   ·rw[gw]at h1
    cases q:y==z with
    | true =>
     rw[q]at h1;cases h1
     exact .inl ⟨_,pushCells_keeps _ _ _ _ (iw _ rfl),rfl⟩
    | false=>rw[q]at h1;exact .inr h1
  ·rename_i hk
   rw[if_neg hk]
   exact Ic r h acc y c e
section
variable{X:Cx}{elt iter tg:Expr}{pos:Pos}{ifs:List Expr}{scope:Scope}{cl:List (Str × Addr)}{wi:TI}{tt:TT}{te:TE}{g:TG}
theorem Rb(aD:List (Str × Nat))(bM:List Str)(hc:X.calm=true)(hi:PI X tg iter wi)
  (hg:∀C s H fp,PG (dJ X scope (aD.map (·.1)++bM) cl C s H fp) tg g)
  (ht:∀C s H fp,qZ (dJ X scope (aD.map (·.1)++bM) cl C s H fp) ifs tt) (he:∀C s H fp,PE (dJ X scope (aD.map (·.1)++bM) cl C s H fp) elt te)
  (qy:closureFor scope X.env=pure cl) (qA:q0 X cl) (qB:∀C:Addr,q8 (cellsFrom (C+1) scope.names cl) (relabel scope X.env).names) (qC:∀C:Addr,qY X scope (cellsFrom (C+1) scope.names cl) aD)
  (iY:scope.kind=.function) (qD:∀y∈scope.names,y.2=.local->scope.names.lookup y.1=some .local)
  (hs:∀x,foldedSetIterable iter X.env x=pure x:=by intro _;rfl) {pins:List (Addr × Obj)} {s:Shared} {σ:L2.St} {H:Hp} {Q:VK} {use:Option (Value->Sem Unit)} {bJ:Pos} {Rf:Value->Shared->Prop} (I:Inv X pins σ H s) (h:Cf wi aD bM.length g tt te σ H Q)
  (di5:∀(s':Shared) (H':Hp) (C Da:Addr) (m:Str->Option Value),Inv X pins σ H' s'->s'.heap.Ns C m->H' C=none->C≠X.env.locals->X.eQ.heap.objs.size<=C->(∀x c,X.env.cells.lookup x=some c->c≠C)->(∀p∈X.pn++pins,p.1≠C)->C ∉ X.fs->Q (.ref Da) H' ->
   compPost (model X.prog X.w) X.A X.xe use Rf (.ref Da) C (.ok .next) s') :
  wpAny (model X.prog X.w) X.A (comprehension (.ListComp elt [⟨tg,iter,ifs,0⟩] scope pos) scope X.env bJ (newList []) false (eval iter X.env) use) Rf X.xe s:=by
 have iN:=qA.all
 refine wpAny_comprehension_free (use:=use) rfl hs qy iY qD (aN (hi pins s σ H _ I h) λv s1 h1=>aN h1 λFF s2 h2=>?_)
 obtain⟨it,fp,tn,J,H2,e,I2,T,yJ,f2,q⟩:=h2
 subst e
 refine wpAny_newList ?_
 refine bO6 ?_
 have hD:H2 s2.heap.objs.size=none:=I2.aK.fresh (bG _)
 obtain⟨W,⟨m0,w0⟩,turn⟩:=q s2.heap.objs.size hD
 generalize Ie:s2.heap.push { cls:=.type "list",data:=.seq ([]:List Value).toArray }=g0 at ⊢
 have hCs:g0.objs.size=s2.heap.objs.size+1:=by rw[<-Ie,wj]
 have hDC:s2.heap.objs.size≠g0.objs.size:=by omega
 have hle:s2.heap.objs.size<=g0.objs.size:=by omega
 have wM:∀b o,s2.heap.get? b=some o->b≠g0.objs.size:=λb o e=>gb (dd (cg e) hle)
 obtain⟨g1,C6⟩:∃g1,g1=pushCells (g0.push { cls:=.type "dict",data:=.dict #[] }) scope.names:=⟨_,rfl⟩
 have ns1:g1.Ns g0.objs.size (λ_=>none):=by rw[C6];exact(Heap.Ns.new g0 (.type "dict")).keeps (pushCells_keeps _ _)
 have Rc:∀b o,g0.get? b=some o->g1.get? b=some o:=λb o e=>by rw[C6];exact pushCells_keeps _ _ b o (gh _ e)
 have old:∀b o,s2.heap.get? b=some o->g1.get? b=some o:=λb o e=>Rc b o (Ie ▸ gh _ e)
 rw[<-C6]
 have hDg:g1.get? s2.heap.objs.size=some { cls:=.type "list",data:=.seq ([]:List Value).toArray }:=Rc _ _ (Ie ▸ iw _ rfl)
 have Rh:∀b∈fp,∃o,s2.heap.get? b=some o/\∀v,o.data≠.cell v:=T.obj _ _ yJ
 have C7:=b95 (scope:=scope) (cl:=cl) (C:=g0.objs.size) I2 iY hle iN (qB g0.objs.size).all f2 Rh (aD.map (·.1)++bM)
 have I4:Inv (dJ X scope (aD.map (·.1)++bM) cl g0.objs.size s2 H2 fp) [] (iZ aD bM.length σ) (upd H2 s2.heap.objs.size (.lst [])) { s2 with heap:=g1 }:=by
  refine⟨C7,rfl,I2.bare,Un.laid old (bG _) hD,⟨_,ns1,λi y v h1 h2 h3=>?_⟩,λy c e=>?_,?_,λy c e=>?_,λp hp=>absurd hp (by simp[dJ,Ce]),I2.aK.laid old (bG _) ⟨jl _,[],0,.nil,hDg⟩,by simp[iZ,dJ,Ce]⟩
  ·by_cases Ig:i<aD.length
   case neg =>
    have lQ:((aD.map λp=>(σ[p.2]?).getD none)++aW bM.length none)[i]?=some (some v):=h2
    rw[wk (by simpa using Ig),yn]at lQ
    split at lQ<;>cases lQ
   case pos =>
    have om:(aD.map (·.1))[i]?=some y:=by
     have z:(aD.map (·.1)++bM)[i]?=some y:=h1
     rwa [wm (by simpa using Ig)]at z
    have lQ:(aD.map λp=>(σ[p.2]?).getD none)[i]?=some (some v):=by
     have z:((aD.map λp=>(σ[p.2]?).getD none)++aW bM.length none)[i]?=some (some v):=h2
     rwa [wm (by simpa using Ig)]at z
    rw[bN]at om lQ
    cases hj:aD[i]? with
    | none=>rw[hj]at om;cases om
    | some p =>
     rw[hj]at om lQ
     have ey:p.1=y:=de om
     have ev:(σ[p.2]?).getD none=some v:=de lQ
     obtain⟨hN,hk,Ri,c,e1,e2⟩:=(qC g0.objs.size).at p (uM hj)
     obtain⟨m,hn,hl⟩:=I2.loc
     have es:σ[p.2]?=some (some v):=by
      cases z:σ[p.2]? with
      | none=>rw[z]at ev;cases ev
      | some o=>rw[z]at ev;exact congrArg some ev
     obtain⟨u,ru,lk⟩:=hl p.2 p.1 v hN es (hk.elim (λz=>.inr (.inl z)) λz=>.inr (.inr z))
     refine⟨u,ru,?_⟩
     rcases lk with⟨lk,_⟩ | ⟨_,c',e3,ic⟩
     ·rcases hk with hk | hk
      ·have:=hk.symm.trans lk;cases this
      ·have:=hk.symm.trans lk;cases this
     ·rw[e2]at e3
      cases e3
      subst ey
      obtain⟨oc,j5,Hz⟩:=ic
      exact .inr ⟨Ri,c,e1,oc,old _ _ j5,Hz⟩
  ·rcases Ic _ _ _ y c (show(cellsFrom (g0.push { cls:=.type "dict",data:=.dict #[] }).objs.size scope.names cl).lookup y=some c by rw[wj];exact e)with h1 | h1
   ·rw[<-C6]at h1
    exact⟨none,h1⟩
   ·obtain⟨v,o,ho,hd⟩:=I2.cell y c (iN y c h1)
    exact⟨v,o,old _ _ ho,hd⟩
  ·show upd H2 _ _ g0.objs.size=none
   rw[bc (iu hDC)]
   exact I2.aK.fresh hle
  ·rcases Ae _ _ _ y c e with⟨h1,_⟩ | h1
   ·rw[bc (Nat.ne_of_gt (iU hle h1))]
    exact I2.aK.fresh (cQ hle (BD h1))
   ·obtain⟨v,o,ho,hd⟩:=I2.cell y c (iN y c h1)
    rw[bc (gb (cg ho))]
    exact I2.lH y c (iN y c h1)
 have fin:∀(s':Shared) (H':Hp) (aL:L2.St),Inv (dJ X scope (aD.map (·.1)++bM) cl g0.objs.size s2 H2 fp) [] aL H' s'->Q (.ref s2.heap.objs.size) H' ->
   compPost (model X.prog X.w) X.A X.xe use Rf (.ref s2.heap.objs.size) g0.objs.size (.ok .next) s':=by
  intro s' H' aL I' q'
  obtain⟨m,hn,_⟩:=I'.loc
  have u:=I'.base
  have hC':H' g0.objs.size=none:=I'.free
  have IX:Inv X pins σ H' s':=I2.YK (s':=s') (ch:=fp) I'.os ⟨u.keep,u.slot,u.free,u.there,u.pX,u.n6,u.j3⟩ I'.aK I'.bare λb hb=>by
   obtain⟨_,y1,y2,y3,y4,y5⟩:=f2 b hb
   exact⟨y3,y1,y4,y5⟩
  have Rj:∀b,(∃o,s2.heap.get? b=some o)->b≠g0.objs.size:=λb ⟨o,e⟩=>wM b o e
  refine di5 s' H' g0.objs.size s2.heap.objs.size m IX hn hC' (λz=>?_) (cQ I2.sz hle) (λx c e z=>?_) (λp hp z=>?_) (λz=>?_) q'
  ·have h0:X.env.locals<s2.heap.objs.size:=I2.lt
   rw[<-z]at h0
   exact iq _ (dd h0 hle)
  ·obtain⟨v,o,ho,_⟩:=I2.cell x c e
   exact Rj c ⟨o,ho⟩ z
  ·exact Rj p.1 ⟨_,(I2.pin p hp).1⟩ z
  ·exact I2.NS hle z
 have Ih:∀(H':Hp),(∀b∈fp,H' b=none)->∀b∈fp,j6 (dJ X scope (aD.map (·.1)++bM) cl g0.objs.size s2 H2 fp) [] H' b:=λH' hn b hb =>
  ⟨hn b hb,(C7.yC b hb).1,C7.wL b hb,.inl hb,(C7.yC b hb).2,λp hp=>absurd hp (by simp[dJ,Ce])⟩
 have loop:codeAny (model X.prog X.w) X.A (.compLoop (.ListComp elt [⟨tg,iter,ifs,0⟩] scope pos) 0 (.ref it) (.ref s2.heap.objs.size) (compEnvC scope (cellsFrom (g0.objs.size+1) scope.names cl) g0.objs.size X.env))
   (compPost (model X.prog X.w) X.A X.xe use Rf (.ref s2.heap.objs.size) g0.objs.size) { s2 with heap:=g1 }:=by
  refine bD8 (λn s'=>∃i acc H',Inv (dJ X scope (aD.map (·.1)++bM) cl g0.objs.size s2 H2 fp) [] (iZ aD bM.length σ) H' s'/\tn i s'.heap/\(∀b∈fp,H' b=none)/\W i n acc H') ?_ m0
   ⟨0,[],_,I4,T.keep _ _ _ yJ λb hb o e=>old b o e,λb hb=>?_,w0⟩
  ·rintro n s' ⟨i,acc,H',I',tW,xE,w'⟩
   obtain⟨zB,⟨stop,qn⟩ | ⟨go,step⟩⟩:=turn i n acc H' w'
   ·refine aN (T.done (dJ X scope (aD.map (·.1)++bM) cl g0.objs.size s2 H2 fp) rfl rfl rfl hc i [] s' _ H' (λ_ _=>False) I' (Ih H' xE) tW stop) λr t1 zz=>?_
    obtain⟨hr,I1⟩:=zz
    subst hr
    exact fin _ _ _ I1 qn
   ·refine aN (T.item (dJ X scope (aD.map (·.1)++bM) cl g0.objs.size s2 H2 fp) rfl rfl rfl hc i [] s' _ H' (λ_ _=>False) I' (Ih H' xE) tW go) λr t1 zz=>?_
    obtain⟨u,hr,h4⟩:=zz
    subst hr
    refine aN h4 λ_ t2 zz=>?_
    obtain⟨x5,H5,I5,r5,y5,u9,yK⟩:=zz
    obtain⟨Cp,st6⟩:=step x5 H5 y5
    have FJ:=I5.pinned (Ih H5 yK) (T.obj _ _ u9)
    refine aN (hg _ _ _ _ _ t2 _ H5 x5 u _ FJ r5 st6) λ_ t3 zz=>?_
    obtain⟨FK,H6,I6,⟨dj1,dj2⟩,st7⟩:=zz
    have back:∀(s7:Shared) (H7:Hp) (Ii:List V) (m7:Nat),Inv (dJ X scope (aD.map (·.1)++bM) cl g0.objs.size s2 H2 fp) ([]++yH fp t2.heap) FK H7 s7->W (i+1) m7 Ii H7 ->
      ∃i acc H',Inv (dJ X scope (aD.map (·.1)++bM) cl g0.objs.size s2 H2 fp) [] (iZ aD bM.length σ) H' s7/\tn i s7.heap/\(∀b∈fp,H' b=none)/\W i m7 acc H':=λs7 H7 Ii m7 I7 w7 =>
     ⟨i+1,Ii,H7,(I7.yI).weak dj1.symm λj v z=>by
       by_cases hj:j<aD.length
       ·rw[dj2 j hj];exact z
       ·have z':((aD.map λp=>(σ[p.2]?).getD none)++aW bM.length none)[j]?=some (some v):=z
        rw[wk (by simpa using hj),yn]at z'
        split at z'<;>(cases z'),
      T.keep _ _ _ u9 λb hb o e=>(I7.pin (b,o) (dv _ (dv _ (B7 hb e)))).1,λb hb=>by
       obtain⟨o,e,d⟩:=T.obj _ _ u9 b hb
       exact(I7.pin (b,o) (dv _ (dv _ (B7 hb e)))).2.1,w7⟩
    refine aN (ht _ _ _ _ _ t3 _ H6 _ I6 st7) λok t4 zz=>?_
    obtain⟨H7,I7,hD7,q7⟩:=zz
    cases ok with
    | false =>
     obtain⟨m',hm,w7⟩:=(show ∃m',m'<n/\W (i+1) m' acc H7 from q7)
     exact⟨m',hm,back t4 H7 acc m' I7 w7⟩
    | true =>
     refine aN (he _ _ _ _ _ t4 _ H7 _ I7 q7) λy t5 zz=>?_
     obtain⟨v8,H8,I8,r8,hD8,hl8,m',hm,w8⟩:=zz
     exact aN (Gf _ t5 _ H8 (.ref s2.heap.objs.size) [v8] (.ref s2.heap.objs.size) [y] (λ_ H9=>H9=upd H8 s2.heap.objs.size (.lst (acc++[v8]))) I8 rfl (.cons r8 .nil) ⟨_,acc,v8,rfl,rfl,hD8,hl8,rfl⟩) λ_ t6 zz=>by
      obtain⟨_,H9,I9,_,e9⟩:=zz
      subst e9
      exact⟨m',hm,back t6 _ _ m' I9 w8⟩
  ·obtain⟨o,e,_⟩:=Rh b hb
   rw[bc (gb (cg e))]
   exact(f2 b hb).1
 exact codeAny_compStart_list loop (T.self _ 0 _ _ _ (T.keep _ _ _ yJ λb hb o e=>old b o e) loop)
theorem ca4(aD:List (Str × Nat))(bM:List Str)(hc:X.calm=true)(hi:PI X tg iter wi)
  (hg:∀C s H fp,PG (dJ X scope (aD.map (·.1)++bM) cl C s H fp) tg g)
  (ht:∀C s H fp,qZ (dJ X scope (aD.map (·.1)++bM) cl C s H fp) ifs tt) (he:∀C s H fp,PE (dJ X scope (aD.map (·.1)++bM) cl C s H fp) elt te)
  (qy:closureFor scope X.env=pure cl) (qA:q0 X cl) (qB:∀C:Addr,q8 (cellsFrom (C+1) scope.names cl) (relabel scope X.env).names) (qC:∀C:Addr,qY X scope (cellsFrom (C+1) scope.names cl) aD)
  (iY:scope.kind=.function) (qD:∀y∈scope.names,y.2=.local->scope.names.lookup y.1=some .local)
  (hs:∀x,foldedSetIterable iter X.env x=pure x:=by intro _;rfl):PE X (.ListComp elt [⟨tg,iter,ifs,0⟩] scope pos) (Cf wi aD bM.length g tt te):=by
 intro pins s σ H Q I h
 rw[eval_ListComp]
 refine Rb aD bM hc hi hg ht he qy qA qB qC iY qD hs I h λs' H' C Da m IX hn hC hL h1 h2 h3 h4 q'=>?_
 exact⟨m,hn,λh' sb=>⟨.ref Da,H',IX.turned (t':=s'.toks) (λb o hb e=>sb.extBut b o hb e) hC hL (.inr h1) h2 h3,rfl,q'⟩⟩
theorem Rk{i:Nat}{x:Str}{pos' apos:Pos}(hN:X.N.Nodup)(Af:X.N[i]?=some x)(hx:Loc X.env.scope x)(hf:X.fn x=true\/X.env.scope.names.lookup x=some .local)(aD:List (Str × Nat))(bM:List Str)(hc:X.calm=true)(hi:PI X tg iter wi)
  (hg:∀C s H fp,PG (dJ X scope (aD.map (·.1)++bM) cl C s H fp) tg g)
  (ht:∀C s H fp,qZ (dJ X scope (aD.map (·.1)++bM) cl C s H fp) ifs tt) (he:∀C s H fp,PE (dJ X scope (aD.map (·.1)++bM) cl C s H fp) elt te)
  (qy:closureFor scope X.env=pure cl) (qA:q0 X cl) (qB:∀C:Addr,q8 (cellsFrom (C+1) scope.names cl) (relabel scope X.env).names) (qC:∀C:Addr,qY X scope (cellsFrom (C+1) scope.names cl) aD)
  (iY:scope.kind=.function) (qD:∀y∈scope.names,y.2=.local->scope.names.lookup y.1=some .local)
  (qm:swapsWith (.ListComp elt [⟨tg,iter,ifs,0⟩] scope pos) (some (.Name x pos')) apos.line X.env=pure true) (hs:∀x,foldedSetIterable iter X.env x=pure x:=by intro _;rfl):PS X (.Assign [.Name x pos'] (.ListComp elt [⟨tg,iter,ifs,0⟩] scope pos) apos) (FD (Cf wi aD bM.length g tt te) (BY i)):=by
 intro pins s σ H D I h
 rw[exec_Assign_Name_used x pos' _ apos qm]
 refine wpAny_bind (wpAny_standAt (wpAny_bind ?_))
 have hh:Cf wi aD bM.length g tt te σ H λv H1=>D.nx (σ.set i (some v)) H1:=h
 show wpAny _ _ (comprehension (.ListComp elt [⟨tg,iter,ifs,0⟩] scope pos) scope X.env (firstIterPos [⟨tg,iter,ifs,0⟩] pos) (newList []) false (eval iter X.env) (some (assign (.Name x pos') X.env)) >>= λ_=>pure ()) _ _ _
 refine wpAny_bind (Rb (use:=some (assign (.Name x pos') X.env)) (pos:=pos) aD bM hc hi hg ht he qy qA qB qC iY qD hs I hh λs' H' C Da m IX hn hC hL h1 h2 h3 h4 q'=>?_)
 obtain⟨oC,es,ep,hoC,Rl,rest⟩:=id hn
 have IP:Inv X (pins++[(C,oC)]) σ H' s':=⟨IX.ok,IX.os,IX.bare,IX.base,IX.loc,IX.cell,IX.free,IX.lH,λp hp=>by
  rcases bV.mp hp with z | z
  ·exact IX.pin p (fI _ z)
  ·rcases bV.mp z with z | z
   ·exact IX.pin p (dv _ z)
   ·obtain rfl:=dh.mp z
    exact⟨hoC,hC,hL,h4,λv w=>by rw[Rl]at w;cases w⟩,IX.aK,IX.len⟩
 refine aN (BZ (X:=X) hN Af hx hf _ s' σ H' (.ref Da) (.ref Da) (λqV H2=>qV=σ.set i (some (.ref Da))/\H2=H') IP rfl ⟨rfl,rfl⟩) λ_ s2 zz=>?_
 obtain⟨qV,H2,I2,e1,e2⟩:=zz
 subst e1 e2
 have pC:=I2.pin (C,oC) (dv _ (dv _ (by simp)))
 refine⟨m,⟨oC,es,ep,pC.1,Rl,rest⟩,λh' sb=>wpAny_pure (wpAny_pure ?_)⟩
 exact⟨σ.set i (some (.ref Da)),H2,(I2.yI).turned (t':=s2.toks) (λb o hb e=>sb.extBut b o hb e) hC hL (.inr h1) h2 h3,q'⟩
end
end L2
namespace L3
open PySem L2 PySem.Spec PyProof.Rows
section
variable{X:Cx}{elt iter tg:Expr}{pos:Pos}{ifs:List Expr}{scope:Scope}{cl:List (Str × Addr)}{ti:kq}{tt:gn}{te:aI}{g:i8}
theorem dS(aD:List (Str × Nat))(bM:List Str)(hc:X.calm=true)(hi:PI X tg iter (lI ti))
  (hg:∀C s H fp,PG (dJ X scope (aD.map (·.1)++bM) cl C s H fp) tg (lG aD.length g))
  (ht:∀C s H fp,qZ (dJ X scope (aD.map (·.1)++bM) cl C s H fp) ifs (lT tt)) (he:∀C s H fp,PE (dJ X scope (aD.map (·.1)++bM) cl C s H fp) elt (lE te))
  (qy:closureFor scope X.env=pure cl) (qA:q0 X cl:=by repeat' (first | exact trivial | refine⟨rfl,?_⟩)) (qB:∀C:Addr,q8 (cellsFrom (C+1) scope.names cl) (relabel scope X.env).names:=by intro _;repeat' (first | exact trivial | refine⟨.inl rfl,?_⟩ | refine⟨.inr (.inl rfl),?_⟩ | refine⟨.inr (.inr ⟨_,rfl⟩),?_⟩)) (qC:∀C:Addr,qY X scope (cellsFrom (C+1) scope.names cl) aD:=by intro _;repeat' (first | exact trivial | refine⟨⟨rfl,.inl rfl,.inl rfl,_,rfl,rfl⟩,?_⟩))
  (iY:scope.kind=.function:=by rfl) (qD:∀y∈scope.names,y.2=.local->scope.names.lookup y.1=some .local:=by decide +kernel)
  (hs:∀x,foldedSetIterable iter X.env x=pure x:=by intro _;rfl):PE X (.ListComp elt [⟨tg,iter,ifs,0⟩] scope pos) (lE (jE ti aD bM.length g tt te)) :=
 dj (ca4 aD bM hc hi hg ht he qy qA qB qC iY qD hs) λσ H Q zq=>by
 obtain⟨B,F,δ,ts,Qd,c,q,k⟩:=zq
 exact⟨B,F,δ,ts,_,c,q,λsh xs aj J F1 H1 hq f1 h1 c1 sF vv=>by
  obtain⟨p,f,hx,fM,hlen,hQ⟩:=hq
  exact GU c1 sF vv p f hx fM hlen hQ λd ai v F' H' hd hf hs c'=>k d ai v F' H' hd (f1.trans hf) (h1.trans hs) c'⟩
theorem cs0{i:Nat}{x:Str}{pos' apos:Pos}(hN:X.N.Nodup)(Af:X.N[i]?=some x)(hx:L2.Loc X.env.scope x)(aD:List (Str × Nat))(bM:List Str)(hc:X.calm=true)(hi:PI X tg iter (lI ti))
  (hg:∀C s H fp,PG (dJ X scope (aD.map (·.1)++bM) cl C s H fp) tg (lG aD.length g))
  (ht:∀C s H fp,qZ (dJ X scope (aD.map (·.1)++bM) cl C s H fp) ifs (lT tt)) (he:∀C s H fp,PE (dJ X scope (aD.map (·.1)++bM) cl C s H fp) elt (lE te))
  (qy:closureFor scope X.env=pure cl) (qA:q0 X cl:=by repeat' (first | exact trivial | refine⟨rfl,?_⟩)) (qB:∀C:Addr,q8 (cellsFrom (C+1) scope.names cl) (relabel scope X.env).names:=by intro _;repeat' (first | exact trivial | refine⟨.inl rfl,?_⟩ | refine⟨.inr (.inl rfl),?_⟩ | refine⟨.inr (.inr ⟨_,rfl⟩),?_⟩)) (qC:∀C:Addr,qY X scope (cellsFrom (C+1) scope.names cl) aD:=by intro _;repeat' (first | exact trivial | refine⟨⟨rfl,.inl rfl,.inl rfl,_,rfl,rfl⟩,?_⟩))
  (iY:scope.kind=.function:=by rfl) (qD:∀y∈scope.names,y.2=.local->scope.names.lookup y.1=some .local:=by decide +kernel)
  (qm:swapsWith (.ListComp elt [⟨tg,iter,ifs,0⟩] scope pos) (some (.Name x pos')) apos.line X.env=pure true:=by rfl) (hf:X.fn x=true\/X.env.scope.names.lookup x=some .local:=by first | exact .inl rfl | exact .inr rfl)
  (hs:∀x,foldedSetIterable iter X.env x=pure x:=by intro _;rfl):PS X (.Assign [.Name x pos'] (.ListComp elt [⟨tg,iter,ifs,0⟩] scope pos) apos) (lS X (kn i (jE ti aD bM.length g tt te))) :=
 jA (Rk hN Af hx hf aD bM hc hi hg ht he qy qA qB qC iY qD qm hs) λEn σ H zq=>by
 obtain⟨B,F,δ,Dd,c,q,k1,k2,k3,k4⟩:=zq
 exact⟨B,F,δ,[],_,c,q,λsh xs aj J F1 H1 hq f1 h1 c1 sF vv=>by
  obtain⟨p,f,hx,fM,hlen,hQ⟩:=hq
  exact GU (Qd:=λd ai=>Dd.nx (ai.set i (some d))) c1 sF vv p f hx fM hlen hQ λd ai v F' H' hd hf hs c'=>k1 _ _ F' H' hd (c'.store i)⟩
end
end L3
namespace L3
open PySem L2 Mf
theorem lo1{m:Bool × Nat}(hm:m∈aA):1<aa m:=by have:=(cT hm).lo;omega
inductive Sp(N:Nat)(p q:Nat->Nat->Nat)(S:(Nat->Nat)->Prop):(Nat->Nat)->Prop
 | mem {f:Nat->Nat}:S f->Sp N p q S f
 | zero:Sp N p q S λ_=>0
 | add {f g:Nat->Nat}:Sp N p q S f->Sp N p q S g->Sp N p q S λk=>p (f k) (g k)
 | mul {f:Nat->Nat} (c:Nat):c<N->Sp N p q S f->Sp N p q S λk=>q c (f k)
theorem Sp.trans{N:Nat}{p q:Nat->Nat->Nat}{S S':(Nat->Nat)->Prop}(h:∀f,S f->Sp N p q S' f){f:Nat->Nat}(s:Sp N p q S f):Sp N p q S' f:=by
 induction s with
 | mem a=>exact h _ a
 | zero=>exact .zero
 | add _ _ a b=>exact .add a b
 | mul c hc _ a=>exact .mul c hc a
def Gn(T:List (List Nat))(f:Nat->Nat):Prop:=∃r∈T,f=cf r
def b9(m:Bool × Nat)(T:List (List Nat))(f:Nat->Nat):Prop:=Sp (aa m) (gp m) (gm m) (Gn T) f
theorem b9.of{m:Bool × Nat}{T:List (List Nat)}{r:List Nat}(h:r∈T):b9 m T (cf r):=.mem ⟨r,h,rfl⟩
theorem cf3{m:Bool × Nat}(hm:m∈aA){a:Nat}(ha:a<aa m){f f' l:Nat->Nat}(Ij:∀k,f' k<aa m)(hl:∀k,l k<aa m)(h:∀k,gp m (f' k) (gm m a (l k))=f k):∃b,b<aa m/\f'=λk=>gp m (f k) (gm m b (l k)):=by
 have r:=rg hm
 obtain⟨b,hb,e⟩:=r.ng ha
 refine⟨b,hb,funext λk=>?_⟩
 rw[<-h k,r.pa,r.mc a,r.mc b,<- r.dl,e,r.qz,r.z' (Ij k)]
theorem Ik{m:Bool × Nat}(hm:m∈aA){r l:List Nat}{w:Nat}(hr:r.length=w)(hl:l.length=w)(a k:Nat):cf (eO (λx y=>bq m x (gm m a y)) r l) k=bq m (cf r k) (gm m a (cf l k)):=by
 by_cases h:k<w
 ·unfold cf
  rw[aF,BC,aJ (by omega),aJ (by omega),aF,aJ (by omega),aF,aJ (by omega)]
  rfl
 ·rw[sT (by rw[qO];omega),sT (l:=r) (by omega),sT (l:=l) (by omega),ig m _ (cq m hm),CY]
theorem C8{m:Bool × Nat}(hm:m∈aA){r l:List Nat}{w a:Nat}(hr:r.length=w)(hl:l.length=w)(ar:AllLt (aa m) r)(k:Nat):gp m (cf (eO (λx y=>bq m x (gm m a y)) r l) k) (gm m a (cf l k))=cf r k:=by
 rw[Ik hm hr hl]
 exact(kS hm (cF hm ar k) (bX hm _ _)).2.2
theorem Il{m:Bool × Nat}(hm:m∈aA){r l:List Nat}{w:Nat}(hr:r.length=w)(hl:l.length=w)(ar:AllLt (aa m) r)(a k:Nat):cf (eO (λx y=>bq m x (gm m a y)) r l) k<aa m:=by
 rw[Ik hm hr hl]
 exact(kS hm (cF hm ar k) (bX hm _ _)).2.1
theorem Rm{m:Bool × Nat}(hm:m∈aA){w p i:Nat}{T:List (List Nat)}(hT:RT (aa m) w T)(e:nC T p=some i):∃(g:List Nat) (c:Nat),g∈T/\T.getD i []=g/\g.length=w/\AllLt (aa m) g/\c<aa m/\gm m c (cf g p)=1/\(eJ m T i p).length=w/\AllLt (aa m) (eJ m T i p)/\(∀k,cf (eJ m T i p) k=gm m c (cf g k))/\cf (eJ m T i p) p=1/\∀k,gm m (cf g p) (cf (eJ m T i p) k)=cf g k:=by
 obtain⟨hi,h1,h2⟩:=C2 e
 obtain⟨a,b⟩:=hT _ (eN hi)
 have l1:1<aa m:=lo1 hm
 obtain⟨c,hc,C9⟩:=Q4 hm l1 (cF hm b p) h1
 have ec:rC m (cf T[i] p)=c:=CZ hm hc C9
 have el:eJ m T i p=T[i].map (gm m c):=by unfold eJ;rw[h2,<- ec];rfl
 have ek:∀k,cf (eJ m T i p) k=gm m c (cf T[i] k):=λk=>by rw[el];exact cx3 hm _ _ _
 refine⟨T[i],c,eN hi,h2,a,b,hc,C9,by rw[el,aR,a],λx hx=>?_,ek,by rw[ek];exact C9,λk=>?_⟩
 ·rw[el]at hx
  obtain⟨y,_,rfl⟩:=aT.mp hx
  exact bX hm _ _
 ·rw[ek,<- iP (cq m hm),fS m _ c,C9,sR (cF hm b k)]
theorem Rn{m:Bool × Nat}{s:List (List Nat) × List (List Nat)}{p i:Nat}(e:nC s.2 p=some i):ji m s p=(ij m s.1 (eJ m s.2 i p) p++[eJ m s.2 i p],ij m (s.2.take i++s.2.drop (i+1)) (eJ m s.2 i p) p):=by unfold ji;rw[e]
theorem Ro{m:Bool × Nat}{s:List (List Nat) × List (List Nat)}{p:Nat}(e:nC s.2 p=none):ji m s p=s:=by unfold ji;rw[e]
theorem Dc{α:Type}{T:List α}{i:Nat}{r:α}(h:r∈T.take i++T.drop (i+1)):r∈T:=(bV.mp h).elim wA rS
theorem cc0{α:Type}{T:List α}{i:Nat}{r:α}(h:r∈T)(hi:i<T.length):r=T[i]\/r∈T.take i++T.drop (i+1):=by
 obtain⟨j,hj,rfl⟩:=jn h
 rcases Nat.lt_trichotomy j i with h | h | h
 ·exact .inr (bV.mpr (.inl (List.mem_take_iff_getElem.mpr ⟨j,by omega,rfl⟩)))
 ·subst h;exact .inl rfl
 ·exact .inr (bV.mpr (.inr (List.mem_drop_iff_getElem.mpr ⟨j-(i+1),by omega,by congr 1;omega⟩)))
theorem bR0{m:Bool × Nat}(hm:m∈aA){w n p:Nat}{s:List (List Nat) × List (List Nat)}(h:Ad (aa m) w n s)(f:Nat->Nat):b9 m (s.1++s.2) f↔b9 m ((ji m s p).1++(ji m s p).2) f:=by
 cases e:nC s.2 p with
 | none=>rw[Ro e]
 | some i =>
  obtain⟨g,c,g1,g2,g3,g4,c1,c2,l1,l2,l3,l4,l5⟩:=Rm hm h.b e
  obtain⟨hi,_,hg⟩:=C2 e
  rw[Rn e]
  generalize eJ m s.2 i p=l at l1 l2 l3 l4 l5
  have ll:=cF hm l2
  have row:∀{T:List (List Nat)},RT (aa m) w T->∀r'∈ij m T l p,∃r∈T,∃b,b<aa m/\cf r'=λk=>gp m (cf r k) (gm m b (cf l k)):=λ{T} hT r' bF=>by
   obtain⟨r,hr,rfl⟩:=aT.mp bF
   obtain⟨a1,a2⟩:=hT r hr
   exact⟨r,hr,cf3 hm (cF hm a2 p) (Il hm a1 l1 a2 _) ll (C8 hm a1 l1 a2)⟩
  have Rp:∀{T:List (List Nat)},RT (aa m) w T->∀r∈T,∃r'∈ij m T l p,cf r=λk=>gp m (cf r' k) (gm m (cf r p) (cf l k)):=λ{T} hT r hr=>by
   obtain⟨a1,a2⟩:=hT r hr
   exact⟨_,aT.mpr ⟨r,hr,rfl⟩,funext λk=>(C8 hm a1 l1 a2 k).symm⟩
  have hB:RT (aa m) w (s.2.take i++s.2.drop (i+1)):=λr hr=>h.b r (Dc hr)
  constructor
  ·refine Sp.trans ?_
   rintro f ⟨r,hr,rfl⟩
   have hl:b9 m ((ij m s.1 l p++[l])++ij m (s.2.take i++s.2.drop (i+1)) l p) (cf l):=b9.of (by simp)
   rcases bV.mp hr with hr | hr
   ·obtain⟨r',h1,h2⟩:=Rp h.a r hr
    rw[h2]
    exact .add (b9.of (by simp[h1])) (.mul _ (cF hm (h.a r hr).2 p) hl)
   ·rcases cc0 hr hi with e' | bF
    ·have:cf r=λk=>gm m (cf g p) (cf l k):=funext λk=>by rw[l5 k,e',<- hg,g2]
     rw[this]
     exact .mul _ (cF hm g4 p) hl
    ·obtain⟨r',h1,h2⟩:=Rp hB r bF
     rw[h2]
     exact .add (b9.of (by simp[h1])) (.mul _ (cF hm (h.b r hr).2 p) hl)
  ·refine Sp.trans ?_
   rintro f ⟨r,hr,rfl⟩
   have hl:b9 m (s.1++s.2) (cf l):=by
    have:cf l=λk=>gm m c (cf g k):=funext l3
    rw[this]
    exact .mul _ c1 (b9.of (dv _ g1))
   rcases bV.mp hr with hr | hr
   ·rcases bV.mp hr with hr | hr
    ·obtain⟨r1,h1,b,hb,h2⟩:=row h.a r hr
     rw[h2]
     exact .add (b9.of (fI _ h1)) (.mul _ hb hl)
    ·rw[dh]at hr
     rw[hr];exact hl
   ·obtain⟨r1,h1,b,hb,h2⟩:=row hB r hr
    rw[h2]
    exact .add (b9.of (dv _ (Dc h1))) (.mul _ hb hl)
structure RR(w:Nat)(R:List (List Nat))(H:Nat->Nat):Prop where
 u:∀i j,i<R.length->j<R.length->cf (R.getD i []) (H j)=if i=j then 1 else 0
 z:∀i,i<R.length->∀t,t<H i->cf (R.getD i []) t=0
 i:∀i j,i<j->j<R.length->H i<H j
 l:∀i,i<R.length->H i<w
theorem jL{α β:Type}(f:α->β){l:List α}{i:Nat}(h:i<l.length)(a:α)(b:β):(l.map f).getD i b=f (l.getD i a):=by
 rw[aF,bN,aF,aJ h];rfl
theorem bT{α:Type}{l:List α}{i:Nat}(h:i<l.length)(a:α):l.getD i a∈l:=by
 rw[aF,aJ h];exact eN h
theorem bI2{m:Bool × Nat}(hm:m∈aA){w n p:Nat}{s:List (List Nat) × List (List Nat)}(h:Ad (aa m) w n s){H:Nat->Nat}(I:RR p s.1 H)(e2:∀r∈s.2,∀t,t<p->cf r t=0):∃H',RR (p+1) (ji m s p).1 H'/\∀r∈(ji m s p).2,∀t,t<p+1->cf r t=0:=by
 cases e:nC s.2 p with
 | none =>
  rw[Ro e]
  refine⟨H,⟨I.u,I.z,I.i,λi hi=>E7 (I.l i hi)⟩,λr hr t ht=>?_⟩
  rcases Nw t p with h1 | h1
  ·exact e2 r hr t h1
  ·have:=Yc.mp e r hr
   have z:r.getD p 0=0:=by simpa using this
   rw[show t=p by omega]
   exact z
 | some i0 =>
  obtain⟨g,c,g1,g2,g3,g4,c1,c2,l1,l2,l3,l4,l5⟩:=Rm hm h.b e
  rw[Rn e]
  generalize eJ m s.2 i0 p=l at l1 l2 l3 l4 l5
  have m0:=cq m hm
  have lz:∀t,t<p->cf l t=0:=λt ht=>by rw[l3,e2 g g1 t ht,ig m _ m0]
  have Ag:∀{r:List Nat},r.length=w->AllLt (aa m) r->(∀t,t<p->cf (eO (λx y=>bq m x (gm m (r.getD p 0) y)) r l) t=cf r t)/\cf (eO (λx y=>bq m x (gm m (r.getD p 0) y)) r l) p=0:=λ{r} a1 a2=>by
   constructor
   ·intro t ht
    have:=C8 hm (a:=r.getD p 0) a1 l1 a2 t
    rw[lz t ht,ig m _ m0,qt (Il hm a1 l1 a2 _ _)]at this
    exact this
   ·rw[Ik hm a1 l1,l4]
    show bq m (r.getD p 0) (gm m (r.getD p 0) 1)=0
    rw[qp (show r.getD p 0<aa m from cF hm a2 p),CY]
  have nl:(ij m s.1 l p).length=s.1.length:=by unfold ij;rw[aR]
  have Rq:∀i,i<s.1.length->∃r,s.1.getD i []=r/\r.length=w/\AllLt (aa m) r/\(ij m s.1 l p++[l]).getD i []=eO (λx y=>bq m x (gm m (r.getD p 0) y)) r l:=λi hi=>by
   refine⟨_,rfl,(h.a _ (bT hi [])).1,(h.a _ (bT hi [])).2,?_⟩
   rw[aF,wm (by omega),<- aF]
   exact jL _ hi [] []
  have Rt:(ij m s.1 l p++[l]).getD s.1.length []=l:=by
   rw[aF,wk (by omega),nl,uV];rfl
  have le:(ij m s.1 l p++[l]).length=s.1.length+1:=by rw[df,nl];rfl
  refine⟨λi=>if i<s.1.length then H i else p,⟨λi j hi hj=>?_,λi hi t ht=>?_,λi j Ah hj=>?_,λi hi=>?_⟩,λr hr t ht=>?_⟩
  ·show cf ((ij m s.1 l p++[l]).getD i []) _=_
   dsimp only at hi hj ⊢
   rw[le]at hi hj
   by_cases h1:i<s.1.length
   ·obtain⟨r,r1,r2,r3,r4⟩:=Rq i h1
    rw[r4]
    by_cases h2:j<s.1.length
    ·rw[if_pos h2,(Ag r2 r3).1 _ (I.l j h2),<- r1]
     exact I.u i j h1 h2
    ·rw[if_neg h2,(Ag r2 r3).2,if_neg (by omega)]
   ·have e1:i=s.1.length:=by omega
    rw[e1,Rt]
    by_cases h2:j<s.1.length
    ·rw[if_pos h2,lz _ (I.l j h2),if_neg (by omega)]
    ·rw[if_neg h2,l4,if_pos (by omega)]
  ·dsimp only at hi ht ⊢
   rw[le]at hi
   by_cases h1:i<s.1.length
   ·rw[if_pos h1]at ht
    obtain⟨r,r1,r2,r3,r4⟩:=Rq i h1
    rw[r4,(Ag r2 r3).1 _ (by have:=I.l i h1;omega),<- r1]
    exact I.z i h1 t ht
   ·rw[if_neg h1]at ht
    have e1:i=s.1.length:=by omega
    rw[e1,Rt];exact lz t ht
  ·dsimp only at hj ⊢
   rw[le]at hj
   rw[if_pos (by omega)]
   by_cases h2:j<s.1.length
   ·rw[if_pos h2];exact I.i i j Ah h2
   ·rw[if_neg h2];exact I.l i (by omega)
  ·dsimp only at hi ⊢
   rw[le]at hi
   split
   ·have:=I.l i (by omega);omega
   ·omega
  ·obtain⟨r1,De,rfl⟩:=aT.mp hr
   obtain⟨a1,a2⟩:=h.b r1 (Dc De)
   rcases Nw t p with h1 | h1
   ·rw[(Ag a1 a2).1 t h1];exact e2 _ (Dc De) t h1
   ·rw[show t=p by omega];exact(Ag a1 a2).2
theorem Ru{m:Bool × Nat}(hm:m∈aA){w:Nat}{G:List (List Nat)}(h:RT (aa m) w G):∀k,(∃H,RR k (nD m G k).1 H/\∀r∈(nD m G k).2,∀t,t<k->cf r t=0)/\∀f,b9 m G f↔b9 m ((nD m G k).1++(nD m G k).2) f
 | 0=>⟨⟨λ_=>0,⟨(λ_ _ h=>nomatch h),(λ_ h=>nomatch h),(λ_ _ _ h=>nomatch h),(λ_ h=>nomatch h)⟩,λr _ t ht=>nomatch ht⟩,λf=>.rfl⟩
 | k+1=>by
  obtain⟨⟨H,h1,h2⟩,h3⟩:=Ru hm h k
  have D:=C5 hm h k
  rw[HZ]
  exact⟨bI2 hm D h1 h2,λf=>(h3 f).trans (bR0 hm D f)⟩
theorem jj{m:Bool × Nat}(hm:m∈aA){G:List (List Nat)}(h:RT (aa m) (af G) G):(∃H,RR (af G) (bL m G) H)/\RT (aa m) (af G) (bL m G)/\(bL m G).length<=G.length/\∀f,b9 m G f↔b9 m (bL m G) f:=by
 obtain⟨⟨H,h1,h2⟩,h3⟩:=Ru hm h (af G)
 have D:=C5 hm h (af G)
 refine⟨⟨H,h1⟩,D.a,by have:=D.l;show(nD m G (af G)).1.length<=_;omega,λf=>(h3 f).trans ⟨Sp.trans ?_,Sp.trans ?_⟩⟩
 ·rintro f ⟨r,hr,rfl⟩
  rcases bV.mp hr with hr | hr
  ·exact b9.of hr
  ·have:cf r=λ_=>0:=funext λt=>by
    rcases Nw t (af G)with h4 | h4
    ·exact h2 r hr t h4
    ·exact sT (by rw[(D.b r hr).1];exact h4)
   rw[this];exact .zero
 ·rintro f ⟨r,hr,rfl⟩
  exact b9.of (fI _ hr)
theorem qE{N:Nat}{p q:Nat->Nat->Nat}(r:Rg N p q){f:Nat->Nat}{j0:Nat}(hf:f j0<N):∀{n:Nat},j0<n->(∀j,j<n->j≠j0->f j=0)->sm p n f=f j0
 | 0,h,_=>nomatch h
 | n+1,h,hz=>by
  rw[sm]
  by_cases e:j0=n
  ·subst e
   rw[fE r λj hj=>hz j (by omega) (by omega),r.z hf]
  ·rw[qE r hf (by omega) λj hj=>hz j (by omega),hz n (by omega) (by omega),r.z' hf]
theorem RR.own{m:Bool × Nat}(hm:m∈aA){w:Nat}{R:List (List Nat)}{H:Nat->Nat}(hR:RT (aa m) w R)(I:RR w R H){f:Nat->Nat}(s:b9 m R f):∀k,f k=sm (gp m) R.length λi=>gm m (f (H i)) (cf (R.getD i []) k):=by
 have r:=rg hm
 have m0:=cq m hm
 induction s with
 | mem a =>
  intro k
  obtain⟨x,hx,rfl⟩:=a
  obtain⟨i,hi,rfl⟩:=jn hx
  have ei:R[i]=R.getD i []:=by rw[aF,aJ hi];rfl
  have one:gm m (cf R[i] (H i)) (cf (R.getD i []) k)=cf R[i] k:=by
   rw[ei,I.u i i hi hi,if_pos rfl]
   exact sR (cF hm (hR _ (bT hi [])).2 k)
  refine((qE r (f:=λa=>gm m (cf R[i] (H a)) (cf (R.getD a []) k)) (j0:=i) (bX hm _ _) hi λj hj hn=>?_).trans one).symm
  rw[ei,I.u i j hi hj,if_neg (by omega),fC m _ m0]
 | zero=>exact λk=>(fE r λj _=>fC m _ m0).symm
 | add _ _ a b =>
  intro k
  dsimp only
  rw[a k,b k,<- qw r]
  refine cu λj _=>?_
  rw[r.mc (gp m _ _),r.dl,r.mc _ (cf _ k),r.mc _ (cf _ k)]
 | mul c hc _ a =>
  intro k
  dsimp only
  rw[a k,<- sU r]
  refine cu λj _=>?_
  rw[iP m0]
theorem b9.sum{m:Bool × Nat}(hm:m∈aA){w:Nat}{R:List (List Nat)}(hR:RT (aa m) w R){f:Nat->Nat}(s:b9 m R f):∃c:Nat->Nat,(∀i,c i<aa m)/\∀k,f k=sm (gp m) R.length λi=>gm m (c i) (cf (R.getD i []) k):=by
 have r:=rg hm
 have m0:=cq m hm
 have l1:=lo1 hm
 induction s with
 | mem a =>
  obtain⟨x,hx,rfl⟩:=a
  obtain⟨i,hi,rfl⟩:=jn hx
  have ei:R[i]=R.getD i []:=by rw[aF,aJ hi];rfl
  refine⟨λj=>if j=i then 1 else 0,λj=>by dsimp only;split<;>omega,λk=>?_⟩
  refine((qE r (f:=λa=>gm m (if a=i then 1 else 0) (cf (R.getD a []) k)) (j0:=i) (bX hm _ _) hi λj hj hn=>?_).trans ?_).symm
  ·rw[if_neg hn,fC m _ m0]
  ·rw[if_pos rfl,ei]
   exact sR (cF hm (hR _ (bT hi [])).2 k)
 | zero=>exact⟨λ_=>0,λ_=>r.pos,λk=>(fE r λj _=>fC m _ m0).symm⟩
 | add _ _ a b =>
  obtain⟨c,hc,a⟩:=a
  obtain⟨d,hd,b⟩:=b
  refine⟨λi=>gp m (c i) (d i),λi=>r.lp (hc i) (hd i),λk=>?_⟩
  dsimp only
  rw[a k,b k,<- qw r]
  refine cu λj _=>?_
  rw[r.mc (gp m _ _),r.dl,r.mc _ (cf _ k),r.mc _ (cf _ k)]
 | mul e he _ a =>
  obtain⟨c,hc,a⟩:=a
  refine⟨λi=>gm m e (c i),λi=>bX hm _ _,λk=>?_⟩
  dsimp only
  rw[a k,<- sU r]
  refine cu λj _=>?_
  rw[iP m0]
theorem b9.ann{m:Bool × Nat}(hm:m∈aA){R:List (List Nat)}{n:Nat}{y:Nat->Nat}(h:∀x∈R,sm (gp m) n (λj=>gm m (cf x j) (y j))=0){f:Nat->Nat}(s:b9 m R f):sm (gp m) n (λj=>gm m (f j) (y j))=0:=by
 have r:=rg hm
 have m0:=cq m hm
 induction s with
 | mem a=>obtain⟨x,hx,rfl⟩:=a;exact h x hx
 | zero=>exact fE r λj _=>fC m _ m0
 | @add f g _ _ a b =>
  rw[cu (g:=λj=>gp m (gm m (f j) (y j)) (gm m (g j) (y j))) λj _=>by dsimp only;rw[r.mc (gp m _ _),r.dl,r.mc (y j),r.mc (y j)],qw r,a,b,r.z r.pos]
 | @mul f e he _ a =>
  rw[cu (g:=λj=>gm m e (gm m (f j) (y j))) λj _=>iP m0 _ _ _,sU r,a,r.qz]
theorem RR.Im{m:Bool × Nat}(hm:m∈aA){w:Nat}{R:List (List Nat)}{H:Nat->Nat}(hR:RT (aa m) w R)(I:RR w R H){i:Nat}(hi:i<R.length):(R.getD i []).findIdx (· != 0)=H i/\∃x∈R.getD i [],x≠0:=by
 have a:=(hR _ (bT hi [])).1
 have l:=I.l i hi
 have u:=I.u i i hi hi
 rw[if_pos rfl]at u
 have eu:(R.getD i [])[H i]'(by omega)=1:=by
  unfold cf at u
  rw[aF (l:=R.getD i []),aJ (by omega)]at u
  exact u
 refine⟨?_,_,eN (show H i<(R.getD i []).length by omega),by rw[eu];decide⟩
 rw[List.findIdx_eq (by omega)]
 refine⟨by rw[eu];rfl,λj hj=>?_⟩
 have z:=I.z i hi j hj
 unfold cf at z
 rw[aF (l:=R.getD i []),aJ (by omega)]at z
 simpa using z
theorem pJ{a b:List Nat}{w:Nat}(ha:a.length=w)(hb:b.length=w)(h:∀k,k<w->cf a k=cf b k):a=b:=by
 refine yw (ha.trans hb.symm) λk h1 h2=>?_
 have:=h k (by omega)
 unfold cf at this
 rw[aF,aF,aJ h1,aJ h2]at this
 exact this
theorem uu(f:Nat->Nat){w k:Nat}(h:k<w):cf ((aw w).map f) k=f k:=by
 unfold cf
 rw[aF,bN,gI h];rfl
theorem sV(m:Bool × Nat){xs ys:List Nat}(h:xs.length=ys.length):gd m xs ys=sm (gp m) xs.length λj=>gm m (cf xs j) (cf ys j):=by
 unfold gd
 rw[cg0,qO,h,wz]
 refine cu λj hj=>?_
 unfold cf
 rw[aF,BC,aJ (by omega),aJ (by omega),aF,aJ (by omega),aF,aJ (by omega)]
 rfl
def cU(m:Bool × Nat)(xs:List Nat)(T:List (List Nat))(w:Nat):List Nat:=(aw w).map λk=>gd m xs (T.map λr=>r.getD k 0)
theorem vL{T:List (List Nat)}(k i:Nat):cf (T.map λr=>r.getD k 0) i=cf (T.getD i []) k:=by
 by_cases h:i<T.length
 ·exact jL (λr:List Nat=>r.getD k 0) h [] 0
 ·rw[sT (by rw[aR];omega),aF,gx (by omega)];rfl
theorem rD(m:Bool × Nat)(xs:List Nat)(T:List (List Nat))(w:Nat):(cU m xs T w).length=w:=by unfold cU;rw[aR,bC]
theorem sW(m:Bool × Nat){xs:List Nat}{T:List (List Nat)}{w k:Nat}(h:xs.length=T.length)(hk:k<w):cf (cU m xs T w) k=sm (gp m) T.length λi=>gm m (cf xs i) (cf (T.getD i []) k):=by
 unfold cU
 rw[uu _ hk,sV m (by rw[aR,h]),h]
 exact cu λj _=>by rw[vL]
theorem cB5{m:Bool × Nat}(hm:m∈aA){xs ys:List Nat}(h:xs.length=ys.length):gd m xs ys<aa m:=by
 rw[sV m h];exact qv (rg hm) λj _=>bX hm _ _
theorem Io{m:Bool × Nat}(hm:m∈aA){xs:List Nat}{T:List (List Nat)}(w:Nat)(h:xs.length=T.length):AllLt (aa m) (cU m xs T w):=λx hx=>by
 obtain⟨k,_,rfl⟩:=aT.mp hx
 exact cB5 hm (by rw[aR,h])
def aV(r:List Nat):Nat:=r.findIdx (· != 0)
theorem Df{α:Type}(a b:α->Nat){j:Nat}:∀(l:List α) (x:List Nat),(∀z∈l,a z≠j)->cf (l.foldl (λx z=>x.set (a z) (b z)) x) j=cf x j
 | [],_,_=>rfl
 | z::l,x,h=>by
  rw[uP,Df a b l _ λy hy=>h y (fH _ hy)]
  unfold cf
  rw[aF,tH (h z ir),<- aF]
theorem Rw{α:Type}(a b:α->Nat):∀(l:List α) (x:List Nat),l.Pairwise (λy z=>a y≠a z)->∀z∈l,a z<x.length->cf (l.foldl (λx z=>x.set (a z) (b z)) x) (a z)=b z
 | [],_,_,_,h,_=>nomatch h
 | y::l,x,hp,z,hz,hl=>by
  rw[uP]
  rw[Fj]at hp
  rcases cN.mp hz with rfl | hz
  ·rw[Df a b l _ λy hy=>iu (hp.1 y hy)]
   unfold cf
   rw[aF,EJ hl];rfl
  ·exact Rw a b l _ hp.2 z hz (by rw[uN];exact hl)
theorem Rx{α:Type}(a b:α->Nat):∀(l:List α) (x:List Nat),(l.foldl (λx z=>x.set (a z) (b z)) x).length=x.length
 | [],_=>rfl
 | z::l,x=>by rw[uP,Rx a b l,uN]
theorem cK1{m:Bool × Nat}(hm:m∈aA):∃e,e<aa m/\gp m 1 e=0/\e≠0/\∀{a b},a<aa m->b<aa m->(gp m a (gm m b e)=0↔a=b):=by
 have r:=rg hm
 obtain⟨e,he,h⟩:=r.ng (lo1 hm)
 refine⟨e,he,h,λz=>?_,λ{a b} ha hb=>?_⟩
 ·rw[z,r.z' (lo1 hm)]at h;omega
 ·have k:gp m b (gm m b e)=0:=by
   have:=r.dl b 1 e
   rw[h,r.qz,qp hb]at this
   exact this.symm
  exact⟨λh1=>r.Q2 ha hb (bX hm b e) (h1.trans k.symm),λh1=>h1 ▸ k⟩
def cV(T:List (List Nat)):List (List Nat):=(aw (af T)).map λj=>T.map λr=>r.getD j 0
theorem Ai{T:List (List Nat)}{a:Nat}(h:a<af T):(cV T).getD a []=T.map λr=>r.getD a 0:=by
 unfold cV
 rw[aF,bN,gI h];rfl
theorem uv{N:Nat}{T:List (List Nat)}(h0:0<N)(hw:0<af T)(hT:RT N (af T) T):(cV T).length=af T/\af (cV T)=T.length/\RT N T.length (cV T):=by
 have a:(cV T).length=af T:=by unfold cV;rw[aR,bC]
 have c:RT N T.length (cV T):=λr hr=>by
  obtain⟨j,_,rfl⟩:=aT.mp hr
  refine⟨aR _,λx hx=>?_⟩
  obtain⟨y,hy,rfl⟩:=aT.mp hx
  exact(hT y hy).2.getD h0 j
 refine⟨a,?_,c⟩
 have:=Ai hw
 have e:af (cV T)=((cV T).getD 0 []).length:=by
  unfold af
  cases cV T<;>rfl
 rw[e,this,aR]
def cL(T:List (List Nat))(w:Nat):List Nat:=(aw w).filter λj=>!(T.map aV).contains j
def fU(m:Bool × Nat)(T:List (List Nat))(w f:Nat):List Nat:=(((T.map aV).zip T).foldl (λx z=>x.set z.1 (bq m 0 (z.2.getD f 0))) ((aW w 0).set f 1))
def jM(m:Bool × Nat)(T:List (List Nat))(w:Nat):List (List Nat):=(cL T w).map (fU m T w)
theorem RR.heads{m:Bool × Nat}(hm:m∈aA){w:Nat}{R:List (List Nat)}{H:Nat->Nat}(hR:RT (aa m) w R)(I:RR w R H):R.map aV=(aw R.length).map H:=by
 refine yw (by rw[aR,aR,bC]) λi h1 h2=>?_
 rw[aR]at h1
 rw[tP,tP,BE,<- (I.Im hm hR h1).1,aF,aJ h1];rfl
theorem RR.mem{m:Bool × Nat}(hm:m∈aA){w:Nat}{R:List (List Nat)}{H:Nat->Nat}(hR:RT (aa m) w R)(I:RR w R H)(j:Nat):j∈R.map aV↔∃i,i<R.length/\H i=j:=by
 rw[I.heads hm hR,aT]
 exact⟨λ⟨i,a,b⟩=>⟨i,bw.mp a,b⟩,λ⟨i,a,b⟩=>⟨i,bw.mpr a,b⟩⟩
theorem RR.free{m:Bool × Nat}(hm:m∈aA){w:Nat}{R:List (List Nat)}{H:Nat->Nat}(hR:RT (aa m) w R)(I:RR w R H)(j:Nat):j∈cL R w↔j<w/\∀i,i<R.length->H i≠j:=by
 unfold cL
 rw[tG,bw,Bool.not_eq_true',<- Bool.not_eq_true,uU,I.mem hm hR]
 exact and_congr_right λ_=>⟨λh i a b=>h ⟨i,a,b⟩,λh ⟨i,a,b⟩=>h i a b⟩
theorem RR.Aj{m:Bool × Nat}(hm:m∈aA){w:Nat}{R:List (List Nat)}{H:Nat->Nat}(hR:RT (aa m) w R)(I:RR w R H):(cL R w).length+R.length=w:=by
 have nd:(R.map aV).Nodup:=by
  rw[I.heads hm hR]
  unfold List.Nodup
  rw[Fl]
  intro i j hi hj Ah
  rw[aR,bC]at hi hj
  rw[tP,tP,BE,BE]
  have:=I.i i j Ah hj
  omega
 have pe:((aw w).filter λj=>(R.map aV).contains j).Perm (R.map aV):=by
  refine(Yd (Nx _ yx) nd).mpr λj=>?_
  rw[tG,uU,bw]
  refine⟨λh=>h.2,λh=>⟨?_,h⟩⟩
  obtain⟨i,hi,rfl⟩:=(I.mem hm hR j).mp h
  exact I.l i hi
 have l1:=pe.length_eq
 rw[aR]at l1
 have l2:=List.length_eq_countP_add_countP (λj=>(R.map aV).contains j) (l:=aw w)
 rw[bC,Ny,Ny,l1]at l2
 unfold cL
 have e:((aw w).filter λa=>decide ¬(R.map aV).contains a=true)=(aw w).filter λj=>!(R.map aV).contains j:=List.filter_congr λx _=>by
  cases(R.map aV).contains x<;>rfl
 rw[e]at l2
 omega
theorem uw{m:Bool × Nat}(hm:m∈aA){w f:Nat}{R:List (List Nat)}{H:Nat->Nat}(hR:RT (aa m) w R)(I:RR w R H)(hf:f∈cL R w):(fU m R w f).length=w/\AllLt (aa m) (fU m R w f)/\cf (fU m R w f) f=1/\(∀i,i<R.length->cf (fU m R w f) (H i)=bq m 0 (cf (R.getD i []) f))/\∀j,j≠f->(∀i,i<R.length->H i≠j)->cf (fU m R w f) j=0:=by
 obtain⟨f1,f2⟩:=(I.free hm hR f).mp hf
 have l1:=lo1 hm
 have zl:((R.map aV).zip R).length=R.length:=by rw[Nr,aR,wz]
 have zg:∀i (h:i<R.length),((R.map aV).zip R)[i]'(by omega)=(H i,R.getD i []):=λi h=>by
  rw[List.getElem_zip,tP]
  have e:R.getD i []=R[i]:=by rw[aF,aJ h];rfl
  have:=(I.Im hm hR h).1
  rw[e]at this ⊢
  exact Prod.ext this rfl
 have zm:∀z∈(R.map aV).zip R,∃i,i<R.length/\z=(H i,R.getD i []):=λz hz=>by
  obtain⟨i,hi,rfl⟩:=jn hz
  exact⟨i,by omega,zg i (by omega)⟩
 have mz:∀i,i<R.length->(H i,R.getD i [])∈(R.map aV).zip R:=λi h=>by
  rw[<-zg i h];exact eN _
 have bd:∀z∈(R.map aV).zip R,bq m 0 (z.2.getD f 0)<aa m:=λz hz=>by
  obtain⟨i,hi,rfl⟩:=zm z hz
  exact(kS hm (by omega) (cF hm (hR _ (bT hi [])).2 f)).2.1
 refine⟨?_,?_,?_,λi hi=>?_,λj hj hj2=>?_⟩
 ·unfold fU
  rw[Rx (λz:Nat × List Nat=>z.1) (λz=>bq m 0 (z.2.getD f 0)),uN,gH]
 ·have key:∀(l:List (Nat × List Nat)) (x:List Nat),(∀z∈l,bq m 0 (z.2.getD f 0)<aa m)->AllLt (aa m) x->AllLt (aa m) (l.foldl (λx z=>x.set z.1 (bq m 0 (z.2.getD f 0))) x):=by
   intro l
   induction l with
   | nil=>exact λx _ h=>h
   | cons z l ih =>
    intro x hz h
    rw[uP]
    refine ih _ (λy hy=>hz y (fH _ hy)) λy hy=>?_
    rcases Nm hy with h1 | h1
    ·exact h y h1
    ·rw[h1];exact hz z ir
  refine key _ _ bd λx hx=>?_
  rcases Nm hx with h1 | h1
  ·rw[(wu.mp h1).2];omega
  ·omega
 ·unfold fU
  rw[Df (λz:Nat × List Nat=>z.1) (λz=>bq m 0 (z.2.getD f 0)) _ _ λz hz=>?_]
  ·unfold cf
   rw[aF,EJ (by rw[gH];exact f1)];rfl
  ·obtain⟨i,hi,rfl⟩:=zm z hz
   exact f2 i hi
 ·have hp:((R.map aV).zip R).Pairwise (λy z:Nat × List Nat=>y.1≠z.1):=by
   rw[Fl]
   intro i j hi hj Ah
   rw[zg i (by omega),zg j (by omega)]
   have:=I.i i j Ah (by omega)
   show H i≠H j
   omega
  exact Rw (λz:Nat × List Nat=>z.1) (λz=>bq m 0 (z.2.getD f 0)) _ _ hp _ (mz i hi) (by rw[uN,gH];exact I.l i hi)
 ·unfold fU
  rw[Df (λz:Nat × List Nat=>z.1) (λz=>bq m 0 (z.2.getD f 0)) _ _ λz hz=>?_]
  ·unfold cf
   rw[aF,tH (iu hj),yn]
   split<;>rfl
  ·obtain⟨i,hi,rfl⟩:=zm z hz
   exact hj2 i hi
theorem cx0{N:Nat}{p q:Nat->Nat->Nat}(r:Rg N p q){f:Nat->Nat}{a b n:Nat}(ha:a<n)(hb:b<n)(hn:a≠b)(fa:f a<N)(fb:f b<N)(hz:∀j,j<n->j≠a->j≠b->f j=0):sm p n f=p (f a) (f b):=by
 have h1:=qE r (f:=λj=>if j=a then f a else 0) (j0:=a) (n:=n) (by rw[if_pos rfl];exact fa) ha λj _ h=>if_neg h
 have h2:=qE r (f:=λj=>if j=b then f b else 0) (j0:=b) (n:=n) (by rw[if_pos rfl];exact fb) hb λj _ h=>if_neg h
 rw[if_pos rfl]at h1 h2
 rw[<-h1,<- h2,<- qw r]
 refine cu λj hj=>?_
 by_cases ja:j=a
 ·rw[if_pos ja,if_neg (by omega),r.z' fa,ja]
 ·by_cases jb:j=b
  ·rw[if_neg ja,if_pos jb,r.z fb,jb]
  ·rw[if_neg ja,if_neg jb,hz j hj ja jb,r.z r.pos]
def dt(m:Bool × Nat)(w:Nat)(x y:Nat->Nat):Nat:=sm (gp m) w λj=>gm m (x j) (y j)
theorem Ry{m:Bool × Nat}(hm:m∈aA)(w:Nat)(x y z:Nat->Nat):dt m w x (λk=>gp m (y k) (z k))=gp m (dt m w x y) (dt m w x z):=by
 have r:=rg hm
 unfold dt
 rw[<-qw r]
 exact cu λj _=>r.dl _ _ _
theorem Rz{m:Bool × Nat}(hm:m∈aA)(w c:Nat)(x y:Nat->Nat):dt m w x (λk=>gm m c (y k))=gm m c (dt m w x y):=by
 have r:=rg hm
 have m0:=cq m hm
 unfold dt
 rw[<-sU r]
 exact cu λj _=>by rw[<-iP m0,fS m (x j),iP m0]
theorem Ip{m:Bool × Nat}(hm:m∈aA)(w:Nat)(x:Nat->Nat)(c:Nat->Nat)(F:Nat->Nat->Nat):∀n,dt m w x (λk=>sm (gp m) n λi=>gm m (c i) (F i k))=sm (gp m) n λi=>gm m (c i) (dt m w x (F i))
 | 0=>fE (rg hm) λj _=>(rg hm).qz _
 | n+1=>by
  rw[sm,<- Ip hm w x c F n,<- Rz hm,<- Ry hm];rfl
theorem Iq{m:Bool × Nat}(hm:m∈aA){w f:Nat}{R:List (List Nat)}{H:Nat->Nat}(hR:RT (aa m) w R)(I:RR w R H)(hf:f∈cL R w){i:Nat}(hi:i<R.length):dt m w (cf (R.getD i [])) (cf (fU m R w f))=0:=by
 have r:=rg hm
 obtain⟨f1,f2⟩:=(I.free hm hR f).mp hf
 obtain⟨k1,k2,k3,k4,k5⟩:=uw hm hR I hf
 have il:=cF hm (hR _ (bT hi [])).2
 have g:=kS hm (a:=0) r.pos (il f)
 unfold dt
 rw[cx0 r (f:=λj=>gm m (cf (R.getD i []) j) (cf (fU m R w f) j)) (a:=H i) (b:=f) (I.l i hi) f1 (f2 i hi) (bX hm _ _) (bX hm _ _) λj hj ja jb=>?_]
 ·rw[k3,k4 i hi,I.u i i hi hi,if_pos rfl,sR g.2.1,qp (il f)]
  exact g.2.2
 ·by_cases c:∃i',i'<R.length/\H i'=j
  ·obtain⟨i',h1,rfl⟩:=c
   rw[I.u i i' hi h1,if_neg (λz:i=i'=>ja (by rw[z])),fC m _ (cq m hm)]
  ·rw[k5 j jb λi' h1 h2=>c ⟨i',h1,h2⟩,r.qz]
theorem b9.dt{m:Bool × Nat}(hm:m∈aA){R:List (List Nat)}{n:Nat}{y:Nat->Nat}(h:∀i,i<R.length->dt m n (cf (R.getD i [])) y=0){f:Nat->Nat}(s:b9 m R f):dt m n f y=0:=by
 refine s.ann hm λx hx=>?_
 obtain⟨i,hi,rfl⟩:=jn hx
 have:=h i hi
 rw[aF,aJ hi]at this
 exact this
theorem RR.RA{m:Bool × Nat}(hm:m∈aA){w:Nat}{R:List (List Nat)}{H:Nat->Nat}(hR:RT (aa m) w R)(I:RR w R H){z:Nat->Nat}(hz:∀k,z k<aa m)(h:∀i,i<R.length->dt m w (cf (R.getD i [])) z=0){k:Nat}(hk:k<w):z k=sm (gp m) (cL R w).length λa=>gm m (z ((cL R w).getD a 0)) (cf (fU m R w ((cL R w).getD a 0)) k):=by
 have r:=rg hm
 have m0:=cq m hm
 obtain⟨e,e1,e2,e3,e4⟩:=cK1 hm
 let z':=λk=>sm (gp m) (cL R w).length λa=>gm m (z ((cL R w).getD a 0)) (cf (fU m R w ((cL R w).getD a 0)) k)
 have Ak:∀k,z' k<aa m:=λk=>qv r λ_ _=>bX hm _ _
 let d:=λk=>gp m (z k) (gm m e (z' k))
 have dk:∀k,d k=0↔z k=z' k:=λk=>by
  show gp m (z k) (gm m e (z' k))=0↔_
  rw[fS m e]
  exact e4 (hz k) (Ak k)
 have dz:∀i,i<R.length->dt m w (cf (R.getD i [])) d=0:=λi hi=>by
  show dt m w (cf (R.getD i [])) (λk=>gp m (z k) (gm m e (z' k)))=0
  rw[Ry hm,Rz hm,h i hi,Ip hm,fE r λa ha=>?_,r.qz,r.z r.pos]
  rw[Iq hm hR I (bT ha 0) hi,r.qz]
 have zf:∀f,f∈cL R w->z' f=z f:=λf hf=>by
  obtain⟨a,ha,rfl⟩:=jn hf
  have ea:(cL R w)[a]=(cL R w).getD a 0:=by rw[aF,aJ ha];rfl
  show sm (gp m) (cL R w).length (λb=>gm m (z ((cL R w).getD b 0)) (cf (fU m R w ((cL R w).getD b 0)) _))=_
  rw[ea,qE r (f:=λb=>gm m (z ((cL R w).getD b 0)) (cf (fU m R w ((cL R w).getD b 0)) ((cL R w).getD a 0))) (bX hm _ _) ha λb hb hn=>?_]
  ·rw[(uw hm hR I (bT ha 0)).2.2.1,qp (hz _)]
  ·have nd:(cL R w).Nodup:=Nx _ yx
   rw[(uw hm hR I (bT hb 0)).2.2.2.2 _ ?_ ((I.free hm hR _).mp (bT ha 0)).2,r.qz]
   intro c
   rw[aF,aJ ha,aF,aJ hb]at c
   exact hn ((Bl nd).mp (de (congrArg some c))).symm
 have key:d k=0:=by
  by_cases c:∃i,i<R.length/\H i=k
  ·obtain⟨i,hi,rfl⟩:=c
   have:=dz i hi
   unfold dt at this
   rw[qE r (f:=λj=>gm m (cf (R.getD i []) j) (d j)) (j0:=H i) (bX hm _ _) hk λj hj hn=>?_,I.u i i hi hi,if_pos rfl,sR (r.lp (hz _) (bX hm _ _))]at this
   ·exact this
   ·by_cases c:∃i',i'<R.length/\H i'=j
    ·obtain⟨i',h1,rfl⟩:=c
     rw[I.u i i' hi h1,if_neg (λz:i=i'=>hn (by rw[z])),fC m _ m0]
    ·have hf:=(I.free hm hR j).mpr ⟨hj,λi' h1 h2=>c ⟨i',h1,h2⟩⟩
     have:d j=0:=(dk j).mpr (zf j hf).symm
     rw[this,r.qz]
  ·have hf:=(I.free hm hR k).mpr ⟨hk,λi' h1 h2=>c ⟨i',h1,h2⟩⟩
   exact(dk k).mpr (zf k hf).symm
 exact(dk k).mp key
theorem Al{N n:Nat}{M:List (List Nat)}(h:RT N n M)(h0:M≠[]):af M=n:=by
 cases M with
 | nil=>exact absurd rfl h0
 | cons g M=>exact(h g ir).1
theorem RB{m:Bool × Nat}(hm:m∈aA){n:Nat}{M:List (List Nat)}(h:RT (aa m) n M)(hl:M.length<n):∃(x:Nat->Nat) (f:Nat),f<n/\(∀k,x k<aa m)/\x f=1/\∀i,i<M.length->dt m n (cf (M.getD i [])) x=0:=by
 by_cases h0:M=[]
 ·subst h0
  exact⟨λ_=>1,0,hl,λ_=>lo1 hm,rfl,λi hi=>nomatch hi⟩
 ·have hw:=Al h h0
  obtain⟨⟨H,I⟩,iR,il,sp⟩:=jj hm (G:=M) (by rw[hw];exact h)
  rw[hw]at I iR
  have fl:=I.Aj hm iR
  have f0:0<(cL (bL m M) n).length:=by omega
  have hf:=bT f0 0
  obtain⟨k1,k2,k3,k4,k5⟩:=uw hm iR I hf
  refine⟨cf (fU m (bL m M) n ((cL (bL m M) n).getD 0 0)),_,((I.free hm iR _).mp hf).1,cF hm k2,k3,λi hi=>?_⟩
  exact b9.dt hm (λi' g9=>Iq hm iR I hf g9) ((sp _).mp (b9.of (bT hi [])))
theorem RR.Dg{m:Bool × Nat}(hm:m∈aA){w v:Nat}{S R:List (List Nat)}{H:Nat->Nat}(hS:RT (aa m) w S)(I:RR w S H)(hR:RT (aa m) v R)(h:∀i,i<S.length->b9 m R (cf (S.getD i []))):S.length<=R.length:=by
 have r:=rg hm
 refine M4 λhl=>?_
 have hc:∀i,∃c:Nat->Nat,i<S.length->(∀j,c j<aa m)/\∀k,cf (S.getD i []) k=sm (gp m) R.length λj=>gm m (c j) (cf (R.getD j []) k):=λi=>by
  by_cases hi:i<S.length
  ·obtain⟨c,a,b⟩:=(h i hi).sum hm hR
   exact⟨c,λ_=>⟨a,b⟩⟩
  ·exact⟨λ_=>0,λz=>absurd z hi⟩
 obtain⟨C,hC⟩:=Classical.axiomOfChoice hc
 have cl:∀i,i<S.length->∀j,C i j<aa m:=λi hi=>(hC i hi).1
 obtain⟨x,f,f1,x1,x2,x3⟩:=RB hm (n:=S.length) (M:=(aw R.length).map λj=>(aw S.length).map λi=>C i j) (λy hy=>by
  obtain⟨j,_,rfl⟩:=aT.mp hy
  refine⟨by rw[aR,bC],λz hz=>?_⟩
  obtain⟨i,hi,rfl⟩:=aT.mp hz
  exact cl i (bw.mp hi) j) (by rw[aR,bC];exact hl)
 rw[aR,bC]at x3
 have x4:∀j,j<R.length->sm (gp m) S.length (λi=>gm m (C i j) (x i))=0:=λj hj=>by
  rw[<-x3 j hj]
  refine cu λi hi=>?_
  rw[jL (λj=>(aw S.length).map λi=>C i j) (by rw[bC];exact hj) 0 [],uu _ hi,aF,gI hj];rfl
 have x5:∀k,sm (gp m) S.length (λi=>gm m (x i) (cf (S.getD i []) k))=0:=λk=>by
  rw[cu (g:=λi=>sm (gp m) R.length λj=>gm m (gm m (C i j) (x i)) (cf (R.getD j []) k)) λi hi=>?_,Q3 r,fE r λj hj=>?_]
  ·rw[cu (g:=λi=>gm m (cf (R.getD j []) k) (gm m (C i j) (x i))) λi hi=>fS m _ _,sU r,x4 j hj,r.qz]
  ·rw[(hC i hi).2 k,<- sU r]
   exact cu λj _=>by rw[<-iP (cq m hm),fS m (x i)]
 have:=x5 (H f)
 rw[qE r (f:=λi=>gm m (x i) (cf (S.getD i []) (H f))) (bX hm _ _) f1 λj hj hn=>by rw[I.u j f hj f1,if_neg hn,r.qz],I.u f f f1 f1,if_pos rfl,x2,sR (lo1 hm)]at this
 omega
theorem Sp.sm{N:Nat}{p q:Nat->Nat->Nat}{S:(Nat->Nat)->Prop}{c:Nat->Nat}{F:Nat->Nat->Nat}:∀{n:Nat},(∀i,i<n->c i<N)->(∀i,i<n->Sp N p q S (F i))->Sp N p q S λk=>L3.sm p n λi=>q (c i) (F i k)
 | 0,_,_=>.zero
 | n+1,hc,h=>.add (Sp.sm (λi hi=>hc i (by omega)) λi hi=>h i (by omega)) (.mul _ (hc n (by omega)) (h n (by omega)))
theorem RC{m:Bool × Nat}(hm:m∈aA){v:Nat}{G R:List (List Nat)}(hG:RT (aa m) (af G) G)(hR:RT (aa m) v R)(h:∀i,i<G.length->b9 m R (cf (G.getD i []))):(bL m G).length<=R.length:=by
 obtain⟨⟨H,I⟩,iR,il,sp⟩:=jj hm hG
 refine I.Dg hm iR hR λi hi=>?_
 refine Sp.trans (λf hf=>?_) ((sp _).mpr (b9.of (bT hi [])))
 obtain⟨x,hx,rfl⟩:=hf
 obtain⟨i,hi,rfl⟩:=jn hx
 have:=h i hi
 rw[aF,aJ hi]at this
 exact this
theorem Am{T:List (List Nat)}{i:Nat}(h:i<T.length):T.getD i []=T[i]:=by rw[aF,aJ h];rfl
theorem RD{m:Bool × Nat}(hm:m∈aA){G:List (List Nat)}(hw:0<af G)(hG:RT (aa m) (af G) G):(bL m (cV G)).length<=(bL m G).length:=by
 have l0:0<aa m:=by have:=lo1 hm;omega
 obtain⟨t1,t2,t3⟩:=uv l0 hw hG
 obtain⟨⟨H,I⟩,iR,il,sp⟩:=jj hm hG
 have r:=rg hm
 have hC:=RC hm (G:=cV G) (R:=(aw (bL m G).length).map λi=>G.map λx=>x.getD (H i) 0) (v:=G.length) (by rw[t2];exact t3) (λy hy=>by
  obtain⟨i,_,rfl⟩:=aT.mp hy
  refine⟨aR _,λz hz=>?_⟩
  obtain⟨x,hx,rfl⟩:=aT.mp hz
  exact(hG x hx).2.getD l0 _) λk hk=>?_
 ·rw[aR,bC]at hC
  exact hC
 ·rw[Ai (by omega)]
  have e:cf (G.map λx=>x.getD k 0)=λa=>sm (gp m) (bL m G).length λi=>gm m (cf ((bL m G).getD i []) k) (cf (G.map λx=>x.getD (H i) 0) a):=funext λa=>by
   rw[vL]
   by_cases ha:a<G.length
   ·rw[I.own hm iR ((sp _).mp (b9.of (bT ha []))) k]
    exact cu λi _=>by rw[vL,fS]
   ·rw[aF,gx (by omega),fE r λi _=>?_]
    ·rfl
    ·rw[sT (l:=G.map _) (by rw[aR];omega),r.qz]
  rw[e]
  refine Sp.sm (λi hi=>cF hm (iR _ (bT hi [])).2 _) λi hi=>b9.of (aT.mpr ⟨i,bw.mpr hi,rfl⟩)
theorem cs9{N:Nat}{G:List (List Nat)}(h0:0<N)(hw:0<af G)(hG:RT N (af G) G):cV (cV G)=G:=by
 obtain⟨t1,t2,t3⟩:=uv h0 hw hG
 have hg:0<G.length:=by
  cases G with
  | nil=>exact absurd hw (by decide)
  | cons _ _=>exact yy _
 obtain⟨s1,s2,s3⟩:=uv (T:=cV G) h0 (by omega) (by rw[t2];exact t3)
 refine yw (by omega) λa h1 h2=>?_
 rw[<-Am h1,<- Am h2,Ai (by omega)]
 refine pJ (w:=af G) (by rw[aR,t1]) (hG _ (bT h2 [])).1 λk hk=>?_
 rw[vL,Ai hk,vL]
theorem b40{m:Bool × Nat}(hm:m∈aA){G:List (List Nat)}(hw:0<af G)(hG:RT (aa m) (af G) G):(bL m (cV G)).length=(bL m G).length:=by
 have l0:0<aa m:=by have:=lo1 hm;omega
 obtain⟨t1,t2,t3⟩:=uv l0 hw hG
 have hg:0<G.length:=by
  cases G with
  | nil=>exact absurd hw (by decide)
  | cons _ _=>exact yy _
 have a:=RD hm hw hG
 have b:=RD hm (G:=cV G) (by omega) (by rw[t2];exact t3)
 rw[cs9 l0 hw hG]at b
 omega
theorem b9.red{m:Bool × Nat}(hm:m∈aA){G:List (List Nat)}(hG:RT (aa m) (af G) G){f:Nat->Nat}(h:b9 m G f):b9 m (bL m G) f:=((jj hm hG).2.2.2 f).mp h
end L3
namespace L3
open PySem L2 PySem.Spec PyProof.Rows
section
variable{X:Cx}{F H:Hp}{e b:Expr}{pos pos' p p2 p3 apos bJ:Pos}{ti te:aI}{x y:Str}{i j:Nat}
end
section
variable{X:Cx}
end
section
variable{X:Cx}{es:List Expr}{tr:cJ}{pos:Pos}
end
end L3
namespace L3
open PySem L2 Mf
theorem Ir(a b:List Nat)(k:Nat):cf (a++b) k=if k<a.length then cf a k else cf b (k-a.length):=by
 unfold cf
 rw[aF,List.getElem?_append]
 split<;>rw[aF]
end L3
namespace L2
open PySem PySem.Spec PyProof.Rows
section
variable{X:Cx}
end
end L2
namespace L3
open PySem L2 PySem.Spec PyProof.Rows
section
variable{X:Cx}
end
end L3
namespace L2
open PySem PySem.Spec PyProof.Rows
section
variable{X:Cx}{a:Expr}{ta:TE}{p p2 pos jN:Pos}
def tLR(ta:TE):TE:=λσ H Q=>ta σ H λv H1=>∃j:Nat,v=.int (j:Int)/\j<=1000/\∀l,H1 l=none->Q (.ref l) (upd H1 l (.lst ((aw j).map λ(k:Nat)=>V.int (k:Int))))
theorem bS5{n:Nat}{acc:Array Value}(h:ItemsOf (λ(i:Nat) (v:Value)=>∃t,v=rM ((0:Int)+(i:Int)*1) t) acc n):Vals ((aw n).map λ(k:Nat)=>V.int (k:Int)) acc.toList:=by
 have key:∀(l:List Value) (b:Nat),(∀(i:Nat) (v:Value),l[i]?=some v->∃t,v=rM ((b+i:Nat):Int) t)->Vals ((List.range' b l.length).map λ(k:Nat)=>V.int (k:Int)) l:=by
  intro l
  induction l with
  | nil=>exact λb _=>.nil
  | cons v l ih =>
   intro b hb
   rw[eK,List.range'_succ,bR]
   refine .cons ?_ (ih (b+1) λi v hv=>?_)
   ·obtain⟨t,rfl⟩:=hb 0 v rfl
    exact⟨t,rfl⟩
   ·obtain⟨t,e⟩:=hb (i+1) v (by simpa using hv)
    exact⟨t,by rw[e];congr 1;omega⟩
 have hl:acc.toList.length=n:=by rw[wc];exact h.1
 rw[List.range_eq_range',<- hl]
 refine key acc.toList 0 λi v hv=>?_
 obtain⟨t,e⟩:=h.2 i v (by simpa using hv)
 exact⟨t,by rw[e];congr 1;omega⟩
theorem bB3(hc:X.calm=true)(hg:Gl X "list")(hm:X.mg "list"=none)(zL:Gl X "range")(ug:X.mg "range"=none)(ha:PE X a ta)
  (hs:starEach [.Call (.Name "range" p2) [a] [] jN] X.env=(false,eval (.Call (.Name "range" p2) [a] [] jN) X.env)::starEach [] X.env:=by rfl) (bU:(backTo pos (starEach [] X.env)).any (·.1)=false:=by rfl)
  (dD:starEach [a] X.env=(false,eval a X.env)::starEach [] X.env:=by rfl) (Iu:(backTo jN (starEach [] X.env)).any (·.1)=false:=by rfl) (Iw:starEach [] X.env=[]:=by rfl) :
  PE X (.Call (.Name "list" p) [.Call (.Name "range" p2) [a] [] jN] [] pos) (tLR ta):=by
 intro pins s σ H Q I h
 refine wpAny_Call_Name_kw (rW I hg hm zc ?_ (by decide) (by decide))
 refine we ?_ hs bU
 rw[hs]
 show wpAny _ _ (spliced ((false,eval (.Call (.Name "range" p2) [a] [] jN) X.env)::backTo pos (starEach [] X.env))) _ _ s
 refine M3 ?_
 refine wpAny_Call_Name_kw (rW I zL ug cd4 ?_ (by decide) (by decide))
 refine we ?_ dD Iu
 rw[dD]
 show wpAny _ _ (spliced ((false,eval a X.env)::backTo jN (starEach [] X.env))) _ _ s
 refine M3 (aN (ha pins s σ H _ I h) λu s1 zz=>?_)
 obtain⟨x,H1,I1,r1,q1⟩:=zz
 obtain⟨j,rfl,hj,q⟩:=q1
 obtain⟨t,rfl⟩:=r1
 rw[Iw]
 refine M1 ?_
 refine call_range_1 ?_
 refine M1 ?_
 have I2:Inv X pins σ H1 { s1 with heap:=s1.heap.push { cls:=.type "range",data:=.fields #[.int 0 s1.toks,.int j t,.int 1 (s1.toks+1)] },toks:=s1.toks+1+1 }:=I1.kept λb o e=>gh _ e
 refine call_list_range (n:=j) (I2.ok.hd hc) (IsRange.new ..) (small_one (by omega) (by omega) (by omega) (by omega)) (by rw[rangeSize_one];split<;>omega) (by omega) λh' tk dl2 c' kp e zB=>?_
 have hv:=bS5 zB
 exact⟨.ref _,_,I2.laid (t':=tk) kp (by omega) (show fc X.prog X.w _ h' _ (.lst _) from⟨by rw[aR,bC];have:=tX;unfold sizeLine;omega,dl2.toList,c',hv,by simpa using e⟩),rfl,q _ (I2.aK.fresh (bG _))⟩
end
end L2
namespace L3
open PySem L2 PySem.Spec PyProof.Rows
section
variable{X:Cx}{a:Expr}{t:aI}{p p2 pos jN:Pos}
def nE(t:aI):aI:=λδ Q=>t δ λd aj=>∃j:Nat,d=.int (j:Int)/\j<=1000/\Q (.lst true (ay (aw j))) aj
theorem bI1(hc:X.calm=true)(hg:Gl X "list")(hm:X.mg "list"=none)(zL:Gl X "range")(ug:X.mg "range"=none)(ha:PE X a (lB t))
  (hs:starEach [.Call (.Name "range" p2) [a] [] jN] X.env=(false,eval (.Call (.Name "range" p2) [a] [] jN) X.env)::starEach [] X.env:=by rfl) (bU:(backTo pos (starEach [] X.env)).any (·.1)=false:=by rfl)
  (dD:starEach [a] X.env=(false,eval a X.env)::starEach [] X.env:=by rfl) (Iu:(backTo jN (starEach [] X.env)).any (·.1)=false:=by rfl) (Iw:starEach [] X.env=[]:=by rfl) :
  PE X (.Call (.Name "list" p) [.Call (.Name "range" p2) [a] [] jN] [] pos) (lE (nE t)) :=
 dj (bB3 hc hg hm zL ug ha hs bU dD Iu Iw) λσ H Q zq=>by
 obtain⟨B,F,δ,ts,Qd,c,q,k⟩:=zq
 exact⟨B,F,δ,ts,_,c,q,λd aj v F1 H1 q1 f1 h1 c1 s1=>by
  obtain⟨j,rfl,hj,hq⟩:=q1
  cases s1
  refine⟨j,rfl,hj,λl hl=>?_⟩
  have sn:∀ns:List Nat,S F1 H1 (ay ns) (ns.map λ(k:Nat)=>V.int (k:Int)):=λns=>by
   induction ns with
   | nil=>exact .nil
   | cons n ns ih=>exact .int ih
  exact k _ aj _ F1 _ hq f1 (h1.trans (ag.upd hl)) (c1.rh hl (sn _) (je _))⟩
end
section
variable{F H:Hp}
end
section
variable{X:Cx}{e:Expr}{t:aI}{p2 pos:Pos}
end
section
variable{F H:Hp}
end
section
variable{P:Program}{w:World}{K:PySem.W.Frag}{mg:Str->Option Value}{base:Heap}
end
section
variable{X:Cx}{CX:fg}{n i:Nat}{f:Addr}{fd:FuncData}{ps:List Str}{sp:bg}{E:XK}{fn x:Str}{e:Expr}{te:aI}{p p2 pos pos' jN:Pos}
end
end L3
namespace L2
section
variable{α:Type}{P:List α->Prop}
theorem cF2(h:P []):∀us:List α,us.length=0->P us:=by
 intro us hl;rcases us with _ | ⟨a,t⟩
 ·exact h
 ·cases hl
theorem fV(h:∀a,P [a]):∀us:List α,us.length=1->P us:=by
 intro us hl;rcases us with _ | ⟨a,t⟩
 ·cases hl
 ·exact cF2 (P:=λt=>P (a::t)) (h a) t (BF hl)
theorem eX(h:∀a b,P [a,b]):∀us:List α,us.length=2->P us:=by
 intro us hl;rcases us with _ | ⟨a,t⟩
 ·cases hl
 ·exact fV (P:=λt=>P (a::t)) (h a) t (BF hl)
theorem jO(h:∀a b c,P [a,b,c]):∀us:List α,us.length=3->P us:=by
 intro us hl;rcases us with _ | ⟨a,t⟩
 ·cases hl
 ·exact eX (P:=λt=>P (a::t)) (h a) t (BF hl)
theorem vM(h:∀a b c d,P [a,b,c,d]):∀us:List α,us.length=4->P us:=by
 intro us hl;rcases us with _ | ⟨a,t⟩
 ·cases hl
 ·exact jO (P:=λt=>P (a::t)) (h a) t (BF hl)
theorem RE(h:∀a b c d e,P [a,b,c,d,e]):∀us:List α,us.length=5->P us:=by
 intro us hl;rcases us with _ | ⟨a,t⟩
 ·cases hl
 ·exact vM (P:=λt=>P (a::t)) (h a) t (BF hl)
end
end L2
namespace L3
open PySem L2 PySem.Spec PyProof.Rows
section
variable{B:Bs}{F H:Hp}{σ:L2.St}{δ:Dl}{ts:List (D × V)}
theorem ak.apart{j:Nat}{p q:Addr}{xs ys:List D}(c:ak B F H σ δ ((.lst true xs,.ref q)::ts))(e:δ[j]?=some (some (.lst true ys)))(e2:σ[j]?=some (some (.ref p))):p≠q:=by
 obtain⟨A,C,r,s,nd,fr⟩:=c.own
 obtain⟨v,A',C',e1,h1,h2,pm⟩:=s.pick e
 rw[e2]at e1;cases e1
 intro z
 subst z
 have i1:p∈A:=by
  cases r with
  | own h f x r=>simp
 have i2:p∈C:=by
  refine pm.mem_iff.mpr ?_
  cases h1 with
  | own h f x r=>simp
 exact(i5.mp nd).2.2 p i1 i2
theorem Iy{α β:Type}(f:α->β):∀(l:List α) (z:Nat),(l.map f).eraseIdx z=(l.eraseIdx z).map f
 | [],_=>rfl
 | _::_,0=>rfl
 | a::l,z+1=>congrArg (f a :: ·) (Iy f l z)
theorem RF(F H:Hp):∀ns:List Int,R F H (ax ns) (ns.map V.int) []
 | []=>.nil
 | _::ns=>.int (RF F H ns)
end
section
variable{X:Cx}{elt iter tg:Expr}{pos:Pos}{scope:Scope}{cl:List (Str × Addr)}{ti:kq}{te:aI}{g:i8}
end
end L3
namespace L2
open PySem PySem.Spec PyProof.Rows
section
variable{X:Cx}
end
end L2
namespace L3
open PySem L2 PySem.Spec PyProof.Rows
section
variable{X:Cx}
end
end L3
namespace L3
open PySem L2 Mf
theorem Dh{m:Bool × Nat}(hm:m∈aA){a b:Nat}(ha:a<aa m)(hb:b<aa m):gm m a b=0↔a=0\/b=0:=by
 constructor
 ·intro h
  by_cases a0:a=0
  ·exact .inl a0
  ·by_cases b0:b=0
   ·exact .inr b0
   ·exact absurd h (cM1 hm (by omega) ha (by omega) hb)
 ·rintro (rfl | rfl)
  ·exact fC m _ (cq m hm)
  ·exact ig m _ (cq m hm)
theorem RG{m:Bool × Nat}(hm:m∈aA)(x:Nat->Nat)(hx:∀j,x j<aa m):∀(n:Nat) (c:Nat->Nat),(∀j,c j<aa m)->(∀i j,i<n->j<n->x i=x j->i=j)->(∀i,i<n->sm (gp m) n (λj=>gm m (c j) (px m (x j) i))=0)->∀j,j<n->c j=0
 | 0,_,_,_,_,j,hj=>absurd hj (by omega)
 | n+1,c,hc,hd,h,j,hj=>by
  have r:=rg hm
  have h0:=cq m hm
  have fv:=lo1 hm
  have dn:∀j,bq m (x j) (x n)<aa m/\gp m (bq m (x j) (x n)) (x n)=x j:=λj=>(kS hm (hx j) (hx n)).2
  have key:∀i,i<n->sm (gp m) n (λj=>gm m (gm m (c j) (bq m (x j) (x n))) (px m (x j) i))=0:=λi hi=>by
   have h1:=h (i+1) (by omega)
   have hz:=h i (by omega)
   have e:∀j,gm m (c j) (px m (x j) (i+1))=gp m (gm m (gm m (c j) (bq m (x j) (x n))) (px m (x j) i)) (gm m (x n) (gm m (c j) (px m (x j) i))):=λj=>by
    show gm m (c j) (gm m (px m (x j) i) (x j))=_
    have e1:gm m (px m (x j) i) (x j)=gm m (px m (x j) i) (gp m (bq m (x j) (x n)) (x n)):=by rw[(dn j).2]
    rw[e1,z9 h0,z9 h0]
    congr 1
    ·rw[iP h0,fS m (px m (x j) i)]
    ·rw[fS m (px m (x j) i),<- iP h0,fS m (c j),iP h0]
   rw[cu λj _=>e j,qw r,sU r,hz,r.qz]at h1
   have ln:sm (gp m) n (λj=>gm m (gm m (c j) (bq m (x j) (x n))) (px m (x j) i))<aa m:=qv r λ_ _=>bX hm _ _
   rw[sm,CY,ig m _ h0,fC m _ h0,qt ln,qt ln]at h1
   exact h1
  have ih:=RG hm x hx n (λj=>gm m (c j) (bq m (x j) (x n))) (λ_=>bX hm _ _) (λi j hi hj=>hd i j (by omega) (by omega)) key
  have cz:∀j,j<n->c j=0:=λj hj=>by
   rcases(Dh hm (hc j) (dn j).1).mp (ih j hj)with z | z
   ·exact z
   ·have:=(dn j).2
    rw[z,Aa (hx n)]at this
    exact absurd (hd n j (by omega) (by omega) this) (by omega)
  by_cases c0:j<n
  ·exact cz j c0
  ·have ej:j=n:=by omega
   subst ej
   have:=h 0 (by omega)
   rw[sm,fE r λi hi=>by rw[cz i hi,fC m _ h0]]at this
   rw[show px m (x j) 0=1 from rfl,qp (hc j),Aa (hc j)]at this
   exact this
theorem bV1(l:List Nat):ay l=ax (l.map λ(n:Nat)=>(n:Int)):=by rw[dF];unfold ax;rw[bO];rfl
def fW(m:Bool × Nat)(b:Nat)(ps:List Nat)(n:Nat):List (List Nat):=(aw n).map λ(i:Nat)=>ps.map λ(p:Nat)=>eS m (((b:Int)+(i:Int))*(p:Int))
theorem Iz{m:Bool × Nat}(hm:m∈aA)(b:Nat)(ps:List Nat)(n:Nat):RT (aa m) ps.length (fW m b ps n)/\(fW m b ps n).length=n:=by
 refine⟨λr hr=>?_,by unfold fW;rw[aR,bC]⟩
 obtain⟨i,_,rfl⟩:=aT.mp hr
 refine⟨by rw[aR],λx hx=>?_⟩
 obtain⟨p,_,rfl⟩:=aT.mp hx
 exact HS hm _
theorem cn7{m:Bool × Nat}{b:Nat}{ps:List Nat}{n a:Nat}(ha:a<n):(fW m b ps n).getD a []=ps.map λ(p:Nat)=>eS m (((b:Int)+(a:Int))*(p:Int)):=by
 unfold fW
 rw[aF,bN,gI ha];rfl
theorem cG3{m:Bool × Nat}(hm:m∈aA){a b:Nat}(ha:a+1<aa m)(hb:b+1<aa m)(h:eS m (a:Int)=eS m (b:Int)):a=b:=by
 have h1:=(sS hm (a:Int)).2.2.1
 have h2:=(sS hm (b:Int)).2.2.1
 rw[h,h2,Fe (by omega) (by omega),Fe (by omega) (by omega)]at h1
 omega
def gT(m:Bool × Nat)(c:List Nat)(os:List (List Nat)):List (List Nat):=os.map λo =>
 (eO (λx y=>bq m x (gm m (gm m (o.getD (aV c) 0) (rC m (c.getD (aV c) 0))) y)) o c).take (aV c)++(eO (λx y=>bq m x (gm m (gm m (o.getD (aV c) 0) (rC m (c.getD (aV c) 0))) y)) o c).drop (aV c+1)
abbrev Cs:=List Nat × List (List Nat)
def nul(c:List Nat):Bool:=c.all (·==0)
def gU(m:Bool × Nat)(w:Nat)(z:Cs × Nat):Cs:=(z.1.1++[w-z.1.2.length+z.2],gT m (z.1.2.getD z.2 []) (z.1.2.drop (z.2+1)))
def fF(s:Cs):List (Cs × Nat):=(aw s.2.length).map λi=>(s,i)
def dG(l:List Cs):List (Cs × Nat):=l.flatMap fF
def sX(z:Cs × Nat):Bool:=nul (z.1.2.getD z.2 [])
def vN(m:Bool × Nat)(w:Nat):Nat->List Cs->Option (List Nat)
 | 0,_=>none
 | f+1,l=>if l=[]then none else match (dG l).find? sX with
  | some z=>some (z.1.1++[w-z.1.2.length+z.2])
  | none=>vN m w f ((dG l).map (gU m w))
def gW(m:Bool × Nat)(C:Nat->Nat->Nat)(ps:List Nat)(c:Nat->Nat)(k:Nat):Nat:=sm (gp m) ps.length λt=>gm m (c t) (C (ps.getD t 0) k)
def uz(m:Bool × Nat)(C:Nat->Nat->Nat)(ps:List Nat):Prop:=∀c:Nat->Nat,(∀t,c t<aa m)->(∀k,gW m C ps c k=0)->∀t,t<ps.length->c t=0
structure Gs(m:Bool × Nat)(C:Nat->Nat->Nat)(w:Nat)(s:Cs):Prop where
 le:s.2.length<=w
 inc:s.1.Pairwise (· < ·)
 off:∀p∈s.1,p<w-s.2.length
 nx:∀j,(∀p∈s.1,p<j)->w-s.2.length<=j
 rt:∃h,RT (aa m) h s.2
 rel:∀a:Nat->Nat,(∀i,a i<aa m)->((∀k,sm (gp m) s.2.length (λi=>gm m (a i) (cf (s.2.getD i []) k))=0)↔∃c:Nat->Nat,(∀t,c t<aa m)/\∀k,gp m (sm (gp m) s.2.length λi=>gm m (a i) (C (w-s.2.length+i) k)) (gW m C s.1 c k)=0)
 ind:uz m C s.1
section
variable{m:Bool × Nat}{C:Nat->Nat->Nat}{w:Nat}
theorem cx4(hm:m∈aA)(C:Nat->Nat->Nat)(ps:List Nat)(c:Nat->Nat)(k:Nat):gW m C ps c k<aa m:=qv (rg hm) λ_ _=>bX hm _ _
theorem Di(hm:m∈aA)(C:Nat->Nat->Nat)(ps:List Nat)(j:Nat)(c:Nat->Nat)(k:Nat):gW m C (ps++[j]) c k=gp m (gW m C ps c k) (gm m (c ps.length) (C j k)):=by
 unfold gW
 rw[df,EM,sm]
 congr 1
 ·refine cu λt ht=>?_
  rw[aF,wm ht,<- aF]
 ·rw[aF,wk (bG _),uV];rfl
theorem RH{ps:List Nat}{c c':Nat->Nat}{k:Nat}(h:∀t,t<ps.length->c t=c' t):gW m C ps c k=gW m C ps c' k:=cu λt ht=>by rw[h t ht]
theorem uA(hm:m∈aA){n i e:Nat}(hi:i<n)(a' X:Nat->Nat):sm (gp m) n (λj=>gm m (if j<i then 0 else if j=i then e else a' (j-i-1)) (X j))=gp m (sm (gp m) (n-i-1) λj=>gm m (a' j) (X (i+1+j))) (gm m e (X i)):=by
 have r:=rg hm
 have h0:=cq m hm
 obtain⟨d,rfl⟩:∃d,n=(i+1)+d:=⟨n-i-1,by omega⟩
 rw[HW r (i+1) d λ_ _=>bX hm _ _,sm,fE r λj hj=>by rw[if_pos hj,fC m _ h0],if_neg (iq _),if_pos rfl,r.z (bX hm _ _),rA]
 congr 1
 rw[show i+1+d-i-1=d by omega]
 refine cu λj hj=>?_
 rw[if_neg (by omega),if_neg (by omega),show i+1+j-i-1=j by omega]
theorem RI{c:List Nat}:nul c=true↔∀k,cf c k=0:=by
 unfold nul
 rw[bZ]
 constructor
 ·intro h k
  by_cases hk:k<c.length
  ·unfold cf
   have:=h _ (bT hk 0)
   exact beq_iff_eq.mp this
  ·exact sT (by omega)
 ·intro h x hx
  obtain⟨k,hk,rfl⟩:=jn hx
  have:=h k
  unfold cf at this
  rw[aF,aJ hk]at this
  exact beq_iff_eq.mpr this
theorem IA{c:List Nat}(h:nul c=false):aV c<c.length/\cf c (aV c)≠0:=by
 have hx:∃x∈c,(x != 0)=true:=by
  refine EV λz=>?_
  have:nul c=true:=by
   unfold nul
   rw[bZ]
   intro x hx
   refine EV λy=>z ⟨x,hx,?_⟩
   simpa using y
  rw[h]at this;cases this
 have hl:aV c<c.length:=Nu hx
 refine⟨hl,?_⟩
 have h2:(c[aV c] != 0)=true:=Ya (xs:=c) (p:=(· != 0)) (w:=hl)
 unfold cf
 rw[aF,aJ hl]
 simpa using h2
theorem cq0(hm:m∈aA){b:List Nat}{os:List (List Nat)}{h:Nat}(hb:b.length=h)(ab:AllLt (aa m) b)(qF:RT (aa m) h os)(nb:nul b=false){a:Nat->Nat}(ha:∀i,a i<aa m) :
  (∀k,sm (gp m) os.length (λj=>gm m (a j) (cf ((gT m b os).getD j []) k))=0)↔∃e,e<aa m/\∀k,gp m (sm (gp m) os.length λj=>gm m (a j) (cf (os.getD j []) k)) (gm m e (cf b k))=0:=by
 have r:=rg hm
 have h0:=cq m hm
 have fv:=lo1 hm
 obtain⟨hp,bp⟩:=IA nb
 have RJ:=cF hm ab (aV b)
 obtain⟨iv,iv1,RK⟩:=Q4 hm (a:=1) (by omega) RJ bp
 have IB:rC m (b.getD (aV b) 0)=iv:=CZ hm iv1 RK
 obtain⟨D,hD⟩:∃D:Nat->List Nat,∀j,D j=eO (λx y=>bq m x (gm m (gm m ((os.getD j []).getD (aV b) 0) iv) y)) (os.getD j []) b:=⟨_,λ_=>rfl⟩
 have RL:∀j,j<os.length->∀k,gp m (cf (D j) k) (gm m (gm m (cf (os.getD j []) (aV b)) iv) (cf b k))=cf (os.getD j []) k:=λj hj k=>by
  rw[hD]
  exact C8 hm (qF _ (bT hj [])).1 hb (qF _ (bT hj [])).2 k
 have Dlt:∀j,j<os.length->∀k,cf (D j) k<aa m:=λj hj k=>by
  rw[hD]
  exact Il hm (qF _ (bT hj [])).1 hb (qF _ (bT hj [])).2 _ k
 have Dp:∀j,j<os.length->cf (D j) (aV b)=0:=λj hj=>by
  have l1:=cF hm (qF _ (bT hj [])).2 (aV b)
  have:=RL j hj (aV b)
  rw[iP h0,RK,qp l1]at this
  exact r.cn (Dlt j hj _) l1 this
 have dm2:∀j,j<os.length->(D j).length=h:=λj hj=>by
  rw[hD,qO,(qF _ (bT hj [])).1,hb,wz]
 have IC:∀j,j<os.length->∀k,cf ((gT m b os).getD j []) k=cf (D j) (if k<aV b then k else k+1):=λj hj k=>by
  have e1:(gT m b os).getD j []=(D j).take (aV b)++(D j).drop (aV b+1):=by
   unfold gT
   rw[jL _ hj [] [],IB,hD]
  rw[e1]
  have lt:((D j).take (aV b)).length=aV b:=by rw[jm,dm2 j hj];omega
  unfold cf
  by_cases hk:k<aV b
  ·rw[if_pos hk,aF,wm (by omega),XY hk,<- aF]
  ·rw[if_neg hk,aF,wk (by omega),lt,Nk,show aV b+1+(k-aV b)=k+1 by omega,<- aF]
 obtain⟨F,hF⟩:∃F,F=sm (gp m) os.length λj=>gm m (a j) (gm m (cf (os.getD j []) (aV b)) iv):=⟨_,rfl⟩
 have Flt:F<aa m:=by rw[hF];exact qv r λ_ _=>bX hm _ _
 have RM:∀k,(sm (gp m) os.length λj=>gm m (a j) (cf (os.getD j []) k))=gp m (sm (gp m) os.length λj=>gm m (a j) (cf (D j) k)) (gm m F (cf b k)):=λk=>by
  rw[cu (g:=λj=>gp m (gm m (a j) (cf (D j) k)) (gm m (cf b k) (gm m (a j) (gm m (cf (os.getD j []) (aV b)) iv)))) λj hj=>?_,qw r,sU r,<- hF,fS m (cf b k)]
  rw[<-RL j hj k,z9 h0]
  congr 1
  rw[<-iP h0,fS m _ (cf b k)]
 have jc:(∀k,sm (gp m) os.length (λj=>gm m (a j) (cf ((gT m b os).getD j []) k))=0)↔∀k,sm (gp m) os.length (λj=>gm m (a j) (cf (D j) k))=0:=by
  constructor
  ·intro h k
   by_cases e:k=aV b
   ·exact fE r λj hj=>by rw[e,Dp j hj,ig m _ h0]
   ·by_cases c:k<aV b
    ·rw[<-h k]
     exact cu λj hj=>by rw[IC j hj,if_pos c]
    ·rw[<-h (k-1)]
     exact cu λj hj=>by rw[IC j hj,if_neg (by omega),show k-1+1=k by omega]
  ·intro h k
   rw[cu λj hj=>by rw[IC j hj]]
   exact h _
 rw[jc]
 constructor
 ·intro h
  obtain⟨e,e1,e2⟩:=r.ng Flt
  refine⟨e,e1,λk=>?_⟩
  rw[RM k,h k,r.z (bX hm _ _),<- HQ h0,e2,fC m _ h0]
 ·rintro⟨e,e1,h⟩
  have key:∀k,gp m (sm (gp m) os.length λj=>gm m (a j) (cf (D j) k)) (gm m (gp m F e) (cf b k))=0:=λk=>by
   rw[HQ h0,<- HP,<- RM k]
   exact h k
  have fe:gp m F e=0:=by
   have:=key (aV b)
   rw[fE r λj hj=>by rw[Dp j hj,ig m _ h0],r.z (bX hm _ _)]at this
   rcases(Dh hm (HR hm Flt e1) RJ).mp this with z | z
   ·exact z
   ·exact absurd z bp
  intro k
  have:=key k
  rw[fe,fC m _ h0,qt (qv r λ_ _=>bX hm _ _)]at this
  exact this
theorem ID(m:Bool × Nat)(b:List Nat)(os:List (List Nat)):(gT m b os).length=os.length:=by unfold gT;rw[aR]
theorem cy5(hm:m∈aA){b:List Nat}{os:List (List Nat)}{h:Nat}(hb:b.length=h)(qF:RT (aa m) h os)(nb:nul b=false):RT (aa m) (h-1) (gT m b os):=λx hx=>by
 obtain⟨o,ho,rfl⟩:=aT.mp hx
 obtain⟨hp,_⟩:=IA nb
 obtain⟨l1,l2⟩:=qF o ho
 refine⟨by rw[df,jm,jT,qO,l1,hb];omega,λy hy=>?_⟩
 have:AllLt (aa m) (eO (λx y=>bq m x (gm m (gm m (o.getD (aV b) 0) (rC m (b.getD (aV b) 0))) y)) o b):=HV λx hx y _=>(kS hm (l2 x hx) (bX hm _ y)).2.1
 rcases bV.mp hy with z | z
 ·exact this y (wA z)
 ·exact this y (rS z)
theorem Gs.next(hm:m∈aA){s:Cs}(G:Gs m C w s){i:Nat}(hi:i<s.2.length)(nb:nul (s.2.getD i [])=false)(hC:∀j k,C j k<aa m):Gs m C w (gU m w (s,i)):=by
 have r:=rg hm
 have h0:=cq m hm
 have fv:=lo1 hm
 have hle:=G.le
 obtain⟨h,Dj⟩:=G.rt
 obtain⟨bl,ba⟩:=Dj _ (bT hi [])
 have RN:RT (aa m) h (s.2.drop (i+1)):=λx hx=>Dj x (rS hx)
 have kl:(gU m w (s,i)).2.length=s.2.length-i-1:=by
  show(gT m _ _).length=_
  rw[ID,jT]
  show s.2.length-(i+1)=_
  omega
 have dl:(s.2.drop (i+1)).length=s.2.length-i-1:=by rw[jT];omega
 have ko:w-(gU m w (s,i)).2.length=w-s.2.length+i+1:=by omega
 have dg:∀j,(s.2.drop (i+1)).getD j []=s.2.getD (i+1+j) []:=λj=>by rw[aF,Nk,<- aF]
 refine⟨by omega,?_,λp hp=>?_,λj hj=>?_,⟨h-1,cy5 hm bl RN nb⟩,λa ha=>?_,λc hc hz t ht=>?_⟩
 ·refine BG.mpr ⟨G.inc,Nz _ _,λx hx y hy=>?_⟩
  rw[dh.mp hy]
  have:=G.off x hx
  show x<w-s.2.length+i
  omega
 ·rw[ko]
  rcases bV.mp hp with z | z
  ·have:=G.off p z;omega
  ·rw[dh.mp z];exact Bo _
 ·rw[ko]
  have:=hj (w-s.2.length+i) (dv _ (dh.mpr rfl))
  omega
 ·have e1:(∀k,sm (gp m) (gU m w (s,i)).2.length (λj=>gm m (a j) (cf ((gU m w (s,i)).2.getD j []) k))=0)↔∃e,e<aa m/\∀k,gp m (sm (gp m) (s.2.length-i-1) λj=>gm m (a j) (cf (s.2.getD (i+1+j) []) k)) (gm m e (cf (s.2.getD i []) k))=0:=by
   have:=cq0 hm bl ba RN nb ha
   rw[dl]at this
   rw[kl]
   refine this.trans ?_
   constructor
   ·rintro⟨e,e1,e2⟩
    exact⟨e,e1,λk=>by rw[<-e2 k,cu λj _=>by rw[<-dg j]]⟩
   ·rintro⟨e,e1,e2⟩
    exact⟨e,e1,λk=>by rw[<-e2 k,cu λj _=>by rw[dg j]]⟩
  rw[e1]
  have al:∀e,e<aa m->∀j,(if j<i then 0 else if j=i then e else a (j-i-1))<aa m:=λe he j=>by
   split
   ·omega
   ·split
    ·exact he
    ·exact ha _
  have RO:∀(c:Nat->Nat) (e k:Nat),gp m (sm (gp m) s.2.length λj=>gm m (if j<i then 0 else if j=i then e else a (j-i-1)) (C (w-s.2.length+j) k)) (gW m C s.1 c k)=gp m (sm (gp m) (s.2.length-i-1) λj=>gm m (a j) (C (w-s.2.length+i+1+j) k)) (gp m (gW m C s.1 c k) (gm m e (C (w-s.2.length+i) k))):=λc e k=>by
   rw[uA hm hi a (λj=>C (w-s.2.length+j) k),HP,rA m (gm m e _)]
   congr 1
   exact cu λj _=>by rw[show w-s.2.length+(i+1+j)=w-s.2.length+i+1+j by omega]
  have ln:∀c k,gW m C (gU m w (s,i)).1 c k=gp m (gW m C s.1 c k) (gm m (c s.1.length) (C (w-s.2.length+i) k)):=λc k=>Di hm C s.1 _ c k
  constructor
  ·rintro⟨e,e1,e2⟩
   obtain⟨c,c1,c2⟩:=(G.rel _ (al e e1)).mp λk=>by
    rw[uA hm hi a (λj=>cf (s.2.getD j []) k)]
    exact e2 k
   refine⟨λt=>if t=s.1.length then e else c t,λt=>by
    show(if t=s.1.length then e else c t)<aa m
    split
    ·exact e1
    ·exact c1 t,λk=>?_⟩
   rw[ln,ko,kl,if_pos rfl,RH (c':=c) λt ht=>if_neg (gb ht),<- RO c e k]
   exact c2 k
  ·rintro⟨c,c1,c2⟩
   refine⟨c s.1.length,c1 _,λk=>?_⟩
   have:=(G.rel _ (al _ (c1 s.1.length))).mpr ⟨c,c1,λk=>by
    rw[RO c _ k]
    have:=c2 k
    rw[ln,ko,kl]at this
    exact this⟩ k
   rw[uA hm hi a (λj=>cf (s.2.getD j []) k)]at this
   exact this
 ·have ln:∀k,gp m (gW m C s.1 c k) (gm m (c s.1.length) (C (w-s.2.length+i) k))=0:=λk=>by
   rw[<-Di hm C s.1 _ c k]
   exact hz k
  have e0:c s.1.length=0:=by
   refine EV λz=>?_
   have al:∀j,(if j<i then 0 else if j=i then c s.1.length else(λ_=>0) (j-i-1))<aa m:=λj=>by
    split
    ·omega
    ·split
     ·exact hc _
     ·show 0<_;omega
   have z0:∀(n:Nat) (X:Nat->Nat),sm (gp m) n (λj=>gm m ((λ_=>0) j) (X j))=0:=λn X=>fE r λ_ _=>fC m _ h0
   have:=(G.rel _ al).mpr ⟨c,hc,λk=>by
    rw[uA hm hi (λ_=>0) (λj=>C (w-s.2.length+j) k),z0,r.z (bX hm _ _),rA]
    exact ln k⟩
   have nn:nul (s.2.getD i [])=true:=RI.mpr λk=>by
    have q:=this k
    rw[uA hm hi (λ_=>0) (λj=>cf (s.2.getD j []) k),z0,r.z (bX hm _ _)]at q
    rcases(Dh hm (hc _) (cF hm ba k)).mp q with y | y
    ·exact absurd y z
    ·exact y
   rw[nb]at nn;cases nn
  have hs:∀k,gW m C s.1 c k=0:=λk=>by
   have:=ln k
   rw[e0,fC m _ h0,qt (cx4 hm C _ c k)]at this
   exact this
  have hl:(gU m w (s,i)).1.length=s.1.length+1:=by show(s.1++[_]).length=_;rw[df];rfl
  by_cases ct:t<s.1.length
  ·exact G.ind c hc hs t ct
  ·rw[show t=s.1.length by omega];exact e0
theorem Gs.bound(hm:m∈aA){s:Cs}(G:Gs m C w s){i:Nat}(hi:i<s.2.length)(hC:∀j k,C j k<aa m):nul (s.2.getD i [])=true↔∃c:Nat->Nat,(∀t,c t<aa m)/\c s.1.length=1/\∀k,gW m C (s.1++[w-s.2.length+i]) c k=0:=by
 have r:=rg hm
 have h0:=cq m hm
 have fv:=lo1 hm
 obtain⟨h,Dj⟩:=G.rt
 obtain⟨bl,ba⟩:=Dj _ (bT hi [])
 have al:∀j,(if j<i then 0 else if j=i then 1 else(λ_=>0) (j-i-1))<aa m:=λj=>by
  split
  ·omega
  ·split
   ·omega
   ·show 0<_;omega
 have z0:∀(n:Nat) (X:Nat->Nat),sm (gp m) n (λj=>gm m ((λ_=>0) j) (X j))=0:=λn X=>fE r λ_ _=>fC m _ h0
 have e1:nul (s.2.getD i [])=true↔∀k,sm (gp m) s.2.length (λj=>gm m (if j<i then 0 else if j=i then 1 else(λ_=>0) (j-i-1)) (cf (s.2.getD j []) k))=0:=by
  rw[RI]
  refine forall_congr' λk=>?_
  rw[uA hm hi (λ_=>0) (λj=>cf (s.2.getD j []) k),z0,r.z (bX hm _ _),sR (cF hm ba k)]
 rw[e1,G.rel _ al]
 constructor
 ·rintro⟨c,c1,c2⟩
  refine⟨λt=>if t=s.1.length then 1 else c t,λt=>by
   show(if t=s.1.length then 1 else c t)<aa m
   split
   ·omega
   ·exact c1 t,if_pos rfl,λk=>?_⟩
  rw[Di hm,if_pos rfl,RH (c':=c) λt ht=>if_neg (gb ht),rA,<- c2 k,uA hm hi (λ_=>0) (λj=>C (w-s.2.length+j) k),z0,r.z (bX hm _ _)]
 ·rintro⟨c,c1,c2,c3⟩
  refine⟨c,c1,λk=>?_⟩
  have:=c3 k
  rw[Di hm,c2]at this
  rw[uA hm hi (λ_=>0) (λj=>C (w-s.2.length+j) k),z0,r.z (bX hm _ _),rA]
  exact this
end
def nF:List Nat->List Nat->Prop
 | a::as,b::bs=>a<b\/(a=b/\nF as bs)
 | _,_=>False
theorem RP:∀l:List Nat,¬ nF l l
 | [],h=>h
 | a::l,h=>h.elim (λz=>iq _ z) λz=>RP l z.2
theorem RQ:∀a b:List Nat,nF a b->¬ nF b a
 | [],_,h,_=>h
 | _::_,[],h,_=>h
 | a::as,b::bs,h,h'=>by
  rcases h with h | ⟨rfl,h⟩
  ·rcases h' with h' | ⟨e,_⟩
   ·omega
   ·omega
  ·rcases h' with h' | ⟨_,h'⟩
   ·omega
   ·exact RQ as bs h h'
theorem RU:∀(a b:List Nat) (x y:List Nat),a.length=b.length->nF a b->nF (a++x) (b++y)
 | [],_,_,_,_,h=>h.elim
 | _::_,[],_,_,_,h=>h.elim
 | a::as,b::bs,x,y,hl,h=>by
  rcases h with h | ⟨e,h⟩
  ·exact .inl h
  ·exact .inr ⟨e,RU as bs x y (by simpa using hl) h⟩
theorem RV:∀(a:List Nat) (x y:Nat),x<y->nF (a++[x]) (a++[y])
 | [],_,_,h=>.inl h
 | _::as,x,y,h=>.inr ⟨rfl,RV as x y h⟩
def iQ(w:Nat)(S:List Nat):Prop:=S.Pairwise (· < ·)/\∀x∈S,x<w
theorem RW:∀(S:List Nat) (lo w:Nat),S.Pairwise (· < ·)->(∀x∈S,lo<=x/\x<w)->S.length<=w-lo
 | [],_,_,_,_=>jl _
 | a::S,lo,w,hp,h=>by
  rw[Fj]at hp
  have ih:=RW S (a+1) w hp.2 λx hx=>⟨hp.1 x hx,(h x (fH _ hx)).2⟩
  have ha:=h a (ir ..)
  rw[eK]
  omega
theorem iQ.len{S:List Nat}{w:Nat}(h:iQ w S):S.length<=w:=RW S 0 w h.1 λx hx=>⟨jl _,h.2 x hx⟩
theorem iQ.take{S:List Nat}{w:Nat}(h:iQ w S)(k:Nat):iQ w (S.take k):=⟨h.1.sublist (List.take_sublist k S),λx hx=>h.2 x (wA hx)⟩
def nG(w:Nat)(z:Cs × Nat):List Nat:=z.1.1++[w-z.1.2.length+z.2]
structure Lv(m:Bool × Nat)(C:Nat->Nat->Nat)(w k:Nat)(l:List Cs):Prop where
 gs:∀s∈l,Gs m C w s/\s.1.length=k
 all:∀S,iQ w S->S.length=k->∃s∈l,s.1=S
 ord:(l.map (·.1)).Pairwise nF
theorem xN{l:List Cs}{z:Cs × Nat}:z∈dG l↔z.1∈l/\z.2<z.1.2.length:=by
 unfold dG
 rw[List.mem_flatMap]
 constructor
 ·rintro⟨s,hs,hz⟩
  obtain⟨i,hi,rfl⟩:=aT.mp hz
  exact⟨hs,bw.mp hi⟩
 ·rintro⟨h1,h2⟩
  exact⟨z.1,h1,aT.mpr ⟨z.2,bw.mpr h2,rfl⟩⟩
section
variable{m:Bool × Nat}{C:Nat->Nat->Nat}{w:Nat}
theorem IE{k:Nat}:∀{l:List Cs},(∀s∈l,s.1.length=k)->(l.map (·.1)).Pairwise nF->((dG l).map (nG w)).Pairwise nF
 | [],_,_=>M5
 | s::l,hl,ho=>by
  rw[bR,Fj]at ho
  show(((fF s)++dG l).map (nG w)).Pairwise nF
  rw[dw,BG]
  refine⟨?_,IE (λs hs=>hl s (fH _ hs)) ho.2,λa ha b hb=>?_⟩
  ·unfold fF
   rw[bO]
   refine BH.mpr (NA.imp λ{a b} hab=>?_)
   exact RV s.1 _ _ (show w-s.2.length+a<w-s.2.length+b by omega)
  ·obtain⟨z,hz,rfl⟩:=aT.mp ha
   obtain⟨i,_,rfl⟩:=aT.mp hz
   obtain⟨y,hy,rfl⟩:=aT.mp hb
   obtain⟨h1,_⟩:=xN.mp hy
   exact RU _ _ _ _ (by rw[hl s (ir ..),hl _ (fH _ h1)]) (ho.1 _ (aT.mpr ⟨_,h1,rfl⟩))
theorem Lv.meets(L:Lv m C w k l){S:List Nat}(hS:iQ w S)(hk:S.length=k+1):∃z∈dG l,nG w z=S:=by
 have e:S=S.take k++[S.getD k 0]:=by
  have h1:S.drop k=[S.getD k 0]:=by
   rw[List.drop_eq_getElem_cons (by omega),List.drop_of_length_le (by omega),aF,aJ (by omega)];rfl
  conv=>lhs;rw[<-Fn k S,h1]
 obtain⟨s,hs,es⟩:=L.all _ (hS.take k) (by rw[jm];omega)
 obtain⟨G,_⟩:=L.gs s hs
 have hj:∀p∈s.1,p<S.getD k 0:=λp hp=>by
  rw[es]at hp
  have:=hS.1
  rw[e,BG]at this
  exact this.2.2 p hp _ (dh.mpr rfl)
 have h1:=G.nx _ hj
 have h2:=hS.2 (S.getD k 0) (bT (by omega) 0)
 have h3:=G.le
 refine⟨(s,S.getD k 0-(w-s.2.length)),xN.mpr ⟨hs,?_⟩,?_⟩
 ·show S.getD k 0-(w-s.2.length)<s.2.length
  omega
 ·show s.1++[w-s.2.length+(S.getD k 0-(w-s.2.length))]=S
  rw[show w-s.2.length+(S.getD k 0-(w-s.2.length))=S.getD k 0 by omega,es]
  exact e.symm
theorem Lv.next(hm:m∈aA)(hC:∀j k,C j k<aa m)(L:Lv m C w k l)(hn:∀z∈dG l,sX z=false):Lv m C w (k+1) ((dG l).map (gU m w)) where
 gs:=λs hs=>by
  obtain⟨z,hz,rfl⟩:=aT.mp hs
  obtain⟨h1,h2⟩:=xN.mp hz
  obtain⟨G,hl⟩:=L.gs _ h1
  refine⟨G.next hm h2 (hn z hz) hC,?_⟩
  show(z.1.1++[_]).length=_
  rw[df,hl];rfl
 all:=λS hS hk=>by
  obtain⟨z,hz,e⟩:=L.meets hS hk
  exact⟨gU m w z,aT.mpr ⟨z,hz,rfl⟩,e⟩
 ord:=by
  rw[bO]
  exact IE (λs hs=>(L.gs s hs).2) L.ord
theorem RX(hm:m∈aA)(hC:∀j k,C j k<aa m):∀(f k:Nat) (l:List Cs),Lv m C w k l->w+1<=f+k ->
  match vN m w f l with
  | none=>∀S,iQ w S->k<=S.length->uz m C S
  | some F=>iQ w F/\k<F.length/\(∃c:Nat->Nat,(∀t,c t<aa m)/\c (F.length-1)=1/\∀j,gW m C F c j=0)/\∀S,iQ w S->k<=S.length->S.length<F.length\/(S.length=F.length/\nF S F)->uz m C S
 | 0,k,l,L,hf=>λS hS hk=>absurd hS.len (by omega)
 | f+1,k,l,L,hf=>by
  have here:∀S,iQ w S->S.length=k->uz m C S:=λS hS hk=>by
   obtain⟨s,hs,rfl⟩:=L.all S hS hk
   exact(L.gs s hs).1.ind
  rw[vN]
  by_cases l0:l=[]
  ·rw[if_pos l0]
   subst l0
   intro S hS hk
   obtain⟨s,hs,_⟩:=L.all (S.take k) (hS.take k) (by rw[jm];omega)
   cases hs
  ·rw[if_neg l0]
   cases e:(dG l).find? sX with
   | some z =>
    obtain⟨hz,as,bs,eL,uB⟩:=Ye.mp e
    obtain⟨h1,h2⟩:=xN.mp (Nh e)
    obtain⟨G,hl⟩:=L.gs _ h1
    have hle:=G.le
    have fl:(nG w z).length=k+1:=by show(z.1.1++[_]).length=_;rw[df,hl];rfl
    refine⟨⟨?_,λx hx=>?_⟩,by show k<(nG w z).length;omega,?_,λS hS hk hc=>?_⟩
    ·refine BG.mpr ⟨G.inc,Nz _ _,λx hx y hy=>?_⟩
     rw[dh.mp hy]
     have:=G.off x hx
     omega
    ·rcases bV.mp hx with q | q
     ·have:=G.off x q;omega
     ·rw[dh.mp q];omega
    ·obtain⟨c,c1,c2,c3⟩:=(G.bound hm h2 hC).mp hz
     refine⟨c,c1,?_,c3⟩
     show c ((nG w z).length-1)=1
     rw[fl,NB,<- hl]
     exact c2
    ·by_cases ck:S.length=k
     ·exact here S hS ck
     have cl:S.length=k+1/\nF S (nG w z):=by
      rcases hc with q | ⟨q1,q2⟩
      ·exact absurd (show S.length<(nG w z).length from q) (by omega)
      ·exact⟨(show S.length=(nG w z).length from q1).trans fl,q2⟩
     obtain⟨y,hy,ey⟩:=L.meets hS cl.1
     obtain⟨y1,y2⟩:=xN.mp hy
     obtain⟨Gy,_⟩:=L.gs _ y1
     cases ny:sX y with
     | false =>
      have:=(Gy.next hm y2 ny hC).ind
      rwa [show(gU m w (y.1,y.2)).1=S from ey]at this
     | true =>
      exfalso
      have od:=IE (w:=w) (λs hs=>(L.gs s hs).2) L.ord
      rw[eL]at hy od
      rw[dw,bR,BG]at od
      have od2:=(Fj.mp od.2.1).1
      rcases bV.mp hy with q | q
      ·have:=uB y q
       rw[ny]at this;simp at this
      ·rcases cN.mp q with q | q
       ·rw[q]at ey
        rw[<-ey]at cl
        exact RP _ cl.2
       ·have:=od2 _ (aT.mpr ⟨y,q,rfl⟩)
        rw[ey]at this
        exact RQ _ _ this cl.2
   | none =>
    have hn:∀z∈dG l,sX z=false:=λz hz=>by
     have:=Nv.mp e z hz
     simpa using this
    have ih:=RX hm hC f (k+1) _ (L.next hm hC hn) (by omega)
    dsimp only
    split
    ·rename_i e2
     rw[e2]at ih
     intro S hS hk
     by_cases ck:S.length=k
     ·exact here S hS ck
     ·exact ih S hS (by omega)
    ·rename_i F e2
     rw[e2]at ih
     obtain⟨i1,i2,i3,i4⟩:=ih
     refine⟨i1,by omega,i3,λS hS hk hc=>?_⟩
     by_cases ck:S.length=k
     ·exact here S hS ck
     ·exact i4 S hS (by omega) hc
end
def ik(T:List (List Nat))(j k:Nat):Nat:=cf (T.getD k []) j
theorem RY{m:Bool × Nat}(hm:m∈aA){w:Nat}{T:List (List Nat)}(hT:RT (aa m) w T)(j k:Nat):ik T j k<aa m:=by
 unfold ik
 by_cases hk:k<T.length
 ·exact cF hm (hT _ (bT hk [])).2 j
 ·have e:T.getD k []=[]:=by rw[aF,gx (by omega)];rfl
  rw[e]
  have:=lo1 hm
  show 0<_
  omega
theorem Lv.start{m:Bool × Nat}(hm:m∈aA){T:List (List Nat)}(hw:0<af T)(hT:RT (aa m) (af T) T):Lv m (ik T) (af T) 0 [([],cV T)]:=by
 have r:=rg hm
 obtain⟨t1,t2,t3⟩:=uv (Nat.lt_trans Nat.zero_lt_one (lo1 hm)) hw hT
 refine⟨λs hs=>?_,λS _ h=>⟨_,dh.mpr rfl,(Fo.mp h).symm⟩,Nz _ _⟩
 rw[dh.mp hs]
 refine⟨⟨tJ t1,M5,λp hp=>absurd hp (jo),λj _=>by show af T-(cV T).length<=j;omega,⟨_,t3⟩,λa ha=>?_,λc _ _ t ht=>absurd ht (by show ¬ t<0;omega)⟩,rfl⟩
 have e:∀k,sm (gp m) (cV T).length (λi=>gm m (a i) (cf ((cV T).getD i []) k))=sm (gp m) (cV T).length λi=>gm m (a i) (ik T (af T-(cV T).length+i) k):=λk=>cu λi hi=>by
  rw[Ai (by omega),vL,show af T-(cV T).length+i=i by omega];rfl
 have z:∀c k,gW m (ik T) [] c k=0:=λ_ _=>rfl
 constructor
 ·intro h
  refine⟨λ_=>0,λ_=>by have:=lo1 hm;show 0<_;omega,λk=>?_⟩
  rw[z,qt (qv r λ_ _=>bX hm _ _),<- e k]
  exact h k
 ·rintro⟨c,_,h⟩ k
  have:=h k
  rw[z,qt (qv r λ_ _=>bX hm _ _),<- e k]at this
  exact this
def rE(m:Bool × Nat)(T:List (List Nat)):Option (List Nat):=vN m (af T) (af T+1) [([],cV T)]
section
variable{m:Bool × Nat}{C:Nat->Nat->Nat}
end
def xO(T:List (List Nat))(F:List Nat):List (List Nat):=T.map λr=>F.map λj=>r.getD j 0
theorem cG1{N w:Nat}{T:List (List Nat)}{F:List Nat}(h0:0<N)(hT:RT N w T):RT N F.length (xO T F)/\(xO T F).length=T.length:=by
 refine⟨λx hx=>?_,by unfold xO;rw[aR]⟩
 obtain⟨r,hr,rfl⟩:=aT.mp hx
 refine⟨by rw[aR],λy hy=>?_⟩
 obtain⟨j,_,rfl⟩:=aT.mp hy
 exact(hT r hr).2.getD h0 j
theorem cy1{T:List (List Nat)}{F:List Nat}{k t:Nat}(hk:k<T.length)(ht:t<F.length):cf ((xO T F).getD k []) t=ik T (F.getD t 0) k:=by
 unfold xO ik cf
 rw[jL _ hk [] [],jL _ ht 0 0]
theorem cG5(m:Bool × Nat){T:List (List Nat)}{F:List Nat}{k:Nat}(hk:k<T.length)(x:Nat->Nat):dt m F.length (cf ((xO T F).getD k [])) x=gW m (ik T) F x k:=by
 unfold dt gW
 exact cu λt ht=>by rw[cy1 hk ht,fS]
theorem b78{o:Bool}{G:List (List Nat)}{i:Nat}{d:D}(hd:(aE o G)[i]?=some d):∃hi:i<G.length,d=.lst o (ay G[i]):=by
 unfold aE at hd
 rw[bN]at hd
 by_cases hi:i<G.length
 ·rw[aJ hi]at hd
  exact⟨hi,(de hd).symm⟩
 ·rw[gx (by omega)]at hd;cases hd
end L3
namespace L3
open PySem L2 PySem.Spec PyProof.Rows
section
variable{B:Bs}{F H:Hp}{σ:L2.St}{δ:Dl}{ts:List (D × V)}
end
section
variable{X:Cx}{a:Expr}{ta:aI}{pos p2:Pos}{tk:Nat}
end
section
variable{X:Cx}{a b:Expr}{ta tb:aI}{elts:List Expr}{x1:Nat}{p5 p pos:Pos}
end
end L3
namespace L3
open PySem L2 Mf
section
variable{m:Bool × Nat}
theorem cm2(hm:m∈aA){T:List (List Nat)}(hw:0<af T)(hT:RT (aa m) (af T) T)(h:rE m T=none):∀S,iQ (af T) S->uz m (ik T) S:=by
 have:=RX hm (RY hm hT) (af T+1) 0 _ (Lv.start hm hw hT) (by omega)
 unfold rE at h
 rw[h]at this
 exact λS hS=>this S hS (jl _)
structure IF(m:Bool × Nat)(R W:Nat)(x y:Nat->Nat)(T:List (List Nat)):Prop where
 rt:RT (aa m) W T
 l:T.length=R
 xl:∀j,x j<aa m
 xd:∀i j,i<W->j<W->x i=x j->i=j
 yl:∀j,y j<aa m
 y0:∀j,j<W->y j≠0
 at_:∀i,i<R->∃k,k<R/\∀j,j<W->ik T j k=gm m (y j) (px m (x j) i)
theorem IF.ind(hm:m∈aA){R W:Nat}{x y:Nat->Nat}{T:List (List Nat)}(h:IF m R W x y T){S:List Nat}(hS:iQ W S)(hR:S.length<=R):uz m (ik T) S:=by
 intro c hc hz t ht
 have gS:∀t,t<S.length->S.getD t 0<W:=λt ht=>hS.2 _ (bT ht 0)
 have:=RG hm (λt=>x (S.getD t 0)) (λ_=>h.xl _) S.length (λt=>gm m (c t) (y (S.getD t 0))) (λ_=>bX hm _ _) (λi j hi hj e=>by
  have e':=h.xd _ _ (gS i hi) (gS j hj) e
  rcases Nat.lt_trichotomy i j with q | q | q
  ·have:=Fl.mp hS.1 i j hi hj q
   rw[aF,aF,aJ hi,aJ hj]at e'
   have e2:S[i]=S[j]:=e'
   omega
  ·exact q
  ·have:=Fl.mp hS.1 j i hj hi q
   rw[aF,aF,aJ hi,aJ hj]at e'
   have e2:S[i]=S[j]:=e'
   omega) (λi hi=>by
  obtain⟨k,_,hk⟩:=h.at_ i (by omega)
  refine Eq.trans (cu λt ht=>?_) (hz k)
  show gm m (gm m (c t) (y (S.getD t 0))) (px m (x (S.getD t 0)) i)=gm m (c t) (ik T (S.getD t 0) k)
  rw[hk _ (gS t ht),iP (cq m hm)]) t ht
 rcases(Dh hm (hc t) (h.yl _)).mp this with z | z
 ·exact z
 ·exact absurd z (h.y0 _ (gS t ht))
theorem b05{n W:Nat}(h:n<=W):iQ W (aw n):=⟨NA,λx hx=>by have:=bw.mp hx;omega⟩
theorem bP5(hm:m∈aA){W:Nat}{T:List (List Nat)}(hT:RT (aa m) W T){F:List Nat}(hF:T.length<F.length):¬ uz m (ik T) F:=λI=>by
 have fv:=lo1 hm
 obtain⟨p1,p2⟩:=cG1 (F:=F) (by omega) hT
 obtain⟨x,f,hf,hx,x1,hz⟩:=RB hm p1 (by omega)
 have:=I x hx (λk=>by
  by_cases hk:k<T.length
  ·rw[<-cG5 m hk];exact hz k (by omega)
  ·refine fE (rg hm) λt _=>?_
   have e:ik T (F.getD t 0) k=0:=by
    unfold ik
    rw[show T.getD k []=[] by rw[aF,gx (by omega)];rfl];rfl
   rw[e,ig m _ (cq m hm)]) f hf
 omega
end
end L3
namespace L2
open PySem PySem.Spec PyProof.Rows
section
variable{X:Cx}
theorem b08:yS X "list.count" (λx xs H Q=>∃(p:Addr) (ns:List Int) (k:Int),x=.ref p/\xs=[.int k]/\bI X.K H p (ns.map V.int)/\Q (.int (ns.count k:Nat)) H):=by
 intro pins s σ H x xs v us Q I rx r h
 obtain⟨p,ns,k,rfl,rfl,hS,q⟩:=h
 cases rx
 obtain⟨u,rfl,ru⟩:=r.one
 obtain⟨t,rfl⟩:=ru
 obtain⟨its,rv,pl,hz⟩:=I.list hS
 exact count_list_ints pl.isList (Om rv) ⟨.int _,H,I.tok _,⟨_,rfl⟩,q⟩
end
end L2
namespace L3
open PySem L2 PySem.Spec PyProof.Rows
section
variable{X:Cx}{o e:Expr}{t tb:aI}{apos bJ:Pos}
def nH(t tb:aI):aI:=λδ Q=>t δ λd aj=>∃(o:Bool) (ns:List Int),d=.lst o (ax ns)/\tb aj λb aY=>∃k,b=.int k/\Q (.int (ns.count k:Nat)) aY
theorem cu3(ho:PE X o (lB t))(he:PE X e (lB tb))(jw:attributeBase o "count" X.env (eval o X.env)=eval o X.env:=by rfl)
  (sq:((backTo bJ (starEach [e] X.env)).all (λx=>!x.1)&&(backToKw bJ (keywordEach [] X.env)).all (λx=>x.1.isSome)
   && decide ([e].length+([]:List Keyword).length+(if([]:List Keyword).isEmpty then 0 else 1)<30))=true:=by rfl)
  (jx:(apos.endLine==bJ.line)=true:=by rfl) (hs:starEach [e] X.env=(false,eval e X.env)::starEach [] X.env:=by rfl) (sr:(backTo bJ (starEach [] X.env)).any (·.1)=false:=by rfl) :
  PE X (.Call (.Attribute o "count" apos) [e] [] bJ) (lE (nH t tb)) :=
 dj (yT PySem.F.plainAttrs_list PySem.F.slot_list_count PySem.F.type_list_count b08 ho (cy he ff hs) jw sq jx hs sr) λσ H Q zq=>by
 obtain⟨B,F,δ,ts,Qd,c,q,k⟩:=zq
 exact⟨B,F,δ,ts,_,c,q,λd aj v F1 H1 q1 f1 h1 c1 s1=>by
  obtain⟨o,ns,rfl,q1⟩:=q1
  obtain⟨p,ws,rfl,h,t⟩:=oq s1 c1.ext rfl
  rw[CA t]at h
  exact⟨.inl ⟨rfl,_,kA h⟩,B,F1,aj,ts,_,c1,q1,λb aY w F2 H2 q2 f2 h2 c2 s2=>by
   obtain⟨n,rfl,q3⟩:=q2
   cases s2
   exact⟨p,ns,n,rfl,rfl,kA (h.elim (λz=>.inl (h2 _ _ z)) λ⟨o,z⟩=>.inr ⟨o,h2 _ _ z⟩),k _ aY _ F2 H2 q3 (f1.trans f2) (h1.trans h2) (c2.pushS (.int .nil) rfl)⟩⟩⟩
end
section
variable{X:Cx}{i:Nat}{x:Str}{p pos apos bJ c94 jN:Pos}{a b:List Stmt}{t u:c9}{k:Int}{j}
end
end L3
namespace L3
open PySem L2 Mf
section
variable{N:Nat}{p q:Nat->Nat->Nat}
theorem Rg.dr(r:Rg N p q)(a b c:Nat):q (p a b) c=p (q a c) (q b c):=by rw[r.mc,r.dl,r.mc c,r.mc c]
variable{ng:Nat->Nat}{c:Nat}
end
section
variable{m:Bool × Nat}
theorem xP(hm:m∈aA){s:Nat}(hs:s<aa m):bq m 0 s<aa m/\gp m (bq m 0 s) s=0:=by
 have:=kS hm (a:=0) (b:=s) (by omega) hs
 exact⟨this.2.1,this.2.2⟩
end
end L3
namespace L2
open PySem PySem.Spec PyProof.Rows
section
variable{prog:Program}{w:World}{A:Around}{E:Value->Shared->Prop}{s:Shared}
end
section
variable{X:Cx}{e:Expr}{ta:TA}{p p2 pos jN:Pos}
end
end L2
namespace L3
open PySem L2 PySem.Spec PyProof.Rows
section
variable{X:Cx}{e:Expr}{tr:cJ}{p p2 pos jN:Pos}
end
end L3
namespace L3
open PySem L2 Mf
section
variable{m:Bool × Nat}
theorem Dk(m:Bool × Nat){xs ys:List Nat}{n:Nat}(hx:xs.length=n)(hy:ys.length=n):gd m xs ys=sm (gp m) n λj=>gm m (cf xs j) (cf ys j):=by rw[sV m (by omega),hx]
end
section
variable{m:Bool × Nat}
theorem cA5{N:Nat}{p q:Nat->Nat->Nat}(r:Rg N p q){f:Nat->Nat}(hf:∀j,f j<N){n a:Nat}(ha:a<n):sm p n f=p (f a) (sm p n λj=>if j=a then 0 else f j):=by
 rw[cu (g:=λj=>p (if j=a then f a else 0) (if j=a then 0 else f j)) λj _=>?_,qw r,qE r (f:=λj=>if j=a then f a else 0) (j0:=a) (by simp[hf]) ha λj _ hj=>if_neg hj]
 ·simp
 ·by_cases c:j=a
  ·subst c;simp[r.z' (hf j)]
  ·simp[c,r.z (hf j)]
theorem IG{N:Nat}{p q:Nat->Nat->Nat}(r:Rg N p q){n:Nat}:∀{ps:List Nat} {f:Nat->Nat},(∀j,f j<N)->ps.Nodup->(∀a∈ps,a<n)->(∀j,j<n->j ∉ ps->f j=0)->sm p n f=sm p ps.length λk=>f (ps.getD k 0)
 | [],f,_,_,_,hz=>fE r λj hj=>hz j hj jo
 | a::ps,f,hf,nd,hp,hz=>by
  obtain⟨n1,n2⟩:=nS.mp nd
  have Ij:∀j,(if j=a then 0 else f j)<N:=λj=>by
   by_cases c:j=a
   ·rw[if_pos c];exact r.pos
   ·rw[if_neg c];exact hf j
  rw[cA5 r hf (hp a ir),IG r (ps:=ps) Ij n2 (λb hb=>hp b (fH _ hb)) λj hj hn=>?_,eK,ce5 r _ λj _=>hf _]
  ·show _=p (f a) (sm p ps.length λk=>f (ps.getD k 0))
   congr 1
   refine cu λj hj=>?_
   have:=bT hj 0
   exact if_neg λ(z:ps.getD j 0=a)=>n1 (z ▸ this)
  ·by_cases c:j=a
   ·exact if_pos c
   ·rw[if_neg c]
    exact hz j hj λh=>by
     rcases cN.mp h with h | h
     ·exact c h
     ·exact hn h
theorem xQ{f:Nat->Nat}{ps:List Nat}{j:Nat}(hj:j<ps.length):cf (ps.map f) j=f (ps.getD j 0):=jL f hj 0 0
theorem cz7(hm:m∈aA){a b:Nat}(ha:a<aa m)(hb:b<aa m)(h:a≠b):bq m a b≠0:=λz=>by
 have g:=(kS hm ha hb).2.2
 rw[z,Aa hb]at g
 exact h g.symm
section
variable{b e L o:Nat}{y:List (Option Nat)}{w c:List Nat}{bb:Nat->Nat}
end
end
section
variable{m:Bool × Nat}
theorem RZ:∀{l l':List Nat},l.Nodup->(∀a∈l,a∈l')->l.length<=l'.length
 | [],_,_,_=>jl _
 | a::l,l',nd,h=>by
  obtain⟨n1,n2⟩:=nS.mp nd
  have ha:=h a ir
  have:=RZ (l:=l) (l':=l'.erase a) n2 λb hb=>(List.mem_erase_of_ne (λz:b=a=>n1 (z ▸ hb))).mpr (h b (fH _ hb))
  rw[List.length_erase_of_mem ha]at this
  have:=List.length_pos_of_mem ha
  rw[eK]
  omega
end
section
variable{m:Bool × Nat}
end
section
variable{m:Bool × Nat}
end
section
variable{m:Bool × Nat}
theorem cz0(hm:m∈aA){r u v ps:List Nat}{n:Nat}(hu:AllLt (aa m) u)(hv:AllLt (aa m) v)(lr:r.length=n)(lu:u.length=n)(lv:v.length=n)(nd:ps.Nodup)(hp:∀p∈ps,p<n)(hs:∀j,j<n->j ∉ ps->cf u j=cf v j) :
  gd m r u=gp m (sm (gp m) ps.length λt=>gm m (cf r (ps.getD t 0)) (bq m (cf u (ps.getD t 0)) (cf v (ps.getD t 0)))) (gd m r v):=by
 have g:=rg hm
 have h0:=cq m hm
 have dn:∀j,gp m (bq m (cf u j) (cf v j)) (cf v j)=cf u j:=λj=>(kS hm (cF hm hu j) (cF hm hv j)).2.2
 rw[sV m (lr.trans lu.symm),sV m (lr.trans lv.symm),lr,
  cu (g:=λk=>gp m (gm m (cf r k) (bq m (cf u k) (cf v k))) (gm m (cf r k) (cf v k))) λk _=>by rw[<-z9 h0,dn k],qw g,
  IG g (ps:=ps) (f:=λk=>gm m (cf r k) (bq m (cf u k) (cf v k))) (λ_=>bX hm _ _) nd hp λj hj hn=>by rw[hs j hj hn,CY,ig m _ h0]]
end
end L3
namespace L3
open PySem L2 PySem.Spec PyProof.Rows
section
variable{X:Cx}{e:Expr}{t:aI}
def nI(t:aI):aI:=λδ Q=>t δ λd ai=>Q d.sh ai
theorem IH(h:PE X e (lE t)):PE X e (lB (nI t)):=dj h λσ H Q zq=>by
 obtain⟨B,F,δ,ts,Qd,c,q,k⟩:=zq
 exact⟨B,F,δ,ts,_,c,q,λd ai v F' H' hd sf sh c'=>by
 obtain⟨F2,f2,c2⟩:=c'.GN
 exact k d.sh ai v F2 H' hd (sf.trans f2) sh c2.pop c2.top⟩
end
end L3
namespace L3
open PySem L2 Mf
section
variable{m:Bool × Nat}
theorem Dm(hm:m∈aA){T:List (List Nat)}(hT:RT (aa m) (af T) T):RT (aa m) (af T) (jM m (bL m T) (af T))/\(jM m (bL m T) (af T)).length<=af T:=by
 obtain⟨⟨Hd,I⟩,iR,_,_⟩:=jj hm hT
 refine⟨λr hr=>?_,?_⟩
 ·obtain⟨f,hf,rfl⟩:=aT.mp hr
  obtain⟨k1,k2,_⟩:=uw hm iR I hf
  exact⟨k1,k2⟩
 ·unfold jM cL
  rw[aR]
  exact cQ (Yf ..) (by rw[bC];exact bG _)
theorem cG4(hm:m∈aA){T:List (List Nat)}(hT:RT (aa m) (af T) T):∀r∈bL m T,∃x∈r,x≠0:=λr bF=>by
 obtain⟨⟨Hd,I⟩,iR,_,_⟩:=jj hm hT
 obtain⟨j,hj,rfl⟩:=jn bF
 have:=(I.Im hm iR hj).2
 rw[Am hj]at this
 exact this
theorem R1(hm:m∈aA){T:List (List Nat)}{xs:List Nat}(hT:RT (aa m) (af T) T)(hx:xs.length=(jM m (bL m T) (af T)).length):∀r∈T,gd m r (cU m xs (jM m (bL m T) (af T)) (af T))=0:=λr hr=>by
 have h0:=cq m hm
 obtain⟨⟨Hd,I⟩,iR,_,_⟩:=jj hm hT
 have s:b9 m (bL m T) (cf r):=b9.red hm hT (b9.of hr)
 rw[sV m ((hT r hr).1.trans (rD ..).symm),(hT r hr).1]
 rw[cu (g:=λj=>gm m (cf r j) (sm (gp m) (jM m (bL m T) (af T)).length λi=>gm m (cf xs i) (cf ((jM m (bL m T) (af T)).getD i []) j))) λj hj=>by rw[sW m hx hj]]
 have e:=Ip hm (af T) (cf r) (cf xs) (λi=>cf ((jM m (bL m T) (af T)).getD i [])) (jM m (bL m T) (af T)).length
 unfold dt at e
 rw[e]
 refine fE (rg hm) λi hi=>?_
 have z:=bT hi []
 generalize (jM m (bL m T) (af T)).getD i []=K at z
 obtain⟨f,hf,rfl⟩:=aT.mp z
 have:=b9.dt hm (R:=bL m T) (n:=af T) (y:=cf (fU m (bL m T) (af T) f)) (λi hi=>Iq hm iR I hf hi) s
 unfold dt at this
 rw[this,ig m _ h0]
end
section
variable{m:Bool × Nat}
end
end L3
namespace L2
open PySem PySem.Spec PyProof.Rows
section
variable{X:Cx}{CX:fg}{k:Nat}{f C:Addr}{fd:FuncData}{ps:List Str}{sp:Sp}{E:XK}{x m:Str}{p pos apos:Pos}{e:Expr}{es:List Expr}{t:TA}
def tCM(sp:Sp)(E:XK)(t:TA):TE:=λσ H Q=>t σ H λvs H1=>sp vs H1 Q E
theorem R3{pl:Sem Bool}(M:xD X.K C m f)(F:aO X.prog X.w X.K X.mg X.base CX k f fd ps sp)(hr:cw k X.A)(hb:Binds X.K fd ps [])(hx:p9 CX X E)(hg:Gl X x)(hm:X.mg x=some (.ref C))(ha:PA X (e::es) t)
  (eC:(x==("__debug__":Str))=false:=by decide) (gJ:starEach (e::es) X.env=(false,eval e X.env)::starEach es X.env:=by rfl) (bU:(backTo pos (starEach es X.env)).any (·.1)=false:=by rfl)
  (ht:eval (.Call (.Attribute (.Name x p) m apos) (e::es) [] pos) X.env=(do
   let ov<-eval (.Name x p) X.env
   standAt apos.atName
   let (f,first)<-holding [ov] (getMethod ov m pl)
   callWith pos f first (backTo pos (starEach (e::es) X.env)) (backToKw pos (keywordEach [] X.env))):=by rfl) :
  PE X (.Call (.Attribute (.Name x p) m apos) (e::es) [] pos) (tCM sp E t):=by
 intro pins s σ H Q I h
 exact Qr (pl:=pl) I M hg hm ha h (λus s1 vs H1 I1 r q=>yQ (fK:=[]) F hr hb .nil hx I1 r (by rw[fJ];exact q)) eC gJ bU ht
end
end L2
namespace L3
open PySem L2 PySem.Spec PyProof.Rows
def II(tl:List Addr)(C:Addr)(kQ:List D->List Str->List D->Prop):L2.Sp:=λvs H Q _=>∃F H0 x dx b8 ds ns xs,vs=.ref x::b8/\Tb tl H/\ag F H0/\H0 x=none/\ag H0 H/\H x=some (.ins C dx [])/\R F H0 ds b8 []/\kQ ds ns xs /\
 ∀H' ws A,bQ x H H'->H' x=some (.ins C dx (ns.zip ws))->ns.length=ws.length->R F H' xs ws A->A.Nodup->(∀a∈A,H a=none)->Q .aq H'
def nJ(C:Addr)(kQ:List D->List Str->List D->Prop)(ta:cJ):aI:=λδ Q=>ta δ λds ai=>ds.all D.pl=true/\∃ns xs,kQ ds ns xs/\Q (.obj C ns (xs.map D.sh)) ai
theorem ak.dn9{B:Bs}{F H H':Hp}{σ:L2.St}{δ:Dl}{ts:List (D × V)}{C dx x:Addr}{ns:List Str}{xs:List D}{ws:List V}{A:List Addr}(c:ak B F H σ δ ts)(hs:ag H H')(hx:H' x=some (.ins C dx (ns.zip ws)))(hl:ns.length=ws.length)
  (r1:R F H' xs ws A) (fr:∀a∈A,H a=none):ag F (L3.bD F H' A)/\ak B (L3.bD F H' A) H' σ δ ((.obj C ns (xs.map D.sh),.ref x)::ts):=by
 have c1:=c.grow hs
 have r2:=r1.bD c1.ext A (λ_ h=>h)
 have fs:ag F (L3.bD F H' A):=ke c1.ext
 obtain⟨A',C',r',s',nd,xE⟩:=c.own
 have out:∀a,(∃ws,H a=some (.lst ws))/\F a=none->L3.bD F H' A a=none:=λa zz=>by
  obtain⟨⟨ws,h⟩,hf⟩:=zz
  rw[vo (λz=>by rw[fr a z]at h;cases h)];exact hf
 have g1:=r'.grow fs hs λa ha=>out a (r'.lists a ha)
 have g2:=s'.keep fs (gL.same hs) iG.nil (λa ha=>out a (s'.lists a ha)) (by simp)
 refine⟨fs,vn c1.ext,c1.b1,c1.b2.trans fs,λa ws h=>?_,A',C',?_,g2,nd,xE⟩
 ·by_cases z:a∈A
  ·exact .inr (c.b1.free (fr a z))
  ·rw[vo z]at h;exact c.b3 a ws h
 ·exact R.obj hx hl r2 g1
section
variable{X:Cx}{CX:fg}{n:Nat}{f C:Addr}{fd:FuncData}{ps:List Str}{kQ:List D->List Str->List D->Prop}{E:XK}{x:Str}{p pos:Pos}{e:Expr}{es:List Expr}{t:cJ}{tl:List Addr}
theorem IJ(hT:Tb tl X.qS)(M:L2.Mk X.K C f)(F:aO X.prog X.w X.K X.mg X.base CX n f fd ps (II tl C kQ))(hr:cw (n+1) X.A)(hg:Gl X x)(hm:X.mg x=some (.ref C))(hb:Binds X.K fd ps [])(hx:p9 CX X E)
  (ha:PA X (e::es) (lA t)) (eC:(x==("__debug__":Str))=false:=by decide) (he:starEach (e::es) X.env=(false,eval e X.env)::starEach es X.env:=by rfl) (bU:(backTo pos (starEach es X.env)).any (·.1)=false:=by rfl) :
  PE X (.Call (.Name x p) (e::es) [] pos) (lE (nJ C kQ t)):=by
 intro pins s σ H Q I zz
 obtain⟨B,F',δ,ts,Qd,c,q,k⟩:=zz
 have tb:=Hw I hT
 refine Oe M F hr hg hm hb .nil hx ha eC he bU pins s σ H Q I ⟨B,F',δ,ts,_,c,q,λds aj vs F1 H1 q1 f1 h1 c1 s1=>?_⟩
 intro x dx du eV ua
 obtain⟨hp,ns,xs,hI,hq⟩:=q1
 have sm:ag H1 (upd (upd H1 dx (.own x)) x (.ins C dx [])):=.of λb o e=>by rw[bc (e7 e du),bc (e7 e eV)];exact e
 refine⟨F1,H1,x,dx,vs,ds,ns,xs,by rw[fJ],zT (zT tb h1) sm,c1.ext,du,sm,bS,s1.r hp,hI,λH' ws A zV dW hl r nd fr=>⟨rfl,?_⟩⟩
 have s2:ag H1 H':=⟨λb o e n=>zV.get b o (e7 e du) (sm.get b o e n) n,λb ps e=>by
  obtain⟨m1,e1⟩:=sm.tb b ps e
  obtain⟨m2,e2⟩:=zV.tb b _ e1
  exact⟨m1++m2,by rw[e2,wb]⟩⟩
 obtain⟨fs,c2⟩:=c1.dn9 s2 dW hl r λa ha=>sm.free (fr a ha)
 exact k _ aj _ _ H' hq (f1.trans fs) (h1.trans s2) c2
end
section
variable{X:Cx}{e:Expr}{te:aI}{x:Str}{p pos:Pos}{i:Nat}
end
theorem bQ.of0{x:Addr}{H0 H H':Hp}(h0:H0 x=none)(s:ag H0 H)(sx:bQ x H H'):ag H0 H' :=
 ⟨λb o e n=>sx.get b o (λz=>by rw[z,h0]at e;cases e) (s.get b o e n) n,λb ps e=>by
  obtain⟨m1,e1⟩:=s.tb b ps e
  obtain⟨m2,e2⟩:=sx.tb b _ e1
  exact⟨m1++m2,by rw[e2,wb]⟩⟩
theorem An{F H:Hp}{v:V}{A:List Addr}{xs:List D}(r:R F H [.lst true xs] [v] A):∃p,v=.ref p:=by
 cases r
 exact⟨_,rfl⟩
theorem R4{F H F' H':Hp}:∀{l:List Int} {ws:List V} {A:List Addr},R F H (ax l) ws A->R F' H' (ax l) ws A
 | [],_,_,r=>by cases r;exact .nil
 | i::l,_,_,r=>by
  cases r with
  | int r=>exact .int (R4 r)
theorem R5{F H H':Hp}:∀{G:List (List Nat)} {ws:List V} {A:List Addr},R F H (aE true G) ws A->(∀a∈A,H' a=H a)->R F H' (aE true G) ws A
 | [],_,_,r,_=>by cases r;exact .nil
 | g::G,_,_,r,h=>by
  cases r with
  | own e f x y=>exact .own (by rw[h _ ir];exact e) f (R4 (l:=g.map λ(n:Nat)=>(n:Int)) x) (R5 y λa ha=>h a (fH _ (dv _ ha)))
theorem cr8{F H H':Hp}{G:List (List Nat)}{v:V}{A:List Addr}(r:R F H [.lst true (aE true G)] [v] A)(h:∀a∈A,H' a=H a):R F H' [.lst true (aE true G)] [v] A:=by
 cases r with
 | own e f x y =>
  cases y
  exact .own (by rw[h _ ir];exact e) f (R5 x λa ha=>h a (fH _ (fI _ ha))) .nil
abbrev uC:List Str:=["field","length","check_rows","word_rows","message_places","size"]
structure do1(K:PySem.W.Frag)(C:Addr):Prop where
 cls:di K C
 field:bu K C "field"
 length:bu K C "length"
 do2:bu K C "check_rows"
 do3:bu K C "word_rows"
 R6:bu K C "message_places"
 size:bu K C "size"
end L3
namespace L3
open PySem L2 Mf
section
variable{m:Bool × Nat}
end
end L3
namespace L2
open PySem PySem.Spec PyProof.Rows
structure Dn(K:PySem.W.Frag)(x qual:Str)(st:Stmt)(f:Addr)(fd:FuncData):Prop where
 ex:∃(oc:Value) (od:Option Addr) (dV kV doc pm:Value) (an:Option Addr) (aG ct:Value) (jt:Array (Option Value)),
  fd=PySem.W.fnOf x qual (jy st) (gy st) (aM st) dV kV doc pm an aG ct/\K.lookup f=some ⟨oc,od,.func fd,jt⟩/\PySem.W.codeIn K aG qual=true
 kp:PySem.W.keepIn K (.ref f)=true
section
variable{P:Program}{w:World}{K:PySem.W.Frag}{mg:Str->Option Value}{base:Heap}
theorem Dn.ok{x qual:Str}{st:Stmt}{f:Addr}{fd:FuncData}{N ps:List Str}{k:Nat}{sp:Sp}(F:Dn K x qual st f fd)(S:bf N ps (aM st))(len:∀vs H Q E,sp vs H Q E->vs.length=ps.length)
  (ju:∀(aG:Value) (A:Around) (outer:List Env) (s:Shared) (H:Hp) (vs:List V) (Q:VK) (E:XK),cw k (A.deeper (envOfC qual (aM st) s.heap.objs.size f aG))->sp vs H Q E ->
   ∃t,PSs (lM aS P w K mg base N qual (aM st) f aG A outer s H E).iC (gy st) t/\t { nx:=λ_ H'=>Q .aq H',rt:=Q } (start N vs) H):aO P w K mg base aS (k+1) f fd ps sp:=by
 obtain⟨oc,od,dV,kV,doc,pm,an,aG,ct,jt,rfl,lk,cC⟩:=F.ex
 refine FT lk cC S len λA outer s H vs Q E hr j8=>?_
 obtain⟨t,h,q⟩:=ju aG A outer s H vs Q E hr j8
 exact⟨t,h.iC,q⟩
theorem cm1{x qual:Str}{st:Stmt}{f:Addr}{oc:Value}{od an:Option Addr}{jt:Array (Option Value)}{dV kV doc pm aG ct:Value}(l:K.lookup f=some ⟨oc,od,.func (PySem.W.fnOf x qual (jy st) (gy st) (aM st) dV kV doc pm an aG ct),jt⟩)
  (c:PySem.W.codeIn K aG qual=true) (k:PySem.W.keepIn K (.ref f)=true):Dn K x qual st f (PySem.W.fnOf x qual (jy st) (gy st) (aM st) dV kV doc pm an aG ct):=⟨⟨oc,od,dV,kV,doc,pm,an,aG,ct,jt,rfl,l,c⟩,k⟩
theorem cD2{fd:FuncData}{ps:List Str}{T:Addr}{o:Obj}{items:Array Value}{n:Nat}(hd:fd.defaults=.ref T)(ho:K.lookup T=some o)(hs:o.data=.seq items n)
  (h:∀us:List Value,us.length=ps.length->∃k,bindArgs fd ⟨us,[]⟩=seqItems? fd.defaults >>= k/\k (some items)=pure (ps.zip us)):Binds K fd ps []:=λs us KX hl=>by
 rw[fJ]at hl ⊢
 obtain⟨k,h1,h2⟩:=h us hl
 exact .of_defaults hd (KX _ _ ho) hs h1 h2
end
end L2
namespace L3
open PySem L2 Mf
inductive Kd
 | Dq (b:Nat) | rep | R7 (e f:Nat)
structure vO(pre:List (Str × V)):Prop where
 put:∀(n:Str) (v:V) (l:List (Str × V)),n∈uC->bE n v (pre++l)=pre++bE n v l
 look:∀(n:Str) (l:List (Str × V)),n∈uC->(pre++l).lookup n=l.lookup n
 len:pre.length<=2
theorem vO.nil:vO []:=⟨λ_ _ _ _=>rfl,λ_ _ _=>rfl,by decide⟩
theorem vO.two(e f:V):vO [("extra",e),("first",f)]:=by
 have h1:∀n∈uC,("extra":Str)≠n/\("first":Str)≠n:=by decide
 refine⟨λn v l hn=>?_,λn l hn=>?_,bG 2⟩
 ·obtain⟨a,b⟩:=h1 n hn
  show bE n v (("extra",e)::("first",f)::l)=_
  rw[bE,if_neg a,bE,if_neg b];rfl
 ·obtain⟨a,b⟩:=h1 n hn
  show qL n (("extra",e)::("first",f)::l)=_
  rw[gw,beq_false_of_ne a.symm,gw,beq_false_of_ne b.symm]
theorem vO.lt{pre l:List (Str × V)}(h:vO pre)(hl:l.length<=6):(pre++l).length<1000:=by
 have:=h.len
 rw[df];omega
section
variable{m:Bool × Nat}{G:List (List Nat)}
def bj(m:Bool × Nat)(G:List (List Nat)):List (List Nat):=jM m (bL m G) (af G)
def aX(m:Bool × Nat)(G:List (List Nat)):List Nat:=cL (bL m G) (af G)
def sY(cb cp:Addr)(o:Bool)(m:Bool × Nat)(G:List (List Nat)):List D:=[fD cb cp m,.int (af G:Nat),.lst o (aE o G),.lst o (aE o (bj m G)),.lst o (ay (aX m G)),.int ((aX m G).length:Nat)]
def Dr(cb cp cc cr cs:Addr)(m:Bool × Nat)(G:List (List Nat)):Kd->D
 | .Dq b=>.obj cc ["field","length","check_rows","word_rows","message_places","size","bound"] (sY cb cp false m G++[.int (b:Nat)])
 | .rep=>.obj cr uC (sY cb cp false m G)
 | .R7 e f=>.obj cs ["extra","first","field","length","check_rows","word_rows","message_places","size"] ([.int (e:Nat),.int (f:Nat)]++sY cb cp false m G)
theorem IK(cb cp:Addr)(o:Bool)(m:Bool × Nat)(G:List (List Nat)):(sY cb cp o m G).map D.sh=sY cb cp false m G:=by
 unfold sY
 simp only[bR,gv,QV,cE,cY,vE,<- dF,h7]
theorem xR(cb cp cc cr cs:Addr)(m:Bool × Nat)(G:List (List Nat))(k:Kd):(Dr cb cp cc cr cs m G k).sh=Dr cb cp cc cr cs m G k:=by cases k<;>rfl
theorem IL(cb cp cc cr cs:Addr)(m:Bool × Nat)(G:List (List Nat))(k:Kd):(Dr cb cp cc cr cs m G k).pl=true:=by cases k<;>rfl
structure cW(m:Bool × Nat)(G:List (List Nat)):Prop where
 hm:m∈aA
 rt:RT (aa m) (af G) G
 len:G.length<=64
 IM:af G<=64
 sz:0<(aX m G).length
theorem cW.red(h:cW m G):(∃H,RR (af G) (bL m G) H)/\RT (aa m) (af G) (bL m G):=⟨(jj h.hm h.rt).1,(jj h.hm h.rt).2.1⟩
theorem fX(m:Bool × Nat)(G:List (List Nat)):(bj m G).length=(aX m G).length:=by unfold bj aX jM;rw[aR]
theorem Ao{j:Nat}(hj:j<(aX m G).length):(bj m G).getD j []=fU m (bL m G) (af G) ((aX m G).getD j 0):=jL (fU m (bL m G) (af G)) hj 0 []
theorem xS{j:Nat}(hj:j<(aX m G).length):(aX m G).getD j 0∈cL (bL m G) (af G):=by
 rw[aF,aJ hj];exact eN hj
theorem Ds(m:Bool × Nat)(G:List (List Nat)):(aX m G).Nodup:=Nx _ yx
theorem IQ{j:Nat}(hj:j∈aX m G):j<af G:=bw.mp (tG.mp hj).1
theorem cW.rows(h:cW m G):RT (aa m) (af G) (bj m G):=(Dm h.hm h.rt).1
theorem cW.Dg(h:cW m G):(aX m G).length<=af G:=by rw[<-fX];exact(Dm h.hm h.rt).2
theorem cW.wide(h:cW m G):af (bj m G)=af G:=Al h.rows λz=>by
 have:=h.sz
 rw[<-fX,z]at this
 exact absurd this (by decide)
def sZ(m:Bool × Nat)(G:List (List Nat))(l:List Nat):List Nat:=cU m l (bj m G) (af G)
theorem R8(m:Bool × Nat)(G:List (List Nat))(l:List Nat):(sZ m G l).length=af G:=rD ..
theorem cW.wlt(h:cW m G){l:List Nat}(hl:l.length=(aX m G).length):AllLt (aa m) (sZ m G l):=Io h.hm _ (by rw[fX];exact hl)
theorem cW.word(h:cW m G){l:List Nat}(hl:l.length=(aX m G).length):∀r∈G,gd m r (sZ m G l)=0:=R1 h.hm h.rt (by rw[hl,<- fX];rfl)
theorem cW.at(h:cW m G){l:List Nat}(hl:l.length=(aX m G).length)(al:AllLt (aa m) l){j:Nat}(hj:j<(aX m G).length):cf (sZ m G l) ((aX m G).getD j 0)=cf l j:=by
 have hm:=h.hm
 have g:=rg hm
 obtain⟨⟨H,I⟩,hR⟩:=h.red
 have fr:=λ{k:Nat} (hk:k<(aX m G).length)=>(I.free hm hR _).mp (xS hk)
 unfold sZ
 rw[sW m (by rw[fX];exact hl) (fr hj).1,fX]
 have k1:∀i,i<(aX m G).length->cf ((bj m G).getD i []) ((aX m G).getD j 0)=if i=j then 1 else 0:=λi hi=>by
  rw[Ao hi]
  obtain⟨_,_,a,_,b⟩:=uw hm hR I (xS hi)
  by_cases c:i=j
  ·rw[if_pos c,<- c];exact a
  ·rw[if_neg c]
   refine b _ (λz=>c ?_) (fr hj).2
   rw[aF,aF,aJ hi,aJ hj]at z
   exact((Bl (Ds m G)).mp z).symm
 rw[qE g (f:=λi=>gm m (cf l i) (cf ((bj m G).getD i []) ((aX m G).getD j 0))) (j0:=j) (bX hm _ _) hj λi hi c=>by rw[k1 i hi,if_neg c,fS m _ 0,fC m _ (cq m hm)],k1 j hj,if_pos rfl,qp (cF hm al j)]
end
end L3
namespace L3
open PySem L2 PySem.Spec PyProof.Rows
section
variable{X:Cx}{scope:Scope}{tg iter elt:Expr}{ifs:List Expr}{pos:Pos}{cl:List (Str × Addr)}{ti:kq}{g:i8}{tt:gn}{te:aI}
theorem cd8{i:Nat}{x:Str}{pos' apos:Pos}(hN:X.N.Nodup)(Af:X.N[i]?=some x)(hx:L2.Loc X.env.scope x)(aD:List (Str × Nat))(bM:List Str)(hc:X.calm=true)(hi:PI X tg iter (lI ti))
  (hg:∀C s H fp,PG (dJ X scope (aD.map (·.1)++bM) cl C s H fp) tg (lG aD.length g))
  (ht:∀C s H fp,qZ (dJ X scope (aD.map (·.1)++bM) cl C s H fp) ifs (lT tt)) (he:∀C s H fp,PE (dJ X scope (aD.map (·.1)++bM) cl C s H fp) elt (lE te))
  (qy:closureFor scope X.env=pure cl) (qA:q0 X cl) (qB:∀C:Addr,q8 (cellsFrom (C+1) scope.names cl) (relabel scope X.env).names) (qC:∀C:Addr,qY X scope (cellsFrom (C+1) scope.names cl) aD)
  (iY:scope.kind=.function) (qD:∀y∈scope.names,y.2=.local->scope.names.lookup y.1=some .local)
  (qm:swapsWith (.ListComp elt [⟨tg,iter,ifs,0⟩] scope pos) (some (.Name x pos')) apos.line X.env=pure true:=by rfl) (hf:X.fn x=true\/X.env.scope.names.lookup x=some .local:=by first | exact .inl rfl | exact .inr rfl)
  (hs:∀x,foldedSetIterable iter X.env x=pure x:=by intro _;rfl):PS X (.Assign [.Name x pos'] (.ListComp elt [⟨tg,iter,ifs,0⟩] scope pos) apos) (λEn σ H=>lE (jE ti aD bM.length g tt te) σ H λv H'=>En.nx (σ.set i (some v)) H') :=
 jA (Rk hN Af hx hf aD bM hc hi hg ht he qy qA qB qC iY qD qm hs) λEn σ H ⟨B,F,δ,ts,Qd,c,q,k⟩=>⟨B,F,δ,ts,_,c,q,λsh xs aj J F1 H1 hq f1 h1 c1 sF vv=>by
  obtain⟨p,f,hx,fM,hlen,hQ⟩:=hq
  exact GU c1 sF vv p f hx fM hlen hQ λd ai v F' H' hd hf hs c'=>k d ai v F' H' hd (f1.trans hf) (h1.trans hs) c'⟩
end
theorem ak.self{F H:Hp}{σ:L2.St}{δ:Dl}{o:Option V}(e:ag F H)(r:RS F H δ σ []):ak ⟨H,F⟩ F H (o::σ) (none::δ) []:=⟨e,ag.refl _,ag.refl _,λ_ _ q=>.inl q,[],[],.nil,.aq r,by simp,by simp⟩
end L3
namespace L2
open PySem
theorem br{N P:List Str}{sc:Scope}(a:sc.kind=.function:=by rfl)(b:sc.isCoroutine=false:=by rfl)(c:sc.isGenerator=false:=by rfl)(d:N.Nodup:=by decide +kernel)(e:N.take P.length=P:=by rfl)(f:∀x∈P,sc.names.lookup x=some .local\/sc.names.lookup x=some .cell:=by decide +kernel)(g:∀y∈sc.names,y.2≠.free:=by decide +kernel):bf N P sc:=⟨a,b,c,d,e,f,g⟩
end L2
namespace L3
open PySem L2 PySem.Spec PyProof.Rows
theorem fi{X:Cx}{m i:Nat}{x:Str}{pos:Pos}(hN:X.N.Nodup)(hi:X.N[i]?=some x:=by rfl)(hx:Loc X.env.scope x:=by first | exact au (lookup_relabel_local rfl) | exact bB rfl | exact au rfl)(hm:m<=i:=by decide)
  (hf:X.fn x=true\/X.env.scope.names.lookup x=some .local:=by first | exact .inr (lookup_relabel_local rfl) | exact .inl rfl | exact .inr rfl):PG X (.Name x pos) (lG m (gN i)):=fw hN hi hx hm hf
theorem Dt{X:Cx}{m i1 i2:Nat}{y1 y2:Str}{t1 t2 tp:Pos}{tk:Nat}(Cz:X.N.Nodup)(hc:X.calm=true:=by rfl)(m1:X.N[i1]?=some y1:=by rfl)(l1:Loc X.env.scope y1:=by first | exact au (lookup_relabel_local rfl) | exact bB rfl)(m2:X.N[i2]?=some y2:=by rfl)(l2:Loc X.env.scope y2:=by first | exact au (lookup_relabel_local rfl) | exact bB rfl)(P5:m<=i1:=by decide)(ug:m<=i2:=by decide)
  (f1:X.fn y1=true\/X.env.scope.names.lookup y1=some .local:=by first | exact .inr (lookup_relabel_local rfl) | exact .inl rfl) (f2:X.fn y2=true\/X.env.scope.names.lookup y2=some .local:=by first | exact .inr (lookup_relabel_local rfl) | exact .inl rfl)
  (Hq:(assignEach [.Name y1 t1,.Name y2 t2] X.env).map (·.2)=assign (.Name y1 t1) X.env::(assignEach [.Name y2 t2] X.env).map (·.2):=by rfl) (Hr:(assignEach [.Name y2 t2] X.env).map (·.2)=assign (.Name y2 t2) X.env::(assignEach [] X.env).map (·.2):=by rfl)
  (hn:(assignEach [.Name y1 t1,.Name y2 t2] X.env).length=2:=by rfl) (gJ:(assignEach [.Name y1 t1,.Name y2 t2] X.env).findIdx? (·.1)=none:=by rfl) :
  PG X (.Tuple [.Name y1 t1,.Name y2 t2] tk tp) (lG m (fO i1 i2)):=vD hc Cz m1 l1 m2 l2 P5 ug f1 f2 Hq Hr hn gJ
end L3
namespace L2
open PySem
structure Fk(K:PySem.W.Frag)(mg:Str->Option Value)(x:Str)(st:Stmt)(ps:List Str)(f:Addr)(fd:FuncData):Prop where
 F:bh K x x st f fd
 g:mg x=some (.ref f)
 b:Binds K fd ps []
structure Fm(K:PySem.W.Frag)(x q:Str)(st:Stmt)(ps:List Str)(f:Addr)(fd:FuncData):Prop where
 F:bh K x q st f fd
 b:Binds K fd ps []
end L2
namespace L3
open PySem L2 PySem.Spec PyProof.Rows
theorem bA{X:Cx}{x:Str}{st:Stmt}{ps:List Str}{f:Addr}{fd:FuncData}{n k:Nat}{sp:bg}{e:Expr}{es:List Expr}{t:cJ}{p pos:Pos}(Q:Fk X.K X.mg x st ps f fd)(F:aO X.prog X.w X.K X.mg X.base aS n f fd ps (bo sp))(hr:cw k X.A)(ha:PA X (e::es) (lA t))(hn:n<=k:=by decide)(hg:Gl X x:=by rfl)
  (eC:(x==("__debug__":Str))=false:=by decide) (he:starEach (e::es) X.env=(false,eval e X.env)::starEach es X.env:=by rfl) (bU:(backTo pos (starEach es X.env)).any (·.1)=false:=by rfl) :
  PE X (.Call (.Name x p) (e::es) [] pos) (lE (jD sp t)):=xj (F.mono hn) hr hg Q.g Q.F.kp Q.b dH ha eC he bU
end L3
namespace L3
open PySem L2 Mf
theorem R9{m:Bool × Nat}(hm:m∈aA)(f n:Nat){e:Nat}(he:1<=e):RT (aa m) n (fW m f (aw n) e)/\(fW m f (aw n) e).length=e/\af (fW m f (aw n) e)=n:=by
 obtain⟨g1,g2⟩:=Iz hm f (aw n) e
 rw[bC]at g1
 exact⟨g1,g2,Al g1 λz=>by
  rw[z]at g2
  exact absurd g2 (by show ¬ 0=e;omega)⟩
section
variable{m:Bool × Nat}
structure Wd(m:Bool × Nat)(T:List (List Nat))(w:List Nat):Prop where
 ln:w.length=af T
 lt:AllLt (aa m) w
 z:∀r∈T,gd m r w=0
def vP(n:Nat)(u v:List Nat):List Nat:=(aw n).filter λj=>decide (cf u j≠cf v j)
theorem IS{n:Nat}{u v:List Nat}{j:Nat}:j∈vP n u v↔j<n/\cf u j≠cf v j:=by unfold vP;rw[tG,bw,decide_eq_true_iff]
theorem Sa(n:Nat)(u v:List Nat):(vP n u v).Nodup:=yx.filter _
def IT(m:Bool × Nat)(T:List (List Nat))(d:Nat):Prop:=∀u v,Wd m T u->Wd m T v->u≠v->d<=(vP (af T) u v).length
theorem cm6(hm:m∈aA){T:List (List Nat)}{d:Nat}(hT:RT (aa m) (af T) T)(hD:∀S,iQ (af T) S->S.length<d->uz m (ik T) S):IT m T d:=λu v hu hv hn=>by
 have g:=rg hm
 have h0:=cq m hm
 refine M4 λfL=>hn ?_
 have mem:=λj=>IS (n:=af T) (u:=u) (v:=v) (j:=j)
 have nd:=Sa (af T) u v
 have ic:iQ (af T) (vP (af T) u v):=⟨NA.filter _,λx hx=>((mem x).mp hx).1⟩
 generalize vP (af T) u v=ps at mem nd ic fL
 have I:=hD ps ic fL (λt=>bq m (cf u (ps.getD t 0)) (cf v (ps.getD t 0))) (λt=>(kS hm (cF hm hu.lt _) (cF hm hv.lt _)).2.1) λk=>by
  by_cases hk:k<T.length
  ·have hr:=bT hk []
   have s:=cz0 hm hu.lt hv.lt (hT _ hr).1 hu.ln hv.ln nd (λp hp=>((mem p).mp hp).1) λj hj hn=>Yg λz=>hn ((mem j).mpr ⟨hj,z⟩)
   rw[hu.z _ hr,hv.z _ hr,qt (qv g λ_ _=>bX hm _ _)]at s
   exact Eq.trans (cu λt _=>fS m _ _) s.symm
  ·refine fE g λt _=>?_
   show gm m _ (cf (T.getD k []) _)=0
   rw[aF,gx (by omega)]
   exact ig m _ h0
 refine pJ hu.ln hv.ln λj hj=>Yg λz=>?_
 obtain⟨t,ht,e⟩:=jn ((mem j).mpr ⟨hj,z⟩)
 have e2:ps.getD t 0=j:=by rw[aF,aJ ht];exact e
 have:=I t ht
 rw[e2]at this
 exact cz7 hm (cF hm hu.lt _) (cF hm hv.lt _) z this
theorem qG(n j:Nat):cf (aW n 0) j=0:=by
 unfold cf
 rw[aF,yn]
 split<;>rfl
theorem Sb(hm:m∈aA){T:List (List Nat)}(hT:RT (aa m) (af T) T):Wd m T (aW (af T) 0):=by
 have fv:=lo1 hm
 refine⟨gH ..,λa ha=>by rw[(wu.mp ha).2];omega,λr hr=>?_⟩
 rw[sV m (by rw[(hT r hr).1,gH])]
 exact fE (rg hm) λj _=>by rw[qG];exact ig m _ (cq m hm)
theorem Sd(hm:m∈aA){a b x:Nat}(ha:a<aa m)(hb:b<aa m)(hx:x<aa m)(h:gp m a x=gp m b x):a=b:=by
 have g:=rg hm
 obtain⟨y,hy⟩:∃y,gp m x y=0:=⟨_,by rw[rA];exact(xP hm hx).2⟩
 have e:=congrArg (λz=>gp m z y) h
 rw[g.pa,g.pa,hy,qt ha,qt hb]at e
 exact e
theorem Se(hm:m∈aA){f n e:Nat}(hn:n+1<=aa m):IF m e n (λj=>eS m (j:Int)) (λj=>eS m ((f:Int)*(j:Int))) (fW m f (aw n) e) where
 rt:=by have:=(Iz hm f (aw n) e).1;rw[bC]at this;exact this
 l:=(Iz hm f (aw n) e).2
 xl:=λj=>HS hm _
 xd:=λi j hi hj h=>cG3 hm (by omega) (by omega) h
 yl:=λj=>HS hm _
 y0:=λj _=>by have:=(sS hm ((f:Int)*(j:Int))).1;omega
 at_:=λi hi=>⟨i,hi,λj hj=>by
  unfold ik
  rw[cn7 hi,Q1 hm,HU hm]
  show cf ((aw n).map λ(p:Nat)=>eS m (((f:Int)+(i:Int))*(p:Int))) j=_
  rw[uu _ hj,Fp,uW (j:Int)]⟩
theorem ct7(hm:m∈aA){f n e:Nat}(hn:n+1<=aa m)(hw:af (fW m f (aw n) e)=n):IT m (fW m f (aw n) e) (e+1) :=
 cm6 hm (by rw[hw];exact(Se hm hn).rt) λS hS hl=>(Se hm hn).ind hm (by rw[hw]at hS;exact hS) (by omega)
variable{G:List (List Nat)}
theorem cW.wd(h:cW m G){l:List Nat}(hl:l.length=(aX m G).length):Wd m G (sZ m G l):=⟨R8 ..,h.wlt hl,h.word hl⟩
theorem cW.dp0(h:cW m G){d:Nat}(hd:IT m G d):d+(aX m G).length<=af G+1:=by
 have hm:=h.hm
 have fv:=lo1 hm
 have hz:=h.sz
 have l1:(1::aW ((aX m G).length-1) 0).length=(aX m G).length:=by rw[eK,gH];omega
 have a1:AllLt (aa m) (1::aW ((aX m G).length-1) 0):=λa ha=>by
  rcases cN.mp ha with q | q
  ·omega
  ·rw[(wu.mp q).2];omega
 have w:=h.wd l1
 have at_:=λ{j:Nat} (hj:j<(aX m G).length)=>h.at l1 a1 hj
 have:=hd _ _ w (Sb hm h.rt) λz=>by
  have e:=at_ hz
  rw[z,qG]at e
  exact absurd e (by show ¬ (0=1);decide)
 have k:=RZ (l:=vP (af G) (sZ m G (1::aW ((aX m G).length-1) 0)) (aW (af G) 0)++(aX m G).drop 1) (l':=aw (af G)) ?_ ?_
 ·rw[df,jT,bC]at k
  omega
 ·refine Na.mpr ⟨Sa ..,(Ds m G).sublist (List.drop_sublist ..),λa ha b hb z=>?_⟩
  subst z
  obtain⟨k,hk,e⟩:=jn hb
  rw[jT]at hk
  rw[List.getElem_drop]at e
  have ek:=at_ (show 1+k<(aX m G).length by omega)
  rw[show(aX m G).getD (1+k) 0=a by rw[aF,aJ (by omega)];exact e]at ek
  refine(IS.mp ha).2 ?_
  rw[ek,qG]
  unfold cf
  rw[yo,List.getD_cons_succ]
  exact qG _ _
 ·intro a ha
  rcases bV.mp ha with q | q
  ·exact bw.mpr (IS.mp q).1
  ·exact bw.mpr (IQ (rS q))
theorem cH0{a b:List Nat}{f:Nat->Nat->Nat}{k:Nat}(ha:k<a.length)(hb:k<b.length):cf (eO f a b) k=f (cf a k) (cf b k):=by
 unfold cf
 rw[aF,BC,aF,aF,aJ ha,aJ hb];rfl
end
end L3
namespace L2
open PySem PySem.Spec PyProof.Rows
def gtL:V->V->Hp->VK->Prop:=λo i H Q=>∃p xs k v,o=.ref p/\i=.int k/\H p=some (.lst xs)/\0<=k/\xs[k.toNat]?=some v/\Q v H
theorem cs7{X:Cx}:N2 X gtL:=by
 intro pins s σ H o i ov iv Q I ro ri h
 obtain⟨p,xs,k,z,rfl,rfl,hp,h0,he,q⟩:=h
 cases ro
 obtain⟨t,rfl⟩:=ri
 obtain⟨its,r,pl,hz⟩:=I.list (bI.of hp)
 obtain⟨w,ew,fu⟩:=r.get he
 have hn:=tX
 have hl:=r.length
 have hk:=(kY.mp he).1
 exact wpAny_getItem_list pl.isList h0 (by omega) (by simpa using ew) ⟨z,H,I,fu,q⟩
end L2
namespace L3
open PySem L2 PySem.Spec PyProof.Rows
section
variable{X:Cx}{i:Nat}{x:Str}{p pos p5:Pos}{b e:Expr}{ti te:aI}
def nK(i:Nat)(ti:aI)(n:Int):c9:=λEn δ=>(∃xs,δ[i]?=some (some (.lst true xs)))/\ti δ λkd aj=>match kd with
 | .int k=>∃xs z,aj[i]?=some (some (.lst true xs))/\0<=k/\xs[k.toNat]?=some (.int z)/\En.nx (aj.set i (some (.lst true (xs.set k.toNat (.int (z+n))))))
 | _=>False
theorem cE5{n:Int}(hN:X.N[i]?=some x)(hv:lF X.env.scope x)(hi:PE X b (lB ti))(he:PE X e (tC (.int n)))(hd:(x==("__debug__":Str))=false:=by decide)(cC:(x==("__classdict__":Str))=false:=by decide)
  (ha:∀ov iv new,augStore b ov iv new=(do holding [new,ov,iv] (setItem ov iv new);release [new,ov,iv] [];pure .next):=by intros;rfl) :
  PS X (.AugAssign (.Subscript (.Name x p) b p5) .Add e pos) (lS X (nK i ti n)) :=
 jA (Zn (qU hN hv hd cC) hi cs7 he Zp Ow ha) λEn σ H zz=>by
  obtain⟨B,F,δ,Dd,c,⟨⟨ys,ey⟩,q⟩,k1,k2,k3,k4⟩:=zz
  obtain⟨p0,xi,g1,g2,g3⟩:=c.ownAt ey
  refine⟨.ref p0,g1,B,F,δ,[],_,c,q,λkd aj kv F1 H1 hk f1 h1 c1 s1=>?_⟩
  have st:=s1
  split at hk
  ·rename_i k
   obtain⟨xs,z,ex,h0,ez,hn⟩:=hk
   cases st
   obtain⟨v,ev,sv⟩:=c1.look ex
   rw[g1]at ev;cases ev
   obtain⟨p1,ws,e1,e2,sw⟩:=iJ sv c1.ext
   cases e1
   obtain⟨w,ew,s2⟩:=sw.get ez
   cases s2
   have hk:=(kY.mp ew).1
   refine⟨p0,ws,k,.int z,rfl,rfl,e2,h0,ew,z,n,rfl,rfl,p0,ws,k,k.toNat,rfl,rfl,e2,?_,k1 _ _ F1 _ hn (ak.Pd (c1.pushS (d:=.int (z+n)) (.int .nil) rfl) ex g1 e2 k.toNat)⟩
   unfold jv
   rw[if_pos h0,if_pos (by omega)]
  ·exact hk.elim
def nM(i:Nat)(t:aI):c9:=λEn δ=>(∃xs,δ[i]?=some (some (.lst true xs)))/\t δ λd ai=>∃zs xs,d=.lst true zs/\ai[i]?=some (some (.lst true xs))/\xs.length+zs.length<=sizeLine/\En.nx (ai.set i (some (.lst true (xs++zs))))
theorem cB1{t:aI}{apos bJ:Pos}(hN:X.N[i]?=some x)(hv:lF X.env.scope x)(he:PE X e (lE t))(hd:(x==("__debug__":Str))=false:=by decide)(cC:(x==("__classdict__":Str))=false:=by decide)
  (jw:attributeBase (.Name x p) "extend" X.env (eval (.Name x p) X.env)=eval (.Name x p) X.env:=by rfl)
  (sq:((backTo bJ (starEach [e] X.env)).all (λx=>!x.1)&&(backToKw bJ (keywordEach [] X.env)).all (λx=>x.1.isSome)
   && decide ([e].length+([]:List Keyword).length+(if([]:List Keyword).isEmpty then 0 else 1)<30))=true:=by rfl)
  (jx:(apos.endLine==bJ.line)=true:=by rfl) (hs:starEach [e] X.env=(false,eval e X.env)::starEach [] X.env:=by rfl) (sr:(backTo bJ (starEach [] X.env)).any (·.1)=false:=by rfl)
  (qm:swapsWith (.Call (.Attribute (.Name x p) "extend" apos) [e] [] bJ) none pos.line X.env=pure false:=by rfl) :
  PS X (.Expr (.Call (.Attribute (.Name x p) "extend" apos) [e] [] bJ) pos) (lS X (nM i t)) :=
 jA (tV (yT PySem.F.plainAttrs_list PySem.F.slot_list_extend PySem.F.type_list_extend bX1 (qU hN hv hd cC) (cy he ff hs) jw sq jx hs sr) qm) λEn σ H zz=>by
  obtain⟨B,F,δ,Dd,c,⟨⟨ys,ey⟩,q⟩,k1,k2,k3,k4⟩:=zz
  obtain⟨p0,xi,g1,g2,g3⟩:=c.ownAt ey
  refine⟨.ref p0,g1,.inl ⟨rfl,_,bI.of g2⟩,B,F,δ,[],_,c,q,λd ai v F' H' hd sf sh c'=>?_⟩
  obtain⟨zs,xs,rfl,ex,hl,hn⟩:=hd
  obtain⟨p1,ws,r1,r2,r3⟩:=c'.ownAt ex
  rw[g1]at r1;cases r1
  obtain⟨p2,us,rfl,e2,t2⟩:=iJ c'.top c'.ext
  refine⟨p0,p2,ws,us,rfl,rfl,r2,e2,by rw[<-r3,<- t2.length];exact hl,k1 _ _ F' _ hn ?_⟩
  exact ak.mut (ps:=[(.lst true zs,.ref p2)]) c' ex g1 λgz A1 A2 h r1 vQ nd=>by
   rw[r2]at h;cases h
   have vQ:R F' H' [.lst true zs] [.ref p2] A2:=vQ
   cases vQ with
   | @own _ vw _ Az _ _ Bz hH hF hx hr =>
    cases hr
    rw[e2]at hH;cases hH
    rw[fJ]at nd ⊢
    have sl:(A1++Az).Sublist (A1++p2::Az):=(Nt p2 Az).append_left A1
    exact⟨A1++Az,r1.append hx,nd.sublist sl,λa ha=>sl.subset ha⟩
end
section
variable{P:Program}{w:World}{K:PySem.W.Frag}{mg:Str->Option Value}{base:Heap}
end
section
variable{X:Cx}{CX:fg}{n:Nat}{f C:Addr}{fd:FuncData}{ps:List Str}{kQ:List D->List Str->List D->Prop}{E:XK}{x:Str}{p pos:Pos}{e:Expr}{es:List Expr}{t:cJ}{tl:List Addr}
end
section
variable{X:Cx}{i j:Nat}{x y:Str}{e:Expr}{te:aI}{p q pos apos bJ uh rF:Pos}
def nN(i j:Nat)(te:aI):c9:=λD δ=>i≠j/\(∃xs,δ[i]?=some (some (.lst true xs)))/\(∃ys,δ[j]?=some (some (.lst true ys)))/\te δ λd aj=>∃(P:List Int) (xs:List L3.D) (z:Nat) (a:Int),d=.int (z:Nat)/\z<1000000/\aj[j]?=some (some (.lst true (ax P)))/\P[z]?=some a/\aj[i]?=some (some (.lst true xs))/\xs.length<sizeLine/\D.nx ((aj.set j (some (.lst true (ax (P.eraseIdx z))))).set i (some (.lst true (xs++[.int a]))))
theorem cd9(hN:X.N[i]?=some x)(hv:lF X.env.scope x)(hM:X.N[j]?=some y)(hw:lF X.env.scope y)(he:PE X e (lE te))(hd:(x==("__debug__":Str))=false:=by decide)(cC:(x==("__classdict__":Str))=false:=by decide)
  (u4:(y==("__debug__":Str))=false:=by decide) (dp7:(y==("__classdict__":Str))=false:=by decide)
  (jw:attributeBase (.Name x p) "append" X.env (eval (.Name x p) X.env)=eval (.Name x p) X.env:=by rfl)
  (sq:((backTo bJ (starEach [.Call (.Attribute (.Name y q) "pop" uh) [e] [] rF] X.env)).all (λx=>!x.1)&&(backToKw bJ (keywordEach [] X.env)).all (λx=>x.1.isSome)
   && decide ([Expr.Call (.Attribute (.Name y q) "pop" uh) [e] [] rF].length+([]:List Keyword).length+(if([]:List Keyword).isEmpty then 0 else 1)<30))=true:=by rfl)
  (jx:(apos.endLine==bJ.line)=true:=by rfl) (hs:starEach [.Call (.Attribute (.Name y q) "pop" uh) [e] [] rF] X.env=(false,eval (.Call (.Attribute (.Name y q) "pop" uh) [e] [] rF) X.env)::starEach [] X.env:=by rfl) (sr:(backTo bJ (starEach [] X.env)).any (·.1)=false:=by rfl)
  (dp8:attributeBase (.Name y q) "pop" X.env (eval (.Name y q) X.env)=eval (.Name y q) X.env:=by rfl)
  (dp9:((backTo rF (starEach [e] X.env)).all (λx=>!x.1)&&(backToKw rF (keywordEach [] X.env)).all (λx=>x.1.isSome)
   && decide ([e].length+([]:List Keyword).length+(if([]:List Keyword).isEmpty then 0 else 1)<30))=true:=by rfl)
  (dq0:(uh.endLine==rF.line)=true:=by rfl) (dD:starEach [e] X.env=(false,eval e X.env)::starEach [] X.env:=by rfl) (dq1:(backTo rF (starEach [] X.env)).any (·.1)=false:=by rfl)
  (qm:swapsWith (.Call (.Attribute (.Name x p) "append" apos) [.Call (.Attribute (.Name y q) "pop" uh) [e] [] rF] [] bJ) none pos.line X.env=pure false:=by rfl) :
  PS X (.Expr (.Call (.Attribute (.Name x p) "append" apos) [.Call (.Attribute (.Name y q) "pop" uh) [e] [] rF] [] bJ) pos) (lS X (nN i j te)) :=
 jA (tV (yT PySem.F.plainAttrs_list PySem.F.slot_list_append PySem.F.type_list_append Gf (qU hN hv hd cC) (cy (yT PySem.F.plainAttrs_list PySem.F.slot_list_pop PySem.F.type_list_pop b82 (qU hM hw u4 dp7) (cy he ff dD) dp8 dp9 dq0 dD dq1) ff hs) jw sq jx hs sr) qm) λEn σ H zz=>by
  obtain⟨B,F,δ,Dd,c,⟨ne,⟨xs0,ex0⟩,⟨ys0,ey0⟩,q⟩,k1,k2,k3,k4⟩:=zz
  obtain⟨p0,xi,g1,g2,g3⟩:=c.ownAt ex0
  obtain⟨p1,ws1,h1,h2,h3⟩:=c.ownAt ey0
  refine⟨.ref p0,g1,.inl ⟨rfl,_,bI.of g2⟩,.ref p1,h1,.inl ⟨rfl,_,bI.of h2⟩,B,F,δ,[],_,c,q,λd ai v F' H' hd sf sh c'=>?_⟩
  obtain⟨P,xs,z,a,rfl,hz,eP,ea,ex,hl,hn⟩:=hd
  obtain⟨p2,ws,r1,r2,r3⟩:=c'.ownAt ex
  rw[g1]at r1;cases r1
  obtain⟨p3,vs,t1,t2,t3⟩:=c'.ownAt eP
  rw[h1]at t1;cases t1
  have sv:=c'.top
  cases sv
  have ew:vs=P.map V.int:=by
   obtain⟨v1,ev,s1⟩:=c'.look eP
   rw[h1]at ev;cases ev
   obtain⟨q1,us,z1,z2,z3⟩:=iJ s1 c'.ext
   cases z1
   rw[t2]at z2;cases z2
   exact CA z3
  subst ew
  have hzl:z<P.length:=(kY.mp ea).1
  have pne:p0≠p1:=λzz=>by
   subst zz
   obtain⟨A,C,r,s,nd,fr⟩:=c'.own
   have c2:=(c'.move eP)
   obtain⟨v2,Sf,c2⟩:=c2
   rw[h1]at Sf;cases Sf
   have ei:(ai.set j none)[i]?=some (some (.lst true xs)):=by rw[tH (iu ne)];exact ex
   exact ak.apart c2 ei g1 rfl
  refine⟨p1,P.map V.int,z,z,.int a,rfl,rfl,t2,by omega,by omega,?_,by rw[bN,ea];rfl,?_⟩
  ·rw[aR]
   unfold seqIndex?
   have z0:¬ ((z:Int)<0):=by omega
   have z1:(z:Int)<(P.length:Int):=by omega
   simp[z0,z1]
  have vQ:upd H' p1 (.lst ((P.map V.int).eraseIdx z)) p0=some (.lst ws):=by rw[bc pne];exact r2
  refine⟨p0,ws,.int a,rfl,rfl,vQ,by omega,k1 _ _ F' _ hn ?_⟩
  have c3:ak B F' (upd H' p1 (.lst ((P.eraseIdx z).map V.int))) σ (ai.set j (some (.lst true (ax (P.eraseIdx z))))) []:=ak.mut (ps:=[(.int (z:Nat),.int (z:Nat))]) c' eP h1 λgz A1 A2 h r1 r2 nd=>⟨[],RF _ _ _,.nil,λa ha=>nomatch ha⟩
  rw[Iy]at vQ ⊢
  have ex3:(ai.set j (some (.lst true (ax (P.eraseIdx z)))))[i]?=some (some (.lst true xs)):=by rw[tH (iu ne)];exact ex
  have c4:=(c3.pushS (d:=.int a) (v:=.int a) (.int .nil) rfl).app ex3 g1 vQ
  exact c4
end
end L3
namespace L3
open PySem L2 Mf
section
variable{m:Bool × Nat}
def qH(m:Bool × Nat)(w:List Nat)(a:Nat)(r:List Nat):List Nat:=eO (λx y=>bq m x (gm m a y)) w r
def pK(m:Bool × Nat)(ws:List (List Nat))(r:List Nat)(n:Nat):List (List Nat):=((aw n).map λa=>ws.map λw=>qH m w a r).flatten
def dU(m:Bool × Nat)(n:Nat)(R:List (List Nat)):List (List Nat):=R.foldl (λws r=>pK m ws r (aa m)) [aW n 0]
def cM(w:List Nat):Nat:=w.length-w.count 0
def ip(n:Nat)(ws:List (List Nat)):List Nat:=(aw (n+1)).map λj=>ws.countP λw=>cM w==j
theorem Sg:∀w:List Nat,w.count 0=(aw w.length).countP λp=>cf w p==0
 | []=>rfl
 | a::w=>by
  rw[eK,E4,BI,NC,ND,Sg w]
  rfl
theorem cz8(hm:m∈aA){x a y:Nat}(hx:x<aa m)(ha:a<aa m)(hy:y<aa m):bq m x (gm m a y)=gp m x (gm m (bq m 0 a) y):=by
 have g:=rg hm
 have h0:=cq m hm
 obtain⟨_,b,c⟩:=kS hm hx (bX hm a y)
 refine Sd hm b (HR hm hx (bX hm _ _)) (bX hm a y) (c.trans ?_)
 rw[g.pa,<- g.dr,(xP hm ha).2,fC m _ h0,qt hx]
variable{G:List (List Nat)}
theorem cF4{w r:List Nat}{n a p:Nat}(hw:w.length=n)(hr:r.length=n)(hp:p<n):cf (qH m w a r) p=bq m (cf w p) (gm m a (cf r p)):=cH0 (by omega) (by omega)
theorem ck9{w r:List Nat}{n:Nat}(hw:w.length=n)(hr:r.length=n)(a:Nat):(qH m w a r).length=n:=by unfold qH;rw[qO,hw,hr,wz]
theorem cr6(n q:Nat):((aw n).map λ_=>q).sum=n*q:=by
 induction n with
 | zero=>rw[Np];rfl
 | succ n ih=>rw[pS,dw,E6,ih,wD,qM];rfl
theorem cb3{w:List Nat}{n:Nat}(hw:w.length=n):w.count 0=n↔w=aW n 0:=by
 rw[<-hw]
 refine⟨λh=>Yh.mpr ⟨rfl,λb hb=>(List.count_eq_length.mp h b hb).symm⟩,λh=>?_⟩
 rw[h,Yi,gH]
end
section
variable{m:Bool × Nat}{G:List (List Nat)}
def fj(M:Nat)(c:Nat->Nat):Nat->List (List Nat)
 | 0=>[[]]
 | k+1=>((aw M).map λa=>(fj M c k).map λl=>l++[c a]).flatten
theorem uD{M:Nat}{c:Nat->Nat}(hc:∀a,a<M->c a<M)(sc:∀b,b<M->∃a,a<M/\c a=b):∀(k:Nat) (l:List Nat),l∈fj M c k↔l.length=k/\AllLt M l
 | 0,l=>by
  unfold fj
  rw[dh]
  exact⟨λh=>by subst h;exact⟨rfl,λa h=>absurd h (by simp)⟩,λh=>Fo.mp h.1⟩
 | k+1,l=>by
  unfold fj
  rw[E3]
  constructor
  ·rintro⟨L,hL,hl⟩
   obtain⟨a,ha,rfl⟩:=aT.mp hL
   obtain⟨l',tT,rfl⟩:=aT.mp hl
   obtain⟨e,al⟩:=(uD hc sc k l').mp tT
   refine⟨by rw[df,e];rfl,λx hx=>?_⟩
   rcases bV.mp hx with z | z
   ·exact al x z
   ·rw[dh.mp z];exact hc a (bw.mp ha)
  ·rintro⟨e,al⟩
   have ne:l≠[]:=λz=>by rw[z]at e;cases e
   have sp:=List.dropLast_concat_getLast ne
   obtain⟨a,ha,ca⟩:=sc (l.getLast ne) (al _ (List.getLast_mem ne))
   refine⟨_,aT.mpr ⟨a,bw.mpr ha,rfl⟩,aT.mpr ⟨l.dropLast,(uD hc sc k _).mpr ⟨by rw[List.length_dropLast,e];rfl,λx hx=>al x (List.dropLast_subset l hx)⟩,?_⟩⟩
   rw[ca];exact sp
theorem Sh{M:Nat}{c:Nat->Nat}(ic:∀a b,a<M->b<M->c a=c b->a=b):∀k,(fj M c k).Nodup
 | 0=>by unfold fj;simp
 | k+1=>by
  unfold fj
  refine List.pairwise_flatten.mpr ⟨λL hL=>?_,?_⟩
  ·obtain⟨a,_,rfl⟩:=aT.mp hL
   exact List.Pairwise.map _ (λx y ne h=>ne (List.append_cancel_right h)) (Sh ic k)
  ·refine BH.mpr (Fq (R:=λa b=>a≠b) (λ{a b} ha hb ne x h1 y h2 e=>?_) yx)
   obtain⟨x,_,rfl⟩:=aT.mp h1
   obtain⟨y,_,rfl⟩:=aT.mp h2
   have:=List.append_inj_right' e rfl
   exact ne (ic a b (bw.mp ha) (bw.mp hb) (by injection this))
theorem ce8(hm:m∈aA){l:List Nat}{R:List (List Nat)}{r:List Nat}{n c k:Nat}(h:l.length=R.length)(hk:k<n):cf (cU m (l++[c]) (R++[r]) n) k=gp m (cf (cU m l R n) k) (gm m c (cf r k)):=by
 rw[sW m (by rw[df,df,h];rfl) hk,sW m h hk,df]
 show gp m (sm (gp m) R.length _) _=_
 congr 1
 ·refine cu λj hj=>?_
  rw[Ir,if_pos (by omega),aF,wm hj,<- aF]
 ·show gm m (cf (l++[c]) R.length) (cf ((R++[r]).getD R.length []) k)=_
  rw[Ir,if_neg (by omega),h,uV,aF,wk (bG _),uV];rfl
def Du(M:Nat)(f:Nat->List Nat->List Nat->List Nat)(ws:List (List Nat))(r:List Nat):List (List Nat):=((aw M).map λa=>ws.map λw=>f a w r).flatten
theorem cm8{M n:Nat}{f:Nat->List Nat->List Nat->List Nat}{c:Nat->Nat}{S:List (List Nat)}{r:List Nat}(hl:∀l∈fj M c S.length,l.length=S.length)(hf:∀l a,l.length=S.length->a<M->f a (cU m l S n) r=cU m (l++[c a]) (S++[r]) n) :
  Du M f ((fj M c S.length).map λl=>cU m l S n) r=(fj M c (S++[r]).length).map λl=>cU m l (S++[r]) n:=by
 rw[df]
 show _=(fj M c (S.length+1)).map _
 unfold Du
 conv=>rhs;unfold fj
 rw[List.map_flatten,bO]
 congr 1
 refine jq λa ha=>?_
 show _=((fj M c S.length).map λl=>l++[c a]).map _
 rw[bO,bO]
 exact jq λl h=>hf l a (hl l h) (bw.mp ha)
theorem Si{M n:Nat}{f:Nat->List Nat->List Nat->List Nat}{c:Nat->Nat}(hl:∀k,∀l∈fj M c k,l.length=k):∀(R S:List (List Nat)),(∀S r l a,r∈R->l.length=S.length->a<M->f a (cU m l S n) r=cU m (l++[c a]) (S++[r]) n) ->
  R.foldl (Du M f) ((fj M c S.length).map λl=>cU m l S n)=(fj M c (S++R).length).map λl=>cU m l (S++R) n
 | [],S,_=>by rw[fJ];rfl
 | r::R,S,hf=>by
  rw[uP,cm8 (hl _) λl a h1 h2=>hf S r l a (ir ..) h1 h2,Si hl R (S++[r]) λS' r' l a h=>hf S' r' l a (fH _ h),eM];rfl
theorem cE8{M n:Nat}{f:Nat->List Nat->List Nat->List Nat}{c:Nat->Nat}(hc:∀a,a<M->c a<M)(sc:∀b,b<M->∃a,a<M/\c a=b)(R:List (List Nat))(hf:∀S r l a,r∈R->l.length=S.length->a<M->f a (cU m l S n) r=cU m (l++[c a]) (S++[r]) n) :
  R.foldl (Du M f) [aW n 0]=(fj M c R.length).map λl=>cU m l R n:=by
 have:=Si (m:=m) (n:=n) (f:=f) (λk l h=>((uD hc sc k l).mp h).1) R [] hf
 rw[jU]at this
 rw[<-this]
 congr 1
 show _=[cU m [] [] n]
 unfold cU
 rw[show(λk=>gd m [] (([]:List (List Nat)).map λr=>r.getD k 0))=λ_=>0 from rfl,List.map_const',bC]
structure Own(m:Bool × Nat)(n:Nat)(R:List (List Nat))(ps:List Nat):Prop where
 len:ps.length=R.length
 lt:∀p∈ps,p<n
 one:∀i j,i<R.length->j<R.length->cf (R.getD i []) (ps.getD j 0)=if i=j then 1 else 0
section
variable{n:Nat}{R:List (List Nat)}{ps:List Nat}
theorem Own.at(h:Own m n R ps)(hm:m∈aA){l:List Nat}(hl:l.length=R.length)(al:AllLt (aa m) l){j:Nat}(hj:j<R.length):cf (cU m l R n) (ps.getD j 0)=cf l j:=by
 have hp:ps.getD j 0<n:=h.lt _ (bT (by rw[h.len];exact hj) 0)
 have m0:=cq m hm
 rw[sW m hl hp,qE (rg hm) (j0:=j) (by exact bX hm _ _) hj λi hi ne=>by rw[h.one i j hi hj,if_neg ne,ig _ _ m0]]
 rw[h.one j j hj hj,if_pos rfl,qp (cF hm al j)]
theorem Own.inj(h:Own m n R ps)(hm:m∈aA){l l':List Nat}(hl:l.length=R.length)(al:AllLt (aa m) l)(tT:l'.length=R.length)(al':AllLt (aa m) l')(e:cU m l R n=cU m l' R n):l=l' :=
 pJ hl tT λk hk=>by rw[<-h.at hm hl al hk,e,h.at hm tT al' hk]
theorem Own.nd(h:Own m n R ps)(hm:m∈aA){c:Nat->Nat}(hc:∀a,a<aa m->c a<aa m)(sc:∀b,b<aa m->∃a,a<aa m/\c a=b)(ic:∀a b,a<aa m->b<aa m->c a=c b->a=b):((fj (aa m) c R.length).map λl=>cU m l R n).Nodup:=by
 refine BH.mpr (Fq (λ{a b} ha hb ne e=>ne ?_) (Sh ic R.length))
 obtain⟨h1,h2⟩:=(uD hc sc _ _).mp ha
 obtain⟨h3,h4⟩:=(uD hc sc _ _).mp hb
 exact h.inj hm h1 h2 h3 h4 e
theorem Own.mem(h:Own m n R ps)(hm:m∈aA){c:Nat->Nat}(hc:∀a,a<aa m->c a<aa m)(sc:∀b,b<aa m->∃a,a<aa m/\c a=b){v:List Nat}:v∈(fj (aa m) c R.length).map (λl=>cU m l R n)↔∃l,l.length=R.length/\AllLt (aa m) l/\v=cU m l R n:=by
 rw[aT]
 exact⟨λ⟨l,h1,h2⟩=>⟨l,((uD hc sc _ _).mp h1).1,((uD hc sc _ _).mp h1).2,h2.symm⟩,λ⟨l,h1,h2,h3⟩=>⟨l,(uD hc sc _ _).mpr ⟨h1,h2⟩,h3.symm⟩⟩
end
end
section
variable{m:Bool × Nat}{G:List (List Nat)}
theorem IU(hm:m∈aA):(∀a,a<aa m->bq m 0 a<aa m)/\(∀b,b<aa m->∃a,a<aa m/\bq m 0 a=b)/\∀a b,a<aa m->b<aa m->bq m 0 a=bq m 0 b->a=b:=by
 have tw:∀a,a<aa m->bq m 0 (bq m 0 a)=a:=λa ha=>by
  have h1:=(xP hm ha)
  have h2:=(xP hm h1.1)
  exact Sd hm h2.1 ha h1.1 (by rw[h2.2,rA,h1.2])
 exact⟨λa ha=>(xP hm ha).1,λb hb=>⟨bq m 0 b,(xP hm hb).1,tw b hb⟩,λa b ha hb e=>by rw[<-tw a ha,e,tw b hb]⟩
theorem Sj(hm:m∈aA){n:Nat}{R:List (List Nat)}(hR:RT (aa m) n R):dU m n R=(fj (aa m) (bq m 0) R.length).map λl=>cU m l R n:=by
 obtain⟨c1,c2,c3⟩:=IU hm
 refine cE8 (f:=λa w r=>qH m w a r) c1 c2 R λS r l a hr hl ha=>?_
 obtain⟨rl,rl2⟩:=hR r hr
 refine pJ (w:=n) (ck9 (rD ..) rl a) (rD ..) λk hk=>?_
 rw[cF4 (rD ..) rl hk,ce8 hm hl hk,cz8 hm (cF hm (Io hm n hl) k) ha (cF hm rl2 k)]
theorem cW.own(h:cW m G):Own m (af G) (bj m G) (aX m G) where
 len:=(fX ..).symm
 lt:=λp hp=>IQ hp
 one:=λi j hi hj=>by
  have hm:=h.hm
  rw[fX]at hi hj
  obtain⟨⟨H,I⟩,hR⟩:=h.red
  have fr:=λ{k:Nat} (hk:k<(aX m G).length)=>(I.free hm hR _).mp (xS hk)
  rw[Ao hi]
  obtain⟨_,_,a,_,b⟩:=uw hm hR I (xS hi)
  by_cases c:i=j
  ·rw[if_pos c,<- c];exact a
  ·rw[if_neg c]
   refine b _ (λz=>c ?_) (fr hj).2
   rw[aF,aF,aJ hi,aJ hj]at z
   exact((Bl (Ds m G)).mp z).symm
theorem cW.all(h:cW m G){v:List Nat}(hv:Wd m G v):v=sZ m G ((aX m G).map λj=>cf v j):=by
 have hm:=h.hm
 obtain⟨⟨H,I⟩,iR,_,sp⟩:=jj hm h.rt
 have lm:((aX m G).map λj=>cf v j).length=(bj m G).length:=by rw[fX,aR]
 refine pJ hv.ln (R8 ..) λk hk=>?_
 have zr:∀i,i<G.length->dt m (af G) (cf (G.getD i [])) (cf v)=0:=λi hi=>by
  have:=hv.z _ (bT hi [])
  rw[sV m (by rw[(h.rt _ (bT hi [])).1,hv.ln]),(h.rt _ (bT hi [])).1]at this
  exact this
 rw[I.RA hm iR (cF hm hv.lt) (λi hi=>b9.dt hm zr ((sp _).mpr (b9.of (bT hi [])))) hk]
 unfold sZ
 rw[sW m lm hk,fX]
 refine cu λj hj=>?_
 rw[Ao hj,show cf ((aX m G).map λj=>cf v j) j=cf v ((aX m G).getD j 0) from jL (λj=>cf v j) hj 0 0]
 rfl
theorem cW.Sk(h:cW m G):(dU m (af G) (bj m G)).Nodup/\∀v,v∈dU m (af G) (bj m G)↔Wd m G v:=by
 obtain⟨c1,c2,c3⟩:=IU h.hm
 rw[Sj h.hm h.rows]
 refine⟨h.own.nd h.hm c1 c2 c3,λv=>?_⟩
 rw[h.own.mem h.hm c1 c2]
 constructor
 ·rintro⟨l,h1,h2,rfl⟩
  exact h.wd (by rw[<-fX];exact h1)
 ·intro hv
  refine⟨(aX m G).map λj=>cf v j,by rw[fX,aR],λx hx=>?_,h.all hv⟩
  obtain⟨j,_,rfl⟩:=aT.mp hx
  exact cF h.hm hv.lt j
theorem Sl(m:Bool × Nat)(ws:List (List Nat))(r:List Nat)(n:Nat):pK m ws r (n+1)=pK m ws r n++ws.map λw=>qH m w n r:=by
 unfold pK
 rw[pS,dw,List.flatten_append]
 exact congrArg _ (fJ _)
theorem IV(m:Bool × Nat)(ws:List (List Nat))(r:List Nat):∀n,(pK m ws r n).length=n*ws.length
 | 0=>by rw[Np];rfl
 | n+1=>by rw[Sl,df,IV m ws r n,aR,wD,qM]
theorem by4(m:Bool × Nat)(n:Nat)(R:List (List Nat)):(dU m n R).length=aa m ^ R.length:=by
 have:∀(R ws:List (List Nat)),(R.foldl (λws r=>pK m ws r (aa m)) ws).length=aa m ^ R.length*ws.length:=λR=>by
  induction R with
  | nil=>intro ws;rw[nV,Bv,qM];rfl
  | cons r R ih=>intro ws;rw[uP,ih,IV,eK,nU,tK]
 unfold dU
 rw[this,EM,NF]
theorem cn8(m:Bool × Nat)(n:Nat)(R:List (List Nat)):∀w∈dU m n R,w.length<=n:=by
 have:∀(R ws:List (List Nat)),(∀w∈ws,w.length<=n)->∀w∈R.foldl (λws r=>pK m ws r (aa m)) ws,w.length<=n:=λR=>by
  induction R with
  | nil=>exact λws h=>h
  | cons r R ih =>
   refine λws h=>ih _ λw hw=>?_
   unfold pK at hw
   obtain⟨l,hl,hw⟩:=E3.mp hw
   obtain⟨a,_,rfl⟩:=aT.mp hl
   obtain⟨v,hv,rfl⟩:=aT.mp hw
   unfold qH
   rw[qO]
   have:=h v hv
   omega
 exact this R _ λw hw=>by rw[dh.mp hw,gH];exact bG _
theorem Sm(m:Bool × Nat){n:Nat}{R:List (List Nat)}(hR:RT (aa m) n R):∀w∈dU m n R,w.length=n:=by
 have:∀(R ws:List (List Nat)),(∀r∈R,r.length=n)->(∀w∈ws,w.length=n)->∀w∈R.foldl (λws r=>pK m ws r (aa m)) ws,w.length=n:=λR=>by
  induction R with
  | nil=>exact λws _ h=>h
  | cons r R ih =>
   refine λws hr h=>ih _ (λr' h'=>hr r' (fH _ h')) λw hw=>?_
   unfold pK at hw
   obtain⟨l,hl,hw⟩:=E3.mp hw
   obtain⟨a,_,rfl⟩:=aT.mp hl
   obtain⟨v,hv,rfl⟩:=aT.mp hw
   unfold qH
   rw[qO,h v hv,hr r (ir ..),wz]
 exact this R _ (λr hr=>(hR r hr).1) λw hw=>by rw[dh.mp hw,gH]
theorem s8(n:Nat)(ws:List (List Nat)):(ip n ws).length=n+1:=by unfold ip;rw[aR,bC]
theorem Dv{n j:Nat}(ws:List (List Nat))(h:j<=n):cf (ip n ws) j=ws.countP λw=>cM w==j:=uu _ (by omega)
theorem cc6{n:Nat}(ws:List (List Nat)){w:List Nat}(h:cM w<=n):ip n (ws++[w])=(ip n ws).set (cM w) (cf (ip n ws) (cM w)+1):=by
 refine pJ (w:=n+1) (s8 ..) (by rw[uN,s8]) λj hj=>?_
 rw[Dv _ (by omega),Fs]
 unfold cf
 rw[aF,List.getElem?_set]
 by_cases c:cM w=j
 ·rw[if_pos c,if_pos (by rw[s8];omega),iz,Yj (by rw[c];exact beq_self_eq_true j),NG]
  rw[c]
  exact congrArg (·+1) (Dv ws (show j<=n by omega)).symm
 ·rw[if_neg c,Yk (by rw[beq_false_of_ne c];decide),NG,<- aF]
  exact(Dv ws (show j<=n by omega)).symm
theorem cc8(w:List Nat):(w.map λ(n:Nat)=>(n:Int)).count 0=w.count 0:=by
 induction w with
 | nil=>rfl
 | cons a w ih =>
  rw[bR,ND,ND,ih]
  congr 1
  by_cases z:a=0
  ·rw[z];rfl
  ·rw[beq_false_of_ne z,beq_false_of_ne (show(a:Int)≠0 by omega)]
section
variable{r n:Nat}{T:List (List Nat)}
end
end
end L3
namespace L3
def ch:Nat->Nat->Int
 | _,0=>1
 | 0,_+1=>0
 | n+1,k+1=>ch n k+ch n (k+1)
theorem kU(n:Nat):ch n 0=1:=by cases n<;>rfl
theorem cL1(k:Nat):ch 0 (k+1)=0:=rfl
theorem uE(n k:Nat):ch (n+1) (k+1)=ch n k+ch n (k+1):=rfl
theorem Dw:∀(n k:Nat),n<k->ch n k=0
 | 0,k+1,_=>rfl
 | n+1,k+1,h=>by rw[uE,Dw n k (by omega),Dw n (k+1) (by omega)];rfl
theorem xT:∀n k:Nat,0<=ch n k
 | n,0=>by rw[kU];decide
 | 0,k+1=>by rw[cL1];decide
 | n+1,k+1=>by rw[uE];have:=xT n k;have:=xT n (k+1);omega
theorem Dx:∀n k:Nat,ch n (k+1)*((k:Int)+1)=ch n k*((n:Int)-k)
 | 0,0=>by simp[ch]
 | 0,k+1=>by simp[ch]
 | n+1,0=>by
  have:=Dx n 0
  rw[uE,kU,kU]
  rw[kU]at this
  simp at this ⊢
  omega
 | n+1,k+1=>by
  have h1:=Dx n k
  have h2:=Dx n (k+1)
  rw[uE n (k+1),uE n k]
  have e1:(ch n (k+1)+ch n (k+1+1))*(((k+1:Nat):Int)+1)=ch n (k+1)*((k:Int)+1)+ch n (k+1)+ch n (k+1+1)*(((k+1:Nat):Int)+1):=by
   rw[Fp,show(((k+1:Nat):Int)+1)=(k:Int)+1+1 by omega,wF (ch n (k+1)) ((k:Int)+1) 1,uK]
  rw[e1,h1,h2]
  have e2:ch n (k+1)*((n:Int)-((k+1:Nat):Int))=ch n (k+1)*((n:Int)-k)-ch n (k+1):=by
   rw[show((n:Int)-((k+1:Nat):Int))=((n:Int)-k)-1 by omega,Int.mul_sub,uK]
  have e3:(((n+1:Nat):Int)-((k+1:Nat):Int))=(n:Int)-k:=by omega
  rw[e2,e3,Fp]
  omega
def sI(f:Nat->Int):Nat->Int
 | 0=>0
 | n+1=>sI f n+f n
theorem eY{f g:Nat->Int}:∀n,(∀i,i<n->f i=g i)->sI f n=sI g n
 | 0,_=>rfl
 | n+1,h=>by show sI f n+f n=sI g n+g n;rw[eY n λi hi=>h i (by omega),h n (by omega)]
theorem Dy(f g:Nat->Int):∀n,sI (λi=>f i+g i) n=sI f n+sI g n
 | 0=>rfl
 | n+1=>by show sI _ n+(f n+g n)=sI f n+f n+(sI g n+g n);rw[Dy f g n];omega
theorem qI(c:Int)(f:Nat->Int):∀n,sI (λi=>c*f i) n=c*sI f n
 | 0=>by show 0=c*0;rw[wH]
 | n+1=>by show sI _ n+c*f n=c*(sI f n+f n);rw[qI c f n,wF]
theorem Ap:∀n,sI (λ_=>0) n=0
 | 0=>rfl
 | n+1=>by show sI _ n+0=0;rw[Ap n];rfl
theorem Sn(f:Nat->Int):∀n,sI f (n+1)=f 0+sI (λi=>f (i+1)) n
 | 0=>by show 0+f 0=f 0+0;omega
 | n+1=>by show sI f (n+1)+f (n+1)=f 0+(sI (λi=>f (i+1)) n+f (n+1));rw[Sn f n];omega
theorem xU(f:Nat->Int):∀n,((aw n).map f).sum=sI f n
 | 0=>rfl
 | n+1=>by rw[pS,dw,E6,xU f n];show sI f n+(f n+0)=sI f n+f n;omega
def m1(a:Int)(P:Nat->Int):Nat->Int
 | 0=>P 0
 | j+1=>P (j+1)+a*P j
def dl:Nat->Int:=λj=>if j=0 then 1 else 0
def g0:Nat->Nat->Int
 | 0=>dl
 | i+1=>m1 (-1) (g0 i)
def gg(x:Int):Nat->Nat->Nat->Int
 | 0,i=>g0 i
 | m+1,i=>m1 x (gg x m i)
theorem So(a:Int){P Q:Nat->Int}(h:∀j,P j=Q j)(j:Nat):m1 a P j=m1 a Q j:=by
 cases j with
 | zero=>exact h 0
 | succ j=>show P (j+1)+a*P j=Q (j+1)+a*Q j;rw[h,h]
theorem cO6(x:Int)(m i j:Nat):gg x (m+1) i j=m1 x (gg x m i) j:=rfl
def cv(A B:Nat->Int)(j:Nat):Int:=sI (λs=>A s*B (j-s)) (j+1)
theorem cP7(A B:Nat->Int)(a:Int):∀j,cv A (m1 a B) j=m1 a (cv A B) j
 | 0=>rfl
 | j+1=>by
  show sI (λs=>A s*m1 a B (j+1-s)) (j+1)+A (j+1)*m1 a B (j+1-(j+1))=sI (λs=>A s*B (j+1-s)) (j+1)+A (j+1)*B (j+1-(j+1))+a*sI (λs=>A s*B (j-s)) (j+1)
  rw[<-qI,uV]
  have:sI (λs=>A s*m1 a B (j+1-s)) (j+1)=sI (λs=>A s*B (j+1-s)+a*(A s*B (j-s))) (j+1):=by
   apply eY
   intro s hs
   rw[show j+1-s=(j-s)+1 by omega]
   show A s*(B (j-s+1)+a*B (j-s))=_
   rw[wF,yz]
  rw[this,Dy]
  show _+A (j+1)*B 0=_
  omega
theorem bH1(A B:Nat->Int):∀(n:Nat),sI (λs=>A s*B (n-s)) (n+1)=sI (λs=>B s*A (n-s)) (n+1):=by
 intro n
 have rev:∀(f:Nat->Int) (k:Nat),sI f k=sI (λi=>f (k-1-i)) k:=by
  intro f k
  induction k generalizing f with
  | zero=>rfl
  | succ k ih =>
   rw[Sn (λi=>f (k+1-1-i)) k]
   show sI f k+f k=f (k-0)+sI (λi=>f (k-(i+1))) k
   rw[ih f]
   have:sI (λi=>f (k-1-i)) k=sI (λi=>f (k-(i+1))) k:=eY k λi hi=>by rw[show k-1-i=k-(i+1) by omega]
   rw[this]
   show _+f k=f k+_
   omega
 rw[rev]
 apply eY
 intro i hi
 show A (n+1-1-i)*B (n-(n+1-1-i))=B i*A (n-i)
 rw[show n+1-1-i=n-i by omega,show n-(n-i)=i by omega,uW]
theorem cs1(A B:Nat->Int)(j:Nat):cv A B j=cv B A j:=bH1 A B j
theorem IW{A A' B B':Nat->Int}(h:∀i,A i=A' i)(h':∀i,B i=B' i)(j:Nat):cv A B j=cv A' B' j:=eY _ λi _=>by rw[h,h']
def Aq(i:Nat):Nat->Int:=λs=>(-1) ^ s*ch i s
def be(x:Int)(m:Nat):Nat->Int:=λt=>x ^ t*ch m t
theorem cQ9(i:Nat):∀s,Aq (i+1) s=m1 (-1) (Aq i) s
 | 0=>by show(-1) ^ 0*ch (i+1) 0=(-1) ^ 0*ch i 0;rw[kU,kU]
 | s+1=>by
  show(-1) ^ (s+1)*(ch i s+ch i (s+1))=(-1) ^ (s+1)*ch i (s+1)+(-1)*((-1) ^ s*ch i s)
  rw[wF,yA,<- uX,uW (-1) ((-1) ^ s)]
  omega
theorem cQ6(x:Int)(m:Nat):∀t,be x (m+1) t=m1 x (be x m) t
 | 0=>by show x ^ 0*ch (m+1) 0=x ^ 0*ch m 0;rw[kU,kU]
 | t+1=>by
  show x ^ (t+1)*(ch m t+ch m (t+1))=x ^ (t+1)*ch m (t+1)+x*(x ^ t*ch m t)
  rw[wF,<- uX,uW x,yA]
  omega
theorem Sq:∀s,Aq 0 s=dl s
 | 0=>rfl
 | s+1=>by show(-1) ^ (s+1)*0=0;rw[wH]
theorem cR2(x:Int):∀s,be x 0 s=dl s
 | 0=>by show x ^ 0*1=1;rw[Int.pow_zero];rfl
 | s+1=>by show x ^ (s+1)*0=0;rw[wH]
theorem Sr(A:Nat->Int)(j:Nat):cv A dl j=A j:=by
 show sI (λs=>A s*dl (j-s)) j+A j*dl (j-j)=A j
 have:sI (λs=>A s*dl (j-s)) j=sI (λ_=>0) j:=eY j λs hs=>by
  show A s*(if j-s=0 then 1 else 0)=0
  rw[if_neg (by omega),wH]
 rw[this,Ap,uV]
 show 0+A j*1=A j
 omega
theorem Ss(x:Int):∀i j,gg x 0 i j=Aq i j
 | 0,j=>(Sq j).symm
 | i+1,j=>by
  rw[cQ9]
  exact So (-1) (Ss x i) j
theorem IY(x:Int)(i:Nat):∀m j,gg x m i j=cv (Aq i) (be x m) j
 | 0,j=>by rw[Ss,IW (λ_=>rfl) (cR2 x),Sr]
 | m+1,j=>by
  rw[cO6,IW (λ_=>rfl) (cQ6 x m),cP7]
  exact So x (IY x i m) j
theorem cI0(x:Int)(m j:Nat):gg x m 0 j=be x m j:=by
 rw[IY,IW Sq (λ_=>rfl),cs1,Sr]
theorem IZ(x:Int):∀m i,gg x m i 0=1
 | 0,0=>rfl
 | 0,i+1=>IZ x 0 i
 | m+1,i=>IZ x m i
end L3
namespace L3
open PySem L2
theorem Su{a:Int}{P:Nat->Int}{k:Nat}(h:∀j,(P j).natAbs<=k)(j:Nat):(m1 a P j).natAbs<=(1+a.natAbs)*k:=by
 cases j with
 | zero=>have:=h 0;show(P 0).natAbs<=_;rw[wD,qM];omega
 | succ j =>
  have h1:=h (j+1)
  have h2:=Int.natAbs_add_le (P (j+1)) (a*P j)
  have h3:(a*P j).natAbs<=a.natAbs*k:=by rw[NH];exact Yl _ (h j)
  show(P (j+1)+a*P j).natAbs<=_
  rw[wD,qM];omega
theorem Sv:∀i j,(g0 i j).natAbs<=2 ^ i
 | 0,j=>by show(if j=0 then(1:Int)else 0).natAbs<=1;split<;>decide
 | i+1,j=>by
  have:=Su (a:=-1) (Sv i) j
  rw[nU,jV];exact this
theorem I0{x:Int}{q:Nat}(h:1+x.natAbs<=q)(i:Nat):∀m j,(gg x m i j).natAbs<=q ^ m*2 ^ i
 | 0,j=>by rw[Bv,qM];exact Sv i j
 | m+1,j=>by
  have h1:=Su (a:=x) (I0 h i m) j
  have h2:(1+x.natAbs)*(q ^ m*2 ^ i)<=q*(q ^ m*2 ^ i):=Ym _ h
  rw[nU,jV (q ^ m) q,tK]
  exact cQ h1 h2
theorem Ja{x:Int}(h0:0<=x)(h:x<64){m i:Nat}(hm:m<=24)(hi:i<=24)(j:Nat):(gg x m i j).natAbs<2 ^ 200:=by
 have h1:=I0 (q:=64) (show 1+x.natAbs<=64 by omega) i m j
 have h2:64 ^ m<=64 ^ 24:=jW (by decide) hm
 have h3:2 ^ i<=2 ^ 24:=jW (by decide) hi
 have h4:64 ^ m*2 ^ i<=64 ^ 24*2 ^ 24:=NI h2 h3
 have h5:64 ^ 24*2 ^ 24<2 ^ 200:=by decide
 omega
theorem Dz{n:Nat}(h:n<=24)(k:Nat):ch n k<2 ^ 64:=by
 have h1:=Ja (x:=1) (by decide) (by decide) h (show 0<=24 by decide) k
 have h2:=I0 (x:=1) (q:=2) (by decide) 0 n k
 rw[cI0]at h2
 have e:be 1 n k=ch n k:=by show 1 ^ k*ch n k=_;rw[NJ,Int.one_mul]
 rw[e,Bv,NF]at h2
 have h3:2 ^ n<=2 ^ 24:=jW (by decide) h
 have h4:(2:Nat) ^ 24=16777216:=by decide
 have h5:(2:Int) ^ 64=18446744073709551616:=by decide
 omega
theorem Sw{k:Nat}(f:Nat->Int)(a:List Int)(g:Nat->Nat):(∀i,i<k->g i<a.length)->(∀i,i<a.length->a.getD i 0=f i)->(((aw k).map g).filterMap (a[·]?))=(aw k).map λi=>f (g i):=by
 intro h1 h2
 rw[List.filterMap_map]
 induction k with
 | zero=>rfl
 | succ k ih =>
  rw[pS,List.filterMap_append,dw,ih λi hi=>h1 i (by omega)]
  congr 1
  have h3:=h1 k (by omega)
  have h4:=h2 _ h3
  rw[aF,aJ h3]at h4
  show List.filterMap (λi=>a[g i]?) [k]=[f (g k)]
  rw[rN,aJ h3]
  show [a[g k]]=_
  rw[<-h4];rfl
theorem ix0:∀L,L<26->sliceRange (sliceBounds (some 0) none (some 2) L).1 (sliceBounds (some 0) none (some 2) L).2.1 (sliceBounds (some 0) none (some 2) L).2.2=(aw ((L+1)/2)).map (2 * ·):=by decide +kernel
theorem ix1:∀L,L<26->sliceRange (sliceBounds (some 1) none (some 2) L).1 (sliceBounds (some 1) none (some 2) L).2.1 (sliceBounds (some 1) none (some 2) L).2.2=(aw (L/2)).map (2 * ·+1):=by decide +kernel
theorem cB4(f:Nat->Int):∀L,sI (λi=>f (2*i)) ((L+1)/2)-sI (λi=>f (2*i+1)) (L/2)=sI (λs=>(-1) ^ s*f s) L:=by
 have two:∀m,sI (λi=>f (2*i)) m-sI (λi=>f (2*i+1)) m=sI (λs=>(-1) ^ s*f s) (2*m):=by
  intro m
  induction m with
  | zero=>rfl
  | succ m ih =>
   show sI (λi=>f (2*i)) m+f (2*m)-(sI (λi=>f (2*i+1)) m+f (2*m+1))=sI (λs=>(-1) ^ s*f s) (2*m)+(-1) ^ (2*m)*f (2*m)+(-1) ^ (2*m+1)*f (2*m+1)
   rw[<-ih,yA,Int.pow_mul,show((-1:Int) ^ 2)=1 by decide,NJ]
   omega
 intro L
 have h:=M8 L 2
 rcases Nat.mod_two_eq_zero_or_one L with e | e
 ·rw[show(L+1)/2=L/2 by omega,two,show 2*(L/2)=L by omega]
 ·rw[show(L+1)/2=L/2+1 by omega]
  show sI (λi=>f (2*i)) (L/2)+f (2*(L/2))-sI (λi=>f (2*i+1)) (L/2)=_
  have h2:=two (L/2)
  have h3:sI (λs=>(-1) ^ s*f s) L=sI (λs=>(-1) ^ s*f s) (2*(L/2))+(-1) ^ (2*(L/2))*f (2*(L/2)):=by
   conv=>lhs;rw[show L=2*(L/2)+1 by omega]
   rfl
  rw[h3,<- h2,Int.pow_mul,show((-1:Int) ^ 2)=1 by decide,NJ]
  omega
theorem cr9(f:Nat->Int)(L:Nat)(h:L<26):(gD ((aw L).map f) (some 0) none (some 2)).sum-(gD ((aw L).map f) (some 1) none (some 2)).sum=sI (λs=>(-1) ^ s*f s) L:=by
 have hl:((aw L).map f).length=L:=by simp
 have hg:∀i,i<((aw L).map f).length->((aw L).map f).getD i 0=f i:=λi hi=>by
  rw[aF,bN,gI (by omega)];rfl
 unfold gD
 rw[hl,ix0 L h,ix1 L h,Sw f _ _ (λi hi=>by rw[hl];omega) hg,Sw f _ _ (λi hi=>by rw[hl];omega) hg,xU,xU,cB4]
theorem Ar(x:Int)(i m j:Nat):sI (λs=>(-1) ^ s*(x ^ (j-s)*ch i s*ch m (j-s))) (j+1)=gg x m i j:=by
 rw[IY]
 apply eY
 intro s hs
 show _=(-1) ^ s*ch i s*(x ^ (j-s)*ch m (j-s))
 rw[uX,uX,yz (ch i s)]
theorem cm4(f:Nat->Int)(n:Nat):(tab f n).sum=sI f n:=xU f n
end L3
namespace L3
open PySem L2 Mf
section
variable{m:Bool × Nat}
theorem Jb(hm:m∈aA){T:List (List Nat)}(hT:RT (aa m) (af T) T):∃L:List (List Nat),L.Nodup/\L.length=aa m ^ (af T-(bL m T).length)/\∀v,v∈L↔Wd m T v:=by
 obtain⟨⟨H,I⟩,iR,_,sp⟩:=jj hm hT
 have fl:=I.Aj hm iR
 obtain⟨rk,rk2⟩:=Dm hm hT
 have le:(bj m T).length=(aX m T).length:=fX ..
 have ow:Own m (af T) (bj m T) (aX m T):=by
  refine⟨le.symm,λp hp=>IQ hp,λi j hi hj=>?_⟩
  rw[le]at hi hj
  have fr:=λ{k:Nat} (hk:k<(aX m T).length)=>(I.free hm iR _).mp (xS hk)
  rw[Ao hi]
  obtain⟨_,_,a,_,b⟩:=uw hm iR I (xS hi)
  by_cases c:i=j
  ·rw[if_pos c,<- c];exact a
  ·rw[if_neg c]
   refine b _ (λz=>c ?_) (fr hj).2
   rw[aF,aF,aJ hi,aJ hj]at z
   exact((Bl (Ds m T)).mp z).symm
 have c1:∀a,a<aa m->id a<aa m:=λa h=>h
 have c2:∀b,b<aa m->∃a,a<aa m/\id a=b:=λb h=>⟨b,h,rfl⟩
 refine⟨(fj (aa m) id (bj m T).length).map λl=>cU m l (bj m T) (af T),ow.nd hm c1 c2 λ_ _ _ _ h=>h,?_,λv=>(ow.mem hm c1 c2).trans ?_⟩
 ·have:∀k,(fj (aa m) id k).length=aa m ^ k:=λk=>by
   induction k with
   | zero=>rfl
   | succ k ih =>
    unfold fj
    rw[List.length_flatten,bO,nU,jV,<- ih]
    rw[show(Bq ∘ λa=>(fj (aa m) id k).map λl=>l++[id a])=λ_=>(fj (aa m) id k).length from funext λa=>aR ..]
    exact cr6 _ _
  rw[aR,this,le]
  congr 1
  unfold aX
  omega
 ·constructor
  ·rintro⟨l,h1,h2,rfl⟩
   exact⟨rD ..,Io hm _ h1,R1 hm hT h1⟩
  ·intro hv
   have lm:((aX m T).map λj=>cf v j).length=(bj m T).length:=by rw[le,aR]
   refine⟨(aX m T).map λj=>cf v j,lm,λx hx=>?_,pJ hv.ln (rD ..) λk hk=>?_⟩
   ·obtain⟨j,_,rfl⟩:=aT.mp hx
    exact cF hm hv.lt j
   ·have zr:∀i,i<T.length->dt m (af T) (cf (T.getD i [])) (cf v)=0:=λi hi=>by
     have:=hv.z _ (bT hi [])
     rw[sV m (by rw[(hT _ (bT hi [])).1,hv.ln]),(hT _ (bT hi [])).1]at this
     exact this
    rw[I.RA hm iR (cF hm hv.lt) (λi hi=>b9.dt hm zr ((sp _).mpr (b9.of (bT hi [])))) hk,sW m lm hk,le]
    refine cu λj hj=>?_
    rw[Ao hj,show cf ((aX m T).map λj=>cf v j) j=cf v ((aX m T).getD j 0) from jL (λj=>cf v j) hj 0 0]
    rfl
theorem As{α:Type}{A B:List α}(hA:A.Nodup)(hB:B.Nodup){p:α->Bool}(h:∀x,x∈B↔x∈A/\p x=true):A.countP p=B.length:=by
 rw[Ny]
 exact((Yd (hA.filter p) hB).mpr λx=>by rw[tG,h]).length_eq
def atS(S:List Nat)(v:List Nat):List Nat:=S.map (cf v)
def rH(n:Nat)(S b:List Nat):List Nat:=(aw n).map λp=>if p∈S then cf b (S.idxOf p)else 0
theorem Jc{n:Nat}{S b:List Nat}(nd:S.Nodup)(lt:∀s∈S,s<n)(hb:b.length=S.length):atS S (rH n S b)=b:=by
 refine pJ (w:=S.length) (aR ..) hb λk hk=>?_
 unfold atS rH
 rw[xQ (f:=cf ((aw n).map λp=>if p∈S then cf b (S.idxOf p)else 0)) hk,uu _ (lt _ (bT hk 0)),if_pos (bT hk 0)]
 congr 1
 rw[aF,aJ hk]
 exact nd.idxOf_getElem k hk
theorem cn1{n:Nat}{S v:List Nat}(hv:v.length=n)(hz:∀p,p<n->p ∉ S->cf v p=0):rH n S (atS S v)=v:=by
 refine pJ (w:=n) (by unfold rH;rw[aR,bC]) hv λk hk=>?_
 unfold rH atS
 rw[uu _ hk]
 by_cases c:k∈S
 ·rw[if_pos c,xQ (Ft.mpr c),aF,aJ (Ft.mpr c)]
  exact congrArg (cf v) (Yn _)
 ·rw[if_neg c,hz k hk c]
theorem Sx(hm:m∈aA){n:Nat}{S r v:List Nat}(nd:S.Nodup)(lt:∀s∈S,s<n)(hr:r.length=n)(hv:v.length=n)(hz:∀p,p<n->p ∉ S->cf v p=0):gd m r v=gd m (atS S r) (atS S v):=by
 rw[Dk m hr hv,Dk m (xs:=atS S r) (ys:=atS S v) (n:=S.length) (aR ..) (aR ..),IG (rg hm) (ps:=S) (λj=>bX hm _ _) nd lt λj hj hn=>by rw[hz j hj hn,ig _ _ (cq m hm)]]
 refine cu λk hk=>?_
 unfold atS
 rw[xQ hk,xQ hk]
def jP(S c:List Nat):Bool:=S.all λs=>cf c s==0
def fG(n:Nat)(S b:List Nat):Bool:=(aw n).all λp=>S.contains p||cf b p==0
theorem Sy{S c:List Nat}:jP S c=true↔∀s∈S,cf c s=0:=by
 unfold jP
 rw[bZ]
 exact⟨λh s hs=>beq_iff_eq.mp (h s hs),λh s hs=>beq_iff_eq.mpr (h s hs)⟩
theorem Au{n:Nat}{S b:List Nat}:fG n S b=true↔∀p,p<n->p ∉ S->cf b p=0:=by
 unfold fG
 rw[bZ]
 constructor
 ·intro h p hp hn
  have:=h p (bw.mpr hp)
  rw[Nd]at this
  exact this.elim (λz=>absurd (uU.mp z) hn) λz=>beq_iff_eq.mp z
 ·intro h p hp
  rw[Nd]
  by_cases c:p∈S
  ·exact .inl (uU.mpr c)
  ·exact .inr (beq_iff_eq.mpr (h p (bw.mp hp) c))
theorem Sz(hm:m∈aA){n:Nat}{R:List (List Nat)}{ps:List Nat}(hR:RT (aa m) n R)(R0:R≠[])(ow:Own m n R ps){S:List Nat}(nd:S.Nodup)(lt:∀s∈S,s<n)(S0:S≠[]){W W':List (List Nat)}(nW:W.Nodup)
  (hW:∀v,v∈W↔∃l,l.length=R.length/\AllLt (aa m) l/\v=cU m l R n) (DA:W'.Nodup) (uF:∀v,v∈W'↔v.length=n/\AllLt (aa m) v/\∀r∈R,gd m r v=0) :
  W.countP (jP S)*aa m ^ S.length=aa m ^ R.length*W'.countP (fG n S):=by
 have lo:=lo1 hm
 obtain⟨Y,hY⟩:∃Y,Y=R.map (atS S):=⟨_,rfl⟩
 have lY:Y.length=R.length:=by rw[hY,aR]
 have SA:RT (aa m) S.length Y:=λy hy=>by
  rw[hY]at hy
  obtain⟨r,hr,rfl⟩:=aT.mp hy
  refine⟨aR ..,λa ha=>?_⟩
  obtain⟨j,_,rfl⟩:=aT.mp ha
  exact cF hm (hR r hr).2 j
 have wY:af Y=S.length:=Al SA λz=>R0 (Fo.mp (by rw[<-lY,z];rfl))
 have rY:RT (aa m) (af Y) Y:=by rw[wY];exact SA
 have S1:0<S.length:=List.length_pos_iff.mpr S0
 obtain⟨x1,x2,x3⟩:=uv (N:=aa m) (by omega) (by omega) rY
 have xt:=b40 hm (by omega) rY
 have rX:RT (aa m) (af (cV Y)) (cV Y):=by rw[x2];exact x3
 have k1:=(jj hm rX).2.2.1
 have k2:=(jj hm rY).2.2.1
 obtain⟨Lx,nx,lx,mx⟩:=Jb hm rX
 obtain⟨Ly,ny,ly,my⟩:=Jb hm rY
 have col:∀l:List Nat,l.length=R.length->∀j,j<S.length->gd m ((cV Y).getD j []) l=cf (cU m l R n) (S.getD j 0):=λl hl j hj=>by
  have e:(cV Y).getD j []=Y.map λr=>r.getD j 0:=by
   unfold cV
   rw[jL (λj=>Y.map λr=>r.getD j 0) (by rw[bC,wY];exact hj) 0 [],aF,gI (by rw[wY];exact hj)];rfl
  rw[e,Dk m (n:=R.length) (by rw[aR,lY]) hl,sW m hl (lt _ (bT hj 0))]
  refine cu λi hi=>?_
  rw[vL,hY,jL (atS S) hi [] [],fS]
  unfold atS
  rw[xQ hj]
 have a1:W.countP (jP S)=Lx.length:=by
  rw[As nW (B:=Lx.map λl=>cU m l R n) (BH.mpr (Fq (λ{a b} ha hb ne e=>ne ?_) nx)) λv=>?_,aR]
  ·have h1:=(mx a).mp ha
   have h2:=(mx b).mp hb
   exact ow.inj hm (by rw[h1.ln,x2,lY]) h1.lt (by rw[h2.ln,x2,lY]) h2.lt e
  ·rw[aT,hW,Sy]
   constructor
   ·rintro⟨l,hl,rfl⟩
    have h1:=(mx l).mp hl
    have ll:l.length=R.length:=by rw[h1.ln,x2,lY]
    refine⟨⟨l,ll,h1.lt,rfl⟩,λs hs=>?_⟩
    obtain⟨j,hj,rfl⟩:=Yo.mp hs
    have:=col l ll j hj
    rw[h1.z _ (bT (by rw[x1,wY];exact hj) [])]at this
    rw[aF,aJ hj]at this
    exact this.symm
   ·rintro⟨⟨l,hl,al,rfl⟩,hz⟩
    refine⟨l,(mx l).mpr ⟨by rw[hl,x2,lY],al,λr hr=>?_⟩,rfl⟩
    obtain⟨j,hj,rfl⟩:=Yo.mp hr
    have SD:j<S.length:=by rw[x1,wY]at hj;exact hj
    rw[<-Am hj,col l hl j SD]
    exact hz _ (bT SD 0)
 have a2:W'.countP (fG n S)=Ly.length:=by
  have sl:∀b,(rH n S b).length=n:=λb=>by unfold rH;rw[aR,bC]
  have sz:∀b p,p<n->p ∉ S->cf (rH n S b) p=0:=λb p hp hn=>by unfold rH;rw[uu _ hp,if_neg hn]
  rw[As DA (B:=Ly.map (rH n S)) (BH.mpr (Fq (λ{a b} ha hb ne e=>ne ?_) ny)) λv=>?_,aR]
  ·rw[<-Jc nd lt (((my a).mp ha).ln.trans wY),e,Jc nd lt (((my b).mp hb).ln.trans wY)]
  ·rw[aT,uF,Au]
   constructor
   ·rintro⟨b,hb,rfl⟩
    have h1:=(my b).mp hb
    have lb:=h1.ln.trans wY
    refine⟨⟨sl b,λa ha=>?_,λr hr=>?_⟩,sz b⟩
    ·obtain⟨p,_,rfl⟩:=aT.mp ha
     show(if p∈S then cf b (S.idxOf p)else 0)<_
     split
     ·exact cF hm h1.lt _
     ·omega
    ·rw[Sx hm nd lt (hR r hr).1 (sl b) (sz b),Jc nd lt lb]
     exact h1.z _ (by rw[hY];exact aT.mpr ⟨r,hr,rfl⟩)
   ·rintro⟨⟨h1,h2,h3⟩,hz⟩
    refine⟨atS S v,(my _).mpr ⟨by rw[wY];exact aR ..,λa ha=>?_,λy hy=>?_⟩,cn1 h1 hz⟩
    ·obtain⟨j,_,rfl⟩:=aT.mp ha
     exact cF hm h2 j
    ·rw[hY]at hy
     obtain⟨r,hr,rfl⟩:=aT.mp hy
     rw[<-Sx hm nd lt (hR r hr).1 h1 hz]
     exact h3 r hr
 rw[a1,a2,lx,ly,x2,lY,wY,xt,<- yq,<- yq]
 rw[xt,x1,wY]at k1
 rw[lY]at k2
 congr 1
 omega
def iS:Nat->Nat->List (List Nat)
 | _,0=>[[]]
 | 0,_+1=>[]
 | n+1,t+1=>iS n (t+1)++(iS n t).map λS=>S++[n]
theorem Jd(n:Nat):iS n 0=[[]]:=by cases n<;>rfl
theorem DB(n t:Nat):iS (n+1) (t+1)=iS n (t+1)++(iS n t).map λS=>S++[n]:=rfl
theorem DC:∀(n t:Nat),∀S∈iS n t,S.length=t/\S.Nodup/\∀s∈S,s<n
 | n,0,S,h=>by
  rw[Jd,dh]at h
  subst h
  exact⟨rfl,List.nodup_nil,λs z=>absurd z (by simp)⟩
 | 0,t+1,S,h=>by cases h
 | n+1,t+1,S,h=>by
  rw[DB]at h
  rcases bV.mp h with z | z
  ·obtain⟨a,b,c⟩:=DC n (t+1) S z
   exact⟨a,b,λs hs=>E7 (c s hs)⟩
  ·obtain⟨S,hS,rfl⟩:=aT.mp z
   obtain⟨a,b,c⟩:=DC n t S hS
   refine⟨by rw[df,a];rfl,Na.mpr ⟨b,by simp,λx hx y hy=>?_⟩,λs hs=>?_⟩
   ·rw[dh.mp hy];have:=c x hx;omega
   ·rcases bV.mp hs with z | z
    ·have:=c s z;omega
    ·rw[dh.mp z];omega
theorem Je:∀n t:Nat,n<t->iS n t=[]
 | 0,t+1,_=>rfl
 | n+1,t+1,h=>by rw[DB,Je n (t+1) (by omega),Je n t (by omega)];rfl
def qJ(c:List Nat)(n:Nat):Nat:=(aw n).countP λp=>cf c p==0
theorem Jf(c:List Nat)(n:Nat):qJ c (n+1)=qJ c n+if cf c n=0 then 1 else 0:=by
 unfold qJ
 rw[pS,Fs]
 congr 1
 by_cases z:cf c n=0
 ·rw[if_pos z,Yj (by rw[z];rfl)];rfl
 ·rw[if_neg z,Yk (by rw[beq_false_of_ne z];decide)];rfl
theorem cE4(c:List Nat)(n:Nat):qJ c n<=n:=by have:=List.countP_le_length (p:=λp=>cf c p==0) (l:=aw n);rw[bC]at this;exact this
theorem SE(S c:List Nat)(n:Nat):jP (S++[n]) c=(jP S c&&cf c n==0):=by unfold jP;rw[List.all_append];simp
theorem Jg(c:List Nat):∀n t:Nat,(((iS n t).countP λS=>jP S c:Nat):Int)=ch (qJ c n) t
 | n,0=>by rw[Jd,kU];rfl
 | 0,t+1=>by rw[show qJ c 0=0 from rfl];rfl
 | n+1,t+1=>by
  rw[DB,Fs,NC,uT,Jg c n (t+1),Jf]
  by_cases z:cf c n=0
  ·rw[if_pos z,uE,<- Jg c n t,Int.add_comm]
   congr 2
   exact NK λS _=>by
    show jP (S++[n]) c=true↔jP S c=true
    rw[SE,z];simp
  ·rw[if_neg z,EU,show((iS n t).countP ((λS=>jP S c) ∘ λS=>S++[n]))=0 from Yp.mpr λS _ h=>by
    have h:jP (S++[n]) c=true:=h
    rw[SE,beq_false_of_ne z,EN]at h;cases h]
   exact NL _
theorem DD(n:Nat)(S b:List Nat):fG (n+1) S b=(fG n S b&&(S.contains n||cf b n==0)):=by unfold fG;rw[pS,List.all_append];simp
theorem ce2{n:Nat}(S b:List Nat):fG n (S++[n]) b=fG n S b:=by
 rw[tL,Au,Au]
 exact⟨λh p hp hn=>h p hp λz=>(bV.mp z).elim hn λz=>by have:=dh.mp z;omega,λh p hp hn=>h p hp λz=>hn (fI _ z)⟩
theorem DE(b:List Nat):∀n t:Nat,t<=n->(((iS n t).countP λS=>fG n S b:Nat):Int)=ch (qJ b n) (n-t)
 | 0,0,_=>rfl
 | n+1,0,_=>by
  have ih:=DE b n 0 (jl _)
  rw[Jd,Nat.sub_zero]at ih ⊢
  have e:∀k,(([[]]:List (List Nat)).countP λS=>fG k S b)=if fG k [] b=true then 1 else 0:=λk=>by
   simp only[BI,NG,Ff]
  rw[e]at ih ⊢
  rw[DD,Jf]
  have le:=cE4 b n
  by_cases z:cf b n=0
  ·rw[if_pos z,z,uE,<- ih,Dw (qJ b n) (n+1) (by omega)]
   cases fG n [] b<;>rfl
  ·rw[if_neg z,beq_false_of_ne z,EU,Dw (qJ b n) (n+1) (by omega)]
   cases fG n [] b<;>rfl
 | n+1,t+1,h=>by
  rw[DB,Fs,NC,uT,Jf,Nat.succ_sub_succ]
  have e2:((iS n t).countP ((λS=>fG (n+1) S b) ∘ λS=>S++[n]))=(iS n t).countP λS=>fG n S b:=NK λS _=>by
   show fG (n+1) (S++[n]) b=true↔_
   rw[DD,ce2,show(S++[n]).contains n=true from uU.mpr (dv _ (dh.mpr rfl)),nX,iA]
  rw[e2,DE b n t (by omega)]
  have e1:((iS n (t+1)).countP λS=>fG (n+1) S b)=if cf b n=0 then(iS n (t+1)).countP λS=>fG n S b else 0:=by
   by_cases z:cf b n=0
   ·rw[if_pos z]
    exact NK λS _=>by rw[DD,z];simp
   ·rw[if_neg z]
    refine Yp.mpr λS hS h=>?_
    rw[DD,beq_false_of_ne z,k7,eZ]at h
    have:=(DC n (t+1) S hS).2.2 n (uU.mp h.2)
    omega
  rw[e1]
  by_cases z:cf b n=0
  ·rw[if_pos z,if_pos z]
   by_cases q:t+1<=n
   ·rw[DE b n (t+1) q,show n-t=(n-(t+1))+1 by omega,uE]
   ·obtain rfl:t=n:=by omega
    rw[uV,kU,kU]
    have:=Je t (t+1) (by omega)
    rw[this];rfl
  ·rw[if_neg z,if_neg z,EU]
   exact tO _
theorem DF{α β:Type}(p:α->β->Bool)(K:List β):∀L:List α,(L.map λa=>((K.countP λb=>p a b:Nat):Int)).sum=(K.map λb=>((L.countP λa=>p a b:Nat):Int)).sum
 | []=>by
  rw[gv,List.sum_nil]
  induction K with
  | nil=>rfl
  | cons b K ih=>rw[bR,tQ,<- ih];rfl
 | a::L=>by
  rw[bR,tQ,DF p K L]
  clear DF
  induction K with
  | nil=>rfl
  | cons b K ih =>
   rw[bR,tQ,bR,tQ,<- ih,BI,BI,uT,uT]
   omega
theorem Jh(c:Int){α:Type}(f:α->Int):∀L:List α,(L.map λa=>c*f a).sum=c*(L.map f).sum
 | []=>(wH c).symm
 | a::L=>by rw[bR,tQ,bR,tQ,Jh c f L,wF]
theorem DG{n:Nat}(f:Nat->Int):∀W:List (List Nat),(∀w∈W,cM w<=n)->(W.map λw=>f (cM w)).sum=sI (λi=>((W.countP λw=>cM w==i:Nat):Int)*f i) (n+1)
 | [],_=>by
  rw[gv,List.sum_nil,eY (f:=λi=>((([]:List (List Nat)).countP λw=>cM w==i:Nat):Int)*f i) (g:=λ_=>0) _ λi _=>Int.zero_mul _,Ap]
 | w::W,h=>by
  rw[bR,tQ,DG f W λv hv=>h v (fH _ hv)]
  have hw:=h w (ir ..)
  rw[eY (f:=λi=>(((w::W).countP λw=>cM w==i:Nat):Int)*f i) (g:=λi=>(if cM w=i then f i else 0)+((W.countP λw=>cM w==i:Nat):Int)*f i) _ λi _=>?_,Dy]
  ·congr 1
   have:∀k,sI (λi=>if cM w=i then f i else 0) k=if cM w<k then f (cM w)else 0:=λk=>by
    induction k with
    | zero=>rfl
    | succ k ih =>
     show sI _ k+(if cM w=k then f k else 0)=_
     rw[ih]
     by_cases c:cM w=k
     ·rw[if_neg (by omega),if_pos c,if_pos (by omega),c,tO]
     ·rw[if_neg c,NL]
      by_cases c2:cM w<k
      ·rw[if_pos c2,if_pos (by omega)]
      ·rw[if_neg c2,if_neg (by omega)]
   rw[this,if_pos (by omega)]
  ·show(((w::W).countP λw=>cM w==i:Nat):Int)*f i=_
   rw[BI,uT,Fp,Int.add_comm]
   congr 1
   by_cases c:cM w=i
   ·rw[if_pos c,if_pos (by rw[c];exact beq_self_eq_true i)]
    exact Int.one_mul _
   ·rw[if_neg c,if_neg (by rw[beq_false_of_ne c];decide)]
    exact Int.zero_mul _
theorem SF{c:List Nat}{n:Nat}(h:c.length=n):qJ c n=n-cM c:=by
 unfold qJ cM
 have:=Sg c
 rw[h]at this
 rw[<-this]
 have:c.count 0<=c.length:=NM
 omega
theorem cn5(hm:m∈aA){n:Nat}{R:List (List Nat)}{ps:List Nat}(hR:RT (aa m) n R)(R0:R≠[])(ow:Own m n R ps){W W':List (List Nat)}(nW:W.Nodup)
  (hW:∀v,v∈W↔∃l,l.length=R.length/\AllLt (aa m) l/\v=cU m l R n) (lW:W.length=aa m ^ R.length) (DA:W'.Nodup) (uF:∀v,v∈W'↔v.length=n/\AllLt (aa m) v/\∀r∈R,gd m r v=0) {t:Nat} (ht:t<=n) :
  ((aa m ^ t:Nat):Int)*sI (λi=>((W.countP λw=>cM w==i:Nat):Int)*ch (n-i) t) (n+1)=((aa m ^ R.length:Nat):Int)*sI (λi=>((W'.countP λw=>cM w==i:Nat):Int)*ch (n-i) (n-t)) (n+1):=by
 have lo:=lo1 hm
 have wn:∀w∈W,w.length=n:=λw hw=>by obtain⟨l,_,_,rfl⟩:=(hW w).mp hw;exact rD ..
 have SG:∀w∈W',w.length=n:=λw hw=>((uF w).mp hw).1
 have wl:∀w:List Nat,cM w<=w.length:=λw=>Nat.sub_le ..
 rw[<-DG (λi=>ch (n-i) t) W λw hw=>by have:=wl w;rw[wn w hw]at this;exact this,<- DG (λi=>ch (n-i) (n-t)) W' λw hw=>by have:=wl w;rw[SG w hw]at this;exact this]
 rw[jq (g:=λc=>(((iS n t).countP λS=>jP S c:Nat):Int)) λc hc=>by rw[Jg,SF (wn c hc)],jq (l:=W') (g:=λc=>(((iS n t).countP λS=>fG n S c:Nat):Int)) λc hc=>by rw[DE _ _ _ ht,SF (SG c hc)]]
 rw[DF (λc S=>jP S c),DF (λc S=>fG n S c),<- Jh,<- Jh]
 refine congrArg List.sum (jq λS hS=>?_)
 obtain⟨s1,s2,s3⟩:=DC n t S hS
 rw[<-rT,<- rT]
 congr 1
 by_cases S0:S=[]
 ·subst S0
  cases s1
  rw[show([]:List Nat).length=0 from rfl,Bv,qM,show(W.countP λa=>jP [] a)=W.length from Yq.mpr λ_ _=>rfl,lW]
  have:W'.countP (λa=>fG n [] a)=1:=by
   rw[As DA (B:=[aW n 0]) (by simp) λv=>?_]
   ·rfl
   ·rw[dh,Au,uF]
    constructor
    ·rintro rfl
     refine⟨⟨gH,λa ha=>by rw[(wu.mp ha).2];omega,λr hr=>?_⟩,λp _ _=>qG n p⟩
     rw[Dk m (hR r hr).1 gH]
     exact fE (rg hm) λj _=>by rw[qG,ig _ _ (cq m hm)]
    ·rintro⟨⟨h1,_⟩,hz⟩
     exact pJ h1 gH λk hk=>by rw[hz k hk (by simp),qG]
  rw[this,NF]
 ·have:=Sz hm hR R0 ow s2 s3 S0 nW hW DA uF
  rw[s1,jV]at this
  exact this
def eT(n j t:Nat):Int:=(-1) ^ (j+t)*ch (n-t) (n-j)
def rJ(M n:Nat):Bool:=decide (n<=2\/M<=8/\n<=4\/M<=4/\n<=6\/M<=2/\n<=8)
theorem bR4:((aw 65).all λM=>(aw 9).all λn=>!rJ M n||(aw (n+1)).all λi=>(aw (n+1)).all λj=>decide (sI (λt=>eT n j t*((M:Int) ^ t*ch (n-i) t)) (n+1)=sI (λs=>(-1) ^ s*(((M:Int)-1) ^ (j-s)*ch i s*ch (n-i) (j-s))) (j+1)))=true:=by decide +kernel
theorem bS2:((aw 9).all λn=>(aw (n+1)).all λi=>(aw (n+1)).all λj=>decide (sI (λt=>eT n j t*ch (n-i) (n-t)) (n+1)=if i=j then 1 else 0))=true:=by decide +kernel
theorem cB9{M n i j:Nat}(hM:M<=64)(h:rJ M n=true)(hi:i<=n)(hj:j<=n):sI (λt=>eT n j t*((M:Int) ^ t*ch (n-i) t)) (n+1)=gg ((M:Int)-1) (n-i) i j:=by
 have h8:n<=8:=by have:=of_decide_eq_true h;omega
 have a:=bZ.mp (bZ.mp bR4 M (bw.mpr (by omega))) n (bw.mpr (by omega))
 rw[h,lC,lD]at a
 have:=of_decide_eq_true (bZ.mp (bZ.mp a i (bw.mpr (by omega))) j (bw.mpr (by omega)))
 rw[this]
 exact Ar _ _ _ _
theorem cz6{n i j:Nat}(h8:n<=8)(hi:i<=n)(hj:j<=n):sI (λt=>eT n j t*ch (n-i) (n-t)) (n+1)=if i=j then 1 else 0 :=
 of_decide_eq_true (bZ.mp (bZ.mp (bZ.mp bS2 n (bw.mpr (by omega))) i (bw.mpr (by omega))) j (bw.mpr (by omega)))
theorem DH(F:Nat->Nat->Int)(k:Nat):∀n,sI (λi=>sI (λj=>F i j) k) n=sI (λj=>sI (λi=>F i j) n) k
 | 0=>(Ap k).symm
 | n+1=>by
  show sI _ n+sI _ k=_
  rw[DH F k n,<- Dy]
  rfl
theorem SH{f:Nat->Int}{j:Nat}(n:Nat)(hj:j<n)(h:∀i,i<n->i≠j->f i=0):sI f n=f j:=by
 induction n with
 | zero=>omega
 | succ n ih =>
  show sI f n+f n=_
  by_cases c:j=n
  ·subst c
   rw[eY (g:=λ_=>0) _ λi hi=>h i (by omega) (by omega),Ap,tO]
  ·rw[ih (by omega) λi hi ne=>h i (by omega) ne,h n (by omega) λz=>c z.symm,NL]
theorem cu5{M n:Nat}{A B:Nat->Int}{Mk:Int}(hM:M<=64)(h:rJ M n=true)(hmo:∀t,t<=n->((M ^ t:Nat):Int)*sI (λi=>A i*ch (n-i) t) (n+1)=Mk*sI (λi=>B i*ch (n-i) (n-t)) (n+1)){j:Nat}(hj:j<=n) :
  sI (λi=>A i*gg ((M:Int)-1) (n-i) i j) (n+1)=Mk*B j:=by
 have h8:n<=8:=by have:=of_decide_eq_true h;omega
 have e1:sI (λi=>A i*gg ((M:Int)-1) (n-i) i j) (n+1)=sI (λt=>eT n j t*(((M ^ t:Nat):Int)*sI (λi=>A i*ch (n-i) t) (n+1))) (n+1):=by
  rw[eY (f:=λi=>A i*gg ((M:Int)-1) (n-i) i j) (g:=λi=>sI (λt=>A i*(eT n j t*((M:Int) ^ t*ch (n-i) t))) (n+1)) _ λi hi=>by rw[qI,cB9 hM h (by omega) hj],DH]
  refine eY _ λt _=>?_
  rw[<-qI,<- qI]
  refine eY _ λi _=>?_
  rw[wI,yz,yz (A i)]
 have e2:sI (λt=>eT n j t*(Mk*sI (λi=>B i*ch (n-i) (n-t)) (n+1))) (n+1)=Mk*B j:=by
  rw[eY (g:=λt=>Mk*sI (λi=>B i*(eT n j t*ch (n-i) (n-t))) (n+1)) _ λt _=>?_,qI]
  ·congr 1
   rw[DH,eY (g:=λi=>B i*if i=j then 1 else 0) _ λi hi=>by rw[qI,cz6 h8 (by omega) hj],SH (j:=j) _ (by omega) λi _ ne=>by rw[if_neg ne,wH],if_pos rfl,uK]
  ·rw[yz,<- qI]
   congr 1
   exact eY _ λi _=>yz ..
 rw[e1,eY (g:=λt=>eT n j t*(Mk*sI (λi=>B i*ch (n-i) (n-t)) (n+1))) _ λt ht=>by rw[hmo t (by omega)],e2]
theorem ce6(hm:m∈aA){n:Nat}{G:List (List Nat)}{ps:List Nat}(hG:RT (aa m) n G)(G0:G≠[])(hw:af G=n)(h0:0<n)(ow:Own m n G ps):(aX m G).length+G.length=n:=by
 have lo:=lo1 hm
 have c1:∀a,a<aa m->id a<aa m:=λa h=>h
 have c2:∀b,b<aa m->∃a,a<aa m/\id a=b:=λb h=>⟨b,h,rfl⟩
 have SI:RT (aa m) (af G) G:=by rw[hw];exact hG
 obtain⟨L,nL,lL,mL⟩:=Jb hm SI
 have W0:=ow.nd hm c1 c2 λ_ _ _ _ h=>h
 have Wm:=λv=>ow.mem hm c1 c2 (v:=v)
 have:=Sz hm hG G0 ow (S:=aw n) yx (λs hs=>bw.mp hs) (λz=>by rw[List.range_eq_nil]at z;omega) W0 Wm nL (λv=>(mL v).trans ⟨λh=>⟨by rw[h.ln,hw],h.lt,h.z⟩,λ⟨a,b,c⟩=>⟨by rw[a,hw],b,c⟩⟩)
 rw[bC,show L.countP (fG n (aw n))=L.length from Yq.mpr λb _=>Au.mpr λp hp hn=>absurd (bw.mpr hp) hn,lL,hw]at this
 rw[As W0 (B:=[aW n 0]) (by simp) λv=>?_]at this
 ·rw[EM,qM,<- yq]at this
  have e:=(Nat.pow_right_inj lo).mp this
  obtain⟨⟨H,I⟩,iR,k2,_⟩:=jj hm SI
  have f:=I.Aj hm iR
  rw[hw]at f
  unfold aX
  rw[hw]
  omega
 ·rw[dh,Sy,Wm]
  constructor
  ·rintro rfl
   refine⟨⟨aW G.length 0,gH,λa ha=>by rw[(wu.mp ha).2];omega,pJ gH (rD ..) λk hk=>?_⟩,λp _=>qG n p⟩
   rw[sW m gH hk,qG]
   exact(fE (rg hm) λj _=>by rw[qG,fC _ _ (cq m hm)]).symm
  ·rintro⟨⟨l,_,_,rfl⟩,hz⟩
   exact pJ (rD ..) gH λk hk=>by rw[hz k (bw.mpr hk),qG]
def kf(x:Int)(n i j:Nat):Int:=sI (λs=>(-1) ^ s*(x ^ (j-s)*ch i s*ch (n-i) (j-s))) (j+1)
theorem bD5:((aw 65).all λM=>(aw 9).all λn=>!rJ M n||(aw (n+1)).all λi=>(aw (n+1)).all λl=>decide (sI (λj=>kf ((M:Int)-1) n i j*kf ((M:Int)-1) n j l) (n+1)=if i=l then(M:Int) ^ n else 0))=true:=by decide +kernel
theorem b99{M n i l:Nat}(hM:M<=64)(h:rJ M n=true)(hi:i<=n)(hl:l<=n):sI (λj=>gg ((M:Int)-1) (n-i) i j*gg ((M:Int)-1) (n-j) j l) (n+1)=if i=l then(M:Int) ^ n else 0:=by
 have h8:n<=8:=by have:=of_decide_eq_true h;omega
 have a:=bZ.mp (bZ.mp bD5 M (bw.mpr (by omega))) n (bw.mpr (by omega))
 rw[h,lC,lD]at a
 have:=of_decide_eq_true (bZ.mp (bZ.mp a i (bw.mpr (by omega))) l (bw.mpr (by omega)))
 rw[<-this]
 exact eY _ λj _=>by unfold kf;rw[Ar,Ar]
theorem bE8{M n:Nat}{A B:Nat->Int}{Mk Mr:Int}(hM:M<=64)(h:rJ M n=true)(h0:Mk≠0)(hk:Mk*Mr=(M:Int) ^ n)(hf:∀j,j<=n->sI (λi=>A i*gg ((M:Int)-1) (n-i) i j) (n+1)=Mk*B j){l:Nat}(hl:l<=n) :
  sI (λi=>B i*gg ((M:Int)-1) (n-i) i l) (n+1)=Mr*A l:=by
 refine Yr h0 ?_
 rw[<-qI,eY (g:=λj=>sI (λi=>A i*(gg ((M:Int)-1) (n-i) i j*gg ((M:Int)-1) (n-j) j l)) (n+1)) _ λj hj=>?_,DH,eY (g:=λi=>A i*if i=l then(M:Int) ^ n else 0) _ λi hi=>by rw[qI,b99 hM h (by omega) hl],SH (j:=l) _ (by omega) λi _ ne=>by rw[if_neg ne,wH],if_pos rfl,<- hk,uW,uX]
 rw[<-uX,<- hf j (by omega),uW,<- qI]
 refine eY _ λi _=>?_
 rw[uW,uX]
theorem Ji{n i:Nat}(W:List (List Nat))(h:i<=n):cf (ip n W) i=W.countP λw=>cM w==i:=Dv W h
theorem SJ{n:Nat}(W:List (List Nat))(h:∀w∈W,w.length=n):((ip n W).map λ(a:Nat)=>(a:Int)).sum=W.length:=by
 have e:=DG (n:=n) (λ_=>1) W λw hw=>by have:=Nat.sub_le w.length (w.count 0);rw[h w hw]at this;unfold cM;rw[h w hw];exact this
 have e2:(W.map λ_=>(1:Int)).sum=W.length:=by
  clear e h
  induction W with
  | nil=>rfl
  | cons w W ih=>rw[bR,tQ,ih,eK];omega
 rw[<-e2,e]
 unfold ip
 rw[bO,xU]
 exact eY _ λi _=>(uK _).symm
theorem cW.meet{G:List (List Nat)}(h:cW m G)(h':cW m (bj m G))(aK:rJ (aa m) (af G)=true)(hs:(aX m G).length<=af G){A B:List Nat}(hA:A=ip (af G) (dU m (af G) (bj m G)))(hB:B=ip (af G) (dU m (af G) (bj m (bj m G)))) :
  (∀j,j<=af G->sI (λi=>((cf A i:Nat):Int)*gg ((aa m:Int)-1) (af G-i) i j) (af G+1)=(aa m:Int) ^ (aX m G).length*((cf B j:Nat):Int))/\(∀j,j<=af G->sI (λi=>((cf B i:Nat):Int)*gg ((aa m:Int)-1) (af G-i) i j) (af G+1)=(aa m:Int) ^ (af G-(aX m G).length)*((cf A j:Nat):Int))/\cf A 0=1/\cf B 0=1/\((A.map λ(a:Nat)=>(a:Int)).sum=(aa m:Int) ^ (aX m G).length)/\((B.map λ(a:Nat)=>(a:Int)).sum=(aa m:Int) ^ (af G-(aX m G).length)):=by
 have hm:=h.hm
 have lo:=lo1 hm
 have nO:=(cT hm).hi
 obtain⟨c1,c2,c3⟩:=IU hm
 obtain⟨n1,SK⟩:=h.Sk
 obtain⟨n2,m2⟩:=h'.Sk
 rw[h.wide]at n2 m2
 have sz:=h.sz
 have R0:bj m G≠[]:=λz=>by have:=fX m G;rw[z]at this;exact absurd this.symm (by show ¬ _=0;omega)
 have lw:(dU m (af G) (bj m G)).length=aa m ^ (bj m G).length:=by4 ..
 have hW:∀v,v∈dU m (af G) (bj m G)↔∃l,l.length=(bj m G).length/\AllLt (aa m) l/\v=cU m l (bj m G) (af G):=λv=>by rw[Sj hm h.rows];exact h.own.mem hm c1 c2
 have uF:∀v,v∈dU m (af G) (bj m (bj m G))↔v.length=af G/\AllLt (aa m) v/\∀r∈bj m G,gd m r v=0:=λv=>(m2 v).trans ⟨λz=>⟨by rw[z.ln,h.wide],z.lt,z.z⟩,λ⟨a,b,c⟩=>⟨by rw[a,h.wide],b,c⟩⟩
 have eA:∀i,i<af G+1->((cf A i:Nat):Int)=(((dU m (af G) (bj m G)).countP λw=>cM w==i:Nat):Int):=λi hi=>by rw[hA,Ji _ (by omega)]
 have eB:∀i,i<af G+1->((cf B i:Nat):Int)=(((dU m (af G) (bj m (bj m G))).countP λw=>cM w==i:Nat):Int):=λi hi=>by rw[hB,Ji _ (by omega)]
 have f1:∀j,j<=af G->sI (λi=>((cf A i:Nat):Int)*gg ((aa m:Int)-1) (af G-i) i j) (af G+1)=(aa m:Int) ^ (aX m G).length*((cf B j:Nat):Int):=λj hj=>by
  refine cu5 (A:=λi=>((cf A i:Nat):Int)) (B:=λi=>((cf B i:Nat):Int)) nO aK (λt ht=>?_) hj
  have:=cn5 hm h.rows R0 h.own n1 hW lw n2 uF ht
  rw[fX,wI (aa m) (aX m G).length]at this
  rw[eY (f:=λi=>((cf A i:Nat):Int)*ch (af G-i) t) _ λi hi=>by rw[eA i hi],eY (f:=λi=>((cf B i:Nat):Int)*ch (af G-i) (af G-t)) _ λi hi=>by rw[eB i hi]]
  exact this
 have SM:(aa m:Int) ^ (aX m G).length≠0:=by rw[<-wI];have:=Nat.pow_pos (n:=(aX m G).length) (show 0<aa m by omega);omega
 have f2:∀j,j<=af G->sI (λi=>((cf B i:Nat):Int)*gg ((aa m:Int)-1) (af G-i) i j) (af G+1)=(aa m:Int) ^ (af G-(aX m G).length)*((cf A j:Nat):Int):=λj hj =>
  bE8 (A:=λi=>((cf A i:Nat):Int)) (B:=λi=>((cf B i:Nat):Int)) nO aK SM (by rw[<-Int.pow_add];congr 1;omega) f1 hj
 have lW:∀w∈dU m (af G) (bj m G),w.length=af G:=λw hw=>((SK w).mp hw).ln
 have lW':∀w∈dU m (af G) (bj m (bj m G)),w.length=af G:=λw hw=>((uF w).mp hw).1
 have sA:((A.map λ(a:Nat)=>(a:Int)).sum=(aa m:Int) ^ (aX m G).length):=by rw[hA,SJ _ lW,lw,fX,wI]
 have lA:A.length=af G+1:=by rw[hA,s8]
 have lB:B.length=af G+1:=by rw[hB,s8]
 have SN:∀{L:List Nat},L.length=af G+1->sI (λi=>((cf L i:Nat):Int)*gg ((aa m:Int)-1) (af G-i) i 0) (af G+1)=(L.map λ(a:Nat)=>(a:Int)).sum:=λ{L} hL=>by
  rw[eY (g:=λi=>((cf L i:Nat):Int)) _ λi _=>by rw[IZ,uK],<- xU]
  congr 1
  refine yw (by rw[aR,aR,bC,hL]) λk h1 h2=>?_
  rw[tP,tP,BE]
  unfold cf
  rw[aF,aJ (by rw[aR]at h2;exact h2)];rfl
 have b0:cf B 0=1:=by
  have:=f1 0 (jl _)
  rw[SN lA,sA]at this
  have:=Yr SM ((uK _).trans this)
  omega
 have a0:cf A 0=1:=by
  rw[hA,Ji _ (jl _),As n1 (B:=[aW (af G) 0]) (by simp) λv=>?_]
  ·rfl
  ·rw[dh]
   constructor
   ·rintro rfl
    refine⟨(SK _).mpr (Sb hm h.rt),?_⟩
    unfold cM
    rw[gH,Yi,uV];rfl
   ·rintro⟨hv,hz⟩
    have lv:=lW v hv
    have hz:=beq_iff_eq.mp hz
    unfold cM at hz
    have:v.count 0<=v.length:=NM
    exact(cb3 lv).mp (by omega)
 refine⟨f1,f2,a0,b0,sA,?_⟩
 have:=f2 0 (jl _)
 rw[SN lB,a0]at this
 rw[this]
 exact uK _
end
end L3
namespace HK48
open PySem.W (Frag codeHdIn nsIn findIn isFn plainGet hasDictIn plainOver makesIn keepIn fnOf codeIn mg_of mg_none_of CodeHd)
open PySem L2 L3 Mf
seal L2.PSs L2.PS L2.PE L2.PT L2.PA L2.PI L2.PG L2.PO L2.PW
local macro_rules | `(tactic| nofun) => do
  let l ← (("mh kn mi mj mm dT i6 jB jC dC kg jD kj ki l9 mf jI mW kF mX mY lV lX lZ l6 l7 l8 kh mT kB kC ii kx mF ky mG mH mI mJ mK mM iI fA mN mO mP mQ kz jG mR mS gN mZ mV mn mr mw mB mC mD m3 m4 jE gB dP gA gq iz k9 pT pU km i7 gO kD kE jc m9 nh ib nk kK ni fO ie pz pB bR gv lj jU eK nV aW jX jY dY dZ nY exists_eq_left' exists_eq_left D.bl.injEq D.int.injEq D.lst.injEq D.fz.injEq D.str.injEq D.tup.injEq pV and_true true_and cH lh iA iy ou oy oA oB oE oF eR hJ h7 oK oM oN oO oQ cE iF oG oH oI oJ eE kb pW lC kZ iW nX lD k7 oV oW oX oY oZ pf ph h9 jJ kG fB iK oR m8 m5 kH oS ia m6 if_true nZ if_false reduceIte pj decide_eq_true_eq pq fQ je kL pG nq pE mq nu nj kN kO kP nz pH kR nB nE cY jh gu pI kT nH nI nJ nK nM nN sL QV HN cv2 cq6 Ab xK".splitOn " ").toArray.map fun (s : String) => Lean.mkIdent s.toName).mapM fun i => `(Lean.Parser.Tactic.simpLemma| $i:term)
  `(tactic| (try dsimp only [$l,*]) <;> (try simp only [$l,*]))
def top (i:Nat):Stmt:=PySem.Challenge.pw_mendfield_k48_whole_counts_meet.main.body.getD i (.Pass ⟨0,0,0,0⟩)
abbrev Jj:Stmt:=top 98
theorem Jk:bf ["_law_cell_here","_law_some","_law_primes"] ["_law_cell_here"] (aM Jj):=br
abbrev Jl:Stmt:=top 99
theorem aI4:bf ["_law_told_here"] ["_law_told_here"] (aM Jl):=br
abbrev Jm:Stmt:=top 96
theorem aI5:bf ["_law_script","_law_k"] ["_law_script","_law_k"] (aM Jm):=br
abbrev Jn:Stmt:=top 106
theorem xV:bf ["_law_script","_law_told_here","_law_many_here","_law_length"] ["_law_script","_law_told_here"] (aM Jn):=br
abbrev Jo:Stmt:=top 65
theorem DI:bf ["a","product","found","power"] ["a","product"] (aM Jo):=br
abbrev Jp:Stmt:=top 66
theorem Av:bf ["many","product","step","found"] ["many","product"] (aM Jp):=br
abbrev Jq:Stmt:=top 67
theorem Jr:bf ["powers","logs","n","a"] ["powers"] (aM Jq):=br
abbrev Js:Stmt:=g7 (top 71) 8
theorem au5:bf ["self","n"] ["self","n"] (aM Js):=br
abbrev Jt:Stmt:=g7 (top 71) 0
theorem aF6:bf ["self","many","product"] ["self","many","product"] (aM Jt):=br
abbrev Ju:Stmt:=top 70
theorem ar6:bf ["prime"] ["prime"] (aM Ju):=br
abbrev s9:Stmt:=g7 (top 73) 0
theorem av2:bf ["self","prime"] ["self","prime"] (aM s9):=br
abbrev Jv:Stmt:=top 68
theorem DJ:bf ["powers","logs","many","rows","a"] ["powers","logs"] (aM Jv):=br
abbrev Jw:Stmt:=top 62
theorem xW:bf ["a","b","quotient","rest","shift"] ["a","b"] (aM Jw):=br
abbrev Jx:Stmt:=top 63
theorem Jy:bf ["a","half","b"] ["a"] (aM Jx):=br
abbrev Jz:Stmt:=top 69
theorem av3:bf ["bits"] ["bits"] (aM Jz):=br
abbrev JA:Stmt:=top 61
theorem DK:bf ["a","b","product","k"] ["a","b"] (aM JA):=br
abbrev tf:Stmt:=g7 (top 72) 0
theorem SO:bf ["self","bits","many"] ["self","bits"] (aM tf):=br
abbrev JB:Stmt:=top 102
theorem aF7:bf ["_law_told_here"] ["_law_told_here"] (aM JB):=br
abbrev JC:Stmt:=top 108
theorem Aw:bf ["_law_cell_here","_law_count","_law_left","_law_order_here","_law_k"] ["_law_cell_here","_law_count"] (aM JC):=br
abbrev JE:Stmt:=top 107
theorem DL:bf ["_law_cell_here","_law_base","_law_count","_law_row","_law_k"] ["_law_cell_here","_law_base","_law_count"] (aM JE):=br
abbrev JF:Stmt:=top 103
theorem aF8:bf ["_law_cell_here","_law_k"] ["_law_cell_here","_law_k"] (aM JF):=br
abbrev JG:Stmt:=top 109
theorem DM:bf ["_law_script","_law_many_here","_law_rows","_law_wide","_law_digits_here","_law_free_here","_law_i"] ["_law_script","_law_many_here","_law_rows","_law_wide"] (aM JG):=br
abbrev JH:Stmt:=top 16
theorem aK5:bf ["table"] ["table"] (aM JH):=br
abbrev JI:Stmt:=top 20
theorem SQ:bf ["rows","place","number","row"] ["rows","place"] (aM JI):=br
abbrev JJ:Stmt:=g7 (top 72) 6
theorem SR:bf ["self","a","row","by_a"] ["self","a","row"] (aM JJ):=br
abbrev JK:Stmt:=g7 (top 73) 6
theorem SS:bf ["self","a","row","prime"] ["self","a","row"] (aM JK):=br
abbrev JL:Stmt:=g7 (top 72) 7
theorem SU:bf ["self","row","a","other","by_a"] ["self","row","a","other"] (aM JL):=br
abbrev JM:Stmt:=g7 (top 73) 7
theorem SV:bf ["self","row","a","other","prime"] ["self","row","a","other"] (aM JM):=br
abbrev JN:Stmt:=top 21
theorem aL2:bf ["field","rows","lead_row","place"] ["field","rows","lead_row","place"] (aM JN):=br
abbrev JO:Stmt:=g7 (top 71) 5
theorem aF9:bf ["self","a","b"] ["self","a","b"] (aM JO):=br
abbrev JP:Stmt:=top 22
theorem uG:bf ["field","table","done","left","place","number","lead_row"] ["field","table"] (aM JP):=br
abbrev JQ:Stmt:=top 28
theorem aL7:bf ["table"] ["table"] (aM JQ):=br
abbrev JR:Stmt:=top 23
theorem cf1:bf ["rows"] ["rows"] (aM JR):=br
abbrev JS:Stmt:=top 25
theorem SW:bf ["rows","width","taken"] ["rows","width"] (aM JS):=br
abbrev JT:Stmt:=g7 (top 72) 2
theorem az3:bf ["self","a","b"] ["self","a","b"] (aM JT):=br
abbrev JU:Stmt:=g7 (top 73) 2
theorem au6:bf ["self","a","b"] ["self","a","b"] (aM JU):=br
abbrev JV:Stmt:=top 26
theorem xX:bf ["field","rows","width","taken","found","free","x","lead","row"] ["field","rows","width"] (aM JV):=br
abbrev JW:Stmt:=g7 (top 31) 0
theorem SX:bf ["self","field","checks","rows"] ["self","field","checks"] (aM JW):=br
abbrev JX:Stmt:=g7 (top 71) 1
theorem aD9:bf ["self","x"] ["self","x"] (aM JX):=br
abbrev JY:Stmt:=top 46
theorem SY:bf ["field","table","width"] ["field","table"] (aM JY):=br
abbrev JZ:Stmt:=top 24
theorem cp6:bf ["field","table"] ["field","table"] (aM JZ):=br
abbrev J0:Stmt:=top 17
theorem aL8:bf ["table"] ["table"] (aM J0):=br
abbrev J1:Stmt:=top 33
theorem aI6:bf ["column"] ["column"] (aM J1):=br
abbrev J2:Stmt:=g7 (top 72) 3
theorem az4:bf ["self","a","b"] ["self","a","b"] (aM J2):=br
abbrev J3:Stmt:=g7 (top 73) 3
theorem au7:bf ["self","a","b"] ["self","a","b"] (aM J3):=br
abbrev J4:Stmt:=top 34
theorem xY:bf ["field","column","others","place","inverse","found","other","left"] ["field","column","others"] (aM J4):=br
abbrev J5:Stmt:=top 35
theorem uH:bf ["field","table","width","sets","larger","places","behind","number","column","bigger"] ["field","table"] (aM J5):=br
abbrev J6:Stmt:=g7 (top 47) 0
theorem az5:bf ["self","field","table"] ["self","field","table"] (aM J6):=br
abbrev J7:Stmt:=top 93
theorem av5:bf ["many","length","extra","first"] ["many","length","extra","first"] (aM J7):=br
abbrev tu:Stmt:=g7 (top 94) 0
theorem S2:bf ["self","field","length","extra","first","checks"] ["self","field","length","extra","first"] (aM tu):=br
abbrev J8:Stmt:=top 110
theorem tD:bf ["_law_script","_law_told_here","_law_size","_law_many_here","_law_field_here","_law_length","_law_extra","_law_table","_law_i","_law_free_here","_law_order_here"] ["_law_script","_law_told_here"] (aM J8):=br
abbrev J9:Stmt:=g7 (top 31) 2
theorem aI7:bf ["self"] ["self"] (aM J9):=br
abbrev Ka:Stmt:=top 53
theorem vR:bf ["code","field","words","row","larger","a"] ["code"] (aM Ka):=br
abbrev Kb:Stmt:=top 52
theorem DN:bf ["code","total","place"] ["code"] (aM Kb):=br
abbrev Ke:Stmt:=top 54
theorem Kf:bf ["code","counts","word"] ["code"] (aM Ke):=br
abbrev Kg:Stmt:=top 105
theorem DO:bf ["_law_base","_law_n","_law_total","_law_turn"] ["_law_base","_law_n"] (aM Kg):=br
abbrev Kh:Stmt:=top 104
theorem DP:bf ["_law_n","_law_k","_law_ways","_law_i"] ["_law_n","_law_k"] (aM Kh):=br
abbrev Ki:Stmt:=top 111
theorem vS:bf ["_law_many_here","_law_length","_law_i","_law_j","_law_total","_law_sign","_law_s","_law_part"] ["_law_many_here","_law_length","_law_i","_law_j"] (aM Ki):=br
abbrev Kj:Stmt:=top 112
theorem xZ:bf ["_law_many_here","_law_length","_law_size","_law_counts_here","_law_crossed","_law_words","_law_j","_law_total","_law_i"] ["_law_many_here","_law_length","_law_size","_law_counts_here","_law_crossed"] (aM Kj):=br
abbrev Kk:Stmt:=top 49
theorem aC4:bf ["code"] ["code"] (aM Kk):=br
abbrev Kl:Stmt:=top 55
theorem aC5:bf ["code"] ["code"] (aM Kl):=br
abbrev Km:Stmt:=top 97
theorem aG0:bf ["_law_x"] ["_law_x"] (aM Km):=br
abbrev Kn:Stmt:=top 113
theorem aE0:bf ["_law_found","_law_length"] ["_law_found","_law_length"] (aM Kn):=br
abbrev Ko:Stmt:=top 56
theorem S3:bf ["number","most","powers"] ["number","most"] (aM Ko):=br
abbrev Kp:Stmt:=top 57
theorem DQ:bf ["most","row","rows"] ["most"] (aM Kp):=br
abbrev Kq:Stmt:=top 58
theorem x6:bf ["many","length","i","powers","ways","found","j","parts"] ["many","length","i"] (aM Kq):=br
abbrev Kr:Stmt:=top 59
theorem x9:bf ["many","counts","length","total","factors","found","j"] ["many","counts"] (aM Kr):=br
abbrev tE:Stmt:=top 114
theorem vT:bf ["_law_script","_law_told_here","_law_many_here","_law_made_here","_law_length","_law_counts_here","_law_crossed"] ["_law_script"] (aM tE):=br
set_option genInjectivity false in
set_option genSizeOf false in
structure gj where
 S4:Addr
 S5:FuncData
 S6:Addr
 S7:FuncData
 S8:Addr
 S9:FuncData
 Ta:Addr
 Tc:FuncData
 Td:Addr
 Te:FuncData
 Tf:Addr
 Tg:FuncData
 Th:Addr
 Ti:FuncData
 AA:Addr
 Tj:FuncData
 Ks:Addr
 Tn:FuncData
 To:Addr
 Tp:FuncData
 Kt:Addr
 Ku:FuncData
 Tq:Addr
 Tr:FuncData
 Ts:Addr
 Tt:FuncData
 Tu:Addr
 Tv:FuncData
 Tw:Addr
 Tx:FuncData
 Tz:Addr
 TB:FuncData
 Kv:Addr
 Kw:FuncData
 TC:Addr
 TF:FuncData
 TH:Addr
 TJ:FuncData
 TK:Addr
 TL:FuncData
 TM:Addr
 at2:FuncData
 TN:Addr
 TQ:FuncData
 TR:Addr
 TU:FuncData
 TV:Addr
 TX:FuncData
 Kx:Addr
 TY:FuncData
 Ky:Addr
 TZ:FuncData
 Kz:Addr
 T1:FuncData
 KA:Addr
 T2:FuncData
 T3:Addr
 T4:FuncData
 DR:Addr
 T5:FuncData
 T6:Addr
 T7:FuncData
 T8:Addr
 T9:FuncData
 Ua:Addr
 Ub:FuncData
 Uc:Addr
 Ud:FuncData
 KC:Addr
 Ue:FuncData
 KD:Addr
 Ug:FuncData
 Uh:Addr
 Ui:FuncData
 KG:Addr
 Uj:FuncData
 DS:Addr
 Uk:FuncData
 Ul:Addr
 Um:FuncData
 Uo:Addr
 Up:FuncData
 Uq:Addr
 Ur:FuncData
 Us:Addr
 Ut:FuncData
 KH:Addr
 Uu:FuncData
 KI:Addr
 Uv:FuncData
 Uw:Addr
 Ux:FuncData
 Uy:Addr
 Uz:FuncData
 KJ:Addr
 UA:FuncData
 UB:Addr
 UC:FuncData
 KL:Addr
 KN:FuncData
 UD:Addr
 UE:FuncData
 DT:Addr
 UG:FuncData
 UH:Addr
 UI:FuncData
 UJ:Addr
 UK:FuncData
 UL:Addr
 UM:FuncData
 UN:Addr
 UO:FuncData
 UP:Addr
 UQ:FuncData
 UR:Addr
 US:FuncData
 UT:Addr
 UU:FuncData
 UW:Addr
 UX:FuncData
 UY:Addr
 UZ:FuncData
 U0:Addr
 U1:FuncData
 U2:Addr
 U3:FuncData
 U4:Addr
 U5:FuncData
 U6:Addr
 U7:FuncData
 U8:Addr
 U9:FuncData
 Va:Addr
 Vb:FuncData
 Vc:Addr
 Vd:FuncData
 Ve:Addr
 jQ:Addr
 Vf:Addr
 jR:Addr
 aQ:Addr
 cB:Addr
 rK:Addr
 pL:Addr
 aU:Addr
 bY:Addr
 DU:Tok
structure Txt(K:Frag)(mg:Str->Option Value)(t:gj):Prop where
 Vg:Fk K mg "_law_told" Jj ["_law_cell_here"] t.S4 t.S5
 DV:Fk K mg "_law_many" Jl ["_law_told_here"] t.S6 t.S7
 pM:Fk K mg "_law_cell" Jm ["_law_script","_law_k"] t.S8 t.S9
 Vh:Fk K mg "_law_small" Jn ["_law_script","_law_told_here"] t.Ta t.Tc
 KO:Fk K mg "powers_of" Jo ["a","product"] t.Td t.Te
 DW:Fk K mg "step_powers" Jp ["many","product"] t.Tf t.Tg
 DX:Fk K mg "logs_of" Jq ["powers"] t.Th t.Ti
 ya:Fm K "step_power" "Field.step_power" Js ["self","n"] t.AA t.Tj
 KP:Fm K "__init__" "Field.__init__" Jt ["self","many","product"] t.Ks t.Tn
 DY:Fk K mg "makes_prime_field" Ju ["prime"] t.To t.Tp
 Vi:Fm K "__init__" "PrimeField.__init__" s9 ["self","prime"] t.Kt t.Ku
 DZ:Fk K mg "product_rows" Jv ["powers","logs"] t.Tq t.Tr
 AB:Fk K mg "bits_divided" Jw ["a","b"] t.Ts t.Tt
 Vj:Fk K mg "stands_alone" Jx ["a"] t.Tu t.Tv
 D0:Fk K mg "makes_bit_field" Jz ["bits"] t.Tw t.Tx
 D1:Fk K mg "bits_times" JA ["a","b"] t.Tz t.TB
 Vk:Fm K "__init__" "BitField.__init__" tf ["self","bits"] t.Kv t.Kw
 D2:Fk K mg "_law_field" JB ["_law_told_here"] t.TC t.TF
 Vl:Fk K mg "_law_order" JC ["_law_cell_here","_law_count"] t.TH t.TJ
 Vm:Fk K mg "_law_digits" JE ["_law_cell_here","_law_base","_law_count"] t.TK t.TL
 Vn:Fk K mg "_law_mixed" JF ["_law_cell_here","_law_k"] t.TM t.at2
 Vo:Fk K mg "_law_free" JG ["_law_script","_law_many_here","_law_rows","_law_wide"] t.TN t.TQ
 vU:Fk K mg "width_of" JH ["table"] t.TR t.TU
 Vp:Fk K mg "first_with" JI ["rows","place"] t.TV t.TX
 Vq:Fm K "scaled" "BitField.scaled" JJ ["self","a","row"] t.Kx t.TY
 Vr:Fm K "scaled" "PrimeField.scaled" JK ["self","a","row"] t.Ky t.TZ
 Vs:Fm K "lessened" "BitField.lessened" JL ["self","row","a","other"] t.Kz t.T1
 Vt:Fm K "lessened" "PrimeField.lessened" JM ["self","row","a","other"] t.KA t.T2
 KQ:Fk K mg "cleared" JN ["field","rows","lead_row","place"] t.T3 t.T4
 KR:Fm K "over" "Field.over" JO ["self","a","b"] t.DR t.T5
 AD:Fk K mg "reduced" JP ["field","table"] t.T6 t.T7
 AE:Fk K mg "copied" JQ ["table"] t.T8 t.T9
 KS:Fk K mg "leads" JR ["rows"] t.Ua t.Ub
 AF:Fk K mg "free_places" JS ["rows","width"] t.Uc t.Ud
 Vu:Fm K "minus" "BitField.minus" JT ["self","a","b"] t.KC t.Ue
 Vv:Fm K "minus" "PrimeField.minus" JU ["self","a","b"] t.KD t.Ug
 D3:Fk K mg "kernel_of_reduced" JV ["field","rows","width"] t.Uh t.Ui
 KU:Fm K "__init__" "Code.__init__" JW ["self","field","checks"] t.KG t.Uj
 KW:Fm K "holds" "Field.holds" JX ["self","x"] t.DS t.Uk
 D4:Fk K mg "is_small_table" JY ["field","table"] t.Ul t.Um
 D6:Fk K mg "rank" JZ ["field","table"] t.Uo t.Up
 Vw:Fk K mg "turned" J0 ["table"] t.Uq t.Ur
 Vx:Fk K mg "is_nought" J1 ["column"] t.Us t.Ut
 Vy:Fm K "times" "BitField.times" J2 ["self","a","b"] t.KH t.Uu
 Vz:Fm K "times" "PrimeField.times" J3 ["self","a","b"] t.KI t.Uv
 VA:Fk K mg "past" J4 ["field","column","others"] t.Uw t.Ux
 D7:Fk K mg "first_bound" J5 ["field","table"] t.Uy t.Uz
 KY:Fm K "__init__" "CheckCode.__init__" J6 ["self","field","table"] t.KJ t.UA
 D8:Fk K mg "makes_root_code" J7 ["many","length","extra","first"] t.UB t.UC
 dx6:Dn K "__init__" "RootCode.__init__" tu t.KL t.KN
 dx7:Binds K t.KN ["self","field","length","extra","first"] []
 D9:Fk K mg "_law_made" J8 ["_law_script","_law_told_here"] t.UD t.UE
 KZ:Fm K "rows" "Code.rows" J9 ["self"] t.DT t.UG
 VB:Fk K mg "all_words" Ka ["code"] t.UH t.UI
 VC:Fk K mg "how_many_words" Kb ["code"] t.UJ t.UK
 K0:Fk K mg "census" Ke ["code"] t.UL t.UM
 K1:Fk K mg "_law_raised" Kg ["_law_base","_law_n"] t.UN t.UO
 K2:Fk K mg "_law_choose" Kh ["_law_n","_law_k"] t.UP t.UQ
 VD:Fk K mg "_law_number" Ki ["_law_many_here","_law_length","_law_i","_law_j"] t.UR t.US
 K3:Fk K mg "_law_meet" Kj ["_law_many_here","_law_length","_law_size","_law_counts_here","_law_crossed"] t.UT t.UU
 VE:Fk K mg "refuse_large" Kk ["code"] t.UW t.UX
 Ea:Fk K mg "crossed_code" Kl ["code"] t.UY t.UZ
 VF:Fk K mg "_law_whole" Km ["_law_x"] t.U0 t.U1
 K4:Fk K mg "_law_counts" Kn ["_law_found","_law_length"] t.U2 t.U3
 VG:Fk K mg "powers_up_to" Ko ["number","most"] t.U4 t.U5
 VH:Fk K mg "ways_to_choose" Kp ["most"] t.U6 t.U7
 VI:Fk K mg "crossed_factors" Kq ["many","length","i"] t.U8 t.U9
 K5:Fk K mg "crossed_census" Kr ["many","counts"] t.Va t.Vb
 dx8:Fk K mg "law" tE ["_law_script"] t.Vc t.Vd
 ax2:t.Ku.code=.ref t.Ve
 ax3:codeHdIn K t.Ve t.jQ=true
 aB5:t.Kw.code=.ref t.Vf
 aB6:codeHdIn K t.Vf t.jR=true
 fY:di K t.aQ
 K6:Mk K t.aQ t.Kv
 K7:bu K t.aQ "bits"
 yb:bu K t.aQ "logs"
 vV:bu K t.aQ "many"
 yc:bu K t.aQ "powers"
 yd:bu K t.aQ "products"
 K8:bu K t.aQ "step"
 K9:bu K t.aQ "wide"
 La:Meth K t.aQ "holds" t.DS
 ar7:Meth K t.aQ "lessened" t.Kz
 az6:Meth K t.aQ "minus" t.KC
 Lb:Meth K t.aQ "over" t.DR
 ax4:Meth K t.aQ "scaled" t.Kx
 AG:Meth K t.aQ "step_power" t.AA
 az7:Meth K t.aQ "times" t.KH
 ye:di K t.cB
 Eb:Mk K t.cB t.KJ
 Lc:bu K t.cB "bound"
 Ld:bu K t.cB "check_rows"
 AH:bu K t.cB "field"
 AI:bu K t.cB "length"
 Le:bu K t.cB "message_places"
 AJ:bu K t.cB "size"
 AK:bu K t.cB "word_rows"
 yf:Meth K t.cB "rows" t.DT
 gE:di K t.aU
 Lf:Mk K t.aU t.Kt
 AL:bu K t.aU "logs"
 vW:bu K t.aU "many"
 AM:bu K t.aU "powers"
 vX:bu K t.aU "prime"
 Lg:bu K t.aU "step"
 Lh:bu K t.aU "wide"
 Li:Meth K t.aU "holds" t.DS
 aq1:Meth K t.aU "lessened" t.KA
 au8:Meth K t.aU "minus" t.KD
 Lj:Meth K t.aU "over" t.DR
 ar8:Meth K t.aU "scaled" t.Ky
 AN:Meth K t.aU "step_power" t.AA
 au9:Meth K t.aU "times" t.KI
 AO:di K t.bY
 Lk:Mk K t.bY t.KL
 Ll:bu K t.bY "check_rows"
 Lm:bu K t.bY "extra"
 Ec:bu K t.bY "field"
 Ln:bu K t.bY "first"
 Ed:bu K t.bY "length"
 Lo:bu K t.bY "message_places"
 Ee:bu K t.bY "size"
 Ef:bu K t.bY "word_rows"
 Eg:Meth K t.bY "rows" t.DT
 VJ:xD K t.rK "__init__" t.KG
 VL:xD K t.pL "__init__" t.Ks
 AQ:mg "all"=none
 dz1:mg "any"=none
 VM:mg "bool"=none
 yg:mg "enumerate"=none
 Lp:mg "int"=none
 AR:mg "isinstance"=none
 gX:mg "len"=none
 AS:mg "list"=none
 VN:mg "min"=none
 dM:mg "range"=none
 AU:mg "sum"=none
 Lq:mg "zip"=none
 dz2:mg "MOST_WORDS"=some (.int 4096 t.DU)
 Lr:mg "BitField"=some (.ref t.aQ)
 Eh:mg "CheckCode"=some (.ref t.cB)
 Ei:mg "Code"=some (.ref t.rK)
 Ej:mg "Field"=some (.ref t.pL)
 Lu:mg "PrimeField"=some (.ref t.aU)
 Lw:mg "RootCode"=some (.ref t.bY)
section
variable{P:Program}{w:World}{K:Frag}{mg:Str->Option Value}{base:Heap}{t:gj}
theorem Lz(T:Txt K mg t)(m:Bool × Nat){Q:D->Prop}(q:Q (.int (aa m))):∃C ns xs v,fD t.aQ t.aU m=.obj C ns xs/\di K C/\bu K C "many"/\(ns.zip xs).lookup ("many":Str)=some v/\Q v:=by
 obtain⟨k,n⟩:=m
 cases k with
 | true=>exact⟨_,_,_,_,rfl,T.fY,T.vV,rfl,q⟩
 | false=>exact⟨_,_,_,_,rfl,T.gE,T.vW,rfl,q⟩
abbrev gY(t:gj)(m:Bool × Nat)(G:List (List Nat))(k:Kd):D:=Dr t.aQ t.aU t.cB t.cB t.bY m G k
theorem Ek(T:Txt K mg t)(m:Bool × Nat)(G:List (List Nat))(k:Kd){a:Str}{v:D}(n1:bu K t.cB a)(n2:bu K t.cB a)(n3:bu K t.bY a)(ha:a∈uC)(h:(uC.zip (sY t.aQ t.aU false m G)).lookup a=some v){Q:D->Prop}(q:Q v):∃C ns xs v,gY t m G k=.obj C ns xs/\di K C/\bu K C a/\(ns.zip xs).lookup a=some v/\Q v:=by
 have ha:a="field"\/a="length"\/a="check_rows"\/a="word_rows"\/a="message_places"\/a="size":=by simpa only[cN,jo,or_false]using ha
 rcases ha with rfl | rfl | rfl | rfl | rfl | rfl<;>cases k
 all_goals first | exact⟨_,_,_,v,rfl,T.ye,n1,h,q⟩ | exact⟨_,_,_,v,rfl,T.ye,n2,h,q⟩ | exact⟨_,_,_,v,rfl,T.AO,n3,h,q⟩
theorem LA(T:Txt K mg t)(m:Bool × Nat)(G:List (List Nat))(k:Kd){Q:D->Prop}(q:Q (fD t.aQ t.aU m)):∃C ns xs v,gY t m G k=.obj C ns xs/\di K C/\bu K C "field"/\(ns.zip xs).lookup ("field":Str)=some v/\Q v:=Ek T m G k T.AH T.AH T.Ec (by decide) rfl q
theorem AV(T:Txt K mg t)(m:Bool × Nat)(G:List (List Nat))(k:Kd){Q:D->Prop}(q:Q (.int (af G:Nat))):∃C ns xs v,gY t m G k=.obj C ns xs/\di K C/\bu K C "length"/\(ns.zip xs).lookup ("length":Str)=some v/\Q v:=Ek T m G k T.AI T.AI T.Ed (by decide) rfl q
theorem cl5(T:Txt K mg t)(m:Bool × Nat)(G:List (List Nat))(k:Kd){Q:D->Prop}(q:Q (.lst false (aE false (bj m G)))):∃C ns xs v,gY t m G k=.obj C ns xs/\di K C/\bu K C "word_rows"/\(ns.zip xs).lookup ("word_rows":Str)=some v/\Q v:=Ek T m G k T.AK T.AK T.Ef (by decide) rfl q
theorem VO(T:Txt K mg t)(m:Bool × Nat)(G:List (List Nat))(k:Kd){Q:D->Prop}(q:Q (.int ((aX m G).length:Nat))):∃C ns xs v,gY t m G k=.obj C ns xs/\di K C/\bu K C "size"/\(ns.zip xs).lookup ("size":Str)=some v/\Q v:=Ek T m G k T.AJ T.AJ T.Ee (by decide) rfl q
theorem VP(T:Txt K mg t){m:Bool × Nat}{G:List (List Nat)}{k:Kd}{me:Str}{n:Nat}{f:Addr}{fd:FuncData}{ps:List Str}{sp:bg}(h1:Meth K t.cB me f)(h2:Meth K t.cB me f)(h3:Meth K t.bY me f)(F:aO P w K mg base aS n f fd ps (bo sp))(b:Binds K fd ps [])(nm:me ∉ (["extra","first","field","length","check_rows","word_rows","message_places","size","bound"]:List Str)){ds:List D}{Q:D->Prop}(q:sp (gY t m G k::ds) Q):∃C ns zs sp,gY t m G k=.obj C ns zs/\nv P w K mg base n me C sp/\me ∉ ns/\sp (.obj C ns zs::ds) Q:=by
 simp only[cN,jo,or_false,not_or]at nm
 cases k
 ·exact⟨_,_,_,sp,rfl,⟨T.ye,_,_,_,h1,F,b⟩,by simp[nm],q⟩
 ·exact⟨_,_,_,sp,rfl,⟨T.ye,_,_,_,h2,F,b⟩,by simp[nm],q⟩
 ·exact⟨_,_,_,sp,rfl,⟨T.AO,_,_,_,h3,F,b⟩,by simp[nm],q⟩
abbrev aI8:bg:=λds Q=>∃c:Int,ds=[.int c]/\Q (gR (uq c))
theorem aI9(T:Txt K mg t):aO P w K mg base aS 1 t.S4 t.S5 ["_law_cell_here"] (bo (aI8 )):=by
 refine bz T.Vg.F Jk ?_ ?_
 ·intro ds Q h
  obtain⟨c,rfl,q⟩:=h<;>rfl
 ·intro aG A outer s H E hr
  refine⟨_,(aC (aP (i:=1) Jk.nd rfl (au rfl) (PY (ns:=[7,11,13,19,25,31,37,41,47,55,59,61,67,73,87,91,97,103,109,115,117]) (by decide +kernel)))
   (aC (aP (i:=2) Jk.nd rfl (au rfl) (PY (ns:=[2,3,5,7,11,13,17,19,23,29,31,37,41,43,47,53,59,61]) (by decide +kernel)))
   (aC (eH (cK (i9 (eI hr)) (ae (az fo (bv 0) (ae ao))) (ae ao) (cj _)) (aH (aZ (ud (cP qg (cP (da (bt (bv 1) (ae (az fo (ae (az sJ (bv 0) (ae ao))) (ae ao))) (λ_ _=>rfl))) cA))))) eG)
   (aH (aZ (ud (cP qg (cP (da (bt (bv 2) (ae (az fo (ae (az sJ (bv 0) (ae ao))) (ae ao))) (λ_ _=>rfl))) cA)))))))),λds Q h=>?_⟩
  obtain⟨c,rfl,q⟩:=h
  refine aB λU hU=>?_
  nofun
  refine⟨by decide,hU _ ?_⟩
  clear hU U
  refine aB λU hU=>?_
  nofun
  refine⟨by decide,hU _ ?_⟩
  clear hU U
  refine aB λU hU=>?_
  nofun
  refine⟨by decide,?_⟩
  have n1:=iV (c/2) (show(21:Int)≠0 by decide)
  have n2:=jr (c/2) (show(0:Int)<21 by decide)
  have n3:=iV (c/2) (show(18:Int)≠0 by decide)
  have n4:=jr (c/2) (show(0:Int)<18 by decide)
  split
  ·rename_i hc
   refine⟨ue (by decide) (by decide),by decide,_,oU n1 (by simpa using n2),rfl,by decide,?_⟩
   have e:gR (uq c)=.tup [.bl true,.int (([7,11,13,19,25,31,37,41,47,55,59,61,67,73,87,91,97,103,109,115,117]:List Int).getD (c/2%21).toNat 0)]:=by
    unfold uq gR
    rw[if_pos hc]
    have:∀k:Nat,((iO.getD k 0:Nat):Int)=([7,11,13,19,25,31,37,41,47,55,59,61,67,73,87,91,97,103,109,115,117]:List Int).getD k 0:=λk=>by
     show _=(iO.map (λ(n:Nat)=>(n:Int))).getD k ((0:Nat):Int)
     rw[aF,aF,bN]
     cases iO[k]?<;>rfl
    rw[<-this]
   rw[<-e];exact q
  ·rename_i hc
   refine hU _ ?_
   nofun
   refine⟨ue (by decide) (by decide),by decide,_,oU n3 (by simpa using n4),rfl,by decide,?_⟩
   have e:gR (uq c)=.tup [.bl false,.int (([2,3,5,7,11,13,17,19,23,29,31,37,41,43,47,53,59,61]:List Int).getD (c/2%18).toNat 0)]:=by
    unfold uq gR
    rw[if_neg hc]
    have:∀k:Nat,((sP.getD k 0:Nat):Int)=([2,3,5,7,11,13,17,19,23,29,31,37,41,43,47,53,59,61]:List Int).getD k 0:=λk=>by
     show _=(sP.map (λ(n:Nat)=>(n:Int))).getD k ((0:Nat):Int)
     rw[aF,aF,bN]
     cases sP[k]?<;>rfl
    rw[<-this]
   rw[<-e];exact q
abbrev aJ0:bg:=λds Q=>∃m:Bool × Nat,ds=[gR m]/\bl m.2<=1000/\1<=bl m.2/\Q (.int (aa m:Nat))
theorem LB(T:Txt K mg t):aO P w K mg base aS 1 t.S6 t.S7 ["_law_told_here"] (bo (aJ0 )):=by
 refine bz T.DV.F aI4 ?_ ?_
 ·intro ds Q h
  obtain⟨m,rfl,h1,h2,q⟩:=h<;>rfl
 ·intro aG A outer s H E hr
  refine⟨_,(aC (eH (ub (bt (bv 0) (ae ao) (λ_ _=>rfl))) (aH (aZ (az zE (ae ao) (ae (az dq (ae (vA (bt (bv 0) (ae ao) (λ_ _=>rfl)))) (ae ao)))))) eG)
   (aH (aZ (da (bt (bv 0) (ae ao) (λ_ _=>rfl)))))),λds Q h=>?_⟩
  obtain⟨m,rfl,h1,h2,q⟩:=h
  unfold gR at *
  refine aB λU hU=>?_
  nofun
  obtain⟨b,n⟩:=m
  cases b with
  | true =>
   refine⟨_,rfl,true,rfl,?_⟩
   rw[if_pos rfl]
   refine⟨_,rfl,?_⟩
   have o1:bl (1:Int).natAbs=1:=by decide
   have e:(1:Int)*2 ^ (((bl ((n:Int)).natAbs:Nat):Int)-1).toNat=((aa (true,n):Nat):Int):=by
    have lQ:1<=bl n:=h2
    rw[jZ,show(((bl n:Nat):Int)-1)=((bl n-1:Nat):Int) by omega,show(1:Int)=((1:Nat):Int) from rfl,w9,Fu];rfl
   refine⟨?_,by rw[e];exact q⟩
   rw[jZ]
   have om:bl n<=1000:=h1
   have lQ:1<=bl n:=h2
   exact⟨by omega,by omega⟩
  | false =>
   refine⟨_,rfl,false,rfl,?_⟩
   rw[if_neg (by decide)]
   refine hU _ ?_
   nofun
   exact⟨_,rfl,rfl,q⟩
abbrev aJ1:bg:=λds Q=>∃(ns:List Int) (k:Int),ds=[.fz (ax ns),.int k]/\0<=k/\Q (.int (ns.getD k.toNat 0))
theorem qK(T:Txt K mg t):aO P w K mg base aS 1 t.S8 t.S9 ["_law_script","_law_k"] (bo (aJ1 )):=by
 refine bz T.pM.F aI5 ?_ ?_
 ·intro ds Q h
  obtain⟨ns,k,rfl,hk,q⟩:=h<;>rfl
 ·intro aG A outer s H E hr
  refine⟨_,(aC (eH (cK xp (bv 1) (ae (dE (hZ) (by rfl) T.gX gK (ah (bv 0) av))) (cj _)) (aH (aZ (da (bt (bv 0) (bv 1) (λ_ _=>rfl))))) eG)
   (aH (aZ ao))),λds Q h=>?_⟩
  obtain⟨ns,k,rfl,hk,q⟩:=h
  refine aB λU hU=>?_
  nofun
  split
  ·rename_i h
   exact⟨_,oU hk h,rfl,q⟩
  ·rename_i h
   refine hU _ ?_
   nofun
   rw[aF,gx (by omega)]at q
   exact q
theorem El(x:Int){M:Int}(h:0<M):∃k:Nat,x%M=k/\(k:Int)<M :=
 ⟨(x%M).toNat,by have:=iV x (show M≠0 by omega);omega,by have:=jr x h;omega⟩
theorem uI{M d A e:Nat}(h:M<=A)(hd:d<=e)(hA:0<A)(hE:A ^ e<=64):M ^ d<=64:=cQ (NN h d) (cQ (jW hA hd) hE)
abbrev aG1:bg:=λds Q=>∃(m:Bool × Nat) (ns:List Int),ds=[.fz (ax ns),gR m]/\m∈aA/\∀n r:Nat,2<=n->n<=8->1<=r->r<n->aa m ^ (n-r)<=64->aa m ^ r<=64->rJ (aa m) n=true->Q (.tup [.int n,.int r])
theorem aG2(T:Txt K mg t):aO P w K mg base aS 2 t.Ta t.Tc ["_law_script","_law_told_here"] (bo (aG1 )):=by
 refine bz T.Vh.F xV ?_ ?_
 ·intro ds Q h
  obtain⟨m,ns,rfl,hm,q⟩:=h<;>rfl
 ·intro aG A outer s H E hr
  refine⟨_,(aC (aP (i:=2) xV.nd rfl (au rfl) (bA T.DV (LB T) hr (ah (bv 1) av)))
   (aC (aP (i:=3) xV.nd rfl (au rfl) ao)
   (aC (eH (cK jF (bv 2) (ae ao) (cj _)) (aH (aP (i:=3) xV.nd rfl (au rfl) (az cm (ae ao) (ae (az fo (ae (bA T.pM (qK T) hr (ah (bv 0) (ah (ae ao) av)))) (ae ao)))))) eG)
   (aC (eH (cK jF (bv 2) (ae ao) (cj _)) (aH (aP (i:=3) xV.nd rfl (au rfl) (az cm (ae ao) (ae (az fo (ae (bA T.pM (qK T) hr (ah (bv 0) (ah (ae ao) av)))) (ae ao)))))) eG)
   (aC (eH (cK (i9 (eI hr)) (bv 2) (ae ao) (cj _)) (aH (aP (i:=3) xV.nd rfl (au rfl) (az cm (ae ao) (ae (az fo (ae (bA T.pM (qK T) hr (ah (bv 0) (ah (ae ao) av)))) (ae ao)))))) eG)
   (aH (aZ (ud (cP (da (bv 3)) (cP (az cm (ae (az sJ (bv 3) (ae ao))) (ae (az fo (ae (bA T.pM (qK T) hr (ah (bv 0) (ah (ae ao) av)))) (ae (az cm (ae ao) (ae (az fo (bv 3) (ae ao)))))))) cA)))))))))),λds Q h=>?_⟩
  obtain⟨m,ns,rfl,hm,q⟩:=h
  have fv:=(cT hm).lo
  have nO:=(cT hm).hi
  have VQ:=HM m hm
  refine aB λU hU=>?_
  nofun
  refine⟨m,rfl,by omega,by omega,hU _ ?_⟩
  clear hU U
  refine aB λU hU=>?_
  nofun
  refine hU _ ?_
  clear hU U
  generalize hM:aa m=M at *
  refine aB λU hU=>?_
  nofun
  have s1:∀n:Nat,(n=2\/M<=8/\(n=3\/n=4))->U [some (D.fz (ax ns)),some (gR m),some (D.int M),some (D.int n)]:=by
   intro n hn
   refine hU _ ?_
   clear hU U
   refine aB λU hU=>?_
   nofun
   have s2:∀n:Nat,(n=2\/M<=8/\(n=3\/n=4)\/M<=4/\3<=n/\n<=6)->U [some (D.fz (ax ns)),some (gR m),some (D.int M),some (D.int n)]:=by
    clear hn n
    intro n hn
    refine hU _ ?_
    clear hU U
    refine aB λU hU=>?_
    nofun
    have s3:∀n:Nat,(n=2\/M<=8/\(n=3\/n=4)\/M<=4/\3<=n/\n<=6\/M=2/\3<=n/\n<=8)->U [some (D.fz (ax ns)),some (gR m),some (D.int M),some (D.int n)]:=by
     clear hn n
     intro n hn
     refine hU _ ?_
     clear hU U
     nofun
     obtain⟨j,ej,j1,j2⟩:∃j:Int,(1:Int)+(n:Int)%2=j/\1<=j/\j<=2/\(j=1\/(n:Int)%2=1):=⟨_,rfl,by omega,by omega,by omega⟩
     obtain⟨k,ek,hk⟩:=El (ns.getD (qN 2) 0) (show(0:Int)<j by omega)
     refine⟨ue (by decide) (by decide),ns,2,rfl,by decide,by decide,?_⟩
     dsimp only
     rw[ej,ek]
     refine⟨by omega,by decide,?_⟩
     have:=q n (n/2+k) (by omega) (by omega) (by omega) (by omega) (by
      rcases hn with h | ⟨h,h'⟩ | ⟨h,h'⟩ | ⟨h,h'⟩
      ·exact uI nO (e:=1) (by omega) (by decide) (by decide)
      ·exact uI h (e:=2) (by omega) (by decide) (by decide)
      ·exact uI h (e:=3) (by omega) (by decide) (by decide)
      ·exact uI (tJ h) (e:=4) (by omega) (by decide) (by decide)) (by
      rcases hn with h | ⟨h,h'⟩ | ⟨h,h'⟩ | ⟨h,h'⟩
      ·exact uI nO (e:=1) (by omega) (by decide) (by decide)
      ·exact uI h (e:=2) (by omega) (by decide) (by decide)
      ·exact uI h (e:=3) (by omega) (by decide) (by decide)
      ·exact uI (tJ h) (e:=4) (by omega) (by decide) (by decide)) (decide_eq_true (by omega))
     rw[show((n/2+k:Nat):Int)=(n:Int)/2+(k:Int) by omega]at this
     exact this
    split
    ·refine⟨ns,1,rfl,by decide,?_⟩
     dsimp only
     obtain⟨k,ek,hk⟩:=El (ns.getD (qN 1) 0) (show(0:Int)<6 by decide)
     rw[ek]
     refine⟨by decide,?_⟩
     have:=s3 (3+k) (by omega)
     exact this
    ·exact s3 n (by omega)
   split
   ·refine⟨ns,1,rfl,by decide,?_⟩
    dsimp only
    obtain⟨k,ek,hk⟩:=El (ns.getD (qN 1) 0) (show(0:Int)<4 by decide)
    rw[ek]
    refine⟨by decide,?_⟩
    have:=s2 (3+k) (by omega)
    exact this
   ·exact s2 n (by omega)
  split
  ·refine⟨ns,1,rfl,by decide,?_⟩
   dsimp only
   obtain⟨k,ek,hk⟩:=El (ns.getD (qN 1) 0) (show(0:Int)<2 by decide)
   rw[ek]
   refine⟨by decide,?_⟩
   have:=s1 (3+k) (by omega)
   exact this
  ·exact s1 2 (by omega)
abbrev aJ2(L:Obj->Obj->Addr->Addr->xC->Prop):bg:=λds Q=>∃(a:Nat) (of oc:Obj) (c k:Addr) (g:Nat->Nat->Nat) (l:List Int),ds=[.int a,.bK (.lam of oc c k)]/\L of oc c k (zX g)/\a<64/\HG g a=some l/\Q (.lst true (ax l))
theorem VR(T:Txt K mg t):aO P w K mg base aS 5 t.Td t.Te ["a","product"] (bo (aJ2 (zP P w K mg base 4))):=by
 refine bz T.KO.F DI ?_ ?_
 ·intro ds Q h
  obtain⟨a,of,oc,c,k,g,l,rfl,hL,ha,hp,q⟩:=h<;>rfl
 ·intro aG A outer s H E hr
  refine⟨_,(aC (aP (i:=2) DI.nd rfl (au rfl) (dm (cP ao cA)))
   (aC (aP (i:=3) DI.nd rfl (au rfl) (Qj (n:=4) (i:=1) rfl (by first | exact au rfl | exact bB (au rfl)) (hr.mono (by decide)) (ah (ae ao) (ah (bv 0) av))))
   (aC (xk dy (cK (qj (eI hr)) (bv 3) (ae ao) (cj _))
    (aC (ot (i:=2) rfl (by first | exact au rfl | exact bB (au rfl)) (da (bv 3)))
    (aH (aP (i:=3) DI.nd rfl (au rfl) (Qj (n:=4) (i:=1) rfl (by first | exact au rfl | exact bB (au rfl)) (hr.mono (by decide)) (ah (bv 3) (ah (bv 0) av)))))))
   (aH (aZ (em 2)))))),λds Q h=>?_⟩
  obtain⟨a,of,oc,c,k,g,l,rfl,hL,ha,hp,q⟩:=h
  refine aB λU hU=>?_
  nofun
  refine⟨by decide,hU _ ?_⟩
  clear hU U
  refine aB λU hU=>?_
  nofun
  refine⟨of,oc,c,k,zX g,rfl,hL,1,a,⟨rfl,rfl⟩,1,a,rfl,rfl,by decide,ha,hU _ ?_⟩
  clear hU U
  refine aB λU hU=>?_
  nofun
  refine⟨λm δ=>∃(p:Nat) (acc:List Int),δ=[some (.int a),some (.bK (.lam of oc c k)),some (.lst true (ax acc)),some (.int p)]/\acc.length+m<=70/\CN g a m p acc=some l,⟨64,_,[1],rfl,by decide,hp⟩,?_⟩
  rintro m δ ⟨p,acc,rfl,hn,hg⟩
  nofun
  cases m with
  | zero=>cases hg
  | succ m =>
   unfold CN at hg
   split at hg
   ·rename_i h1
    subst h1
    cases hg
    rw[if_neg (by simp)]
    refine hU _ ?_
    nofun
    exact q
   ·rename_i h1
    rw[if_pos (by simp;omega)]
    split at hg
    ·rename_i h2
     clear hU
     refine aB λU hU=>?_
     nofun
     refine⟨⟨_,rfl⟩,by omega,hU _ ?_⟩
     clear hU
     nofun
     exact⟨of,oc,c,k,zX g,rfl,hL,p,a,⟨rfl,rfl⟩,p,a,rfl,rfl,h2,ha,m,by omega,g p a,acc++[(p:Int)],⟨by rw[<-iK];rfl,rfl⟩,by simp;omega,hg⟩
    ·cases hg
abbrev aE1(L:Obj->Obj->Addr->Addr->xC->Prop):bg:=λds Q=>∃(n:Nat) (of oc:Obj) (c k:Addr) (g:Nat->Nat->Nat) (l:List Int),ds=[.int n,.bK (.lam of oc c k)]/\L of oc c k (zX g)/\zW g n=some l/\Q (.lst true (ax l))
theorem aE2(T:Txt K mg t):aO P w K mg base aS 6 t.Tf t.Tg ["many","product"] (bo (aE1 (zP P w K mg base 4))):=by
 refine bz T.DW.F Av ?_ ?_
 ·intro ds Q h
  obtain⟨n,of,oc,c,k,g,l,rfl,hL,hp,q⟩:=h<;>rfl
 ·intro aG A outer s H E hr
  refine⟨_,(aC (aP (i:=2) Av.nd rfl (au rfl) ao)
   (aC (aP (i:=3) Av.nd rfl (au rfl) (bA T.KO (VR T) hr (ah (bv 2) (ah (bv 1) av))))
   (aC (xk dy (cK xp (ae (dE (hZ) (by rfl) T.gX gK (ah (bv 3) av))) (ae (az dq (bv 0) (ae ao))) (cj _))
    (aC (zw (i:=2) Av.nd rfl (au rfl) (ae ao) cw5)
    (aH (aP (i:=3) Av.nd rfl (au rfl) (bA T.KO (VR T) hr (ah (bv 2) (ah (bv 1) av)))))))
   (aH (aZ (em 3)))))),λds Q h=>?_⟩
  obtain⟨n,of,oc,c,k,g,l,rfl,hL,hp,q⟩:=h
  unfold zW at hp
  split at hp
  ·rename_i l0 h0
   refine aB λU hU=>?_
   nofun
   refine hU _ ?_
   clear hU U
   refine aB λU hU=>?_
   nofun
   refine⟨1,of,oc,c,k,g,l0,rfl,hL,by decide,h0,hU _ ?_⟩
   clear hU U
   refine aB λU hU=>?_
   nofun
   refine⟨λm δ=>∃(st:Nat) (l1:List Int),δ=[some (.int n),some (.bK (.lam of oc c k)),some (.int st),some (.lst true (ax l1))]/\st+m<=63/\CO g n m st l1=some l,⟨62,1,l0,rfl,by decide,hp⟩,?_⟩
   rintro m δ ⟨st,l1,rfl,hn,hg⟩
   nofun
   cases m with
   | zero=>cases hg
   | succ m =>
    unfold CO at hg
    split at hg
    ·rename_i h1
     rw[if_pos (by omega)]
     split at hg
     ·rename_i l2 h2
      clear hU
      refine aB λU hU=>?_
      nofun
      refine hU _ ?_
      clear hU
      nofun
      exact⟨st+1,of,oc,c,k,g,l2,rfl,hL,by omega,h2,m,by omega,st+1,l2,⟨rfl,rfl⟩,by omega,hg⟩
     ·cases hg
    ·rename_i h1
     rw[if_neg (by omega)]
     cases hg
     refine hU _ ?_
     nofun
     exact q
  ·cases hp
abbrev aL3:bg:=λds Q=>∃(l:List Int),ds=[.lst false (ax l)]/\l.length<=64/\(∀x∈l,0<=x/\x.toNat<=l.length)/\Q (.lst true (ax (fh l)))
theorem aL4(T:Txt K mg t):aO P w K mg base aS 1 t.Th t.Ti ["powers"] (bo (aL3 )):=by
 refine bz T.DX.F Jr ?_ ?_
 ·intro ds Q h
  obtain⟨l,rfl,hl,hx,q⟩:=h<;>rfl
 ·intro aG A outer s H E hr
  refine⟨_,(aC (aP (i:=1) Jr.nd rfl (au rfl) (az dQ (ae (dm (cP ao cA))) (ae (az cm (ae (dE (hZ) (by rfl) T.gX gK (ah (bv 0) av))) (ae ao)))))
   (aC (eU dy rfl (xw rfl T.yg (ah (bv 0) av)) (vD (i1:=2) (i2:=3) rfl Jr.nd rfl (au rfl) rfl (au rfl))
    (aH (G9 (i:=1) rfl (by first | exact au rfl | exact bB (au rfl)) (da (bv 2)) (bv 3))))
   (aH (aZ (em 1))))),λds Q h=>?_⟩
  obtain⟨l,rfl,hl,hx,q⟩:=h
  refine aB λU hU=>?_
  nofun
  refine⟨by decide,⟨by omega,by omega,by omega⟩,hU _ ?_⟩
  clear hU U
  refine aB λU hU=>?_
  nofun
  refine iH.mk (λi δ=>∃o1 o2,δ=[some (.lst false (ax l)),some (.lst true (ax (sQ l i))),o1,o2]) ⟨none,none,?_⟩ ?_ ?_
  ·rw[show((l.length:Int)+1).toNat=l.length+1 by omega];rfl
  ·rintro i d δ hd ⟨o1,o2,rfl⟩
   obtain⟨hi,rfl⟩:∃h:i<l.length,d=.tup [.int i,.int l[i]]:=by
    unfold iM ax at hd
    rw[E9,bN]at hd
    by_cases hi:i<l.length
    ·rw[aJ hi]at hd
     simp at hd
     exact⟨hi,hd.symm⟩
    ·rw[gx (by omega)]at hd;simp at hd
   have du:=hx l[i] (eN _)
   nofun
   refine⟨_,(l[i]).toNat,rfl,?_,_,_,?_,rfl,rfl⟩
   ·unfold jv
    rw[h9,zY,if_pos du.1,if_pos (by omega)]
   ·unfold ax
    rw[<-Nq]
    congr 1
    show _=(sQ l i).set (l.getD i 0).toNat (i:Int)
    rw[aF,aJ hi];rfl
  ·rintro δ ⟨o1,o2,rfl⟩
   refine hU _ ?_
   simp only[mh,kn,mi,mj,mm,dT,i6,jB,jC,dC,kg,jD,kj,ki,l9,mf,jI,mW,kF,mX,mY,lV,lX,lZ,l6,l7,l8,kh,mT,kB,kC,ii,kx,mF,ky,mG,mH,mI,mJ,mK,mM,iI,fA,mN,mO,mP,mQ,kz,jG,mR,mS,gN,mZ,mV,mn,mr,mw,mB,mC,mD,m3,m4,jE,gB,dP,gA,gq,iz,k9,pT,pU,km,i7,gO,kD,kE,jc,m9,nh,ib,nk,kK,ni,fO,ie,pz,pB,bR,gv,lj,jU,eK,nV,aW,jX,jY,dY,dZ,nY,exists_eq_left',exists_eq_left,D.bl.injEq,D.int.injEq,D.lst.injEq,D.fz.injEq,D.str.injEq,D.tup.injEq,pV,and_true,true_and,cH,lh,iA,iy,ou,oy,oA,oB,oE,oF,eR,hJ,h7,oK,oM,oN,oO,oQ,cE,iF,oG,oH,oI,oJ,eE,kb,pW,lC,kZ,iW,nX,lD,k7,oV,oW,oX,oY,oZ,pf,ph,h9,jJ,kG,fB,iK,oR,m8,m5,kH,oS,ia,m6,if_true,nZ,if_false,reduceIte,pj,decide_eq_true_eq,pq,fQ,je,kL,pG,nq,pE,mq,nu,nj,kN,kO,kP,nz,pH,kR,nB,nE,cY,jh,gu,pI,kT,nH,nI,nJ,nK,nM,nN,vC]
   exact q
abbrev AW(K:Frag):bg:=λds Q=>∃(C:Addr) (ns:List Str) (xs:List D) (n:Int) (many:Nat) (l:List Int) (r:Int),ds=[.obj C ns xs,.int n]/\di K C/\bu K C "powers"/\bu K C "many"/\(ns.zip xs).lookup ("powers":Str)=some (.lst false (ax l))/\(ns.zip xs).lookup ("many":Str)=some (.int many)/\2<=many/\l[(n%((many:Int)-1)).toNat]?=some r/\Q (.int r)
theorem AX(T:Txt K mg t):aO P w K mg base aS 1 t.AA t.Tj ["self","n"] (bo (AW K)):=by
 refine bz T.ya.F au5 ?_ ?_
 ·intro ds Q h
  obtain⟨C,ns,xs,n,many,l,r,rfl,hC,h1,h2,h3,h4,h5,h6,q⟩:=h<;>rfl
 ·intro aG A outer s H E hr
  refine⟨_,(aH (aZ (da (bt (eW (K:=K) (bv 0)) (ae (az fo (bv 1) (ae (az dq (eW (K:=K) (bv 0)) (ae ao))))) (λ_ _=>rfl))))),λds Q h=>?_⟩
  obtain⟨C,ns,xs,n,many,l,r,rfl,hC,h1,h2,h3,h4,h5,h6,q⟩:=h
  nofun
  refine⟨C,ns,xs,_,rfl,hC,h1,h3,C,ns,xs,_,rfl,hC,h2,h4,?_⟩
  refine⟨by omega,_,qW (d:=.int r) (iV _ (by omega)) ?_,rfl,q⟩
  unfold ax
  rw[bN,h6];rfl
theorem bE4(T:Txt K mg t){m:Bool × Nat}(hm:m∈aA){n:Int}{Q:D->Prop}(q:Q (.int (eS m n:Nat))):QW P w K mg base 1 t.aQ t.aU m "step_power" [.int n] Q:=by
 have hF:=cT hm
 have hl:=cL2 hm n
 obtain⟨k,b⟩:=m
 cases k with
 | true=>exact⟨_,_,_,AW K,rfl,⟨T.fY,_,_,_,T.AG,AX T,T.ya.b⟩,by decide,_,_,_,_,aa (true,b),fl (true,b),_,rfl,T.fY,T.yc,T.vV,rfl,rfl,hF.lo,hl,q⟩
 | false=>exact⟨_,_,_,AW K,rfl,⟨T.gE,_,_,_,T.AN,AX T,T.ya.b⟩,by decide,_,_,_,_,aa (false,b),fl (false,b),_,rfl,T.gE,T.AM,T.vW,rfl,rfl,hF.lo,hl,q⟩
abbrev aG3(P:Program)(w:World)(K:Frag)(mg:Str->Option Value)(base:Heap)(fs:Addr):Sp:=λvs H Q _=>∃(x dx f C:Addr) (b:Str) (n0:Int) (many:Nat) (of oc:Obj) (c k:Addr) (g:Nat->Nat->Nat) (l:List Int) (st:Int),
 vs=[.ref x,.int many,.ref f]/\H x=some (.ins C dx [(b,.int n0)])/\(∀n∈(["many","wide","powers","logs","step","step_power"]:List Str),b≠n)/\dd6 K C fs/\oo H f of oc c k/\zP P w K mg base 4 of oc c k (zX g)/\QD g many l st /\
 ∀H' p1 p2,bQ x H H'->H' x=some (.ins C dx ((jg b).zip (CP n0 many p1 p2 st)))->LI H' p1 l->LI H' p2 (fh l)->p1≠p2->H p1=none->H p2=none->Q .aq H'
theorem VS(T:Txt K mg t):aO P w K mg base aS 7 t.Ks t.Tn ["self","many","product"] (aG3 P w K mg base t.AA):=by
 refine T.KP.F.ok aF6 (λvs H Q E h=>?_) λaG A outer s H vs Q E hr h=>?_
 ·obtain⟨x,dx,f,C,b,n0,many,of,oc,c,k,g,l,st,rfl,_⟩:=h;rfl
 obtain⟨x,dx,f,C,b,n0,many,of,oc,c,k,g,l,st,rfl,hx,hb,hC,dA7,hL,hF,q⟩:=h
 refine⟨_,fk (iE (pv 0) (pv 1) rfl) (fk (iE (pv 0) (yM FP (Gv (pv 1)) wN) rfl)
  (fk (iE (pv 0) (lK ((aE2 T).mono (by decide)) hr rfl T.DW.g T.DW.F.kp T.DW.b .nil dH (cy (pv 1) (cy (pv 2) ff))) rfl)
  (fk (iE (pv 0) (lK ((aL4 T).mono (by decide)) hr rfl T.DX.g T.DX.F.kp T.DX.b .nil dH (cy (ve (pv 0) rfl) ff)) rfl)
  (oi (iE (pv 0) (Ψ (pv 0) hC.cls hC.sp ((AX T).mono (by decide)) hr T.ya.b .nil dH (cy wN ff)) rfl))))),?_⟩
 try dsimp only[ib,ie]
 have nb:∀n∈(["many","wide","powers","logs","step","step_power"]:List Str),b≠n:=hb
 refine⟨.int many,rfl,.ref x,rfl,x,C,dx,_,rfl,hx,hC.cls,hC.many,iU (bG 1) (by decide),?_⟩
 rw[xG (by simpa using nb "many" (by simp))]
 generalize e1:upd H x (HO.ins C dx ([(b,V.int n0)]++[(("many":Str),V.int many)]))=H1
 have du:H1 x=some (.ins C dx [(b,V.int n0),(("many":Str),V.int many)]):=by rw[<-e1,bS];rfl
 have s1:bQ x H H1:=by rw[<-e1];exact bQ.upd (C:=C) (dx:=dx) hx rfl
 have l1:oo H1 f of oc c k:=by rw[<-e1];exact dA7.vI hx
 have n1:∀p,H1 p=none->H p=none:=λp h=>zZ hx (by rw[e1];exact h)
 refine⟨_,rfl,rfl,_,rfl,rfl,_,_,rfl,rfl,.ref x,rfl,x,C,dx,_,rfl,du,hC.cls,hC.wide,iU (bG 2) (by decide),?_⟩
 rw[xG (by simp;exact⟨nb "wide" (by simp),by decide⟩),jZ]
 generalize e2:upd H1 x (HO.ins C dx ([(b,V.int n0),(("many":Str),V.int many)]++[(("wide":Str),V.int ((bl many:Nat)-1))]))=H2
 have eV:H2 x=some (.ins C dx [(b,V.int n0),(("many":Str),V.int many),(("wide":Str),V.int ((bl many:Nat)-1))]):=by rw[<-e2,bS];rfl
 have s2:bQ x H H2:=by rw[<-e2];exact s1.trans (bQ.upd (C:=C) (dx:=dx) du rfl)
 have l2:oo H2 f of oc c k:=by rw[<-e2];exact l1.vI du
 have n2:∀p,H2 p=none->H p=none:=λp h=>n1 p (zZ du (by rw[e2];exact h))
 refine⟨_,rfl,_,rfl,H2,[.int many,.bK (.lam of oc c k)],λd=>d=.lst true (ax l),ag.refl _,.int (.bK l2 .nil),⟨many,of,oc,c,k,g,l,rfl,hL,hF.step,rfl⟩,λd v F' H3 A' hd hs hf he h3 r nd fr=>?_⟩
 subst hd
 obtain⟨p1,rfl,hp1,AY⟩:=QC r fr
 have fq:=hs.get _ _ eV
 have s3:=s2.trans (hs.x (x:=x))
 refine⟨.ref x,rfl,x,C,dx,_,rfl,fq,hC.cls,hC.HH,iU (bG 3) (by decide),?_⟩
 rw[xG (by simp;exact⟨nb "powers" (by simp),by decide,by decide⟩)]
 generalize e4:upd H3 x (HO.ins C dx ([(b,V.int n0),(("many":Str),V.int many),(("wide":Str),V.int ((bl many:Nat)-1))]++[(("powers":Str),V.ref p1)]))=H4
 have kW:H4 x=some (.ins C dx [(b,V.int n0),(("many":Str),V.int many),(("wide":Str),V.int ((bl many:Nat)-1)),(("powers":Str),V.ref p1)]):=by rw[<-e4,bS];rfl
 have s4:bQ x H H4:=by rw[<-e4];exact s3.trans (bQ.upd (C:=C) (dx:=dx) fq rfl)
 have p4:LI H4 p1 l:=by rw[<-e4];exact hp1.upd fq (λws z=>by cases z)
 have n4:∀p,H4 p=none->H p=none:=λp h=>n2 p (hs.free (zZ fq (by rw[e4];exact h)))
 refine⟨.ref x,rfl,x,C,dx,_,.ref p1,rfl,kW,hC.cls,hC.HH,by rw[CQ (nb "powers" (by simp))];rfl,H4,[.lst false (ax l)],λd=>d=.lst true (ax (fh l)),ag.refl _,.shr p4 (qo l) .nil,⟨l,rfl,by have:=hF.len;have:=hF.hi;omega,hF.ins,rfl⟩,λd v F' H5 A' hd pO hf he h3 r nd fr=>?_⟩
 subst hd
 obtain⟨p2,rfl,Em,vY⟩:=QC r fr
 have jS:=pO.get _ _ kW
 have s5:=s4.trans (pO.x (x:=x))
 have dA9:p1≠p2:=λz=>by rw[<-z]at vY;unfold LI at p4;rw[vY]at p4;cases p4
 refine⟨.ref x,rfl,x,C,dx,_,rfl,jS,hC.cls,hC.dd7,iU (bG 4) (by decide),?_⟩
 rw[xG (by simp;exact⟨nb "logs" (by simp),by decide,by decide,by decide⟩)]
 generalize e6:upd H5 x (HO.ins C dx ([(b,V.int n0),(("many":Str),V.int many),(("wide":Str),V.int ((bl many:Nat)-1)),(("powers":Str),V.ref p1)]++[(("logs":Str),V.ref p2)]))=H6
 have uJ:H6 x=some (.ins C dx (([b,"many","wide","powers","logs"]:List Str).zip [V.int n0,V.int many,V.int ((bl many:Nat)-1),V.ref p1,V.ref p2])):=by rw[<-e6,bS];rfl
 have s6:bQ x H H6:=by rw[<-e6];exact s5.trans (bQ.upd (C:=C) (dx:=dx) jS rfl)
 have p6:LI H6 p1 l:=by rw[<-e6];exact(p4.same pO).upd jS (λws z=>by cases z)
 have q6:LI H6 p2 (fh l):=by rw[<-e6];exact Em.upd jS (λws z=>by cases z)
 refine⟨.ref x,rfl,x,dx,_,rfl,uJ,by show qL ("step_power":Str) ((b,V.int n0)::_)=none;rw[CQ (nb "step_power" (by simp))];rfl,H6,[.obj C [b,"many","wide","powers","logs"] [.int n0,.int many,.int ((bl many:Nat)-1),.lst false (ax l),.lst false (ax (fh l))],.int 1],λd=>d=.int st,ag.refl _,
  .obj uJ rfl (.int (.int (.int (.shr p6 (qo l) (.shr q6 (qo _) .nil))))) (.int .nil),⟨C,_,_,1,many,l,st,rfl,hC.cls,hC.HH,hC.many,by show qL ("powers":Str) ((b,D.int n0)::_)=_;rw[CQ (nb "powers" (by simp))];rfl,by show qL ("many":Str) ((b,D.int n0)::_)=_;rw[CQ (nb "many" (by simp))];rfl,hF.lo,hF.st,rfl⟩,λd v F' H7 A' hd tF hf he h3 r nd fr=>?_⟩
 subst hd
 cases r
 have rL:=tF.get _ _ uJ
 refine⟨.ref x,rfl,x,C,dx,_,rfl,rL,hC.cls,hC.step,iU (bG 5) (by decide),?_⟩
 rw[xG (by simp;exact⟨nb "step" (by simp),by decide,by decide,by decide,by decide⟩)]
 refine q _ p1 p2 ((s6.trans (tF.x (x:=x))).trans (bQ.upd (C:=C) (dx:=dx) rL rfl)) (by rw[bS];rfl) ((p6.same tF).upd rL (λws z=>by cases z)) ((q6.same tF).upd rL (λws z=>by cases z)) dA9 (n2 p1 AY) (n4 p2 vY)
abbrev as0:bg:=λds Q=>∃a:Int,ds=[.int a]/\Q (.bl (decide (2<=a)&&decide (a<=61)&&(aw (a.toNat-2)).all λi=>a%(2+(i:Int)) != 0))
theorem as1(T:Txt K mg t):aO P w K mg base aS 1 t.To t.Tp ["prime"] (bo (as0 )):=by
 refine bz T.DY.F ar6 ?_ ?_
 ·intro ds Q h
  obtain⟨a,rfl,q⟩:=h<;>rfl
 ·intro aG A outer s H E hr
  refine⟨_,(aH (aZ (rj (ae (xu jF jF (ae ao) (bv 0) (ae ao))) (u5 (dE (zJ rfl) (by rfl) T.AQ za (ah (ae (dS [("prime",0)] ["d"] rfl (zA rfl T.dM (ah (ae ao) (ah (bv 0) av))) (λ_ _ _ _=>(fi (i:=1) (show(["prime","d"]:List Str).Nodup by decide +kernel))) (λ_ _ _ _=>dX) (λ_ _ _ _=>(vt (qj (eI hr)) (ae (az fo (bv 0) (bv 1))) (ae ao) (cj _))) rfl)) av)))))),λds Q h=>?_⟩
  obtain⟨a,rfl,q⟩:=h
  nofun
  split
  ·rename_i h1
   split
   ·rename_i h2
    refine⟨2,a,⟨rfl,rfl⟩,⟨by decide,by decide,by omega,by omega⟩,?_⟩
    have e0:(a-2).toNat=a.toNat-2:=by omega
    rw[e0]
    refine fP (aw (a.toNat-2)) (λ(k:Nat)=>D.int (2+(k:Int))) (λ(k:Nat)=>D.bl (a%(2+(k:Int)) != 0)) (by rw[zy]) (λx y h=>by injection h with h;omega) (λk hk=>?_) (.inr λ_ _=>rfl) (by rw[bC,sL];omega) ?_
    ·nofun
     refine⟨by omega,?_⟩
     by_cases z:a%(2+(k:Int))=0<;>simp[z]
    ·refine⟨(aw (a.toNat-2)).map λ(k:Nat)=>a%(2+(k:Int)) != 0,?_,?_⟩
     ·unfold sM;rw[bO];rfl
     ·have e:(decide (2<=a)&&decide (a<=61)&&(aw (a.toNat-2)).all λi=>a%(2+(i:Int)) != 0)=((aw (a.toNat-2)).map λ(k:Nat)=>a%(2+(k:Int)) != 0).all id:=by
       simp[h1,h2,tN]
      rw[<-e];exact q
   ·rename_i h2
    have e:(decide (2<=a)&&decide (a<=61)&&(aw (a.toNat-2)).all λi=>a%(2+(i:Int)) != 0)=false:=by simp[h2]
    rw[e]at q;exact q
  ·rename_i h1
   have e:(decide (2<=a)&&decide (a<=61)&&(aw (a.toNat-2)).all λi=>a%(2+(i:Int)) != 0)=false:=by simp[h1]
   rw[e]at q;exact q
abbrev aE3:List D->List Str->List D->Prop:=λds ns xs=>∃p:Nat,ds=[.int p]/\p∈sP/\ns=jg "prime"/\xs=[.int p,.int p,.int ((bl p:Nat)-1),.lst true (ax (fl (false,p))),.lst true (ax (fh (fl (false,p)))),.int (fst (false,p))]
theorem ax6(T:Txt K mg t)(hB:Bm mg base):aO P w K mg base aS 8 t.Kt t.Ku ["self","prime"] (HF [t.jQ,t.jR] t.aU aE3):=by
 refine Qy T.Vi.F T.ax2 av2 (λvs H Q E h=>?_) λA outer s H vs Q E hr h=>?_
 ·obtain⟨x,dx,b8,ds,ns,xs,rfl,_,_,r,⟨p,rfl,_⟩,_⟩:=h
  have:=r.length
  simp at this
  simp[this]
 obtain⟨x,dx,b8,ds,ns,xs,rfl,tb,hx,r,⟨p,rfl,hp,rfl,rfl⟩,q⟩:=h
 obtain rfl:b8=[.int p]:=by
  cases r with
  | int r=>cases r;rfl
 have hm:(false,p)∈aA:=dv _ (Fd hp)
 have hF:=cT hm
 refine⟨_,fk (wQ (BV (BR (lK ((as1 T).mono (by decide)) hr rfl T.DY.g T.DY.F.kp T.DY.b .nil dH (cy (pv 1) ff)))) (oi wU) wO)
  (fk (iE (pv 0) (pv 1) rfl)
  (oi (tV (Qs (E:=E0) (i:=1) T.VL ((VS T).mono (by decide)) hr T.KP.b rfl T.Ej rfl rfl rfl rfl (cy (pv 0) (cy (pv 1) (cy (Qk rfl rfl T.ax3 hB) ff))))))),?_⟩
 try dsimp only[ib,ie]
 refine⟨_,rfl,H,[.int p],λd=>d=.bl true,ag.refl _,.int .nil,⟨p,rfl,by rw[ca5 p hp]⟩,λd v F' H1 A1 hd gF hf he h3 r nd fr=>?_⟩
 subst hd
 cases r
 refine⟨true,rfl,?_⟩
 refine lN ?_
 have du:=gF.get _ _ hx
 refine⟨.int p,rfl,.ref x,rfl,x,t.aU,dx,_,rfl,du,T.gE,T.vX,by decide,?_⟩
 generalize e2:upd H1 x (HO.ins t.aU dx (bE "prime" (.int p) []))=H2
 have eV:H2 x=some (.ins t.aU dx [(("prime":Str),.int p)]):=by rw[<-e2,bS];rfl
 have s2:bQ x H H2:=by rw[<-e2];exact(gF.x (x:=x)).trans (bQ.upd (C:=x) (dx:=dx) du rfl)
 have n2:∀p,H2 p=none->H p=none:=λp h=>gF.free (zZ du (by rw[e2];exact h))
 obtain⟨ps,hP⟩:=tb t.jQ (by simp)
 obtain⟨more,LC⟩:=s2.tb _ ps hP
 refine⟨.ref x,rfl,.int p,rfl,⟨_,LC⟩,λf k qn pm kM H3 nf AZ hk kf iT hl3=>?_⟩
 refine⟨f,_,_,.int p,AZ,rfl,rfl,λoc u j5 hu nc uk=>?_⟩
 obtain⟨tm,rfl⟩:∃tm,u=rM p tm:=hu
 have fq:=iT.get _ _ eV
 refine⟨x,dx,f,t.aU,"prime",p,p,_,oc,_,k,gm (false,p),fl (false,p),fst (false,p),rfl,z5 fq (λz=>by rw[z,nf]at eV;cases eV) nc,by decide,⟨T.gE,T.vW,T.Lh,T.AM,T.AL,T.Lg,T.AN⟩,QF uk nc hk kf,?_,hF,λH' p1 p2 sx dW LD yU ne AY vY=>?_⟩
 ·refine Qx (n:=3) ⟨rfl,rfl,rfl,by decide,rfl,rfl,by decide,by decide,rfl⟩ j5 (λu1 u2=>rfl) λq f A outer s H E hr=>?_
  refine⟨_,az fo (ae (az dQ (bv 0) (bv 1))) (bv 2),λi j Qd h=>?_⟩
  obtain⟨a,b,rfl,rfl,ha,hb,hq⟩:=h
  nofun
  have hp0:2<=p:=hF.lo
  refine⟨gi.ok (.inr ⟨by omega,by omega⟩),by omega,?_⟩
  have e:((gm (false,p) a b:Nat):Int)=(a:Int)*b%p:=by
   show((a*b%p:Nat):Int)=_
   rw[yv,rT]
  rw[<-e];exact hq
 ·have gf:H' f=some (.ext (lU _ oc _ f)):=sx.get f _ (λz=>by rw[z]at nf;rw[nf]at eV;cases eV) (by rw[bc uk.symm,bS]) rfl
  have gc:=sx.get _ _ (e7 fq nc).symm bS rfl
  refine⟨gf,gc,?_⟩
  refine q _ (CP p p p1 p2 (fst (false,p))) [p1,p2] (s2.trans (QE iT nf nc sx)) ?_ rfl ?_ (by simp[ne]) (λa ha=>?_)
  ·rw[jf (λz=>by rw[z,gf]at dW;cases dW) (λz=>by rw[z,gc]at dW;cases dW)];exact dW
  ·exact .int (.int (.int (.own (LD.rem gf gc) rfl (qo _) (.own (yU.rem gf gc) rfl (qo _) (.int .nil)))))
  ·simp at ha
   rcases ha with rfl | rfl
   ·exact n2 _ (CS iT AY)
   ·exact n2 _ (CS iT vY)
abbrev aC6:bg:=λds Q=>∃(l g:List Int),ds=[.lst false (ax l),.lst false (ax g)]/\1<=l.length/\l.length<=63/\g.length=l.length+1/\(∀x∈g,0<=x)/\Q (.lst true (uo l g))
theorem aC7(T:Txt K mg t):aO P w K mg base aS 1 t.Tq t.Tr ["powers","logs"] (bo (aC6 )):=by
 refine bz T.DZ.F DJ ?_ ?_
 ·intro ds Q h
  obtain⟨l,g,rfl,h1,h2,h3,h4,q⟩:=h<;>rfl
 ·intro aG A outer s H E hr
  refine⟨_,(aC (aP (i:=2) DJ.nd rfl (bB rfl) (az cm (ae (dE (hZ) (by rfl) T.gX gK (ah (bv 0) av))) (ae ao)))
   (aC (aP (i:=3) DJ.nd rfl (au rfl) (dm (cP (az dQ (ae (dm (cP ao cA))) (bv 2)) cA)))
   (aC (eU dy rfl (zA rfl T.dM (ah (ae ao) (ah (bv 2) av))) (fw (i:=4) DJ.nd rfl (bB rfl))
    (aH (ot (i:=3) rfl (by first | exact au rfl | exact bB (au rfl)) (az cm (ae (dm (cP ao cA))) (ae (dS [("powers",0),("many",2),("logs",1),("a",4)] ["b"] rfl (zA rfl T.dM (ah (ae ao) (ah (bv 2) av))) (λ_ _ _ _=>(fi (i:=4) (show(["powers","many","logs","a","b"]:List Str).Nodup by decide +kernel))) (λ_ _ _ _=>dX) (λ_ _ _ _=>(da (bt (bv 0) (ae (az fo (ae (az cm (bt (bv 2) (bv 3) (λ_ _=>rfl)) (bt (bv 2) (bv 4) (λ_ _=>rfl)))) (ae (az dq (bv 1) (ae ao))))) (λ_ _=>rfl)))) rfl))))))
   (aH (aZ (em 3)))))),λds Q h=>?_⟩
  obtain⟨l,g,rfl,h1,h2,h3,h4,q⟩:=h
  refine aB λU hU=>?_
  nofun
  refine hU _ ?_
  clear hU U
  refine aB λU hU=>?_
  nofun
  refine⟨by decide,⟨by omega,by omega,by omega⟩,by decide,hU _ ?_⟩
  clear hU U
  refine aB λU hU=>?_
  nofun
  refine⟨1,(l.length:Int)+1,⟨rfl,rfl⟩,⟨by decide,by decide,by omega,by omega⟩,?_⟩
  have en:((l.length:Int)+1-1).toNat=l.length:=by omega
  rw[en]
  refine iH.mk (λi δ=>∃o,δ=[some (.lst false (ax l)),some (.lst false (ax g)),some (.int ((l.length:Int)+1)),some (.lst true (xF l g (i+1))),o]) ⟨none,?_⟩ ?_ ?_
  ·rw[show((l.length:Int)+1).toNat=l.length+1 by omega];rfl
  ·rintro i d δ hd ⟨o,rfl⟩
   obtain⟨hi,rfl⟩:i<l.length/\d=.int (1+(i:Int)):=by
    rw[bN]at hd
    by_cases hi:i<l.length
    ·rw[gI hi]at hd
     exact⟨hi,(de hd).symm⟩
    ·rw[gx (by simpa using hi)]at hd;cases hd
   nofun
   refine⟨⟨_,rfl⟩,by decide,1,(l.length:Int)+1,⟨rfl,rfl⟩,⟨by decide,by decide,by omega,by omega⟩,?_⟩
   rw[en]
   refine fP (aw l.length) (λ(k:Nat)=>D.int (1+(k:Int))) (λ(k:Nat)=>D.int (l.getD ((g.getD (i+1) 0+g.getD (k+1) 0)%(l.length:Int)).toNat 0)) (by rw[zy]) (λx y h=>by injection h with h;omega) (λk hk=>?_) (.inr λ_ _=>rfl) (by rw[bC,sL];omega) ?_
   ·have Ri:=bw.mp hk
    nofun
    have e1:(1+(i:Int)).toNat=i+1:=by omega
    have e2:(1+(k:Int)).toNat=k+1:=by omega
    have e3:(l.length:Int)+1-1=l.length:=by omega
    have n0:=iV (g.getD (i+1) 0+g.getD (k+1) 0) (show(l.length:Int)≠0 by omega)
    have n1:=jr (g.getD (i+1) 0+g.getD (k+1) 0) (show(0:Int)<l.length by omega)
    refine⟨_,oU (by omega) (by omega),_,oU (by omega) (by omega),?_⟩
    rw[e1,e2,e3]
    exact⟨by omega,_,oU n0 n1,rfl,rfl⟩
   ·nofun
    refine⟨⟨by simp;omega,by rw[tN,bZ];intro x _;rfl⟩,by simp[xF];omega,_,?_,rfl⟩
    unfold xF
    rw[pS (n:=i+1),dw]
    congr 1
    show _=[D.lst true (ax (um l g (i+1)))]
    unfold um
    rw[if_neg (by omega)]
    unfold ax
    rw[bR,bO];rfl
  ·rintro δ ⟨o,rfl⟩
   refine hU _ ?_
   simp only[mh,kn,mi,mj,mm,dT,i6,jB,jC,dC,kg,jD,kj,ki,l9,mf,jI,mW,kF,mX,mY,lV,lX,lZ,l6,l7,l8,kh,mT,kB,kC,ii,kx,mF,ky,mG,mH,mI,mJ,mK,mM,iI,fA,mN,mO,mP,mQ,kz,jG,mR,mS,gN,mZ,mV,mn,mr,mw,mB,mC,mD,m3,m4,jE,gB,dP,gA,gq,iz,k9,pT,pU,km,i7,gO,kD,kE,jc,m9,nh,ib,nk,kK,ni,fO,ie,pz,pB,bR,gv,lj,jU,eK,nV,aW,jX,jY,dY,dZ,nY,exists_eq_left',exists_eq_left,D.bl.injEq,D.int.injEq,D.lst.injEq,D.fz.injEq,D.str.injEq,D.tup.injEq,pV,and_true,true_and,cH,lh,iA,iy,ou,oy,oA,oB,oE,oF,eR,hJ,h7,oK,oM,oN,oO,oQ,cE,iF,oG,oH,oI,oJ,eE,kb,pW,lC,kZ,iW,nX,lD,k7,oV,oW,oX,oY,oZ,pf,ph,h9,jJ,kG,fB,iK,oR,m8,m5,kH,oS,ia,m6,if_true,nZ,if_false,reduceIte,pj,decide_eq_true_eq,pq,fQ,je,kL,pG,nq,pE,mq,nu,nj,kN,kO,kP,nz,pH,kR,nB,nE,cY,jh,gu,pI,kT,nH,nI,nJ,nK,nM,nN,aR,bC]
   exact q
abbrev aC8(t:gj):bg:=λds Q=>∃a b:Nat,ds=[.int a,.int b]/\bl a<=1000000/\bl b<=1000000/\(b=0->False)/\(b≠0->∀q r:Nat,a=cl q b ^^^ r->bl r<bl b->Q (.tup [.int q,.int r]))
theorem VT(T:Txt K mg t):aO P w K mg base aS 1 t.Ts t.Tt ["a","b"] (bo (aC8 t)):=by
 refine bz T.AB.F xW ?_ ?_
 ·intro ds Q h
  obtain⟨a,b,rfl,ha,hb,qx,q⟩:=h<;>rfl
 ·intro aG A outer s H E hr
  refine⟨_,(aC (eH (cK (i9 (eI hr)) (bv 1) (ae ao) (cj _)) (aH zt) eG)
   (aC (aP (i:=2) xW.nd rfl (au rfl) ao)
   (aC (aP (i:=3) xW.nd rfl (au rfl) (em 0))
   (aC (xk dy (cK cR1 (ae (vA (bv 3))) (ae (vA (bv 1))) (cj _))
    (aC (aP (i:=4) xW.nd rfl (au rfl) (az dq (ae (vA (bv 3))) (ae (vA (bv 1)))))
    (aC (zw (i:=2) xW.nd rfl (au rfl) (ae (az zE (ae ao) (bv 4))) GZ)
    (aH (zw (i:=3) xW.nd rfl (au rfl) (ae (az zE (bv 1) (bv 4))) GZ)))))
   (aH (aZ (ud (cP (em 2) (cP (em 3) cA))))))))),λds Q h=>?_⟩
  obtain⟨a,b,rfl,ha,hb,qx,q⟩:=h
  refine aB λU hU=>?_
  nofun
  split
  ·rename_i h0
   exact qx (by omega)
  ·rename_i h0
   have b0:b≠0:=by omega
   refine hU _ ?_
   clear hU U
   refine aB λU hU=>?_
   nofun
   refine hU _ ?_
   clear hU U
   refine aB λU hU=>?_
   nofun
   refine hU _ ?_
   clear hU U
   refine aB λU hU=>?_
   nofun
   refine⟨λm δ=>∃(x r:Nat) (o sh:Option D),δ=[o,some (.int b),some (.int (x:Nat)),some (.int (r:Nat)),sh]/\a=cl x b ^^^ r/\bl r<=bl a/\m=bl r,
    ⟨bl a,0,a,_,none,rfl,by rw[t7,uR],bG _,rfl⟩,?_⟩
   rintro m δ ⟨x,r,o,sh,rfl,inv,hra,rfl⟩
   simp only[mh,kn,mi,mj,mm,dT,i6,jB,jC,dC,kg,jD,kj,ki,l9,mf,jI,mW,kF,mX,mY,lV,lX,lZ,l6,l7,l8,kh,mT,kB,kC,ii,kx,mF,ky,mG,mH,mI,mJ,mK,mM,iI,fA,mN,mO,mP,mQ,kz,jG,mR,mS,gN,mZ,mV,mn,mr,mw,mB,mC,mD,m3,m4,jE,gB,dP,gA,gq,iz,k9,pT,pU,km,i7,gO,kD,kE,jc,m9,nh,ib,nk,kK,ni,fO,ie,pz,pB,bR,gv,lj,jU,eK,nV,aW,jX,jY,dY,dZ,nY,exists_eq_left',exists_eq_left,D.bl.injEq,D.int.injEq,D.lst.injEq,D.fz.injEq,D.str.injEq,D.tup.injEq,pV,and_true,true_and,cH,lh,iA,iy,ou,oy,oA,oB,oE,oF,eR,hJ,h7,oK,oM,oN,oO,oQ,cE,iF,oG,oH,oI,oJ,eE,kb,pW,lC,kZ,iW,nX,lD,k7,oV,oW,oX,oY,oZ,pf,ph,h9,jJ,kG,fB,iK,oR,m8,m5,kH,oS,ia,m6,if_true,nZ,if_false,reduceIte,pj,decide_eq_true_eq,pq,fQ,je,kL,pG,nq,pE,mq,nu,nj,kN,kO,kP,nz,pH,kR,nB,nE,cY,jh,gu,pI,kT,nH,nI,nJ,nK,nM,nN,jZ]
   split
   ·rename_i hc
    have hle:bl b<=bl r:=by omega
    have less:=OU b0 hle
    have es:(((bl r:Nat):Int)-((bl b:Nat):Int))=((bl r-bl b:Nat):Int):=by omega
    clear hU
    refine aB λU hU=>?_
    nofun
    simp only[jZ,es]
    refine hU _ ?_
    clear hU
    refine aB λU hU=>?_
    nofun
    have o1:bl (1:Int).natAbs=1:=by decide
    refine⟨⟨by omega,by omega⟩,hU _ ?_⟩
    clear hU
    simp only[mh,kn,mi,mj,mm,dT,i6,jB,jC,dC,kg,jD,kj,ki,l9,mf,jI,mW,kF,mX,mY,lV,lX,lZ,l6,l7,l8,kh,mT,kB,kC,ii,kx,mF,ky,mG,mH,mI,mJ,mK,mM,iI,fA,mN,mO,mP,mQ,kz,jG,mR,mS,gN,mZ,mV,mn,mr,mw,mB,mC,mD,m3,m4,jE,gB,dP,gA,gq,iz,k9,pT,pU,km,i7,gO,kD,kE,jc,m9,nh,ib,nk,kK,ni,fO,ie,pz,pB,bR,gv,lj,jU,eK,nV,aW,jX,jY,dY,dZ,nY,exists_eq_left',exists_eq_left,D.bl.injEq,D.int.injEq,D.lst.injEq,D.fz.injEq,D.str.injEq,D.tup.injEq,pV,and_true,true_and,cH,lh,iA,iy,ou,oy,oA,oB,oE,oF,eR,hJ,h7,oK,oM,oN,oO,oQ,cE,iF,oG,oH,oI,oJ,eE,kb,pW,lC,kZ,iW,nX,lD,k7,oV,oW,oX,oY,oZ,pf,ph,h9,jJ,kG,fB,iK,oR,m8,m5,kH,oS,ia,m6,if_true,nZ,if_false,reduceIte,pj,decide_eq_true_eq,pq,fQ,je,kL,pG,nq,pE,mq,nu,nj,kN,kO,kP,nz,pH,kR,nB,nE,cY,jh,gu,pI,kT,nH,nI,nJ,nK,nM,nN,jZ]
    refine⟨⟨by omega,by rw[jZ];omega⟩,_,less,x ^^^ 2 ^ (bl r-bl b),r ^^^ b <<< (bl r-bl b),o,_,⟨rfl,?_,?_,rfl⟩,cd2 inv,by omega,rfl⟩
    ·rw[show(1:Int)=((1:Nat):Int) from rfl,w9,y7,Fu]
    ·rw[w9,y7]
   ·rename_i hc
    refine hU _ ?_
    nofun
    refine⟨by decide,q b0 x r inv (by omega)⟩
abbrev aC9:bg:=λds Q=>∃a:Nat,ds=[.int a]/\bl a<=60/\Q (.bl (al a))
theorem aD0(T:Txt K mg t):aO P w K mg base aS 2 t.Tu t.Tv ["a"] (bo (aC9 )):=by
 refine bz T.Vj.F Jy ?_ ?_
 ·intro ds Q h
  obtain⟨a,rfl,ha,q⟩:=h<;>rfl
 ·intro aG A outer s H E hr
  refine⟨_,(aC (eH (cK xp (bv 0) (ae ao) (cj _)) (aH (aZ qg)) eG)
   (aC (aP (i:=1) Jy.nd rfl (au rfl) (az sJ (ae (az dq (ae (vA (bv 0))) (ae ao))) (ae ao)))
   (aC (eU dy rfl (zA rfl T.dM (ah (ae ao) (ah (ae (az zE (ae ao) (ae (az cm (bv 1) (ae ao))))) av))) (fw (i:=2) Jy.nd rfl (au rfl))
    (aH (eH (cK (i9 (eI hr)) (bt (ae (bA T.AB (VT T) hr (ah (bv 0) (ah (bv 2) av)))) (ae ao) (λ_ _=>rfl)) (ae ao) (cj _)) (aH (aZ qg)) eG)))
   (aH (aZ qg))))),λds Q h=>?_⟩
  obtain⟨a,rfl,ha,q⟩:=h
  refine aB λU hU=>?_
  nofun
  split
  ·rename_i h2
   rw[cf9 (by omega)]at q;exact q
  ·rename_i h2
   have h2:2<=a:=by omega
   have hp:=qa (show a≠0 by omega)
   refine hU _ ?_
   clear hU U
   refine aB λU hU=>?_
   nofun
   simp only[jZ]
   refine⟨ue (by omega) (by omega),hU _ ?_⟩
   clear hU U
   have eh:((((bl a:Nat):Int)-1)/2+1)=(((bl a-1)/2+1:Nat):Int):=by omega
   have e1:(1:Int)*2 ^ ((((bl a:Nat):Int)-1)/2+1).toNat=((2 ^ ((bl a-1)/2+1):Nat):Int):=by
    rw[eh,show(1:Int)=((1:Nat):Int) from rfl,w9,Fu]
   have big:2 ^ ((bl a-1)/2+1)<=2 ^ 40:=jW (by decide) (by omega)
   have o1:bl (1:Int).natAbs=1:=by decide
   refine aB λU hU=>?_
   nofun
   rw[e1]
   have ef8:((2 ^ ((bl a-1)/2+1):Nat):Int)<=2 ^ 40:=by exact_mod_cast big
   have nn:(0:Int)<=((2 ^ ((bl a-1)/2+1):Nat):Int):=M0 _
   refine⟨⟨by omega,by omega⟩,_,_,⟨rfl,rfl⟩,⟨by decide,by decide,by omega,by omega⟩,?_⟩
   have en:(((2 ^ ((bl a-1)/2+1):Nat):Int)-2).toNat=2 ^ ((bl a-1)/2+1)-2:=by omega
   rw[en]
   refine iH.mk (λi δ=>(∃o1 o2,δ=[some (.int a),o1,o2])/\∀j,j<i->md a (2+j)≠0) ⟨⟨_,_,rfl⟩,λj hj=>absurd hj (by omega)⟩ ?_ ?_
   ·rintro i d δ hd ⟨⟨o1,o2,rfl⟩,inv⟩
    obtain⟨hi,rfl⟩:i<2 ^ ((bl a-1)/2+1)-2/\d=.int (2+(i:Int)):=by
     rw[bN]at hd
     by_cases hi:i<2 ^ ((bl a-1)/2+1)-2
     ·rw[gI hi]at hd
      exact⟨hi,(de hd).symm⟩
     ·rw[gx (by simpa using hi)]at hd;cases hd
    have bi:bl (2+i)<=60:=by
     have:=(b90 h2 (show 2+i<2 ^ ((bl a-1)/2+1) by omega)).2
     omega
    nofun
    refine⟨a,2+i,by rw[show((2+i:Nat):Int)=2+(i:Int) by omega],by omega,by omega,by omega,λ_ x r e l=>?_⟩
    have em:md a (2+i)=r:=y9 e l
    refine⟨.int r,rfl,rfl,?_⟩
    rw[ia]
    split
    ·rename_i hz
     have r0:r=0:=by have:=of_decide_eq_true hz;omega
     rw[b89 hi (em.trans r0)]at q
     exact q
    ·rename_i hz
     refine⟨⟨_,_,rfl,rfl⟩,λj hj=>?_⟩
     by_cases ej:j=i
     ·rw[ej,em]
      intro r0
      exact hz (decide_eq_true (by omega))
     ·exact inv j (by omega)
   ·rintro δ ⟨⟨o1,o2,rfl⟩,inv⟩
    rw[aR,bC]at inv
    rw[ct6 h2 inv]at q
    refine hU _ ?_
    nofun
    exact q
abbrev ax7:bg:=λds Q=>∃a:Int,ds=[.int a]/\Q (.bl (decide (4<=a)&&decide (a<=127)&&al a.toNat))
theorem ax8(T:Txt K mg t):aO P w K mg base aS 3 t.Tw t.Tx ["bits"] (bo (ax7 )):=by
 refine bz T.D0.F av3 ?_ ?_
 ·intro ds Q h
  obtain⟨a,rfl,q⟩:=h<;>rfl
 ·intro aG A outer s H E hr
  refine⟨_,(aH (aZ (rj (ae (xu jF jF (ae ao) (bv 0) (ae ao))) (u5 (bA T.Vj (aD0 T) hr (ah (bv 0) av)))))),λds Q h=>?_⟩
  obtain⟨a,rfl,q⟩:=h
  nofun
  split
  ·rename_i h1
   split
   ·rename_i h2
    refine⟨a.toNat,by rw[wC (by omega)],?_,?_⟩
    ·have:bl a.toNat<=bl 127:=Gr (by omega)
     exact cQ this (by decide)
    ·have e:(decide (4<=a)&&decide (a<=127)&&al a.toNat)=al a.toNat:=by simp[h1,h2]
     rw[e]at q;exact q
   ·rename_i h2
    have e:(decide (4<=a)&&decide (a<=127)&&al a.toNat)=false:=by simp[h2]
    rw[e]at q;exact q
  ·rename_i h1
   have e:(decide (4<=a)&&decide (a<=127)&&al a.toNat)=false:=by simp[h1]
   rw[e]at q;exact q
abbrev aG4:bg:=λds Q=>∃a b:Nat,ds=[.int a,.int b]/\bl a<=1000/\bl b<=1000/\Q (.int (cl a b:Nat))
theorem aG5(T:Txt K mg t):aO P w K mg base aS 1 t.Tz t.TB ["a","b"] (bo (aG4 )):=by
 refine bz T.D1.F DK ?_ ?_
 ·intro ds Q h
  obtain⟨a,b,rfl,ha,hb,q⟩:=h<;>rfl
 ·intro aG A outer s H E hr
  refine⟨_,(aC (aP (i:=2) DK.nd rfl (au rfl) ao)
   (aC (eU dy rfl (fm rfl T.dM (ah (ae (vA (bv 1))) av)) (fw (i:=3) DK.nd rfl (au rfl))
    (aH (eH (cK (i9 (eI hr)) (ae (az cI6 (ae (az cM0 (bv 1) (bv 3))) (ae ao))) (ae ao) (cj _)) (aH (zw (i:=2) DK.nd rfl (au rfl) (ae (az zE (bv 0) (bv 3))) GZ)) eG)))
   (aH (aZ (em 2))))),λds Q h=>?_⟩
  obtain⟨a,b,rfl,ha,hb,q⟩:=h
  refine aB λU hU=>?_
  nofun
  refine hU _ ?_
  clear hU U
  refine aB λU hU=>?_
  nofun
  simp only[jZ]
  refine⟨⟨by omega,by omega⟩,kI (λi δ=>∃o,δ=[some (.int a),some (.int b),some (.int (Mf.P a b i:Nat)),o]) ⟨none,rfl⟩ ?_ ?_⟩
  ·rintro i δ hi ⟨o,rfl⟩
   nofun
   refine⟨by omega,?_⟩
   have VU:(uL ((b:Int)/2 ^ ((i:Int)).toNat) 1=1)↔b.testBit i=true:=by
    have h:=ct9 b i
    rw[tO]at h
    rw[<-h,dI]
   split
   ·rename_i hc
    have h:=cc4 (a:=a) (VU.mp hc)
    rw[tO]at h
    exact⟨⟨by omega,by rw[jZ];omega⟩,_,h,rfl⟩
   ·rename_i hc
    exact⟨_,by rw[bP1 (λz=>hc (VU.mpr z))],rfl⟩
  ·rintro δ ⟨o,rfl⟩
   refine hU _ ?_
   nofun
   exact q
abbrev aJ3:List D->List Str->List D->Prop:=λds ns xs=>∃p:Nat,ds=[.int p]/\p∈iO/\ns=jg "bits"++[("products":Str)]/\xs=[.int p,.int (aa (true,p)),.int ((bl (aa (true,p)):Nat)-1),.lst true (ax (fl (true,p))),.lst true (ax (fh (fl (true,p)))),.int (fst (true,p)),.lst true (uo (fl (true,p)) (fh (fl (true,p))))]
theorem aB7(T:Txt K mg t)(hB:Bm mg base):aO P w K mg base aS 8 t.Kv t.Kw ["self","bits"] (HF [t.jQ,t.jR] t.aQ aJ3):=by
 refine Qy T.Vk.F T.aB5 SO (λvs H Q E h=>?_) λA outer s H vs Q E hr h=>?_
 ·obtain⟨x,dx,b8,ds,ns,xs,rfl,_,_,r,⟨p,rfl,_⟩,_⟩:=h
  have:=r.length
  simp at this
  simp[this]
 obtain⟨x,dx,b8,ds,ns,xs,rfl,tb,hx,r,⟨p,rfl,hp,rfl,rfl⟩,q⟩:=h
 obtain rfl:b8=[.int p]:=by
  cases r with
  | int r=>cases r;rfl
 have hm:(true,p)∈aA:=fI _ (Fd hp)
 have hF:=cT hm
 refine⟨_,fk (wQ (BV (BR (lK ((ax8 T).mono (by decide)) hr rfl T.D0.g T.D0.F.kp T.D0.b .nil dH (cy (pv 1) ff)))) (oi wU) wO)
  (fk (iE (pv 0) (pv 1) rfl)
  (fk (FE (i:=2) SO.nd rfl (au rfl) (yM O3 wN (yM FP (Gv (pv 1)) wN)))
  (fk (tV (Qs (E:=E0) (i:=1) T.VL ((VS T).mono (by decide)) hr T.KP.b rfl T.Ej rfl rfl rfl rfl (cy (pv 0) (cy (pv 2) (cy (Qk rfl rfl T.aB6 hB) ff)))))
  (oi (iE (pv 0) (lK ((aC7 T).mono (by decide)) hr rfl T.DZ.g T.DZ.F.kp T.DZ.b .nil dH (cy (ve (pv 0) rfl) (cy (ve (pv 0) rfl) ff))) rfl))))),?_⟩
 try dsimp only[ib,ie]
 refine⟨_,rfl,H,[.int p],λd=>d=.bl true,ag.refl _,.int .nil,⟨p,rfl,by rw[co3 p hp]⟩,λd v F' H1 A1 hd gF hf he h3 r nd fr=>?_⟩
 subst hd
 cases r
 refine⟨true,rfl,?_⟩
 refine lN ?_
 have du:=gF.get _ _ hx
 refine⟨.int p,rfl,.ref x,rfl,x,t.aQ,dx,_,rfl,du,T.fY,T.K7,by decide,?_⟩
 generalize e2:upd H1 x (HO.ins t.aQ dx (bE "bits" (.int p) []))=H2
 have eV:H2 x=some (.ins t.aQ dx [(("bits":Str),.int p)]):=by rw[<-e2,bS];rfl
 have s2:bQ x H H2:=by rw[<-e2];exact(gF.x (x:=x)).trans (bQ.upd (C:=x) (dx:=dx) du rfl)
 have n2:∀p,H2 p=none->H p=none:=λp h=>gF.free (zZ du (by rw[e2];exact h))
 obtain⟨ps,hP⟩:=tb t.jR (by simp)
 obtain⟨more,LC⟩:=s2.tb _ ps hP
 have bp:bl p<=7:=cb5 p hp
 have VV:1<=bl p:=bW1 p hp
 refine⟨.int p,rfl,rfl,p,rfl,rfl,_,_,rfl,rfl,_,_,rfl,rfl,?_,?_⟩
 ·have o1:bl (1:Int).natAbs=1:=by decide
  rw[jZ]
  exact⟨by omega,by omega⟩
 have em:(1:Int)*2 ^ (((bl ((p:Int)).natAbs:Nat):Int)-1).toNat=((aa (true,p):Nat):Int):=by
  rw[jZ,show(((bl p:Nat):Int)-1)=((bl p-1:Nat):Int) by omega,show(1:Int)=((1:Nat):Int) from rfl,w9,Fu];rfl
 show BY 2 (.int ((1:Int)*2 ^ (((bl ((p:Int)).natAbs:Nat):Int)-1).toNat)) _ _ _
 rw[em]
 refine⟨.ref x,rfl,.int (aa (true,p)),rfl,⟨_,LC⟩,λf k qn pm kM H3 nf AZ hk kf iT hl3=>?_⟩
 refine⟨f,_,_,.int p,AZ,rfl,rfl,λoc u j5 hu nc uk=>?_⟩
 obtain⟨tm,rfl⟩:∃tm,u=rM p tm:=hu
 have fq:=iT.get _ _ eV
 refine⟨x,dx,f,t.aQ,"bits",p,aa (true,p),_,oc,_,k,gm (true,p),fl (true,p),fst (true,p),rfl,z5 fq (λz=>by rw[z,nf]at eV;cases eV) nc,by decide,⟨T.fY,T.vV,T.K9,T.yc,T.yb,T.K8,T.AG⟩,QF uk nc hk kf,?_,hF,λH' p1 p2 sx dW LD yU ne AY vY=>?_⟩
 ·refine Qx (n:=3) ⟨rfl,rfl,rfl,by decide,rfl,rfl,by decide,by decide,rfl⟩ j5 (λu1 u2=>rfl) λq f A outer s H E hr=>?_
  refine⟨_,da (bt (ae (xj ((VT T).mono (by decide)) hr rfl T.AB.g T.AB.F.kp T.AB.b dH (ah (ae (xj ((aG5 T).mono (by decide)) hr rfl T.D1.g T.D1.F.kp T.D1.b dH (ah (bv 0) (ah (bv 1) av)))) (ah (bv 2) av)))) (ae ao) (λ_ _=>rfl)),λi j Qd h=>?_⟩
  obtain⟨a,b,rfl,rfl,ha,hb,hq⟩:=h
  nofun
  have b1:bl a<=6:=by
   have:bl a<=bl 63:=Gr (by omega)
   exact cQ this (by decide)
  have b2:bl b<=6:=by
   have:bl b<=bl 63:=Gr (by omega)
   exact cQ this (by decide)
  have p0:p≠0:=by
   intro z
   rw[z]at VV
   exact absurd VV (by decide)
  refine⟨a,b,rfl,by omega,by omega,cl a b,p,rfl,cQ (b98 a b) (by omega),by omega,λz=>p0 z,λ_ x r e l=>⟨by simp[D.pl],.int r,rfl,rfl,r,rfl,?_⟩⟩
  have er:gm (true,p) a b=r:=y9 e l
  rw[<-er];exact hq
 ·have gf:H' f=some (.ext (lU _ oc _ f)):=sx.get f _ (λz=>by rw[z]at nf;rw[nf]at eV;cases eV) (by rw[bc uk.symm,bS]) rfl
  have gc:=sx.get _ _ (e7 fq nc).symm bS rfl
  refine⟨gf,gc,?_⟩
  have s4:=s2.trans (QE iT nf nc sx)
  have f1:=n2 _ (CS iT AY)
  have f2:=n2 _ (CS iT vY)
  have l1:=LD.rem gf gc
  have l2:=yU.rem gf gc
  have kW:rem H' f (s.heap.objs.size+1) x=some (.ins t.aQ dx ((jg "bits").zip (CP p (aa (true,p)) p1 p2 (fst (true,p))))):=by
   rw[jf (λz=>by rw[z,gf]at dW;cases dW) (λz=>by rw[z,gc]at dW;cases dW)];exact dW
  generalize rem H' f (s.heap.objs.size+1)=H4 at s4 l1 l2 kW
  refine⟨.ref x,rfl,x,t.aQ,dx,_,.ref p1,rfl,kW,T.fY,T.yc,rfl,.ref x,rfl,x,t.aQ,dx,_,.ref p2,rfl,kW,T.fY,T.yb,rfl,H4,[.lst false (ax (fl (true,p))),.lst false (ax (fh (fl (true,p))))],λd=>d=.lst true (uo (fl (true,p)) (fh (fl (true,p)))),ag.refl _,.shr l1 (qo _) (.shr l2 (qo _) .nil),
   ⟨_,_,rfl,by have:=hF.len;have:=hF.lo;omega,by have:=hF.len;have:=hF.hi;omega,zY _ _,QI _ _,rfl⟩,λd v F' H5 A' hd pO hf he h3 r nd fr=>?_⟩
  subst hd
  obtain⟨p3,rfl⟩:∃p3,v=.ref p3:=by cases r;exact⟨_,rfl⟩
  have jS:=pO.get _ _ kW
  have nA:∀{a ws},H4 a=some (.lst ws)->a ∉ A':=λ{a ws} e z=>by rw[fr a z]at e;cases e
  refine⟨.ref x,rfl,x,t.aQ,dx,_,rfl,jS,T.fY,T.yd,iU (bG 6) (by decide),?_⟩
  refine q _ (CP p (aa (true,p)) p1 p2 (fst (true,p))++[.ref p3]) (p1::p2::A') ((s4.trans (pO.x (x:=x))).trans (bQ.upd (C:=x) (dx:=dx) jS rfl)) (by rw[bS];rfl) rfl ?_ ?_ ?_
  ·exact .int (.int (.int (.own ((l1.same pO).upd jS (λws z=>by cases z)) rfl (qo _) (.own ((l2.same pO).upd jS (λws z=>by cases z)) rfl (qo _) (.int ((r.xg (by simp[eE,QH]) (ag.of λb o e=>by cases e)).vI jS (by simp[eE,QH])))))))
  ·exact nS.mpr ⟨by simp[ne];exact nA l1,nS.mpr ⟨nA l2,nd⟩⟩
  ·intro a ha
   rcases cN.mp ha with rfl | ha
   ·exact f1
   ·rcases cN.mp ha with rfl | ha
    ·exact f2
    ·exact s4.free (by rw[kW];simp) (fr a ha)
abbrev aG6(cb cp:Addr):bg:=λds Q=>∃m:Bool × Nat,ds=[gR m]/\m∈aA/\Q (fD cb cp m)
theorem aG7(T:Txt K mg t)(hB:Bm mg base):aO P w K mg base aS 10 t.TC t.TF ["_law_told_here"] (vF [t.jQ,t.jR] (bo (aG6 t.aQ t.aU))):=by
 refine CM T.D2.F aF7 ?_ ?_
 ·intro ds Q h
  obtain⟨m,rfl,hm,q⟩:=h<;>rfl
 ·intro aG A outer s H E hT hr
  refine⟨_,(aC (eH (ub (bt (bv 0) (ae ao) (λ_ _=>rfl))) (aH (aZ (QB hT T.K6 ((aB7 T hB).mono (by decide)) hr rfl T.Lr T.Vk.b dH (ah (bt (bv 0) (ae ao) (λ_ _=>rfl)) av)))) eG)
   (aH (aZ (QB hT T.Lf ((ax6 T hB).mono (by decide)) hr rfl T.Lu T.Vi.b dH (ah (bt (bv 0) (ae ao) (λ_ _=>rfl)) av))))),λds Q h=>?_⟩
  obtain⟨m,rfl,hm,q⟩:=h
  unfold gR at *
  refine aB λU hU=>?_
  nofun
  obtain⟨b,n⟩:=m
  cases b with
  | true =>
   refine⟨_,rfl,true,rfl,?_⟩
   rw[if_pos rfl]
   refine⟨_,rfl,_,_,⟨n,rfl,CV hm,rfl,rfl⟩,?_⟩
   rw[cC8];exact q
  | false =>
   refine⟨_,rfl,false,rfl,?_⟩
   rw[if_neg (by decide)]
   refine hU _ ?_
   nofun
   refine⟨_,rfl,_,_,⟨n,rfl,bF7 hm,rfl,rfl⟩,?_⟩
   rw[b86];exact q
theorem VW:∀(L:List Nat) (z:Nat) (h:z<L.length),(L[z]::L.eraseIdx z).Perm L
 | a::L,0,_=>List.Perm.refl _
 | a::L,z+1,h=>(List.Perm.swap ..).trans ((VW L z (Nat.lt_of_succ_lt_succ h)).cons a)
theorem b81{n z:Nat}{O L:List Nat}(h:(O++L).Perm (aw n))(hz:z<L.length):((O++[L[z]])++L.eraseIdx z).Perm (aw n):=by
 rw[eM]
 exact(List.Perm.append_left O (VW L z hz)).trans h
abbrev aG8:bg:=λds Q=>∃(c:Int) (n:Nat),ds=[.int c,.int n]/\n<=64/\∀O:List Nat,O.Perm (aw n)->Q (.lst true (ay O))
theorem aG9(T:Txt K mg t):aO P w K mg base aS 1 t.TH t.TJ ["_law_cell_here","_law_count"] (bo (aG8 )):=by
 refine bz T.Vl.F Aw ?_ ?_
 ·intro ds Q h
  obtain⟨c,n,rfl,hn,q⟩:=h<;>rfl
 ·intro aG A outer s H E hr
  refine⟨_,(aC (aP (i:=2) Aw.nd rfl (au rfl) (bI1 rfl (by rfl) T.AS (by rfl) T.dM (bv 1)))
   (aC (aP (i:=3) Aw.nd rfl (au rfl) (dm cA))
   (aC (eU dy rfl (fm rfl T.dM (ah (bv 1) av)) (fw (i:=4) Aw.nd rfl (au rfl))
    (aC (cd9 (i:=3) (j:=2) rfl (by first | exact au rfl | exact bB (au rfl)) rfl (by first | exact au rfl | exact bB (au rfl)) (az fo (bv 0) (ae (dE (hZ) (by rfl) T.gX gK (ah (bv 2) av)))))
    (aH (aP (i:=0) Aw.nd rfl (au rfl) (az sJ (bv 0) (ae (az dq (bv 1) (bv 4))))))))
   (aH (aZ (em 3)))))),λds Q h=>?_⟩
  obtain⟨c,n,rfl,hn,q⟩:=h
  refine aB λU hU=>?_
  nofun
  refine⟨n,rfl,by omega,hU _ ?_⟩
  clear hU U
  refine aB λU hU=>?_
  nofun
  refine⟨by decide,hU _ ?_⟩
  clear hU U
  refine aB λU hU=>?_
  nofun
  refine⟨⟨by omega,by omega⟩,kI (λi δ=>∃(c:Int) (O L:List Nat) (o:Option D),(O++L).Perm (aw n)/\O.length=i/\δ=[some (D.int c),some (D.int n),some (D.lst true (ay L)),some (D.lst true (ay O)),o]) ⟨c,[],aw n,_,List.Perm.refl _,rfl,rfl⟩ ?_ ?_⟩
  ·rintro i δ hi ⟨c,O,L,o,hp,hO,rfl⟩
   have lL:L.length=n-i:=by have:=hp.length_eq;rw[df,bC]at this;omega
   simp only[gN,dZ,dY]
   clear hU
   refine aB λU hU=>?_
   nofun
   obtain⟨z,ez,hz⟩:∃z:Nat,c%(L.length:Int)=z/\z<L.length:=by
    have n0:=iV c (show(L.length:Int)≠0 by omega)
    have n1:=jr c (show 0<(L.length:Int) by omega)
    exact⟨(c%(L.length:Int)).toNat,by omega,by omega⟩
   refine⟨by decide,⟨_,rfl⟩,⟨_,rfl⟩,by omega,L.map λ(n:Nat)=>(n:Int),_,z,(L[z]:Nat),ez,by omega,rfl,by rw[bN,aJ hz];rfl,rfl,by rw[fQ];omega,hU _ ?_⟩
   clear hU
   nofun
   exact⟨ue (by omega) (by omega),_,O++[L[z]],L.eraseIdx z,_,b81 hp hz,by rw[df,hO];rfl,rfl,by rw[Iy];rfl,by rw[dF,dF,dw];rfl,rfl⟩
  ·rintro δ ⟨c,O,L,o,hp,hO,rfl⟩
   refine hU _ ?_
   nofun
   have lL:L=[]:=Fo.mp (by have:=hp.length_eq;rw[df,bC]at this;omega)
   subst lL
   rw[fJ]at hp
   exact q O hp
abbrev aE4:bg:=λds Q=>∃(z:Int) (b n:Nat),ds=[.int z,.int b,.int n]/\0<b/\b<=100/\n<=64/\∀c:List Nat,c.length=n->AllLt b c->Q (.lst true (ay c))
theorem aE5(T:Txt K mg t):aO P w K mg base aS 1 t.TK t.TL ["_law_cell_here","_law_base","_law_count"] (bo (aE4 )):=by
 refine bz T.Vm.F DL ?_ ?_
 ·intro ds Q h
  obtain⟨z,b,n,rfl,HC,hb,hn,q⟩:=h<;>rfl
 ·intro aG A outer s H E hr
  refine⟨_,(aC (aP (i:=3) DL.nd rfl (au rfl) (dm cA))
   (aC (eU dy rfl (fm rfl T.dM (ah (bv 2) av)) (fw (i:=4) DL.nd rfl (au rfl))
    (aC (ot (i:=3) rfl (by first | exact au rfl | exact bB (au rfl)) (az fo (bv 0) (bv 1)))
    (aH (aP (i:=0) DL.nd rfl (au rfl) (az sJ (bv 0) (bv 1))))))
   (aH (aZ (em 3))))),λds Q h=>?_⟩
  obtain⟨z,b,n,rfl,HC,hb,hn,q⟩:=h
  refine aB λU hU=>?_
  nofun
  refine⟨by decide,hU _ ?_⟩
  clear hU U
  refine aB λU hU=>?_
  nofun
  refine⟨⟨by omega,by omega⟩,kI (λi δ=>∃(z:Int) (c:List Nat) (o1:Option D),(c.length=i/\AllLt b c)/\δ=[some (D.int z),some (D.int b),some (D.int n),some (D.lst true (ay c)),o1]) ⟨z,[],_,⟨rfl,λa ha=>by cases ha⟩,rfl⟩ ?_ ?_⟩
  ·rintro i δ hi ⟨z,c,o1,⟨h1,h2⟩,rfl⟩
   simp only[gN,dZ,dY]
   clear hU
   have n0:=iV z (show(b:Int)≠0 by omega)
   have n1:=jr z (show(0:Int)<(b:Int) by omega)
   refine aB λU hU=>?_
   nofun
   refine⟨⟨_,rfl⟩,by omega,by omega,hU _ ?_⟩
   clear hU
   nofun
   refine⟨ue (by omega) (by omega),_,c++[(z%(b:Int)).toNat],_,⟨by rw[df,h1];rfl,λa ha=>?_⟩,rfl,?_,rfl⟩
   ·rcases bV.mp ha with h | h
    ·exact h2 a h
    ·rw[dh.mp h];omega
   ·rw[<-nq];show _=ay c++[D.int (((z%(b:Int)).toNat:Nat):Int)];rw[wC n0]
  ·rintro δ ⟨z,c,o1,⟨h1,h2⟩,rfl⟩
   refine hU _ ?_
   nofun
   exact q c h1 h2
def A6(c k:Int):Int:=(c%999983+7*k+1)*(k*k+48271)%1000003
abbrev aH0:bg:=λds Q=>∃(c k:Int),ds=[.int c,.int k]/\0<=k/\k<=100000/\Q (.int (A6 c k))
theorem aH1(T:Txt K mg t):aO P w K mg base aS 1 t.TM t.at2 ["_law_cell_here","_law_k"] (bo (aH0 )):=by
 refine bz T.Vn.F aF8 ?_ ?_
 ·intro ds Q h
  obtain⟨c,k,rfl,k0,k1,q⟩:=h<;>rfl
 ·intro aG A outer s H E hr
  refine⟨_,(aH (aZ (az fo (ae (az dQ (ae (az cm (ae (az cm (ae (az fo (bv 0) (ae ao))) (ae (az dQ (ae ao) (bv 1))))) (ae ao))) (ae (az cm (ae (az dQ (bv 1) (bv 1))) (ae ao))))) (ae ao)))),λds Q h=>?_⟩
  obtain⟨c,k,rfl,k0,k1,q⟩:=h
  nofun
  have c0:=iV c (show(999983:Int)≠0 by decide)
  have c1:=jr c (show(0:Int)<999983 by decide)
  exact⟨by decide,gi.ok (.inl ⟨by decide,by decide⟩),gi.ok (.inl ⟨by omega,by omega⟩),gi.ok (.inl ⟨by omega,by omega⟩),by decide,q⟩
abbrev aJ4:bg:=λds Q=>∃(ns:List Int) (M r w:Nat),ds=[.fz (ax ns),.int M,.int r,.int w]/\1<=M/\M<=64/\r<=8/\w<=8/\∀B:List (List Nat),B.length=r->RT M w B->Q (.lst true (aE true B))
theorem aJ5(T:Txt K mg t):aO P w K mg base aS 2 t.TN t.TQ ["_law_script","_law_many_here","_law_rows","_law_wide"] (bo (aJ4 )):=by
 refine bz T.Vo.F DM ?_ ?_
 ·intro ds Q h
  obtain⟨ns,M,r,w,rfl,hM1,hM,VX,VY,q⟩:=h<;>rfl
 ·intro aG A outer s H E hr
  refine⟨_,(aC (eH (cK (i9 (eI hr)) (ae (az fo (ae (bA T.pM (qK T) hr (ah (bv 0) (ah (ae ao) av)))) (ae ao))) (ae ao) (cj _)) (aC (aP (i:=4) DM.nd rfl (bB rfl) (bA T.Vm (aE5 T) hr (ah (ae (bA T.pM (qK T) hr (ah (bv 0) (ah (ae ao) av)))) (ah (bv 1) (ah (ae (az dQ (bv 2) (bv 3))) av)))))
    (aH (aZ (dS [("_law_digits_here",4),("_law_wide",3)] ["_law_i"] rfl (fm rfl T.dM (ah (bv 2) av)) (λ_ _ _ _=>(fi (i:=2) (show(["_law_digits_here","_law_wide","_law_i"]:List Str).Nodup by decide +kernel))) (λ_ _ _ _=>dX) (λ_ _ _ _=>(xx (bv 0) (ql (ae (az dQ (bv 2) (bv 1)))) (ql (ae (az dQ (ae (az cm (bv 2) (ae ao))) (bv 1)))))) rfl)))) eG)
   (aC (aP (i:=5) DM.nd rfl (au rfl) (dm cA))
   (aC (eU dy rfl (fm rfl T.dM (ah (bv 2) av)) (fw (i:=6) DM.nd rfl (bB rfl))
    (aH (ot (i:=5) rfl (by first | exact au rfl | exact bB (au rfl)) (dS [("_law_many_here",1),("_law_script",0),("_law_i",6)] ["_law_at"] rfl (zA rfl T.dM (ah (bv 2) (ah (ae (az cm (bv 2) (bv 3))) av))) (λ_ _ _ _=>(fi (i:=3) (show(["_law_many_here","_law_script","_law_i","_law_at"]:List Str).Nodup by decide +kernel))) (λ_ _ _ _=>dX) (λ_ _ _ _=>(az fo (ae (az sJ (ae (bA T.Vn (aH1 T) hr (ah (ae (bA T.pM (qK T) hr (ah (bv 1) (ah (ae ao) av)))) (ah (ae (az cm (ae (az dQ (ae ao) (bv 2))) (bv 3))) av)))) (ae ao))) (bv 0))) rfl))))
   (aH (aZ (em 5)))))),λds Q h=>?_⟩
  obtain⟨ns,M,r,w,rfl,hM1,hM,VX,VY,q⟩:=h
  refine aB λU hU=>?_
  nofun
  refine⟨ns,6,rfl,by decide,?_⟩
  dsimp only
  refine⟨by decide,?_⟩
  split
  ·clear hU
   refine aB λV hV=>?_
   nofun
   refine⟨ns,4,rfl,by decide,gi.ok (.inl ⟨by omega,by omega⟩),_,M,r*w,by rw[rT];rfl,by omega,by omega,by have:=NI VX VY;omega,λc lc ac=>?_⟩
   refine⟨rfl,hV _ ?_⟩
   clear hV V
   nofun
   refine⟨⟨by omega,by omega⟩,fP (aw r) (λ(k:Nat)=>D.int (k:Int)) (λ(i:Nat)=>D.lst true (ay ((c.drop (i*w)).take w))) (xM _ rfl) pF (λi hi=>?_) (.inr λ_ _=>jK _) (by rw[bC,sL];omega) ?_⟩
   ·have hi:=bw.mp hi
    nofun
    refine⟨gi.ok (.inl ⟨by omega,by omega⟩),gi.ok (.inl ⟨by omega,by omega⟩),?_⟩
    rw[show(i:Int)*(w:Int)=((i*w:Nat):Int) from(rT ..).symm,show((i:Int)+1)*(w:Int)=(((i+1)*w:Nat):Int) from(rT ..).symm,PR,wD,qM,Nat.add_sub_cancel_left]
   ·have:=q ((aw r).map λi=>(c.drop (i*w)).take w) (by rw[aR,bC]) λx hx=>by
     obtain⟨i,hi,rfl⟩:=aT.mp hx
     have hi:=bw.mp hi
     refine⟨?_,λa ha=>ac a (rS (wA ha))⟩
     have:(i+1)*w<=r*w:=Ym _ hi
     rw[wD,qM]at this
     rw[jm,jT,lc]
     omega
    unfold aE at this
    rw[bO]at this
    exact this
  ·refine hU _ ?_
   clear hU U
   refine aB λU hU=>?_
   nofun
   refine⟨by decide,hU _ ?_⟩
   clear hU U
   refine aB λU hU=>?_
   nofun
   refine⟨⟨by omega,by omega⟩,kI (λi δ=>∃(B:List (List Nat)) (o6:Option D),(B.length=i/\RT M w B)/\δ=[some (D.fz (ax ns)),some (D.int M),some (D.int r),some (D.int w),none,some (D.lst true (aE true B)),o6]) ⟨[],_,⟨rfl,λr hr=>by cases hr⟩,rfl⟩ ?_ ?_⟩
   ·rintro i δ hi ⟨B,o6,⟨lB,rB⟩,rfl⟩
    simp only[gN,dZ,dY]
    clear hU
    nofun
    refine⟨⟨_,rfl⟩,_,_,⟨rfl,rfl⟩,⟨by omega,by omega,by omega,by omega⟩,?_⟩
    rw[show((r:Int)+(w:Int)-(r:Int)).toNat=w by omega]
    generalize hc:ns.getD (qN 4) 0=c
    refine fP (aw w) (λ(k:Nat)=>D.int ((r:Int)+(k:Int))) (λ(q:Nat)=>D.int (((A6 c (16*(i:Int)+((r:Int)+(q:Int)))/5%(M:Int)).toNat:Nat):Int)) (by rw[bO];rfl) (λa b h=>by injection h;omega) (λk hk=>?_) (.inr λ_ _=>rfl) (by rw[bC,sL];omega) ?_
    ·have hk:=bw.mp hk
     nofun
     refine⟨ns,4,rfl,by decide,gi.ok (.inl ⟨by omega,by omega⟩),_,_,rfl,by omega,by omega,?_⟩
     dsimp only
     rw[hc]
     refine⟨rfl,ue (by decide) (by decide),by omega,?_⟩
     rw[wC (iV _ (by omega))]
    refine⟨_,rfl,by rw[gu];omega,B++[(aw w).map λ(q:Nat)=>(A6 c (16*(i:Int)+((r:Int)+(q:Int)))/5%(M:Int)).toNat],some (D.int i),⟨by rw[df,lB];rfl,λx hx=>?_⟩,?_⟩
    ·rcases bV.mp hx with z | z
     ·exact rB x z
     ·rw[dh.mp z]
      refine⟨by rw[aR,bC],λa ha=>?_⟩
      obtain⟨q,_,rfl⟩:=aT.mp ha
      have n0:=iV (A6 c (16*(i:Int)+((r:Int)+(q:Int)))/5) (show(M:Int)≠0 by omega)
      have n1:=jr (A6 c (16*(i:Int)+((r:Int)+(q:Int)))/5) (show 0<(M:Int) by omega)
      show qN _<_
      omega
    ·rw[<-vK]
     show _=[_,_,_,_,_,some (D.lst true (aE true B++[D.lst true (ay _)])),_]
     rw[dF,bO]
     rfl
   ·rintro δ ⟨B,o6,⟨lB,rB⟩,rfl⟩
    refine hU _ ?_
    nofun
    exact q B lB rB
abbrev aK6:bg:=λds Q=>∃T:List (List Nat),ds=[.lst false (aE false T)]/\T.length<=1000/\(∀r∈T,r.length<=1000)/\Q (.int (af T:Nat))
theorem Eo(T:Txt K mg t):aO P w K mg base aS 1 t.TR t.TU ["table"] (bo (aK6 )):=by
 refine bz T.vU.F aK5 ?_ ?_
 ·intro ds Q h
  obtain⟨G,rfl,hG,hr,q⟩:=h<;>rfl
 ·intro aG A outer s H E hr
  refine⟨_,(aH (aZ (cO3 (cK (qj (eI hr)) (bv 0) (ae (dm cA)) (cj _)) (dE (hZ) (by rfl) T.gX gK (ah (bt (bv 0) (ae ao) (λ_ _=>rfl)) av)) ao))),λds Q h=>?_⟩
  obtain⟨G,rfl,hG,hr,q⟩:=h
  nofun
  refine⟨by decide,⟨Q5 4 _ _ _,rfl⟩,?_⟩
  rw[show(D.lst true ([]:List D))=D.lst true (aE true []) from rfl,cl3]
  cases G with
  | nil=>rw[if_neg (by simp)];exact q
  | cons r G =>
   rw[if_pos (by simp)]
   refine⟨.lst false (ay r),Ac false (T:=r::G) (i:=0) (yy _),?_⟩
   show Q (D.int ((ay r).length:Nat))
   rw[fQ];exact q
abbrev aH2:bg:=λds Q=>∃(T:List (List Nat)) (j:Nat),ds=[.lst false (aE false T),.int j]/\T.length<=1000/\(∀r∈T,j<r.length)/\Q (match nC T j with | some i=>.int (i:Nat) | none=>.aq)
theorem aH3(T:Txt K mg t):aO P w K mg base aS 1 t.TV t.TX ["rows","place"] (bo (aH2 )):=by
 refine bz T.Vp.F SQ ?_ ?_
 ·intro ds Q h
  obtain⟨G,j,rfl,hG,hr,q⟩:=h<;>rfl
 ·intro aG A outer s H E hr
  refine⟨_,(aC (eU dy rfl (xw rfl T.yg (ah (bv 0) av)) (vD (i1:=2) (i2:=3) rfl SQ.nd rfl (au rfl) rfl (au rfl))
    (aH (eH (cK (qj (eI hr)) (bt (bv 3) (bv 1) (λ_ _=>rfl)) (ae ao) (cj _)) (aH (aZ (em 2))) eG)))
   (aH (aZ GQ))),λds Q h=>?_⟩
  obtain⟨G,j,rfl,hG,hr,q⟩:=h
  refine aB λU hU=>?_
  nofun
  refine iH.mk (λi δ=>∃o1 o2,δ=[some (D.lst false (aE false G)),some (D.int j),o1,o2]/\∀k,k<i->(G.getD k []).getD j 0=0) ⟨_,_,rfl,λk hk=>absurd hk (Nat.not_lt_zero k)⟩ ?_ ?_
  ·rintro i d δ hd ⟨o1,o2,rfl,hz⟩
   obtain⟨hi,rfl⟩:=HY hd
   have hj:=hr _ (eN hi)
   have eg:G.getD i []=G[i]:=by rw[aF,aJ hi];rfl
   nofun
   refine⟨.int (G[i].getD j 0:Nat),by rw[qu (by omega) (by omega),ft],rfl,?_⟩
   rw[ia]
   by_cases h0:G[i].getD j 0=0
   ·rw[if_neg (by rw[h0];decide)]
    refine⟨_,_,⟨rfl,rfl⟩,λk hk=>?_⟩
    by_cases e:k=i
    ·rw[e,eg];exact h0
    ·exact hz k (by omega)
   ·rw[if_pos (by rw[decide_eq_false (by omega)];rfl)]
    have ef:nC G j=some i:=by
     unfold nC
     rw[Yb]
     refine⟨hi,by simpa using h0,λk hk=>?_⟩
     have:=hz k hk
     rw[aF (l:=G),aJ (by omega)]at this
     simpa using this
    rw[ef]at q
    exact q
  ·rintro δ ⟨o1,o2,rfl,hz⟩
   refine hU _ ?_
   nofun
   have ef:nC G j=none:=by
    unfold nC
    rw[Yc]
    intro r bF
    obtain⟨i,hi,rfl⟩:=jn bF
    have:=hz i (by rw[vC,gu];exact hi)
    rw[aF (l:=G),aJ hi]at this
    simpa using this
   rw[ef]at q
   exact q
abbrev VZ(K:Frag):bg:=λds Q=>∃(C:Addr) (p a:Nat) (xs:List Nat),ds=[z7 C p,.int a,.lst false (ay xs)]/\di K C/\bu K C "products"/\p∈iO/\a<aa (true,p)/\(∀y∈xs,y<aa (true,p))/\xs.length<=1000/\Q (.lst true (ay (xs.map (gm (true,p) a))))
theorem ax9(T:Txt K mg t):aO P w K mg base aS 1 t.Kx t.TY ["self","a","row"] (bo (VZ K)):=by
 refine bz T.Vq.F SR ?_ ?_
 ·intro ds Q h
  obtain⟨C,p,a,xs,rfl,hC,hn,hp,ha,hy,hl,q⟩:=h<;>rfl
 ·intro aG A outer s H E hr
  refine⟨_,(aC (aP (i:=3) SR.nd rfl (bB rfl) (da (bt (eW (K:=K) (bv 0)) (bv 1) (λ_ _=>rfl))))
   (aH (aZ (dS [("by_a",3)] ["x"] rfl (kr (bv 2)) (λ_ _ _ _=>(fi (i:=1) (show(["by_a","x"]:List Str).Nodup by decide +kernel))) (λ_ _ _ _=>dX) (λ_ _ _ _=>(da (bt (bv 0) (bv 1) (λ_ _=>rfl)))) rfl)))),λds Q h=>?_⟩
  obtain⟨C,p,a,xs,rfl,hC,hn,hp,ha,hy,hl,q⟩:=h
  refine aB λU hU=>?_
  nofun
  refine⟨C,_,_,_,rfl,hC,hn,rfl,_,HL hp ha,?_⟩
  refine⟨by rw[eR,jJ];rfl,hU _ ?_⟩
  clear hU U
  nofun
  refine fP xs (λ(i:Nat)=>D.int (i:Int)) (λx=>D.int ((gm (true,p) a x:Nat):Int)) (vE xs) pF (λx hx=>?_) (.inr λ_ _=>rfl) (by rw[sL];omega) ?_
  ·nofun
   exact⟨_,HK hp ha (hy x hx),rfl,rfl⟩
  ·rw[dF,bO]at q
   exact q
abbrev V0(K:Frag):bg:=λds Q=>∃(C:Addr) (p a:Nat) (xs:List Nat),ds=[xI C p,.int a,.lst false (ay xs)]/\di K C/\bu K C "prime"/\0<p/\a<64/\(∀y∈xs,y<64)/\xs.length<=1000/\Q (.lst true (ay (xs.map (gm (false,p) a))))
theorem as2(T:Txt K mg t):aO P w K mg base aS 1 t.Ky t.TZ ["self","a","row"] (bo (V0 K)):=by
 refine bz T.Vr.F SS ?_ ?_
 ·intro ds Q h
  obtain⟨C,p,a,xs,rfl,hC,hn,hp,ha,hy,hl,q⟩:=h<;>rfl
 ·intro aG A outer s H E hr
  refine⟨_,(aC (aP (i:=3) SS.nd rfl (bB rfl) (da (eW (K:=K) (bv 0))))
   (aH (aZ (dS [("prime",3),("a",1)] ["x"] rfl (kr (bv 2)) (λ_ _ _ _=>(fi (i:=2) (show(["prime","a","x"]:List Str).Nodup by decide +kernel))) (λ_ _ _ _=>dX) (λ_ _ _ _=>(az fo (ae (az dQ (bv 1) (bv 2))) (bv 0))) rfl)))),λds Q h=>?_⟩
  obtain⟨C,p,a,xs,rfl,hC,hn,hp,ha,hy,hl,q⟩:=h
  refine aB λU hU=>?_
  nofun
  refine⟨C,_,_,.int p,rfl,hC,hn,rfl,rfl,hU _ ?_⟩
  clear hU U
  nofun
  refine fP xs (λ(i:Nat)=>D.int (i:Int)) (λx=>D.int ((gm (false,p) a x:Nat):Int)) (vE xs) pF (λx hx=>?_) (.inr λ_ _=>rfl) (by rw[sL];omega) ?_
  ·have h2:=hy x hx
   nofun
   refine⟨gi.ok (.inr ⟨by omega,by omega⟩),by omega,?_⟩
   show _=((a*x%p:Nat):Int)
   rw[yv,rT]
  ·rw[dF,bO]at q
   exact q
theorem cb0(T:Txt K mg t){m:Bool × Nat}(hm:m∈aA):∃C ns zs sp,fD t.aQ t.aU m=.obj C ns zs/\nv P w K mg base 1 "scaled" C sp/\("scaled":Str) ∉ ns/\∀(xs:List Nat) (a:Nat) (Q:D->Prop),a<aa m->(∀y∈xs,y<aa m)->xs.length<=1000->Q (.lst true (ay (xs.map (gm m a))))->sp [.obj C ns zs,.int a,.lst false (ay xs)] Q:=by
 have hF:=cT hm
 obtain⟨k,n⟩:=m
 cases k with
 | true=>exact⟨_,_,_,VZ K,rfl,⟨T.fY,_,_,_,T.ax4,ax9 T,T.Vq.b⟩,by decide,λxs a Q ha hy hl q=>⟨_,n,a,xs,rfl,T.fY,T.yd,CV hm,ha,hy,hl,q⟩⟩
 | false =>
  have yh:n<=64:=hF.hi
  have l2:2<=n:=hF.lo
  exact⟨_,_,_,V0 K,rfl,⟨T.gE,_,_,_,T.ar8,as2 T,T.Vr.b⟩,by decide,λxs a Q ha hy hl q=>⟨_,n,a,xs,rfl,T.gE,T.vX,by omega,dd (show a<n from ha) yh,λy h=>dd (show y<n from hy y h) yh,hl,q⟩⟩
abbrev V1(K:Frag):bg:=λds Q=>∃(C:Addr) (p a:Nat) (xs ys:List Nat),ds=[z7 C p,.lst false (ay xs),.int a,.lst false (ay ys)]/\di K C/\bu K C "products"/\p∈iO/\a<aa (true,p)/\(∀y∈ys,y<aa (true,p))/\xs.length<=1000/\Q (.lst true (ay (eO (λx y=>bq (true,p) x (gm (true,p) a y)) xs ys)))
theorem as3(T:Txt K mg t):aO P w K mg base aS 1 t.Kz t.T1 ["self","row","a","other"] (bo (V1 K)):=by
 refine bz T.Vs.F SU ?_ ?_
 ·intro ds Q h
  obtain⟨C,p,a,xs,ys,rfl,hC,hn,hp,ha,hy,hl,q⟩:=h<;>rfl
 ·intro aG A outer s H E hr
  refine⟨_,(aC (aP (i:=4) SU.nd rfl (bB rfl) (da (bt (eW (K:=K) (bv 0)) (bv 2) (λ_ _=>rfl))))
   (aH (aZ (dS [("by_a",4)] ["x","y"] rfl (Hm rfl T.Lq (ah (bv 1) (ah (bv 3) av))) (λ_ _ _ _=>(Dt (i1:=1) (i2:=2) (show(["by_a","x","y"]:List Str).Nodup by decide +kernel))) (λ_ _ _ _=>dX) (λ_ _ _ _=>(az Pr (bv 1) (bt (bv 0) (bv 2) (λ_ _=>rfl)))) rfl)))),λds Q h=>?_⟩
  obtain⟨C,p,a,xs,ys,rfl,hC,hn,hp,ha,hy,hl,q⟩:=h
  refine aB λU hU=>?_
  nofun
  refine⟨C,_,_,_,rfl,hC,hn,rfl,_,HL hp ha,?_⟩
  refine⟨by rw[eR,jJ];rfl,hU _ ?_⟩
  clear hU U
  nofun
  refine⟨_,_,rfl,rfl,Q0 (λx y=>bq (true,p) x (gm (true,p) a y)) (λx hx y LF=>?_) (by omega) q⟩
  nofun
  refine⟨_,HK hp ha (hy y LF),?_⟩
  show tI (x:Int) ((gm (true,p) a y:Nat):Int)=_
  rw[y7];rfl
abbrev V2(K:Frag):bg:=λds Q=>∃(C:Addr) (p a:Nat) (xs ys:List Nat),ds=[xI C p,.lst false (ay xs),.int a,.lst false (ay ys)]/\di K C/\bu K C "prime"/\0<p/\a<64/\(∀y∈ys,y<64)/\xs.length<=1000/\Q (.lst true (ay (eO (λx y=>bq (false,p) x (gm (false,p) a y)) xs ys)))
theorem aq2(T:Txt K mg t):aO P w K mg base aS 1 t.KA t.T2 ["self","row","a","other"] (bo (V2 K)):=by
 refine bz T.Vt.F SV ?_ ?_
 ·intro ds Q h
  obtain⟨C,p,a,xs,ys,rfl,hC,hn,hp,ha,hy,hl,q⟩:=h<;>rfl
 ·intro aG A outer s H E hr
  refine⟨_,(aC (aP (i:=4) SV.nd rfl (bB rfl) (da (eW (K:=K) (bv 0))))
   (aH (aZ (dS [("prime",4),("a",2)] ["x","y"] rfl (Hm rfl T.Lq (ah (bv 1) (ah (bv 3) av))) (λ_ _ _ _=>(Dt (i1:=2) (i2:=3) (show(["prime","a","x","y"]:List Str).Nodup by decide +kernel))) (λ_ _ _ _=>dX) (λ_ _ _ _=>(az fo (ae (az dq (bv 2) (ae (az dQ (bv 1) (bv 3))))) (bv 0))) rfl)))),λds Q h=>?_⟩
  obtain⟨C,p,a,xs,ys,rfl,hC,hn,hp,ha,hy,hl,q⟩:=h
  refine aB λU hU=>?_
  nofun
  refine⟨C,_,_,.int p,rfl,hC,hn,rfl,rfl,hU _ ?_⟩
  clear hU U
  nofun
  refine⟨_,_,rfl,rfl,Q0 (λx y=>bq (false,p) x (gm (false,p) a y)) (λx hx y LF=>?_) (by omega) q⟩
  have h2:=hy y LF
  nofun
  refine⟨gi.ok (.inr ⟨by omega,by omega⟩),by omega,?_⟩
  have e:((x:Int)-((a*y%p:Nat):Int))%(p:Int)=((x:Int)-(a:Int)*y)%p:=by
   rw[yv,rT,Int.sub_emod,Int.emod_emod,<- Int.sub_emod]
  show _=(((((x:Int)-((a*y%p:Nat):Int))%(p:Int)).toNat:Nat):Int)
  rw[e,wC (iV _ (by omega))]
theorem LG(T:Txt K mg t){m:Bool × Nat}(hm:m∈aA):∃C ns zs sp,fD t.aQ t.aU m=.obj C ns zs/\nv P w K mg base 1 "lessened" C sp/\("lessened":Str) ∉ ns/\∀(xs ys:List Nat) (a:Nat) (Q:D->Prop),a<aa m->(∀y∈ys,y<aa m)->xs.length<=1000->Q (.lst true (ay (eO (λx y=>bq m x (gm m a y)) xs ys)))->sp [.obj C ns zs,.lst false (ay xs),.int a,.lst false (ay ys)] Q:=by
 have hF:=cT hm
 obtain⟨k,n⟩:=m
 cases k with
 | true=>exact⟨_,_,_,V1 K,rfl,⟨T.fY,_,_,_,T.ar7,as3 T,T.Vs.b⟩,by decide,λxs ys a Q ha hy hl q=>⟨_,n,a,xs,ys,rfl,T.fY,T.yd,CV hm,ha,hy,hl,q⟩⟩
 | false =>
  have yh:n<=64:=hF.hi
  have l2:2<=n:=hF.lo
  exact⟨_,_,_,V2 K,rfl,⟨T.gE,_,_,_,T.aq1,aq2 T,T.Vt.b⟩,by decide,λxs ys a Q ha hy hl q=>⟨_,n,a,xs,ys,rfl,T.gE,T.vX,by omega,dd (show a<n from ha) yh,λy h=>dd (show y<n from hy y h) yh,hl,q⟩⟩
abbrev aL5(cb cp:Addr):bg:=λds Q=>∃(m:Bool × Nat) (T:List (List Nat)) (l:List Nat) (j:Nat),ds=[fD cb cp m,.lst false (aE false T),.lst false (ay l),.int j]/\m∈aA/\T.length<=1000/\AllLt (aa m) l/\(∀r∈T,j<r.length/\r.length<=1000/\AllLt (aa m) r)/\Q (.lst true (aE true (T.map λr=>eO (λx y=>bq m x (gm m (r.getD j 0) y)) r l)))
theorem V3(T:Txt K mg t):aO P w K mg base aS 2 t.T3 t.T4 ["field","rows","lead_row","place"] (bo (aL5 t.aQ t.aU)):=by
 refine bz T.KQ.F aL2 ?_ ?_
 ·intro ds Q h
  obtain⟨m,G,l,j,rfl,hm,hG,hl,hr,q⟩:=h<;>rfl
 ·intro aG A outer s H E hr
  refine⟨_,(aH (aZ (dS [("lead_row",2),("field",0),("place",3)] ["row"] rfl (kr (bv 1)) (λ_ _ _ _=>(fi (i:=3) (show(["lead_row","field","place","row"]:List Str).Nodup by decide +kernel))) (λ_ _ _ _=>dX) (λ_ _ _ _=>(qq (P:=P) (w:=w) (K:=K) (mg:=mg) (base:=base) (n:=1) (bv 1) (hr.mono (by decide)) (ah (bv 3) (ah (bt (bv 3) (bv 2) (λ_ _=>rfl)) (ah (bv 0) av))))) rfl))),λds Q h=>?_⟩
  obtain⟨m,G,l,j,rfl,hm,hG,hl,hr,q⟩:=h
  nofun
  refine fP G (λr=>D.lst false (ay r)) (λr=>D.lst true (ay (eO (λx y=>bq m x (gm m (r.getD j 0) y)) r l))) (by rw[cY];rfl) (λa b h=>ur a b h) (λr bF=>?_) (.inr λr _=>jK _) (by rw[sL];omega) ?_
  ·obtain⟨h1,h2,h3⟩:=hr r bF
   obtain⟨C,ns,zs,sp,e1,e2,e3,e4⟩:=LG (P:=P) (w:=w) (base:=base) T hm
   nofun
   refine⟨C,ns,zs,sp,e1,e2,e3,.int (r.getD j 0:Nat),by rw[qu (by omega) (by omega),ft],e4 _ _ _ _ (h3.getD (by have:=(cT hm).lo;omega) j) hl h2 ⟨rfl,rfl⟩⟩
  ·rw[aE,bO]at q
   exact q
abbrev V4(t:gj)(P:Program)(w:World)(K:Frag)(mg:Str->Option Value)(base:Heap):bg:=λds Q=>∃(m:Bool × Nat) (a b:Nat),ds=[fD t.aQ t.aU m,.int a,.int b]/\m∈aA/\a<aa m/\b<aa m/\(b=0->False)/\(b≠0->∀r:Nat,r<aa m->gm m r b=a->Q (.int (r:Nat)))
theorem V5(T:Txt K mg t):aO P w K mg base aS 2 t.DR t.T5 ["self","a","b"] (bo (V4 t P w K mg base)):=by
 refine bz T.KR.F aF9 ?_ ?_
 ·intro ds Q h
  obtain⟨m,a,b,rfl,hm,ha,hb,qx,q⟩:=h<;>rfl
 ·intro aG A outer s H E hr
  refine⟨_,(aC (eH (cK (i9 (eI hr)) (bv 2) (ae ao) (cj _)) (aH zt) eG)
   (aC (eH (cK (i9 (eI hr)) (bv 1) (ae ao) (cj _)) (aH (aZ ao)) eG)
   (aH (aZ (qq (P:=P) (w:=w) (K:=K) (mg:=mg) (base:=base) (n:=1) (bv 0) (hr.mono (by decide)) (ah (ae (az dq (bt (eW (K:=K) (bv 0)) (bv 1) (λ_ _=>rfl)) (bt (eW (K:=K) (bv 0)) (bv 2) (λ_ _=>rfl)))) av)))))),λds Q h=>?_⟩
  obtain⟨m,a,b,rfl,hm,ha,hb,qx,q⟩:=h
  refine aB λU hU=>?_
  nofun
  split
  ·rename_i h0
   exact qx (by omega)
  ·rename_i h0
   have b0:b≠0:=by omega
   refine hU _ ?_
   clear hU U
   refine aB λU hU=>?_
   nofun
   split
   ·rename_i h1
    have a0:a=0:=by omega
    subst a0
    exact q b0 0 ha (fC m b (cq m hm))
   ·rename_i h1
    have a0:a≠0:=by omega
    refine hU _ ?_
    clear hU U
    have hF:=cT hm
    obtain⟨r,e,De,hr2⟩:=QS hm (show 1<=a by omega) ha (show 1<=b by omega) hb
    have qr:=q b0 r De hr2
    obtain⟨k,n⟩:=m
    cases k with
    | true =>
     nofun
     have ll:(fh (fl (true,n))).length=aa (true,n):=(zY _ _).trans hF.len
     have n0:=iV (lg (true,n) a-lg (true,n) b) (show(aa (true,n):Int)-1≠0 by have:=hF.lo;omega)
     have n1:=jr (lg (true,n) a-lg (true,n) b) (show(0:Int)<(aa (true,n):Int)-1 by have:=hF.lo;omega)
     refine⟨_,_,_,AW K,rfl,⟨T.fY,_,_,_,T.AG,AX T,T.ya.b⟩,by decide,_,_,_,_,rfl,T.fY,T.yb,rfl,_,oU (by omega) (by rw[ll];omega),_,_,_,_,rfl,T.fY,T.yb,rfl,_,oU (by omega) (by rw[ll];omega),?_⟩
     refine⟨_,_,_,_,aa (true,n),fl (true,n),r,rfl,T.fY,T.yc,T.vV,rfl,rfl,hF.lo,?_,qr⟩
     have hk:((lg (true,n) a-lg (true,n) b)%((aa (true,n):Int)-1)).toNat<(fl (true,n)).length:=by have:=hF.len;omega
     show(fl (true,n))[((lg (true,n) a-lg (true,n) b)%((aa (true,n):Int)-1)).toNat]?=some (r:Int)
     rw[<-e]
     unfold pw
     rw[aF,aJ hk];rfl
    | false =>
     nofun
     have ll:(fh (fl (false,n))).length=aa (false,n):=(zY _ _).trans hF.len
     have n0:=iV (lg (false,n) a-lg (false,n) b) (show(aa (false,n):Int)-1≠0 by have:=hF.lo;omega)
     have n1:=jr (lg (false,n) a-lg (false,n) b) (show(0:Int)<(aa (false,n):Int)-1 by have:=hF.lo;omega)
     refine⟨_,_,_,AW K,rfl,⟨T.gE,_,_,_,T.AN,AX T,T.ya.b⟩,by decide,_,_,_,_,rfl,T.gE,T.AL,rfl,_,oU (by omega) (by rw[ll];omega),_,_,_,_,rfl,T.gE,T.AL,rfl,_,oU (by omega) (by rw[ll];omega),?_⟩
     refine⟨_,_,_,_,aa (false,n),fl (false,n),r,rfl,T.gE,T.AM,T.vW,rfl,rfl,hF.lo,?_,qr⟩
     have hk:((lg (false,n) a-lg (false,n) b)%((aa (false,n):Int)-1)).toNat<(fl (false,n)).length:=by have:=hF.len;omega
     show(fl (false,n))[((lg (false,n) a-lg (false,n) b)%((aa (false,n):Int)-1)).toNat]?=some (r:Int)
     rw[<-e]
     unfold pw
     rw[aF,aJ hk];rfl
theorem V6(T:Txt K mg t)(m:Bool × Nat):nv P w K mg base 2 "over" (if m.1 then t.aQ else t.aU) (V4 t P w K mg base):=by
 obtain⟨k,n⟩:=m
 cases k with
 | true=>exact⟨T.fY,_,_,_,T.Lb,V5 T,T.KR.b⟩
 | false=>exact⟨T.gE,_,_,_,T.Lj,V5 T,T.KR.b⟩
abbrev aL6(t:gj)(P:Program)(w:World)(K:Frag)(mg:Str->Option Value)(base:Heap):bg:=λds Q=>∃(m:Bool × Nat) (G:List (List Nat)),ds=[fD t.aQ t.aU m,.lst false (aE false G)]/\m∈aA/\G.length<=900/\RT (aa m) (af G) G/\af G<=900/\Q (.lst true (aE true (bL m G)))
theorem V7(T:Txt K mg t):aO P w K mg base aS 3 t.T6 t.T7 ["field","table"] (bo (aL6 t P w K mg base)):=by
 refine bz T.AD.F uG ?_ ?_
 ·intro ds Q h
  obtain⟨m,G,rfl,hm,hG,hR,hw,q⟩:=h<;>rfl
 ·intro aG A outer s H E hr
  refine⟨_,(aC (aP (i:=2) uG.nd rfl (au rfl) (dm cA))
   (aC (aP (i:=3) uG.nd rfl (au rfl) (da (bv 1)))
   (aC (eU dy rfl (fm rfl T.dM (ah (ae (bA T.vU (Eo T) hr (ah (bv 1) av))) av)) (fw (i:=4) uG.nd rfl (au rfl))
    (zu 3 (aC (aP (i:=5) uG.nd rfl (au rfl) (bA T.Vp (aH3 T) hr (ah (bv 3) (ah (bv 4) av))))
    (aH (eH (cK cy0 (bv 5) (ae GQ) (cj _)) (aC (aP (i:=6) uG.nd rfl (au rfl) (qq (P:=P) (w:=w) (K:=K) (mg:=mg) (base:=base) (n:=1) (bv 0) (hr.mono (by decide)) (ah (ae (qq (P:=P) (w:=w) (K:=K) (mg:=mg) (base:=base) (n:=2) (bv 0) (hr.mono (by decide)) (ah (ae ao) (ah (bt (bt (bv 3) (bv 5) (λ_ _=>rfl)) (bv 4) (λ_ _=>rfl)) av)))) (ah (bt (bv 3) (bv 5) (λ_ _=>rfl)) av))))
     (aC (aP (i:=3) uG.nd rfl (au rfl) (bA T.KQ (V3 T) hr (ah (bv 0) (ah (ae (az cm (ae (xx (bv 3) vz (ql (bv 5)))) (ae (xx (bv 3) (ql (ae (az cm (bv 5) (ae ao)))) vz)))) (ah (bv 6) (ah (bv 4) av))))))
     (aH (aP (i:=2) uG.nd rfl (au rfl) (cC7 (bA T.KQ (V3 T) hr (ah (bv 0) (ah (bv 2) (ah (bv 6) (ah (bv 4) av))))) (dm (cP (em 6) cA))))))) eG)))))
   (aH (aZ (em 2)))))),λds Q h=>?_⟩
  obtain⟨m,G,rfl,hm,hG,hR,hw,q⟩:=h
  have fv:=(cT hm).lo
  refine aB λU hU=>?_
  nofun
  refine⟨by decide,hU _ ?_⟩
  clear hU U
  refine aB λU hU=>?_
  nofun
  refine hU _ ?_
  clear hU U
  refine aB λU hU=>?_
  nofun
  refine⟨G,rfl,by omega,λr bF=>?_,?_⟩
  ·rw[(hR r bF).1];omega
  refine⟨_,rfl,⟨by omega,by omega⟩,?_⟩
  refine kI (λk δ=>∃(o:Bool) (o1 o2 o3:Option D),δ=[some (fD t.aQ t.aU m),some (D.lst false (aE false G)),some (D.lst true (aE true (nD m G k).1)),some (D.lst o (aE o (nD m G k).2)),o1,o2,o3]) ⟨false,none,none,none,rfl⟩ ?_ ?_
  ·rintro k δ hk ⟨o,o1,o2,o3,rfl⟩
   have I:=C5 hm hR k
   rw[HZ]
   generalize nD m G k=s at I ⊢
   simp only[gN,km,dZ,dY,jY,jX,nY,exists_eq_left',cE,cY]
   clear hU
   have il:=I.l
   refine aB λU hU=>?_
   nofun
   refine⟨s.2,k,rfl,by omega,λr bF=>by rw[(I.b r bF).1];omega,?_⟩
   cases e:nC s.2 k with
   | none =>
    rw[show ji m s k=s by unfold ji;rw[e]]at hU
    refine hU _ ?_
    nofun
    exact⟨false,_,_,_,⟨rfl,rfl⟩,rfl,rfl,rfl⟩
   | some i =>
    obtain⟨hi,h1,h2⟩:=C2 e
    have er:ji m s k=(ij m s.1 (eJ m s.2 i k) k++[eJ m s.2 i k],ij m (s.2.take i++s.2.drop (i+1)) (eJ m s.2 i k) k):=by unfold ji;rw[e]
    rw[er]at hU
    refine hU _ ?_
    clear hU
    nofun
    obtain⟨C,ns,xs,sp,e1,e2,e3,e4⟩:=cb0 (P:=P) (w:=w) (base:=base) T hm
    refine aB λU hU=>?_
    nofun
    obtain⟨lw,lr⟩:=I.b _ (eN hi)
    have bk:=lr.getD (show 0<aa m by omega) k
    refine⟨C,ns,xs,sp,e1,e2,e3,_,_,_,_,xJ _ _ m,V6 T m,QU m _ (by decide),.lst false (ay s.2[i]),Ac false hi,?_⟩
    dsimp only
    refine⟨.int (s.2[i].getD k 0:Nat),by rw[qu (by omega) (by omega),ft],m,1,s.2[i].getD k 0,by rw[xJ];rfl,hm,fv,bk,λz=>absurd z h1,λ_ f hf hfo=>⟨rfl,.lst false (ay s.2[i]),Ac false hi,?_⟩⟩
    have ef:rC m (s.2[i].getD k 0)=f:=CZ hm hf hfo
    rw[CW]
    refine e4 _ _ _ hf lr (by omega) ⟨by rw[jK,iW],hU _ ?_⟩
    have el:s.2[i].map (gm m f)=eJ m s.2 i k:=by unfold eJ;rw[h2,ef]
    rw[el]
    have ll:(eJ m s.2 i k).length=af G:=by rw[<-el,aR];exact lw
    have la:AllLt (aa m) (eJ m s.2 i k):=λx hx=>by
     rw[<-el]at hx
     obtain⟨y,_,rfl⟩:=aT.mp hx
     exact bX hm _ _
    generalize eJ m s.2 i k=ld at ll la ⊢
    clear hU
    refine aB λU hU=>?_
    nofun
    have LH:∀r∈s.2.take i++s.2.drop (i+1),r.length=af G/\AllLt (aa m) r:=λr bF=>by
     rcases bV.mp bF with h | h
     ·exact I.b r (wA h)
     ·exact I.b r (rS h)
    have V8:∀X:List (List Nat),(D.lst true (aE true X)).fr=true:=λX=>by rw[eE,vJ];rfl
    rw[P6,show((i:Int)+1)=((i+1:Nat):Int) by omega,Hs,vK,cY]
    refine⟨by rw[jm,jT];omega,m,_,ld,k,rfl,hm,by rw[df,jm,jT];omega,la,λr bF=>⟨by rw[(LH r bF).1];exact hk,by rw[(LH r bF).1];omega,(LH r bF).2⟩,V8 _,hU _ ?_⟩
    clear hU
    nofun
    refine⟨m,s.1,ld,k,rfl,hm,by omega,la,λr bF=>⟨by rw[(I.a r bF).1];exact hk,by rw[(I.a r bF).1];omega,(I.a r bF).2⟩,V8 _,by decide,_,_,rfl,rfl,?_,true,_,_,_,vK true _ [ld],⟨rfl,rfl⟩,rfl,rfl,rfl⟩
    rw[gu,aR]
    show s.1.length+1<=_
    omega
  ·rintro δ ⟨o,o1,o2,o3,rfl⟩
   refine hU _ ?_
   nofun
   exact q
abbrev aL9:bg:=λds Q=>∃T:List (List Nat),ds=[.lst false (aE false T)]/\T.length<=1000/\Q (.lst true (aE true T))
theorem V9(T:Txt K mg t):aO P w K mg base aS 1 t.T8 t.T9 ["table"] (bo (aL9 )):=by
 refine bz T.AE.F aL7 ?_ ?_
 ·intro ds Q h
  obtain⟨G,rfl,hG,q⟩:=h<;>rfl
 ·intro aG A outer s H E hr
  refine⟨_,(aH (aZ (dS [] ["row"] rfl (kr (bv 0)) (λ_ _ _ _=>(fi (i:=0) (show(["row"]:List Str).Nodup by decide +kernel))) (λ_ _ _ _=>dX) (λ_ _ _ _=>(Cu (G4) (by rfl) T.AS zc (ah (bv 0) av))) rfl))),λds Q h=>?_⟩
  obtain⟨G,rfl,hG,q⟩:=h
  nofun
  refine fP G (λr=>D.lst false (ay r)) (λr=>D.lst true (ay r)) (by rw[cY];rfl) (λa b h=>ur a b h) (λr bF=>?_) (.inr λr _=>jK r) (by rw[sL];omega) q
  nofun
abbrev ce7:bg:=λds Q=>∃T:List (List Nat),ds=[.lst false (aE false T)]/\T.length<=1000/\(∀r∈T,r.length<=1000/\∃x∈r,x≠0)/\Q (.lst true (ay (T.map aV)))
theorem Wa(T:Txt K mg t):aO P w K mg base aS 1 t.Ua t.Ub ["rows"] (bo (ce7 )):=by
 refine bz T.KS.F cf1 ?_ ?_
 ·intro ds Q h
  obtain⟨G,rfl,hG,hr,q⟩:=h<;>rfl
 ·intro aG A outer s H E hr
  refine⟨_,(aH (aZ (dS [] ["row"] rfl (kr (bv 0)) (λ_ _ _ _=>(fi (i:=0) (show(["row"]:List Str).Nodup by decide +kernel))) (λ_ _ _ _=>dX) (by exact λ_ _ _ _=>(da (bt (ae (dS [] ["place","x"] rfl (xw rfl T.yg (ah (bv 0) av)) (λ_ _ _ _=>(Dt (i1:=0) (i2:=1) (show(["place","x"]:List Str).Nodup by decide +kernel))) (λ_ _ _ _=>(GX (cK (qj (eI hr)) (bv 1) (ae ao) (cj _)))) (λ_ _ _ _=>(da (bv 0))) rfl)) (ae ao) (λ_ _=>rfl)))) rfl))),λds Q h=>?_⟩
  obtain⟨G,rfl,hG,hr,q⟩:=h
  nofun
  refine fP G (λr=>D.lst false (ay r)) (λr=>D.int (aV r:Nat)) (by rw[cY];rfl) (λa b h=>ur a b h) (λr bF=>?_) (.inr λr _=>rfl) (by rw[sL];omega) ?_
  ·obtain⟨h1,x,hx,h3⟩:=hr r bF
   nofun
   refine HX (aw r.length) (λ(i:Nat)=>D.tup [.int (i:Int),.int ((r.getD i 0:Nat):Int)]) (λ(i:Nat)=>D.int (i:Int)) (λi=>r.getD i 0 != 0) (Q7 r) (λa b h=>by injection h with h;simp at h;omega) (λi hi=>?_) (.inr λ_ _ _=>rfl) (by rw[bC,sL];omega) ?_
   ·nofun
    refine⟨?_,λ_=>trivial⟩
    by_cases h0:r.getD i 0=0
    ·rw[h0];rfl
    ·rw[decide_eq_false (by omega),bne_iff_ne.mpr h0];rfl
   ·refine⟨.int (aV r:Nat),L3.Ho (k:=0) ?_,rfl,rfl⟩
    rw[bN,Q8 ⟨x,hx,h3⟩];rfl
  ·rw[dF,bO]at q
   exact q
abbrev aE6:bg:=λds Q=>∃(T:List (List Nat)) (w:Nat),ds=[.lst false (aE false T),.int w]/\T.length<=1000/\w<=1000/\(∀r∈T,r.length<=1000/\∃x∈r,x≠0)/\Q (.lst true (ay (cL T w)))
theorem Wb(T:Txt K mg t):aO P w K mg base aS 2 t.Uc t.Ud ["rows","width"] (bo (aE6 )):=by
 refine bz T.AF.F SW ?_ ?_
 ·intro ds Q h
  obtain⟨G,w,rfl,hG,hw,hr,q⟩:=h<;>rfl
 ·intro aG A outer s H E hr
  refine⟨_,(aC (aP (i:=2) SW.nd rfl (bB rfl) (bA T.KS (Wa T) hr (ah (bv 0) av)))
   (aH (aZ (dS [("taken",2)] ["place"] rfl (fm rfl T.dM (ah (bv 1) av)) (λ_ _ _ _=>(fi (i:=1) (show(["taken","place"]:List Str).Nodup by decide +kernel))) (λ_ _ _ _=>(GX (cK cA8 (bv 1) (bv 0) (by with_unfolding_all rfl)))) (λ_ _ _ _=>(da (bv 1))) rfl)))),λds Q h=>?_⟩
  obtain⟨G,w,rfl,hG,hw,hr,q⟩:=h
  refine aB λU hU=>?_
  nofun
  refine⟨G,rfl,hG,hr,?_⟩
  refine hU _ ?_
  clear hU U
  nofun
  refine⟨⟨by omega,by omega⟩,HX (aw w) (λ(i:Nat)=>D.int (i:Int)) (λ(i:Nat)=>D.int (i:Int)) (λj=>!(G.map aV).contains j) (xM _ rfl) pF (λj hj=>?_) (.inr λ_ _ _=>rfl) (by rw[bC,sL];omega) ?_⟩
  ·nofun
   exact⟨_,rfl,by rw[cc2],λ_=>trivial⟩
  ·rw[dF]at q
   exact q
abbrev Wc:bg:=λds Q=>∃(d:D) (a b:Nat),ds=[d,.int a,.int b]/\Q (.int (a ^^^ b:Nat))
theorem az8(T:Txt K mg t):aO P w K mg base aS 1 t.KC t.Ue ["self","a","b"] (bo (Wc )):=by
 refine bz T.Vu.F az3 ?_ ?_
 ·intro ds Q h
  obtain⟨d,a,b,rfl,q⟩:=h<;>rfl
 ·intro aG A outer s H E hr
  refine⟨_,(aH (aZ (az Pr (bv 1) (bv 2)))),λds Q h=>?_⟩
  obtain⟨d,a,b,rfl,q⟩:=h
  nofun
  rw[y7];exact q
abbrev We(K:Frag):bg:=λds Q=>∃(C:Addr) (p:Nat) (a b:Int),ds=[xI C p,.int a,.int b]/\di K C/\bu K C "prime"/\0<p/\Q (.int ((a-b)%p))
theorem av0(T:Txt K mg t):aO P w K mg base aS 1 t.KD t.Ug ["self","a","b"] (bo (We K)):=by
 refine bz T.Vv.F au6 ?_ ?_
 ·intro ds Q h
  obtain⟨C,p,a,b,rfl,hC,hn,hp,q⟩:=h<;>rfl
 ·intro aG A outer s H E hr
  refine⟨_,(aH (aZ (az fo (ae (az dq (bv 1) (bv 2))) (eW (K:=K) (bv 0))))),λds Q h=>?_⟩
  obtain⟨C,p,a,b,rfl,hC,hn,hp,q⟩:=h
  nofun
  refine⟨C,_,_,.int p,rfl,hC,hn,rfl,?_⟩
  exact⟨by omega,q⟩
theorem cr0(T:Txt K mg t){m:Bool × Nat}(h0:0<m.2):∃C ns xs sp,fD t.aQ t.aU m=.obj C ns xs/\nv P w K mg base 1 "minus" C sp/\("minus":Str) ∉ ns/\∀(a b:Nat) (Q:D->Prop),Q (.int (gl m a b))->sp [.obj C ns xs,.int a,.int b] Q:=by
 obtain⟨k,n⟩:=m
 cases k with
 | true=>exact⟨_,_,_,Wc,rfl,⟨T.fY,_,_,_,T.az6,az8 T,T.Vu.b⟩,by decide,λa b Q q=>⟨_,a,b,rfl,q⟩⟩
 | false=>exact⟨_,_,_,We K,rfl,⟨T.gE,_,_,_,T.au8,av0 T,T.Vv.b⟩,by decide,λa b Q q=>⟨_,n,a,b,rfl,T.gE,T.vX,h0,q⟩⟩
abbrev as4(cb cp:Addr):bg:=λds Q=>∃(m:Bool × Nat) (T:List (List Nat)) (w:Nat),ds=[fD cb cp m,.lst false (aE false T),.int w]/\m∈aA/\T.length<=1000/\w<=1000/\RT (aa m) w T/\(∀r∈T,∃x∈r,x≠0)/\Q (.lst true (aE true (jM m T w)))
theorem as5(T:Txt K mg t):aO P w K mg base aS 3 t.Uh t.Ui ["field","rows","width"] (bo (as4 t.aQ t.aU)):=by
 refine bz T.D3.F xX ?_ ?_
 ·intro ds Q h
  obtain⟨m,G,wi,rfl,hm,hG,hw,hR,hr,q⟩:=h<;>rfl
 ·intro aG A outer s H E hr
  refine⟨_,(aC (aP (i:=3) xX.nd rfl (au rfl) (bA T.KS (Wa T) hr (ah (bv 1) av)))
   (aC (aP (i:=4) xX.nd rfl (au rfl) (dm cA))
   (zu 3 (aC (eU dy rfl (zx (bA T.AF (Wb T) hr (ah (bv 1) (ah (bv 2) av)))) (fw (i:=5) xX.nd rfl (au rfl))
    (aC (aP (i:=6) xX.nd rfl (au rfl) (az dQ (ae (dm (cP ao cA))) (bv 2)))
    (aC (G9 (i:=6) rfl (by first | exact au rfl | exact bB (au rfl)) ao (bv 5))
    (aC (eU dy rfl (Hm rfl T.Lq (ah (bv 3) (ah (bv 1) av))) (vD (i1:=7) (i2:=8) rfl xX.nd rfl (au rfl) rfl (au rfl))
     (aH (G9 (i:=6) rfl (by first | exact au rfl | exact bB (au rfl)) (qq (P:=P) (w:=w) (K:=K) (mg:=mg) (base:=base) (n:=1) (bv 0) (hr.mono (by decide)) (ah (ae ao) (ah (bt (bv 8) (bv 5) (λ_ _=>rfl)) av))) (bv 7))))
    (aH (ot (i:=4) rfl (by first | exact au rfl | exact bB (au rfl)) (em 6)))))))
   (aH (aZ (em 4))))))),λds Q h=>?_⟩
  obtain⟨m,G,wi,rfl,hm,hG,hw,hR,hr,q⟩:=h
  have m0:=cq m hm
  have fv:=(cT hm).lo
  refine aB λU hU=>?_
  nofun
  refine⟨G,rfl,hG,λr bF=>⟨by rw[(hR r bF).1];exact hw,hr r bF⟩,hU _ ?_⟩
  clear hU U
  refine aB λU hU=>?_
  nofun
  refine⟨by decide,hU _ ?_⟩
  clear hU U
  refine⟨_,rfl,?_⟩
  rw[CW]
  simp only[dZ,dY]
  refine aB λU hU=>?_
  nofun
  refine⟨G,wi,rfl,hG,hw,λr bF=>⟨by rw[(hR r bF).1];exact hw,hr r bF⟩,?_⟩
  refine⟨_,rfl,?_⟩
  have hfp:∀j∈cL G wi,j<wi:=λj hj=>bw.mp (tG.mp hj).1
  have lfp:(cL G wi).length<=wi:=by
   have:=Yf (λj=>!(G.map aV).contains j) (aw wi)
   rw[bC]at this
   exact this
  rw[kL]
  refine iH.mk (λi δ=>∃o1 o2 o3 o4,δ=[some (fD t.aQ t.aU m),some (D.lst false (aE false G)),some (D.int wi),some (D.lst false (ay (G.map aV))),some (D.lst true (aE true (((cL G wi).take i).map (fU m G wi)))),o1,o2,o3,o4]) ⟨_,_,_,_,rfl⟩ ?_ ?_
  ·rintro i d δ hd ⟨o1,o2,o3,o4,rfl⟩
   rw[dF,bN]at hd
   obtain⟨f,hf,rfl⟩:=BA.mp hd
   have hfw:=hfp f (uM hf)
   clear hd
   refine aB λU hU=>?_
   nofun
   have er:ax (aW wi 0)=ay (aW wi 0):=by
    rw[dF,BJ];unfold ax;rw[BJ];rfl
   rw[ft,er]
   refine⟨by decide,⟨by omega,by omega,by omega⟩,hU _ ?_⟩
   clear hU
   refine aB λU hU=>?_
   nofun
   refine⟨_,f,rfl,?_,?_⟩
   ·rw[QY (by omega) (by rw[fQ,gH];omega)];rfl
   rw[show(ay (aW wi 0)).set f (D.int 1)=ay ((aW wi 0).set f 1) from QZ _ _ 1]
   refine hU _ ?_
   clear hU
   refine aB λU hU=>?_
   nofun
   refine⟨_,_,rfl,rfl,?_⟩
   refine iH.mk (λk δ=>∃o3 o4,δ=[some (fD t.aQ t.aU m),some (D.lst false (aE false G)),some (D.int wi),some (D.lst false (ay (G.map aV))),some (D.lst true (aE true (((cL G wi).take i).map (fU m G wi)))),some (D.int f),some (D.lst true (ay ((((G.map aV).zip G).take k).foldl (λx z=>x.set z.1 (bq m 0 (z.2.getD f 0))) ((aW wi 0).set f 1)))),o3,o4]) ⟨_,_,rfl⟩ ?_ ?_
   ·rintro k d δ hd ⟨o3,o4,rfl⟩
    obtain⟨hk,rfl⟩:=ct5 hd
    clear hd
    obtain⟨lw,la⟩:=hR _ (eN hk)
    have xl:=Ra (λz:Nat × List Nat=>z.1) (λz=>bq m 0 (z.2.getD f 0)) (((G.map aV).zip G).take k) ((aW wi 0).set f 1)
    rw[uN,gH]at xl
    obtain⟨C,ns,xs,sp,e1,e2,e3,e4⟩:=cr0 (P:=P) (w:=w) (base:=base) T m0
    have hld:aV G[k]<wi:=by
     rw[<-lw]
     obtain⟨x,hx,h0⟩:=hr _ (eN hk)
     exact Nu ⟨x,hx,by simpa using h0⟩
    have ga:=kS hm (a:=0) (b:=G[k].getD f 0) (by omega) (la.getD (by omega) f)
    nofun
    refine⟨C,ns,xs,sp,e1,e2,e3,.int (G[k].getD f 0:Nat),by rw[qu (by omega) (by omega),ft],e4 0 (G[k].getD f 0) _ ⟨rfl,_,aV G[k],rfl,?_,_,_,?_,rfl,rfl⟩⟩
    ·rw[QY (by omega) (by rw[fQ,xl];omega)];rfl
    ·rw[ga.1,QZ,rQ,Fg]
     have ez:((G.map aV).zip G)[k]?=some (aV G[k],G[k]):=by
      rw[List.zip,BC,bN,aJ hk];rfl
     rw[ez];rfl
   ·rintro δ ⟨o3,o4,rfl⟩
    refine hU _ ?_
    nofun
    refine⟨⟨_,rfl⟩,by rw[aR,jm];omega,_,_,_,_,?_,rfl,rfl,rfl,rfl⟩
    rw[show((G.map aV).zip G).take (gQ (ay (G.map aV)) (aE false G)).length=(G.map aV).zip G from E2 (by unfold gQ;rw[Nr,qO,fQ,gu];exact bG _),rQ,hf,dw]
    exact vK true _ [fU m G wi f]
  ·rintro δ ⟨o1,o2,o3,o4,rfl⟩
   refine hU _ ?_
   nofun
   rw[uS]
   exact q
abbrev aJ6(t:gj)(K:Frag):L2.Sp:=λvs H Q _=>∃(F H0:Hp) (x dx C:Addr) (vf vc:V) (m:Bool × Nat) (G:List (List Nat)) (pre:List (Str × V)),vs=[.ref x,vf,vc]/\L3.ag F H0/\H0 x=none/\L3.ag H0 H/\H x=some (.ins C dx (pre++[]))/\vO pre/\do1 K C /\
 R F H0 [fD t.aQ t.aU m] [vf] []/\R F H0 [.lst false (aE false G)] [vc] []/\m∈aA/\RT (aa m) (af G) G/\G.length<=64/\af G<=64 /\
 ∀H' p1 p2 p3 A1 A2 A3,bQ x H H'->H' x=some (.ins C dx (pre++uC.zip [vf,.int (af G:Nat),.ref p1,.ref p2,.ref p3,.int ((cL (bL m G) (af G)).length:Nat)]))->R (λ_=>none) H' [.lst true (aE true G)] [.ref p1] A1->R (λ_=>none) H' [.lst true (aE true (jM m (bL m G) (af G)))] [.ref p2] A2->R (λ_=>none) H' [.lst true (ay (cL (bL m G) (af G)))] [.ref p3] A3->(A1++(A2++A3)).Nodup->(∀a∈A1++(A2++A3),H a=none)->Q .aq H'
theorem Wf(T:Txt K mg t):aO P w K mg base aS 4 t.KG t.Uj ["self","field","checks"] (aJ6 t K):=by
 refine T.KU.F.ok SX (λvs H Q E h=>?_) λaG A outer s H vs Q E hr h=>?_
 ·obtain⟨F,H0,x,dx,C,vf,vc,m,G,pre,rfl,_⟩:=h;rfl
 obtain⟨F,H0,x,dx,C,vf,vc,m,G,pre,rfl,e0,ku,s0,hx,hp,hC,rf,rc,hm,hG,hGl,hGw,q⟩:=h
 refine⟨_,fk (FE (i:=3) SX.nd rfl (au rfl) (lK ((V7 T).mono (by decide)) hr rfl T.AD.g T.AD.F.kp T.AD.b .nil dH (cy (pv 1) (cy (pv 2) ff))))
  (fk (iE (pv 0) (pv 1) rfl)
  (fk (iE (pv 0) (lK ((Eo T).mono (by decide)) hr rfl T.vU.g T.vU.F.kp T.vU.b .nil dH (cy (pv 2) ff)) rfl)
  (fk (iE (pv 0) (lK ((V9 T).mono (by decide)) hr rfl T.AE.g T.AE.F.kp T.AE.b .nil dH (cy (pv 2) ff)) rfl)
  (fk (iE (pv 0) (lK ((as5 T).mono (by decide)) hr rfl T.D3.g T.D3.F.kp T.D3.b .nil dH (cy (pv 1) (cy (pv 3) (cy (ve (pv 0) rfl) ff)))) rfl)
  (fk (iE (pv 0) (lK ((Wb T).mono (by decide)) hr rfl T.AF.g T.AF.F.kp T.AF.b .nil dH (cy (pv 3) (cy (ve (pv 0) rfl) ff))) rfl)
  (oi (iE (pv 0) (FV Oy rfl T.gX gK (cy (ve (pv 0) rfl) ff)) rfl))))))),?_⟩
 try dsimp only[ib,ie]
 have hn:=cG4 hm hG
 have hk:=Dm hm hG
 obtain⟨_,iR,iL,_⟩:=jj hm hG
 have fR:∀X:List (List Nat),[D.lst true (aE true X)].all D.fr=true:=λX=>by rw[cH,eE,vJ];rfl
 have fN:∀X:List Nat,[D.lst true (ay X)].all D.fr=true:=λX=>by rw[cH,jK];rfl
 refine⟨_,rfl,_,rfl,F,[fD t.aQ t.aU m,.lst false (aE false G)],λd=>d=.lst true (aE true (bL m G)),e0.trans s0,R.cons (A:=[]) (rf.shared (L3.ag.refl _) s0) (rc.shared (L3.ag.refl _) s0),⟨m,G,rfl,hm,by omega,hG,by omega,rfl⟩,λd v F1 H1 A1 hd gF LJ LL h31 r1 nd1 fr1=>?_⟩
 subst hd
 obtain⟨p0,rfl⟩:=An r1
 have du:=gF.get _ _ hx rfl
 have z1:bQ x H H1:=gF.x
 have r1:=r1.xg (fR _) LJ
 have Ep:∀X:List (List Nat),[D.lst true (aE true X)].map D.sh=[D.lst false (aE false X)]:=λX=>by rw[bR,cE,cY];rfl
 have aq:∀{F' H':Hp} {d:D} {v:V} {A':List Addr},R F' H' [d] [v] A'->[d].all D.fr=true->R (λ_=>none) H' [d] [v] A':=λr h=>r.xg h (L3.ag.of λb o e=>by cases e)
 have mv:∀{F' H' yi:Hp} {ds:List D} {vs:List V} {A':List Addr} {fs fs':List (Str × V)},R F' H' ds vs A'->L3.ag H' yi->yi x=some (.ins C dx fs)->ds.all D.fr=true->R F' (upd yi x (.ins C dx fs')) ds vs A':=λr h dW hd=>(r.grow (L3.ag.refl _) h λa ha=>(r.lists a ha).2).vI dW hd
 refine⟨vf,rfl,.ref x,rfl,x,C,dx,_,rfl,du,hC.cls,hC.field,hp.lt (by decide),?_⟩
 have r2:=mv r1 (L3.ag.refl _) du (fR _) (fs':=bE "field" vf (pre++[]))
 have z2:=z1.trans (bQ.upd (C:=x) (dx:=dx) du rfl (o':=.ins C dx (bE "field" vf (pre++[]))))
 have eV:upd H1 x (.ins C dx (bE "field" vf (pre++[]))) x=some (.ins C dx (pre++([("field",vf)]:List (Str × V)))):=by rw[bS,hp.put _ _ _ (by decide)];rfl
 generalize upd H1 x (.ins C dx (bE "field" vf (pre++[])))=H2 at r2 z2 eV ⊢
 have t2:=bQ.of0 ku s0 z2
 refine⟨_,rfl,F,[.lst false (aE false G)],λd=>d=.int (af G:Nat),e0.trans t2,rc.shared (L3.ag.refl _) t2,⟨G,rfl,by omega,λr bF=>by rw[(hG r bF).1];omega,rfl⟩,λd v F3 H3 A3 hd iT AZ Wg h33 r3 nd3 FI=>?_⟩
 subst hd
 cases r3
 have fq:=iT.get _ _ eV rfl
 refine⟨.ref x,rfl,x,C,dx,_,rfl,fq,hC.cls,hC.length,hp.lt (by show 1<=6;decide),?_⟩
 have r4:=mv r2 iT fq (fR _) (fs':=bE "length" (.int (af G:Nat)) (pre++([("field",vf)]:List (Str × V))))
 have z4:=(z2.trans (iT.x (x:=x))).trans (bQ.upd (C:=x) (dx:=dx) fq rfl (o':=.ins C dx (bE "length" (.int (af G:Nat)) (pre++([("field",vf)]:List (Str × V))))))
 have kW:upd H3 x (.ins C dx (bE "length" (.int (af G:Nat)) (pre++([("field",vf)]:List (Str × V))))) x=some (.ins C dx (pre++([("field",vf),("length",.int (af G:Nat))]:List (Str × V)))):=by rw[bS,hp.put _ _ _ (by decide)];rfl
 generalize upd H3 x (.ins C dx (bE "length" (.int (af G:Nat)) (pre++([("field",vf)]:List (Str × V)))))=H4 at r4 z4 kW ⊢
 have t4:=bQ.of0 ku s0 z4
 refine⟨_,rfl,F,[.lst false (aE false G)],λd=>d=.lst true (aE true G),e0.trans t4,rc.shared (L3.ag.refl _) t4,⟨G,rfl,by omega,rfl⟩,λd v F5 H5 A5 hd pO hf5 he5 h35 r5 nd5 yK=>?_⟩
 subst hd
 obtain⟨p1,rfl⟩:=An r5
 have jS:=pO.get _ _ kW rfl
 refine⟨.ref x,rfl,x,C,dx,_,rfl,jS,hC.cls,hC.do2,hp.lt (by show 2<=6;decide),?_⟩
 have r6:=mv r4 pO jS (fR _) (fs':=bE "check_rows" (.ref p1) (pre++([("field",vf),("length",.int (af G:Nat))]:List (Str × V))))
 have k6:=mv (aq r5 (fR _)) (L3.ag.refl _) jS (fR _) (fs':=bE "check_rows" (.ref p1) (pre++([("field",vf),("length",.int (af G:Nat))]:List (Str × V))))
 have z6:=(z4.trans (pO.x (x:=x))).trans (bQ.upd (C:=x) (dx:=dx) jS rfl (o':=.ins C dx (bE "check_rows" (.ref p1) (pre++([("field",vf),("length",.int (af G:Nat))]:List (Str × V))))))
 have uJ:upd H5 x (.ins C dx (bE "check_rows" (.ref p1) (pre++([("field",vf),("length",.int (af G:Nat))]:List (Str × V))))) x=some (.ins C dx (pre++([("field",vf),("length",.int (af G:Nat)),("check_rows",.ref p1)]:List (Str × V)))):=by rw[bS,hp.put _ _ _ (by decide)];rfl
 generalize upd H5 x (.ins C dx (bE "check_rows" (.ref p1) (pre++([("field",vf),("length",.int (af G:Nat))]:List (Str × V)))))=H6 at r6 k6 z6 uJ ⊢
 have n5:∀a∈A5,H a=none:=λa ha=>z4.free (by rw[kW];simp) (yK a ha)
 have t6:=bQ.of0 ku s0 z6
 have e6:=e0.trans t6
 refine⟨_,rfl,_,rfl,.ref x,rfl,x,C,dx,_,.int (af G:Nat),rfl,uJ,hC.cls,hC.length,(hp.look _ _ (by decide)).trans rfl,L3.bD F H6 A1,[fD t.aQ t.aU m,.lst false (aE false (bL m G)),.int (af G:Nat)],λd=>d=.lst true (aE true (jM m (bL m G) (af G))),vn e6,R.cons (A:=[]) (rf.shared (ke e6) t6) (R.cons (A:=[]) (Ep _ ▸ r6.bD e6 A1 λ_ h=>h) (.int .nil)),⟨m,bL m G,af G,rfl,hm,by omega,by omega,iR,hn,rfl⟩,λd v F7 H7 A7 hd tF hf7 he7 h37 r7 nd7 Wh=>?_⟩
 subst hd
 obtain⟨p2,rfl⟩:=An r7
 have rL:=tF.get _ _ uJ rfl
 refine⟨.ref x,rfl,x,C,dx,_,rfl,rL,hC.cls,hC.do3,hp.lt (by show 3<=6;decide),?_⟩
 have r8:=mv r6 tF rL (fR _) (fs':=bE "word_rows" (.ref p2) (pre++([("field",vf),("length",.int (af G:Nat)),("check_rows",.ref p1)]:List (Str × V))))
 have k8:=mv k6 tF rL (fR _) (fs':=bE "word_rows" (.ref p2) (pre++([("field",vf),("length",.int (af G:Nat)),("check_rows",.ref p1)]:List (Str × V))))
 have w8:=mv (aq r7 (fR _)) (L3.ag.refl _) rL (fR _) (fs':=bE "word_rows" (.ref p2) (pre++([("field",vf),("length",.int (af G:Nat)),("check_rows",.ref p1)]:List (Str × V))))
 have z8:=(z6.trans (tF.x (x:=x))).trans (bQ.upd (C:=x) (dx:=dx) rL rfl (o':=.ins C dx (bE "word_rows" (.ref p2) (pre++([("field",vf),("length",.int (af G:Nat)),("check_rows",.ref p1)]:List (Str × V))))))
 have Er:upd H7 x (.ins C dx (bE "word_rows" (.ref p2) (pre++([("field",vf),("length",.int (af G:Nat)),("check_rows",.ref p1)]:List (Str × V))))) x=some (.ins C dx (pre++([("field",vf),("length",.int (af G:Nat)),("check_rows",.ref p1),("word_rows",.ref p2)]:List (Str × V)))):=by rw[bS,hp.put _ _ _ (by decide)];rfl
 generalize upd H7 x (.ins C dx (bE "word_rows" (.ref p2) (pre++([("field",vf),("length",.int (af G:Nat)),("check_rows",.ref p1)]:List (Str × V)))))=H8 at r8 k8 w8 z8 Er ⊢
 have n7:∀a∈A7,H a=none:=λa ha=>z6.free (by rw[uJ];simp) (Wh a ha)
 have d57:∀a∈A5,a ∉ A7:=λa ha hb=>by
  obtain⟨⟨ws,e⟩,_⟩:=k6.lists a ha
  rw[Wh a hb]at e;cases e
 have t8:=bQ.of0 ku s0 z8
 have e8:=e0.trans t8
 refine⟨_,rfl,.ref x,rfl,x,C,dx,_,.int (af G:Nat),rfl,Er,hC.cls,hC.length,(hp.look _ _ (by decide)).trans rfl,L3.bD F H8 A1,[.lst false (aE false (bL m G)),.int (af G:Nat)],λd=>d=.lst true (ay (cL (bL m G) (af G))),vn e8,R.cons (A:=[]) (Ep _ ▸ r8.bD e8 A1 λ_ h=>h) (.int .nil),⟨bL m G,af G,rfl,by omega,by omega,λr bF=>⟨by rw[(iR r bF).1];omega,hn r bF⟩,rfl⟩,λd v F9 H9 A9 hd Es hf9 he9 h39 r9 nd9 LM=>?_⟩
 subst hd
 obtain⟨p3,rfl⟩:=An r9
 have A8:=Es.get _ _ Er rfl
 refine⟨.ref x,rfl,x,C,dx,_,rfl,A8,hC.cls,hC.R6,hp.lt (by show 4<=6;decide),?_⟩
 have Et:=mv k8 Es A8 (fR _) (fs':=bE "message_places" (.ref p3) (pre++([("field",vf),("length",.int (af G:Nat)),("check_rows",.ref p1),("word_rows",.ref p2)]:List (Str × V))))
 have Wi:=mv w8 Es A8 (fR _) (fs':=bE "message_places" (.ref p3) (pre++([("field",vf),("length",.int (af G:Nat)),("check_rows",.ref p1),("word_rows",.ref p2)]:List (Str × V))))
 have LN:=mv (aq r9 (fN _)) (L3.ag.refl _) A8 (fN _) (fs':=bE "message_places" (.ref p3) (pre++([("field",vf),("length",.int (af G:Nat)),("check_rows",.ref p1),("word_rows",.ref p2)]:List (Str × V))))
 have Wj:=(z8.trans (Es.x (x:=x))).trans (bQ.upd (C:=x) (dx:=dx) A8 rfl (o':=.ins C dx (bE "message_places" (.ref p3) (pre++([("field",vf),("length",.int (af G:Nat)),("check_rows",.ref p1),("word_rows",.ref p2)]:List (Str × V))))))
 have vZ:upd H9 x (.ins C dx (bE "message_places" (.ref p3) (pre++([("field",vf),("length",.int (af G:Nat)),("check_rows",.ref p1),("word_rows",.ref p2)]:List (Str × V))))) x=some (.ins C dx (pre++([("field",vf),("length",.int (af G:Nat)),("check_rows",.ref p1),("word_rows",.ref p2),("message_places",.ref p3)]:List (Str × V)))):=by rw[bS,hp.put _ _ _ (by decide)];rfl
 generalize upd H9 x (.ins C dx (bE "message_places" (.ref p3) (pre++([("field",vf),("length",.int (af G:Nat)),("check_rows",.ref p1),("word_rows",.ref p2)]:List (Str × V)))))=H10 at Et Wi LN Wj vZ ⊢
 have n9:∀a∈A9,H a=none:=λa ha=>z8.free (by rw[Er];simp) (LM a ha)
 have d59:∀a∈A5,a ∉ A9:=λa ha hb=>by
  obtain⟨⟨ws,e⟩,_⟩:=k8.lists a ha
  rw[LM a hb]at e;cases e
 have d79:∀a∈A7,a ∉ A9:=λa ha hb=>by
  obtain⟨⟨ws,e⟩,_⟩:=w8.lists a ha
  rw[LM a hb]at e;cases e
 obtain⟨ws,lw,ew⟩:∃ws,ws.length=(cL (bL m G) (af G)).length/\H10 p3=some (.lst ws):=by
  cases LN with
  | own h _ r _=>exact⟨_,by rw[<-r.length,fQ],h⟩
 refine⟨.ref x,rfl,x,C,dx,_,.ref p3,rfl,vZ,hC.cls,hC.R6,(hp.look _ _ (by decide)).trans rfl,p3,ws,rfl,.inl (bI.of ew),.ref x,rfl,x,C,dx,_,rfl,vZ,hC.cls,hC.size,hp.lt (by show 5<=6;decide),?_⟩
 rw[lw]
 refine q _ p1 p2 p3 A5 A7 A9 (Wj.trans (bQ.upd (C:=x) (dx:=dx) vZ rfl)) (by rw[bS,hp.put _ _ _ (by decide)];rfl) (mv Et (L3.ag.refl _) vZ (fR _)) (mv Wi (L3.ag.refl _) vZ (fR _)) (mv LN (L3.ag.refl _) vZ (fN _)) ?_ ?_
 ·exact i5.mpr ⟨nd5,i5.mpr ⟨nd7,nd9,d79⟩,λa ha hb=>(bV.mp hb).elim (d57 a ha) (d59 a ha)⟩
 ·intro a ha
  rcases bV.mp ha with ha | ha
  ·exact n5 a ha
  ·exact(bV.mp ha).elim (n7 a) (n9 a)
abbrev LO(K:Frag):bg:=λds Q=>∃(C:Addr) (ns:List Str) (xs:List D) (n:Nat) (x:D),ds=[.obj C ns xs,x]/\di K C/\bu K C "many"/\(ns.zip xs).lookup ("many":Str)=some (.int n)/\((∃i,x=.int i/\Q (.bl (decide (0<=i)&&decide (i<n))))\/(x=.aq/\Q (.bl false)))
theorem Wk(T:Txt K mg t):aO P w K mg base aS 1 t.DS t.Uk ["self","x"] (bo (LO K)):=by
 refine bz T.KW.F aD9 ?_ ?_
 ·intro ds Q h
  obtain⟨C,ns,xs,n,x,rfl,h1,h2,h3,q⟩:=h<;>rfl
 ·intro aG A outer s H E hr
  refine⟨_,(aH (aZ (rj (ae (zK (by rfl) T.AR (by rfl) T.Lp Gu (bv 1))) (rj (ae (Pf (ae (zK (by rfl) T.AR (by rfl) T.VM OZ (bv 1))))) (u5 (xu jF xp (ae ao) (bv 1) (eW (K:=K) (bv 0)))))))),λds Q h=>?_⟩
  obtain⟨C,ns,xs,n,x,rfl,h1,h2,h3,q⟩:=h
  rcases q with⟨i,rfl,q⟩ | ⟨rfl,q⟩
  ·nofun
   split
   ·rename_i h0
    refine⟨C,ns,xs,_,rfl,h1,h2,h3,?_⟩
    dsimp only
    rw[decide_eq_true h0,iy]at q
    exact q
   ·rename_i h0
    rw[decide_eq_false h0,kZ]at q
    exact q
  ·nofun
   exact q
theorem ct8(T:Txt K mg t)(m:Bool × Nat){x:D}{Q:D->Prop}(h:(∃i,x=.int i/\Q (.bl (decide (0<=i)&&decide (i<aa m))))\/(x=.aq/\Q (.bl false))):QW P w K mg base 1 t.aQ t.aU m "holds" [x] Q:=by
 obtain⟨k,n⟩:=m
 cases k with
 | true=>exact⟨_,_,_,LO K,rfl,⟨T.fY,_,_,_,T.La,Wk T,T.KW.b⟩,by decide,_,_,_,aa (true,n),x,rfl,T.fY,T.vV,rfl,h⟩
 | false=>exact⟨_,_,_,LO K,rfl,⟨T.gE,_,_,_,T.Li,Wk T,T.KW.b⟩,by decide,_,_,_,aa (false,n),x,rfl,T.gE,T.vW,rfl,h⟩
abbrev az9(t:gj):bg:=λds Q=>∃(m:Bool × Nat) (G:List (List Nat)),ds=[fD t.aQ t.aU m,.lst false (aE false G)]/\m∈aA/\RT (aa m) (af G) G/\1<=G.length/\G.length<=12/\2<=af G/\af G<=12/\Q (.bl true)
theorem aA0(T:Txt K mg t):aO P w K mg base aS 2 t.Ul t.Um ["field","table"] (bo (az9 t)):=by
 refine bz T.D4.F SY ?_ ?_
 ·intro ds Q h
  obtain⟨m,G,rfl,hm,hR,g1,Ba,w2,Bb,q⟩:=h<;>rfl
 ·intro aG A outer s H E hr
  refine⟨_,(aC (eH (PW.pt (zo (cK xp (ae (dE (hZ) (by rfl) T.gX gK (ah (bv 1) av))) (ae ao) (cj _)) (BU (cK zF (ae (dE (hZ) (by rfl) T.gX gK (ah (bv 1) av))) (ae ao) (cj _))))) (aH (aZ qg)) eG)
   (aC (aP (i:=2) SY.nd rfl (bB rfl) (dE (hZ) (by rfl) T.gX gK (ah (bt (bv 1) (ae ao) (λ_ _=>rfl)) av)))
   (aC (eH (PW.pt (zo (cK xp (bv 2) (ae ao) (cj _)) (zo (cK zF (bv 2) (ae ao) (cj _)) (BU (ub (ae (dE (cH6 rfl) (by rfl) T.dz1 cD8 (ah (ae (dS [("width",2)] ["row"] rfl (kr (bv 1)) (λ_ _ _ _=>(fi (i:=1) (show(["width","row"]:List Str).Nodup by decide +kernel))) (λ_ _ _ _=>dX) (λ_ _ _ _=>(vt (qj (eI hr)) (ae (dE (hZ) (by rfl) T.gX gK (ah (bv 1) av))) (bv 0) (cj _))) rfl)) av)))))))) (aH (aZ qg)) eG)
   (aH (aZ (dE (zJ rfl) (by rfl) T.AQ za (ah (ae (dS [("field",0)] ["row"] rfl (kr (bv 1)) (λ_ _ _ _=>(fi (i:=1) (show(["field","row"]:List Str).Nodup by decide +kernel))) (λ_ _ _ _=>dX) (by exact λ_ _ _ _=>(dE (zJ rfl) (by rfl) T.AQ za (ah (ae (dS [("field",0)] ["x"] rfl (kr (bv 1)) (λ_ _ _ _=>(fi (i:=1) (show(["field","x"]:List Str).Nodup by decide +kernel))) (λ_ _ _ _=>dX) (λ_ _ _ _=>(qq (P:=P) (w:=w) (K:=K) (mg:=mg) (base:=base) (n:=1) (bv 0) (hr.mono (by decide)) (ah (bv 1) av))) rfl)) av))) rfl)) av))))))),λds Q h=>?_⟩
  obtain⟨m,G,rfl,hm,hR,g1,Ba,w2,Bb,q⟩:=h
  obtain⟨g,G',rfl⟩:∃g G',G=g::G':=by
   cases G with
   | nil=>exact absurd g1 (by decide)
   | cons g G'=>exact⟨g,G',rfl⟩
  refine aB λU hU=>?_
  nofun
  rw[if_neg (by omega),if_neg (by rw[eK]at Ba;omega)]
  refine hU _ ?_
  clear hU U
  refine aB λU hU=>?_
  nofun
  refine⟨.lst false (ay g),Ac false (T:=g::G') (i:=0) (yy _),?_⟩
  show U [some (fD t.aQ t.aU m),some (.lst false (aE false (g::G'))),some (.int ((ay g).length:Nat))]
  have gl:(ay g).length=af (g::G'):=by rw[fQ];rfl
  rw[gl]
  generalize g::G'=G at hR g1 Ba w2 Bb gl hU ⊢
  refine hU _ ?_
  clear hU U
  refine aB λU hU=>?_
  nofun
  rw[if_neg (by omega),if_neg (by omega)]
  refine fP G (λr=>D.lst false (ay r)) (λ_=>D.bl false) (by rw[cY];rfl) (λa b h=>ur a b h) (λr bF=>?_) (.inr λr _=>rfl) (by rw[sL];omega) ?_
  ·have:=(hR r bF).1
   nofun
   rw[decide_eq_true (by omega)];rfl
  refine⟨G.map λ_=>false,by unfold sM;rw[bO];rfl,?_⟩
  rw[if_neg (by simp)]
  refine hU _ ?_
  clear hU U
  nofun
  refine fP G (λr=>D.lst false (ay r)) (λ_=>D.bl true) (by rw[cY];rfl) (λa b h=>ur a b h) (λr bF=>?_) (.inr λr _=>rfl) (by rw[sL];omega) ?_
  ·obtain⟨r1,r2⟩:=hR r bF
   nofun
   refine fP r (λ(i:Nat)=>D.int (i:Int)) (λ_=>D.bl true) (vE _) pF (λi hi=>?_) (.inr λ_ _=>rfl) (by rw[sL];omega) ?_
   ·have:=r2 i hi
    nofun
    refine ct8 T m (.inl ⟨_,rfl,?_⟩)
    rw[decide_eq_true (by omega),decide_eq_true (by omega)];rfl
   ·refine⟨r.map λ_=>true,by unfold sM;rw[bO];rfl,?_⟩
    simp
  ·refine⟨G.map λ_=>true,by unfold sM;rw[bO];rfl,?_⟩
   rw[show(G.map λ_=>true).all id=true by simp]
   exact q
abbrev cv0(t:gj)(P:Program)(w:World)(K:Frag)(mg:Str->Option Value)(base:Heap):bg:=λds Q=>∃(m:Bool × Nat) (G:List (List Nat)),ds=[fD t.aQ t.aU m,.lst false (aE false G)]/\m∈aA/\G.length<=900/\RT (aa m) (af G) G/\af G<=900/\Q (.int (bL m G).length)
theorem cp4(T:Txt K mg t):aO P w K mg base aS 4 t.Uo t.Up ["field","table"] (bo (cv0 t P w K mg base)):=by
 refine bz T.D6.F cp6 ?_ ?_
 ·intro ds Q h
  obtain⟨m,G,rfl,hm,hG,hR,hw,q⟩:=h<;>rfl
 ·intro aG A outer s H E hr
  refine⟨_,(aH (aZ (dE (hZ) (by rfl) T.gX gK (ah (ae (bA T.AD (V7 T) hr (ah (bv 0) (ah (bv 1) av)))) av)))),λds Q h=>?_⟩
  obtain⟨m,G,rfl,hm,hG,hR,hw,q⟩:=h
  nofun
  refine⟨m,G,rfl,hm,hG,hR,hw,?_⟩
  dsimp only
  rw[gu];exact q
abbrev aM0:bg:=λds Q=>∃T:List (List Nat),ds=[.lst false (aE false T)]/\T.length<=1000/\(∀r∈T,r.length=af T)/\af T<=1000/\Q (.lst true (aE true (cV T)))
theorem aM1(T:Txt K mg t):aO P w K mg base aS 2 t.Uq t.Ur ["table"] (bo (aM0 )):=by
 refine bz T.Vw.F aL8 ?_ ?_
 ·intro ds Q h
  obtain⟨G,rfl,hG,hr,hw,q⟩:=h<;>rfl
 ·intro aG A outer s H E hr
  refine⟨_,(aH (aZ (dS [("table",0)] ["j"] rfl (fm rfl T.dM (ah (ae (bA T.vU (Eo T) hr (ah (bv 0) av))) av)) (λ_ _ _ _=>(fi (i:=1) (show(["table","j"]:List Str).Nodup by decide +kernel))) (λ_ _ _ _=>dX) (by exact λ_ _ _ _=>(dS [("j",1)] ["row"] rfl (kr (bv 0)) (λ_ _ _ _=>(fi (i:=1) (show(["j","row"]:List Str).Nodup by decide +kernel))) (λ_ _ _ _=>dX) (λ_ _ _ _=>(da (bt (bv 1) (bv 0) (λ_ _=>rfl)))) rfl)) rfl))),λds Q h=>?_⟩
  obtain⟨G,rfl,hG,hr,hw,q⟩:=h
  nofun
  refine⟨G,rfl,hG,λr bF=>by rw[hr r bF];exact hw,?_⟩
  dsimp only
  refine⟨_,rfl,⟨by omega,by omega⟩,?_⟩
  refine fP (aw (af G)) (λ(i:Nat)=>D.int (i:Int)) (λj=>D.lst true (ay (G.map λr=>r.getD j 0))) (xM _ rfl) pF (λj hj=>?_) (.inr λj _=>jK _) (by rw[bC,sL];omega) ?_
  ·have hj:=bw.mp hj
   nofun
   refine fP G (λr=>D.lst false (ay r)) (λr=>D.int ((r.getD j 0:Nat):Int)) (by rw[cY];rfl) (λa b h=>ur a b h) (λr bF=>?_) (.inr λr _=>rfl) (by rw[sL];omega) ?_
   ·nofun
    have hl:=hr r bF
    exact⟨.int (r.getD j 0:Nat),by rw[qu (by omega) (by omega),ft],rfl,rfl⟩
   ·rw[dF,bO];rfl
  ·unfold cV aE at q
   rw[bO]at q
   exact q
abbrev aJ7:bg:=λds Q=>∃c:List Nat,ds=[.lst false (ay c)]/\c.length<=1000/\Q (.bl (nul c))
theorem aJ8(T:Txt K mg t):aO P w K mg base aS 1 t.Us t.Ut ["column"] (bo (aJ7 )):=by
 refine bz T.Vx.F aI6 ?_ ?_
 ·intro ds Q h
  obtain⟨c,rfl,hc,q⟩:=h<;>rfl
 ·intro aG A outer s H E hr
  refine⟨_,(aH (aZ (dE (zJ rfl) (by rfl) T.AQ za (ah (ae (dS [] ["x"] rfl (kr (bv 0)) (λ_ _ _ _=>(fi (i:=0) (show(["x"]:List Str).Nodup by decide +kernel))) (λ_ _ _ _=>dX) (λ_ _ _ _=>(vt (i9 (eI hr)) (bv 0) (ae ao) (cj _))) rfl)) av)))),λds Q h=>?_⟩
  obtain⟨c,rfl,hc,q⟩:=h
  nofun
  refine fP c (λ(i:Nat)=>D.int (i:Int)) (λ(x:Nat)=>D.bl (x==0)) (vE _) pF (λx hx=>?_) (.inr λ_ _=>rfl) (by rw[sL];omega) ?_
  ·nofun
   congr 1
   exact propext (by omega)
  dsimp only
  refine⟨c.map (·==0),by unfold sM;rw[bO];rfl,?_⟩
  rw[tN]
  exact q
abbrev Wl(K:Frag):bg:=λds Q=>∃(C:Addr) (p a b:Nat),ds=[z7 C p,.int a,.int b]/\di K C/\bu K C "products"/\p∈iO/\a<aa (true,p)/\b<aa (true,p)/\Q (.int (gm (true,p) a b:Nat))
theorem aA1(T:Txt K mg t):aO P w K mg base aS 1 t.KH t.Uu ["self","a","b"] (bo (Wl K)):=by
 refine bz T.Vy.F az4 ?_ ?_
 ·intro ds Q h
  obtain⟨C,p,a,b,rfl,hC,hn,hp,ha,hb,q⟩:=h<;>rfl
 ·intro aG A outer s H E hr
  refine⟨_,(aH (aZ (da (bt (bt (eW (K:=K) (bv 0)) (bv 1) (λ_ _=>rfl)) (bv 2) (λ_ _=>rfl))))),λds Q h=>?_⟩
  obtain⟨C,p,a,b,rfl,hC,hn,hp,ha,hb,q⟩:=h
  nofun
  refine⟨C,_,_,_,rfl,hC,hn,rfl,?_⟩
  exact⟨_,HL hp ha,_,HK hp ha hb,rfl,q⟩
abbrev Wn(K:Frag):bg:=λds Q=>∃(C:Addr) (p:Nat) (a b:Int),ds=[xI C p,.int a,.int b]/\di K C/\bu K C "prime"/\0<p/\IntMulOk a b/\Q (.int (a*b%p))
theorem av1(T:Txt K mg t):aO P w K mg base aS 1 t.KI t.Uv ["self","a","b"] (bo (Wn K)):=by
 refine bz T.Vz.F au7 ?_ ?_
 ·intro ds Q h
  obtain⟨C,p,a,b,rfl,hC,hn,hp,hm,q⟩:=h<;>rfl
 ·intro aG A outer s H E hr
  refine⟨_,(aH (aZ (az fo (ae (az dQ (bv 1) (bv 2))) (eW (K:=K) (bv 0))))),λds Q h=>?_⟩
  obtain⟨C,p,a,b,rfl,hC,hn,hp,hm,q⟩:=h
  nofun
  exact⟨hm,C,_,_,.int p,rfl,hC,hn,rfl,by omega,q⟩
theorem cu9(T:Txt K mg t){m:Bool × Nat}(hm:m∈aA):∃C ns xs sp,fD t.aQ t.aU m=.obj C ns xs/\nv P w K mg base 1 "times" C sp/\("times":Str) ∉ ns/\∀(a b:Nat) (Q:D->Prop),a<aa m->b<aa m->Q (.int (gm m a b:Nat))->sp [.obj C ns xs,.int a,.int b] Q:=by
 have hF:=cT hm
 obtain⟨k,n⟩:=m
 cases k with
 | true=>exact⟨_,_,_,Wl K,rfl,⟨T.fY,_,_,_,T.az7,aA1 T,T.Vy.b⟩,by decide,λa b Q ha hb q=>⟨_,n,a,b,rfl,T.fY,T.yd,CV hm,ha,hb,q⟩⟩
 | false =>
  have yh:n<=64:=hF.hi
  refine⟨_,_,_,Wn K,rfl,⟨T.gE,_,_,_,T.au9,av1 T,T.Vz.b⟩,by decide,λa b Q ha hb q=>?_⟩
  have ha':a<n:=ha
  have CL:b<n:=hb
  refine⟨_,n,a,b,rfl,T.gE,T.vX,by omega,gi.ok (.inr ⟨by omega,by omega⟩),?_⟩
  have e:((gm (false,n) a b:Nat):Int)=(a:Int)*b%n:=by
   show((a*b%n:Nat):Int)=_
   rw[yv,rT]
  rw[<-e];exact q
abbrev co2(t:gj)(P:Program)(w:World)(K:Frag)(mg:Str->Option Value)(base:Heap):bg:=λds Q=>∃(m:Bool × Nat) (c:List Nat) (os:List (List Nat)),ds=[fD t.aQ t.aU m,.lst false (ay c),.lst false (aE false os)]/\m∈aA/\nul c=false/\c.length<=64/\AllLt (aa m) c/\RT (aa m) c.length os/\os.length<=1000/\Q (.lst true (aE true (gT m c os)))
theorem co6(T:Txt K mg t):aO P w K mg base aS 3 t.Uw t.Ux ["field","column","others"] (bo (co2 t P w K mg base)):=by
 refine bz T.VA.F xY ?_ ?_
 ·intro ds Q h
  obtain⟨m,c,os,rfl,hm,hn,hc,LP,qF,hol,q⟩:=h<;>rfl
 ·intro aG A outer s H E hr
  refine⟨_,(aC (aP (i:=3) xY.nd rfl (au rfl) (da (bt (ae (dS [] ["k","x"] rfl (xw rfl T.yg (ah (bv 1) av)) (λ_ _ _ _=>(Dt (i1:=0) (i2:=1) (show(["k","x"]:List Str).Nodup by decide +kernel))) (λ_ _ _ _=>(GX (cK (qj (eI hr)) (bv 1) (ae ao) (cj _)))) (λ_ _ _ _=>(da (bv 0))) rfl)) (ae ao) (λ_ _=>rfl))))
   (aC (aP (i:=4) xY.nd rfl (au rfl) (qq (P:=P) (w:=w) (K:=K) (mg:=mg) (base:=base) (n:=2) (bv 0) (hr.mono (by decide)) (ah (ae ao) (ah (bt (bv 1) (bv 3) (λ_ _=>rfl)) av))))
   (aC (aP (i:=5) xY.nd rfl (au rfl) (dm cA))
   (aC (eU dy rfl (zx (da (bv 2))) (fw (i:=6) xY.nd rfl (au rfl))
    (aC (aP (i:=7) xY.nd rfl (au rfl) (qq (P:=P) (w:=w) (K:=K) (mg:=mg) (base:=base) (n:=1) (bv 0) (hr.mono (by decide)) (ah (bv 6) (ah (ae (qq (P:=P) (w:=w) (K:=K) (mg:=mg) (base:=base) (n:=1) (bv 0) (hr.mono (by decide)) (ah (bt (bv 6) (bv 3) (λ_ _=>rfl)) (ah (bv 4) av)))) (ah (bv 1) av)))))
    (aH (ot (i:=5) rfl (by first | exact au rfl | exact bB (au rfl)) (az cm (ae (xx (bv 7) vz (ql (bv 3)))) (ae (xx (bv 7) (ql (ae (az cm (bv 3) (ae ao)))) vz)))))))
   (aH (aZ (em 5))))))),λds Q h=>?_⟩
  obtain⟨m,c,os,rfl,hm,hn,hc,LP,qF,hol,q⟩:=h
  have fv:=(cT hm).lo
  obtain⟨pl,pn⟩:=IA hn
  have cp:=LP.getD (show 0<aa m by omega) (aV c)
  have cx:∃x∈c,x≠0:=⟨_,bT pl 0,pn⟩
  refine aB λU hU=>?_
  nofun
  refine HX (aw c.length) (λ(i:Nat)=>D.tup [.int (i:Int),.int ((c.getD i 0:Nat):Int)]) (λ(i:Nat)=>D.int (i:Int)) (λi=>c.getD i 0 != 0) (Q7 c) (λa b h=>by injection h with h;simp at h;omega) (λi hi=>?_) (.inr λ_ _ _=>rfl) (by rw[bC,sL];omega) ?_
  ·nofun
   refine⟨?_,λ_=>trivial⟩
   by_cases h0:c.getD i 0=0
   ·rw[h0];rfl
   ·rw[decide_eq_false (by omega),bne_iff_ne.mpr h0];rfl
  dsimp only
  refine⟨.int (aV c:Nat),L3.Ho (k:=0) (by rw[bN,Q8 cx];rfl),rfl,hU _ ?_⟩
  clear hU U
  refine aB λU hU=>?_
  nofun
  refine⟨_,_,_,_,xJ _ _ m,V6 T m,QU m _ (by decide),.int (c.getD (aV c) 0:Nat),by rw[qu (by omega) (by omega),ft],m,1,c.getD (aV c) 0,by rw[xJ];rfl,hm,fv,cp,λz=>absurd z pn,λ_ iv Wo IB=>?_⟩
  have ei:rC m (c.getD (aV c) 0)=iv:=CZ hm Wo IB
  refine⟨rfl,hU _ ?_⟩
  clear hU U
  refine aB λU hU=>?_
  nofun
  refine⟨by decide,hU _ ?_⟩
  clear hU U
  refine aB λU hU=>?_
  nofun
  refine iH.mk (λi δ=>∃o6 o7,δ=[some (fD t.aQ t.aU m),some (D.lst false (ay c)),some (D.lst false (aE false os)),some (D.int (aV c)),some (D.int iv),some (D.lst true (aE true (gT m c (os.take i)))),o6,o7]) ⟨_,_,rfl⟩ ?_ ?_
  ·rintro i d δ hd ⟨o6,o7,rfl⟩
   obtain⟨hi,rfl⟩:=b78 hd
   clear hd hU
   obtain⟨ol,oa⟩:=qF _ (eN hi)
   have op:=oa.getD (show 0<aa m by omega) (aV c)
   obtain⟨C,ns,xs,sp,e1,e2,e3,e4⟩:=LG (P:=P) (w:=w) (base:=base) T hm
   refine aB λU hU=>?_
   nofun
   obtain⟨C1,n1,x1,sp1,g1,g2,g3,g4⟩:=cu9 (P:=P) (w:=w) (base:=base) T hm
   refine⟨C,ns,xs,sp,e1,e2,e3,C1,n1,x1,sp1,g1,g2,g3,.int (os[i].getD (aV c) 0:Nat),by rw[qu (by omega) (by omega),ft],g4 _ iv _ op Wo ⟨rfl,e4 os[i] c (gm m (os[i].getD (aV c) 0) iv) _ (bX hm _ _) LP (by omega) ⟨rfl,hU _ ?_⟩⟩⟩
   clear hU
   have ep:gT m c (os.take (i+1))=gT m c (os.take i)++[(eO (λx y=>bq m x (gm m (gm m (os[i].getD (aV c) 0) iv) y)) os[i] c).take (aV c)++(eO (λx y=>bq m x (gm m (gm m (os[i].getD (aV c) 0) iv) y)) os[i] c).drop (aV c+1)]:=by
    unfold gT
    rw[rQ,aJ hi,Nf,dw,bR,gv,ei]
   rw[ep]
   have ll:(eO (λx y=>bq m x (gm m (gm m (os[i].getD (aV c) 0) iv) y)) os[i] c).length<=64:=by rw[qO];omega
   generalize eO (λx y=>bq m x (gm m (gm m (os[i].getD (aV c) 0) iv) y)) os[i] c=lf at ll ⊢
   have pl2:(gT m c (os.take i)).length<=1000:=by rw[ID,jm];omega
   nofun
   rw[P6,show((aV c:Int)+1)=((aV c+1:Nat):Int) by omega,Hs]
   exact⟨⟨_,rfl⟩,by rw[jm,jT];omega,by omega,_,_,vK true _ [lf.take (aV c)++lf.drop (aV c+1)],rfl,rfl⟩
  ·rintro δ ⟨o6,o7,rfl⟩
   refine hU _ ?_
   nofun
   rw[uS]
   exact q
def fZ(o:Bool)(l:List Cs):List D:=l.map λs=>.tup [.lst o (ay s.1),.lst o (aE o s.2)]
theorem Wq(o:Bool)(l:List Cs):(fZ o l).map D.sh=fZ false l:=by
 unfold fZ
 rw[bO]
 refine jq λs _=>?_
 show(D.tup [.lst o (ay s.1),.lst o (aE o s.2)]).sh=_
 rw[iF,bR,bR,gv,CW,cE,cY]
theorem cp8(l:List Cs):(fZ false l).all D.pl=true:=by
 rw[bZ]
 intro d hd
 obtain⟨s,_,rfl⟩:=aT.mp hd
 show(D.tup [.lst false (ay s.1),.lst false (aE false s.2)]).pl=true
 rw[hJ,cH,cH,eR,eR,je,jh];rfl
theorem cc7(o:Bool)(a b:List Cs):fZ o a++fZ o b=fZ o (a++b):=by unfold fZ;rw[dw]
theorem cu8{o:Bool}{l:List Cs}{i:Nat}{d:D}(hd:(fZ o l)[i]?=some d):∃hi:i<l.length,d=.tup [.lst o (ay l[i].1),.lst o (aE o l[i].2)]:=by
 unfold fZ at hd
 rw[bN]at hd
 by_cases hi:i<l.length
 ·rw[aJ hi]at hd
  exact⟨hi,(de hd).symm⟩
 ·rw[gx (by omega)]at hd;cases hd
theorem b83(o:Bool)(l:List Cs):dR 6 (.lst o (fZ o l))=true:=by
 show(fZ o l).all (dR 5)=true
 rw[bZ]
 intro d hd
 obtain⟨s,_,rfl⟩:=aT.mp hd
 show([D.lst o (ay s.1),.lst o (aE o s.2)]).all (dR 4)=true
 rw[cH,cH,Ab 3 o s.1,Q5 2 o o s.2];rfl
theorem b68{m:Bool × Nat}{c:List Nat}{os:List (List Nat)}{N:Nat}(h:∀o∈os,o.length<=N):∀x∈gT m c os,x.length<=N:=λx hx=>by
 obtain⟨o,ho,rfl⟩:=aT.mp hx
 have:=h o ho
 rw[df,jm,jT,qO]
 omega
def nQ(l:List Cs):Nat:=(l.map λs=>2 ^ s.2.length).sum
theorem LQ(a b:List Cs):nQ (a++b)=nQ a+nQ b:=by unfold nQ;rw[dw,E6]
theorem Wr:∀l:List Cs,(dG l).length<=nQ l
 | []=>jl _
 | s::l=>by
  have ih:=Wr l
  have h1:=Nat.lt_two_pow_self (n:=s.2.length)
  show(fF s++dG l).length<=2 ^ s.2.length+nQ l
  rw[df,show(fF s).length=s.2.length by unfold fF;rw[aR,bC]]
  omega
theorem Ws(m:Bool × Nat)(w:Nat)(s:Cs):∀i,i<=s.2.length->nQ (((aw i).map λi=>(s,i)).map (gU m w))+2 ^ (s.2.length-i)=2 ^ s.2.length
 | 0,_=>Ff _
 | i+1,h=>by
  have ih:=Ws m w s i (by omega)
  rw[pS,dw,dw,LQ]
  have e:nQ (([i].map λi=>(s,i)).map (gU m w))=2 ^ (s.2.length-(i+1)):=by
   show 2 ^ (gT m _ (s.2.drop (i+1))).length+0=_
   rw[ID,jT];rfl
  rw[e]
  have:2 ^ (s.2.length-i)=2 ^ (s.2.length-(i+1))*2:=by rw[<-nU];congr 1;omega
  omega
theorem Wt(m:Bool × Nat)(w:Nat):∀l:List Cs,nQ ((dG l).map (gU m w))<=nQ l
 | []=>bG _
 | s::l=>by
  have ih:=Wt m w l
  have h1:=Ws m w s s.2.length (bG _)
  show nQ ((fF s++dG l).map (gU m w))<=2 ^ s.2.length+nQ l
  rw[dw,LQ]
  exact Nat.add_le_add (by rw[<-h1];exact Nat.le_add_right ..) ih
def cO9:Option (List Nat)->D
 | some l=>.lst true (ay l)
 | none=>.aq
abbrev aE7(t:gj)(P:Program)(w:World)(K:Frag)(mg:Str->Option Value)(base:Heap):bg:=λds Q=>∃(m:Bool × Nat) (G:List (List Nat)),ds=[fD t.aQ t.aU m,.lst false (aE false G)]/\m∈aA/\G.length<=64/\RT (aa m) (af G) G/\0<af G/\af G<=12/\Q (cO9 (rE m G))
theorem aE8(T:Txt K mg t):aO P w K mg base aS 4 t.Uy t.Uz ["field","table"] (bo (aE7 t P w K mg base)):=by
 refine bz T.D7.F uH ?_ ?_
 ·intro ds Q h
  obtain⟨m,G,rfl,hm,hG,hR,Eu,hw,q⟩:=h<;>rfl
 ·intro aG A outer s H E hr
  refine⟨_,(aC (aP (i:=2) uH.nd rfl (au rfl) (bA T.vU (Eo T) hr (ah (bv 1) av)))
   (aC (aP (i:=3) uH.nd rfl (au rfl) (dm (cP (ud (cP (dm cA) (cP (bA T.Vw (aM1 T) hr (ah (bv 1) av)) cA))) cA)))
   (aC (xk dy (cK (qj (eI hr)) (bv 3) (ae (dm cA)) (cj _))
    (aC (aP (i:=4) uH.nd rfl (au rfl) (dm cA))
    (zu 3 (aC (eU dy rfl (zx (da (bv 3))) (vD (i1:=5) (i2:=6) rfl uH.nd rfl (au rfl) rfl (au rfl))
     (aH (eU dy rfl (xw rfl T.yg (ah (bv 6) av)) (vD (i1:=7) (i2:=8) rfl uH.nd rfl (au rfl) rfl (au rfl))
      (aC (aP (i:=9) uH.nd rfl (au rfl) (az cm (bv 5) (ae (dm (cP (az cm (ae (az dq (bv 2) (ae (dE (hZ) (by rfl) T.gX gK (ah (bv 6) av))))) (bv 7)) cA)))))
      (aC (eH (ub (ae (bA T.Vx (aJ8 T) hr (ah (bv 8) av)))) (aH (aZ (em 9))) eG)
      (aH (ot (i:=4) rfl (by first | exact au rfl | exact bB (au rfl)) (ud (cP (em 9) (cP (bA T.VA (co6 T) hr (ah (bv 0) (ah (bv 8) (ah (ae (xx (bv 6) (ql (ae (az cm (bv 7) (ae ao)))) vz)) av)))) cA))))))))))
    (aH (aP (i:=3) uH.nd rfl (au rfl) (em 4)))))))
   (aH (aZ GQ))))),λds Q h=>?_⟩
  obtain⟨m,G,rfl,hm,hG,hR,Eu,hw,q⟩:=h
  have fv:=(cT hm).lo
  refine aB λU hU=>?_
  nofun
  refine⟨G,rfl,by omega,λr bF=>by rw[(hR r bF).1];omega,hU _ ?_⟩
  clear hU U
  refine aB λU hU=>?_
  nofun
  refine⟨by decide,G,rfl,by omega,λr bF=>(hR r bF).1,by omega,by decide,by decide,hU _ ?_⟩
  clear hU U
  have Ls:=Lv.start hm Eu hR
  refine aB λU hU=>?_
  nofun
  refine⟨λn δ=>∃(l:List Cs) (k:Nat) (o4 o5 o6 o7 o8 o9:Option D),δ=[some (fD t.aQ t.aU m),some (D.lst false (aE false G)),some (D.int (af G)),some (D.lst true (fZ true l)),o4,o5,o6,o7,o8,o9]/\Lv m (ik G) (af G) k l/\k+n=af G+1/\vN m (af G) n l=rE m G/\nQ l<=4096/\∀s∈l,∀r∈s.2,r.length<=64,⟨af G+1,[([],cV G)],0,_,_,_,_,_,_,rfl,Ls,by omega,rfl,?_,λs hs r bF=>?_⟩,?_⟩
  ·show 2 ^ (cV G).length+0<=4096
   rw[(uv (by omega) Eu hR).1]
   exact jW (by decide) hw
  ·rw[dh.mp hs]at bF
   have:=((uv (by omega) Eu hR).2.2 r bF).1
   omega
  rintro n δ ⟨l,k,o4,o5,o6,o7,o8,o9,rfl,L,hk,LR,hll,Wu⟩
  nofun
  refine⟨by decide,⟨b83 true l,rfl⟩,?_⟩
  by_cases l0:l=[]
  ·subst l0
   rw[show bP (D.lst true (fZ true [])) (D.lst true [])=true from rfl,if_neg (by decide)]
   refine hU _ ?_
   nofun
   have e0:rE m G=none:=by
    rw[<-LR]
    cases n with
    | zero=>rfl
    | succ n=>rfl
   rw[e0]at q
   exact q
  have d0:bP (D.lst true (fZ true l)) (D.lst true [])=false:=by
   cases l with
   | nil=>exact absurd rfl l0
   | cons s l=>rfl
  rw[d0,if_pos (by decide)]
  have LS:∀s∈l,iQ (af G) s.1/\s.2.length<=12:=λs hs=>by
   have g:=(L.gs s hs).1
   have gl:=g.le
   exact⟨⟨g.inc,λx hx=>by have:=g.off x hx;omega⟩,by omega⟩
  obtain⟨n,rfl⟩:∃n',n=n'+1:=by
   cases n with
   | succ n=>exact⟨n,rfl⟩
   | zero =>
    exfalso
    cases l with
    | nil=>exact l0 rfl
    | cons s l =>
     have h1:=(LS s (ir ..)).1.len
     have h2:=(L.gs s (ir ..)).2
     omega
  clear hU
  have dJ6:∀a,(dG (l.take a)).length<=4096:=λa=>by
   have h1:=Wr (l.take a)
   have h2:=LQ (l.take a) (l.drop a)
   rw[Fn]at h2
   omega
  refine aB λU hU=>?_
  nofun
  refine⟨by decide,hU _ ?_⟩
  clear hU
  refine⟨_,rfl,?_⟩
  rw[cE,Wq]
  simp only[dZ,dY]
  refine aB λU hU=>?_
  nofun
  refine⟨cp8 l,?_⟩
  rw[Wq]
  refine iH.mk (λa δ=>(∀z∈dG (l.take a),sX z=false)/\∃o5 o6 o7 o8 o9,δ=[some (fD t.aQ t.aU m),some (D.lst false (aE false G)),some (D.int (af G)),some (D.lst false (fZ false l)),some (D.lst true (fZ true ((dG (l.take a)).map (gU m (af G))))),o5,o6,o7,o8,o9]) ⟨λz hz=>absurd hz jo,_,_,_,_,_,rfl⟩ ?_ ?_
  ·rintro a d δ hd ⟨uB,o5,o6,o7,o8,o9,rfl⟩
   obtain⟨ha,rfl⟩:=cu8 hd
   clear hd hU
   have hs:=eN ha
   obtain⟨gs,gk⟩:=L.gs _ hs
   obtain⟨hh,LU⟩:=gs.rt
   have g6:=(LS _ hs).2
   have et:dG (l.take (a+1))=dG (l.take a)++fF l[a]:=by
    unfold dG
    rw[rQ,aJ ha,Nf,Ys,List.flatMap_cons,List.flatMap_nil,fJ]
   rw[et]
   have Wv:=dJ6 (a+1)
   rw[et,df]at Wv
   generalize hS:l[a]=s0 at hs gs gk LU g6 et Wv ⊢
   have l1:(fF s0).length=s0.2.length:=by unfold fF;rw[aR,bC]
   nofun
   refine iH.mk (λi δ=>(∀z∈(fF s0).take i,sX z=false)/\∃o7 o8 o9,δ=[some (fD t.aQ t.aU m),some (D.lst false (aE false G)),some (D.int (af G)),some (D.lst false (fZ false l)),some (D.lst true (fZ true ((dG (l.take a)++(fF s0).take i).map (gU m (af G))))),some (D.lst false (ay s0.1)),some (D.lst false (aE false s0.2)),o7,o8,o9]) ⟨λz hz=>absurd hz jo,_,_,_,by rw[List.take_zero,fJ]⟩ ?_ ?_
   ·rintro i d δ hd ⟨Bc,o7,o8,o9,rfl⟩
    obtain⟨hi,rfl⟩:=HY hd
    clear hd
    obtain⟨cl,ca⟩:=LU _ (eN hi)
    have gc:s0.2.getD i []=s0.2[i]:=by rw[aF,aJ hi];rfl
    have gle:=gs.le
    have ei:(fF s0).take (i+1)=(fF s0).take i++[(s0,i)]:=by
     rw[rQ]
     congr 1
     unfold fF
     rw[bN,gI hi];rfl
    have hh6:hh<=64:=by have:=Wu _ hs _ (eN hi);omega
    have il1:=(LS _ hs).1.len
    simp only[fO,dZ,dY]
    refine aB λU hU=>?_
    nofun
    have eb:ay s0.1++[D.int ((af G:Int)-(s0.2.length:Int)+(i:Int))]=ay (nG (af G) (s0,i)):=by
     unfold nG
     rw[dF,dF,dw]
     show _=_++[D.int ((af G-s0.2.length+i:Nat):Int)]
     rw[show(af G:Int)-(s0.2.length:Int)+(i:Int)=((af G-s0.2.length+i:Nat):Int) by omega]
    rw[eb]
    refine⟨by decide,by omega,hU _ ?_⟩
    clear hU
    refine aB λU hU=>?_
    nofun
    refine⟨s0.2[i],rfl,by omega,nul s0.2[i],rfl,?_⟩
    cases hz:nul s0.2[i]with
    | true =>
     rw[if_pos rfl]
     have ef:rE m G=some (nG (af G) (s0,i)):=by
      rw[<-LR,vN,if_neg l0]
      have:(dG l).find? sX=some (s0,i):=by
       refine Ye.mpr ⟨by show nul (s0.2.getD i [])=true;rw[gc];exact hz,dG (l.take a)++(fF s0).take i,(fF s0).drop (i+1)++dG (l.drop (a+1)),?_,λz Ak=>?_⟩
       ·have e1:dG l=dG (l.take (a+1))++dG (l.drop (a+1)):=by
         conv=>lhs;rw[<-Fn (a+1) l]
         unfold dG
         rw[Ys]
        have e2:fF s0=(fF s0).take i++(s0,i)::(fF s0).drop (i+1):=by
         conv=>lhs;rw[<-Fn (i+1) (fF s0),ei,eM]
         rfl
        rw[e1,et]
        conv=>lhs;rw[e2]
        simp only[eM,lj]
       ·have:=(bV.mp Ak).elim (uB z) (Bc z)
        rw[this];rfl
      rw[this];rfl
     rw[ef]at q
     exact q
    | false =>
     rw[if_neg (by decide)]
     refine hU _ ?_
     clear hU
     nofun
     rw[show((i:Int)+1)=((i+1:Nat):Int) by omega,Hs,ei]
     refine⟨⟨_,rfl⟩,m,s0.2[i],s0.2.drop (i+1),rfl,hm,hz,by omega,ca,λr bF=>by rw[cl];exact LU r (rS bF),by rw[jT];omega,by rw[eE,vJ];rfl,by decide,?_,λz Ak=>?_,_,_,_,?_,rfl,rfl,rfl⟩
     ·unfold fZ
      rw[aR,aR,df,jm]
      omega
     ·rcases bV.mp Ak with y | y
      ·exact Bc z y
      ·rw[dh.mp y]
       show nul (s0.2.getD i [])=false
       rw[gc];exact hz
     ·rw[<-eM,dw (l₁:=dG (l.take a)++(fF s0).take i),<- cc7]
      congr 1
      show _=[D.tup [.lst true (ay (gU m (af G) (s0,i)).1),.lst true (aE true (gU m (af G) (s0,i)).2)]]
      show _=[D.tup [.lst true (ay (nG (af G) (s0,i))),.lst true (aE true (gT m (s0.2.getD i []) (s0.2.drop (i+1))))]]
      rw[gc]
   ·rintro δ ⟨Bc,o7,o8,o9,rfl⟩
    rw[show(iM (aE false s0.2)).length=(fF s0).length by rw[vC,gu,l1],uS]at Bc ⊢
    exact⟨λz hz=>(bV.mp hz).elim (uB z) (Bc z),_,_,_,_,_,rfl⟩
  ·rintro δ ⟨uB,o5,o6,o7,o8,o9,rfl⟩
   refine hU _ ?_
   clear hU
   rw[show(fZ false l).length=l.length by unfold fZ;rw[aR],uS]at uB ⊢
   nofun
   have hf:(dG l).find? sX=none:=Nv.mpr λz hz=>by rw[uB z hz];decide
   refine⟨n,by omega,_,k+1,_,_,_,_,_,_,⟨rfl,rfl,rfl,rfl,rfl,rfl,rfl⟩,L.next hm (RY hm hR) uB,by omega,?_,?_,λs hs r bF=>?_⟩
   ·rw[<-LR,vN,if_neg l0,hf]
   ·exact cQ (Wt m (af G) l) hll
   ·obtain⟨z,hz,rfl⟩:=aT.mp hs
    exact b68 (λo ho=>Wu _ (xN.mp hz).1 o (rS ho)) r bF
abbrev by9(t:gj):List D->List Str->List D->Prop:=λds ns xs=>∃(m:Bool × Nat) (G:List (List Nat)) (Fb:List Nat),ds=[fD t.aQ t.aU m,.lst false (aE false G)]/\cW m G/\1<=G.length/\G.length<=12/\2<=af G/\af G<=12/\rE m G=some Fb/\ns=(["field","length","check_rows","word_rows","message_places","size","bound"]:List Str)/\xs=sY t.aQ t.aU true m G++[.int (Fb.length:Nat)]
theorem Ww(T:Txt K mg t)(hB:Bm mg base):aO P w K mg base aS 5 t.KJ t.UA ["self","field","table"] (II [t.jQ,t.jR] t.cB (by9 t)):=by
 refine T.KY.F.ok az5 (λvs H Q E h=>?_) λaG A outer s H vs Q E hr h=>?_
 ·obtain⟨F,H0,x,dx,b8,ds,ns,xs,rfl,_,_,_,_,_,r,⟨m,G,Fb,rfl,_⟩,_⟩:=h
  have:=r.length
  simp at this
  simp[this]
 obtain⟨F,H0,x,dx,b8,ds,ns,xs,rfl,tb,e0,ku,s0,hx,r,⟨m,G,Fb,rfl,hc,g1,Ba,w2,w6,hF,rfl,rfl⟩,q⟩:=h
 have hm:=hc.hm
 have hG:=hc.rt
 obtain⟨vf,Wx,B1,B2,rfl,LV,rf,r2⟩:=R.cX r
 obtain⟨rfl,rfl⟩:=wt.mp LV.symm
 obtain⟨vc,GJ,B1,B2,rfl,dJ8,rc,r3⟩:=R.cX r2
 obtain⟨rfl,rfl⟩:=wt.mp dJ8.symm
 cases r3
 refine⟨_,fk (wQ (BV (BR (lK ((aA0 T).mono (by decide)) hr rfl T.D4.g T.D4.F.kp T.D4.b .nil dH (cy (pv 1) (cy (pv 2) ff))))) (oi wU) wO)
  (fk (wQ (cK (i9 (eI hr)) (ae (xj ((cp4 T).mono (by decide)) hr rfl T.D6.g T.D6.F.kp T.D6.b dH (ah (bv 1) (ah (bv 2) av)))) (ae (dE (hZ) (by rfl) T.gX gK (ah (bt (bv 2) (ae ao) (λ_ _=>rfl)) av))) (cj _)) (oi wU) wO)
  (fk (tV (R3 (E:=E0) T.VJ ((Wf T).mono (by decide)) hr T.KU.b dH rfl T.Ei (cy (pv 0) (cy (pv 1) (cy (pv 2) ff)))))
  (oi (iE (pv 0) (dE (hZ) (by rfl) T.gX gK (ah (ae (xj ((aE8 T).mono (by decide)) hr rfl T.D7.g T.D7.F.kp T.D7.b dH (ah (bv 1) (ah (bv 2) av)))) av)) rfl)))),?_⟩
 try dsimp only[ib,ie]
 refine⟨_,rfl,_,rfl,F,[fD t.aQ t.aU m,.lst false (aE false G)],λd=>d=.bl true,e0.trans s0,R.cons (A:=[]) (rf.shared (L3.ag.refl _) s0) (rc.shared (L3.ag.refl _) s0),⟨m,G,rfl,hm,hG,g1,Ba,w2,by omega,rfl⟩,λd v F1 H1 A1 hd gF LJ LL h31 r1 nd1 fr1=>?_⟩
 subst hd
 cases r1
 refine⟨true,rfl,?_⟩
 refine lN ?_
 have s1:=s0.trans gF
 have du:=gF.get _ _ hx rfl
 have nr:(bL m G).length≠af G:=λz=>by
  obtain⟨⟨Hd,I⟩,iR⟩:=hc.red
  have:=I.Aj hm iR
  have h0:=hc.sz
  unfold aX at h0
  omega
 refine⟨⟨H1,F⟩,F,[none,some (fD t.aQ t.aU m),some (.lst false (aE false G))],[],λb _=>b=false,ak.self (e0.trans s1) (.dO (A:=[]) (C:=[]) (rf.shared (L3.ag.refl _) s1) (.dO (A:=[]) (C:=[]) (rc.shared (L3.ag.refl _) s1) .nil)),?_,λb ai F2 H2 hb hf2 dD c2=>?_⟩
 ·nofun
  refine⟨m,G,rfl,hm,by omega,hG,by omega,?_⟩
  obtain⟨g,G',rfl⟩:∃g G',G=g::G':=by
   cases G with
   | nil=>exact absurd g1 (by decide)
   | cons g G'=>exact⟨g,G',rfl⟩
  refine⟨.lst false (ay g),Ac false (T:=g::G') (i:=0) (yy _),kH 5 ((bL m (g::G')).length:Nat),?_⟩
  rw[ia,fQ]
  exact decide_eq_false λz=>nr (Int.ofNat.inj z)
 subst hb
 refine lN ?_
 have s2:=s1.trans dD
 have eV:=dD.get _ _ du rfl
 refine⟨.ref x,rfl,vf,rfl,vc,rfl,F,H0,x,dx,t.cB,vf,vc,m,G,[],rfl,e0,ku,s2,eV,.nil,⟨T.ye,T.AH,T.AI,T.Ld,T.AK,T.Le,T.AJ⟩,rf,rc,hm,hG,by omega,by omega,λH' p1 p2 p3 B1 B2 B3 sx dW k1 k2 k3 nd fr=>?_⟩
 have so:=bQ.of0 ku s2 sx
 refine⟨⟨H',F⟩,F,[none,some (fD t.aQ t.aU m),some (.lst false (aE false G))],[],λd _=>d=.int (Fb.length:Nat),ak.self (e0.trans so) (.dO (A:=[]) (C:=[]) (rf.shared (L3.ag.refl _) so) (.dO (A:=[]) (C:=[]) (rc.shared (L3.ag.refl _) so) .nil)),?_,λd ai v F3 H3 hd AZ iT c3=>?_⟩
 ·nofun
  refine⟨m,G,rfl,hm,by omega,hG,by omega,w6,?_⟩
  rw[hF]
  show(((ay Fb).length:Nat):Int)=_
  rw[fQ]
 subst hd
 obtain⟨A3,C3,r3,_,nd3,_⟩:=c3.own
 obtain rfl:v=.int (Fb.length:Nat):=by cases r3;rfl
 have fq:=iT.get _ _ dW rfl
 refine⟨.ref x,rfl,x,t.cB,dx,_,rfl,fq,T.ye,T.Lc,by show 6<1000;decide,?_⟩
 have mv:∀{ds:List D} {vs:List V} {A':List Addr} {fs':List (Str × V)},R (λ_=>none) H' ds vs A'->ds.all D.fr=true->R (λ_=>none) (upd H3 x (.ins t.cB dx fs')) ds vs A':=λr hd=>(r.grow (L3.ag.refl _) iT λa ha=>(r.lists a ha).2).vI fq hd
 have fR:∀X:List (List Nat),[D.lst true (aE true X)].all D.fr=true:=λX=>by rw[cH,eE,vJ];rfl
 have fN:∀X:List Nat,[D.lst true (ay X)].all D.fr=true:=λX=>by rw[cH,jK];rfl
 have z:=((((gF.trans dD).x (x:=x)).trans sx).trans (iT.x (x:=x))).trans (bQ.upd (C:=x) (dx:=dx) fq rfl (o':=.ins t.cB dx (bE "bound" (.int (Fb.length:Nat)) ([]++uC.zip [vf,.int (af G:Nat),.ref p1,.ref p2,.ref p3,.int ((aX m G).length:Nat)]))))
 refine q _ [vf,.int (af G:Nat),.ref p1,.ref p2,.ref p3,.int ((aX m G).length:Nat),.int (Fb.length:Nat)] (B1++(B2++(B3++[]))) z (by rw[bS];rfl) rfl ?_ ?_ ?_
 ·have e:=e0.trans s0
  have up:∀{yi:Hp} {ds:List D} {vs:List V} {B:List Addr},R (λ_=>none) yi ds vs B->(∀a∈B,H2 a=none)->R F yi ds vs B:=λr h=>r.keep (L3.ag.of λb o e=>by cases e) (gL.same (L3.ag.refl _)) iG.nil (λa ha=>e.free ((gF.trans dD).free (h a ha))) (by simp)
  exact R.cons (A:=[]) (rf.shared (L3.ag.refl _) (bQ.of0 ku s0 z)) (.int (R.cons (up (mv k1 (fR _)) λa ha=>fr a (fI _ ha)) (R.cons (up (mv k2 (fR _)) λa ha=>fr a (dv _ (fI _ ha))) (R.cons (up (mv k3 (fN _)) λa ha=>fr a (dv _ (dv _ ha))) (.int (.int .nil))))))
 ·rw[fJ];exact nd
 ·rw[fJ]
  intro a ha
  exact(gF.trans dD).free (fr a ha)
def v3(M n e f:Int):Prop:=2<=n/\n<=M-1/\1<=e/\e<=n-1/\0<=f/\f<=M-2
instance (M n e f:Int):Decidable (v3 M n e f):=by unfold v3;infer_instance
abbrev ay1:bg:=λds Q=>∃(M n e f:Int),ds=[.int M,.int n,.int e,.int f]/\Q (.bl (decide (v3 M n e f)))
theorem ay2(T:Txt K mg t):aO P w K mg base aS 1 t.UB t.UC ["many","length","extra","first"] (bo (ay1 )):=by
 refine bz T.D8.F av5 ?_ ?_
 ·intro ds Q h
  obtain⟨M,n,e,f,rfl,q⟩:=h<;>rfl
 ·intro aG A outer s H E hr
  refine⟨_,(aH (aZ (rj (ae (xu jF jF (ae ao) (bv 1) (ae (az dq (bv 0) (ae ao))))) (rj (ae (xu jF jF (ae ao) (bv 2) (ae (az dq (bv 1) (ae ao))))) (u5 (xu jF jF (ae ao) (bv 3) (ae (az dq (bv 0) (ae ao))))))))),λds Q h=>?_⟩
  obtain⟨M,n,e,f,rfl,q⟩:=h
  nofun
  have z:∀b:Bool,(b=true↔v3 M n e f)->Q (.bl b):=λb h=>by rw[show b=decide (v3 M n e f) by rw[tL,decide_eq_true_eq];exact h];exact q
  unfold v3 at z
  repeat' split
  all_goals exact z _ (by simp only[decide_eq_true_eq,nZ,false_iff];omega)
abbrev bA8(t:gj):List D->List Str->List D->Prop:=λds ns xs=>∃(m:Bool × Nat) (n e f:Nat),ds=[fD t.aQ t.aU m,.int n,.int e,.int f]/\m∈aA/\2<=n/\n+1<=aa m/\1<=e/\e+1<=n/\f+2<=aa m/\ns=(["extra","first","field","length","check_rows","word_rows","message_places","size"]:List Str)/\xs=[.int e,.int f]++sY t.aQ t.aU true m (fW m f (aw n) e)
theorem aB8(T:Txt K mg t)(hB:Bm mg base):aO P w K mg base aS 5 t.KL t.KN ["self","field","length","extra","first"] (II [t.jQ,t.jR] t.bY (bA8 t)):=by
 refine T.dx6.ok S2 (λvs H Q E h=>?_) λaG A outer s H vs Q E hr h=>?_
 ·obtain⟨F,H0,x,dx,b8,ds,ns,xs,rfl,_,_,_,_,_,r,⟨m,n,e,f,rfl,_⟩,_⟩:=h
  have:=r.length
  simp at this
  simp[this]
 obtain⟨F,H0,x,dx,b8,ds,ns,xs,rfl,tb,e0,ku,s0,hx,r,⟨m,n,e,f,rfl,hm,h1,h2,h3,h4,h5,rfl,rfl⟩,q⟩:=h
 have nO:=(cT hm).hi
 obtain⟨vf,Wx,B1,B2,rfl,LV,rf,r2⟩:=R.cX r
 obtain⟨rfl,rfl⟩:=wt.mp LV.symm
 obtain rfl:Wx=[.int n,.int e,.int f]:=by
  cases r2 with
  | int r=>cases r with
   | int r=>cases r with
    | int r=>cases r;rfl
 refine⟨_,fk (wQ (Cm (ub (ae (xj ((ay2 T).mono (by decide)) hr rfl T.D8.g T.D8.F.kp T.D8.b dH (ah (eW (K:=K) (bv 1)) (ah (bv 2) (ah (bv 3) (ah (bv 4) av)))))))) (oi wU) wO)
  (fk (iE (pv 0) (pv 3) rfl)
  (fk (iE (pv 0) (pv 4) rfl)
  (fk (cd8 (i:=5) S2.nd rfl (au rfl) [("field",1),("first",4),("length",2)] ["i"] rfl (fm rfl T.dM (ah (bv 3) av)) (λ_ _ _ _=>(fw (i:=3) (show(["field","first","length","i"]:List Str).Nodup by decide +kernel) rfl (bB rfl) (by decide) (au rfl))) (λ_ _ _ _=>dX) (by exact λ_ _ _ _=>(dS [("field",0),("first",1),("i",3)] ["j"] rfl (fm rfl T.dM (ah (bv 2) av)) (λ_ _ _ _=>(fw (i:=3) (show(["field","first","i","j"]:List Str).Nodup by decide +kernel) rfl (au (lookup_relabel_local rfl)) (by decide) (bB (lookup_relabel_local rfl)))) (λ_ _ _ _=>dX) (λ_ _ _ _=>(qq (P:=P) (w:=w) (K:=K) (mg:=mg) (base:=base) (n:=1) (bv 0) (hr.mono (by decide)) (ah (ae (az dQ (ae (az cm (bv 1) (bv 2))) (bv 3))) av))) rfl)) rfl ⟨rfl,⟨rfl,⟨rfl,trivial⟩⟩⟩ (λ_=>by repeat' (first | exact trivial | refine⟨.inl rfl,?_⟩ | refine⟨.inr (.inl rfl),?_⟩ | refine⟨.inr (.inr ⟨_,rfl⟩),?_⟩)) (λ_=>⟨⟨rfl,.inl rfl,.inl rfl,_,rfl,rfl⟩,⟨⟨rfl,.inl rfl,.inl rfl,_,rfl,rfl⟩,⟨⟨rfl,.inl rfl,.inl rfl,_,rfl,rfl⟩,trivial⟩⟩⟩) rfl (by decide +kernel))
  (oi (tV (R3 (E:=E0) T.VJ ((Wf T).mono (by decide)) hr T.KU.b dH rfl T.Ei (cy (pv 0) (cy (pv 1) (cy (pv 5) ff))))))))),?_⟩
 try dsimp only[ib,ie]
 refine⟨⟨H,F⟩,F,[none,some (fD t.aQ t.aU m),some (.int n),some (.int e),some (.int f),none],[],λb _=>b=false,ak.self (e0.trans s0) (.dO (A:=[]) (C:=[]) (rf.shared (L3.ag.refl _) s0) (.dO (A:=[]) (C:=[]) (.int .nil) (.dO (A:=[]) (C:=[]) (.int .nil) (.dO (A:=[]) (C:=[]) (.int .nil) (.aq .nil))))),?_,λb ai F1 H1 hb LJ gF c1=>?_⟩
 ·nofun
  exact Lz T m ⟨aa m,n,e,f,rfl,rfl,true,by rw[decide_eq_true (by unfold v3;omega)],rfl⟩
 subst hb
 refine lN ?_
 have s1:=s0.trans gF
 have du:=gF.get _ _ hx rfl
 refine⟨.int e,rfl,.ref x,rfl,x,t.bY,dx,_,rfl,du,T.AO,T.Lm,by decide,?_⟩
 have eV:upd H1 x (.ins t.bY dx (bE "extra" (.int e) [])) x=some (.ins t.bY dx [("extra",.int e)]):=by rw[bS];rfl
 have z2:=(gF.x (x:=x)).trans (bQ.upd (C:=x) (dx:=dx) du rfl (o':=.ins t.bY dx (bE "extra" (.int e) [])))
 generalize upd H1 x (.ins t.bY dx (bE "extra" (.int e) []))=H2 at z2 eV ⊢
 refine⟨.int f,rfl,.ref x,rfl,x,t.bY,dx,_,rfl,eV,T.AO,T.Ln,by show 1<1000;decide,?_⟩
 have fq:upd H2 x (.ins t.bY dx (bE "first" (.int f) [("extra",.int e)])) x=some (.ins t.bY dx [("extra",.int e),("first",.int f)]):=by rw[bS];rfl
 have z3:=z2.trans (bQ.upd (C:=x) (dx:=dx) eV rfl (o':=.ins t.bY dx (bE "first" (.int f) [("extra",.int e)])))
 generalize upd H2 x (.ins t.bY dx (bE "first" (.int f) [("extra",.int e)]))=H3 at z3 fq ⊢
 have s3:=bQ.of0 ku s0 z3
 obtain⟨g1,g2,g3⟩:=R9 hm f n (show 1<=e by omega)
 refine⟨⟨H3,F⟩,F,[none,some (fD t.aQ t.aU m),some (.int n),some (.int e),some (.int f),none],[],λd _=>d=.lst true (aE true (fW m f (aw n) e)),ak.self (e0.trans s3) (.dO (A:=[]) (C:=[]) (rf.shared (L3.ag.refl _) s3) (.dO (A:=[]) (C:=[]) (.int .nil) (.dO (A:=[]) (C:=[]) (.int .nil) (.dO (A:=[]) (C:=[]) (.int .nil) (.aq .nil))))),?_,λd ai v F4 H4 hd hf4 Bd c4=>?_⟩
 ·nofun
  refine⟨⟨by omega,by omega⟩,fP (aw e) (λ(i:Nat)=>D.int (i:Int)) (λ(i:Nat)=>D.lst true (ay ((aw n).map λ(p:Nat)=>eS m (((f:Int)+(i:Int))*(p:Int))))) (xM _ (by omega)) pF (λi hi=>?_) (.inr λ_ _=>jK _) (by rw[bC,sL];omega) ?_⟩
  ·have hi:=bw.mp hi
   nofun
   refine⟨⟨by omega,by omega⟩,fP (aw n) (λ(i:Nat)=>D.int (i:Int)) (λ(p:Nat)=>D.int ((eS m (((f:Int)+(i:Int))*(p:Int)):Nat):Int)) (xM _ (by omega)) pF (λp Cq=>?_) (.inr λ_ _=>rfl) (by rw[bC,sL];omega) ?_⟩
   ·have:=bw.mp Cq
    nofun
    obtain⟨C,ns,xs,sp,e1,e2,e3,e4⟩:=bE4 (P:=P) (w:=w) (base:=base) T hm (n:=((f:Int)+(i:Int))*(p:Int)) (Q:=λr=>r=D.int ((eS m (((f:Int)+(i:Int))*(p:Int)):Nat):Int)) rfl
    exact⟨C,ns,xs,sp,e1,e2,e3,gi.ok (.inl ⟨by omega,by omega⟩),e4⟩
   ·rw[dF,bO];rfl
  ·unfold fW aE
   rw[bO];rfl
 subst hd
 obtain⟨A4,C4,r4,_,Wy,LW⟩:=c4.own
 have r4:R F4 H4 [.lst true (aE true (fW m f (aw n) e))] [v] A4:=r4
 obtain⟨pc,rfl⟩:=An r4
 have kW:=Bd.get _ _ fq rfl
 have fR:∀X:List (List Nat),[D.lst true (aE true X)].all D.fr=true:=λX=>by rw[cH,eE,vJ];rfl
 have Ep:∀X:List (List Nat),[D.lst true (aE true X)].map D.sh=[D.lst false (aE false X)]:=λX=>by rw[bR,cE,cY];rfl
 have r4:=r4.xg (fR _) hf4
 have LW:∀a∈A4,H3 a=none:=λa ha=>LW a (fI _ ha)
 have Wy:=(i5.mp Wy).1
 have Wz:=s3.trans Bd
 have xA:x ∉ A4:=λz=>by rw[LW x z]at fq;cases fq
 have s5:L3.ag H0 (L3.bD H0 H4 A4):=ke Wz
 have e5:=e0.trans s5
 have r5:R F (L3.bD H0 H4 A4) [.lst true (aE true (fW m f (aw n) e))] [.ref pc] A4:=cr8 r4 λa ha=>by unfold L3.bD;rw[if_pos ha]
 refine⟨.ref x,rfl,vf,rfl,.ref pc,rfl,L3.bD F (L3.bD H0 H4 A4) A4,L3.bD H0 H4 A4,x,dx,t.bY,vf,.ref pc,m,fW m f (aw n) e,[("extra",.int e),("first",.int f)],rfl,vn e5,by rw[vo xA];exact ku,vn Wz,kW,.two _ _,⟨T.AO,T.Ec,T.Ed,T.Ll,T.Ef,T.Lo,T.Ee⟩,rf.shared (ke e5) s5,Ep _ ▸ r5.bD e5 A4 λ_ h=>h,hm,by rw[g3];exact g1,by omega,by omega,λH' p1 p2 p3 B1 B2 B3 sx dW k1 k2 k3 nd fr=>?_⟩
 have z:=(z3.trans (Bd.x (x:=x))).trans sx
 have so:=bQ.of0 ku s0 z
 have ee:=e0.trans s3
 refine q H' [.int e,.int f,vf,.int (af (fW m f (aw n) e):Nat),.ref p1,.ref p2,.ref p3,.int ((aX m (fW m f (aw n) e)).length:Nat)] (B1++(B2++(B3++[]))) z dW rfl ?_ ?_ ?_
 ·have up:∀{ds:List D} {vs:List V} {B:List Addr},R (λ_=>none) H' ds vs B->(∀a∈B,H4 a=none)->R F H' ds vs B:=λr h=>r.keep (L3.ag.of λb o e=>by cases e) (gL.same (L3.ag.refl _)) iG.nil (λa ha=>ee.free (Bd.free (h a ha))) (by simp)
  exact .int (.int (R.cons (A:=[]) (rf.shared (L3.ag.refl _) so) (.int (R.cons (up k1 λa ha=>fr a (fI _ ha)) (R.cons (up k2 λa ha=>fr a (dv _ (fI _ ha))) (R.cons (up k3 λa ha=>fr a (dv _ (dv _ ha))) (.int .nil)))))))
 ·rw[fJ];exact nd
 ·rw[fJ]
  intro a ha
  exact z3.free (by rw[fq];simp) (Bd.free (fr a ha))
theorem cd1(x:Int){M:Int}(h:0<M):∃k:Nat,x%M=k/\(k:Int)<M :=
 ⟨(x%M).toNat,by have:=iV x (show M≠0 by omega);omega,by have:=jr x h;omega⟩
theorem LX{m:Bool × Nat}(hm:m∈aA){G:List (List Nat)}(hR:RT (aa m) (af G) G)(h:G.length<af G)(hw:af G<=64):cW m G/\af G<=(aX m G).length+G.length:=by
 obtain⟨⟨H,I⟩,iR,_⟩:=jj hm hR
 have f:=I.Aj hm iR
 have r:=RC hm hR hR λi hi=>by
  rw[aF,aJ hi]
  exact b9.of (eN hi)
 unfold aX
 exact⟨⟨hm,hR,by omega,hw,by unfold aX;omega⟩,by omega⟩
theorem WA{m:Bool × Nat}(hm:m∈aA){G:List (List Nat)}(hR:RT (aa m) (af G) G)(h:G.length<af G):∃Fb,rE m G=some Fb:=by
 cases e:rE m G with
 | some Fb=>exact⟨Fb,rfl⟩
 | none=>exact absurd (cm2 hm (by omega) hR e (aw (af G)) (b05 (bG _))) (bP5 hm hR (by rw[bC];exact h))
def pP(r:Nat)(B:List (List Nat))(k:Nat):List (List Nat):=(aw k).map λi=>(aw r).map (λp=>if p=i then 1 else 0)++B.getD i []
def kX(O:List Nat)(B:List (List Nat)):List (List Nat):=B.map λrow=>O.map (cf row)
theorem cG0{m:Bool × Nat}(hm:m∈aA){r w:Nat}{B:List (List Nat)}(lB:B.length=r)(rB:RT (aa m) w B):RT (aa m) (r+w) (pP r B r)/\(pP r B r).length=r/\∀i j,i<r->j<r->cf ((pP r B r).getD i []) j=if i=j then 1 else 0:=by
 have lo:=lo1 hm
 refine⟨λx hx=>?_,by unfold pP;rw[aR,bC],λi j hi hj=>?_⟩
 ·obtain⟨i,hi,rfl⟩:=aT.mp hx
  have hi:=bw.mp hi
  have:=rB _ (bT (show i<B.length by omega) [])
  refine⟨by rw[df,aR,bC,this.1],λa ha=>?_⟩
  rcases bV.mp ha with z | z
  ·obtain⟨p,_,rfl⟩:=aT.mp z
   show(if p=i then 1 else 0)<_
   split<;>omega
  ·exact this.2 a z
 ·unfold pP
  rw[jL (λi=>(aw r).map (λp=>if p=i then 1 else 0)++B.getD i []) (by rw[bC];exact hi) 0 [],aF,gI hi,iz,Ir,if_pos (by rw[aR,bC];exact hj),uu _ hj]
  by_cases e:i=j
  ·rw[if_pos e,if_pos e.symm]
  ·rw[if_neg e,if_neg λz=>e z.symm]
theorem cs4{m:Bool × Nat}(hm:m∈aA){r n:Nat}{O:List Nat}{T:List (List Nat)}(hT:RT (aa m) n T)(lT:T.length=r)(rn:r<=n)(r1:1<=r)(hu:∀i j,i<r->j<r->cf (T.getD i []) j=if i=j then 1 else 0)(hO:O.Perm (aw n)):RT (aa m) n (kX O T)/\af (kX O T)=n/\(kX O T).length=r/\Own m n (kX O T) ((aw r).map O.idxOf):=by
 have lO:O.length=n:=by rw[hO.length_eq,bC]
 have rp:RT (aa m) n (kX O T):=λx hx=>by
  obtain⟨row,hr,rfl⟩:=aT.mp hx
  refine⟨by rw[aR,lO],λa ha=>?_⟩
  obtain⟨j,_,rfl⟩:=aT.mp ha
  exact cF hm (hT row hr).2 j
 have lp:(kX O T).length=r:=by unfold kX;rw[aR,lT]
 have mem:∀j,j<r->j∈O:=λj hj=>hO.mem_iff.mpr (bw.mpr (by omega))
 refine⟨rp,Al rp λz=>by rw[z]at lp;exact absurd lp (by show ¬ 0=r;omega),lp,⟨by rw[aR,bC,lp],λp hp=>?_,λi j hi hj=>?_⟩⟩
 ·obtain⟨j,hj,rfl⟩:=aT.mp hp
  have:=Ft.mpr (mem j (bw.mp hj))
  omega
 ·rw[lp]at hi hj
  have hx:=Ft.mpr (mem j hj)
  unfold kX
  rw[jL (λrow=>O.map (cf row)) (by rw[lT];exact hi) [] [],jL O.idxOf (by rw[bC];exact hj) 0 0,aF (l:=aw r),gI hj,iz,xQ hx,aF (l:=O),aJ hx,iz,Yn]
  exact hu i j hi hj
abbrev aJ9(t:gj):bg:=λds Q=>∃(m:Bool × Nat) (ns:List Int),ds=[.fz (ax ns),gR m]/\m∈aA/\∀(G:List (List Nat)) (k:Kd) (n e:Nat),cW m G->af G=n->2<=n->rJ (aa m) n=true->1<=e->e<n->(aX m G).length=n-e->aa m ^ (n-e)<=64->aa m ^ e<=64->Q (.tup [gY t m G k,.int n,.int e])
theorem aK0(T:Txt K mg t)(hB:Bm mg base):aO P w K mg base aS 11 t.UD t.UE ["_law_script","_law_told_here"] (vF [t.jQ,t.jR] (bo (aJ9 t))):=by
 refine CM T.D9.F tD ?_ ?_
 ·intro ds Q h
  obtain⟨m,ns,rfl,hm,q⟩:=h<;>rfl
 ·intro aG A outer s H E hT hr
  refine⟨_,(aC (aP (i:=2) tD.nd rfl (au rfl) (bA T.Vh (aG2 T) hr (ah (bv 0) (ah (bv 1) av))))
   (aC (aP (i:=3) tD.nd rfl (au rfl) (bA T.DV (LB T) hr (ah (bv 1) av)))
   (aC (aP (i:=4) tD.nd rfl (au rfl) (HD hT ((aG7 T hB).mono (by decide)) hr rfl T.D2.g T.D2.F.kp T.D2.b dH (ah (bv 1) av)))
   (aC (eH (PW.pt (cJ8 (cK (i9 (eI hr)) (ae (az fo (ae (bA T.pM (qK T) hr (ah (bv 0) (ah (ae ao) av)))) (ae ao))) (ae ao) (cj _)) (YT (cK zF (bv 3) (ae ao) (cj _))))) (aC (aP (i:=5) tD.nd rfl (au rfl) (dE (PJ rfl) (by rfl) T.VN OY (ah (bt (bv 2) (ae ao) (λ_ _=>rfl)) (ah (ae (az dq (bv 3) (ae ao))) av))))
    (aC (aP (i:=6) tD.nd rfl (au rfl) (dE (PJ rfl) (by rfl) T.VN OY (ah (bt (bv 2) (ae ao) (λ_ _=>rfl)) (ah (ae (az dq (bv 5) (ae ao))) av))))
    (aH (aZ (ud (cP (IJ hT T.Lk ((aB8 T hB).mono (by decide)) hr rfl T.Lw T.dx7 dH (ah (bv 4) (ah (bv 5) (ah (bv 6) (ah (ae (az fo (ae (bA T.pM (qK T) hr (ah (bv 0) (ah (ae ao) av)))) (ae (az dq (bv 3) (ae ao))))) av))))) (cP (em 5) (cP (em 6) cA)))))))) eG)
   (aC (aP (i:=7) tD.nd rfl (au rfl) (dm cA))
   (aC (eU dy rfl (xw rfl T.yg (ah (IH (bA T.Vo (aJ5 T) hr (ah (bv 0) (ah (bv 3) (ah (bt (bv 2) (ae ao) (λ_ _=>rfl)) (ah (ae (az dq (bt (bv 2) (ae ao) (λ_ _=>rfl)) (bt (bv 2) (ae ao) (λ_ _=>rfl)))) av)))))) av)) (vD (i1:=8) (i2:=9) rfl tD.nd rfl (bB rfl) rfl (au rfl))
    (aH (ot (i:=7) rfl (by first | exact au rfl | exact bB (au rfl)) (az cm (ae (dS [("_law_i",8)] ["_law_at"] rfl (fm rfl T.dM (ah (bt (bv 2) (ae ao) (λ_ _=>rfl)) av)) (λ_ _ _ _=>(fi (i:=1) (show(["_law_i","_law_at"]:List Str).Nodup by decide +kernel))) (λ_ _ _ _=>dX) (λ_ _ _ _=>(Cu cC4 (by rfl) T.Lp Gu (ah (ae (vt (i9 (eI hr)) (bv 1) (bv 0) (cj _))) av))) rfl)) (bv 9)))))
   (aC (aP (i:=10) tD.nd rfl (bB rfl) (bA T.Vl (aG9 T) hr (ah (ae (bA T.pM (qK T) hr (ah (bv 0) (ah (ae ao) av)))) (ah (bt (bv 2) (ae ao) (λ_ _=>rfl)) av))))
   (aH (aZ (ud (cP (IJ hT T.Eb ((Ww T hB).mono (by decide)) hr rfl T.Eh T.KY.b dH (ah (bv 4) (ah (IH (dS [("_law_order_here",10)] ["_law_row"] rfl (kr (bv 7)) (λ_ _ _ _=>(fi (i:=1) (show(["_law_order_here","_law_row"]:List Str).Nodup by decide +kernel))) (λ_ _ _ _=>dX) (by exact λ_ _ _ _=>(dS [("_law_row",1)] ["_law_at"] rfl (kr (bv 0)) (λ_ _ _ _=>(fi (i:=1) (show(["_law_row","_law_at"]:List Str).Nodup by decide +kernel))) (λ_ _ _ _=>dX) (λ_ _ _ _=>(da (bt (bv 0) (bv 1) (λ_ _=>rfl)))) rfl)) rfl)) av))) (cP (da (bt (bv 2) (ae ao) (λ_ _=>rfl))) (cP (da (bt (bv 2) (ae ao) (λ_ _=>rfl))) cA))))))))))))),λds Q h=>?_⟩
  obtain⟨m,ns,rfl,hm,q⟩:=h
  have fv:=(cT hm).lo
  have nO:=(cT hm).hi
  have VQ:=HM m hm
  refine aB λU hU=>?_
  nofun
  refine⟨m,ns,rfl,hm,λn r n2 n8 r1 rn hp Em aK=>hU _ ?_⟩
  clear hU U
  refine aB λU hU=>?_
  nofun
  refine⟨m,rfl,by omega,by omega,hU _ ?_⟩
  clear hU U
  refine aB λU hU=>?_
  nofun
  refine⟨m,rfl,hm,hU _ ?_⟩
  clear hU U
  refine aB λU hU=>?_
  nofun
  refine⟨ns,3,rfl,by decide,?_⟩
  dsimp only
  refine⟨by decide,?_⟩
  have WB:U [some (D.fz (ax ns)),some (gR m),some (D.tup [D.int n,D.int r]),some (D.int (aa m)),some (fD t.aQ t.aU m),none,none,none,none,none,none]:=by
   refine hU _ ?_
   clear hU U
   refine aB λU hU=>?_
   nofun
   refine⟨by decide,hU _ ?_⟩
   clear hU U
   refine aB λU hU=>?_
   nofun
   refine⟨_,rfl,_,rfl,_,rfl,?_⟩
   dsimp only
   refine⟨ns,aa m,r,n-r,by rw[show(n:Int)-(r:Int)=((n-r:Nat):Int) by omega];rfl,by omega,nO,by omega,by omega,λB lB rB=>?_⟩
   refine⟨rfl,_,by rw[cE,cY],by rw[cE,cY,eR,jh];rfl,?_⟩
   refine iH.mk (λi δ=>∃o8 o9,δ=[some (D.fz (ax ns)),some (gR m),some (D.tup [D.int n,D.int r]),some (D.int (aa m)),some (fD t.aQ t.aU m),none,none,some (D.lst true (aE true (pP r B i))),o8,o9,none]) ⟨_,_,rfl⟩ ?_ ?_
   ·rintro i d δ hd ⟨o8,o9,rfl⟩
    obtain⟨hi,rfl⟩:=HY hd
    clear hd hU
    have rl:=(rB _ (eN hi)).1
    simp only[fO,dZ,dY]
    nofun
    refine⟨⟨_,rfl⟩,_,rfl,_,rfl,⟨by omega,by omega⟩,?_⟩
    refine fP (aw r) (λ(k:Nat)=>D.int (k:Int)) (λ(p:Nat)=>D.int (((if p=i then 1 else 0:Nat):Nat):Int)) (xM _ rfl) pF (λk hk=>?_) (.inr λ_ _=>rfl) (by rw[bC,sL];omega) ?_
    ·nofun
     by_cases e:k=i
     ·rw[if_pos (by omega),if_pos e];rfl
     ·rw[if_neg (by omega),if_neg e];rfl
    dsimp only[jY,jX]
    refine⟨⟨by rw[aR,bC,fQ];omega,bZ.mpr λd hd=>by obtain⟨_,_,rfl⟩:=aT.mp hd;rfl,je _⟩,_,rfl,by rw[gu];unfold pP;rw[aR,bC];omega,some (D.int i),some (D.lst false (ay B[i])),?_⟩
    rw[show pP r B (i+1)=pP r B i++[(aw r).map (λp=>if p=i then 1 else 0)++B[i]] by unfold pP;rw[pS,dw,List.map_singleton,<- Am hi],<- vK]
    show _=[_,_,_,_,_,_,_,some (D.lst true (aE true (pP r B i)++[D.lst true (ay ((aw r).map (λp=>if p=i then 1 else 0)++B[i]))])),_,_,_]
    rw[show ay ((aw r).map (λp=>if p=i then 1 else 0)++B[i])=(aw r).map (λ(p:Nat)=>D.int (((if p=i then 1 else 0:Nat):Nat):Int))++ay B[i] by rw[dF,dw,bO,dF];rfl]
    rfl
   ·rintro δ ⟨o8,o9,rfl⟩
    rw[vC,gu,lB]
    obtain⟨t1,t2,t3⟩:=cG0 hm lB rB
    rw[show r+(n-r)=n by omega]at t1
    refine hU _ ?_
    clear hU U
    generalize pP r B r=T0 at t1 t2 t3 ⊢
    refine aB λU hU=>?_
    nofun
    refine⟨ns,5,rfl,by decide,_,rfl,_,n,rfl,by omega,λO hO=>?_⟩
    refine⟨rfl,hU _ ?_⟩
    clear hU U
    obtain⟨p1,p2,p3,p4⟩:=cs4 hm t1 t2 (by omega) r1 t3 hO
    have lO:O.length=n:=by rw[hO.length_eq,bC]
    nofun
    refine fP T0 (λr=>D.lst false (ay r)) (λrow=>D.lst true (ay (O.map (cf row)))) (by rw[cY];rfl) (λa b h=>ur a b h) (λrow dK9=>?_) (.inr λr _=>jK _) (by rw[sL];omega) ?_
    ·have rl:=(t1 row dK9).1
     nofun
     refine fP O (λ(x:Nat)=>D.int (x:Int)) (λ(x:Nat)=>D.int ((cf row x:Nat):Int)) (vE _) pF (λx hx=>?_) (.inr λ_ _=>rfl) (by rw[sL];omega) ?_
     ·have:=bw.mp (hO.mem_iff.mp hx)
      nofun
      exact⟨_,qu (by omega) (by omega),rfl,by rw[ft];rfl⟩
     ·rw[show O.map (λ(x:Nat)=>D.int ((cf row x:Nat):Int))=ay (O.map (cf row)) by rw[dF,bO];rfl]
    dsimp only[jY,jX]
    rw[show(D.lst true (T0.map λrow=>D.lst true (ay (O.map (cf row))))).sh=D.lst false (aE false (kX O T0)) by
     rw[cE,<- cY true]
     unfold aE kX
     rw[bO,bO,bO];rfl]
    have rG:RT (aa m) (af (kX O T0)) (kX O T0):=by rw[p2];exact p1
    obtain⟨cG,_⟩:=LX hm rG (by omega) (by omega)
    obtain⟨Fb,eF⟩:=WA hm rG (by omega)
    have fr:=ce6 hm p1 (λz=>by rw[z]at p3;exact absurd p3 (by show ¬ 0=r;omega)) p2 (by omega) p4
    refine⟨by rw[eR,jh];rfl,_,_,⟨m,kX O T0,Fb,rfl,cG,by omega,by omega,by omega,by omega,eF,rfl,rfl⟩,?_⟩
    rw[dw,IK]
    exact⟨_,rfl,rfl,_,rfl,rfl,by decide,q (kX O T0) (.Dq Fb.length) n r cG p2 n2 aK r1 rn (by omega) hp Em⟩
  split
  ·split
   ·clear hU
    refine aB λV hV=>?_
    nofun
    refine⟨_,rfl,?_⟩
    dsimp only
    obtain⟨n',en,hn1,yO,hn3⟩:∃n':Nat,(if(aa m:Int)-1<(n:Int)then(aa m:Int)-1 else(n:Int))=n'/\2<=n'/\n'<=n/\(n'=n\/n'+1=aa m)/\n'+1<=aa m:=by
     split
     ·exact⟨aa m-1,by omega,by omega,by omega,by omega,by omega⟩
     ·exact⟨n,rfl,by omega,by omega,by omega,by omega⟩
    rw[en]
    refine hV _ ?_
    clear hV V
    refine aB λV hV=>?_
    nofun
    refine⟨_,rfl,?_⟩
    dsimp only
    obtain⟨e,ee,LL,he2,Wg⟩:∃e:Nat,(if(n':Int)-1<(r:Int)then(n':Int)-1 else(r:Int))=e/\1<=e/\e<n'/\e<=r/\(e=r\/e+1=n'):=by
     split
     ·exact⟨n'-1,by omega,by omega,by omega,by omega,by omega⟩
     ·exact⟨r,rfl,by omega,by omega,by omega,by omega⟩
    rw[ee]
    refine hV _ ?_
    clear hV V
    nofun
    obtain⟨f,ef,hf⟩:=cd1 (ns.getD (qN 4) 0) (show 0<(aa m:Int)-1 by omega)
    refine⟨ns,4,rfl,by decide,?_⟩
    dsimp only
    rw[ef]
    refine⟨by omega,?_⟩
    refine⟨_,_,⟨m,n',e,f,rfl,hm,by omega,by omega,by omega,by omega,by omega,rfl,rfl⟩,by decide,?_⟩
    rw[dw,IK]
    obtain⟨g1,g2,g3⟩:=R9 hm f n' (show 1<=e by omega)
    have g4:RT (aa m) (af (fW m f (aw n') e)) (fW m f (aw n') e):=by rw[g3];exact g1
    obtain⟨cG,sz⟩:=LX hm g4 (by omega) (by omega)
    have sg:=cG.dp0 (ct7 hm (f:=f) (e:=e) (n:=n') (by omega) g3)
    have ok':rJ (aa m) n'=true:=decide_eq_true (by have:=of_decide_eq_true aK;omega)
    exact q (fW m f (aw n') e) (.R7 e f) n' e cG g3 hn1 ok' LL he2 (by omega) (by
     by_cases z:n'-e<=n-r
     ·exact cQ (jW (by omega) z) hp
     ·rw[show n'-e=1 by omega,Nat.pow_one];exact nO) (cQ (jW (by omega) Wg.1) Em)
   ·exact WB
  ·exact WB
abbrev aK1(t:gj):bg:=λds Q=>∃(m:Bool × Nat) (G:List (List Nat)) (k:Kd),ds=[gY t m G k]/\cW m G/\Q (.lst true (aE true (bj m G)))
theorem WC(T:Txt K mg t):aO P w K mg base aS 2 t.DT t.UG ["self"] (bo (aK1 t)):=by
 refine bz T.KZ.F aI7 ?_ ?_
 ·intro ds Q h
  obtain⟨m,G,k,rfl,hc,q⟩:=h<;>rfl
 ·intro aG A outer s H E hr
  refine⟨_,(aH (aZ (bA T.AE (V9 T) hr (ah (eW (K:=K) (bv 0)) av)))),λds Q h=>?_⟩
  obtain⟨m,G,k,rfl,hc,q⟩:=h
  have hw:=hc.IM
  have hf:=hc.Dg
  nofun
  refine cl5 T m G k ⟨_,by rw[cE,cY],by rw[fX];omega,by rw[eE,vJ,iy,iW],q⟩
abbrev aK2(t:gj)(P:Program)(w:World)(K:Frag)(mg:Str->Option Value)(base:Heap):bg:=λds Q=>∃(m:Bool × Nat) (G:List (List Nat)) (k:Kd),ds=[gY t m G k]/\cW m G/\aa m ^ (aX m G).length<=4096/\Q (.lst true (aE true (dU m (af G) (bj m G))))
theorem aK3(T:Txt K mg t):aO P w K mg base aS 3 t.UH t.UI ["code"] (bo (aK2 t P w K mg base)):=by
 refine bz T.VB.F vR ?_ ?_
 ·intro ds Q h
  obtain⟨m,G,k,rfl,hc,hl,q⟩:=h<;>rfl
 ·intro aG A outer s H E hr
  refine⟨_,(aC (aP (i:=1) vR.nd rfl (bB rfl) (da (eW (K:=K) (bv 0))))
   (aC (aP (i:=2) vR.nd rfl (au rfl) (dm (cP (az dQ (ae (dm (cP ao cA))) (eW (K:=K) (bv 0))) cA)))
   (aC (eU dy rfl (zx (QT (P:=P) (w:=w) (K:=K) (mg:=mg) (base:=base) (n:=2) (bv 0) (hr.mono (by decide)))) (fw (i:=3) vR.nd rfl (bB rfl))
    (aC (aP (i:=4) vR.nd rfl (au rfl) (dm cA))
    (aC (eU dy rfl (fm rfl T.dM (ah (eW (K:=K) (bv 1)) av)) (fw (i:=5) vR.nd rfl (bB rfl))
     (aH (cB1 (i:=4) rfl (by first | exact au rfl | exact bB (au rfl)) (dS [("a",5),("row",3),("field",1)] ["word"] rfl (kr (bv 2)) (λ_ _ _ _=>(fi (i:=3) (show(["a","row","field","word"]:List Str).Nodup by decide +kernel))) (λ_ _ _ _=>dX) (λ_ _ _ _=>(qq (P:=P) (w:=w) (K:=K) (mg:=mg) (base:=base) (n:=1) (bv 2) (hr.mono (by decide)) (ah (bv 3) (ah (bv 0) (ah (bv 1) av))))) rfl))))
    (aH (aP (i:=2) vR.nd rfl (au rfl) (em 4))))))
   (aH (aZ (em 2)))))),λds Q h=>?_⟩
  obtain⟨m,G,k,rfl,hc,hl,q⟩:=h
  have hm:=hc.hm
  have nO:=(cT hm).hi
  have hw:=hc.IM
  refine aB λU hU=>?_
  nofun
  refine LA T m G k ⟨HN _ _ _,hU _ ?_⟩
  clear hU U
  refine aB λU hU=>?_
  nofun
  refine⟨by decide,AV T m G k ?_⟩
  dsimp only
  refine⟨⟨by omega,by omega,by show 1*_<=_;omega,rfl⟩,by decide,hU _ ?_⟩
  clear hU U
  have hR:=hc.rows
  have fv:=(cT hm).lo
  rw[m5,ft,show aW (af G) (D.int 0)=ay (aW (af G) 0) by rw[dF,BJ];rfl]
  refine aB λU hU=>?_
  nofun
  refine VP T T.yf T.yf T.Eg (WC T) T.KZ.b (by decide) ⟨m,G,k,rfl,hc,_,rfl,?_⟩
  refine iH.mk (λi δ=>∃o3 o4 o5,δ=[some (gY t m G k),some (fD t.aQ t.aU m),some (D.lst true (aE true (dU m (af G) ((bj m G).take i)))),o3,o4,o5]) ⟨_,_,_,rfl⟩ ?_ ?_
  ·rintro i d δ hd ⟨o3,o4,o5,rfl⟩
   obtain⟨hi,rfl⟩:∃hi:i<(bj m G).length,d=.lst false (ay (bj m G)[i]):=by
    rw[cY]at hd
    unfold aE at hd
    rw[bN]at hd
    by_cases hi:i<(bj m G).length
    ·rw[aJ hi]at hd;exact⟨hi,(de hd).symm⟩
    ·rw[gx (by omega)]at hd;cases hd
   clear hd hU
   have ri:=hR _ (eN hi)
   have lw:=by4 m (af G) ((bj m G).take i)
   have lt:((bj m G).take i).length=i:=by rw[jm];omega
   rw[lt]at lw
   have lq:(dU m (af G) ((bj m G).take i)).length*aa m<=4096:=by
    rw[lw,<- nU]
    exact cQ (jW (by omega) (by rw[fX]at hi;omega)) hl
   have li:(dU m (af G) ((bj m G).take i)).length<=4096:=cQ (Nat.le_mul_of_pos_right _ (by omega)) lq
   have ww:=cn8 m (af G) ((bj m G).take i)
   rw[show dU m (af G) ((bj m G).take (i+1))=pK m (dU m (af G) ((bj m G).take i)) (bj m G)[i] (aa m) by
    unfold dU
    rw[rQ,aJ hi,Fg];rfl]
   generalize dU m (af G) ((bj m G).take i)=ws at li lq ww ⊢
   simp only[gN,dZ,dY]
   refine aB λU hU=>?_
   nofun
   refine⟨by decide,hU _ ?_⟩
   clear hU
   refine aB λU hU=>?_
   nofun
   refine Lz T m ⟨_,rfl,⟨by omega,by omega⟩,?_⟩
   refine kI (λj δ=>∃o5,δ=[some (gY t m G k),some (fD t.aQ t.aU m),some (D.lst true (aE true ws)),some (D.lst false (ay (bj m G)[i])),some (D.lst true (aE true (pK m ws (bj m G)[i] j))),o5]) ⟨_,rfl⟩ ?_ ?_
   ·rintro a δ ha ⟨o5,rfl⟩
    simp only[gN,dZ,dY]
    clear hU
    nofun
    refine⟨⟨_,rfl⟩,?_⟩
    refine fP ws (λw=>D.lst false (ay w)) (λw=>D.lst true (ay (qH m w a (bj m G)[i]))) (by rw[cY];rfl) (λa b h=>ur a b h) (λv LY=>?_) (.inr λ_ _=>jK _) (by rw[sL];omega) ?_
    ·nofun
     obtain⟨C,ns,zs,sp,e1,e2,e3,e4⟩:=LG (P:=P) (w:=w) (base:=base) T hm
     have:=ww v LY
     exact⟨C,ns,zs,sp,e1,e2,e3,e4 v _ a _ ha ri.2 (by omega) rfl⟩
    have al:=IV m ws (bj m G)[i] a
    have am:a*ws.length<=ws.length*aa m:=by rw[jV];exact Yl _ (by omega)
    refine⟨_,_,rfl,rfl,by rw[gu,aR];omega,some (D.int a),?_⟩
    rw[Sl,<- vK,show aE true (ws.map λw=>qH m w a (bj m G)[i])=ws.map λw=>D.lst true (ay (qH m w a (bj m G)[i])) by unfold aE;rw[bO];rfl]
    rfl
   ·rintro δ ⟨o5,rfl⟩
    refine hU _ ?_
    clear hU
    nofun
    exact⟨_,_,_,rfl,rfl,rfl⟩
  ·rintro δ ⟨o3,o4,o5,rfl⟩
   refine hU _ ?_
   nofun
   rw[uS]
   exact q
abbrev aA2(t:gj):bg:=λds Q=>∃(m:Bool × Nat) (G:List (List Nat)) (k:Kd),ds=[gY t m G k]/\m∈aA/\(aX m G).length<=64/\Q (.int ((aa m ^ (aX m G).length:Nat):Int))
theorem aA3(T:Txt K mg t):aO P w K mg base aS 1 t.UJ t.UK ["code"] (bo (aA2 t)):=by
 refine bz T.VC.F DN ?_ ?_
 ·intro ds Q h
  obtain⟨m,G,k,rfl,hm,hl,q⟩:=h<;>rfl
 ·intro aG A outer s H E hr
  refine⟨_,(aC (aP (i:=1) DN.nd rfl (au rfl) ao)
   (aC (eU dy rfl (fm rfl T.dM (ah (eW (K:=K) (bv 0)) av)) (fw (i:=2) DN.nd rfl (au rfl))
    (aH (zw (i:=1) DN.nd rfl (au rfl) (eW (K:=K) (eW (K:=K) (bv 0))) cD4)))
   (aH (aZ (em 1))))),λds Q h=>?_⟩
  obtain⟨m,G,k,rfl,hm,hl,q⟩:=h
  have nO:=(cT hm).hi
  refine aB λU hU=>?_
  nofun
  refine hU _ ?_
  clear hU U
  refine aB λU hU=>?_
  nofun
  refine VO T m G k ⟨_,rfl,⟨by omega,by omega⟩,?_⟩
  refine kI (λi δ=>∃o,δ=[some (gY t m G k),some (.int ((aa m ^ i:Nat):Int)),o]) ⟨none,rfl⟩ ?_ ?_
  ·rintro i δ hi ⟨o,rfl⟩
   simp only[gN,dZ,dY]
   nofun
   refine LA T m G k (Lz T m ?_)
   dsimp only
   exact⟨gi.ok (.inr ⟨by omega,by omega⟩),_,by rw[nU,rT],rfl⟩
  ·rintro δ ⟨o,rfl⟩
   refine hU _ ?_
   nofun
   exact q
abbrev aM2(t:gj)(P:Program)(w:World)(K:Frag)(mg:Str->Option Value)(base:Heap):bg:=λds Q=>∃(m:Bool × Nat) (G:List (List Nat)) (k:Kd),ds=[gY t m G k]/\cW m G/\aa m ^ (aX m G).length<=4096/\Q (.lst true (ay (ip (af G) (dU m (af G) (bj m G)))))
theorem WD(T:Txt K mg t):aO P w K mg base aS 4 t.UL t.UM ["code"] (bo (aM2 t P w K mg base)):=by
 refine bz T.K0.F Kf ?_ ?_
 ·intro ds Q h
  obtain⟨m,G,k,rfl,hc,h4,q⟩:=h<;>rfl
 ·intro aG A outer s H E hr
  refine⟨_,(aC (eH (cK zF (ae (bA T.VC (aA3 T) hr (ah (bv 0) av))) (ae (cD9 (by rfl) T.dz2)) (cj _)) (aH zt) eG)
   (aC (aP (i:=1) Kf.nd rfl (au rfl) (az dQ (ae (dm (cP ao cA))) (ae (az cm (eW (K:=K) (bv 0)) (ae ao)))))
   (aC (eU dy rfl (zx (bA T.VB (aK3 T) hr (ah (bv 0) av))) (fw (i:=2) Kf.nd rfl (au rfl))
    (aH (cE5 (i:=1) rfl (by first | exact au rfl | exact bB (au rfl)) (ae (az dq (eW (K:=K) (bv 0)) (ae (cu3 (bv 2) (ae ao))))) wN)))
   (aH (aZ (em 1)))))),λds Q h=>?_⟩
  obtain⟨m,G,k,rfl,hc,h4,q⟩:=h
  have hm:=hc.hm
  have nO:=(cT hm).hi
  have hw:=hc.IM
  refine aB λU hU=>?_
  nofun
  rw[xR]
  have hf:=hc.Dg
  refine⟨m,G,k,rfl,hm,by omega,by rw[IL];rfl,?_⟩
  dsimp only
  rw[if_neg (by omega)]
  refine hU _ ?_
  clear hU U
  refine aB λU hU=>?_
  nofun
  refine⟨by decide,AV T m G k ?_⟩
  dsimp only
  refine⟨⟨by omega,by omega,by show 1*_<=_;omega⟩,?_⟩
  rw[show ax (aW ((af G:Int)+1).toNat 0)=ay (ip (af G) []) by
   rw[show ip (af G) []=aW (af G+1) 0 from Yh.mpr ⟨s8 ..,λb hb=>by
    obtain⟨_,_,rfl⟩:=aT.mp hb
    rfl⟩,dF,show((af G:Int)+1).toNat=af G+1 by omega]
   unfold ax
   rw[BJ,BJ];rfl]
  refine hU _ ?_
  clear hU U
  have wl:∀w∈dU m (af G) (bj m G),w.length=af G:=Sm m hc.rows
  refine aB λU hU=>?_
  nofun
  rw[xR]
  refine⟨m,G,k,rfl,hc,h4,by rw[eE,vJ,iy,iW],_,rfl,?_⟩
  have al:=by4 m (af G) (bj m G)
  rw[fX]at al
  generalize dU m (af G) (bj m G)=W at wl al q ⊢
  refine iH.mk (λi δ=>∃o,δ=[some (gY t m G k),some (D.lst true (ay (ip (af G) (W.take i)))),o]) ⟨_,rfl⟩ ?_ ?_
  ·rintro i d δ hd ⟨o,rfl⟩
   obtain⟨hi,rfl⟩:∃hi:i<W.length,d=.lst false (ay W[i]):=by
    rw[cY]at hd
    unfold aE at hd
    rw[bN]at hd
    by_cases hi:i<W.length
    ·rw[aJ hi]at hd;exact⟨hi,(de hd).symm⟩
    ·rw[gx (by omega)]at hd;cases hd
   clear hd hU
   have lw:=wl _ (eN hi)
   have cl:W[i].count 0<=W[i].length:=NM
   have LY:cM W[i]<=af G:=by unfold cM;omega
   simp only[gN,dZ,dY]
   nofun
   refine⟨⟨_,rfl⟩,AV T m G k ⟨_,_,⟨rfl,bV1 W[i]⟩,?_⟩⟩
   dsimp only
   rw[cc8,show((af G:Int)-((W[i].count 0:Nat):Int)).toNat=cM W[i] by unfold cM;omega]
   have ln:=s8 (af G) (W.take i)
   refine⟨_,((cf (ip (af G) (W.take i)) (cM W[i]):Nat):Int),rfl,by omega,?_,_,?_,rfl⟩
   ·rw[dF,bN,aJ (by omega)]
    unfold cf
    rw[aF,aJ (by omega)];rfl
   ·rw[rQ,aJ hi,show(some W[i]).toList=[W[i]] from rfl,cc6 _ LY,dF,dF,Nq];rfl
  ·rintro δ ⟨o,rfl⟩
   refine hU _ ?_
   nofun
   rw[E2 (bG _)]
   exact q
abbrev aE9:bg:=λds Q=>∃(x:Int) (n:Nat),ds=[.int x,.int n]/\0<=x/\x<2 ^ 60/\n<=100000/\Q (.int (x ^ n))
theorem WE(T:Txt K mg t):aO P w K mg base aS 1 t.UN t.UO ["_law_base","_law_n"] (bo (aE9 )):=by
 refine bz T.K1.F DO ?_ ?_
 ·intro ds Q h
  obtain⟨x,n,rfl,h0,h1,h2,q⟩:=h<;>rfl
 ·intro aG A outer s H E hr
  refine⟨_,(aC (aP (i:=2) DO.nd rfl (au rfl) ao)
   (aC (eU dy rfl (fm rfl T.dM (ah (bv 1) av)) (fw (i:=3) DO.nd rfl (au rfl))
    (aH (aP (i:=2) DO.nd rfl (au rfl) (az dQ (bv 2) (bv 0)))))
   (aH (aZ (em 2))))),λds Q h=>?_⟩
  obtain⟨x,n,rfl,h0,h1,h2,q⟩:=h
  refine aB λU hU=>?_
  nofun
  refine hU _ ?_
  clear hU U
  refine aB λU hU=>?_
  nofun
  refine⟨⟨by omega,by omega⟩,kI (λk δ=>∃o,δ=[some (.int x),some (.int n),some (.int (x ^ k)),o]) ⟨none,by rw[Int.pow_zero]⟩ ?_ ?_⟩
  ·rintro k δ hk ⟨o,rfl⟩
   nofun
   refine⟨gi.ok (.inr ⟨by omega,by omega⟩),?_⟩
   exact⟨_,(yA ..).symm,rfl⟩
  ·rintro δ ⟨o,rfl⟩
   refine hU _ ?_
   nofun
   exact q
abbrev aF0:bg:=λds Q=>∃(n k:Nat),ds=[.int n,.int k]/\k<=24/\n<=24/\Q (.int (ch n k))
theorem WG(T:Txt K mg t):aO P w K mg base aS 1 t.UP t.UQ ["_law_n","_law_k"] (bo (aF0 )):=by
 refine bz T.K2.F DP ?_ ?_
 ·intro ds Q h
  obtain⟨n,k,rfl,h1,h2,q⟩:=h<;>rfl
 ·intro aG A outer s H E hr
  refine⟨_,(aC (aP (i:=2) DP.nd rfl (au rfl) ao)
   (aC (eU dy rfl (fm rfl T.dM (ah (bv 1) av)) (fw (i:=3) DP.nd rfl (au rfl))
    (aH (aP (i:=2) DP.nd rfl (au rfl) (az sJ (ae (az dQ (bv 2) (ae (az dq (bv 0) (bv 3))))) (ae (az cm (bv 3) (ae ao)))))))
   (aH (aZ (em 2))))),λds Q h=>?_⟩
  obtain⟨n,k,rfl,h1,h2,q⟩:=h
  refine aB λU hU=>?_
  nofun
  refine hU _ ?_
  clear hU U
  refine aB λU hU=>?_
  nofun
  refine⟨⟨by omega,by omega⟩,kI (λi δ=>∃o,δ=[some (.int n),some (.int k),some (.int (ch n i)),o]) ⟨none,by rw[kU]⟩ ?_ ?_⟩
  ·rintro i δ hi ⟨o,rfl⟩
   nofun
   have e:ch n i*((n:Int)-i)/((i:Int)+1)=ch n (i+1):=by
    rw[<-Dx,Int.mul_ediv_cancel _ (by omega)]
   refine⟨gi.ok (.inr ⟨by omega,by omega⟩),ue (by omega) (by omega),?_⟩
   exact⟨_,e,rfl⟩
  ·rintro δ ⟨o,rfl⟩
   refine hU _ ?_
   nofun
   exact q
abbrev aF1:bg:=λds Q=>∃(x:Int) (n i j:Nat),ds=[.int (x+1),.int n,.int i,.int j]/\0<=x/\x<64/\n<=8/\i<=n/\j<=n/\Q (.int (gg x (n-i) i j))
theorem aF2(T:Txt K mg t):aO P w K mg base aS 2 t.UR t.US ["_law_many_here","_law_length","_law_i","_law_j"] (bo (aF1 )):=by
 refine bz T.VD.F vS ?_ ?_
 ·intro ds Q h
  obtain⟨x,n,i,j,rfl,h0,h1,h8,hi,hj,q⟩:=h<;>rfl
 ·intro aG A outer s H E hr
  refine⟨_,(aC (aP (i:=4) vS.nd rfl (au rfl) ao)
   (aC (aP (i:=5) vS.nd rfl (au rfl) ao)
   (aC (eU dy rfl (fm rfl T.dM (ah (ae (az cm (bv 3) (ae ao))) av)) (fw (i:=6) vS.nd rfl (au rfl))
    (aC (aP (i:=7) vS.nd rfl (au rfl) (az dQ (ae (az dQ (ae (bA T.K2 (WG T) hr (ah (bv 2) (ah (bv 6) av)))) (ae (bA T.K2 (WG T) hr (ah (ae (az dq (bv 1) (bv 2))) (ah (ae (az dq (bv 3) (bv 6))) av)))))) (ae (bA T.K1 (WE T) hr (ah (ae (az dq (bv 0) (ae ao))) (ah (ae (az dq (bv 3) (bv 6))) av))))))
    (aC (aP (i:=4) vS.nd rfl (au rfl) (az cm (bv 4) (ae (az dQ (bv 5) (bv 7)))))
    (aH (aP (i:=5) vS.nd rfl (au rfl) (az dq (ae ao) (bv 5)))))))
   (aH (aZ (em 4)))))),λds Q h=>?_⟩
  obtain⟨x,n,i,j,rfl,h0,h1,h8,hi,hj,q⟩:=h
  refine aB λU hU=>?_
  nofun
  refine hU _ ?_
  clear hU U
  refine aB λU hU=>?_
  nofun
  refine hU _ ?_
  clear hU U
  refine aB λU hU=>?_
  nofun
  rw[show((j:Int)+1)=((j+1:Nat):Int) by omega]
  refine⟨⟨by omega,by omega⟩,kI (λs δ=>∃o6 o7,δ=[some (D.int (x+1)),some (D.int n),some (D.int i),some (D.int j),some (D.int (sI (λs=>(-1) ^ s*(x ^ (j-s)*ch i s*ch (n-i) (j-s))) s)),some (D.int ((-1) ^ s)),o6,o7]) ⟨_,_,rfl⟩ ?_ ?_⟩
  ·rintro s δ hs ⟨o6,o7,rfl⟩
   simp only[gN,dZ,dY]
   clear hU
   refine aB λU hU=>?_
   nofun
   have b1:=xT i s
   have b2:=Dz (show i<=24 by omega) s
   have b3:=xT (n-i) (j-s)
   have b4:=Dz (show n-i<=24 by omega) (j-s)
   refine⟨i,s,rfl,by omega,by omega,n-i,j-s,by rw[show(n:Int)-(i:Int)=((n-i:Nat):Int) by omega,show(j:Int)-(s:Int)=((j-s:Nat):Int) by omega],by omega,by omega,?_⟩
   dsimp only
   refine⟨gi.ok (.inr ⟨by omega,by omega⟩),x,j-s,by rw[show x+1-1=x by omega,show(j:Int)-(s:Int)=((j-s:Nat):Int) by omega],h0,by omega,by omega,?_⟩
   dsimp only
   have x8:(x ^ (j-s)).natAbs<2 ^ 200:=by
    rw[NO]
    exact iU (cQ (NN (show x.natAbs<=64 by omega) (j-s)) (jW (by decide) (show j-s<=8 by omega))) (by decide)
   have cc:(ch i s*ch (n-i) (j-s)).natAbs<2 ^ 200:=by
    rw[NH]
    exact iU (NI (show(ch i s).natAbs<=2 ^ 64 by omega) (show(ch (n-i) (j-s)).natAbs<=2 ^ 64 by omega)) (by decide)
   refine⟨zN 200 cc x8 (by decide),hU _ ?_⟩
   clear hU
   refine aB λU hU=>?_
   nofun
   have s1:((-1:Int) ^ s).natAbs<2 ^ 400:=by rw[NO];exact iU (tJ (Nat.one_pow s)) (by decide)
   have s2:(ch i s*ch (n-i) (j-s)*x ^ (j-s)).natAbs<2 ^ 400:=by
    rw[NH]
    exact dd (Nat.mul_lt_mul'' cc x8) (tJ (by rw[<-yq]))
   refine⟨zN 400 s1 s2 (by decide),hU _ ?_⟩
   clear hU
   nofun
   refine⟨_,_,?_,?_,rfl,rfl⟩
   ·show _=sI _ s+(-1) ^ s*(x ^ (j-s)*ch i s*ch (n-i) (j-s))
    rw[uW (ch i s*ch (n-i) (j-s)),uX (x ^ (j-s))]
   ·rw[yA];omega
  ·rintro δ ⟨o6,o7,rfl⟩
   refine hU _ ?_
   nofun
   rw[Ar]
   exact q
abbrev aK4:bg:=λds Q=>∃(x:Int) (n k:Nat) (A B:List Nat),ds=[.int (x+1),.int n,.int k,.lst false (ay A),.lst false (ay B)]/\1<=x/\x<64/\n<=8/\k<=8/\A.length=n+1/\B.length=n+1/\(∀i,cf A i<=4096)/\(∀i,cf B i<=4096)/\(∀j,j<=n->sI (λi=>((cf A i:Nat):Int)*gg x (n-i) i j) (n+1)=(x+1) ^ k*((cf B j:Nat):Int))/\cf A 0=1/\((A.map λ(a:Nat)=>(a:Int)).sum=(x+1) ^ k)/\Q (.bl true)
theorem WH(T:Txt K mg t):aO P w K mg base aS 3 t.UT t.UU ["_law_many_here","_law_length","_law_size","_law_counts_here","_law_crossed"] (bo (aK4 )):=by
 refine bz T.K3.F xZ ?_ ?_
 ·intro ds Q h
  obtain⟨x,n,k,A,B,rfl,x0,x1,h8,k8,lA,lB,hA,hB,hs,a0,sA,q⟩:=h<;>rfl
 ·intro aG A outer s H E hr
  refine⟨_,(aC (aP (i:=5) xZ.nd rfl (au rfl) (bA T.K1 (WE T) hr (ah (bv 0) (ah (bv 2) av))))
   (aC (eU dy rfl (fm rfl T.dM (ah (ae (az cm (bv 1) (ae ao))) av)) (fw (i:=6) xZ.nd rfl (au rfl))
    (aC (aP (i:=7) xZ.nd rfl (au rfl) ao)
    (aC (eU dy rfl (fm rfl T.dM (ah (ae (az cm (bv 1) (ae ao))) av)) (fw (i:=8) xZ.nd rfl (au rfl))
     (aH (aP (i:=7) xZ.nd rfl (au rfl) (az cm (bv 7) (ae (az dQ (bt (bv 3) (bv 8) (λ_ _=>rfl)) (ae (bA T.VD (aF2 T) hr (ah (bv 0) (ah (bv 1) (ah (bv 8) (ah (bv 6) av))))))))))))
    (aH (eH (cK (qj (eI hr)) (bv 7) (ae (az dQ (bv 5) (bt (bv 4) (bv 6) (λ_ _=>rfl)))) (cj _)) (aH (aZ qg)) eG)))))
   (aH (aZ (rj (ae (vt (i9 (eI hr)) (bt (bv 3) (ae ao) (λ_ _=>rfl)) (ae ao) (cj _))) (u5 (vt (i9 (eI hr)) (ae (dE (zM rfl) (by rfl) T.AU zb (ah (bv 3) av))) (bv 5) (cj _)))))))),λds Q h=>?_⟩
  obtain⟨x,n,k,A,B,rfl,x0,x1,h8,k8,lA,lB,hA,hB,hs,a0,sA,q⟩:=h
  refine aB λU hU=>?_
  nofun
  refine⟨x+1,k,rfl,by omega,by omega,by omega,hU _ ?_⟩
  clear hU U
  refine aB λU hU=>?_
  nofun
  rw[show((n:Int)+1)=((n+1:Nat):Int) by omega]
  have pk:((x+1) ^ k).natAbs<2 ^ 200:=by
   rw[NO]
   exact iU (cQ (NN (show(x+1).natAbs<=64 by omega) k) (jW (by decide) k8)) (by decide)
  have sm:∀{l:List Nat},(∀i,cf l i<=4096)->∀i,(((cf l i:Nat):Int)).natAbs<2 ^ 200:=λh i=>iU (show _<=4096 by rw[jZ];exact h i) (by decide)
  refine⟨⟨by omega,by omega⟩,kI (λj δ=>∃o6 o7 o8,δ=[some (D.int (x+1)),some (D.int n),some (D.int k),some (D.lst false (ay A)),some (D.lst false (ay B)),some (D.int ((x+1) ^ k)),o6,o7,o8]) ⟨_,_,_,rfl⟩ ?_ ?_⟩
  ·rintro j δ hj ⟨o6,o7,o8,rfl⟩
   simp only[gN,dZ,dY]
   clear hU
   refine aB λU hU=>?_
   nofun
   refine hU _ ?_
   clear hU
   refine aB λU hU=>?_
   nofun
   rw[show((n:Int)+1)=((n+1:Nat):Int) by omega]
   refine⟨⟨by omega,by omega⟩,kI (λi δ=>∃o8,δ=[some (D.int (x+1)),some (D.int n),some (D.int k),some (D.lst false (ay A)),some (D.lst false (ay B)),some (D.int ((x+1) ^ k)),some (D.int j),some (D.int (sI (λi=>((cf A i:Nat):Int)*gg x (n-i) i j) i)),o8]) ⟨_,rfl⟩ ?_ ?_⟩
   ·rintro i δ hi ⟨o8,rfl⟩
    simp only[gN,dZ,dY]
    clear hU
    nofun
    refine⟨_,qu (by omega) (by omega),x,n,i,j,rfl,by omega,x1,h8,by omega,by omega,?_⟩
    rw[ft]
    dsimp only
    refine⟨zN 200 (sm hA i) (Ja (by omega) x1 (by omega) (by omega) j) (by decide),_,rfl,rfl⟩
   ·rintro δ ⟨o8,rfl⟩
    refine hU _ ?_
    clear hU
    nofun
    refine⟨_,qu (by omega) (by omega),?_⟩
    rw[ft]
    dsimp only
    refine⟨zN 200 pk (sm hB j) (by decide),?_⟩
    rw[show B.getD j 0=cf B j from rfl,decide_eq_true (hs j (by omega)),if_neg (by decide)]
    exact⟨_,_,_,rfl,rfl,rfl⟩
  ·rintro δ ⟨o6,o7,o8,rfl⟩
   refine hU _ ?_
   clear hU
   nofun
   refine⟨_,qu (by omega) (by rw[lA];exact yy _),rfl,?_⟩
   rw[show A.getD (qN 0) 0=1 from a0,ia,if_pos (by decide)]
   refine⟨_,rfl,?_⟩
   rw[decide_eq_true sA]
   exact q
abbrev aD3(t:gj):bg:=λds Q=>∃(m:Bool × Nat) (G:List (List Nat)) (k:Kd),ds=[gY t m G k]/\af G<=12/\Q .aq
theorem aD4(T:Txt K mg t):aO P w K mg base aS 1 t.UW t.UX ["code"] (bo (aD3 t)):=by
 refine bz T.VE.F aC4 ?_ ?_
 ·intro ds Q h
  obtain⟨m,G,k,rfl,hw,q⟩:=h<;>rfl
 ·intro aG A outer s H E hr
  refine⟨_,(aH (eH (cK zF (eW (K:=K) (bv 0)) (ae ao) (cj _)) (aH zt) eG)),λds Q h=>?_⟩
  obtain⟨m,G,k,rfl,hw,q⟩:=h
  nofun
  refine AV T m G k ?_
  dsimp only
  rw[if_neg (by omega)]
  exact q
abbrev aD5(t:gj):bg:=λds Q=>∃(m:Bool × Nat) (G:List (List Nat)) (k:Kd) (Fb:List Nat),ds=[gY t m G k]/\cW m G/\2<=af G/\af G<=12/\(aX m G).length<af G/\cW m (bj m G)/\rE m (bj m G)=some Fb/\Q (gY t m (bj m G) (.Dq Fb.length))
theorem aD6(T:Txt K mg t)(hB:Bm mg base):aO P w K mg base aS 7 t.UY t.UZ ["code"] (vF [t.jQ,t.jR] (bo (aD5 t))):=by
 refine CM T.Ea.F aC5 ?_ ?_
 ·intro ds Q h
  obtain⟨m,G,k,Fb,rfl,hc,w2,Bb,hs,tU,hF,q⟩:=h<;>rfl
 ·intro aG A outer s H E hT hr
  refine⟨_,(aC (cC1 (ae (bA T.VE (aD4 T) hr (ah (bv 0) av))))
   (aC (eH (cK (i9 (eI hr)) (eW (K:=K) (bv 0)) (eW (K:=K) (bv 0)) (cj _)) (aH zt) eG)
   (aH (aZ (IJ hT T.Eb ((Ww T hB).mono (by decide)) hr rfl T.Eh T.KY.b dH (ah (eW (K:=K) (bv 0)) (ah (IH (QT (P:=P) (w:=w) (K:=K) (mg:=mg) (base:=base) (n:=2) (bv 0) (hr.mono (by decide)))) av))))))),λds Q h=>?_⟩
  obtain⟨m,G,k,Fb,rfl,hc,w2,Bb,hs,tU,hF,q⟩:=h
  refine aB λU hU=>?_
  nofun
  rw[xR]
  refine⟨m,G,k,rfl,Bb,by rw[IL];rfl,hU _ ?_⟩
  clear hU U
  refine aB λU hU=>?_
  nofun
  refine VO T m G k ?_
  refine AV T m G k ⟨⟨rfl,rfl⟩,?_⟩
  rw[ia,decide_eq_false (by omega),if_neg (by decide)]
  refine hU _ ?_
  clear hU U
  nofun
  refine LA T m G k ?_
  refine VP T T.yf T.yf T.Eg (WC T) T.KZ.b (by decide) ⟨m,G,k,rfl,hc,?_⟩
  have l1:=hc.sz
  have l2:=fX m G
  have l3:=hc.wide
  refine⟨by rw[HN,cE,cY,eR,jh];rfl,_,_,⟨m,bj m G,Fb,by rw[cE,cY],tU,by omega,by omega,by omega,by omega,hF,rfl,rfl⟩,?_⟩
  rw[dw,IK]
  exact q
abbrev aH4:bg:=λds Q=>∃i:Int,ds=[.int i]/\Q (.bl true)
theorem aH5(T:Txt K mg t):aO P w K mg base aS 1 t.U0 t.U1 ["_law_x"] (bo (aH4 )):=by
 refine bz T.VF.F aG0 ?_ ?_
 ·intro ds Q h
  obtain⟨i,rfl,q⟩:=h<;>rfl
 ·intro aG A outer s H E hr
  refine⟨_,(aH (aZ (rj (ae (zK (by rfl) T.AR (by rfl) T.Lp Gu (bv 0))) (u5 (Pf (ae (zK (by rfl) T.AR (by rfl) T.VM OZ (bv 0)))))))),λds Q h=>?_⟩
  obtain⟨i,rfl,q⟩:=h
  nofun
  exact q
abbrev aF3:bg:=λds Q=>∃(l:List Nat) (n:Nat),ds=[.lst false (ay l),.int n]/\n<=64/\l.length=n+1/\Q (.bl true)
theorem WI(T:Txt K mg t):aO P w K mg base aS 2 t.U2 t.U3 ["_law_found","_law_length"] (bo (aF3 )):=by
 refine bz T.K4.F aE0 ?_ ?_
 ·intro ds Q h
  obtain⟨l,n,rfl,hn,hl,q⟩:=h<;>rfl
 ·intro aG A outer s H E hr
  refine⟨_,(aH (aZ (rj (ae (zK (by rfl) T.AR (by rfl) T.AS zc (bv 0))) (rj (ae (vt (i9 (eI hr)) (ae (dE (hZ) (by rfl) T.gX gK (ah (bv 0) av))) (ae (az cm (bv 1) (ae ao))) (cj _))) (u5 (dE (zJ rfl) (by rfl) T.AQ za (ah (ae (dS [] ["_law_x"] rfl (kr (bv 0)) (λ_ _ _ _=>(fi (i:=0) (show(["_law_x"]:List Str).Nodup by decide +kernel))) (λ_ _ _ _=>dX) (λ_ _ _ _=>(bA T.VF (aH5 T) hr (ah (bv 0) av))) rfl)) av))))))),λds Q h=>?_⟩
  obtain⟨l,n,rfl,hn,hl,q⟩:=h
  nofun
  rw[if_pos (by omega)]
  refine fP l (λ(i:Nat)=>D.int (i:Int)) (λ_=>D.bl true) (vE _) pF (λi hi=>?_) (.inr λ_ _=>rfl) (by rw[sL];omega) ?_
  ·nofun
   exact⟨_,rfl,rfl⟩
  refine⟨l.map λ_=>true,by unfold sM;rw[bO];rfl,?_⟩
  rw[show(l.map λ_=>true).all id=true by simp]
  exact q
abbrev aD7:bg:=λds Q=>∃(x:Int) (n:Nat),ds=[.int x,.int n]/\0<=x/\x<64/\n<=24/\Q (.lst true (ax (tab (λk=>x ^ k) (n+1))))
theorem aD8(T:Txt K mg t):aO P w K mg base aS 1 t.U4 t.U5 ["number","most"] (bo (aD7 )):=by
 refine bz T.VG.F S3 ?_ ?_
 ·intro ds Q h
  obtain⟨x,n,rfl,h0,h1,h2,q⟩:=h<;>rfl
 ·intro aG A outer s H E hr
  refine⟨_,(aC (aP (i:=2) S3.nd rfl (au rfl) (dm (cP ao cA)))
   (aC (xk dy (cK jF (ae (dE (hZ) (by rfl) T.gX gK (ah (bv 2) av))) (bv 1) (cj _))
    (aH (ot (i:=2) rfl (by first | exact au rfl | exact bB (au rfl)) (az dQ (bt (bv 2) (ae (cL5 (ae ao))) (λ_ _=>rfl)) (bv 0)))))
   (aH (aZ (em 2))))),λds Q h=>?_⟩
  obtain⟨x,n,rfl,h0,h1,h2,q⟩:=h
  refine aB λU hU=>?_
  nofun
  refine⟨by decide,hU _ ?_⟩
  clear hU U
  refine aB λU hU=>?_
  nofun
  refine⟨λm δ=>∃k,m=n+1-k/\1<=k/\k<=n+1/\δ=[some (.int x),some (.int n),some (.lst true (ax (tab (λk=>x ^ k) k)))],⟨_,1,rfl,by omega,by omega,by simp[tab,ax]⟩,?_⟩
  rintro m δ ⟨k,rfl,hk1,hk2,rfl⟩
  simp only[mh,kn,mi,mj,mm,dT,i6,jB,jC,dC,kg,jD,kj,ki,l9,mf,jI,mW,kF,mX,mY,lV,lX,lZ,l6,l7,l8,kh,mT,kB,kC,ii,kx,mF,ky,mG,mH,mI,mJ,mK,mM,iI,fA,mN,mO,mP,mQ,kz,jG,mR,mS,gN,mZ,mV,mn,mr,mw,mB,mC,mD,m3,m4,jE,gB,dP,gA,gq,iz,k9,pT,pU,km,i7,gO,kD,kE,jc,m9,nh,ib,nk,kK,ni,fO,ie,pz,pB,bR,gv,lj,jU,eK,nV,aW,jX,jY,dY,dZ,nY,exists_eq_left',exists_eq_left,D.bl.injEq,D.int.injEq,D.lst.injEq,D.fz.injEq,D.str.injEq,D.tup.injEq,pV,and_true,true_and,cH,lh,iA,iy,ou,oy,oA,oB,oE,oF,eR,hJ,h7,oK,oM,oN,oO,oQ,cE,iF,oG,oH,oI,oJ,eE,kb,pW,lC,kZ,iW,nX,lD,k7,oV,oW,oX,oY,oZ,pf,ph,h9,jJ,kG,fB,iK,oR,m8,m5,kH,oS,ia,m6,if_true,nZ,if_false,reduceIte,pj,decide_eq_true_eq,pq,fQ,je,kL,pG,nq,pE,mq,nu,nj,kN,kO,kP,nz,pH,kR,nB,nE,cY,jh,gu,pI,kT,nH,nI,nJ,nK,nM,nN,vB,sL]
  split
  ·rename_i hk
   obtain⟨k,rfl⟩:∃k',k=k'+1:=⟨k-1,by omega⟩
   refine⟨⟨_,rfl⟩,_,bW8 (by rw[vB];omega),?_⟩
   rw[vB,NB,PZ _ (by omega)]
   refine⟨gi.ok (.inr ⟨by omega,by omega⟩),by omega,_,?_,k+1+1,rfl,by omega,by omega,?_⟩
   ·omega
   ·show ax _++ax [_]=_
    rw[iK,<- Hh _ (k+1),yA]
  ·rename_i hk
   have:k=n+1:=by omega
   subst this
   refine hU _ ?_
   nofun
   exact q
def nR(n m:Nat):List D:=(aw m).map λk=>.lst false (ax (tab (ch k) (n+1)))
theorem WJ(n m:Nat):(nR n m).length=m:=by simp[nR]
theorem cf6(n m:Nat):nR n m++[.lst false (ax (tab (ch m) (n+1)))]=nR n (m+1):=by
 unfold nR;rw[pS,dw];rfl
theorem bX9(n m:Nat):(nR n m).map D.sh=nR n m:=by
 unfold nR
 rw[bO]
 apply jq
 intro k _
 show D.sh (.lst false _)=_
 rw[cE,fB]
theorem WK{n m k:Nat}(h:k<m):eD (nR n m) (k:Int)=some (.lst false (ax (tab (ch k) (n+1)))):=by
 refine qW (by omega) ?_
 unfold nR
 rw[ft,bN,gI h];rfl
theorem co8(n:Nat):1::aW n 0=tab (ch 0) (n+1):=by
 rw[P0,kU]
 congr 1
 apply E5
 intro i
 unfold tab
 rw[bN]
 by_cases h:i<n
 ·rw[gI h,yn,if_pos h];rfl
 ·rw[gx (by simpa using h),gx (by simpa using h)];rfl
abbrev aA4:bg:=λds Q=>∃n:Nat,ds=[.int n]/\n<=24/\Q (.lst true (nR n (n+1)))
theorem aA5(T:Txt K mg t):aO P w K mg base aS 1 t.U6 t.U7 ["most"] (bo (aA4 )):=by
 refine bz T.VH.F DQ ?_ ?_
 ·intro ds Q h
  obtain⟨n,rfl,h2,q⟩:=h<;>rfl
 ·intro aG A outer s H E hr
  refine⟨_,(aC (aP (i:=1) DQ.nd rfl (bB rfl) (az cm (ae (dm (cP ao cA))) (ae (az dQ (ae (dm (cP ao cA))) (bv 0)))))
   (zu 1 (aC (aP (i:=2) DQ.nd rfl (au rfl) (dm (cP (da (bv 1)) cA)))
   (aC (xk dy (cK jF (ae (dE (hZ) (by rfl) T.gX gK (ah (bv 2) av))) (bv 0) (cj _))
    (aC (aP (i:=1) DQ.nd rfl (bB rfl) (az cm (ae (dm (cP ao cA))) (ae (dS [("row",1)] ["k"] rfl (fm rfl T.dM (ah (bv 0) av)) (λ_ _ _ _=>(fi (i:=1) (show(["row","k"]:List Str).Nodup by decide +kernel))) (λ_ _ _ _=>dX) (λ_ _ _ _=>(az cm (bt (bv 0) (bv 1) (λ_ _=>rfl)) (bt (bv 0) (ae (az cm (bv 1) (ae ao))) (λ_ _=>rfl)))) rfl))))
    (zu 1 (aH (ot (i:=2) rfl (by first | exact au rfl | exact bB (au rfl)) (da (bv 1)))))))
   (aH (aZ (em 2))))))),λds Q h=>?_⟩
  obtain⟨n,rfl,h2,q⟩:=h
  refine aB λU hU=>?_
  nofun
  have e0:(D.int 1::ax (aW (n:Int).toNat 0))=ax (tab (ch 0) (n+1)):=by rw[<-co8,ft];rfl
  rw[e0]
  refine⟨by decide,by decide,⟨by omega,by omega,by omega⟩,by simp;omega,hU _ ?_⟩
  clear hU U
  refine⟨_,rfl,?_⟩
  rw[cE,fB]
  refine aB λU hU=>?_
  nofun
  refine⟨by decide,hU _ ?_⟩
  clear hU U
  refine aB λU hU=>?_
  nofun
  refine⟨λm δ=>∃k,m=n+1-k/\1<=k/\k<=n+1/\δ=[some (.int n),some (.lst false (ax (tab (ch (k-1)) (n+1)))),some (.lst true (nR n k))],⟨_,1,rfl,by omega,by omega,rfl⟩,?_⟩
  rintro m δ ⟨k,rfl,hk1,hk2,rfl⟩
  simp only[mh,kn,mi,mj,mm,dT,i6,jB,jC,dC,kg,jD,kj,ki,l9,mf,jI,mW,kF,mX,mY,lV,lX,lZ,l6,l7,l8,kh,mT,kB,kC,ii,kx,mF,ky,mG,mH,mI,mJ,mK,mM,iI,fA,mN,mO,mP,mQ,kz,jG,mR,mS,gN,mZ,mV,mn,mr,mw,mB,mC,mD,m3,m4,jE,gB,dP,gA,gq,iz,k9,pT,pU,km,i7,gO,kD,kE,jc,m9,nh,ib,nk,kK,ni,fO,ie,pz,pB,bR,gv,lj,jU,eK,nV,aW,jX,jY,dY,dZ,nY,exists_eq_left',exists_eq_left,D.bl.injEq,D.int.injEq,D.lst.injEq,D.fz.injEq,D.str.injEq,D.tup.injEq,pV,and_true,true_and,cH,lh,iA,iy,ou,oy,oA,oB,oE,oF,eR,hJ,h7,oK,oM,oN,oO,oQ,cE,iF,oG,oH,oI,oJ,eE,kb,pW,lC,kZ,iW,nX,lD,k7,oV,oW,oX,oY,oZ,pf,ph,h9,jJ,kG,fB,iK,oR,m8,m5,kH,oS,ia,m6,if_true,nZ,if_false,reduceIte,pj,decide_eq_true_eq,pq,fQ,je,kL,pG,nq,pE,mq,nu,nj,kN,kO,kP,nz,pH,kR,nB,nE,cY,jh,gu,pI,kT,nH,nI,nJ,nK,nM,nN,WJ]
  split
  ·rename_i hk
   obtain⟨k,rfl⟩:∃k',k=k'+1:=⟨k-1,by omega⟩
   rw[NB]
   refine aB λU hU=>?_
   nofun
   refine⟨by decide,⟨by omega,by omega⟩,?_⟩
   refine Hi (λi=>ch (k+1) (i+1)) (by rw[sL];omega) (λi hi=>?_) ?_
   ·nofun
    exact⟨_,xv _ (by omega),_,xv (k:=i+1) _ (by omega),rfl⟩
   ·simp only[mh,kn,mi,mj,mm,dT,i6,jB,jC,dC,kg,jD,kj,ki,l9,mf,jI,mW,kF,mX,mY,lV,lX,lZ,l6,l7,l8,kh,mT,kB,kC,ii,kx,mF,ky,mG,mH,mI,mJ,mK,mM,iI,fA,mN,mO,mP,mQ,kz,jG,mR,mS,gN,mZ,mV,mn,mr,mw,mB,mC,mD,m3,m4,jE,gB,dP,gA,gq,iz,k9,pT,pU,km,i7,gO,kD,kE,jc,m9,nh,ib,nk,kK,ni,fO,ie,pz,pB,bR,gv,lj,jU,eK,nV,aW,jX,jY,dY,dZ,nY,exists_eq_left',exists_eq_left,D.bl.injEq,D.int.injEq,D.lst.injEq,D.fz.injEq,D.str.injEq,D.tup.injEq,pV,and_true,true_and,cH,lh,iA,iy,ou,oy,oA,oB,oE,oF,eR,hJ,h7,oK,oM,oN,oO,oQ,cE,iF,oG,oH,oI,oJ,eE,kb,pW,lC,kZ,iW,nX,lD,k7,oV,oW,oX,oY,oZ,pf,ph,h9,jJ,kG,fB,iK,oR,m8,m5,kH,oS,ia,m6,if_true,nZ,if_false,reduceIte,pj,decide_eq_true_eq,pq,fQ,je,kL,pG,nq,pE,mq,nu,nj,kN,kO,kP,nz,pH,kR,nB,nE,cY,jh,gu,pI,kT,nH,nI,nJ,nK,nM,nN,vB,sL]
    refine⟨by omega,hU _ ?_⟩
    clear hU
    refine⟨_,rfl,?_⟩
    have e:(D.int 1::ax (tab (λi=>ch (k+1) (i+1)) n))=ax (tab (ch (k+1)) (n+1)):=by rw[P0,kU];rfl
    rw[cE,e,fB]
    simp only[mh,kn,mi,mj,mm,dT,i6,jB,jC,dC,kg,jD,kj,ki,l9,mf,jI,mW,kF,mX,mY,lV,lX,lZ,l6,l7,l8,kh,mT,kB,kC,ii,kx,mF,ky,mG,mH,mI,mJ,mK,mM,iI,fA,mN,mO,mP,mQ,kz,jG,mR,mS,gN,mZ,mV,mn,mr,mw,mB,mC,mD,m3,m4,jE,gB,dP,gA,gq,iz,k9,pT,pU,km,i7,gO,kD,kE,jc,m9,nh,ib,nk,kK,ni,fO,ie,pz,pB,bR,gv,lj,jU,eK,nV,aW,jX,jY,dY,dZ,nY,exists_eq_left',exists_eq_left,D.bl.injEq,D.int.injEq,D.lst.injEq,D.fz.injEq,D.str.injEq,D.tup.injEq,pV,and_true,true_and,cH,lh,iA,iy,ou,oy,oA,oB,oE,oF,eR,hJ,h7,oK,oM,oN,oO,oQ,cE,iF,oG,oH,oI,oJ,eE,kb,pW,lC,kZ,iW,nX,lD,k7,oV,oW,oX,oY,oZ,pf,ph,h9,jJ,kG,fB,iK,oR,m8,m5,kH,oS,ia,m6,if_true,nZ,if_false,reduceIte,pj,decide_eq_true_eq,pq,fQ,je,kL,pG,nq,pE,mq,nu,nj,kN,kO,kP,nz,pH,kR,nB,nE,cY,jh,gu,pI,kT,nH,nI,nJ,nK,nM,nN,WJ]
    exact⟨⟨_,rfl⟩,by rw[sL];omega,n+1-(k+2),by omega,k+2,rfl,by omega,by omega,rfl,cf6 n (k+1)⟩
  ·rename_i hk
   have:k=n+1:=by omega
   subst this
   refine hU _ ?_
   nofun
   exact q
abbrev ay5:bg:=λds Q=>∃(x:Int) (n i:Nat),ds=[.int (x+1),.int n,.int i]/\0<=x/\x<64/\n<=24/\i<=n/\Q (.lst true (ax (tab (gg x (n-i) i) (n+1))))
theorem ay6(T:Txt K mg t):aO P w K mg base aS 2 t.U8 t.U9 ["many","length","i"] (bo (ay5 )):=by
 refine bz T.VI.F x6 ?_ ?_
 ·intro ds Q h
  obtain⟨x,n,i,rfl,h0,h1,h2,h3,q⟩:=h<;>rfl
 ·intro aG A outer s H E hr
  refine⟨_,(aC (aP (i:=3) x6.nd rfl (bB rfl) (bA T.VG (aD8 T) hr (ah (ae (az dq (bv 0) (ae ao))) (ah (bv 1) av))))
   (aC (aP (i:=4) x6.nd rfl (bB rfl) (bA T.VH (aA5 T) hr (ah (bv 1) av)))
   (aC (aP (i:=5) x6.nd rfl (au rfl) (dm cA))
   (aC (eU dy rfl (fm rfl T.dM (ah (ae (az cm (bv 1) (ae ao))) av)) (fw (i:=6) x6.nd rfl (bB rfl))
    (aC (cs0 (i:=7) x6.nd rfl (au rfl) [("powers",3),("ways",4),("j",6),("i",2),("length",1)] ["s"] rfl (fm rfl T.dM (ah (ae (az cm (bv 6) (ae ao))) av)) (λ_ _ _ _=>(fi (i:=5) (show(["powers","ways","j","i","length","s"]:List Str).Nodup by decide +kernel))) (λ_ _ _ _=>dX) (λ_ _ _ _=>(az dQ (ae (az dQ (bt (bv 0) (ae (az dq (bv 2) (bv 5))) (λ_ _=>rfl)) (bt (bt (bv 1) (bv 3) (λ_ _=>rfl)) (bv 5) (λ_ _=>rfl)))) (bt (bt (bv 1) (ae (az dq (bv 4) (bv 3))) (λ_ _=>rfl)) (ae (az dq (bv 2) (bv 5))) (λ_ _=>rfl)))) rfl)
    (aH (ot (i:=5) rfl (by first | exact au rfl | exact bB (au rfl)) (az dq (ae (dE (zM rfl) (by rfl) T.AU zb (ah (ae (PV (bv 7) (ql (ae ao)) vz (ql (ae ao)))) av))) (ae (dE (zM rfl) (by rfl) T.AU zb (ah (ae (PV (bv 7) (ql (ae ao)) vz (ql (ae ao)))) av))))))))
   (aH (aZ (em 5))))))),λds Q h=>?_⟩
  obtain⟨x,n,i,rfl,h0,h1,h2,h3,q⟩:=h
  refine aB λU hU=>?_
  nofun
  refine⟨x,n,by rw[Int.add_sub_cancel],h0,h1,h2,hU _ ?_⟩
  clear hU U
  refine aB λU hU=>?_
  nofun
  refine⟨n,rfl,h2,hU _ ?_⟩
  clear hU U
  refine aB λU hU=>?_
  nofun
  refine⟨by decide,hU _ ?_⟩
  clear hU U
  refine aB λU hU=>?_
  nofun
  rw[show((n:Int)+1)=((n+1:Nat):Int) by omega]
  refine⟨⟨by omega,by omega⟩,kI (λj δ=>∃a b,δ=[some (D.int (x+1)),some (D.int n),some (D.int i),some (D.lst true (ax (tab (λk=>x ^ k) (n+1)))),
    some (D.lst true (nR n (n+1))),some (D.lst true (ax (tab (gg x (n-i) i) j))),a,b]) ⟨none,none,rfl⟩ ?_ ?_⟩
  ·rintro j δ hj ⟨a,b,rfl⟩
   simp only[gN,dZ,dY]
   refine aB λU hU=>?_
   nofun
   rw[show((j:Int)+1)=((j+1:Nat):Int) by omega]
   refine⟨⟨by omega,by omega⟩,?_⟩
   refine Hi (λs=>x ^ (j-s)*ch i s*ch (n-i) (j-s)) (by rw[sL];omega) (λs hs=>?_) ?_
   ·simp only[mh,kn,mi,mj,mm,dT,i6,jB,jC,dC,kg,jD,kj,ki,l9,mf,jI,mW,kF,mX,mY,lV,lX,lZ,l6,l7,l8,kh,mT,kB,kC,ii,kx,mF,ky,mG,mH,mI,mJ,mK,mM,iI,fA,mN,mO,mP,mQ,kz,jG,mR,mS,gN,mZ,mV,mn,mr,mw,mB,mC,mD,m3,m4,jE,gB,dP,gA,gq,iz,k9,pT,pU,km,i7,gO,kD,kE,jc,m9,nh,ib,nk,kK,ni,fO,ie,pz,pB,bR,gv,lj,jU,eK,nV,aW,jX,jY,dY,dZ,nY,exists_eq_left',exists_eq_left,D.bl.injEq,D.int.injEq,D.lst.injEq,D.fz.injEq,D.str.injEq,D.tup.injEq,pV,and_true,true_and,cH,lh,iA,iy,ou,oy,oA,oB,oE,oF,eR,hJ,h7,oK,oM,oN,oO,oQ,cE,iF,oG,oH,oI,oJ,eE,kb,pW,lC,kZ,iW,nX,lD,k7,oV,oW,oX,oY,oZ,pf,ph,h9,jJ,kG,fB,iK,oR,m8,m5,kH,oS,ia,m6,if_true,nZ,if_false,reduceIte,pj,decide_eq_true_eq,pq,fQ,je,kL,pG,nq,pE,mq,nu,nj,kN,kO,kP,nz,pH,kR,nB,nE,cY,jh,gu,pI,kT,nH,nI,nJ,nK,nM,nN,bX9]
    rw[show(j:Int)-(s:Int)=((j-s:Nat):Int) by omega,show(n:Int)-(i:Int)=((n-i:Nat):Int) by omega]
    have b1:=xT i s
    have b2:=Dz (show i<=24 by omega) s
    have b3:=xT (n-i) (j-s)
    have b4:=Dz (show n-i<=24 by omega) (j-s)
    exact⟨_,xv _ (by omega),_,WK (by omega),_,xv _ (by omega),gi.ok (.inr ⟨by omega,by omega⟩),_,WK (by omega),_,xv _ (by omega),gi.ok (.inr ⟨by omega,by omega⟩),rfl⟩
   ·nofun
    refine hU _ ?_
    clear hU
    nofun
    refine⟨⟨_,rfl⟩,by decide,_,rfl,by decide,_,rfl,by rw[vB];omega,_,_,?_,rfl,rfl⟩
    show ax _++ax [_]=_
    rw[iK]
    have e:=(cr9 _ (j+1) (by omega)).trans (Ar x i (n-i) j)
    exact congrArg ax ((congrArg (λz=>tab (gg x (n-i) i) j++[z]) e).trans (Hh _ j))
  ·rintro δ ⟨a,b,rfl⟩
   refine hU _ ?_
   nofun
   exact q
def v7(o:Bool)(x:Int)(n:Nat):List D:=(aw (n+1)).map λi=>.lst o (ax (tab (gg x (n-i) i) (n+1)))
theorem bQ3(o:Bool)(x:Int)(n:Nat):(v7 o x n).map D.sh=v7 false x n:=by
 unfold v7
 rw[bO]
 apply jq
 intro k _
 show D.sh (.lst o _)=_
 rw[cE,fB]
theorem bF8{o:Bool}{x:Int}{n k:Nat}(h:k<n+1):eD (v7 o x n) (k:Int)=some (.lst o (ax (tab (gg x (n-k) k) (n+1)))):=by
 refine qW (by omega) ?_
 unfold v7
 rw[ft,bN,gI h];rfl
abbrev aA6:bg:=λds Q=>∃(x:Int) (n:Nat) (c:List Int),ds=[.int (x+1),.lst false (ax c)]/\0<=x/\x<64/\n<=24/\c.length=n+1/\(∀i,(c.getD i 0).natAbs<2 ^ 200)/\0<c.sum/\c.sum.natAbs<2 ^ 200 /\
 Q (.lst true (ax (tab (λj=>sI (λi=>c.getD i 0*gg x (n-i) i j) (n+1)/c.sum) (n+1))))
theorem WL(T:Txt K mg t):aO P w K mg base aS 3 t.Va t.Vb ["many","counts"] (bo (aA6 )):=by
 refine bz T.K5.F x9 ?_ ?_
 ·intro ds Q h
  obtain⟨x,n,c,rfl,h0,h1,h2,hl,hb,hs,dD,q⟩:=h<;>rfl
 ·intro aG A outer s H E hr
  refine⟨_,(aC (aP (i:=2) x9.nd rfl (bB rfl) (az dq (ae (dE (hZ) (by rfl) T.gX gK (ah (bv 1) av))) (ae ao)))
   (aC (aP (i:=3) x9.nd rfl (au rfl) (dE (zM rfl) (by rfl) T.AU zb (ah (bv 1) av)))
   (aC (aP (i:=4) x9.nd rfl (bB rfl) (dS [("many",0),("length",2)] ["i"] rfl (fm rfl T.dM (ah (ae (az cm (bv 2) (ae ao))) av)) (λ_ _ _ _=>(fi (i:=2) (show(["many","length","i"]:List Str).Nodup by decide +kernel))) (λ_ _ _ _=>dX) (λ_ _ _ _=>(bA T.VI (ay6 T) hr (ah (bv 0) (ah (bv 1) (ah (bv 2) av))))) rfl))
   (aC (aP (i:=5) x9.nd rfl (au rfl) (dm cA))
   (aC (eU dy rfl (fm rfl T.dM (ah (ae (az cm (bv 2) (ae ao))) av)) (fw (i:=6) x9.nd rfl (bB rfl))
    (aH (ot (i:=5) rfl (by first | exact au rfl | exact bB (au rfl)) (az sJ (ae (dE (zM rfl) (by rfl) T.AU zb (ah (ae (dS [("counts",1),("j",6),("factors",4)] ["i"] rfl (fm rfl T.dM (ah (ae (az cm (bv 2) (ae ao))) av)) (λ_ _ _ _=>(fi (i:=3) (show(["counts","j","factors","i"]:List Str).Nodup by decide +kernel))) (λ_ _ _ _=>dX) (λ_ _ _ _=>(az dQ (bt (bv 0) (bv 3) (λ_ _=>rfl)) (bt (bt (bv 2) (bv 3) (λ_ _=>rfl)) (bv 1) (λ_ _=>rfl)))) rfl)) av))) (bv 3)))))
   (aH (aZ (em 5)))))))),λds Q h=>?_⟩
  obtain⟨x,n,c,rfl,h0,h1,h2,hl,hb,hs,dD,q⟩:=h
  refine aB λU hU=>?_
  nofun
  rw[show((c.length:Int)-1)=(n:Int) by omega]
  refine hU _ ?_
  clear hU U
  refine aB λU hU=>?_
  nofun
  refine⟨c,rfl,hU _ ?_⟩
  clear hU U
  refine aB λU hU=>?_
  nofun
  rw[show((n:Int)+1)=((n+1:Nat):Int) by omega]
  refine⟨⟨by omega,by omega⟩,b44 (λi=>.lst true (ax (tab (gg x (n-i) i) (n+1)))) (by rw[sL];omega) (λi hi=>?_) (λi hi=>?_) (hU _ ?_)⟩
  ·nofun
   exact⟨x,n,i,rfl,h0,h1,h2,by omega,rfl⟩
  ·nofun
  clear hU U
  rw[show(aw (n+1)).map (λi=>D.lst true (ax (tab (gg x (n-i) i) (n+1))))=v7 true x n from rfl]
  refine aB λU hU=>?_
  nofun
  refine⟨by decide,hU _ ?_⟩
  clear hU U
  refine aB λU hU=>?_
  nofun
  rw[show((n:Int)+1)=((n+1:Nat):Int) by omega]
  refine⟨⟨by omega,by omega⟩,kI (λj δ=>∃a,δ=[some (D.int (x+1)),some (D.lst false (ax c)),some (D.int n),some (D.int c.sum),some (D.lst true (v7 true x n)),
    some (D.lst true (ax (tab (λj=>sI (λi=>c.getD i 0*gg x (n-i) i j) (n+1)/c.sum) j))),a]) ⟨none,rfl⟩ ?_ ?_⟩
  ·rintro j δ hj ⟨a,rfl⟩
   nofun
   rw[show((n:Int)+1)=((n+1:Nat):Int) by omega]
   refine⟨⟨_,rfl⟩,⟨by omega,by omega⟩,Hi (λi=>c.getD i 0*gg x (n-i) i j) (by rw[sL];omega) (λi hi=>?_) ?_⟩
   ·simp only[mh,kn,mi,mj,mm,dT,i6,jB,jC,dC,kg,jD,kj,ki,l9,mf,jI,mW,kF,mX,mY,lV,lX,lZ,l6,l7,l8,kh,mT,kB,kC,ii,kx,mF,ky,mG,mH,mI,mJ,mK,mM,iI,fA,mN,mO,mP,mQ,kz,jG,mR,mS,gN,mZ,mV,mn,mr,mw,mB,mC,mD,m3,m4,jE,gB,dP,gA,gq,iz,k9,pT,pU,km,i7,gO,kD,kE,jc,m9,nh,ib,nk,kK,ni,fO,ie,pz,pB,bR,gv,lj,jU,eK,nV,aW,jX,jY,dY,dZ,nY,exists_eq_left',exists_eq_left,D.bl.injEq,D.int.injEq,D.lst.injEq,D.fz.injEq,D.str.injEq,D.tup.injEq,pV,and_true,true_and,cH,lh,iA,iy,ou,oy,oA,oB,oE,oF,eR,hJ,h7,oK,oM,oN,oO,oQ,cE,iF,oG,oH,oI,oJ,eE,kb,pW,lC,kZ,iW,nX,lD,k7,oV,oW,oX,oY,oZ,pf,ph,h9,jJ,kG,fB,iK,oR,m8,m5,kH,oS,ia,m6,if_true,nZ,if_false,reduceIte,pj,decide_eq_true_eq,pq,fQ,je,kL,pG,nq,pE,mq,nu,nj,kN,kO,kP,nz,pH,kR,nB,nE,cY,jh,gu,pI,kT,nH,nI,nJ,nK,nM,nN,bQ3]
    refine⟨_,oU (by omega) (by omega),_,bF8 (by omega),_,xv _ (by omega),zN 200 ?_ (Ja h0 h1 (by omega) (by omega) j) (by decide),?_⟩
    ·exact hb _
    ·rfl
   ·simp only[mh,kn,mi,mj,mm,dT,i6,jB,jC,dC,kg,jD,kj,ki,l9,mf,jI,mW,kF,mX,mY,lV,lX,lZ,l6,l7,l8,kh,mT,kB,kC,ii,kx,mF,ky,mG,mH,mI,mJ,mK,mM,iI,fA,mN,mO,mP,mQ,kz,jG,mR,mS,gN,mZ,mV,mn,mr,mw,mB,mC,mD,m3,m4,jE,gB,dP,gA,gq,iz,k9,pT,pU,km,i7,gO,kD,kE,jc,m9,nh,ib,nk,kK,ni,fO,ie,pz,pB,bR,gv,lj,jU,eK,nV,aW,jX,jY,dY,dZ,nY,exists_eq_left',exists_eq_left,D.bl.injEq,D.int.injEq,D.lst.injEq,D.fz.injEq,D.str.injEq,D.tup.injEq,pV,and_true,true_and,cH,lh,iA,iy,ou,oy,oA,oB,oE,oF,eR,hJ,h7,oK,oM,oN,oO,oQ,cE,iF,oG,oH,oI,oJ,eE,kb,pW,lC,kZ,iW,nX,lD,k7,oV,oW,oX,oY,oZ,pf,ph,h9,jJ,kG,fB,iK,oR,m8,m5,kH,oS,ia,m6,if_true,nZ,if_false,reduceIte,pj,decide_eq_true_eq,pq,fQ,je,kL,pG,nq,pE,mq,nu,nj,kN,kO,kP,nz,pH,kR,nB,nE,cY,jh,gu,pI,kT,nH,nI,nJ,nK,nM,nN,vB,sL]
    refine⟨_,rfl,⟨hs,?_⟩,by omega,_,?_,rfl⟩
    ·have:=(EO (show c.sum.natAbs≠0 by omega)).mpr dD
     omega
    ·show ax _++ax [_]=_
     rw[iK,cm4,Hh]
  ·rintro δ ⟨a,rfl⟩
   refine hU _ ?_
   nofun
   exact q
theorem WM{n:Nat}{A B:List Nat}{x Mk:Int}(lA:A.length=n+1)(lB:B.length=n+1)(h0:Mk≠0)(sA:(A.map λ(a:Nat)=>(a:Int)).sum=Mk)(f:∀j,j<=n->sI (λi=>((cf A i:Nat):Int)*gg x (n-i) i j) (n+1)=Mk*((cf B j:Nat):Int)) :
  ax (tab (λj=>sI (λi=>(A.map λ(a:Nat)=>(a:Int)).getD i 0*gg x (n-i) i j) (n+1)/(A.map λ(a:Nat)=>(a:Int)).sum) (n+1))=ay B:=by
 have e:∀i,(A.map λ(a:Nat)=>(a:Int)).getD i 0=((cf A i:Nat):Int):=λi=>by
  unfold cf
  rw[aF,aF,bN]
  cases A[i]?<;>rfl
 show ax _=ax _
 congr 1
 unfold tab
 refine yw (by rw[aR,bC,aR,lB]) λk h1 h2=>?_
 have hk:k<n+1:=by rw[aR,bC]at h1;exact h1
 rw[tP,tP,BE,eY (g:=λi=>((cf A i:Nat):Int)*gg x (n-i) i k) _ λi _=>by rw[e i],f k (by omega),sA,Int.mul_ediv_cancel_left _ h0]
 unfold cf
 rw[aF,aJ (by omega)];rfl
theorem cF5(T:Txt K mg t)(hB:Bm mg base):aO P w K mg base aS 12 t.Vc t.Vd ["_law_script"] (vF [t.jQ,t.jR] (bo (PM ))):=by
 refine CM T.dx8.F vT ?_ ?_
 ·intro ds Q h
  obtain⟨ns,rfl,hl,q⟩:=h<;>rfl
 ·intro aG A outer s H E hT hr
  refine⟨_,(aC (aP (i:=1) vT.nd rfl (au rfl) (bA T.Vg (aI9 T) hr (ah (ae (bA T.pM (qK T) hr (ah (bv 0) (ah (ae ao) av)))) av)))
   (aC (aP (i:=2) vT.nd rfl (au rfl) (bA T.DV (LB T) hr (ah (bv 1) av)))
   (aC (aP (i:=3) vT.nd rfl (au rfl) (HD hT ((aK0 T hB).mono (by decide)) hr rfl T.D9.g T.D9.F.kp T.D9.b dH (ah (bv 0) (ah (bv 1) av))))
   (aC (aP (i:=4) vT.nd rfl (au rfl) (da (bt (bv 3) (ae ao) (λ_ _=>rfl))))
   (aC (aP (i:=5) vT.nd rfl (au rfl) (bA T.K0 (WD T) hr (ah (bt (bv 3) (ae ao) (λ_ _=>rfl)) av)))
   (aC (aP (i:=6) vT.nd rfl (au rfl) (bA T.K0 (WD T) hr (ah (ae (HD hT ((aD6 T hB).mono (by decide)) hr rfl T.Ea.g T.Ea.F.kp T.Ea.b dH (ah (bt (bv 3) (ae ao) (λ_ _=>rfl)) av))) av)))
   (aC (eH (PW.pt (zo (Cm (ub (ae (bA T.K4 (WI T) hr (ah (bv 5) (ah (bv 4) av)))))) (BU (Cm (ub (ae (bA T.K4 (WI T) hr (ah (bv 6) (ah (bv 4) av))))))))) (aH (aZ qg)) eG)
   (aC (eH (PW.pt (zo (cK (qj (eI hr)) (ae (bA T.K5 (WL T) hr (ah (bv 2) (ah (ae (Cu (G4) (by rfl) T.AS zc (ah (bv 5) av))) av)))) (bv 6) (cj _)) (BU (cK (qj (eI hr)) (ae (bA T.K5 (WL T) hr (ah (bv 2) (ah (ae (Cu (G4) (by rfl) T.AS zc (ah (bv 6) av))) av)))) (bv 5) (cj _))))) (aH (aZ qg)) eG)
   (aC (eH (Cm (ub (ae (bA T.K3 (WH T) hr (ah (bv 2) (ah (bv 4) (ah (ae (az dq (bv 4) (bt (bv 3) (ae ao) (λ_ _=>rfl)))) (ah (bv 5) (ah (bv 6) av))))))))) (aH (aZ qg)) eG)
   (aH (aZ (bA T.K3 (WH T) hr (ah (bv 2) (ah (bv 4) (ah (bt (bv 3) (ae ao) (λ_ _=>rfl)) (ah (bv 6) (ah (bv 5) av))))))))))))))))),λds Q h=>?_⟩
  obtain⟨ns,rfl,hl,q⟩:=h
  refine aB λU hU=>?_
  nofun
  refine⟨ns,0,rfl,by decide,_,rfl,rfl,hU _ ?_⟩
  clear hU U
  generalize WN:uq (ns.getD (qN 0) 0)=m
  have hm:m∈aA:=by rw[<-WN];exact cb9 _
  clear WN
  have fv:=(cT hm).lo
  have nO:=(cT hm).hi
  have VQ:=HM m hm
  refine aB λU hU=>?_
  nofun
  refine⟨m,rfl,by omega,by omega,hU _ ?_⟩
  clear hU U
  refine aB λU hU=>?_
  nofun
  refine⟨m,ns,rfl,hm,λG k n e cG wG n2 aK e1 en sz p1 p2=>hU _ ?_⟩
  clear hU U
  subst wG
  have h8:af G<=8:=by have:=of_decide_eq_true aK;omega
  have lR:=fX m G
  have wR:=cG.wide
  have rR:RT (aa m) (af (bj m G)) (bj m G):=by rw[wR];exact cG.rows
  obtain⟨cR,_⟩:=LX hm rR (by omega) (by omega)
  obtain⟨Fb,eF⟩:=WA hm rR (by omega)
  refine aB λU hU=>?_
  nofun
  refine⟨_,rfl,rfl,hU _ ?_⟩
  clear hU U
  refine aB λU hU=>?_
  nofun
  obtain⟨A,hA⟩:∃A,A=ip (af G) (dU m (af G) (bj m G)):=⟨_,rfl⟩
  obtain⟨B,hB⟩:∃B,B=ip (af G) (dU m (af G) (bj m (bj m G))):=⟨_,rfl⟩
  obtain⟨f1,f2,a0,b0,sA,sB⟩:=cG.meet cR aK (by omega) hA hB
  have lA:A.length=af G+1:=by rw[hA,s8]
  have lB:B.length=af G+1:=by rw[hB,s8]
  have q1:aa m ^ (aX m G).length<=64:=by rw[sz];exact p1
  have le:∀{L:List Nat} {k:Nat},aa m ^ k<=64->(L.map λ(a:Nat)=>(a:Int)).sum=(aa m:Int) ^ k->∀i,cf L i<=64:=λ{L k} h h' i=>by
   by_cases hi:i<L.length
   ·have e:∀(L:List Nat) (i:Nat),((cf L i:Nat):Int)<=(L.map λ(a:Nat)=>(a:Int)).sum:=λL=>by
     induction L with
     | nil=>intro i;exact Int.le_refl _
     | cons a L ih =>
      intro i
      rw[bR,tQ]
      cases i with
      | zero=>have:=ih L.length;rw[sT (bG _)]at this;show(a:Int)<=_;omega
      | succ i=>have:=ih i;rw[ct4];omega
    have:=e L i
    rw[h',<- wI]at this
    omega
   ·rw[sT (by omega)];omega
  have LZ:=le q1 sA
  refine⟨_,rfl,m,G,k,by rw[xR],cG,by omega,by rw[jK,iW],?_⟩
  rw[<-hA]
  refine hU _ ?_
  clear hU U
  refine aB λU hU=>?_
  nofun
  refine⟨_,rfl,m,G,k,Fb,by rw[xR],cG,n2,by omega,by omega,cR,eF,?_⟩
  have q3:aa m ^ (af G-(aX m G).length)<=64:=by rw[show af G-(aX m G).length=e by omega];exact p2
  have q2:aa m ^ (aX m (bj m G)).length<=64:=by
   have rr:=cR.rows
   rw[wR]at rr
   have:=SJ _ (Sm m rr)
   rw[<-hB,sB,by4,fX,<- wI]at this
   omega
  have leB:=le q3 sB
  refine⟨by rw[IL];rfl,m,bj m G,.Dq Fb.length,by rw[xR],cR,by omega,by rw[jK,iW],?_⟩
  rw[wR,<- hB]
  refine hU _ ?_
  clear hU U hA hB le
  refine aB λU hU=>?_
  nofun
  refine⟨A,af G,rfl,by omega,lA,rfl,true,rfl,?_⟩
  rw[if_neg (by decide)]
  refine⟨B,af G,rfl,by omega,lB,rfl,true,rfl,?_⟩
  rw[if_neg (by decide)]
  refine hU _ ?_
  clear hU U
  have pos:∀k:Nat,aa m ^ k<=64->0<(aa m:Int) ^ k/\((aa m:Int) ^ k).natAbs<2 ^ 200:=λk h=>by
   rw[<-wI]
   have:=Nat.pow_pos (n:=k) (show 0<aa m by omega)
   exact⟨by omega,iU (show _<=64 by rw[jZ];exact h) (by decide)⟩
  have bd:∀{L:List Nat},(∀i,cf L i<=64)->∀i,((L.map λ(a:Nat)=>(a:Int)).getD i 0).natAbs<2 ^ 200:=λ{L} h i=>by
   have:(L.map λ(a:Nat)=>(a:Int)).getD i 0=((cf L i:Nat):Int):=by
    unfold cf
    rw[aF,aF,bN]
    cases L[i]?<;>rfl
   rw[this,jZ]
   exact iU (h i) (by decide)
  obtain⟨t1,t2⟩:=pos _ q1
  obtain⟨t3,t4⟩:=pos _ q3
  refine aB λU hU=>?_
  nofun
  refine⟨(aa m:Int)-1,af G,A.map λ(a:Nat)=>(a:Int),by rw[show(aa m:Int)-1+1=aa m by omega];rfl,by omega,by omega,by omega,by rw[aR,lA],bd LZ,by rw[sA];exact t1,by rw[sA];exact t2,?_⟩
  rw[WM lA lB (by omega) sA f1]
  refine⟨jK B,Ab 5 true B,?_⟩
  rw[(xK true true B B).trans (decide_eq_true rfl),if_neg (by decide)]
  refine⟨(aa m:Int)-1,af G,B.map λ(a:Nat)=>(a:Int),by rw[show(aa m:Int)-1+1=aa m by omega];rfl,by omega,by omega,by omega,by rw[aR,lB],bd leB,by rw[sB];exact t3,by rw[sB];exact t4,?_⟩
  rw[WM lB lA (by omega) sB f2]
  refine⟨jK A,Ab 5 true A,?_⟩
  rw[(xK true true A A).trans (decide_eq_true rfl),if_neg (by decide)]
  refine hU _ ?_
  clear hU U
  have x1:(aa m:Int)-1+1=aa m:=by omega
  have ee:af G-(aX m G).length=e:=by omega
  rw[ee]at f2 sB
  refine aB λU hU=>?_
  nofun
  refine⟨_,rfl,?_⟩
  dsimp only
  refine⟨(aa m:Int)-1,af G,(aX m G).length,A,B,by rw[x1,show(af G:Int)-(e:Int)=((aX m G).length:Nat) by omega],by omega,by omega,h8,by omega,lA,lB,λi=>cQ (LZ i) (by decide),λi=>cQ (leB i) (by decide),by rw[x1];exact f1,a0,by rw[x1];exact sA,rfl,true,rfl,?_⟩
  rw[if_neg (by decide)]
  refine hU _ ?_
  clear hU U
  nofun
  refine⟨_,rfl,?_⟩
  exact⟨(aa m:Int)-1,af G,e,B,A,by rw[x1];rfl,by omega,by omega,h8,by omega,lB,lA,λi=>cQ (leB i) (by decide),λi=>cQ (LZ i) (by decide),by rw[x1];exact f2,b0,by rw[x1];exact sB,rfl,q⟩
end
set_option maxHeartbeats 0 in
theorem all_mk{l:PySem.W.OpenLaw}{w:World}{K:Frag}{h:Heap}{mg:Str->Option Value}{fa:Addr}{ts:List Addr}(X:K.In h)(G:h.Ns mainGlobals mg)(hfa:mg "law"=some (.ref fa))
  {dO7 dO8:Option Addr} {dO9:Array (Option Value)} {dP2 dP3 dP4 dP5 dP6:Value} {Be:Addr}
  {Bf jQ:Addr} {ay7:Option Addr} {ay8:Array (Option Value)} {WO:Array Value} {ay9:Value}
  {dQ0 dQ1:Option Addr} {dQ2:Array (Option Value)} {dQ3 dQ4 dQ5 dQ6 dQ7:Value} {Bg:Addr}
  {Bh jR:Addr} {aB9:Option Addr} {aC0:Array (Option Value)} {WQ:Array Value} {aC1:Value}
  {dR3 WR:Option Addr} {dR4:Array (Option Value)} {dR5 WS WT WU L0 WV:Value} {Bi:Addr}
  {L1:Addr} {dR6:Value} {dR7:Value} {dR8:Option Addr} {dR9:Array (Option Value)} {dS0:Nat}
  {dS1 WW:Option Addr} {dS2:Array (Option Value)} {dS3 WX WY WZ L4 W2:Value} {L5:Addr}
  {f0 f1 f2 f3 f4 f5 f6 f7 f8 f9 L6 sG L7 L8 L9 Ma Mb Mc Md Me Mg Mh xn Ew Ex Ey Mi yj Mj Ml Mm Mn Ez EA Mo Bj yk Mp Mq Ms Mt EB EC Mu Mv ED Mw Mx ym Mz MA MB MC MD ME MF MG MH MI MJ MK ML MM MN:Addr} {fd0 fd1 fd2 fd3 fd4 fd5 fd6 fd7 fd8 fd9 dT4 dT5 dT6 dT7 dT8 dT9 dU0 dU1 dU2 dU3 dU4 dU5 dU6 dU7 dU8 dU9 dV0 dV1 dV2 dV3 dV4 dV5 dV6 dV7 dV8 dV9 dW0 dW1 dW2 dW3 dW4 dW5 dW6 dW7 dW8 dW9 dX0 dX1 dX2 dX3 dX4 dX5 dX6 dX7 dX8 dX9 dY0 dY1 dY2 dY3 dY4 dY5 dY6 dY7:FuncData}
  {aQ cB rK pL aU bY:Addr}
  {DU:Tok}
  (Lr:nsIn K mainGlobals "BitField"=some (some (.ref aQ)))
  (Eh:nsIn K mainGlobals "CheckCode"=some (some (.ref cB)))
  (Ei:nsIn K mainGlobals "Code"=some (some (.ref rK)))
  (Ej:nsIn K mainGlobals "Field"=some (some (.ref pL)))
  (Lu:nsIn K mainGlobals "PrimeField"=some (some (.ref aU)))
  (Lw:nsIn K mainGlobals "RootCode"=some (some (.ref bY)))
  (a0:nsIn K mainGlobals "_law_told"=some (some (.ref f0)))
  (a1:nsIn K mainGlobals "_law_many"=some (some (.ref f1)))
  (a2:nsIn K mainGlobals "_law_cell"=some (some (.ref f2)))
  (a3:nsIn K mainGlobals "_law_small"=some (some (.ref f3)))
  (a4:nsIn K mainGlobals "powers_of"=some (some (.ref f4)))
  (a5:nsIn K mainGlobals "step_powers"=some (some (.ref f5)))
  (a6:nsIn K mainGlobals "logs_of"=some (some (.ref f6)))
  (a7:findIn K (.ref pL) "step_power"=some (some (.ref f7)))
  (W3:isFn K (.ref f7)=true)
  (a8:findIn K (.ref pL) "__init__"=some (some (.ref f8)))
  (mf8:isFn K (.ref f8)=true)
  (a9:nsIn K mainGlobals "makes_prime_field"=some (some (.ref f9)))
  (a10:findIn K (.ref aU) "__init__"=some (some (.ref Be)))
  (dY9:isFn K (.ref Be)=true)
  (a11:nsIn K mainGlobals "product_rows"=some (some (.ref L6)))
  (a12:nsIn K mainGlobals "bits_divided"=some (some (.ref sG)))
  (a13:nsIn K mainGlobals "stands_alone"=some (some (.ref L7)))
  (a14:nsIn K mainGlobals "makes_bit_field"=some (some (.ref L8)))
  (a15:nsIn K mainGlobals "bits_times"=some (some (.ref L9)))
  (a16:findIn K (.ref aQ) "__init__"=some (some (.ref Bg)))
  (dZ6:isFn K (.ref Bg)=true)
  (a17:nsIn K mainGlobals "_law_field"=some (some (.ref Ma)))
  (a18:nsIn K mainGlobals "_law_order"=some (some (.ref Mb)))
  (a19:nsIn K mainGlobals "_law_digits"=some (some (.ref Mc)))
  (a20:nsIn K mainGlobals "_law_mixed"=some (some (.ref Md)))
  (a21:nsIn K mainGlobals "_law_free"=some (some (.ref Me)))
  (a22:nsIn K mainGlobals "width_of"=some (some (.ref Mg)))
  (a23:nsIn K mainGlobals "first_with"=some (some (.ref Mh)))
  (a24:findIn K (.ref aQ) "scaled"=some (some (.ref xn)))
  (d05:isFn K (.ref xn)=true)
  (a25:findIn K (.ref aU) "scaled"=some (some (.ref Ew)))
  (d07:isFn K (.ref Ew)=true)
  (a26:findIn K (.ref aQ) "lessened"=some (some (.ref Ex)))
  (d09:isFn K (.ref Ex)=true)
  (a27:findIn K (.ref aU) "lessened"=some (some (.ref Ey)))
  (d12:isFn K (.ref Ey)=true)
  (a28:nsIn K mainGlobals "cleared"=some (some (.ref Mi)))
  (a29:findIn K (.ref pL) "over"=some (some (.ref yj)))
  (W4:isFn K (.ref yj)=true)
  (a30:nsIn K mainGlobals "reduced"=some (some (.ref Mj)))
  (a31:nsIn K mainGlobals "copied"=some (some (.ref Ml)))
  (a32:nsIn K mainGlobals "leads"=some (some (.ref Mm)))
  (a33:nsIn K mainGlobals "free_places"=some (some (.ref Mn)))
  (a34:findIn K (.ref aQ) "minus"=some (some (.ref Ez)))
  (d19:isFn K (.ref Ez)=true)
  (a35:findIn K (.ref aU) "minus"=some (some (.ref EA)))
  (d21:isFn K (.ref EA)=true)
  (a36:nsIn K mainGlobals "kernel_of_reduced"=some (some (.ref Mo)))
  (a37:findIn K (.ref rK) "__init__"=some (some (.ref Bj)))
  (ei3:isFn K (.ref Bj)=true)
  (a38:findIn K (.ref pL) "holds"=some (some (.ref yk)))
  (W5:isFn K (.ref yk)=true)
  (a39:nsIn K mainGlobals "is_small_table"=some (some (.ref Mp)))
  (a40:nsIn K mainGlobals "rank"=some (some (.ref Mq)))
  (a41:nsIn K mainGlobals "turned"=some (some (.ref Ms)))
  (a42:nsIn K mainGlobals "is_nought"=some (some (.ref Mt)))
  (a43:findIn K (.ref aQ) "times"=some (some (.ref EB)))
  (d28:isFn K (.ref EB)=true)
  (a44:findIn K (.ref aU) "times"=some (some (.ref EC)))
  (d30:isFn K (.ref EC)=true)
  (a45:nsIn K mainGlobals "past"=some (some (.ref Mu)))
  (a46:nsIn K mainGlobals "first_bound"=some (some (.ref Mv)))
  (a47:findIn K (.ref cB) "__init__"=some (some (.ref ED)))
  (d34:isFn K (.ref ED)=true)
  (a48:nsIn K mainGlobals "makes_root_code"=some (some (.ref Mw)))
  (a49:findIn K (.ref bY) "__init__"=some (some (.ref Bi)))
  (d37:isFn K (.ref Bi)=true)
  (a50:nsIn K mainGlobals "_law_made"=some (some (.ref Mx)))
  (a51:findIn K (.ref rK) "rows"=some (some (.ref ym)))
  (W6:isFn K (.ref ym)=true)
  (a52:nsIn K mainGlobals "all_words"=some (some (.ref Mz)))
  (a53:nsIn K mainGlobals "how_many_words"=some (some (.ref MA)))
  (a54:nsIn K mainGlobals "census"=some (some (.ref MB)))
  (a55:nsIn K mainGlobals "_law_raised"=some (some (.ref MC)))
  (a56:nsIn K mainGlobals "_law_choose"=some (some (.ref MD)))
  (a57:nsIn K mainGlobals "_law_number"=some (some (.ref ME)))
  (a58:nsIn K mainGlobals "_law_meet"=some (some (.ref MF)))
  (a59:nsIn K mainGlobals "refuse_large"=some (some (.ref MG)))
  (a60:nsIn K mainGlobals "crossed_code"=some (some (.ref MH)))
  (a61:nsIn K mainGlobals "_law_whole"=some (some (.ref MI)))
  (a62:nsIn K mainGlobals "_law_counts"=some (some (.ref MJ)))
  (a63:nsIn K mainGlobals "powers_up_to"=some (some (.ref MK)))
  (a64:nsIn K mainGlobals "ways_to_choose"=some (some (.ref ML)))
  (a65:nsIn K mainGlobals "crossed_factors"=some (some (.ref MM)))
  (a66:nsIn K mainGlobals "crossed_census"=some (some (.ref MN)))
  (W7:nsIn K mainGlobals "law"=some (some (.ref L5)))
  (aK7:plainGet K aQ Bn=true)
  (aK8:hasDictIn K aQ=true)
  (aK9:plainOver K aQ=true)
  (aL0:findIn K (.ref aQ) "__setattr__"=some (some (.builtin "object.__setattr__")))
  (K6:makesIn K aQ=true)
  (aL1:keepIn K (.ref aQ)=true)
  (K7:findIn K (.ref aQ) "bits"=some none)
  (yb:findIn K (.ref aQ) "logs"=some none)
  (vV:findIn K (.ref aQ) "many"=some none)
  (yc:findIn K (.ref aQ) "powers"=some none)
  (yd:findIn K (.ref aQ) "products"=some none)
  (K8:findIn K (.ref aQ) "step"=some none)
  (K9:findIn K (.ref aQ) "wide"=some none)
  (La:findIn K (.ref aQ) "holds"=some (some (.ref yk)))
  (Lb:findIn K (.ref aQ) "over"=some (some (.ref yj)))
  (AG:findIn K (.ref aQ) "step_power"=some (some (.ref f7)))
  (d61:plainGet K cB Bn=true)
  (d62:hasDictIn K cB=true)
  (d63:plainOver K cB=true)
  (d64:findIn K (.ref cB) "__setattr__"=some (some (.builtin "object.__setattr__")))
  (Eb:makesIn K cB=true)
  (d65:keepIn K (.ref cB)=true)
  (Lc:findIn K (.ref cB) "bound"=some none)
  (Ld:findIn K (.ref cB) "check_rows"=some none)
  (AH:findIn K (.ref cB) "field"=some none)
  (AI:findIn K (.ref cB) "length"=some none)
  (Le:findIn K (.ref cB) "message_places"=some none)
  (AJ:findIn K (.ref cB) "size"=some none)
  (AK:findIn K (.ref cB) "word_rows"=some none)
  (yf:findIn K (.ref cB) "rows"=some (some (.ref ym)))
  (aH6:plainGet K aU Bn=true)
  (aH7:hasDictIn K aU=true)
  (aH8:plainOver K aU=true)
  (aH9:findIn K (.ref aU) "__setattr__"=some (some (.builtin "object.__setattr__")))
  (Lf:makesIn K aU=true)
  (aI0:keepIn K (.ref aU)=true)
  (AL:findIn K (.ref aU) "logs"=some none)
  (vW:findIn K (.ref aU) "many"=some none)
  (AM:findIn K (.ref aU) "powers"=some none)
  (vX:findIn K (.ref aU) "prime"=some none)
  (Lg:findIn K (.ref aU) "step"=some none)
  (Lh:findIn K (.ref aU) "wide"=some none)
  (Li:findIn K (.ref aU) "holds"=some (some (.ref yk)))
  (Lj:findIn K (.ref aU) "over"=some (some (.ref yj)))
  (AN:findIn K (.ref aU) "step_power"=some (some (.ref f7)))
  (d71:plainGet K bY Bn=true)
  (d72:hasDictIn K bY=true)
  (d73:plainOver K bY=true)
  (d74:findIn K (.ref bY) "__setattr__"=some (some (.builtin "object.__setattr__")))
  (Lk:makesIn K bY=true)
  (d75:keepIn K (.ref bY)=true)
  (Ll:findIn K (.ref bY) "check_rows"=some none)
  (Lm:findIn K (.ref bY) "extra"=some none)
  (Ec:findIn K (.ref bY) "field"=some none)
  (Ln:findIn K (.ref bY) "first"=some none)
  (Ed:findIn K (.ref bY) "length"=some none)
  (Lo:findIn K (.ref bY) "message_places"=some none)
  (Ee:findIn K (.ref bY) "size"=some none)
  (Ef:findIn K (.ref bY) "word_rows"=some none)
  (Eg:findIn K (.ref bY) "rows"=some (some (.ref ym)))
  (d76:PySem.W.specialIn K (.ref rK) "__getattribute__"=some (some (.builtin "type.__getattribute__")))
  (d77:PySem.W.readsIn K rK (.type "type")=true)
  (d78:PySem.W.findCls K (.ref rK) (.type "type") "__init__"=some (.val (.ref Bj)))
  (aI1:PySem.W.specialIn K (.ref pL) "__getattribute__"=some (some (.builtin "type.__getattribute__")))
  (aI2:PySem.W.readsIn K pL (.type "type")=true)
  (aI3:PySem.W.findCls K (.ref pL) (.type "type") "__init__"=some (.val (.ref f8)))
  (d83:nsIn K mainGlobals "all"=some none)
  (d84:nsIn K mainGlobals "any"=some none)
  (d85:nsIn K mainGlobals "bool"=some none)
  (d86:nsIn K mainGlobals "enumerate"=some none)
  (d87:nsIn K mainGlobals "int"=some none)
  (d88:nsIn K mainGlobals "isinstance"=some none)
  (d89:nsIn K mainGlobals "len"=some none)
  (d90:nsIn K mainGlobals "list"=some none)
  (d91:nsIn K mainGlobals "min"=some none)
  (d92:nsIn K mainGlobals "range"=some none)
  (d93:nsIn K mainGlobals "sum"=some none)
  (d94:nsIn K mainGlobals "zip"=some none)
  (d95:nsIn K mainGlobals "MOST_WORDS"=some (some (.int 4096 DU)))
  (F0:bh K "_law_told" "_law_told" Jj f0 fd0)
  (F1:bh K "_law_many" "_law_many" Jl f1 fd1)
  (F2:bh K "_law_cell" "_law_cell" Jm f2 fd2)
  (F3:bh K "_law_small" "_law_small" Jn f3 fd3)
  (F4:bh K "powers_of" "powers_of" Jo f4 fd4)
  (F5:bh K "step_powers" "step_powers" Jp f5 fd5)
  (F6:bh K "logs_of" "logs_of" Jq f6 fd6)
  (F7:bh K "step_power" "Field.step_power" Js f7 fd7)
  (F8:bh K "__init__" "Field.__init__" Jt f8 fd8)
  (F9:bh K "makes_prime_field" "makes_prime_field" Ju f9 fd9)
  (W8:bh K "product_rows" "product_rows" Jv L6 dT4)
  (W9:bh K "bits_divided" "bits_divided" Jw sG dT5)
  (Xa:bh K "stands_alone" "stands_alone" Jx L7 dT6)
  (Xb:bh K "makes_bit_field" "makes_bit_field" Jz L8 dT7)
  (Xc:bh K "bits_times" "bits_times" JA L9 dT8)
  (Xd:bh K "_law_field" "_law_field" JB Ma dT9)
  (Xe:bh K "_law_order" "_law_order" JC Mb dU0)
  (Xf:bh K "_law_digits" "_law_digits" JE Mc dU1)
  (Xg:bh K "_law_mixed" "_law_mixed" JF Md dU2)
  (Xh:bh K "_law_free" "_law_free" JG Me dU3)
  (Xi:bh K "width_of" "width_of" JH Mg dU4)
  (Xj:bh K "first_with" "first_with" JI Mh dU5)
  (MP:bh K "scaled" "BitField.scaled" JJ xn dU6)
  (MQ:bh K "scaled" "PrimeField.scaled" JK Ew dU7)
  (MR:bh K "lessened" "BitField.lessened" JL Ex dU8)
  (MS:bh K "lessened" "PrimeField.lessened" JM Ey dU9)
  (Xk:bh K "cleared" "cleared" JN Mi dV0)
  (EE:bh K "over" "Field.over" JO yj dV1)
  (Xl:bh K "reduced" "reduced" JP Mj dV2)
  (Xm:bh K "copied" "copied" JQ Ml dV3)
  (Xn:bh K "leads" "leads" JR Mm dV4)
  (Xo:bh K "free_places" "free_places" JS Mn dV5)
  (MT:bh K "minus" "BitField.minus" JT Ez dV6)
  (MU:bh K "minus" "PrimeField.minus" JU EA dV7)
  (Xp:bh K "kernel_of_reduced" "kernel_of_reduced" JV Mo dV8)
  (MV:bh K "__init__" "Code.__init__" JW Bj dV9)
  (EF:bh K "holds" "Field.holds" JX yk dW0)
  (Xq:bh K "is_small_table" "is_small_table" JY Mp dW1)
  (Xr:bh K "rank" "rank" JZ Mq dW2)
  (Xs:bh K "turned" "turned" J0 Ms dW3)
  (Xt:bh K "is_nought" "is_nought" J1 Mt dW4)
  (MW:bh K "times" "BitField.times" J2 EB dW5)
  (MX:bh K "times" "PrimeField.times" J3 EC dW6)
  (Xu:bh K "past" "past" J4 Mu dW7)
  (Xv:bh K "first_bound" "first_bound" J5 Mv dW8)
  (Xw:bh K "__init__" "CheckCode.__init__" J6 ED dW9)
  (Xx:bh K "makes_root_code" "makes_root_code" J7 Mw dX0)
  (Xy:bh K "_law_made" "_law_made" J8 Mx dX1)
  (EG:bh K "rows" "Code.rows" J9 ym dX2)
  (Xz:bh K "all_words" "all_words" Ka Mz dX3)
  (XA:bh K "how_many_words" "how_many_words" Kb MA dX4)
  (XB:bh K "census" "census" Ke MB dX5)
  (XC:bh K "_law_raised" "_law_raised" Kg MC dX6)
  (XD:bh K "_law_choose" "_law_choose" Kh MD dX7)
  (XE:bh K "_law_number" "_law_number" Ki ME dX8)
  (XF:bh K "_law_meet" "_law_meet" Kj MF dX9)
  (XG:bh K "refuse_large" "refuse_large" Kk MG dY0)
  (XH:bh K "crossed_code" "crossed_code" Kl MH dY1)
  (XI:bh K "_law_whole" "_law_whole" Km MI dY2)
  (XJ:bh K "_law_counts" "_law_counts" Kn MJ dY3)
  (XM:bh K "powers_up_to" "powers_up_to" Ko MK dY4)
  (XN:bh K "ways_to_choose" "ways_to_choose" Kp ML dY5)
  (XO:bh K "crossed_factors" "crossed_factors" Kq MM dY6)
  (XQ:bh K "crossed_census" "crossed_census" Kr MN dY7)
  (l10:K.lookup Be=some ⟨dP2,dO7,.func (fnOf "__init__" "PrimeField.__init__" (jy s9) (gy s9) (aM s9) .none dP3 dP4 dP5 dO8 (.ref Bf) dP6),dO9⟩)
  (c10:codeIn K (.ref Bf) "PrimeField.__init__"=true)
  (Et:keepIn K (.ref Be)=true)
  (aM3:K.lookup Bf=some ⟨ay9,ay7,.fields WO,ay8⟩)
  (aM4:WO[11]?=some (.ref jQ))
  (az0:codeHdIn K Bf jQ=true)
  (l16:K.lookup Bg=some ⟨dQ3,dQ0,.func (fnOf "__init__" "BitField.__init__" (jy tf) (gy tf) (aM tf) .none dQ4 dQ5 dQ6 dQ1 (.ref Bh) dQ7),dQ2⟩)
  (c16:codeIn K (.ref Bh) "BitField.__init__"=true)
  (k16:keepIn K (.ref Bg)=true)
  (aM5:K.lookup Bh=some ⟨aC1,aB9,.fields WQ,aC0⟩)
  (aM6:WQ[11]?=some (.ref jR))
  (aC2:codeHdIn K Bh jR=true)
  (l49:K.lookup Bi=some ⟨dR5,dR3,.func (fnOf "__init__" "RootCode.__init__" (jy tu) (gy tu) (aM tu) (.ref L1) WS WT WU WR L0 WV),dR4⟩)
  (ea4:K.lookup L1=some ⟨dR6,dR8,.seq #[dR7] dS0,dR9⟩)
  (c49:codeIn K L0 "RootCode.__init__"=true)
  (k49:keepIn K (.ref Bi)=true)
  (l67:K.lookup L5=some ⟨dS3,dS1,.func (fnOf "law" "law" (jy tE) (gy tE) (aM tE) .none WX WY WZ WW L4 W2),dS2⟩)
  (c67:codeIn K L4 "law"=true)
  (k67:keepIn K (.ref L5)=true)
  (nl:K.all (λp=>Ha p.2)=true)
  (sub:∀P∈[jQ,jR],P∈ts) :
  ∃fd:FuncData,(∀(s:Shared) (v:Value),BindsTo s fd ⟨[v],[]⟩ [("_law_script",v)])/\∀base:Heap,K.In base->base.Ns mainGlobals mg->Bm mg base->aO l.prog w K mg base aS 12 fa fd ["_law_script"] (CD ts K):=by
 have e:=hfa.symm.trans (mg_of X G W7)
 cases e
 have XR:=Cc (st:=s9) l10 c10 Et
 have b10:=XR.binds (ps:=["self","prime"]) λ_ _ _ _ _ _=>eX (λ_ _=>rfl)
 have XS:=Cc (st:=tf) l16 c16 k16
 have b16:=XS.binds (ps:=["self","bits"]) λ_ _ _ _ _ _=>eX (λ_ _=>rfl)
 have F49:=cm1 (st:=tu) l49 c49 k49
 have b49:=cD2 (ps:=["self","field","length","extra","first"]) (fd:=fnOf "__init__" "RootCode.__init__" (jy tu) (gy tu) (aM tu) (.ref L1) WS WT WU WR L0 WV) rfl ea4 rfl (RE (λ_ _ _ _ _=>⟨_,rfl,rfl⟩))
 have XT:=Cc (st:=tE) l67 c67 k67
 have b67:=XT.binds (ps:=["_law_script"]) λ_ _ _ _ _ _=>fV (λ_=>rfl)
 have T:Txt K mg ⟨f0,_,f1,_,f2,_,f3,_,f4,_,f5,_,f6,_,f7,_,f8,_,f9,_,Be,_,L6,_,sG,_,L7,_,L8,_,L9,_,Bg,_,Ma,_,Mb,_,Mc,_,Md,_,Me,_,Mg,_,Mh,_,xn,_,Ew,_,Ex,_,Ey,_,Mi,_,yj,_,Mj,_,Ml,_,Mm,_,Mn,_,Ez,_,EA,_,Mo,_,Bj,_,yk,_,Mp,_,Mq,_,Ms,_,Mt,_,EB,_,EC,_,Mu,_,Mv,_,ED,_,Mw,_,Bi,_,Mx,_,ym,_,Mz,_,MA,_,MB,_,MC,_,MD,_,ME,_,MF,_,MG,_,MH,_,MI,_,MJ,_,MK,_,ML,_,MM,_,MN,_,fa,_,Bf,jQ,Bh,jR,aQ,cB,rK,pL,aU,bY,DU⟩:=⟨⟨F0,mg_of X G a0,F0.binds λ_ _ _ _ _ _=>fV λ_=>rfl⟩,⟨F1,mg_of X G a1,F1.binds λ_ _ _ _ _ _=>fV λ_=>rfl⟩,⟨F2,mg_of X G a2,F2.binds λ_ _ _ _ _ _=>eX λ_ _=>rfl⟩,⟨F3,mg_of X G a3,F3.binds λ_ _ _ _ _ _=>eX λ_ _=>rfl⟩,⟨F4,mg_of X G a4,F4.binds λ_ _ _ _ _ _=>eX λ_ _=>rfl⟩,⟨F5,mg_of X G a5,F5.binds λ_ _ _ _ _ _=>eX λ_ _=>rfl⟩,⟨F6,mg_of X G a6,F6.binds λ_ _ _ _ _ _=>fV λ_=>rfl⟩,⟨F7,F7.binds λ_ _ _ _ _ _=>eX λ_ _=>rfl⟩,⟨F8,F8.binds λ_ _ _ _ _ _=>jO λ_ _ _=>rfl⟩,⟨F9,mg_of X G a9,F9.binds λ_ _ _ _ _ _=>fV λ_=>rfl⟩,⟨XR,b10⟩,⟨W8,mg_of X G a11,W8.binds λ_ _ _ _ _ _=>eX λ_ _=>rfl⟩,⟨W9,mg_of X G a12,W9.binds λ_ _ _ _ _ _=>eX λ_ _=>rfl⟩,⟨Xa,mg_of X G a13,Xa.binds λ_ _ _ _ _ _=>fV λ_=>rfl⟩,⟨Xb,mg_of X G a14,Xb.binds λ_ _ _ _ _ _=>fV λ_=>rfl⟩,⟨Xc,mg_of X G a15,Xc.binds λ_ _ _ _ _ _=>eX λ_ _=>rfl⟩,⟨XS,b16⟩,⟨Xd,mg_of X G a17,Xd.binds λ_ _ _ _ _ _=>fV λ_=>rfl⟩,⟨Xe,mg_of X G a18,Xe.binds λ_ _ _ _ _ _=>eX λ_ _=>rfl⟩,⟨Xf,mg_of X G a19,Xf.binds λ_ _ _ _ _ _=>jO λ_ _ _=>rfl⟩,⟨Xg,mg_of X G a20,Xg.binds λ_ _ _ _ _ _=>eX λ_ _=>rfl⟩,⟨Xh,mg_of X G a21,Xh.binds λ_ _ _ _ _ _=>vM λ_ _ _ _=>rfl⟩,⟨Xi,mg_of X G a22,Xi.binds λ_ _ _ _ _ _=>fV λ_=>rfl⟩,⟨Xj,mg_of X G a23,Xj.binds λ_ _ _ _ _ _=>eX λ_ _=>rfl⟩,⟨MP,MP.binds λ_ _ _ _ _ _=>jO λ_ _ _=>rfl⟩,⟨MQ,MQ.binds λ_ _ _ _ _ _=>jO λ_ _ _=>rfl⟩,⟨MR,MR.binds λ_ _ _ _ _ _=>vM λ_ _ _ _=>rfl⟩,⟨MS,MS.binds λ_ _ _ _ _ _=>vM λ_ _ _ _=>rfl⟩,⟨Xk,mg_of X G a28,Xk.binds λ_ _ _ _ _ _=>vM λ_ _ _ _=>rfl⟩,⟨EE,EE.binds λ_ _ _ _ _ _=>jO λ_ _ _=>rfl⟩,⟨Xl,mg_of X G a30,Xl.binds λ_ _ _ _ _ _=>eX λ_ _=>rfl⟩,⟨Xm,mg_of X G a31,Xm.binds λ_ _ _ _ _ _=>fV λ_=>rfl⟩,⟨Xn,mg_of X G a32,Xn.binds λ_ _ _ _ _ _=>fV λ_=>rfl⟩,⟨Xo,mg_of X G a33,Xo.binds λ_ _ _ _ _ _=>eX λ_ _=>rfl⟩,⟨MT,MT.binds λ_ _ _ _ _ _=>jO λ_ _ _=>rfl⟩,⟨MU,MU.binds λ_ _ _ _ _ _=>jO λ_ _ _=>rfl⟩,⟨Xp,mg_of X G a36,Xp.binds λ_ _ _ _ _ _=>jO λ_ _ _=>rfl⟩,⟨MV,MV.binds λ_ _ _ _ _ _=>jO λ_ _ _=>rfl⟩,⟨EF,EF.binds λ_ _ _ _ _ _=>eX λ_ _=>rfl⟩,⟨Xq,mg_of X G a39,Xq.binds λ_ _ _ _ _ _=>eX λ_ _=>rfl⟩,⟨Xr,mg_of X G a40,Xr.binds λ_ _ _ _ _ _=>eX λ_ _=>rfl⟩,⟨Xs,mg_of X G a41,Xs.binds λ_ _ _ _ _ _=>fV λ_=>rfl⟩,⟨Xt,mg_of X G a42,Xt.binds λ_ _ _ _ _ _=>fV λ_=>rfl⟩,⟨MW,MW.binds λ_ _ _ _ _ _=>jO λ_ _ _=>rfl⟩,⟨MX,MX.binds λ_ _ _ _ _ _=>jO λ_ _ _=>rfl⟩,⟨Xu,mg_of X G a45,Xu.binds λ_ _ _ _ _ _=>jO λ_ _ _=>rfl⟩,⟨Xv,mg_of X G a46,Xv.binds λ_ _ _ _ _ _=>eX λ_ _=>rfl⟩,⟨Xw,Xw.binds λ_ _ _ _ _ _=>jO λ_ _ _=>rfl⟩,⟨Xx,mg_of X G a48,Xx.binds λ_ _ _ _ _ _=>vM λ_ _ _ _=>rfl⟩,F49,b49,⟨Xy,mg_of X G a50,Xy.binds λ_ _ _ _ _ _=>eX λ_ _=>rfl⟩,⟨EG,EG.binds λ_ _ _ _ _ _=>fV λ_=>rfl⟩,⟨Xz,mg_of X G a52,Xz.binds λ_ _ _ _ _ _=>fV λ_=>rfl⟩,⟨XA,mg_of X G a53,XA.binds λ_ _ _ _ _ _=>fV λ_=>rfl⟩,⟨XB,mg_of X G a54,XB.binds λ_ _ _ _ _ _=>fV λ_=>rfl⟩,⟨XC,mg_of X G a55,XC.binds λ_ _ _ _ _ _=>eX λ_ _=>rfl⟩,⟨XD,mg_of X G a56,XD.binds λ_ _ _ _ _ _=>eX λ_ _=>rfl⟩,⟨XE,mg_of X G a57,XE.binds λ_ _ _ _ _ _=>vM λ_ _ _ _=>rfl⟩,⟨XF,mg_of X G a58,XF.binds λ_ _ _ _ _ _=>RE λ_ _ _ _ _=>rfl⟩,⟨XG,mg_of X G a59,XG.binds λ_ _ _ _ _ _=>fV λ_=>rfl⟩,⟨XH,mg_of X G a60,XH.binds λ_ _ _ _ _ _=>fV λ_=>rfl⟩,⟨XI,mg_of X G a61,XI.binds λ_ _ _ _ _ _=>fV λ_=>rfl⟩,⟨XJ,mg_of X G a62,XJ.binds λ_ _ _ _ _ _=>eX λ_ _=>rfl⟩,⟨XM,mg_of X G a63,XM.binds λ_ _ _ _ _ _=>eX λ_ _=>rfl⟩,⟨XN,mg_of X G a64,XN.binds λ_ _ _ _ _ _=>fV λ_=>rfl⟩,⟨XO,mg_of X G a65,XO.binds λ_ _ _ _ _ _=>jO λ_ _ _=>rfl⟩,⟨XQ,mg_of X G a66,XQ.binds λ_ _ _ _ _ _=>eX λ_ _=>rfl⟩,⟨XT,mg_of X G W7,b67⟩,rfl,az0,rfl,aC2,⟨aK7,aK8,aK9,aL0⟩,⟨K6,a16,dZ6,aL1⟩,K7,yb,vV,yc,yd,K8,K9,⟨La,W5,EF.kp⟩,⟨a26,d09,MR.kp⟩,⟨a34,d19,MT.kp⟩,⟨Lb,W4,EE.kp⟩,⟨a24,d05,MP.kp⟩,⟨AG,W3,F7.kp⟩,⟨a43,d28,MW.kp⟩,⟨d61,d62,d63,d64⟩,⟨Eb,a47,d34,d65⟩,Lc,Ld,AH,AI,Le,AJ,AK,⟨yf,W6,EG.kp⟩,⟨aH6,aH7,aH8,aH9⟩,⟨Lf,a10,dY9,aI0⟩,AL,vW,AM,vX,Lg,Lh,⟨Li,W5,EF.kp⟩,⟨a27,d12,MS.kp⟩,⟨a35,d21,MU.kp⟩,⟨Lj,W4,EE.kp⟩,⟨a25,d07,MQ.kp⟩,⟨AN,W3,F7.kp⟩,⟨a44,d30,MX.kp⟩,⟨d71,d72,d73,d74⟩,⟨Lk,a49,d37,d75⟩,Ll,Lm,Ec,Ln,Ed,Lo,Ee,Ef,⟨Eg,W6,EG.kp⟩,⟨d76,d77,d78,MV.kp⟩,⟨aI1,aI2,aI3,F8.kp⟩,mg_none_of X G d83,mg_none_of X G d84,mg_none_of X G d85,mg_none_of X G d86,mg_none_of X G d87,mg_none_of X G d88,mg_none_of X G d89,mg_none_of X G d90,mg_none_of X G d91,mg_none_of X G d92,mg_none_of X G d93,mg_none_of X G d94,mg_of X G d95,mg_of X G Lr,mg_of X G Eh,mg_of X G Ei,mg_of X G Ej,mg_of X G Lu,mg_of X G Lw⟩
 exact⟨fnOf "law" "law" (jy tE) (gy tE) (aM tE) .none WX WY WZ WW L4 W2,λs v=>.of_eq rfl,λbase _ _ hB=>(cF5 T hB).imp λvs H Q E h=>let z:=cd7 nl h;⟨λP hP=>z.1 P (sub P hP),z.2⟩⟩
theorem az1{K:Frag}{h:Heap}{c f k P:Addr}{od an:Option Addr}{sl:Array (Option Value)}{oc kV dc pm ct kt:Value}{ko:Option Addr}{ks:Array (Option Value)}{kf:Array Value}(X:K.In h)(a:nsIn K mainGlobals "PrimeField"=some (some (.ref c)))(b:findIn K (.ref c) "__init__"=some (some (.ref f)))
  (l:K.lookup f=some ⟨oc,od,.func (fnOf "__init__" "PrimeField.__init__" (jy s9) (gy s9) (aM s9) .none kV dc pm an (.ref k) ct),sl⟩) (lk:K.lookup k=some ⟨kt,ko,.fields kf,ks⟩) (lp:kf[11]?=some (.ref P)) (n:K.lookup P=none) (e:codeHdIn K k P=true):K.lookup P=none/\∃c,CodeHd h c P:=⟨n,k,PySem.W.codeHd_of_K X e⟩
theorem aC3{K:Frag}{h:Heap}{c f k P:Addr}{od an:Option Addr}{sl:Array (Option Value)}{oc kV dc pm ct kt:Value}{ko:Option Addr}{ks:Array (Option Value)}{kf:Array Value}(X:K.In h)(a:nsIn K mainGlobals "BitField"=some (some (.ref c)))(b:findIn K (.ref c) "__init__"=some (some (.ref f)))
  (l:K.lookup f=some ⟨oc,od,.func (fnOf "__init__" "BitField.__init__" (jy tf) (gy tf) (aM tf) .none kV dc pm an (.ref k) ct),sl⟩) (lk:K.lookup k=some ⟨kt,ko,.fields kf,ks⟩) (lp:kf[11]?=some (.ref P)) (n:K.lookup P=none) (e:codeHdIn K k P=true):K.lookup P=none/\∃c,CodeHd h c P:=⟨n,k,PySem.W.codeHd_of_K X e⟩
theorem walk{l:PySem.W.OpenLaw}{q:Program}{loose:List Str}{XP:(Str->Option Value)->Heap->Prop}{YP:World->Heap->Prop}{d:DefRec}{K:Params->Frag}{ts:List Addr}(hn:l.most=some 63)(yW:d.params.defaults=[])
  (hY:∀(w:World) (h:Heap),YP w h->(K w.params).In h/\∀P∈ts,h.get? P=some (PySem.W.tabObj #[]))
  (hC:∀(w:World) (h:Heap),(K w.params).In h->∀P∈ts,(K w.params).lookup P=none/\∃c,CodeHd h c P)
  (F:∀(w:World) (mg:Str->Option Value) (fa:Addr) (h:Heap),(K w.params).In h->h.Ns mainGlobals mg->mg d.name=some (.ref fa) ->
   ∃fd:FuncData,(∀(s:Shared) (u:Value),BindsTo s fd ⟨[u],[]⟩ [("_law_script",u)])/\∀base:Heap,(K w.params).In base->base.Ns mainGlobals mg->Bm mg base->aO l.prog w (K w.params) mg base aS 12 fa fd ["_law_script"] (CD ts (K w.params))) :
  PySem.W.WalkO q loose XP YP l.row.toRowW d [] (λf vs=>PySem.call f vs) :=
 L2.da3 (n:=63) (k:=12) (x:="_law_script") (CX:=λ_=>aS) (sp:=λw=>CD ts (K w.params)) hn (by decide) yW ⟨rfl,by decide,by decide⟩ hY hC F (λ_ _ a ns hl hO hS=>⟨a,ns,rfl,hO,hS,hl,λ_=>rfl⟩) λ_ _ _ _ _ z=>z
end HK48
set_option genInjectivity false in
set_option genSizeOf false in
structure PySem.W.Fast:Prop where
 (tw6140281803241359424 tw4490197625822176352 tw13918455648630640768 tw12861640957839121536 tw8799072190195897504 tw16968750551055018144 tw13673479974536849568 tw10073245247944306848 tw14298679091688765600 tw18043383821748290752 tw15401708484664855776 tw9192741621666980096 tw4008142979415126272 tw1013774753215741184 tw12299937482211148064 tw10374336393982394688 tw9800616893499672928 tw10530965427728369024 tw7683292379091488128 tw4705940781505402240 tw9141331632085730720 tw4675016352052625824 tw9335928152245299616 tw13013309859498194336 tw10652312468670312928 tw6379364287759816192 tw3220816639828651552 tw11938581346092628544 tw4525761546405913216 tw7854565200260126336 tw15909144154897869472 tw11072127278189522656 tw2633760406400628448 tw8333434978530069248 tw17580826214963486528 tw15278010518616070976 tw8299541228661645152 tw5001324829076019104 tw13348408892820256672 tw6918610339262273537:True)
 (tw5870131232751239169 tw17657401434848605217 tw18243502085365053537 tw4939142515293876449 tw2200691254528250113 tw17372550370049165633 tw17480421041544454465 tw8458763530314773825 tw329074574579720545 tw18319036434257651073 tw17893724949933185409 tw7004051779056532865 tw8253658901465956769 tw10294871920379559329 tw9973913191164633569 tw10598353847993748993 tw16756609359799516737 tw12803422061942265441 tw6754635686621972097 tw400673135120768641 tw12354683430126284417 tw9841115968318112417 tw265596047025607329 tw7264605837008848545 tw18330803679665374881 tw12111368470452344545 tw17386526441746194145 tw6435567515392642817 tw5717305942364471105 tw7283485084244027233 tw12100366616171765601 tw4649116793400022977 tw4107728281156444097 tw17107767436072680417 tw985832974223117314 tw16294398084983413794 tw8059602460071833634 tw17341716227750647842 tw5777117133166923842 tw271747477916563554:True)
 (tw11038045949746174050 tw1432910837970004098 tw2695439010687475874 tw17575259025509329186 tw6806212878703377698 tw8279200602868460898 tw11198067222673792386 tw7680753792117472738 tw7257728032889509378 tw11965450580517654050 tw1998449403244029474 tw15576290039939188290 tw9395791592766000738 tw5367818525196353122 tw11315801379750294146 tw7756836158564936418 tw5950048604972961538 tw18244257458212860674 tw15180654719127105314 tw16032369807734041410 tw9450275171124015938 tw5936801680295597922 tw14242565816102393730 tw2679411329582619522 tw12216429244782206882 tw11279646663926247362 tw3846134412864247843 tw8239377466094338115 tw14726438362582383715 tw17144226759551595651 tw14083020668026211523 tw9660951608132103363 tw16954214233864101123 tw10800831352980890883 tw8613335003592656163 tw3868494629875157283 tw13632031469957763363 tw2027690395670054243 tw16922000400104720739 tw10336286800587613539:True)
 (tw12000426443618546019 tw1971962699723734371 tw4596047476918061443 tw1068234037381417347 tw10013444537869969827 tw16380488382018043299 tw10616389109717319075 tw727810521090673059 tw18244154568739574211 tw165913213343982019 tw4717160737400351171 tw9549862195577035235 tw9994576311287662083 tw1030564309634167331 tw6374142854478194211 tw8013859034387574307 tw7509452632975348291 tw9949593644014986819 tw11533068652412256867 tw541197986537505411 tw6250742467070039715 tw8003082577691722403 tw4956554574773006019 tw16572938600717977347 tw13191640273629859587 tw11275622028661245731 tw14186990093410892579 tw788379364614652739 tw13442293840071279491 tw10550513415644344195 tw5608451925870727075 tw7662259789468099523 tw14487115129584725028 tw4544531864962874404 tw991632737248157764 tw4964972627562730628 tw11384380980326504612 tw14437536821307995300 tw8795950667862195588 tw10009297427602761092:True)
 (tw7148913738529481124 tw16705283035379130820 tw10343829538186930724 tw2584571560009125412 tw2075704822411133508 tw8146418528345936452 tw16533577763300990532 tw3755370763846986404 tw6129316276222092964 tw12503835793286997764 tw6929666342635852548 tw514107074355549956 tw5801623613118954276 tw10989487424443290436 tw5788485545498664772 tw1375555701716821860 tw9067930145049071460 tw5200048454380343172 tw7940548712452313988 tw10512014002343140228 tw2343108761643425797 tw5384512632561952773 tw3725780782490656805 tw6711929638109814821 tw15198702542917402693 tw1862280954656136261 tw14370352231192976485 tw3698664269711614181 tw12506318036244739301 tw1831746676899166437 tw15218934481104505125 tw2879910167037557029 tw6303273028735779109 tw205050494691729701 tw3664400386946164005 tw11321529261609610565 tw4921043456308448613 tw17590427314350084485 tw4755510018171744677 tw595781471072396741:True)
 (tw12195884135593441733 tw10259340946601093637 tw16232553621148738117 tw15915230109870858949 tw11087972111104713477 tw16964499998990084869 tw2464462713422270213 tw10598313073817146149 tw8980084397330143045 tw5678106821951936325 tw4864842245880864581 tw5522627118229865349 tw6055568526434126725 tw1724080958718357413 tw6202045812646462373 tw1189618821511269285 tw661807458600768421 tw3095985990847980453 tw7377240546896276389 tw11489232561624802245 tw5504530320176154597 tw7617485748980590565 tw5763867336595057637 tw16704894589933173766 tw11450877722966489094 tw936858787901783078 tw14354393960593709094 tw13595831248896603206 tw8418664316331876422 tw13236277708981086310 tw6737410463559103590 tw10267175897597808774 tw4703508749415933062 tw4483169269013200038 tw9687675611352883430 tw8724910453939180838 tw10773724916189301062 tw16381218152159209830 tw10296891605441082726 tw2525086082509096326:True)
 (tw18164700774756713894 tw18205389378103243270 tw11755796389787424294 tw9151933925817587270 tw4657674988762455654 tw16012141248256671366 tw13923144004705055398 tw6830783802946593478 tw1101074000437843718 tw13516034382329193222 tw14684897990914852614 tw5411557933621600006 tw1431796175720640294 tw17446052488100940614 tw7748685953330846727 tw10881462323370670087 tw9008889783188280359 tw12555427567466173511 tw16257552860520043719 tw9350096283630598343 tw10357837272576777447 tw1688202151726094599 tw16205979576996108551 tw4394742854981095719 tw16685794154936638759 tw9265275455066423591 tw7706298116246622503 tw3217805253622991175 tw5880189071534347591 tw13498060327407520103 tw2520649425618051431 tw9564804508550377831 tw1955813290454590855 tw4031298321175535015 tw2146861685815810535 tw14738896362765860327 tw1501883674806296071 tw8609111953151664647 tw6532829627080096327 tw3003499088663406183:True)
 (tw10188246763866692231 tw2706754039073834663 tw14436048621536184999 tw17797124774205361831 tw17515126410175964839 tw12908078959918788295 tw7503246932015805127 tw2629654448457316071 tw5234755791914551143 tw17946486297431496615 tw11375512806786560967 tw7207688680286228488 tw12897713091456806920 tw9686445388987452456 tw11138713975227604008 tw3519118452064805928 tw183551018859134024 tw18172102361519921256 tw13108911534237818984 tw2715683910076154984 tw5498149542142659688 tw1689012772015304904 tw11836330741658255592 tw14263740773903614184 tw5170356861225434344 tw13344917627838361864 tw13145994609697275144 tw17185671875448474920 tw11734416718328899912 tw15047603568649319752 tw2362126533897683304 tw8628278033159169384 tw13395396790310140264 tw2854326398724987272 tw8307527446042335656 tw1865432824653163976 tw8244160594972937736 tw502612466239046216 tw3062252974136823368 tw11173999799006293576:True)
 (tw1867295220398020232 tw5695933195831739112 tw8781067660351517416 tw14983276368595885832 tw3591852614519846664 tw5176281259169180488 tw17195313561625013096 tw17366534550737300328 tw348064302824017768 tw7617653423154912168 tw10666566251229518824 tw3557378713423954920 tw15257518672513111081 tw3133040169466574921 tw11380750375562674313 tw10861077496820997257 tw7771102329089640585 tw9107960662480113833 tw3850914420089159881 tw12055671627886714057 tw6886685161803386089 tw2857607377098480873 tw15990665995852038505 tw15410788866885944713 tw8579959624474231209 tw506843003384835529 tw3918417411046627849 tw743888473496060489 tw15263125337220329097 tw13342683829406351017 tw13142261704702339817 tw3618083449314811753 tw17814790657362206601 tw6523902546493540265 tw12134242581239451561 tw9364138706596614057 tw11549782471375901641 tw3180886985087935433 tw9050159238797597738 tw3407637436952435754:True)
 (tw2349724143487480874 tw10138191656970124330 tw15919667114991643722 tw6937558206519431274 tw4857372705575360714 tw18363086988454293706 tw10527441175854121194 tw3230354397955000554 tw17139301559650973930 tw1562928699728369930 tw6815032776366086410 tw2953633084750533930 tw7547758658965245290 tw17924197529204026794 tw18444251637194847658 tw13366379742681046474 tw11226831033983042026 tw14212157844780059114 tw16837439336555014634 tw7791830143171890698 tw5683506410233125386 tw14788799379619782218 tw677533989546164842 tw14587644678582417002 tw13791316660214110890 tw16991142707740682922 tw2387286538174236362 tw7584650750318190346 tw14607098510852713226 tw14470917196248020746 tw15931985015189722922 tw12531781222232977194 tw16311738922251843402 tw12208391922999190378 tw4932530264584986506 tw15643899820230526858 tw7496269648818271178 tw12671110637509868490 tw8234570585113697258 tw14080561508456411114:True)
 (tw11063855054917115915 tw6337735841285402635 tw6293078950140318795 tw14884784784888141899 tw11649124009061653579 tw18259938961585026155 tw13018491964577335403 tw5528212151859665003 tw13960623591219020939 tw6948200472086145163 tw14379939547071672459 tw13860331911658151083 tw8246162203811536107 tw11764334832933495051 tw15856362071147713835 tw11373106135726097739 tw5799925680539693483 tw501558586468612555 tw16185061271385456107 tw10863097556764730891 tw24006447157812779 tw888122287089725995 tw17379751322771170891 tw4114277560082673291 tw18353505213060761227 tw2829155611885871819 tw7219471904777849611 tw6339900271570079531 tw7978911351164648267 tw5198819679601186635 tw5631403140957931371 tw12000133055134126955 tw16255380118326291371 tw7069709328631659435 tw3145039554793314251 tw1139810148348767179 tw2229530767552068587 tw8817686908116127723 tw7017385671743401996 tw12858040400717674508:True)
 (tw643604587607460908 tw14333952933278081068 tw1895575353786252492 tw1613223599793554636 tw3050091861908404492 tw15394698297006305612 tw16770217654322914636 tw1249115559138962796 tw67814241512305004 tw11049348825277939148 tw5276745554612779468 tw6143877901057235436 tw18069704480180515308 tw16799318475732650508 tw12891286425966845452 tw836535533089648172 tw12205308470000590444 tw15811517002355625580 tw3819396592364933740 tw14849172828588044908 tw12351095436885171884 tw9464360890273733356 tw2296317608955976428 tw204892490893136748 tw11152971016805543788 tw649594347432974284 tw16086451983535713228 tw6929365586674463692 tw5851429922170427340 tw519741075337438156 tw355543327374819308 tw13073450923965278188 tw13962225332831253484 tw12968917533207049229 tw5180690817764608013 tw6578170251424032781 tw2868909469462369325 tw6376697457905085485 tw7150831013719621677 tw16137447417334199341:True)
 (tw2466662626913332333 tw2904784305993009261 tw3544746795608928365 tw4699305152495271181 tw10247923176246173965 tw17001263574056736077 tw13322905471052170573 tw370481861059362157 tw9882684426855905709 tw12006602458097979949 tw9341141755994824237 tw6497358935301134957 tw3623029454733819533 tw16521617889352743565 tw18251719958054866637 tw9506295995639810765 tw10146411949877959405 tw15617986384441803597 tw4781366693431094093 tw13998925792020004749 tw7388167398107760557 tw12048535089100293134 tw10903244996138338318 tw12869346792600523790 tw2335598903172592654 tw16497307970624684078 tw2803534082133530670 tw17676807861327551534 tw4475418062211089550 tw11823730833310221454 tw5391486495815112846 tw8973144467471620270 tw1800969714693860526 tw6885403919988278478 tw7764160746300434638 tw7495758446378773774 tw14806966426854470958 tw5742953453290291534 tw3454210094785981806 tw13257348991771838958:True)
 (tw15962083767454808558 tw1849688803038751310 tw14767892853922499182 tw16625106984341893742 tw830677429597308558 tw8713937071589811854 tw8518697570369927822 tw17716516472230679214 tw6613989311979296430 tw12125013734643803822 tw11521683477973857966 tw13565654532337311502 tw17542759598823025422 tw49405240039634702 tw18238320656666474286 tw15150247741690272590 tw3448589900620349262 tw14964342828959961966 tw17598375398885254094 tw1470497393566705614 tw15246031747308058574 tw843099845748233198 tw7389575312250064878 tw7921772221066435566 tw14804398749825496046 tw12075227801950225423 tw5280799691134800911 tw3535391357286877231 tw7819215635077570703 tw314800122911512719 tw7280938555201447055 tw2464532873458189519 tw7764496955589010703 tw2840507862748252431 tw15887903015859417359 tw260809400930466063 tw1618470400251497775 tw7870384268497457455 tw9577772181836671279 tw4786234013138382127:True)
 (tw17438678297573171535 tw13092498572085624143 tw6038827401900687727 tw3802925872104658287 tw934664349659154831 tw16893489596668340623 tw12225113680446863791 tw16961712872809478575 tw3114585367478061615 tw1390705570975928943 tw7793085503245818543 tw14882513927649598127 tw15383482096086789807 tw3378246992185283247 tw16414213630806807247 tw7721206003761921775 tw4748340111896931055 tw11764815746459197231 tw6683225347852890927 tw2043297592866782031 tw6856663607025016687 tw10728151877082376047 tw4284475664950553455 tw11572827427051521935 tw14162815176104209295 tw3774849300080785295 tw5970865007788591023 tw7332990409746745295 tw11075484804637187120 tw3233974774931051632 tw1653161884416822512 tw16721392059675924752 tw5632447433647707472 tw16728793448113403248 tw10892643604243888528 tw15272153230498791888 tw10842473578378110416 tw6214396597863977456 tw10542685305528596976 tw667004780466697744:True)
 (tw15933952762421389872 tw1435338343523399280 tw11188306314606089872 tw1688277310472924848 tw10207645715823290032 tw16679215547841580784 tw15380515863068253968 tw10867304617018770192 tw11809839106307520304 tw14430893787098096464 tw9109497509625146192 tw5171199976109138800 tw12135479572959031152 tw17454180236608679824 tw15768858280433707920 tw4821034797444232112 tw7801133940925607888 tw1212585550690544592 tw13053300800978541552 tw11414461349413577712 tw9848840652446534640 tw1148693810645437457 tw16686839503635733521 tw15134022409970562097 tw4761116367776849969 tw13480615118433846321 tw15814939844822229073 tw18399923290717957233 tw15052360598667876465 tw12790925205813157009 tw9891736290867017873 tw15388560355348229297 tw4240532494579011857 tw16345751103801772305 tw11243570851793272081 tw9152289513270443281 tw1243598058969045329 tw4975121732447058321 tw16639276861963328945 tw7622214257135848913:True)
 (tw16349144673268542961 tw5411586882157293073 tw925119604982488625 tw3306753113910732337 tw8291968528313867921 tw8223425910199515825 tw12544878240056070865 tw12371157452565120753 tw8812291876975183697 tw7017295587579493201 tw16559486657190274929 tw11657274510096092017 tw17827970917175362449 tw8217678682858988433 tw9947156396359483313 tw15778952845158390737 tw17946061076177749010 tw11125740421956941842 tw8426796221793254418 tw12911833492727071794 tw16953895907429879858 tw6967499933755529266 tw11439112919099816082 tw14970596094975858898 tw466412721223715122 tw6398128237323145522 tw7291992258008406322 tw12851269129574386002 tw14784478040345137490 tw9639322858082985298 tw9958376918600969586 tw662794823357267346 tw14145694837001897394 tw8220128447262619058 tw11009381156832312754 tw118264178088254994 tw2786437767680025106 tw1750642817059503666 tw9514078506200890994 tw3902154832068034194:True)
 (tw5509310932664377010 tw4253249726944975570 tw913019295283976946 tw13408948068536827666 tw7580275675361268498 tw9768626488756830002 tw462522536806642546 tw17767207220286477202 tw11901246806384801682 tw13357964593017949106 tw10739946950619964338 tw1131258926257602482 tw12739409918413930450 tw5301470302337056754 tw2922224194727370738 tw11153352684380090354 tw15359813152847971347 tw5232551449667055635 tw17107523810581782579 tw1691734427020058675 tw11167769127465189459 tw10000203374077727859 tw11071680271913710707 tw3948909340164028531 tw17194913022492964979 tw10117845402025602259 tw12995617624596734227 tw6788839048222175507 tw12740574380377313619 tw14172695622468594035 tw1665652718934897075 tw9174148437789184467 tw3421098893882363379 tw6746888673377019411 tw5184199312407587347 tw13996154800311518803 tw13749036636558478931 tw13925148657056432755 tw6710689242494388915 tw948296291066475187:True)
 (tw17629454625849093843 tw1878570654958839507 tw5359439353396100819 tw2201338797040272147 tw1557115130315131763 tw14558286943622817651 tw8273611997384771475 tw853866078642484115 tw7260505439366110099 tw11861662650644530131 tw11790660822224983060 tw6740696487608934420 tw6086664558495179828 tw8376086598225887316 tw8824921531132973140 tw15429831140185650324 tw16681309660316096660 tw15836267023226428564 tw10334145938654946516 tw8993562352377795828 tw16408512676946472180 tw496879341787107604 tw5647032746305688884 tw15381713448810859828 tw2604824111173098804 tw13545204755671673140 tw12120908037207317844 tw10541121061834285396 tw735041456821619060 tw3588962301461654900 tw8513937296013646228 tw7540664897454063092 tw14048988151649134100 tw10092487116534054420 tw11367368528698335892 tw3262516842047019700 tw10229617763319203508 tw14906021700677174996 tw8689870338838301396 tw9074408714366136020:True)
 (tw2431499650883144404 tw15045092898714093300 tw4761033476662951668 tw9577307825594156852 tw11452091510047832884 tw7061091842044402612 tw17679825886425458612 tw12193959431468425172 tw15430686197605118932 tw17085339875859942356 tw8504473252455112660 tw14481743644352378836 tw9296070773498584085 tw2777344089954051093 tw4765530313374137365 tw5611169511706823765 tw11487790348534090837 tw7046243027314143317 tw12305666026450752629 tw9186357558807272597 tw14347978834062849173 tw9967476184292817045 tw8773111964135266485 tw7347058560723707061 tw14934799245401712821 tw1359878379071555861 tw348568462458989909 tw12831512144530175317 tw17484484353307716981 tw7763302501644671381 tw10067388136023274901 tw35203263297994133 tw7646260538701094325 tw15563952566005167573 tw15862650484443572757 tw4116356751874193941 tw663111095332252213 tw6823867891502104117 tw18339956681505356373 tw11049607262830052949:True)
 (tw8646130288500410997 tw12675539252554996341 tw2827434495933823605 tw8256774461909154453 tw17210246646599082677 tw16779915817304510165 tw6212354370652931893 tw17996989754756326197 tw9720853475523454773 tw15629653088691602325 tw11852120643401620469 tw4311768269308753909 tw14135047857849812054 tw1892884213684820054 tw9613583487530475638 tw1146207505027376246 tw3601978111947724918 tw5393865210922011862 tw3397253464583913686 tw633139290731633910 tw4303117791000858934 tw14282558360061622582 tw4132494936856268150 tw11342302029543154038 tw17863991141328469366 tw16180000888583150998 tw275200922479860150 tw16440549519424356822 tw731965532438092246 tw18298651069147758198 tw14136656072827531990 tw3603044735921129206 tw12313645096954997494 tw16060995275231539990 tw4827032116310480694 tw9522631645529785174 tw8168803243983425366 tw9999411920682238838 tw15867143339864982 tw4962613253100018614:True)
 (tw2768173005238181846 tw15253544780418793430 tw13402645886704718871 tw4532697837976513559 tw11087419940318564407 tw14366563424925573207 tw8321008816560740471 tw17515457171279272055 tw9386446940946721911 tw1778684582346287255 tw3582247155648679095 tw10593777301782203639 tw5619989676087854327 tw8389738807321780471 tw14705427557551073559 tw15264380427458620791 tw16602409988909088151 tw12360414977634775 tw11305825498803294775 tw6699657115156549271 tw10303357236566274711 tw15392406404908707511 tw16461689176242192087 tw6760322203583221527 tw7660534286390549303 tw4018266315932246903 tw16865886363944102903 tw17872611235704266743 tw304373404162702520 tw4027759618942059704 tw16728105550183154872 tw17476989099420932312 tw7098974424719070456 tw983301642196470072 tw5783246426922226040 tw2991539494490325368 tw5486668103639214520 tw1847215677736512952 tw17450943861613600216 tw13298911629341119960:True)
 (tw14865448821993303672 tw10178458917177393848 tw11242721019382670008 tw9143997858949542584 tw5041549516563409688 tw17921257057524511544 tw11544021287787523928 tw9148840378457618328 tw14915135527760789400 tw6264056717768859576 tw635785922368286648 tw5370172192511531033 tw5236292656342226969 tw13281261305599864889 tw3838765492013387961 tw10755459780399880441 tw16313669151080674553 tw3074126965144092953 tw4138191130840075545 tw2598469369216474521 tw13234338631857350041 tw14864926291282297273 tw14775383091665570265 tw3527121162559081977 tw11870452905102239225 tw13075431023198364185 tw5131925545144375897 tw4486403790985024153 tw2139578230225100441 tw6809197046682230457 tw7380132839785367257 tw6903298232093215449 tw1142827468593874649 tw13569324063325609689 tw9526218704764264217 tw352057855756299033 tw17734042050536910649 tw7251373960605213529 tw10194987225030091609 tw10887060170815242073:True)
 (tw10342238105917346681 tw5458336803619307385 tw1730150034878925721 tw17830106028758636441 tw15903474876759092153 tw17557367917650762681 tw18199579305711356889 tw7562037715772521465 tw4631805961879803930 tw17358245360157354010 tw8199855819826977850 tw13578837815549330522 tw5097446295930911834 tw2948489933613953114 tw12972147417150431354 tw366835133451616378 tw7639694042661709978 tw17170512747330303130 tw1471070580009113786 tw12747198092137908442 tw7630548838078963962 tw13101271843633179930 tw1277668244146969914 tw13804798739525438906 tw14268489828705350074 tw8538535129152932346 tw11115055434383339034 tw3652177808847715898 tw11325393988463804986 tw8397530360776380026 tw6096563471059742362 tw8964456137346423482 tw65649627494692538 tw13866426004045382330 tw523250951530316570 tw5925852298671434522 tw17493544779262777114 tw1851847121177927450 tw832918222919721754 tw17177175108313690970:True)
 (tw8574776806266647418 tw15041249332165796730 tw14783973751140030394 tw1625390189316836314 tw2419282208605220826 tw13712114363024754650 tw16418514536396707834 tw14189597078598315035 tw2330259405290404891 tw678686228376846395 tw7634368451057997883 tw14520811001687242811 tw5431812919816990843 tw11564081689574588571 tw1098215391324066971 tw9172743624763573435 tw763299157976156411 tw15441479303221692667 tw7620500623468874075 tw14813094628720883067 tw5825353829647869307 tw9438102780596628955 tw8406141357159767515 tw841515560195800603 tw7705277240398464635 tw11559227079837559451 tw12051482471815235323 tw11304616236007292699 tw15922946043839309627 tw11748063796900849467 tw1044930955349890907 tw16403039180604850011 tw12737533717659090779 tw11882456398713482171 tw8400135882954208187 tw12327968964466577371 tw7191146682367528955 tw14994576754891837435 tw9256546613648211004 tw10843555821095356508:True)
 (tw260016203078864988 tw5554977830178169948 tw16765794455898509404 tw13360742010473134236 tw17534925606051045532 tw13400632280807041180 tw5872874144488731836 tw325208126787546300 tw14050800080294029564 tw8451792042274307324 tw5935435449843276092 tw17377237686554534300 tw8355457740674657692 tw15084014044870896188 tw14525351928114384476 tw13234143057518973532 tw15127690354165868124 tw3533078480009364092 tw17747158606167822972 tw1949536352277157500 tw13055194456310148732 tw10139403609165016796 tw12657469257229250332 tw3157733751285127004 tw4831991325422282588 tw11677943904121724 tw16269952799943614332 tw7583323236198201244 tw311100950107770780 tw3804889667086703516 tw9134287193567427484 tw2427697839118861244 tw8858398982516922332 tw15417147038144302076 tw16520355835931152413 tw9663743008757007421 tw1912771440715254845 tw17052418483608371325 tw4830506944513385661 tw17819702322912645309:True)
 (tw1192072315863948477 tw18312285351050828061 tw14887984445559455037 tw15787577758841073981 tw3480799987129615709 tw552764964258781565 tw11264284662060380541 tw747312923275284893 tw1981734788719466909 tw17325136358149524925 tw9443770992608226813 tw2206205944338603517 tw16242097840579976733 tw10192085680552995357 tw16564704830243058237 tw6293563206497487453 tw12304212140953885341 tw3339792072128182973 tw6469387965502542525 tw6632138133418737341 tw13320531490570111709 tw16079144402574092061 tw8136447961447990077 tw7996633453598811965 tw17130598837148621661 tw2192198436143206269 tw2934162902519635837 tw13212661597241822173 tw10000397249731060701 tw14154031255982777341 tw18262268840789725181 tw9662228163217318909 tw9458703849237614654 tw17806965530201172062 tw17203239986199901310 tw14714098785268410558 tw5137767419050468574 tw2457344248121681118 tw6789643328389151966 tw4147618577582775550:True)
 (tw6235825025110409502 tw18335773004544131422 tw12929038128373362014 tw12164855417260765534 tw9111015055796893022 tw16989987710485526878 tw7393675068912809406 tw2695761810205835742 tw8575390958326029854 tw10025320843572389406 tw2662409720363168286 tw12459666561529703998 tw17912017209583899230 tw7167985056085841502 tw8132651077281826430 tw1161310800054362814 tw618940782542343870 tw1696769300038969054 tw16579012432289777406 tw11869770652420947742 tw1772900535377913630 tw5414678173963611966 tw1052997914552436574 tw14325988219141157726 tw4454732113926880094 tw11014182582413735838 tw13510226471262893982 tw7890543066550201246 tw2037361386282193854 tw4963891157417772990 tw4561796237066625982 tw2018922818091057086 tw3521675476249598942 tw14506975783345537151 tw6619128244795883647 tw5789649535015864479 tw14423859434763891903 tw11002755223652518079 tw485209039836680479 tw11348883073854873887:True)
 (tw2391352817822535167 tw12233887477508319743 tw11921956054883447327 tw15533228680858177151 tw9281195771297150591 tw4956063423715848031 tw8807935027040537471 tw13082987592906333087 tw7714056982656857055 tw1717502542459918598:True)
open PySem PySem.W PyProof.Rows
end
set_option maxRecDepth 100000 in
set_option maxHeartbeats 0 in
theorem PySem.Challenge.cw_mendfield_k48_whole_counts_meet_holds : PySem.Challenge.rw_mendfield_k48_whole_counts_meet.Holds := by
 w_on;o_law;k_head;(case hw=>w_witness2)
 k_fill
 refine HK48.walk (l:=PySem.Challenge.rw_mendfield_k48_whole_counts_meet) rfl rfl (λw h Y=>⟨PySem.W.km_in_of Y,PySem.W.km_tabs_of Y⟩) ?C ?F
 case C =>
  intro w h hX
  repeat' (first | exact List.forall_mem_nil _ | refine List.forall_mem_cons.mpr ⟨?_,?_⟩)
  all_goals first | (refine' HK48.az1 hX ?a ?b ?l ?lk ?lp ?n ?e;(case a=>k_is);(case b=>k_is);(case l=>k_is);(case lk=>k_is);(case lp=>first | rfl | with_unfolding_all rfl);(case n=>kernel_rfl);(case e=>kernel_rfl)) | (refine' HK48.aC3 hX ?a ?b ?l ?lk ?lp ?n ?e;(case a=>k_is);(case b=>k_is);(case l=>k_is);(case lk=>k_is);(case lp=>first | rfl | with_unfolding_all rfl);(case n=>kernel_rfl);(case e=>kernel_rfl))
 case F =>
  intro w mg fa h KX G yX
  apply HK48.all_mk KX G yX
  iterate 171 (k_is)
  iterate 64 (apply L2.Cc<;>k_is)
  iterate 4 (k_is)
  (first | rfl | with_unfolding_all rfl)
  (kernel_rfl)
  iterate 4 (k_is)
  (first | rfl | with_unfolding_all rfl)
  (kernel_rfl)
  iterate 7 (k_is)
  (first | k_is | rfl | decide)
  (decide)
