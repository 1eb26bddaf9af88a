import PyProof.Rows.All
import Wide.All
import OpenK.AllK
import Wide.FinOn
import Lean
import PyProof.EqAt
import PyProof.EqKinds
import PyProof.TupleCall
import PyProof.NeKinds
import PyProof.Rows.Range3
import PyProof.FitsBits
import PyProof.StationsW
import PyProof.NsDelKeeps
import PyProof.Rows.CatchOwn
import KE.KTryMore
import PyProof.ExcArgsOwn
import PyProof.ExcAttrAll.ValueError
import OpenK.KOwn
import PyProof.ZipIter
import PyProof.WalksEnum
import PyProof.EnumMake
import KE.KIntText
import PyProof.Conv_int
import PyProof.StrWalks
import PyProof.StrLawsFirst
import KE.KLam
import KE.KNestM
import KE.KRevIter
import PyProof.ListRange
import PyProof.Rows.SortWalk
import PyProof.Rows.SetFrom
import PyProof.FactsAll.set
import PyProof.Rows.SeqMore
import PyProof.FString
import PySem.Challenge.RW_mendfield_k36_words_checked
open Array renaming append_assoc→rP,length_toList→vP,getElem?_eq_some_iff→MZ,toList_append→Wr
open Bool renaming and_eq_true→dZ,false_ne_true→ir,or_true→kT,true_and→mq,and_true→mx,false_and→rR,eq_iff_iff→sj,false_eq_true→sk,or_false→vR,not_false→zT,not_true→zU,true_or→zV,false_or→zW
open Classical renaming byContradiction→Dn
open False renaming elim→fH
open ForInStep renaming yield→Dq
open Int renaming toNat→eJ,emod_nonneg→fJ,emod_lt_of_pos→fX,toNat_natCast→gy,natAbs_natCast→iN,natCast_emod→nH,toNat_of_nonneg→nI,natCast_mul→sE,natCast_add→DD,natCast_nonneg→MR,zero_add→Nf,emod_eq_of_lt→Ni,fdiv_eq_ediv_of_nonneg→Wd
open List renaming range→aL,getElem?_eq_getElem→aS,getD_eq_getElem?_getD→aY,replicate→bj,length_map→bq,mem_map→bD,map_map→bR,getElem?_map→bZ,mem_append→cj,mem_cons→cA,length_range→cB,zipWith→cP,mem_range→cV,mem_append_right→cW,all_eq_true→cX,map_cons→df,all_cons→dh,length_append→dm,size_toArray→dD,append_assoc→dM,getElem_mem→dN,mem_append_left→eR,map_append→fh,mem_singleton→fv,lookup_cons→fI,mem_cons_of_mem→fU,append_nil→fV,length_replicate→fW,getElem?_eq_none→gJ,length_set→gW,length_take→iu,not_mem_nil→iw,mem_cons_self→jj,getElem?_eq_some_iff→jk,length_cons→jl,map_nil→jH,length_drop→jI,length_singleton→jJ,length_zipWith→jK,set_cons_zero→jL,set_cons_succ→jM,getElem_of_mem→ke,getElem?_range→kg,lookup→kO,nodup_cons→kQ,all_map→kS,getElem?_append_right→mh,cons.inj→mr,take_add_one→mw,perm_append_comm→nG,getElem?_append_left→pd,replicate_succ→ph,append_eq_nil_iff→pq,mem_of_mem_drop→pz,map_congr_left→pB,map_set→pE,getElem?_zipWith→pF,getElem?_cons_zero→pG,getElem?_cons_succ→pH,getElem?_set_ne→rQ,of_mem_zip→rV,getElem?_replicate→rW,mem_of_getElem?→rX,flatten_cons→rZ,foldl_cons→se,nil_append→sg,take_length→sq,mem_of_mem_take→sr,map→su,all_nil→sA,cons_append→sC,mem_filter→vO,take_of_length_le→vU,getElem_map→vZ,filterMap_cons→zy,getElem?_mapIdx→zK,mem_map_of_mem→zL,foldl_append→zM,pairwise_append→zP,length_nil→zR,cons.injEq→zS,map_replicate→zX,getElem?_set_self→Df,length→Dg,append_inj→Dw,set_set→Dx,mem_replicate→Dy,map_zipWith→DA,zipWith_map→DB,mem_or_eq_of_mem_set→DC,length_zip→DE,range_succ→DF,contains_iff_mem→DG,pairwise_cons→DJ,Pairwise.nil→MU,any_eq_true→MX,Sublist.refl→M5,mem_of_find?_eq_some→M7,map_drop→M8,map_take→M9,ext_getElem?→Na,getElem?_drop→Nb,drop_eq_nil_of_le→Nc,ext_getElem→Nh,sum_cons→Nj,zipWith_cons_cons→Nk,any_map→Nm,findIdx_lt_length_of_exists→Nn,find?_eq_none→Np,getElem_range→Nr,pairwise_singleton→Nt,take_append_drop→Nu,mem_filterMap→Wc,getElem?_take_of_lt→We,set_eq_of_length_le→Wl,eq_nil_iff_forall_not_mem→Wm,filter_eq_self→Wn,range_succ_eq_map→Wo,getElem?_take→Wq,zip_cons_cons→Ws,sublist_cons_self→Wt,findIdx_getElem→Wu,findIdx?_eq_some_iff_getElem→Wv,findIdx?_eq_none_iff→Ww,pairwise_iff_getElem→Wx,countP_eq_length_filter→Wy,pairwise_lt_range→Wz,find?_eq_some_iff_append→WA,length_filter_le→WB,flatMap_append→WD
open Nat renaming le_refl→bK,lt_of_lt_of_le→de,ne_of_lt→eZ,le_trans→fg,lt_irrefl→gw,shiftLeft_eq→kb,zero_le→kP,xor_zero→kR,mul_comm→mi,pow_succ→mj,testBit_xor→mm,lt_of_le_of_lt→mn,zero_xor→nF,xor_assoc→pj,mul_assoc→si,mod_lt→sD,two_pow_pos→vS,pow_le_pow_right→vT,not_lt→vV,mul_mod→vW,mod_eq_of_lt→vX,mod_add_mod→vY,le_of_lt→zx,le_of_eq→zB,lt_succ_self→zC,eq_of_testBit_eq→zF,testBit_zero→zG,xor_self→zH,min_self→zI,le_of_succ_le→zN,succ.inj→zO,testBit_lt_two_pow→Dj,testBit_succ→Dk,strongRecOn→Dm,add_assoc→Dz,sub_self→DI,one_shiftLeft→DK,ne_of_gt→MQ,add_comm→MT,xor_comm→MV,testBit_and→MW,lt_succ_of_lt→Nd,mod_mod→Ng,zero_add→Nl,lt_or_ge→Nq,succ_pos→Nv,testBit_eq_decide_div_mod_eq→Wf,shiftLeft_xor_distrib→Wg,mul_lt_mul_right→Wh,testBit_shiftLeft→Wi,shiftRight_eq_div_pow→Wj,mul_le_mul_right→WC
open Ne renaming symm→ft
open Option renaming some.inj→cO,getD_some→pk,getD_none→rY,map_some→v3,some.injEq→v7,isSome_iff_exists→zD,map_eq_some_iff→zJ,map_none→zQ,toList_some→M6,bind_some→Wk
open Or renaming inl→ai,inr→aX
open PyProof renaming Rows.callWith_type1→zA
open PySem renaming Heap.lt_size→bP,Value.ref→cN,PassesOwn.never→eT,Heap.get?_push_of_some→fu,Heap.get?_push_size→gx,Value.int→nC,Builtin.bitAnd→nD,Builtin.bitXor→nE,Value.none→oZ,Heap.get?_update_other→pf,Heap.size_push→rT,Str.empty→vQ,Obj.mapSeq→zE,Value.bool→De,Heap.get?_update_self→Dh,SeqAt.EqAt→Di,Walks.list→Dr,Obj.data_mapFields→Ds,Value.builtin→Dt,Value.type.inj→Du,Builtin.Str.strSliceIndices→Dv,NameKind.cell→DH,Builtin.List.listTooLong→MS,Obj.isFreed_of_fields→MY,Heap.MadeExcOf→M4,Calls.Name_function_global→Wb
open Sum renaming inl→rN,inr→rO
open True renaming intro→rS
set_option Elab.async false
set_option linter.all false
set_option maxRecDepth 100000
local macro_rules | `(tactic| omega)=>`(tactic| lia)
namespace L2
open PySem PySem.Spec PyProof.Rows
noncomputable abbrev Key:=Sum Int Str
noncomputable def Nw:Key->Value->Bool
 | .inl k,v=>Value.isInt k v
 | .inr x,v=>Value.isStrOf x v
noncomputable def WE(w:World):Key->Int
 | .inl k=>hashInt k
 | .inr x=>hashStr w x
theorem my:∀{k:Key} {v:Value},Nw k v=true->(∃i t,k=rN i/\v=nC i t)\/(∃x t,k=rO x/\v=Value.str x t)
 | .inl i,v,h=>by
  obtain⟨t,e⟩:=Value.isInt_shape (k:=i) (v:=v) h
  exact .inl ⟨i,t,rfl,e⟩
 | .inr x,v,h=>by
  obtain⟨t,e⟩:=Value.isStrOf_shape (x:=x) (v:=v) h
  exact .inr ⟨x,t,rfl,e⟩
theorem WG(a b:Int):decide ((rN a:Key)=rN b)=(a==b):=by
 by_cases e:a=b
 ·subst e;simp
 ·have h:¬ (rN a:Key)=rN b:=λq=>e (Sum.inl.inj q)
  rw[decide_eq_false h]
  exact(beq_eq_false_iff_ne.mpr e).symm
theorem WH(a b:Str):decide ((rO a:Key)=rO b)=decide (a=b):=by
 by_cases e:a=b
 ·subst e;simp
 ·have h:¬ (rO a:Key)=rO b:=λq=>e (Sum.inr.inj q)
  rw[decide_eq_false h,decide_eq_false e]
theorem WI(a:Int)(b:Str):decide ((rN a:Key)=rO b)=false:=decide_eq_false (λq=>nomatch q)
theorem WJ(a:Str)(b:Int):decide ((rO a:Key)=rN b)=false:=decide_eq_false (λq=>nomatch q)
noncomputable def Nx(prog:Program)(w:World):PySem.KeyKind prog w Key where
 is:=Nw
 hash:=WE w
 inj:=λv a b ha hb=>by
  rcases my ha with⟨i,t,rfl,rfl⟩ | ⟨x,t,rfl,rfl⟩
  ·rcases my hb with⟨j,u,rfl,e⟩ | ⟨y,u,rfl,e⟩
   ·injection e with e1 _;rw[e1]
   ·exact nomatch e
  ·rcases my hb with⟨j,u,rfl,e⟩ | ⟨y,u,rfl,e⟩
   ·exact nomatch e
   ·injection e with e1 _;rw[e1]
 byValue:=λk v h=>by
  rcases my h with⟨i,t,rfl,rfl⟩ | ⟨x,t,rfl,rfl⟩<;>rfl
 pyHash:=λhv h=>by
  rcases my hv with⟨i,t,rfl,rfl⟩ | ⟨x,t,rfl,rfl⟩
  ·exact wpAny_pyHash_int h
  ·exact wpAny_pyHash_str h
 eqBool:=λhu hv h=>by
  rcases my hu with⟨i,t,rfl,rfl⟩ | ⟨x,t,rfl,rfl⟩
  ·rcases my hv with⟨j,u,rfl,rfl⟩ | ⟨y,u,rfl,rfl⟩
   ·rw[WG]at h;exact wpAny_eqBool_int h
   ·rw[WI]at h;exact SeqAt.EqAt.int_str i t y u _ _ _ _ h
  ·rcases my hv with⟨j,u,rfl,rfl⟩ | ⟨y,u,rfl,rfl⟩
   ·rw[WJ]at h;exact SeqAt.EqAt.str_int x t j u _ _ _ _ h
   ·rw[WH]at h;exact wpAny_eqBool_str h
 «strs»:=λk x t v h=>by
  rcases my h with⟨i,u,rfl,e⟩ | ⟨y,u,rfl,e⟩
  ·exact nomatch e
  ·injection e with e1 _
   subst e1
   cases v<;>rfl
end L2
namespace L2
open PySem PySem.Spec PyProof.Rows
inductive V where
 | au | bl (b:Bool) | int (i:Int) | str (x:Str) | zY (b:Array UInt8) | pI (b:UInt64) | ref (a:Addr) | ty (n:String)
 deriving DecidableEq
noncomputable def RelV:V->Value->Prop
 | .au,u=>u=oZ
 | .bl b,u=>u=De b
 | .int i,u=>∃t,u=nC i t
 | .str x,u=>∃t,u=Value.str x t
 | .zY b,u=>∃t,u=Value.bytes b t
 | .pI b,u=>∃t,u=Value.float b t
 | .ref a,u=>u=cN a
 | .ty n,u=>u=Value.type n
noncomputable abbrev Vals:List V->List Value->Prop:=Paired RelV
theorem Vals.length{xs:List V}{us:List Value}(r:Vals xs us):xs.length=us.length:=Paired.length r
theorem Vals.get:∀{xs:List V} {us:List Value} {i:Nat} {x:V},Vals xs us->xs[i]?=some x->∃u,us[i]?=some u/\RelV x u
 | _,_,_,_,.nil,e=>by simp at e
 | _,_,0,_,.cons r _,e=>by simp at e;subst e;exact⟨_,rfl,r⟩
 | _,_,i+1,x,.cons _ t,e=>by
  obtain⟨u,h1,h2⟩:=Vals.get (i:=i) (x:=x) t (by simpa using e)
  exact⟨u,by simpa using h1,h2⟩
theorem Vals.set{x:V}{u:Value}(r:RelV x u):∀{xs:List V} {us:List Value} (i:Nat),Vals xs us->Vals (xs.set i x) (us.set i u)
 | _,_,_,.nil=>.nil
 | _,_,0,.cons _ t=>.cons r t
 | _,_,i+1,.cons q t=>.cons q (Vals.set r i t)
theorem Vals.append:∀{xs ys:List V} {us ws:List Value},Vals xs us->Vals ys ws->Vals (xs++ys) (us++ws)
 | _,_,_,_,.nil,s=>s
 | _,_,_,_,.cons r t,s=>.cons r (Vals.append t s)
theorem Vals.take:∀{xs:List V} {us:List Value} (n:Nat),Vals xs us->Vals (xs.take n) (us.take n)
 | _,_,0,_=>.nil
 | _,_,_+1,.nil=>.nil
 | _,_,n+1,.cons r t=>.cons r (Vals.take n t)
theorem Vals.drop:∀{xs:List V} {us:List Value} (n:Nat),Vals xs us->Vals (xs.drop n) (us.drop n)
 | _,_,0,r=>r
 | _,_,_+1,.nil=>.nil
 | _,_,n+1,.cons _ t=>Vals.drop n t
noncomputable def kU:Option V->Option Value->Prop
 | some v,some u=>RelV v u
 | none,none=>True
 | _,_=>False
noncomputable def KV{κ:Type}:List (κ × V)->List (κ × Value)->Prop:=Paired λ(p:κ × V) (q:κ × Value)=>p.1=q.1/\RelV p.2 q.2
noncomputable def kV:Key->V
 | .inl i=>.int i
 | .inr x=>.str x
inductive HO where
 | lst (xs:List V)
 | tup (xs:List V)
 | dK (dE:List (Key × V)) | dT (dE:List (List Key × V))
 | set (S:Int->Bool) (n:Nat)
 | ins (C dx:Addr) (fs:List (Str × V))
 | own (x:Addr)
 | xd (fs:List (Str × V))
 | met (f x:Addr)
 | v9 (lo hi:Int)
 | bt (o:Obj) (u:HO)
 | dr (ps:Array Value)
 | ext (φ:Heap->Prop)
noncomputable abbrev Hp:=Addr->Option HO
noncomputable def upd(H:Hp)(a:Addr)(o:HO):Hp:=λb=>if b=a then some o else H b
theorem bL{H:Hp}{a:Addr}{o:HO}:upd H a o a=some o:=by unfold upd;rw[if_pos rfl]
theorem bc{H:Hp}{a b:Addr}{o:HO}(h:b≠a):upd H a o b=H b:=by unfold upd;rw[if_neg h]
theorem eK{H:Hp}{a b:Addr}{o:HO}(h:H a=some o)(h':H b=none):a≠b:=by
 intro e;subst e;rw[h]at h';cases h'
section
variable(P:Program)(w:World)
noncomputable def dU(H:Hp)(h:Heap)(a:Addr):HO->Prop
 | .lst xs=>xs.length<=sizeLine/\∃(its:List Value) (n:Nat),Vals xs its/\h.get? a=some { cls:=.type "list",data:=.seq its.toArray n }
 | .tup xs=>xs.length<=sizeLine/\∃its:List Value,Vals xs its/\IsTup h a its.toArray
 | .dK dE=>dE.length<=sizeLine/\(a==sysModules)=false/\∃vs,KV dE vs/\h.DictOf (Nx P w) a vs
 | .dT dE=>dE.length<=sizeLine/\(a==sysModules)=false/\∃xs:List (List Key × Addr × Value),
   Paired (λ(p:List Key × V) (q:List Key × Addr × Value)=>p.1=q.1/\H q.2.1=some (.tup (p.1.map kV))/\RelV p.2 q.2.2) dE xs /\
   ∃o es ep,h.get? a=some o/\o.ExactDict/\o.data=.dict es ep/\es.toList=xs.map (entryOfKey (tupleKind (Nx P w)))/\(xs.map (·.1)).Nodup
 | .set S n=>h.SetOf (intKind P w) a S n
 | .ins C dx fs=>H dx=some (.own a)/\fs.length<=1000/\dx≠a/\h.get? a=some (PySem.W.instObj C dx) /\
   ∃mA,h.Ns1 dx mA/\(∀f,kU (fs.lookup f) (mA f))/\PySem.Within mA (fs.map (·.1))
 | .own _=>∃o,h.get? a=some o
 | .xd fs=>∃mA,h.Ns1 a mA/\∀f,kU (fs.lookup f) (mA f)
 | .v9 lo hi=>∃t u v,h.get? a=some { cls:=.type "range",data:=.fields #[.int lo t,.int hi u,.int 1 v] }
 | .bt o u=>h.get? a=some o/\dU H h a u
 | .dr ps=>h.get? a=some { cls:=.none,data:=.fields ps }/\TriplesOk ps.toList/\∀pos cv,codeAmong pos ps.toList=some cv->∃c φ,cv=.ref c/\H c=some (.ext φ)/\∀h',φ h'->∃q,h'.CodeRec (.ref c) q
 | .met f x=>h.get? a=some (PySem.W.methodObj (.ref f) (.ref x))
 | .ext φ=>φ h/\(∃o,h.get? a=some o)/\∀h1 h2:Heap,φ h1->(∀b o,(b=a\/H b=some (.own a))->h1.get? b=some o->h2.get? b=some o)->φ h2
noncomputable def cI(H:Hp)(h:Heap):Prop:=∀a o,H a=some o->dU P w H h a o
end
section
variable{P:Program}{w:World}{H H':Hp}{h h':Heap}{a:Addr}{o:HO}
theorem dU.lt(x:dU P w H h a o):a<h.objs.size:=by
 cases o with
 | lst xs=>obtain⟨_,_,_,_,e⟩:=x;exact bP e
 | tup xs=>obtain⟨_,_,_,p⟩:=x;exact p.lt
 | dK dE=>obtain⟨_,_,_,_,o,_,_,e,_⟩:=x;exact bP e
 | dT dE=>obtain⟨_,_,_,_,o,_,_,e,_⟩:=x;exact bP e
 | set S n=>obtain⟨o,_,_,_,e,_⟩:=x;exact bP e
 | ins C dx fs=>obtain⟨_,_,_,e,_⟩:=x;exact bP e
 | own y=>obtain⟨_,e⟩:=x;exact bP e
 | xd fs=>obtain⟨_,⟨_,_,_,e,_⟩,_⟩:=x;exact bP e
 | v9 lo hi=>obtain⟨_,_,_,e⟩:=x;exact bP e
 | bt ob u=>obtain⟨e,_⟩:=x;exact bP e
 | dr ps=>exact bP (show h.get? a=some _ from x.1)
 | met f y=>exact bP (show h.get? a=some _ from x)
 | ext φ=>obtain⟨_,⟨_,e⟩,_⟩:=x;exact bP e
theorem Paired.DL{α β:Type}{F G:α->β->Prop}:∀{l₁:List α} {l₂:List β},Paired F l₁ l₂->(∀a b,F a b->G a b)->Paired G l₁ l₂
 | _,_,.nil,_=>.nil
 | _,_,.cons r t,f=>.cons (f _ _ r) (Paired.DL t f)
theorem dU.kh(x:dU P w H h a o)(k:∀b u,(b=a\/H b=some (.own a))->h.get? b=some u->h'.get? b=some u)
  (ho:∀b,H b=some (.own a)->H' b=some (.own a)) (ht:∀b xs,H b=some (.tup xs)->H' b=some (.tup xs)) (hx:∀b φ,H b=some (.ext φ)->H' b=some (.ext φ)):dU P w H' h' a o:=by
 induction o with
 | lst xs=>obtain⟨z,its,n,r,e⟩:=x;exact⟨z,its,n,r,k _ _ (.inl rfl) e⟩
 | tup xs=>obtain⟨z,its,r,ob,e,c⟩:=x;exact⟨z,its,r,ob,k _ _ (.inl rfl) e,c⟩
 | dK dE=>obtain⟨z,y,vs,r,ob,es,ep,e,c⟩:=x;exact⟨z,y,vs,r,ob,es,ep,k _ _ (.inl rfl) e,c⟩
 | dT dE =>
  obtain⟨z,y,xs,r,ob,es,ep,e,c⟩:=x
  exact⟨z,y,xs,Paired.DL r λp q z=>⟨z.1,ht _ _ z.2.1,z.2.2⟩,ob,es,ep,k _ _ (.inl rfl) e,c⟩
 | set S n=>obtain⟨ob,es,ep,t,e,c⟩:=x;exact⟨ob,es,ep,t,k _ _ (.inl rfl) e,c⟩
 | ins C dx fs =>
  obtain⟨d,z,ne,e,mA,⟨od,es,ep,e2,c⟩,r⟩:=x
  exact⟨ho _ d,z,ne,k _ _ (.inl rfl) e,mA,⟨od,es,ep,k _ _ (.inr d) e2,c⟩,r⟩
 | own y=>obtain⟨ob,e⟩:=x;exact⟨ob,k _ _ (.inl rfl) e⟩
 | xd fs=>obtain⟨mA,⟨od,es,ep,e,c⟩,r⟩:=x;exact⟨mA,⟨od,es,ep,k _ _ (.inl rfl) e,c⟩,r⟩
 | v9 lo hi=>obtain⟨t,u,v,e⟩:=x;exact⟨t,u,v,k _ _ (.inl rfl) e⟩
 | bt ob u ih=>obtain⟨e,q⟩:=x;exact⟨k _ _ (.inl rfl) e,ih q⟩
 | dr ps =>
  obtain⟨e,t,c⟩:=x
  refine⟨k a _ (.inl rfl) e,t,λpos cv q=>?_⟩
  obtain⟨d,φ,e1,e2,e3⟩:=c pos cv q
  exact⟨d,φ,e1,hx _ _ e2,e3⟩
 | met f y =>
  have e:h.get? a=some (PySem.W.methodObj (.ref f) (.ref y)):=x
  show h'.get? a=some (PySem.W.methodObj (.ref f) (.ref y))
  exact k a _ (.inl rfl) e
 | ext φ=>obtain⟨p,⟨o,e⟩,st⟩:=x;exact⟨st _ _ p λb o hb q=>k _ _ hb q,⟨o,k _ _ (.inl rfl) e⟩,λh1 h2 p1 kk=>st h1 h2 p1 λb o hb q=>kk b o (hb.imp id (ho b)) q⟩
theorem cI.lt(x:cI P w H h)(e:H a=some o):a<h.objs.size:=(x a o e).lt
theorem cI.fresh(x:cI P w H h)(e:h.objs.size<=a):H a=none:=by
 cases q:H a with
 | none=>rfl
 | some u=>exact absurd (de (x.lt q) e) (gw _)
theorem cI.kept(x:cI P w H h)(k:∀b u,h.get? b=some u->h'.get? b=some u):cI P w H h':=λa o e =>
 (x a o e).kh (λb u _ q=>k b u q) (λ_ q=>q) (λ_ _ q=>q) λ_ _ q=>q
theorem cI.laid(x:cI P w H h)(k:∀b u,h.get? b=some u->h'.get? b=some u)(hp:h.objs.size<=a)(new:dU P w (upd H a o) h' a o):cI P w (upd H a o) h':=λb u e=>by
 have hn:=x.fresh hp
 by_cases hb:b=a
 ·subst hb;rw[bL]at e;cases e;exact new
 ·rw[bc hb]at e
  exact(x b u e).kh (λc v _ q=>k c v q) (λc q=>by rw[bc (eK q hn)];exact q) (λc xs q=>by rw[bc (eK q hn)];exact q) λc xs q=>by rw[bc (eK q hn)];exact q
end
noncomputable def Rd(H:Hp)(a:Addr)(u:HO):Prop:=H a=some u\/∃o,H a=some (.bt o u)
theorem Rd.ok{P:Program}{w:World}{H:Hp}{h:Heap}{a:Addr}{u:HO}(r:Rd H a u)(x:cI P w H h):dU P w H h a u:=by
 rcases r with r | ⟨o,r⟩
 ·exact x a u r
 ·obtain⟨_,q⟩:=x a _ r
  exact q
noncomputable def zZ:Option HO->Prop
 | some (.lst _)=>True
 | some (.dK _)=>True
 | some (.dT _)=>True
 | some (.set _ _)=>True
 | some (.ins _ _ _)=>True
 | _=>False
section
variable{P:Program}{w:World}{H:Hp}{h h':Heap}{x e:Addr}{o':HO}
theorem cI.write(ok:cI P w H h)(mu:zZ (H x))(he:e=x\/H e=some (.own x))(k:∀b u,b≠e->h.get? b=some u->h'.get? b=some u)(sF:∃u,h'.get? e=some u)
  (new:dU P w (upd H x o') h' x o'):cI P w (upd H x o') h':=λb u q=>by
 have Ny:∀c y,H c=some (.own y)->c≠x:=λc y r z=>by subst z;rw[r]at mu;exact mu
 have WK:∀c xs,H c=some (.tup xs)->c≠x:=λc xs r z=>by subst z;rw[r]at mu;exact mu
 by_cases hb:b=x
 ·subst hb;rw[bL]at q;cases q;exact new
 ·rw[bc hb]at q
  by_cases pJ:b=e
  ·have q':H b=some (.own x):=by
    rcases he with z | z
    ·exact absurd (pJ.trans z) hb
    ·rw[pJ];exact z
   rw[q]at q';cases q'
   obtain⟨v,hv⟩:=sF
   exact⟨v,by rw[pJ];exact hv⟩
  ·refine(ok b u q).kh (λc v hc r=>k c v ?_ r) (λc r=>by rw[bc (Ny c b r)];exact r) (λc xs r=>by rw[bc (WK c xs r)];exact r) λc φ r=>by rw[bc (λz=>by rw[z]at r;rw[r]at mu;exact mu)];exact r
   rcases hc with rfl | hc
   ·exact pJ
   ·rintro rfl
    rcases he with z | z
    ·exact Ny c b hc z
    ·rw[hc]at z;cases z;exact hb rfl
end
structure Un(fs ex:List Addr)(H H':Hp)(h h':Heap):Prop where
 keep:∀b o,h.get? b=some o->H b=none->b ∉ fs->b ∉ ex->h'.get? b=some o
 slot:∀b o,h.get? b=some o->H b=none->b∈fs->b ∉ ex->∃sl,h'.get? b=some { o with slots:=sl }
 free:∀b o,h.get? b=some o->H b=none->b ∉ ex->H' b=none
 there:∀b o,h.get? b=some o->b ∉ ex->∃o',h'.get? b=some o'
 jN:∀b xs,H b=some (.tup xs)->H' b=some (.tup xs)
 jm:∀b o u,H b=some (.bt o u)->H' b=some (.bt o u)
 iy:∀b ps,H b=some (.dr ps)->∃more,H' b=some (.dr (ps++more))
section
variable{fs fs' ex ex':List Addr}{H H1 H2:Hp}{h h1 h2 h':Heap}{a x e:Addr}{o:HO}
theorem Un.any(u:Un fs ex H H1 h h1){b:Addr}{ob:Obj}(q:h.get? b=some ob)(n:H b=none)(hx:b ∉ ex):∃sl,h1.get? b=some { ob with slots:=sl }:=by
 by_cases hb:b∈fs
 ·exact u.slot b ob q n hb hx
 ·exact⟨ob.slots,u.keep b ob q n hb hx⟩
theorem Un.kept(k:∀b u,h.get? b=some u->h'.get? b=some u):Un fs ex H H h h' :=
 ⟨λb ob q _ _ _=>k b ob q,λb ob q _ _ _=>⟨ob.slots,k b ob q⟩,λ_ _ _ n _=>n,λb ob q _=>⟨ob,k b ob q⟩,λ_ _ q=>q,λ_ _ _ q=>q,λ_ ps q=>⟨#[],by rw[q];simp⟩⟩
theorem Un.refl:Un fs ex H H h h:=Un.kept λ_ _ q=>q
theorem Un.laid(k:∀b u,h.get? b=some u->h'.get? b=some u)(hp:h.objs.size<=a)(hn:H a=none):Un fs ex H (upd H a o) h h' where
 keep:=λb u q _ _ _=>k b u q
 slot:=λb u q _ _ _=>⟨u.slots,k b u q⟩
 free:=λb u q n _=>by rw[bc (eZ (de (bP q) hp))];exact n
 there:=λb u q _=>⟨u,k b u q⟩
 jN:=λb xs q=>by rw[bc (eK q hn)];exact q
 jm:=λb u xs q=>by rw[bc (eK q hn)];exact q
 iy:=λb ps q=>⟨#[],by rw[bc (eK q hn),q];simp⟩
theorem Un.write(mu:zZ (H x))(he:e=x\/H e=some (.own x))(k:∀b u,b≠e->h.get? b=some u->h'.get? b=some u)(sF:∃u,h'.get? e=some u):Un fs ex H (upd H x o) h h':=by
 have hx:∀b,H b=none->b≠x:=λb n z=>by subst z;rw[n]at mu;exact mu
 have hb:∀b,H b=none->b≠e:=λb n z=>by
  subst z
  rcases he with r | r
  ·exact hx b n r
  ·rw[n]at r;cases r
 have hm:∀b u,H b=some u->¬ zZ (some u)->b≠x:=λb u q nm z=>by subst z;rw[q]at mu;exact nm mu
 refine⟨λb u q n _ _=>k b u (hb b n) q,λb u q n _ _=>⟨u.slots,k b u (hb b n) q⟩,λb u q n _=>by rw[bc (hx b n)];exact n,λb u q _=>?_,
  λb xs q=>by rw[bc (hm b _ q λz=>z)];exact q,λb u xs q=>by rw[bc (hm b _ q λz=>z)];exact q,λb ps q=>⟨#[],by rw[bc (hm b _ q λz=>z),q];simp⟩⟩
 by_cases pJ:b=e
 ·subst pJ;exact sF
 ·exact⟨u,k b u pJ q⟩
end
noncomputable def z5(h:Heap)(H:Hp):List Addr:=(aL h.objs.size).filter λa=>(H a).isSome
noncomputable def kW(h:Heap)(H:Hp):Heap:=PySem.W.hideAll h (z5 h H)
theorem WL(h:Heap)(H:Hp):(kW h H).objs.size=h.objs.size:=PySem.W.hideAll_size _ _
theorem WM{h:Heap}{H:Hp}{b:Addr}{o:Obj}(e:h.get? b=some o)(n:H b=none):(kW h H).get? b=some o :=
 PySem.W.hideAll_get _ e λhm=>by
  have q:(H b).isSome=true:=(vO.mp hm).2
  rw[n]at q;simp at q
theorem WN{h:Heap}{H:Hp}{b:Addr}{o:Obj}(e:(kW h H).get? b=some o):h.get? b=some o/\H b=none:=by
 have e':h.get? b=some o:=PySem.W.of_hideAll (z5 h H) e
 refine⟨e',?_⟩
 cases q:H b with
 | none=>rfl
 | some x =>
  have hm:b∈z5 h H:=vO.mpr ⟨cV.mpr (bP e'),by simp[q]⟩
  have z:(kW h H).get? b=none:=PySem.W.hideAll_none (z5 h H) hm
  rw[z]at e;cases e
end L2
namespace L2
open PySem PySem.Spec PyProof.Rows
structure Mod(K:PySem.W.Frag)(mg:Str->Option Value)(base:Heap):Prop where
 mB:K.In base
 glob:base.Ns mainGlobals mg
 blt:∃mb,base.Ns builtinsNs mb/\∀x:Str,x≠"__name__"->mb x=bootBuiltins x
 nolimit:base.NoLimit
structure Cx where
 prog:Program
 w:World
 K:PySem.W.Frag
 mg:Str->Option Value
 base:Heap
 A:Around
 N:List Str
 cJ:Shared
 jO:Hp
 env:Env
 outer:List Env
 stack:List Env
 ex:List Addr
 fn:Str->Bool
 calm:Bool
 pn:List (Addr × Obj)
 xe:Value->Shared->Prop
noncomputable def eo(l:List Env):List Addr:=l.filterMap (·.frame)
noncomputable abbrev Cx.fs(X:Cx):List Addr:=eo X.outer
noncomputable def mC(sc:Scope)(x:Str):Prop:=sc.names.lookup x=some .local\/sc.names.lookup x=some .cell\/sc.names.lookup x=some .free
noncomputable def Loc(sc:Scope)(x:Str):Prop:=sc.names.lookup x=some .local\/sc.names.lookup x=some .cell
noncomputable def WO(env:Env)(h:Heap)(m:Str->Option Value)(x:Str)(u:Value):Prop :=
 (env.kindOf x=some .local/\m x=some u)\/((env.kindOf x=some .cell\/env.kindOf x=some .free)/\∃c,env.cells.lookup x=some c/\h.IsCell c (some u))
structure Cx.Ok(X:Cx):Prop where
 mod:Mod X.K X.mg X.base
 kind:X.env.scope.kind=.function
 glob:X.env.globals=mainGlobals
 blt:X.env.builtins=builtinsNs
 above:X.cJ.heap.objs.size<=X.env.locals
 inj:∀x y c,X.env.cells.lookup x=some c->X.env.cells.lookup y=some c->x=y
 has:∀x,(X.env.kindOf x=some .cell\/X.env.kindOf x=some .free)->∃c,X.env.cells.lookup x=some c
 pK:∀x c,X.fn x=true->X.env.cells.lookup x=some c->X.cJ.heap.objs.size<=c
 hd:X.calm=true->X.A.handled=none
 frames:X.A.frames=some X.stack
 wb:X.stack=X.outer\/(X.stack=X.env::X.outer/\X.env.frame=some X.env.locals)
 wc:∀b∈X.ex,b≠X.env.locals/\∀x c,X.env.cells.lookup x=some c->c≠b
 bs:∀b o,X.base.get? b=some o->X.cJ.heap.get? b=some o/\X.jO b=none
 jP:X.base.objs.size<=X.cJ.heap.objs.size
 sG:∀b o,X.base.get? b=some o->b ∉ X.ex
 sH:∀b∈X.ex,b ∉ X.fs
 gK:X.cJ.heap.FunFrames X.base X.outer
 jQ:∀b∈X.fs,X.jO b=none
structure Inv(X:Cx)(pins:List (Addr × Obj))(σ:List (Option V))(H:Hp)(s:Shared):Prop where
 ok:X.Ok
 os:s.os=X.cJ.os
 bare:AllBare s.gens
 base:Un X.fs X.ex X.jO H X.cJ.heap s.heap
 loc:∃m,s.heap.Ns X.env.locals m/\∀(i:Nat) (x:Str) (v:V),X.N[i]?=some x->σ[i]?=some (some v)->mC X.env.scope x->∃u,RelV v u/\WO X.env s.heap m x u
 cell:∀x c,X.env.cells.lookup x=some c->∃v,s.heap.IsCell c v
 free:H X.env.locals=none
 jn:∀x c,X.env.cells.lookup x=some c->H c=none
 pin:∀p∈X.pn++pins,s.heap.get? p.1=some p.2/\H p.1=none/\p.1≠X.env.locals/\p.1 ∉ X.fs/\∀v,p.2.data≠.cell v
 aJ:cI X.prog X.w H s.heap
 len:σ.length=X.N.length
section
variable{X:Cx}{pins:List (Addr × Obj)}{σ:List (Option V)}{H H':Hp}{s:Shared}{h':Heap}
theorem Cx.Ok.WQ(ok:X.Ok){b:Addr}{o:Obj}(e:X.base.get? b=some o):b ∉ X.fs:=λhb=>by
 have:=(ok.gK.mem hb).1
 rw[e]at this;cases this
theorem Inv.bs(I:Inv X pins σ H s):∀b o,X.base.get? b=some o->s.heap.get? b=some o/\H b=none:=λb o e =>
 ⟨I.base.keep b o (I.ok.bs b o e).1 (I.ok.bs b o e).2 (I.ok.WQ e) (I.ok.sG b o e),I.base.free b o (I.ok.bs b o e).1 (I.ok.bs b o e).2 (I.ok.sG b o e)⟩
theorem Inv.bk(I:Inv X pins σ H s):∀b o,X.base.get? b=some o->s.heap.get? b=some o:=λb o e=>(I.bs b o e).1
theorem Inv.mod(I:Inv X pins σ H s):Mod X.K X.mg X.base:=I.ok.mod
theorem Inv.cY(I:Inv X pins σ H s):X.K.In s.heap:=I.ok.mod.mB.keeps I.bk
theorem Inv.lt(I:Inv X pins σ H s):X.env.locals<s.heap.objs.size:=let⟨_,hn,_⟩:=I.loc;hn.lt
theorem Inv.sz(I:Inv X pins σ H s):X.cJ.heap.objs.size<=s.heap.objs.size:=fg I.ok.above (zx I.lt)
theorem Inv.Nz(I:Inv X pins σ H s){a:Addr}(h:s.heap.objs.size<=a):a ∉ X.fs:=λhb=>by
 obtain⟨_,o,ho,_⟩:=I.ok.gK.mem hb
 exact absurd (de (bP ho) (fg I.sz h)) (gw _)
theorem Inv.nJ(I:Inv X pins σ H s):∀x c,X.env.cells.lookup x=some c->c≠X.env.locals:=λx c e z=>by
 obtain⟨v,o,ho,hd⟩:=I.cell x c e
 obtain⟨m,⟨o',es,ep,ki,we,_⟩,_⟩:=I.loc
 rw[z,ki]at ho;cases ho;rw[we]at hd;cases hd
theorem Inv.gK(I:Inv X pins σ H s):s.heap.FunFrames X.base X.outer:=by
 have all:∀(l:List Env),(∀b∈eo l,b∈X.fs)->X.cJ.heap.FunFrames X.base l->s.heap.FunFrames X.base l:=by
  intro l
  induction l with
  | nil=>intro _ _;trivial
  | cons env r ih =>
   intro hs hl
   obtain⟨hk,⟨L,o,hf,hn,ho,hd⟩,hr⟩:=hl
   have hL:L∈X.fs:=hs L (by unfold eo;rw[zy,hf];exact jj)
   obtain⟨sl,e⟩:=I.base.slot L o ho (I.ok.jQ L hL) hL λz=>I.ok.sH L z hL
   exact⟨hk,⟨L,_,hf,hn,e,hd⟩,ih (λb hb=>hs b (by unfold eo;rw[zy,hf];exact fU _ hb)) hr⟩
 exact all X.outer (λ_ hb=>hb) I.ok.gK
theorem Inv.stack(I:Inv X pins σ H s):s.heap.FunFrames X.base X.stack:=by
 rcases I.ok.wb with e | ⟨e,hf⟩
 ·rw[e];exact I.gK
 ·rw[e]
  obtain⟨m,hn,_⟩:=I.loc
  refine .cons (by rw[I.ok.kind];decide) hf hn ?_ I.gK
  exact Heap.get?_none_of_le (fg I.ok.jP I.ok.above)
theorem Inv.z7(I:Inv X pins σ H s):∀b∈eo X.stack,b∈X.env.locals::X.fs:=λb hb=>by
 rcases I.ok.wb with e | ⟨e,hf⟩
 ·rw[e]at hb;exact fU _ hb
 ·rw[e]at hb
  unfold eo at hb
  rw[zy,hf]at hb
  exact hb
theorem Inv.DM(I:Inv X pins σ H s):∀b∈eo X.stack,H b=none:=λb hb=>by
 rcases cA.mp (I.z7 b hb)with e | hb
 ·rw[e];exact I.free
 ·obtain⟨_,o,ho,_⟩:=I.ok.gK.mem hb
  exact I.base.free b o ho (I.ok.jQ b hb) λz=>I.ok.sH b z hb
theorem Inv.step{g':Array GenState}{t':Nat}{d':Drawn}{ch:List Addr}(I:Inv X pins σ H s)
  (kX:∀b∈ch,(b∈X.ex\/X.cJ.heap.objs.size<=b)/\b≠X.env.locals/\(∀x c,X.env.cells.lookup x=some c->c≠b)/\∀p∈X.pn++pins,p.1≠b)
  (keep:∀b o,b≠X.env.locals->b ∉ X.fs->b ∉ ch->s.heap.get? b=some o->H b=none->h'.get? b=some o)
  (slot:∀b o,b≠X.env.locals->b∈X.fs->b ∉ ch->s.heap.get? b=some o->H b=none->∃sl,h'.get? b=some { o with slots:=sl }) (free:∀b o,b ∉ ch->s.heap.get? b=some o->H b=none->H' b=none)
  (there:∀b o,b ∉ ch->s.heap.get? b=some o->∃o',h'.get? b=some o')
  (jN:∀b xs,H b=some (.tup xs)->H' b=some (.tup xs)) (jm:∀b o u,H b=some (.bt o u)->H' b=some (.bt o u)) (iy:∀b ps,H b=some (.dr ps)->∃more,H' b=some (.dr (ps++more)))
  (ns:∀m,s.heap.Ns X.env.locals m->h'.Ns X.env.locals m) (aJ:cI X.prog X.w H' h') (hg:AllBare g') :
  Inv X pins σ H' { s with heap:=h',gens:=g',drawn:=d',toks:=t' }:=by
 have z9:∀b o,X.cJ.heap.get? b=some o->b≠X.env.locals:=λb o e=>eZ (de (bP e) I.ok.above)
 have sI:∀b o,X.cJ.heap.get? b=some o->b ∉ X.ex->b ∉ ch:=λb o e hx hb=>by
  rcases(kX b hb).1 with z | z
  ·exact hx z
  ·exact absurd (de (bP e) z) (gw _)
 have cellK:∀x c,X.env.cells.lookup x=some c->∀v,s.heap.IsCell c v->h'.IsCell c v:=λx c e v ⟨o,ho,hd⟩=>by
  have wg:c ∉ ch:=λz=>(kX c z).2.2.1 x c e rfl
  by_cases hc:c∈X.fs
  ·obtain⟨sl,q⟩:=slot c o (I.nJ x c e) hc wg ho (I.jn x c e)
   exact⟨_,q,hd⟩
  ·exact⟨o,keep c o (I.nJ x c e) hc wg ho (I.jn x c e),hd⟩
 refine⟨I.ok,I.os,hg,⟨λb o e n hb hx=>?_,λb o e n hb hx=>?_,λb o e n hx=>?_,λb o e hx=>?_,λb xs e=>jN b xs (I.base.jN b xs e),λb o xs e=>jm b o xs (I.base.jm b o xs e),λb ps e=>?_⟩,?_,λx c e=>?_,?_,λx c e=>?_,λp hp=>?_,aJ,I.len⟩
 ·exact keep b o (z9 b o e) hb (sI b o e hx) (I.base.keep b o e n hb hx) (I.base.free b o e n hx)
 ·obtain⟨sl,e1⟩:=I.base.slot b o e n hb hx
  obtain⟨DN,e2⟩:=slot b _ (z9 b o e) hb (sI b o e hx) e1 (I.base.free b o e n hx)
  exact⟨DN,e2⟩
 ·obtain⟨o',e1⟩:=I.base.there b o e hx
  exact free b o' (sI b o e hx) e1 (I.base.free b o e n hx)
 ·obtain⟨o',e1⟩:=I.base.there b o e hx
  exact there b o' (sI b o e hx) e1
 ·obtain⟨m1,e1⟩:=I.base.iy b ps e
  obtain⟨m2,e2⟩:=iy b _ e1
  exact⟨m1++m2,by rw[e2,rP]⟩
 ·obtain⟨m,hn,hl⟩:=I.loc
  refine⟨m,ns m hn,λi x v e1 e2 e3=>?_⟩
  obtain⟨u,r,l⟩:=hl i x v e1 e2 e3
  refine⟨u,r,?_⟩
  rcases l with l | ⟨k,c,e,z⟩
  ·exact .inl l
  ·exact .inr ⟨k,c,e,cellK x c e _ z⟩
 ·obtain⟨v,z⟩:=I.cell x c e
  exact⟨v,cellK x c e v z⟩
 ·obtain⟨m,⟨o,_,_,ho,_⟩,_⟩:=I.loc
  exact free _ o (λz=>(kX _ z).2.1 rfl) ho I.free
 ·obtain⟨v,o,ho,hd⟩:=I.cell x c e
  exact free c o (λz=>(kX c z).2.2.1 x c e rfl) ho (I.jn x c e)
 ·obtain⟨e,n,ne,nf,d⟩:=I.pin p hp
  have wg:p.1 ∉ ch:=λz=>(kX p.1 z).2.2.2 p hp rfl
  exact⟨keep p.1 p.2 ne nf wg e n,free p.1 p.2 wg e n,ne,nf,d⟩
theorem Inv.un{t':Nat}(I:Inv X pins σ H s)(u:Un X.fs [] H H' s.heap h')(aJ:cI X.prog X.w H' h'):Inv X pins σ H' { s with heap:=h',toks:=t' }:=by
 obtain⟨m,⟨o,es,ep,ho,r⟩,_⟩:=id I.loc
 obtain⟨sl,hL⟩:=u.any ho I.free (by simp)
 exact I.step (g':=s.gens) (d':=s.drawn) (ch:=[]) (λ_ z=>nomatch z) (λb o _ hb _ e n=>u.keep b o e n hb (by simp)) (λb o _ hb _ e n=>u.slot b o e n hb (by simp)) (λb o _ e n=>u.free b o e n (by simp)) (λb o _ e=>u.there b o e (by simp)) u.jN u.jm u.iy (λm' hm=>by
  obtain⟨o',DO,DP,ki,r'⟩:=hm
  rw[ho]at ki;cases ki
  exact⟨_,DO,DP,hL,r'⟩) aJ I.bare
theorem Inv.call{g':Array GenState}{t':Nat}{d':Drawn}{ch:List Addr}(I:Inv X pins σ H s)(u:Un (eo X.stack) ch H H' s.heap h')(aJ:cI X.prog X.w H' h')(hg:AllBare g')
  (kX:∀b∈ch,(b∈X.ex\/X.cJ.heap.objs.size<=b)/\b≠X.env.locals/\(∀x c,X.env.cells.lookup x=some c->c≠b)/\∀p∈X.pn++pins,p.1≠b) :
  Inv X pins σ H' { s with heap:=h',gens:=g',drawn:=d',toks:=t' }:=by
 obtain⟨m,⟨o,es,ep,ho,r⟩,_⟩:=id I.loc
 obtain⟨sl,hL⟩:=u.any ho I.free λz=>(kX _ z).2.1 rfl
 exact I.step (ch:=ch) kX (λb o hL hb hc e n=>u.keep b o e n (λz=>(cA.mp (I.z7 b z)).elim hL hb) hc) (λb o _ _ hc e n=>u.any e n hc) (λb o hc e n=>u.free b o e n hc) (λb o hc e=>u.there b o e hc) u.jN u.jm u.iy (λm' hm=>by
  obtain⟨o',DO,DP,ki,r'⟩:=hm
  rw[ho]at ki;cases ki
  exact⟨_,DO,DP,hL,r'⟩) aJ hg
theorem Inv.turned{t':Nat}{it:Addr}(I:Inv X pins σ H s)(k:∀b o,b≠it->s.heap.get? b=some o->h'.get? b=some o)(hn:H it=none)(hL:it≠X.env.locals)
  (h1:it∈X.ex\/X.cJ.heap.objs.size<=it) (h2:∀x c,X.env.cells.lookup x=some c->c≠it) (h3:∀p∈X.pn++pins,p.1≠it):Inv X pins σ H { s with heap:=h',toks:=t' }:=by
 have nK:∀b u,H b=some u->b≠it:=λb u e z=>by rw[z,hn]at e;cases e
 refine I.step (g':=s.gens) (d':=s.drawn) (ch:=[it]) (λb hb=>?_) (λb o _ _ hc e _=>k b o (λz=>hc (by simp[z])) e) (λb o _ _ hc e _=>⟨o.slots,k b o (λz=>hc (by simp[z])) e⟩) (λ_ _ _ _ n=>n)
  (λb o hc e=>⟨o,k b o (λz=>hc (by simp[z])) e⟩) (λ_ _ e=>e) (λ_ _ _ e=>e) (λb ps e=>⟨#[],by rw[e];simp⟩) (λm hm=>?_) (λb u e=>?_) I.bare
 ·have e:b=it:=by simpa using hb
  subst e
  exact⟨h1,hL,h2,h3⟩
 ·obtain⟨o,es,ep,ho,r⟩:=hm
  exact⟨o,es,ep,k _ o (ft hL) ho,r⟩
 ·refine(I.aJ b u e).kh (λc v hc q=>k c v ?_ q) (λ_ q=>q) (λ_ _ q=>q) λ_ _ q=>q
  rcases hc with z | z
  ·rw[z];exact nK b u e
  ·exact nK c _ z
theorem Inv.tok(I:Inv X pins σ H s)(t:Nat):Inv X pins σ H { s with toks:=t }:=I.un (h':=s.heap) (t':=t) Un.refl I.aJ
theorem Inv.kept{t':Nat}(I:Inv X pins σ H s)(k:∀b u,s.heap.get? b=some u->h'.get? b=some u):Inv X pins σ H { s with heap:=h',toks:=t' }:=I.un (Un.kept k) (I.aJ.kept k)
theorem Inv.laid{a:Addr}{o:HO}{t':Nat}(I:Inv X pins σ H s)(k:∀b u,s.heap.get? b=some u->h'.get? b=some u)(hp:s.heap.objs.size<=a)(new:dU X.prog X.w (upd H a o) h' a o) :
  Inv X pins σ (upd H a o) { s with heap:=h',toks:=t' }:=I.un (Un.laid k hp (I.aJ.fresh hp)) (I.aJ.laid k hp new)
theorem Inv.write{x e:Addr}{o:HO}{t':Nat}(I:Inv X pins σ H s)(mu:zZ (H x))(he:e=x\/H e=some (.own x))(k:∀b u,b≠e->s.heap.get? b=some u->h'.get? b=some u)(sF:∃u,h'.get? e=some u)
  (new:dU X.prog X.w (upd H x o) h' x o):Inv X pins σ (upd H x o) { s with heap:=h',toks:=t' }:=I.un (Un.write mu he k sF) (I.aJ.write mu he k sF new)
theorem Inv.weak{aI:List (Option V)}(I:Inv X pins σ H s)(hl:aI.length=σ.length)(w:∀(i:Nat) v,aI[i]?=some (some v)->σ[i]?=some (some v)):Inv X pins aI H s :=
 ⟨I.ok,I.os,I.bare,I.base,let⟨m,hn,DQ⟩:=I.loc;⟨m,hn,λi x v e1 e2 e3=>DQ i x v e1 (w i v e2) e3⟩,I.cell,I.free,I.jn,I.pin,I.aJ,hl.trans I.len⟩
theorem Inv.NA{DR:List (Addr × Obj)}(I:Inv X pins σ H s)(h:∀p∈DR,s.heap.get? p.1=some p.2/\H p.1=none/\p.1≠X.env.locals/\p.1 ∉ X.fs/\∀v,p.2.data≠.cell v):Inv X DR σ H s :=
 ⟨I.ok,I.os,I.bare,I.base,I.loc,I.cell,I.free,I.jn,λp hp=>(cj.mp hp).elim (λz=>I.pin p (eR _ z)) (h p),I.aJ,I.len⟩
theorem NB{N:List Str}(hN:N.Nodup){i j:Nat}{x:Str}(a:N[i]?=some x)(b:N[j]?=some x):i=j:=by
 obtain⟨h1,e1⟩:=jk.mp a
 obtain⟨h2,e2⟩:=jk.mp b
 exact(List.getElem_inj hN).mp (e1.trans e2.symm)
theorem WR{M:Model}{A:Around}{E:Value->Shared->Prop}{i:Nat}{x:Str}{v:V}{u:Value}{Q:Unit->Shared->Prop}(I:Inv X pins σ H s)(hN:X.N.Nodup)(hi:X.N[i]?=some x)(hx:Loc X.env.scope x)(r:RelV v u)
  (h:∀s',Inv X pins (σ.set i (some v)) H s'->(∃a,Heap.SameBut a s.heap s'.heap/\(a=X.env.locals\/X.env.cells.lookup x=some a))->Q () s') (hf:X.fn x=true\/X.env.scope.names.lookup x=some .local:=by first | exact .inl rfl | exact .inr rfl | assumption):wpAny M A (storeName X.env x u) Q E s:=by
 obtain⟨m,hn,hl⟩:=id I.loc
 have WS:(X.env.scope.kind==.class||(X.env.scope.kind==.module&&X.env.locals != X.env.globals))=false:=by rw[I.ok.kind];rfl
 have NC:i<σ.length:=by rw[I.len];exact(jk.mp hi).1
 have nJ:=I.nJ
 have tracked:∀{a:Addr} {h':Heap},(∃o,s.heap.get? a=some o/\H a=none)->Heap.SameBut a s.heap h'->cI X.prog X.w H h':=λ{a h'} ha hs b ob e=>by
  obtain⟨_,_,ND⟩:=ha
  refine(I.aJ b ob e).kh (λc w' hc q=>(hs.2 c ?_).trans q) (λ_ q=>q) (λ_ _ q=>q) λ_ _ q=>q
  rintro rfl
  rcases hc with rfl | hc
  ·rw[ND]at e;cases e
  ·rw[ND]at hc;cases hc
 rcases hx with hk | hk
 ·refine wpAny_storeName_local hk hn (λh' WT hs=>?_) WS
  obtain⟨oL,_,_,WU,_⟩:=id hn
  refine h _ ⟨I.ok,I.os,I.bare,⟨λb o e n hb hx=>?_,λb o e n hb hx=>?_,I.base.free,λb o e hx=>?_,I.base.jN,I.base.jm,I.base.iy⟩,⟨_,WT,λj y v' e1 e2 e3=>?_⟩,λy c e=>?_,I.free,I.jn,λp hp=>?_,tracked ⟨oL,WU,I.free⟩ hs,by simpa using I.len⟩ ⟨_,hs,.inl rfl⟩
  ·exact(hs.2 b (eZ (de (bP e) I.ok.above))).trans (I.base.keep b o e n hb hx)
  ·obtain⟨sl,e1⟩:=I.base.slot b o e n hb hx
   exact⟨sl,(hs.2 b (eZ (de (bP e) I.ok.above))).trans e1⟩
  ·obtain⟨o',e1⟩:=I.base.there b o e hx
   exact⟨o',(hs.2 b (eZ (de (bP e) I.ok.above))).trans e1⟩
  ·by_cases hj:j=i
   ·subst hj
    rw[hi]at e1;cases e1
    rw[Df NC]at e2
    cases e2
    exact⟨u,r,.inl ⟨hk,by simp⟩⟩
   ·rw[rQ (ft hj)]at e2
    obtain⟨u',r',q⟩:=hl j y v' e1 e2 e3
    refine⟨u',r',?_⟩
    rcases q with⟨k,e⟩ | ⟨k,c,e,z⟩
    ·refine .inl ⟨k,?_⟩
     have:y≠x:=λe=>hj (NB hN e1 (e ▸ hi))
     simp[this,e]
    ·exact .inr ⟨k,c,e,z.sameBut hs (nJ y c e)⟩
  ·obtain⟨w',z⟩:=I.cell y c e
   exact⟨w',z.sameBut hs (nJ y c e)⟩
  ·obtain⟨e,n,ne,nf,d⟩:=I.pin p hp
   exact⟨(hs.2 p.1 ne).trans e,n,ne,nf,d⟩
 ·have wj:X.fn x=true:=by
   rcases hf with z | z
   ·exact z
   ·rw[z]at hk;cases hk
  obtain⟨c,hc⟩:=I.ok.has x (.inl hk)
  obtain⟨w',z⟩:=I.cell x c hc
  refine wpAny_storeName_cell I.ok.kind hk hc z (λh' wk hs=>?_)
  obtain⟨oc,iO,WV⟩:=id z
  refine h { s with heap:=h' } ⟨I.ok,I.os,I.bare,⟨λb o e n hb hx=>?_,λb o e n hb hx=>?_,I.base.free,λb o e hx=>?_,I.base.jN,I.base.jm,I.base.iy⟩,⟨m,hn.sameBut hs (ft (nJ x c hc)),λj y v' e1 e2 e3=>?_⟩,λy c' e=>?_,I.free,I.jn,λp hp=>?_,tracked ⟨oc,iO,I.jn x c hc⟩ hs,by simpa using I.len⟩ ⟨c,hs,.inr hc⟩
  ·exact(hs.2 b (eZ (de (bP e) (I.ok.pK x c wj hc)))).trans (I.base.keep b o e n hb hx)
  ·obtain⟨sl,e1⟩:=I.base.slot b o e n hb hx
   exact⟨sl,(hs.2 b (eZ (de (bP e) (I.ok.pK x c wj hc)))).trans e1⟩
  ·obtain⟨o',e1⟩:=I.base.there b o e hx
   exact⟨o',(hs.2 b (eZ (de (bP e) (I.ok.pK x c wj hc)))).trans e1⟩
  ·by_cases hj:j=i
   ·subst hj
    rw[hi]at e1;cases e1
    rw[Df NC]at e2
    cases e2
    exact⟨u,r,.inr ⟨.inl hk,c,hc,wk⟩⟩
   ·rw[rQ (ft hj)]at e2
    obtain⟨u',r',q⟩:=hl j y v' e1 e2 e3
    refine⟨u',r',?_⟩
    rcases q with q | ⟨k,c',e,z'⟩
    ·exact .inl q
    ·refine .inr ⟨k,c',e,z'.sameBut hs ?_⟩
     rintro rfl
     exact hj (NB hN e1 (I.ok.inj _ _ _ e hc ▸ hi))
  ·by_cases NF:c'=c
   ·subst NF;exact⟨_,wk⟩
   ·obtain⟨w2,z2⟩:=I.cell y c' e
    exact⟨w2,z2.sameBut hs NF⟩
  ·obtain⟨e,n,ne,nf,d⟩:=I.pin p hp
   refine⟨(hs.2 p.1 ?_).trans e,n,ne,nf,d⟩
   intro q
   rw[q,iO]at e
   have q':oc=p.2:=cO e
   exact d w' (by rw[<-q'];exact WV)
theorem DS{M:Model}{A:Around}{E:Value->Shared->Prop}{i:Nat}{x:Str}{v:V}{u:Value}{Q:Unit->Shared->Prop}(I:Inv X pins σ H s)(hN:X.N.Nodup)(hi:X.N[i]?=some x)(hx:Loc X.env.scope x)(r:RelV v u)
  (h:∀s',Inv X pins (σ.set i (some v)) H s'->Q () s') (hf:X.fn x=true\/X.env.scope.names.lookup x=some .local:=by first | exact .inl rfl | exact .inr rfl | assumption):wpAny M A (storeName X.env x u) Q E s :=
 WR I hN hi hx r (λs' I' _=>h s' I') hf
theorem Inv.WW{s':Shared}{ch:List Addr}(I:Inv X pins σ H s)(ho:s'.os=s.os)(u:Un (eo X.stack) ch H H' s.heap s'.heap)(aJ:cI X.prog X.w H' s'.heap)(hg:AllBare s'.gens)
  (kX:∀b∈ch,(b∈X.ex\/X.cJ.heap.objs.size<=b)/\b≠X.env.locals/\(∀x c,X.env.cells.lookup x=some c->c≠b)/\∀p∈X.pn++pins,p.1≠b):Inv X pins σ H' s':=by
 obtain⟨h',g',d',t',o'⟩:=s'
 have e:o'=s.os:=ho
 subst e
 exact I.call (g':=g') (t':=t') (d':=d') u aJ hg kX
end
noncomputable abbrev XK:=Value->Option Addr->Hp->Prop
noncomputable abbrev St:=List (Option V)
noncomputable abbrev VK:=V->Hp->Prop
noncomputable abbrev TE:=St->Hp->VK->Prop
noncomputable abbrev TT:=St->Hp->(Bool->Hp->Prop)->Prop
noncomputable abbrev TA:=St->Hp->(List V->Hp->Prop)->Prop
structure Ends where
 nx:St->Hp->Prop
 rt:VK
 bk:St->Hp->Prop:=λ_ _=>False
 ct:St->Hp->Prop:=λ_ _=>False
noncomputable abbrev TS:=Ends->St->Hp->Prop
noncomputable def EP(X:Cx)(pins:List (Addr × Obj))(σ:St)(Q:VK)(u:Value)(s':Shared):Prop:=∃v H',Inv X pins σ H' s'/\RelV v u/\Q v H'
noncomputable def TP(X:Cx)(pins:List (Addr × Obj))(σ:St)(Q:Bool->Hp->Prop)(b:Bool)(s':Shared):Prop:=∃H',Inv X pins σ H' s'/\Q b H'
noncomputable def AP(X:Cx)(pins:List (Addr × Obj))(σ:St)(Q:List V->Hp->Prop)(us:List Value)(s':Shared):Prop:=∃vs H',Inv X pins σ H' s'/\Vals vs us/\Q vs H'
noncomputable def SP(X:Cx)(pins:List (Addr × Obj))(D:Ends)(f:Flow)(s':Shared):Prop :=
 match f with
 | .next=>∃aI H',Inv X pins aI H' s'/\D.nx aI H'
 | .brk=>∃aI H',Inv X pins aI H' s'/\D.bk aI H'
 | .cont=>∃aI H',Inv X pins aI H' s'/\D.ct aI H'
 | .ret u=>∃v aI H',Inv X pins aI H' s'/\RelV v u/\D.rt v H'
noncomputable def PE(X:Cx)(e:Expr)(t:TE):Prop :=
 ∀(pins:List (Addr × Obj)) (s:Shared) (σ:St) (H:Hp) (Q:VK),Inv X pins σ H s->t σ H Q->wpAny (model X.prog X.w) X.A (eval e X.env) (EP X pins σ Q) X.xe s
noncomputable def PT(X:Cx)(e:Expr)(t:TT):Prop :=
 ∀(pins:List (Addr × Obj)) (s:Shared) (σ:St) (H:Hp) (Q:Bool->Hp->Prop),Inv X pins σ H s->t σ H Q->wpAny (model X.prog X.w) X.A (isTrue e X.env (eval e X.env)) (TP X pins σ Q) X.xe s
noncomputable def PW(X:Cx)(e:Expr)(t:TT):Prop :=
 ∀(whole:Sem Value) (pins:List (Addr × Obj)) (s:Shared) (σ:St) (H:Hp) (Q:Bool->Hp->Prop),Inv X pins σ H s->t σ H Q->wpAny (model X.prog X.w) X.A (isTrue e X.env whole) (TP X pins σ Q) X.xe s
theorem PW.pt{X:Cx}{e:Expr}{t:TT}(h:PW X e t):PT X e t:=h _
noncomputable def PA(X:Cx)(es:List Expr)(t:TA):Prop :=
 ∀(pos:Pos) (pins:List (Addr × Obj)) (s:Shared) (σ:St) (H:Hp) (Q:List V->Hp->Prop),Inv X pins σ H s->t σ H Q->wpAny (model X.prog X.w) X.A (spliced (backTo pos (starEach es X.env))) (AP X pins σ Q) X.xe s
noncomputable def PS(X:Cx)(st:Stmt)(t:TS):Prop :=
 ∀(pins:List (Addr × Obj)) (s:Shared) (σ:St) (H:Hp) (D:Ends),Inv X pins σ H s->t D σ H->wpAny (model X.prog X.w) X.A (exec st X.env) (SP X pins D) X.xe s
noncomputable def PSs(X:Cx)(st:List Stmt)(t:TS):Prop :=
 ∀(pins:List (Addr × Obj)) (s:Shared) (σ:St) (H:Hp) (D:Ends),Inv X pins σ H s->t D σ H->wpAny (model X.prog X.w) X.A (execs st X.env) (SP X pins D) X.xe s
theorem aP{α:Type}{t:Sem α}{Q Q':α->Shared->Prop}{M:Model}{A:Around}{E:Value->Shared->Prop}{s:Shared}(h:wpAny M A t Q E s)(hQ:∀a s,Q a s->Q' a s):wpAny M A t Q' E s:=wpAny_mono h hQ λ_ _ x=>x
end L2
namespace L2
open PySem PySem.Spec PyProof.Rows
section
variable{X:Cx}
noncomputable def NG(i:Nat):TE:=λσ H Q=>∃v,σ[i]?=some (some v)/\Q v H
noncomputable def tC(v:V):TE:=λ_ H Q=>Q v H
theorem sJ{i:Nat}{x:Str}{pos:Pos}(hN:X.N[i]?=some x)(hv:mC X.env.scope x)(hd:(x==("__debug__":Str))=false:=by decide)(cK:(x==("__classdict__":Str))=false:=by decide):PE X (.Name x pos) (NG i):=by
 intro pins s σ H Q I h
 obtain⟨v,e,h⟩:=h
 obtain⟨m,hn,hl⟩:=I.loc
 obtain⟨u,r,l⟩:=hl i x v hN e hv
 have fin:EP X pins σ Q u s:=⟨v,H,I,r,h⟩
 rcases l with⟨hk,hm⟩ | ⟨hk,c,hc,Aa⟩
 ·exact wpAny_Name (wpAny_loadName_local I.ok.kind hk hn hm fin) hd
 ·rcases hk with hk | hk
  ·exact wpAny_Name (wpAny_loadName_cell I.ok.kind hk hc Aa fin) hd
  ·exact wpAny_Name (wpAny_loadName_free I.ok.kind hk hc Aa fin cK) hd
theorem pL{i j pos}:PE X (.Constant (.int i) j pos) (tC (.int i)):=λ_ _ _ H _ I h=>wpAny_Constant_int ⟨.int i,H,I.tok _,⟨_,rfl⟩,h⟩
theorem WX{b j pos}:PE X (.Constant (.bool b) j pos) (tC (.bl b)):=λ_ _ _ H _ I h=>Constant_bool ⟨.bl b,H,I,rfl,h⟩
theorem WY{j pos}:PE X (.Constant .none j pos) (tC .au):=λ_ _ _ H _ I h=>Constant_none ⟨.au,H,I,rfl,h⟩
theorem WZ{x j pos}:PE X (.Constant (.str x) j pos) (tC (.str x)):=λ_ _ _ H _ I h=>Calls.Constant_str ⟨.str x,H,I.tok _,⟨_,rfl⟩,h⟩
noncomputable def Gl(X:Cx)(x:Str):Prop:=X.env.kindOf x=some .globalImplicit
theorem wm{E:Value->Shared->Prop}{pins:List (Addr × Obj)}{s:Shared}{σ:St}{H:Hp}{x:Str}{u:Value}{pos:Pos}{Q:Value->Shared->Prop}(I:Inv X pins σ H s)(hg:Gl X x)(hm:X.mg x=some u)(h:Q u s)
  (hd:(x==("__debug__":Str))=false:=by decide):wpAny (model X.prog X.w) X.A (eval (.Name x pos) X.env) Q E s :=
 Wb I.ok.kind hg (Calls.loadGlobal_global (by rw[I.ok.glob];exact I.mod.glob.keeps I.bk) hm h) hd
theorem pM{E:Value->Shared->Prop}{pins:List (Addr × Obj)}{s:Shared}{σ:St}{H:Hp}{x:Str}{u:Value}{pos:Pos}{Q:Value->Shared->Prop}(I:Inv X pins σ H s)(hg:Gl X x)(hm:X.mg x=none)(hv:bootBuiltins x=some u)(h:Q u s)
  (hn:x≠"__name__":=by decide) (hd:(x==("__debug__":Str))=false:=by decide):wpAny (model X.prog X.w) X.A (eval (.Name x pos) X.env) Q E s:=by
 obtain⟨mb,h1,h2⟩:=I.mod.blt
 exact Wb I.ok.kind hg (Calls.loadGlobal_builtin (by rw[I.ok.glob];exact I.mod.glob.keeps I.bk) hm (by rw[I.ok.blt];exact h1.keeps I.bk) ((h2 x hn).trans hv) h) hd
theorem W0{x:Str}{v:V}{u:Value}{pos:Pos}(hg:Gl X x)(hm:X.mg x=some u)(r:RelV v u)(hd:(x==("__debug__":Str))=false:=by decide):PE X (.Name x pos) (tC v) :=
 λ_ _ _ H _ I h=>wm I hg hm ⟨v,H,I,r,h⟩ hd
theorem W2{x:Str}{v:V}{u:Value}{pos:Pos}(hg:Gl X x)(hm:X.mg x=none)(hv:bootBuiltins x=some u)(r:RelV v u)(hn:x≠"__name__":=by decide)(hd:(x==("__debug__":Str))=false:=by decide):PE X (.Name x pos) (tC v) :=
 λ_ _ _ H _ I h=>pM I hg hm hv ⟨v,H,I,r,h⟩ hn hd
variable{a b:Expr}{ta tb:TE}{pos:Pos}
noncomputable def tB(t:TE):TT:=λσ H Q=>t σ H λx H1=>∃c,x=.bl c/\Q c H1
theorem Ab{e:Expr}{t:TE}(h:PE X e t)(he:∀whole,isTrue e X.env whole=(do let v<-whole;standAt e.pos;holding [v] (truthy v)):=by intro _;rfl):PT X e (tB t):=by
 intro pins s σ H Q I hw
 refine isTrue_plain (aP (h pins s σ H _ I hw) λv s1 ⟨x,H1,I1,r1,q1⟩=>?_) (he _)
 obtain⟨d,rfl,q⟩:=q1
 cases r1
 exact wpAny_truthy_bool ⟨H1,I1,q⟩
variable{tA Ac:TT}{rest:List Expr}
noncomputable def W3(t u:TT):TT:=λσ H Q=>t σ H λc H1=>if c=true then u σ H1 Q else Q false H1
noncomputable def W4(t u:TT):TT:=λσ H Q=>t σ H λc H1=>if c=true then Q true H1 else u σ H1 Q
noncomputable def W5(t:TT):TT:=λσ H Q=>t σ H λc H1=>Q (!c) H1
theorem W6(ha:PT X a tA):PW X (.BoolOp .And [a] pos) tA:=by
 intro wh pins s σ H Q I h
 refine isTrue_and (aP (ha pins s σ H Q I h) λc s1 e=>?_)
 cases c with
 | true=>exact isTrue_and_nil e
 | false=>exact e
theorem nL(ha:PT X a tA):PW X (.BoolOp .Or [a] pos) tA:=by
 intro wh pins s σ H Q I h
 refine isTrue_or (aP (ha pins s σ H Q I h) λc s1 e=>?_)
 cases c with
 | false=>exact isTrue_or_nil e
 | true=>exact e
theorem W7(ha:PT X a tA)(hb:PW X (.BoolOp .And (b::rest) pos) Ac):PW X (.BoolOp .And (a::b::rest) pos) (W3 tA Ac):=by
 intro wh pins s σ H Q I h
 refine isTrue_and (aP (ha pins s σ H _ I h) λc s1 ⟨H1,I1,q1⟩=>?_)
 cases c with
 | true=>exact hb wh pins s1 σ H1 Q I1 q1
 | false=>exact⟨H1,I1,q1⟩
theorem NH(ha:PT X a tA)(hb:PW X (.BoolOp .Or (b::rest) pos) Ac):PW X (.BoolOp .Or (a::b::rest) pos) (W4 tA Ac):=by
 intro wh pins s σ H Q I h
 refine isTrue_or (aP (ha pins s σ H _ I h) λc s1 ⟨H1,I1,q1⟩=>?_)
 cases c with
 | true=>exact⟨H1,I1,q1⟩
 | false=>exact hb wh pins s1 σ H1 Q I1 q1
theorem Ad(ha:PT X a tA):PT X (.UnaryOp .Not a pos) (W5 tA):=by
 intro pins s σ H Q I h
 exact isTrue_not (ha pins s σ H (λc H1=>Q (!c) H1) I h)
noncomputable def W8(ta tb:TE):TE:=λσ H Q=>ta σ H λx H1=>∃c,x=.bl c/\if c=true then tb σ H1 Q else Q (.bl false) H1
noncomputable def W9(ta:TE):TE:=λσ H Q=>ta σ H λx H1=>∃c,x=.bl c/\Q (.bl (!c)) H1
theorem sM{op}{t:TE}(h:PE X a t):PE X (.BoolOp op [a] pos) t:=λpins s σ H Q I hw=>BoolOp_one (h pins s σ H Q I hw)
theorem Xa(ha:PE X a ta)(hb:PE X (.BoolOp .And (b::rest) pos) tb):PE X (.BoolOp .And (a::b::rest) pos) (W8 ta tb):=by
 intro pins s σ H Q I h
 refine BoolOp_and (aP (ha pins s σ H _ I h) λv s1 ⟨x,H1,I1,r1,q1⟩=>?_)
 obtain⟨c,rfl,q1⟩:=q1
 cases r1
 refine wpAny_truthy_bool ?_
 cases c with
 | true=>exact hb pins s1 σ H1 Q I1 q1
 | false=>exact⟨.bl false,H1,I1,rfl,q1⟩
theorem Xb(ha:PE X a ta):PE X (.UnaryOp .Not a pos) (W9 ta):=by
 intro pins s σ H Q I h
 refine UnaryOp_ (aP (ha pins s σ H _ I h) λv s1 ⟨x,H1,I1,r1,q1⟩=>?_)
 obtain⟨c,rfl,q1⟩:=q1
 cases r1
 exact not_of (wpAny_truthy_bool ⟨.bl (!c),H1,I1,rfl,q1⟩)
noncomputable def Xc(t:TT)(ta tb:TE):TE:=λσ H Q=>t σ H λc H1=>if c=true then ta σ H1 Q else tb σ H1 Q
theorem Xd{c:Expr}(hc:PT X c tA)(ha:PE X a ta)(hb:PE X b tb):PE X (.IfExp c a b pos) (Xc tA ta tb):=by
 intro pins s σ H Q I h
 refine wpAny_IfExp (aP (hc pins s σ H _ I h) λd s1 ⟨H1,I1,q1⟩=>?_)
 cases d with
 | true=>exact ha pins s1 σ H1 Q I1 q1
 | false=>exact hb pins s1 σ H1 Q I1 q1
end
end L2
namespace L2
open PySem PySem.Spec PyProof.Rows
noncomputable def bM(K:PySem.W.Frag)(H:Hp)(a:Addr)(xs:List V):Prop :=
 Rd H a (.lst xs) \/
  ∃(o:Obj) (its:Array Value) (n:Nat),K.lookup a=some o/\o.cls=.type "list"/\o.dict=none/\o.data=.seq its n/\its.size<=sizeLine/\Vals xs its.toList
noncomputable def gX(K:PySem.W.Frag)(H:Hp)(a:Addr)(xs:List V):Prop :=
 Rd H a (.tup xs) \/
  ∃(o:Obj) (its:Array Value) (n:Nat),K.lookup a=some o/\o.cls=.type "tuple"/\o.data=.seq its n/\its.size<=sizeLine/\Vals xs its.toList
noncomputable def Xe:Value->Option V
 | .none=>some .au
 | .bool b=>some (.bl b)
 | .int i _=>some (.int i)
 | .str x _=>some (.str x)
 | .bytes b _=>some (.zY b)
 | .float b _=>some (.pI b)
 | .ref a=>some (.ref a)
 | .type n=>some (.ty n)
 | _=>none
theorem RelV.abs{x:V}{u:Value}(r:RelV x u):Xe u=some x:=by
 cases x with
 | au=>cases r;rfl
 | bl _=>cases r;rfl
 | int _=>obtain⟨t,rfl⟩:=r;rfl
 | str _=>obtain⟨t,rfl⟩:=r;rfl
 | zY _=>obtain⟨t,rfl⟩:=r;rfl
 | pI _=>obtain⟨t,rfl⟩:=r;rfl
 | ref _=>cases r;rfl
 | ty _=>cases r;rfl
theorem RelV.inj{x y:V}{u:Value}(r:RelV x u)(q:RelV y u):x=y:=cO (r.abs.symm.trans q.abs)
theorem Vals.inj:∀{xs ys:List V} {us:List Value},Vals xs us->Vals ys us->xs=ys
 | _,_,_,.nil,.nil=>rfl
 | _,_,_,.cons r t,.cons r' t'=>by rw[r.inj r',Vals.inj t t']
section
variable{X:Cx}{pins:List (Addr × Obj)}{σ:St}{H:Hp}{s:Shared}{a:Addr}{xs ys:List V}
theorem bM.of{K:PySem.W.Frag}(h:H a=some (.lst xs)):bM K H a xs:=.inl (.inl h)
theorem gX.of{K:PySem.W.Frag}(h:H a=some (.tup xs)):gX K H a xs:=.inl (.inl h)
theorem Inv.list(I:Inv X pins σ H s)(h:bM X.K H a xs):∃its:List Value,Vals xs its/\PlainL s.heap a its.toArray/\xs.length<=sizeLine:=by
 rcases h with h | ⟨o,its,n,hk,hc,hd,hs,hz,r⟩
 ·obtain⟨z,its,n,r,e⟩:=h.ok I.aJ
  exact⟨its,r,⟨_,n,e,rfl,rfl,rfl⟩,z⟩
 ·refine⟨its.toList,r,⟨o,n,I.cY a o hk,hc,hd,by simpa using hs⟩,?_⟩
  have e:=r.length
  simp only[vP]at e
  omega
theorem Inv.tuple(I:Inv X pins σ H s)(h:gX X.K H a xs):∃its:List Value,Vals xs its/\IsTup s.heap a its.toArray/\xs.length<=sizeLine:=by
 rcases h with h | ⟨o,its,n,hk,hc,hs,hz,r⟩
 ·obtain⟨z,its,r,p⟩:=h.ok I.aJ
  exact⟨its,r,p,z⟩
 ·refine⟨its.toList,r,⟨o,I.cY a o hk,hc,n,by simpa using hs⟩,?_⟩
  have e:=r.length
  simp only[vP]at e
  omega
theorem Inv.Ae(I:Inv X pins σ H s)(h:bM X.K H a xs)(h':bM X.K H a ys):xs=ys:=by
 obtain⟨its,r,⟨o,n,e,_,_,d⟩,_⟩:=I.list h
 obtain⟨its',r',⟨o',n',e',_,_,d'⟩,_⟩:=I.list h'
 rw[e]at e';cases e'
 rw[d]at d'
 injection d' with d1 _
 have:its=its':=by simpa using congrArg Array.toList d1
 subst this
 exact r.inj r'
end
noncomputable abbrev Cx.jR(X:Cx)(E:Value->Shared->Prop):Cx:={ X with xe:=E }
noncomputable abbrev Cx.fY(X:Cx):Cx:=X.jR λ_ _=>False
theorem Cx.Ok.jR{X:Cx}(ok:X.Ok)(E:Value->Shared->Prop):(X.jR E).Ok :=
 ⟨ok.mod,ok.kind,ok.glob,ok.blt,ok.above,ok.inj,ok.has,ok.pK,ok.hd,ok.frames,ok.wb,ok.wc,ok.bs,ok.jP,ok.sG,ok.sH,ok.gK,ok.jQ⟩
theorem Cx.Ok.kY{X:Cx}{E:Value->Shared->Prop}(ok:(X.jR E).Ok):X.Ok :=
 ⟨ok.mod,ok.kind,ok.glob,ok.blt,ok.above,ok.inj,ok.has,ok.pK,ok.hd,ok.frames,ok.wb,ok.wc,ok.bs,ok.jP,ok.sG,ok.sH,ok.gK,ok.jQ⟩
section
variable{X:Cx}{pins:List (Addr × Obj)}{σ:St}{H:Hp}{s:Shared}{E:Value->Shared->Prop}
theorem Inv.jR(I:Inv X pins σ H s)(E:Value->Shared->Prop):Inv (X.jR E) pins σ H s:=⟨I.ok.jR E,I.os,I.bare,I.base,I.loc,I.cell,I.free,I.jn,I.pin,I.aJ,I.len⟩
theorem Inv.kY(I:Inv (X.jR E) pins σ H s):Inv X pins σ H s:=⟨I.ok.kY,I.os,I.bare,I.base,I.loc,I.cell,I.free,I.jn,I.pin,I.aJ,I.len⟩
theorem SP.kY{D:Ends}{f:Flow}{s':Shared}(h:SP (X.jR E) pins D f s'):SP X pins D f s':=by
 cases f with
 | next=>obtain⟨aI,H',I,q⟩:=h;exact⟨aI,H',I.kY,q⟩
 | brk=>obtain⟨aI,H',I,q⟩:=h;exact⟨aI,H',I.kY,q⟩
 | cont=>obtain⟨aI,H',I,q⟩:=h;exact⟨aI,H',I.kY,q⟩
 | ret u=>obtain⟨v,aI,H',I,r,q⟩:=h;exact⟨v,aI,H',I.kY,r,q⟩
theorem PE.fY{e:Expr}{t:TE}(h:PE X.fY e t):PE X e t:=λpins s σ H Q I hw =>
 wpAny_mono (h pins s σ H Q (I.jR _) hw) (λ_ _ ⟨v,H',I',r,q⟩=>⟨v,H',I'.kY,r,q⟩) λ_ _ z=>fH z
theorem PSs.fY{st:List Stmt}{t:TS}(h:PSs X.fY st t):PSs X st t:=λpins s σ H D I hw =>
 wpAny_mono (h pins s σ H D (I.jR _) hw) (λ_ _ q=>q.kY) λ_ _ z=>fH z
end
section
variable{X:Cx}{st:Stmt}{rest:List Stmt}{t u:TS}{e:Expr}{te:TE}{pos:Pos}
noncomputable def Xf:TS:=λD σ H=>D.nx σ H
noncomputable def Xg(t u:TS):TS:=λD σ H=>t { D with nx:=u D } σ H
theorem pO:PSs X [] Xf:=λ_ _ σ H _ I h=>wpAny_execs_nil ⟨σ,H,I,h⟩
theorem eN(h1:PS X st t)(h2:PSs X rest u):PSs X (st::rest) (Xg t u):=by
 intro pins s σ H D I h
 refine wpAny_execs_cons (aP (h1 pins s σ H { D with nx:=u D } I h) λf s1 q=>?_)
 cases f with
 | next =>
  obtain⟨aI,H',I',q⟩:=q
  exact h2 pins s1 aI H' D I' q
 | ret v=>exact q
 | brk=>exact q
 | cont=>exact q
theorem iP(h1:PS X st t):PSs X [st] t:=by
 intro pins s σ H D I h
 refine wpAny_execs_cons (aP (h1 pins s σ H D I h) λf s1 q=>?_)
 cases f with
 | next=>exact wpAny_execs_nil q
 | ret v=>exact q
 | brk=>exact q
 | cont=>exact q
theorem Inv.quiet{pins:List (Addr × Obj)}{σ:St}{H:Hp}{s:Shared}(I:Inv X pins σ H s):interactive X.env=false:=by simp[interactive,I.ok.kind]
noncomputable def Xh(te:TE):TS:=λD σ H=>te σ H λ_ H1=>D.nx σ H1
theorem pP(he:PE X e te)(hs:swapsWith e none pos.line X.env=pure false:=by rfl):PS X (.Expr e pos) (Xh te):=by
 intro pins s σ H D I h
 exact wpAny_Expr_any (aP (he pins s σ H _ I h) λv s1 ⟨x,H1,I1,r1,q1⟩=>⟨σ,H1,I1,q1⟩) I.quiet hs
noncomputable def Xi(te:TE):TS:=λD σ H=>te σ H D.rt
theorem Xj(he:PE X e te):PS X (.Return (some e) pos) (Xi te):=by
 intro pins s σ H D I h
 exact wpAny_Return_some (aP (he pins s σ H _ I h) λv s1 ⟨x,H1,I1,r1,q1⟩=>⟨x,σ,H1,I1,r1,q1⟩)
noncomputable def Xk(c:TT)(t u:TS):TS:=λD σ H=>c σ H λb H1=>if b=true then t D σ H1 else u D σ H1
theorem pQ{c:Expr}{a b:List Stmt}{tc:TT}(hc:PT X c tc)(ha:PSs X a t)(hb:PSs X b u):PS X (.If c a b pos) (Xk tc t u):=by
 intro pins s σ H D I h
 refine wpAny_If (aP (hc pins s σ H _ I h) λd s1 ⟨H1,I1,q1⟩=>?_)
 cases d with
 | true=>exact ha pins s1 σ H1 D I1 q1
 | false=>exact hb pins s1 σ H1 D I1 q1
noncomputable def Xl:TS:=λ_ _ _=>False
theorem pS:PS X st Xl:=λ_ _ _ _ _ _ h=>h.elim
end
noncomputable abbrev TG:=V->St->Hp->(St->Hp->Prop)->Prop
noncomputable abbrev pU:=List V->St->Hp->(St->Hp->Prop)->Prop
noncomputable def PG(X:Cx)(target:Expr)(t:TG):Prop :=
 ∀(pins:List (Addr × Obj)) (s:Shared) (σ:St) (H:Hp) (v:V) (u:Value) (Q:St->Hp->Prop),Inv X pins σ H s->RelV v u->t v σ H Q ->
  wpAny (model X.prog X.w) X.A (assign target X.env u) (λ_ s'=>∃aI H',Inv X pins aI H' s'/\Q aI H') X.xe s
noncomputable def Af(X:Cx)(ts:List Expr)(t:pU):Prop :=
 ∀(pins:List (Addr × Obj)) (s:Shared) (σ:St) (H:Hp) (vs:List V) (us:List Value) (Q:St->Hp->Prop),Inv X pins σ H s->Vals vs us->t vs σ H Q ->
  wpAny (model X.prog X.w) X.A (assignInOrder ((assignEach ts X.env).map (·.2)) us) (λ_ s'=>∃aI H',Inv X pins aI H' s'/\Q aI H') X.xe s
noncomputable abbrev DT:=V->V->V->Hp->(Hp->Prop)->Prop
noncomputable def NI(X:Cx)(t:DT):Prop :=
 ∀(pins:List (Addr × Obj)) (s:Shared) (σ:St) (H:Hp) (o i v:V) (ov iv u:Value) (Q:Hp->Prop),Inv X pins σ H s->RelV o ov->RelV i iv->RelV v u->t o i v H Q ->
  wpAny (model X.prog X.w) X.A (setItem ov iv u) (λ_ s'=>∃H',Inv X pins σ H' s'/\Q H') X.xe s
noncomputable abbrev DU:=V->V->Hp->VK->Prop
noncomputable def Xm(X:Cx)(op:Operator)(t:DU):Prop :=
 ∀(pins:List (Addr × Obj)) (s:Shared) (σ:St) (H:Hp) (x y:V) (v u:Value) (Q:VK),Inv X pins σ H s->RelV x v->RelV y u->t x y H Q ->
  wpAny (model X.prog X.w) X.A (inplaceOp op v u) (EP X pins σ Q) X.xe s
section
variable{X:Cx}{pos:Pos}
noncomputable def Ag(i:Nat):TG:=λv σ H Q=>Q (σ.set i (some v)) H
theorem Ah{i:Nat}{x:Str}(hN:X.N.Nodup)(hi:X.N[i]?=some x)(hx:Loc X.env.scope x)(hf:X.fn x=true\/X.env.scope.names.lookup x=some .local:=by first | exact .inl rfl | exact .inr rfl | assumption):PG X (.Name x pos) (Ag i):=by
 intro pins s σ H v u Q I r h
 exact wpAny_assign_Name (DS I hN hi hx r (λs' I'=>⟨_,H,I',h⟩) hf)
noncomputable def Xn:pU:=λvs σ H Q=>vs=[]/\Q σ H
noncomputable def Xo(t:TG)(u:pU):pU:=λvs σ H Q=>∃v r,vs=v::r/\t v σ H λaI H'=>u r aI H' Q
theorem Xp:Af X [] Xn:=by
 intro pins s σ H vs us Q I r h
 obtain⟨e,h⟩:=h
 subst e
 cases r
 exact assignInOrder_nil ⟨σ,H,I,h⟩
theorem NJ{e:Expr}{es:List Expr}{t:TG}{u:pU}(h1:PG X e t)(h2:Af X es u)
  (hs:(assignEach (e::es) X.env).map (·.2)=assign e X.env::(assignEach es X.env).map (·.2):=by rfl):Af X (e::es) (Xo t u):=by
 intro pins s σ H vs us Q I r h
 obtain⟨v,vr,e1,h⟩:=h
 subst e1
 cases r with
 | cons r rr =>
  rw[hs]
  refine assignInOrder_cons (aP (h1 pins s σ H _ _ _ I r h) λ_ s1 ⟨gL,H1,I1,q1⟩=>?_)
  exact h2 pins s1 gL H1 _ _ Q I1 rr q1
noncomputable def Xq(K:PySem.W.Frag)(n:Nat)(t:pU):TG:=λv σ H Q=>∃a xs,v=.ref a/\gX K H a xs/\xs.length=n/\t xs σ H Q
theorem Xr{es:List Expr}{k:Nat}{t:pU}{n:Nat}(hc:X.calm=true)(h:Af X es t)
  (hn:(assignEach es X.env).length=n:=by rfl) (cZ:(assignEach es X.env).findIdx? (·.1)=none:=by rfl):PG X (.Tuple es k pos) (Xq X.K n t):=by
 intro pins s σ H v u Q I r hw
 obtain⟨a,xs,e1,hq,hl,hw⟩:=hw
 subst e1
 cases r
 obtain⟨its,rv,ht,hz⟩:=I.tuple hq
 refine assign_Tuple_tuple (I.ok.hd hc) ht (by simp[hn,<- hl,rv.length]) cZ λh' hx=>?_
 have I1:Inv X pins σ H { s with heap:=h' }:=I.kept (t':=s.toks) λb o e=>hx b o (eZ (bP e)) e
 exact h pins _ σ H xs _ Q I1 (by simpa using rv) hw
noncomputable def Xs(to ti:TE)(t:DT):TG:=λv σ H Q=>to σ H λo H1=>ti σ H1 λi H2=>t o i v H2 λH3=>Q σ H3
theorem Xt{o i:Expr}{to ti:TE}{t:DT}(ho:PE X o to)(hi:PE X i ti)(hs:NI X t)
  (ha:∀v,assign (.Subscript o i pos) X.env v=(do
   let ov<-holding [v] (eval o X.env)
   let iv<-holding [v,ov] (eval i X.env)
   standAt pos
   holding [v,ov,iv] (setItem ov iv v)
   release [v,ov,iv] []):=by intro _;rfl):PG X (.Subscript o i pos) (Xs to ti t):=by
 intro pins s σ H v u Q I r h
 rw[ha]
 refine wpAny_bind (wpAny_holding (aP (ho pins s σ H _ I h) λov s1 ⟨x,H1,I1,r1,q1⟩=>?_))
 refine wpAny_bind (wpAny_holding (aP (hi pins s1 σ H1 _ I1 q1) λiv s2 ⟨y,H2,I2,r2,q2⟩=>?_))
 refine wpAny_bind (wpAny_standAt (wpAny_bind (wpAny_holding (aP (hs pins s2 σ H2 x y v ov iv u _ I2 r1 r2 r q2) λ_ s3 ⟨H3,I3,q3⟩=>?_))))
 exact wpAny_release ⟨σ,H3,I3,q3⟩
noncomputable def DV(te:TE)(g:TG):TS:=λD σ H=>te σ H λx H1=>g x σ H1 D.nx
theorem Xu{tg e:Expr}{te:TE}{g:TG}(he:PE X e te)(hg:PG X tg g)(hs:swapsWithSole [tg] e pos.line X.env=pure false:=by rfl)(hw:swappedStores [tg] e X.env=pure none:=by rfl)
  (h1:(assignEach [tg] X.env).map (·.2)=[assign tg X.env]:=by rfl):PS X (.Assign [tg] e pos) (DV te g):=by
 intro pins s σ H D I h
 refine wpAny_Assign_stores (aP (he pins s σ H _ I h) λv s1 ⟨x,H1,I1,r1,q1⟩=>?_) hs hw
 rw[h1]
 exact aP (hg pins s1 σ H1 x v _ I1 r1 q1) λ_ s2 q=>q
theorem DW{i:Nat}{x:Str}{e:Expr}{te:TE}{pos':Pos}(hN:X.N.Nodup)(hi:X.N[i]?=some x)(hx:Loc X.env.scope x)(he:PE X e te)(hs:swapsWith e (some (.Name x pos')) pos.line X.env=pure false:=by rfl)(hf:X.fn x=true\/X.env.scope.names.lookup x=some .local:=by first | exact .inl rfl | exact .inr rfl | assumption) :
  PS X (.Assign [.Name x pos'] e pos) (DV te (Ag i)):=by
 intro pins s σ H D I h
 refine wpAny_Assign_Name (aP (he pins s σ H _ I h) λv s1 ⟨y,H1,I1,r1,q1⟩=>?_) hs
 exact DS I1 hN hi hx r1 (λs2 I2=>⟨_,H1,I2,q1⟩) hf
noncomputable def Xv(i:Nat)(te:TE)(ti:DU):TS:=λD σ H=>∃x,σ[i]?=some (some x)/\te σ H λy H1=>ti x y H1 λz H2=>D.nx (σ.set i (some z)) H2
theorem Xw{i:Nat}{x:Str}{e:Expr}{te:TE}{op:Operator}{ti:DU}{pos':Pos}(hN:X.N.Nodup)(hi:X.N[i]?=some x)(hx:Loc X.env.scope x)(he:PE X e te)(ho:Xm X op ti)(hf:X.fn x=true\/X.env.scope.names.lookup x=some .local:=by first | exact .inl rfl | exact .inr rfl | assumption) :
  PS X (.AugAssign (.Name x pos') op e pos) (Xv i te ti):=by
 intro pins s σ H D I h
 obtain⟨v,e1,h⟩:=h
 obtain⟨m,hn,hl⟩:=I.loc
 have Xx:mC X.env.scope x:=by rcases hx with k | k;exact .inl k;exact .inr (.inl k)
 obtain⟨u,r,l⟩:=hl i x v hi e1 Xx
 refine wpAny_AugAssign_Name ?_
 have go:wpAny (model X.prog X.w) X.A (eval e X.env) (λw kj=>wpAny (model X.prog X.w) X.A (inplaceOp op u w) (λr Xy=>wpAny (model X.prog X.w) X.A (storeName X.env x r) (λ_=>SP X pins D .next) X.xe Xy) X.xe kj) X.xe s:=by
  refine aP (he pins s σ H _ I h) λw s1 ⟨y,H1,I1,r1,q1⟩=>?_
  refine aP (ho pins s1 σ H1 v y u w _ I1 r r1 q1) λz s2 ⟨zv,H2,I2,r2,q2⟩=>?_
  exact DS I2 hN hi hx r2 (λs3 I3=>⟨_,H2,I3,q2⟩) hf
 rcases l with⟨hk,hm⟩ | ⟨hk,c,hc,Aa⟩
 ·exact wpAny_loadName_local I.ok.kind hk hn hm go
 ·rcases hk with hk | hk
  ·exact wpAny_loadName_cell I.ok.kind hk hc Aa go
  ·rcases hx with k | k
   ·have:X.env.scope.names.lookup x=some .free:=hk
    rw[k]at this;cases this
   ·have:X.env.scope.names.lookup x=some .free:=hk
    rw[k]at this;cases this
end
section
variable{X:Cx}{pos:Pos}
noncomputable def Xz(c:TT)(tb:TS):TS:=λD σ H=>∃W:Nat->St->Hp->Prop,(∃m,W m σ H)/\∀m σ H,W m σ H ->
 c σ H λb H1=>if b=true then ∃N:St->Hp->Prop,(∀aI H',N aI H'->∃m',m'<m/\W m' aI H')/\tb { D with nx:=N,ct:=N,bk:=D.nx } σ H1 else D.nx σ H1
theorem XA{c:Expr}{body:List Stmt}{tc:TT}{tb:TS}(hp:PassesOwn (model X.prog X.w) X.A X.env X.xe)(hc:PT X c tc)(hb:PSs X body tb):PS X (.While c body [] pos) (Xz tc tb):=by
 intro pins s σ H D I h
 obtain⟨W,⟨m0,w0⟩,turn⟩:=h
 refine wpAny_While (codeAny_whileLoop (λn s'=>∃aI H',Inv X pins aI H' s'/\W n aI H') ?_ m0 ⟨σ,H,I,w0⟩)
 rintro n s1 ⟨gL,H1,I1,w1⟩
 refine wpAny_passesOwn hp (aP (hc pins s1 gL H1 _ I1 (turn n gL H1 w1)) λb s2 ⟨H2,I2,q2⟩=>?_)
 cases b with
 | true =>
  obtain⟨N,hN,q2⟩:=q2
  rw[if_pos rfl]
  refine wpAny_passesOwn hp (aP (hb pins s2 gL H2 _ I2 q2) λf s3 q3=>?_)
  cases f with
  | next =>
   obtain⟨km,H3,I3,n3⟩:=q3
   obtain⟨m',hm,w3⟩:=hN km H3 n3
   exact⟨m',hm,km,H3,I3,w3⟩
  | cont =>
   obtain⟨km,H3,I3,n3⟩:=q3
   obtain⟨m',hm,w3⟩:=hN km H3 n3
   exact⟨m',hm,km,H3,I3,w3⟩
  | brk=>exact q3
  | ret v=>exact q3
 | false =>
  rw[if_neg ir]
  exact wpAny_execs_nil ⟨gL,H2,I2,q2⟩
end
structure It where
 go:Nat->Hp->Prop
 jS:Nat->Hp->V->Hp->Prop
 stop:Nat->Hp->Prop
noncomputable def iQ(X:Cx)(pins:List (Addr × Obj))(H:Hp)(b:Addr):Prop :=
 H b=none/\b≠X.env.locals/\b ∉ X.fs/\(b∈X.ex\/X.cJ.heap.objs.size<=b)/\(∀x c,X.env.cells.lookup x=some c->c≠b)/\∀p∈X.pn++pins,p.1≠b
theorem Inv.Ai{X:Cx}{pins:List (Addr × Obj)}{σ:St}{H H':Hp}{s:Shared}{b:Addr}(I:Inv X pins σ H s)(hb:s.heap.objs.size<=b)(hn:H' b=none):iQ X pins H' b:=by
 refine⟨hn,MQ (de I.lt hb),I.Nz hb,.inr (fg I.sz hb),λx c e z=>?_,λp hp z=>?_⟩
 ·obtain⟨v,q⟩:=I.cell x c e
  exact absurd (de q.lt (by rw[z];exact hb)) (gw _)
 ·exact absurd (de (bP (I.pin p hp).1) (by rw[z];exact hb)) (gw _)
structure Turn(P:Program)(w:World)(K:PySem.W.Frag)(tg:Expr)(J:It)(fp:List Addr)(it:Addr)(tn:Nat->Heap->Prop):Prop where
 mem:it∈fp
 obj:∀i h,tn i h->∀b∈fp,∃o,h.get? b=some o/\∀v,o.data≠.cell v
 keep:∀i h h',tn i h->(∀b∈fp,∀o,h.get? b=some o->h'.get? b=some o)->tn i h'
 item:∀(X:Cx),X.prog=P->X.w=w->X.K=K->X.calm=true->∀(i:Nat) (pins:List (Addr × Obj)) (s:Shared) (σ:St) (H:Hp) (E:Value->Shared->Prop),Inv X pins σ H s->(∀b∈fp,iQ X pins H b)->tn i s.heap->J.go i H ->
  wpAny (model P w) X.A (pyNext (.ref it)) (λr s1=>∃u,r=some u /\
   wpAny (model P w) X.A (letOwnedTupleGo tg (.ref it) u) (λ_ s2=>∃x H',Inv X pins σ H' s2/\RelV x u/\J.jS i H x H'/\tn (i+1) s2.heap/\∀b∈fp,H' b=none) E s1) E s
 done:∀(X:Cx),X.prog=P->X.w=w->X.K=K->X.calm=true->∀(i:Nat) (pins:List (Addr × Obj)) (s:Shared) (σ:St) (H:Hp) (E:Value->Shared->Prop),Inv X pins σ H s->(∀b∈fp,iQ X pins H b)->tn i s.heap->J.stop i H ->
  wpAny (model P w) X.A (pyNext (.ref it)) (λr s1=>r=none/\Inv X pins σ H s1) E s
 self:∀(A:Around) (i:Nat) (s:Shared) (Q:Value->Shared->Prop) (E:Value->Shared->Prop),tn i s.heap->Q (.ref it) s->wpAny (model P w) A (pyIter (.ref it)) Q E s
noncomputable abbrev TI:=St->Hp->(It->Hp->Prop)->Prop
noncomputable def NK(X:Cx)(pins:List (Addr × Obj))(σ:St)(tg:Expr)(R:It->Hp->Prop)(DX:Value)(s2:Shared):Prop :=
 ∃(it:Addr) (fp:List Addr) (tn:Nat->Heap->Prop) (J:It) (H':Hp),DX=.ref it/\Inv X pins σ H' s2/\Turn X.prog X.w X.K tg J fp it tn/\tn 0 s2.heap/\(∀b∈fp,iQ X pins H' b)/\R J H'
noncomputable def PI(X:Cx)(tg iter:Expr)(wi:TI):Prop :=
 ∀(pins:List (Addr × Obj)) (s:Shared) (σ:St) (H:Hp) (R:It->Hp->Prop),Inv X pins σ H s->wi σ H R ->
  wpAny (model X.prog X.w) X.A (eval iter X.env) (λv s1=>wpAny (model X.prog X.w) X.A (pyIter v) (NK X pins σ tg R) X.xe s1) X.xe s
theorem NL{M:Model}{A:Around}{E:Value->Shared->Prop}{s:Shared}{tg:Expr}{it:Addr}{u:Value}{o:Obj}{n:String}{vs:Array Value}{Q:Unit->Shared->Prop}(ho:s.heap.get? it=some o)(hc:o.cls=.type n)(hd:o.data=.fields vs)
  (hn:["enumerate","zip","dict_itemiterator","dict_reverseitemiterator","odict_iterator","itertools.zip_longest","itertools.pairwise"].contains n=false) (hQ:Q () s):wpAny M A (letOwnedTupleGo tg (.ref it) u) Q E s:=by
 unfold letOwnedTupleGo
 cases tg<;>first
  | exact wpAny_pure hQ
  | (cases u<;>first
    | exact wpAny_pure hQ
    | (refine wpAny_bind (wpAny_load ho ?_)
       rw[hc,hd]
       show wpAny M A (if(["enumerate","zip","dict_itemiterator","dict_reverseitemiterator","odict_iterator","itertools.zip_longest","itertools.pairwise"].contains n&&vs[0]?==some (rawInt _))=true then _ else _) Q E s
       rw[if_neg (by intro h;rw[hn,rR]at h;cases h)]
       exact wpAny_pure hQ))
noncomputable def DY(K:PySem.W.Frag)(a:Addr):It :=
 ⟨λi H=>∃xs x,bM K H a xs/\xs[i]?=some x,λi H x H'=>H'=H/\∀xs,bM K H a xs->xs[i]?=some x,λi H=>∃xs,bM K H a xs/\xs.length<=i⟩
noncomputable def wo(lo:Int)(n:Nat):It:=⟨λi _=>i<n,λi H x H'=>H'=H/\x=.int (lo+i),λi _=>n<=i⟩
theorem XB{P:Program}{w:World}{K:PySem.W.Frag}{tg:Expr}(a it:Addr):Turn P w K tg (DY K a) [it] it (λi h=>h.IsListIter it a i) where
 mem:=by simp
 obj:=λi h st b hb=>by
  have e:b=it:=by simpa using hb
  subst e
  obtain⟨o,e,c,d⟩:=st
  exact⟨o,e,λv z=>by rw[d]at z;cases z⟩
 keep:=λi h h' st k=>st.at λo e=>k it (by simp) o e
 item:=by
  intro X hP hw hK hc i pins s σ H E I hf st hg
  subst hP hw hK
  obtain⟨xs,x,hq,hx⟩:=hg
  obtain⟨its,rv,p,hz⟩:=I.list hq
  obtain⟨u,hu,ru⟩:=rv.get hx
  obtain⟨f0,f1,f2,f3,f4,f5⟩:=hf it (by simp)
  refine wpAny_pyNext_list_item st p.isList (x:=u) (by simpa using hu) λh' nM sb=>?_
  have I1:Inv X pins σ H { s with heap:=h' }:=I.turned (t':=s.toks) (λb o hb e=>(sb.2 b hb).trans e) f0 f1 f3 f4 f5
  obtain⟨o,e,c,d⟩:=id nM
  exact⟨u,rfl,NL (s:={ s with heap:=h' }) e c d (by decide) ⟨x,H,I1,ru,⟨rfl,λys hy=>by rw[I.Ae hy hq];exact hx⟩,nM,λb hb=>(hf b hb).1⟩⟩
 done:=by
  intro X hP hw hK hc i pins s σ H E I hf st hg
  subst hP hw hK
  obtain⟨xs,hq,hx⟩:=hg
  obtain⟨its,rv,p,hz⟩:=I.list hq
  obtain⟨f0,f1,f2,f3,f4,f5⟩:=hf it (by simp)
  have hl:=rv.length
  exact wpAny_pyNext_list_end (I.ok.hd hc) st p.isList (by simp;omega) λh' eb=>⟨rfl,I.turned (t':=s.toks) (λb o hb e=>eb b o hb e) f0 f1 f3 f4 f5⟩
 self:=λ_ _ _ _ _ st h=>wpAny_pyIter_listiter st h
theorem XC{P:Program}{w:World}{K:PySem.W.Frag}{tg:Expr}(it:Addr)(lo:Int)(n:Nat):Turn P w K tg (wo lo n) [it] it (λi h=>IsRangeIter h it (lo+(i:Nat)*1) ((n:Int)-(i:Nat)) 1) where
 mem:=by simp
 obj:=λi h st b hb=>by
  have e:b=it:=by simpa using hb
  subst e
  exact⟨_,st,λv z=>by
   have z':Data.fields _=Data.cell v:=z
   cases z'⟩
 keep:=λi h h' st k=>k it (by simp) _ st
 item:=by
  intro X hP hw hK hc i pins s σ H E I hf st hg
  subst hP hw hK
  obtain⟨f0,f1,f2,f3,f4,f5⟩:=hf it (by simp)
  have W:=Walks.range (prog:=X.prog) (w:=X.w) (I.ok.hd hc) it lo 1 n
  refine W.item i s _ _ hg st λv h' tk hv nM kk=>?_
  obtain⟨t,rfl⟩:=hv
  have I1:Inv X pins σ H { s with heap:=h',toks:=tk }:=I.turned (λb o hb e=>kk b o (by simpa using hb) e) f0 f1 f3 f4 f5
  refine⟨_,rfl,NL (s:={ s with heap:=h',toks:=tk }) (n:="range_iterator") nM rfl rfl (by decide) ⟨.int (lo+i),H,I1,⟨t,?_⟩,⟨rfl,rfl⟩,nM,λb hb=>(hf b hb).1⟩⟩
  rw[Int.mul_one]
 done:=by
  intro X hP hw hK hc i pins s σ H E I hf st hg
  subst hP hw hK
  obtain⟨f0,f1,f2,f3,f4,f5⟩:=hf it (by simp)
  exact wpAny_pyNext_range_end (I.ok.hd hc) st (by have:n<=i:=hg;omega) λh' eb=>⟨rfl,I.turned (t':=s.toks) (λb o hb e=>eb b o hb e) f0 f1 f3 f4 f5⟩
 self:=λ_ _ _ _ _ st h=>wpAny_pyIter_rangeiter st h
end L2
namespace L2
open PySem PySem.Spec PyProof.Rows
section
variable{X:Cx}{tg:Expr}
noncomputable def XD(K:PySem.W.Frag)(tl:TE):TI:=λσ H R=>tl σ H λx H1=>∃a,x=.ref a/\(∃xs,bM K H1 a xs)/\R (DY K a) H1
theorem NM{l:Expr}{tl:TE}(hl:PE X l tl):PI X tg l (XD X.K tl):=by
 intro pins s σ H R I h
 refine aP (hl pins s σ H _ I h) λv s1 ⟨x,H1,I1,r1,q1⟩=>?_
 obtain⟨a,e,⟨xs,hq⟩,q⟩:=q1
 subst e
 cases r1
 obtain⟨its,rv,p,hz⟩:=I1.list hq
 refine wpAny_pyIter_list p.isList ?_
 refine⟨s1.heap.objs.size,[s1.heap.objs.size],_,_,H1,rfl,I1.kept (t':=s1.toks) λb o e=>fu _ e,XB a _,⟨_,gx _ rfl,rfl,rfl⟩,λb hb=>?_,q⟩
 have e:b=s1.heap.objs.size:=by simpa using hb
 subst e
 exact I1.Ai (bK _) (I1.aJ.fresh (bK _))
theorem NN{pins:List (Addr × Obj)}{σ:St}{H:Hp}{s:Shared}{R:It->Hp->Prop}{E:Value->Shared->Prop}{lo hi:Int}{t u v:Tok}{tk:Nat}(I:Inv X pins σ H s)(h1:-(2 ^ 62)<=lo)(h2:lo<2 ^ 62)(h3:-(2 ^ 62)<=hi)(h4:hi<2 ^ 62)
  (q:R (wo lo (hi-lo).toNat) H):wpAny (model X.prog X.w) X.A (pyIter (.ref s.heap.objs.size)) (NK X pins σ tg R) E { s with heap:=s.heap.push { cls:=.type "range",data:=.fields #[.int lo t,.int hi u,.int 1 v] },toks:=tk }:=by
 refine wpAny_pyIter_range (IsRange.new ..) (small_one h1 h2 h3 h4) ?_
 have I1:Inv X pins σ H { s with heap:=s.heap.push { cls:=.type "range",data:=.fields #[.int lo t,.int hi u,.int 1 v] },toks:=tk }:=I.kept λb o e=>fu _ e
 refine⟨(s.heap.push { cls:=.type "range",data:=.fields #[.int lo t,.int hi u,.int 1 v] }).objs.size,[(s.heap.push { cls:=.type "range",data:=.fields #[.int lo t,.int hi u,.int 1 v] }).objs.size],_,_,H,rfl,
  I1.kept (t':=tk) λb o e=>fu _ e,XC _ lo (hi-lo).toNat,?_,λb hb=>?_,q⟩
 ·have e1:lo+((0:Nat):Int)*1=lo:=by simp
  have e2:(((hi-lo).toNat:Nat):Int)-((0:Nat):Int)=Builtin.Range.rangeSize lo hi 1:=by rw[rangeSize_one];split<;>omega
  show IsRangeIter _ _ (lo+((0:Nat):Int)*1) ((((hi-lo).toNat:Nat):Int)-((0:Nat):Int)) 1
  rw[e1,e2]
  exact gx _ rfl
 ·have e:b=(s.heap.push { cls:=.type "range",data:=.fields #[.int lo t,.int hi u,.int 1 v] }).objs.size:=by simpa using hb
  subst e
  exact I1.Ai (bK _) (I1.aJ.fresh (bK _))
noncomputable def XE(ta:TA):TI:=λσ H R=>ta σ H λvs H1=>∃j:Int,vs=[.int j]/\-(2 ^ 62)<=j/\j<2 ^ 62/\R (wo 0 j.toNat) H1
noncomputable def XF(ta:TA):TI:=λσ H R=>ta σ H λvs H1=>∃i j:Int,vs=[.int i,.int j]/\(-(2 ^ 62)<=i/\i<2 ^ 62/\-(2 ^ 62)<=j/\j<2 ^ 62)/\R (wo i (j-i).toNat) H1
theorem XG{a:Expr}{ta:TA}{p pos:Pos}(hg:Gl X "range")(hm:X.mg "range"=none)(ha:PA X [a] ta)(hs:starEach [a] X.env=[(false,eval a X.env)]:=by rfl):PI X tg (.Call (.Name "range" p) [a] [] pos) (XE ta):=by
 intro pins s σ H R I h
 refine Call_ (pM I hg hm boot_range (zA (aP (ha pos pins s σ H _ I h) λus s1 ⟨vs,H1,I1,r1,q1⟩=>?_) hs rfl))
 obtain⟨j,e,q1,q2,q⟩:=q1
 subst e
 cases r1 with
 | cons r rr =>
  cases rr
  obtain⟨t,rfl⟩:=r
  exact call_range_1 (NN I1 (by omega) (by omega) q1 q2 (by simpa using q))
theorem XH{a b:Expr}{ta:TA}{p pos:Pos}(hg:Gl X "range")(hm:X.mg "range"=none)(ha:PA X [a,b] ta)(hs:starEach [a,b] X.env=[(false,eval a X.env),(false,eval b X.env)]:=by rfl)(fi:starEach [b] X.env=[(false,eval b X.env)]:=by rfl) :
  PI X tg (.Call (.Name "range" p) [a,b] [] pos) (XF ta):=by
 intro pins s σ H R I h
 refine Call_ (pM I hg hm boot_range (zA (aP (ha pos pins s σ H _ I h) λus s1 ⟨vs,H1,I1,r1,q1⟩=>?_) (by rw[hs,fi]) (by rw[fi];rfl)))
 obtain⟨i,j,e,⟨q1,q2,q3,q4⟩,q⟩:=q1
 subst e
 cases r1 with
 | cons r rr =>
  cases rr with
  | cons r' rr =>
   cases rr
   obtain⟨t,rfl⟩:=r
   obtain⟨t',rfl⟩:=r'
   exact call_range_2 (NN I1 q1 q2 q3 q4 q)
noncomputable def XI(wi:TI)(g:TG)(tb:TS):TS:=λD σ H=>wi σ H λJ H1=>∃W:Nat->Nat->St->Hp->Prop,(∃m,W 0 m σ H1)/\∀i m σ H,W i m σ H ->
 (J.stop i H/\D.nx σ H)\/(J.go i H/\∃N:St->Hp->Prop,(∀aI H',N aI H'->∃m',m'<m/\W (i+1) m' aI H')/\∀x H',J.jS i H x H'->g x σ H' λkZ H2=>tb { D with nx:=N,ct:=N,bk:=D.nx } kZ H2)
noncomputable def wq(fp:List Addr)(h:Heap):List (Addr × Obj):=fp.filterMap λb=>(h.get? b).map λo=>(b,o)
theorem Aj{fp:List Addr}{h:Heap}{b:Addr}{o:Obj}(hb:b∈fp)(e:h.get? b=some o):(b,o)∈wq fp h:=Wc.mpr ⟨b,hb,by rw[e];rfl⟩
theorem XJ{fp:List Addr}{h:Heap}{p:Addr × Obj}(hp:p∈wq fp h):p.1∈fp/\h.get? p.1=some p.2:=by
 obtain⟨b,hb,e⟩:=Wc.mp hp
 cases q:h.get? b with
 | none=>rw[q]at e;cases e
 | some o =>
  rw[q]at e
  have e':(b,o)=p:=cO e
  subst e'
  exact⟨hb,q⟩
theorem Inv.pinned{pins:List (Addr × Obj)}{σ:St}{H:Hp}{s:Shared}{fp:List Addr}(I:Inv X pins σ H s)(hf:∀b∈fp,iQ X pins H b)(ho:∀b∈fp,∃o,s.heap.get? b=some o/\∀v,o.data≠.cell v):Inv X (pins++wq fp s.heap) σ H s :=
 I.NA λp hp=>(cj.mp hp).elim (λz=>I.pin p (cW _ z)) λz=>by
  obtain⟨hb,e⟩:=XJ z
  obtain⟨f0,f1,f2,_⟩:=hf p.1 hb
  obtain⟨o,e',d⟩:=ho p.1 hb
  rw[e]at e';cases e'
  exact⟨e,f0,f1,f2,d⟩
theorem Inv.wt{pins pl:List (Addr × Obj)}{σ:St}{H:Hp}{s:Shared}(I:Inv X (pins++pl) σ H s):Inv X pins σ H s:=I.NA λp hp=>I.pin p (cW _ (eR _ hp))
theorem XM{iter:Expr}{body:List Stmt}{wi:TI}{g:TG}{tb:TS}{pos:Pos}(hp:PassesOwn (model X.prog X.w) X.A X.env X.xe)(hc:X.calm=true)(hi:PI X tg iter wi)(hg:PG X tg g)(hb:PSs X body tb)
  (hs:∀x,foldedSetIterable iter X.env x=pure x:=by intro _;rfl):PS X (.For tg iter body [] pos) (XI wi g tb):=by
 intro pins s σ H D I h
 refine wpAny_For (aP (hi pins s σ H _ I h) λv s1 h1=>aP h1 λDX s2 h2=>?_) hs
 obtain⟨it,fp,tn,J,H2,e,I2,T,nN,f2,W,⟨m0,w0⟩,turn⟩:=h2
 subst e
 have DZ:∀{H':Hp},(∀b∈fp,H' b=none)->∀b∈fp,iQ X pins H' b:=λhn b hb=>⟨hn b hb,(f2 b hb).2⟩
 refine codeAny_forLoop_any (λn s'=>∃i aI H',Inv X pins aI H' s'/\tn i s'.heap/\(∀b∈fp,H' b=none)/\W i n aI H') ?_ m0 ⟨0,σ,H2,I2,nN,λb hb=>(f2 b hb).1,w0⟩
 rintro n s3 ⟨i,km,H3,I3,NO,D0,w3⟩
 rcases turn i n km H3 w3 with⟨stop,qn⟩ | ⟨go,N,hN,step⟩
 ·refine wpAny_passesOwn hp (aP (T.done X rfl rfl rfl hc i pins s3 km H3 X.xe I3 (DZ D0) NO stop) λr s4 ⟨hr,I4⟩=>?_)
  subst hr
  exact wpAny_execs_nil ⟨km,H3,I4,qn⟩
 ·refine wpAny_passesOwn hp (aP (T.item X rfl rfl rfl hc i pins s3 km H3 X.xe I3 (DZ D0) NO go) λr s4 ⟨u,hr,h4⟩=>?_)
  subst hr
  refine wpAny_passesOwn hp (aP h4 λ_ s5 ⟨x,H5,I5,r5,y5,pV,wu⟩=>?_)
  have D1:=I5.pinned (DZ wu) (T.obj _ _ pV)
  refine wpAny_passesOwn hp (aP (hg _ s5 km H5 x u _ D1 r5 (step x H5 y5)) λ_ s6 ⟨D2,H6,I6,q6⟩=>?_)
  refine wpAny_passesOwn hp (aP (hb _ s6 D2 H6 _ I6 q6) λf s7 q7=>?_)
  have again:∀{kn:St} {H7:Hp},Inv X (pins++wq fp s5.heap) kn H7 s7->N kn H7->∃m,m<n/\∃i aI H',Inv X pins aI H' s7/\tn i s7.heap/\(∀b∈fp,H' b=none)/\W i m aI H':=λ{kn H7} I7 n7=>by
   obtain⟨m',hm,w7⟩:=hN kn H7 n7
   refine⟨m',hm,i+1,kn,H7,I7.wt,T.keep _ _ _ pV λb hb o e=>(I7.pin (b,o) (cW _ (cW _ (Aj hb e)))).1,λb hb=>?_,w7⟩
   obtain⟨o,e,d⟩:=T.obj _ _ pV b hb
   exact(I7.pin (b,o) (cW _ (cW _ (Aj hb e)))).2.1
  cases f with
  | next=>obtain⟨kn,H7,I7,n7⟩:=q7;exact again I7 n7
  | cont=>obtain⟨kn,H7,I7,n7⟩:=q7;exact again I7 n7
  | brk=>obtain⟨kn,H7,I7,q7⟩:=q7;exact⟨kn,H7,I7.wt,q7⟩
  | ret v=>obtain⟨x7,kn,H7,I7,r7,q7⟩:=q7;exact⟨x7,kn,H7,I7.wt,r7,q7⟩
end
end L2
namespace L2
open PySem PySem.Spec PyProof.Rows
noncomputable abbrev R2:=V->V->Hp->VK->Prop
noncomputable def cu(X:Cx)(f:Value->Value->Sem Value)(r:R2):Prop :=
 ∀(pins:List (Addr × Obj)) (s:Shared) (σ:St) (H:Hp) (x y:V) (v u:Value) (Q:VK),Inv X pins σ H s->RelV x v->RelV y u->r x y H Q ->
  wpAny (model X.prog X.w) X.A (f v u) (EP X pins σ Q) X.xe s
noncomputable def D3(X:Cx)(f:Value->Sem Value)(r:V->Hp->VK->Prop):Prop :=
 ∀(pins:List (Addr × Obj)) (s:Shared) (σ:St) (H:Hp) (x:V) (v:Value) (Q:VK),Inv X pins σ H s->RelV x v->r x H Q ->
  wpAny (model X.prog X.w) X.A (f v) (EP X pins σ Q) X.xe s
noncomputable def fZ(X:Cx)(f:Value)(r:List V->Hp->VK->Prop):Prop :=
 ∀(pins:List (Addr × Obj)) (s:Shared) (σ:St) (H:Hp) (xs:List V) (us:List Value) (Q:VK),Inv X pins σ H s->Vals xs us->r xs H Q ->
  wpAny (model X.prog X.w) X.A (call f us) (EP X pins σ Q) X.xe s
noncomputable def wz(r:R2)(ta tb:TE):TE:=λσ H Q=>ta σ H λx H1=>tb σ H1 λy H2=>r x y H2 Q
noncomputable def XN(r:V->Hp->VK->Prop)(ta:TE):TE:=λσ H Q=>ta σ H λx H1=>r x H1 Q
noncomputable def rI(C:Int->Int->Prop)(g:Int->Int->V):R2:=λx y H Q=>∃i j,x=.int i/\y=.int j/\C i j/\Q (g i j) H
noncomputable def jo(g:Int->Int->V):R2:=λx y H Q=>∃i j,x=.int i/\y=.int j/\Q (g i j) H
noncomputable def rU(g:Int->V):V->Hp->VK->Prop:=λx H Q=>∃i,x=.int i/\Q (g i) H
section
variable{X:Cx}{a b c:Expr}{ta tb tc:TE}{pos:Pos}
theorem D4(ha:PE X a ta)(hb:PE X b tb){pins:List (Addr × Obj)}{s:Shared}{σ:St}{H:Hp}{R:V->V->Hp->Prop}(I:Inv X pins σ H s)
  (h:ta σ H λx H1=>tb σ H1 λy H2=>R x y H2) {Q:Value->Shared->Prop} {f:Value->Value->Sem Value}
  (hf:∀v u s2 x y H2,Inv X pins σ H2 s2->RelV x v->RelV y u->R x y H2->wpAny (model X.prog X.w) X.A (f v u) Q X.xe s2) :
  wpAny (model X.prog X.w) X.A (eval a X.env) (λv bB=>wpAny (model X.prog X.w) X.A (eval b X.env) (λu kj=>wpAny (model X.prog X.w) X.A (f v u) Q X.xe kj) X.xe bB) X.xe s:=by
 refine aP (ha pins s σ H _ I h) λv s1 ⟨x,H1,I1,r1,q1⟩=>?_
 refine aP (hb pins s1 σ H1 _ I1 q1) λu s2 ⟨y,H2,I2,r2,q2⟩=>?_
 exact hf v u s2 x y H2 I2 r1 r2 q2
theorem wA{op:Operator}{r:R2}(ho:cu X (binaryOp op) r)(ha:PE X a ta)(hb:PE X b tb):PE X (.BinOp a op b pos) (wz r ta tb):=by
 intro pins s σ H Q I h
 exact wpAny_BinOp (D4 ha hb I h λv u s2 x y H2 I2 rx ry q=>ho pins s2 σ H2 x y v u Q I2 rx ry q)
theorem XO{op:UnaryOp}{r:V->Hp->VK->Prop}(ho:D3 X (unaryOp op) r)(ha:PE X a ta):PE X (.UnaryOp op a pos) (XN r ta):=by
 intro pins s σ H Q I h
 exact UnaryOp_ (aP (ha pins s σ H _ I h) λv s1 ⟨x,H1,I1,r1,q1⟩=>ho pins s1 σ H1 x v Q I1 r1 q1)
theorem wB{f:Value->Value->Sem Value}{C:Int->Int->Prop}{g:Int->Int->Int}
  (rule:∀(i j:Int) (t u:Tok) (s:Shared) (Q:Value->Shared->Prop) (E:Value->Shared->Prop),C i j->Q (.int (g i j) s.toks) { s with toks:=s.toks+1 }->wpAny (model X.prog X.w) X.A (f (.int i t) (.int j u)) Q E s) :
  cu X f (rI C λi j=>.int (g i j)):=by
 intro pins s σ H x y v u Q I rx ry h
 obtain⟨i,j,rfl,rfl,hc,q⟩:=h
 obtain⟨t,rfl⟩:=rx
 obtain⟨t',rfl⟩:=ry
 exact rule i j t t' s _ _ hc ⟨.int (g i j),H,I.tok _,⟨_,rfl⟩,q⟩
theorem sN{f:Value->Value->Sem Value}{g:Int->Int->Int}
  (rule:∀(i j:Int) (t u:Tok) (s:Shared) (Q:Value->Shared->Prop) (E:Value->Shared->Prop),Q (.int (g i j) s.toks) { s with toks:=s.toks+1 }->wpAny (model X.prog X.w) X.A (f (.int i t) (.int j u)) Q E s) :
  cu X f (jo λi j=>.int (g i j)):=by
 intro pins s σ H x y v u Q I rx ry h
 obtain⟨i,j,rfl,rfl,q⟩:=h
 obtain⟨t,rfl⟩:=rx
 obtain⟨t',rfl⟩:=ry
 exact rule i j t t' s _ _ ⟨.int (g i j),H,I.tok _,⟨_,rfl⟩,q⟩
theorem Ak{f:Value->Value->Sem Value}{g:Int->Int->Bool}
  (rule:∀(i j:Int) (t u:Tok) (s:Shared) (Q:Value->Shared->Prop) (E:Value->Shared->Prop),Q (.bool (g i j)) s->wpAny (model X.prog X.w) X.A (f (.int i t) (.int j u)) Q E s) :
  cu X f (jo λi j=>.bl (g i j)):=by
 intro pins s σ H x y v u Q I rx ry h
 obtain⟨i,j,rfl,rfl,q⟩:=h
 obtain⟨t,rfl⟩:=rx
 obtain⟨t',rfl⟩:=ry
 exact rule i j t t' s _ _ ⟨.bl (g i j),H,I,rfl,q⟩
noncomputable def gY(i j:Int):Prop:=(-(2 ^ 64)<i/\i<2 ^ 64)\/(-(2 ^ 64)<j/\j<2 ^ 64)
theorem gY.ok{i j:Int}(h:gY i j):IntMulOk i j:=by
 rcases h with⟨h1,h2⟩ | ⟨h1,h2⟩
 ·exact .of_left (intBits_le_64 h1 h2)
 ·exact .of_right (intBits_le_64 h1 h2)
theorem XQ(k:Nat):(0:Int)<=2 ^ k:=by
 rw[two_pow_cast]
 exact MR _
theorem XR:cu X (binaryOp .Add) (jo λi j=>.int (i+j)):=sN λ_ _ _ _ _ _ _ q=>add_int q
theorem D6:cu X (binaryOp .Sub) (jo λi j=>.int (i-j)):=sN λ_ _ _ _ _ _ _ q=>sub_int q
theorem XS:cu X (binaryOp .Mod) (rI (λ_ j=>0<j) λi j=>.int (i%j)):=wB λi j _ _ _ _ _ hc q=>by
 have h1:(0:Int)<j:=hc
 exact mod_int' (by omega) (by rw[Int.fmod_eq_emod_of_nonneg i (by omega)];exact q)
theorem XT:cu X (binaryOp .RShift) (rI (λ_ j=>0<=j) λi j=>.int (i/2 ^ j.toNat)):=wB λi j _ _ _ _ _ hc q =>
 rshift_int hc (by rw[Wd i (XQ _)];exact q)
theorem XU:cu X (binaryOp .BitAnd) (jo λi j=>.int (nD i j)):=sN λ_ _ _ _ _ _ _ q=>and_int q
theorem XW:cu X (binaryOp .BitXor) (jo λi j=>.int (nE i j)):=sN λ_ _ _ _ _ _ _ q=>xor_int q
theorem XX:cu X (inplaceOp .Add) (jo λi j=>.int (i+j)):=sN λ_ _ _ _ _ _ _ q=>iadd_int q
theorem XY:cu X (inplaceOp .BitXor) (jo λi j=>.int (nE i j)):=sN λ_ _ _ _ _ _ _ q=>ixor_int q
theorem XZ{f:Value->Sem Value}{g:Int->Int}
  (rule:∀(i:Int) (t:Tok) (s:Shared) (Q:Value->Shared->Prop) (E:Value->Shared->Prop),Q (.int (g i) s.toks) { s with toks:=s.toks+1 }->wpAny (model X.prog X.w) X.A (f (.int i t)) Q E s) :
  D3 X f (rU λi=>.int (g i)):=by
 intro pins s σ H x v Q I rx h
 obtain⟨i,rfl,q⟩:=h
 obtain⟨t,rfl⟩:=rx
 exact rule i t s _ _ ⟨.int (g i),H,I.tok _,⟨_,rfl⟩,q⟩
theorem X0:D3 X (unaryOp .USub) (rU λi=>.int (-i)):=XZ λ_ _ _ _ _ q=>neg_int q
end
section
variable{X:Cx}{a b c:Expr}{ta tb tc:TE}{pos:Pos}
theorem NP{pins:List (Addr × Obj)}{σ:St}{H:Hp}{s:Shared}{Q:VK}{k k':Bool}(I:Inv X pins σ H s)(q:Q (.bl k) H)(e:k=k'):EP X pins σ Q (.bool k') s:=by
 subst e
 exact⟨.bl k,H,I,rfl,q⟩
theorem NQ:cu X (compareOp .Lt) (jo λi j=>.bl (decide (i<j))):=Ak λ_ _ _ _ _ _ _ q=>lt_int q
theorem X1:cu X (compareOp .LtE) (jo λi j=>.bl (decide (i<=j))):=Ak λ_ _ _ _ _ _ _ q=>le_int q
theorem NR:cu X (compareOp .Gt) (jo λi j=>.bl (decide (j<i))):=Ak λ_ _ _ _ _ _ _ q=>gt_int q
theorem X2:cu X (compareOp .GtE) (jo λi j=>.bl (decide (j<=i))):=Ak λ_ _ _ _ _ _ _ q=>ge_int q
theorem X3:cu X (compareOp .IsNot) (λx y H Q=>y=.au/\Q (.bl (!decide (x=.au))) H):=by
 intro pins s σ H x y v u Q I rx ry h
 obtain⟨rfl,q⟩:=h
 cases ry
 refine isnot_none_gen (NP I q ?_)
 cases x<;>first
  | (cases rx;rfl)
  | (obtain⟨t,rfl⟩:=rx;rfl)
theorem cu.or{f:Value->Value->Sem Value}{r r':R2}(h:cu X f r)(h':cu X f r'):cu X f (λx y H Q=>r x y H Q\/r' x y H Q):=by
 intro pins s σ H x y v u Q I rx ry q
 rcases q with q | q
 ·exact h pins s σ H x y v u Q I rx ry q
 ·exact h' pins s σ H x y v u Q I rx ry q
theorem bG(b:Expr){op:CmpOp}(h:op≠.In:=by decide)(h2:op≠.NotIn:=by decide):behindInMarks op b=false:=by
 have e1:(op==CmpOp.In)=false:=by cases op<;>first | rfl | exact absurd rfl h
 have e2:(op==CmpOp.NotIn)=false:=by cases op<;>first | rfl | exact absurd rfl h2
 cases b<;>simp[behindInMarks,e1,e2]
theorem X4{op:CmpOp}{r:R2}(ho:cu X (compareOp op) r)(ha:PE X a ta)(hb:PE X b tb)(hm:behindInMarks op b=false):PE X (.Compare a [op] [b] pos) (wz r ta tb):=by
 intro pins s σ H Q I h
 exact wpAny_Compare1 (D4 ha hb I h λv u s2 x y H2 I2 rx ry q=>ho pins s2 σ H2 x y v u Q I2 rx ry q) hm
noncomputable def NS(t:TE):TT:=λσ H Q=>t σ H λx H'=>∃k,x=.bl k/\Q k H'
theorem D7{op:CmpOp}{r:R2}(ho:cu X (compareOp op) r)(ha:PE X a ta)(hb:PE X b tb)(hm:behindInMarks op b=false):PT X (.Compare a [op] [b] pos) (NS (wz r ta tb)):=by
 intro pins s σ H Q I h
 refine wpAny_isTrue_Compare1 (aP (ha pins s σ H _ I h) λv s1 ⟨x,H1,I1,r1,q1⟩=>aP (hb pins s1 σ H1 _ I1 q1) λu s2 ⟨y,H2,I2,r2,q2⟩ =>
  aP (ho pins s2 σ H2 x y v u _ I2 r1 r2 q2) λc s3 ⟨z,H3,I3,r3,k,e,q3⟩=>?_) hm
 subst e
 cases r3
 exact wpAny_truthy_bool ⟨H3,I3,q3⟩
noncomputable def NT(r r':R2)(ta tb tc:TE):TE:=λσ H Q=>ta σ H λx H1=>tb σ H1 λy H2=>r x y H2 λz H3=>∃k,z=.bl k /\
 (if k=true then tc σ H3 λw' H4=>r' y w' H4 Q else Q (.bl false) H3)
theorem X5{op pW:CmpOp}{r r':R2}(ho:cu X (compareOp op) r)(ki:cu X (compareOp pW) r')(ha:PE X a ta)(hb:PE X b tb)(hc:PE X c tc)
  (hm:lastMarks [op,pW] [b,c]=false:=by with_unfolding_all rfl):PE X (.Compare a [op,pW] [b,c] pos) (NT r r' ta tb tc):=by
 intro pins s σ H Q I h
 refine Compare_chain (aP (ha pins s σ H _ I h) λv s1 ⟨x,H1,I1,r1,q1⟩=>chain_link (aP (hb pins s1 σ H1 _ I1 q1) λu s2 ⟨y,H2,I2,r2,q2⟩ =>
  aP (ho pins s2 σ H2 x y v u _ I2 r1 r2 q2) λd s3 ⟨z,H3,I3,r3,k,e,q3⟩=>?_)) hm
 subst e
 cases r3
 refine wpAny_truthy_bool ?_
 cases k with
 | false=>exact ite_ff ⟨.bl false,H3,I3,rfl,q3⟩
 | true=>exact ite_tt (chain_last (aP (hc pins s3 σ H3 _ I3 q3) λw' s4 ⟨z',H4,I4,r4,q4⟩=>ki pins s4 σ H4 y z' u w' Q I4 r2 r4 q4))
theorem sO:(sizeLine:Nat)<2 ^ 63:=by rw[sizeLine_eq];decide
theorem X6:cu X (binaryOp .Add) (λx y H Q=>∃i j,x=.str i/\y=.str j/\i.length+j.length<=sizeLine/\Q (.str (i++j)) H):=by
 intro pins s σ H x y v u Q I rx ry h
 obtain⟨i,j,rfl,rfl,hz,q⟩:=h
 obtain⟨t,rfl⟩:=rx
 obtain⟨t',rfl⟩:=ry
 exact add_str (λt' tk=>⟨.str (i++j),H,I.tok _,⟨_,rfl⟩,q⟩) hz
theorem D8{x:V}{us:List Value}(r:Vals [x] us):∃u,us=[u]/\RelV x u:=by
 cases r with
 | cons r1 r2=>cases r2;exact⟨_,rfl,r1⟩
theorem X7{x y:V}{us:List Value}(r:Vals [x,y] us):∃u w',us=[u,w']/\RelV x u/\RelV y w':=by
 cases r with
 | cons r1 r2 =>
  cases r2 with
  | cons r3 r4=>cases r4;exact⟨_,_,rfl,r1,r3⟩
theorem X8(hc:X.calm=true):fZ X (.builtin "min") (λxs H Q=>∃i j,xs=[.int i,.int j]/\Q (.int (if j<i then j else i)) H):=by
 intro pins s σ H xs us Q I r h
 obtain⟨i,j,rfl,q⟩:=h
 obtain⟨u,w',rfl,⟨t,rfl⟩,⟨t',rfl⟩⟩:=X7 r
 refine min_two_ints (I.ok.hd hc) λh' tk k=>⟨_,H,I.kept k,?_,q⟩
 by_cases hj:j<i
 ·rw[if_pos hj,if_pos hj];exact⟨_,rfl⟩
 ·rw[if_neg hj,if_neg hj];exact⟨_,rfl⟩
end
end L2
namespace L2
open PySem PySem.Spec PyProof.Rows
structure pX(h:Heap)(x dx C:Addr)(mA:Str->Option Value):Prop where
 obj:h.get? x=some (PySem.W.instObj C dx)
 ns:h.Ns1 dx mA
 ne:dx≠x
theorem X9{h:Heap}{dx:Addr}{mA:Str->Option Value}(n:h.Ns1 dx mA):∃od,h.get? dx=some od/\∀name,PySem.W.lookIn name od=some (mA name):=by
 obtain⟨o,es,ep,ho,hd,hk,_,hm⟩:=n
 refine⟨o,ho,λname=>?_⟩
 have e:=hm name
 unfold nsFind findBy at e
 rw[<-Array.find?_toList]at e
 unfold PySem.W.lookIn
 rw[hd]
 dsimp only
 split
 ·rename_i y q
  rw[q]at e
  exact congrArg some e
 ·rename_i q
  rw[q]at e
  have a:es.toList.any (·.refKey)=false:=by
   rw[List.any_eq_false]
   intro y hy
   obtain⟨z,t,Ya⟩:=hk y (Array.mem_toList_iff.mp hy)
   simp[DictEntry.refKey,Ya]
  have a':¬ es.toList.any (·.refKey)=true:=by rw[a];exact ir
  rw[if_neg a']
  exact congrArg some e
theorem pX.look{h:Heap}{x dx C:Addr}{mA:Str->Option Value}(I:pX h x dx C mA):∃od,PySem.W.InstAt h x (PySem.W.instObj C dx) C (some od)/\∀name,PySem.W.lookIn name od=some (mA name) :=
 let⟨od,ho,hl⟩:=X9 I.ns
 ⟨od,⟨I.obj,rfl,rfl,ho⟩,hl⟩
section
variable{prog:Program}{w:World}{A:Around}{E:Value->Shared->Prop}{s:Shared}{K:PySem.W.Frag}{x dx C f:Addr}{mA:Str->Option Value}{name:Str}{v:Value}
theorem Yb{expr:Bool}{Q:Value->Shared->Prop}(X:K.In s.heap)(I:pX s.heap x dx C mA)(hg:PySem.W.plainGet K C name=true)(hh:PySem.W.hasDictIn K C=true)
  (ha:PySem.W.findIn K (.ref C) name=some none) (hv:mA name=some v) (Yc:PySem.W.handedIn v=true) (h:Q v { s with toks:=s.toks+1 }) :
  wpAny (model prog w) A (getAttr (.ref x) name expr) Q E s:=by
 obtain⟨od,J,hl⟩:=I.look
 exact PySem.W.get_value X J (PySem.W.plainGet_of hg).1 (PySem.W.findObj_own hh ha rfl (by rw[hl,hv])) Yc h
theorem Yd{pl:Sem Bool}{Q:Value × List Value->Shared->Prop}(X:K.In s.heap)(I:pX s.heap x dx C mA)(hg:PySem.W.plainGet K C name=true)
  (hf:PySem.W.findIn K (.ref C) name=some (some (.ref f))) (ht:PySem.W.isFn K (.ref f)=true) (hv:mA name=none) (h:Q (.ref f,[.ref x]) s) :
  wpAny (model prog w) A (getMethod (.ref x) name pl) Q E s:=by
 obtain⟨od,J,hl⟩:=I.look
 exact PySem.W.method_fn X J (PySem.W.plainGet_of hg).1 (PySem.W.plainGet_of hg).2 hf (beq_iff_eq.mp ht) (by show(PySem.W.lookIn name od).map (·.isSome)=some false;rw[hl,hv];rfl) h
theorem Ye{ns:List Str}{Q:Unit->Shared->Prop}(X:K.In s.heap)(I:pX s.heap x dx C mA)
  (hs:PySem.W.findIn K (.ref C) "__setattr__"=some (some (.builtin "object.__setattr__"))) (hp:PySem.W.plainOver K C=true) (ht:PySem.W.takerIn K C name=some none) (hh:PySem.W.hasDictIn K C=true)
  (hw:PySem.Within mA ns) (k7:ns.length<=sizeLine)
  (h:∀h',pX h' x dx C (λy=>if y=name then some v else mA y)->Heap.SameBut dx s.heap h'->Q () { s with heap:=h',toks:=s.toks+2 }) :
  wpAny (model prog w) A (setAttr (.ref x) name v) Q E s:=by
 obtain⟨od,J,hl⟩:=I.look
 refine PySem.W.set_plain X J hs (PySem.W.osa_open (s:={ s with toks:=s.toks+1 }) (r:=none) X J hp ht λb=>?_)
 obtain⟨cd,hc,we⟩:=PySem.W.any_some hh
 have hx:s.heap.get? x=some ⟨.ref C,some dx,.plain,#[]⟩:=I.obj
 refine wpAny_bind (wpAny_pure (wpAny_bind (wpAny_bind (wpAny_loadPart hx (wpAny_bind (PySem.W.Looks.here (s:={ s with toks:=s.toks+1 }) (PySem.W.looks_clsIn X hc) ?_))))))
 rw[we]
 refine wpAny_pure (a:=some dx) (wpAny_bind (wpAny_pure (wpAny_bind ?_)))
 refine wpAny_nsSet1 (s:={ s with toks:=s.toks+1 }) I.ns λh' sP fi=>?_
 obtain⟨oD,esD,epD,Yf,Yg,mD⟩:=sP.count (PySem.Within.cons name v hw)
 refine wpAny_bind (wpAny_lookBehind Yf (by rw[Yg];exact pastItsLine_dict (fg mD (by rw[jl];omega))) ?_)
 exact wpAny_pure (h _ ⟨(fi.2 _ (ft I.ne)).trans I.obj,sP,I.ne⟩ fi)
theorem Yh{R:Result->Shared->Prop}{vs:List Value}{kw:List (Str × Value)}(X:K.In s.heap)(hm:PySem.W.makesIn K C=true)
  (hi:PySem.W.findIn K (.ref C) "__init__"=some (some (.ref f))) (hf:PySem.W.typeIn K (.ref f)=some (.type "function"))
  (h:codeAny (model prog w) (A.under (.builtin "type.__call__" ⟨.ref C::vs,kw⟩)) (.call (.ref f) ⟨.ref (s.heap.objs.size+1)::vs,kw⟩) (PySem.W.InitBack (s.heap.objs.size+1) R)
   { s with heap:=(s.heap.push PySem.W.emptyDict).push (PySem.W.instObj C s.heap.objs.size) }) :
  codeAny (model prog w) A (.call (.ref C) ⟨vs,kw⟩) R s:=by
 obtain⟨hh,g,d,t,os⟩:=s
 exact PySem.W.make_core (PySem.W.makes_of X hm) (PySem.W.looks_findIn X hi) (λself=>PySem.W.bind_fn X self hf) (.inl rfl) h
end
noncomputable def bz(f:Str)(v:V):List (Str × V)->List (Str × V)
 | []=>[(f,v)]
 | (g,x)::r=>if g=f then(g,v)::r else(g,x)::bz f v r
theorem NU(f g:Str)(v:V):∀fs:List (Str × V),(bz f v fs).lookup g=if g=f then some v else fs.lookup g
 | []=>by
  show kO g [(f,v)]=_
  by_cases h:g=f
  ·have hb:(g==f)=true:=beq_iff_eq.mpr h
   simp only[kO,hb,if_pos h]
  ·have hb:(g==f)=false:=beq_eq_false_iff_ne.mpr h
   simp only[kO,hb,if_neg h]
 | (k,x)::r=>by
  have ih:=NU f g v r
  rw[show bz f v ((k,x)::r)=(if k=f then(k,v)::r else(k,x)::bz f v r) from rfl]
  by_cases hk:k=f
  ·rw[if_pos hk]
   by_cases h:g=k
   ·have hb:(g==k)=true:=beq_iff_eq.mpr h
    simp only[kO,hb,if_pos (h.trans hk)]
   ·have hb:(g==k)=false:=beq_eq_false_iff_ne.mpr h
    simp only[kO,hb,if_neg (λe:g=f=>h (e.trans hk.symm))]
  ·rw[if_neg hk]
   by_cases h:g=k
   ·have hb:(g==k)=true:=beq_iff_eq.mpr h
    simp only[kO,hb,if_neg (λe:g=f=>hk (h.symm.trans e))]
   ·have hb:(g==k)=false:=beq_eq_false_iff_ne.mpr h
    simp only[kO,hb]
    exact ih
theorem D9(f:Str)(v:V):∀fs:List (Str × V),f∈(bz f v fs).map (·.1)/\∀g,g∈fs.map (·.1)->g∈(bz f v fs).map (·.1)
 | []=>⟨by simp[bz],λg h=>by simp at h⟩
 | (k,x)::r=>by
  obtain⟨i1,i2⟩:=D9 f v r
  rw[show bz f v ((k,x)::r)=(if k=f then(k,v)::r else(k,x)::bz f v r) from rfl]
  by_cases hk:k=f
  ·rw[if_pos hk]
   subst hk
   exact⟨by simp,λg h=>by simpa using h⟩
  ·rw[if_neg hk]
   refine⟨?_,λg h=>?_⟩
   ·rw[df]
    exact fU _ i1
   ·rw[df]at h ⊢
    rcases cA.mp h with e | e
    ·exact cA.mpr (.inl e)
    ·exact fU _ (i2 g e)
theorem NV(f:Str)(v:V):∀fs:List (Str × V),(bz f v fs).length<=fs.length+1
 | []=>by simp[bz]
 | (k,x)::r=>by
  have ih:=NV f v r
  rw[show bz f v ((k,x)::r)=(if k=f then(k,v)::r else(k,x)::bz f v r) from rfl]
  by_cases hk:k=f
  ·rw[if_pos hk,jl,jl];omega
  ·rw[if_neg hk,jl,jl];omega
theorem kU.some_of{v:V}{o:Option Value}(r:kU (some v) o):∃u,o=some u/\RelV v u:=by
 cases o with
 | none=>exact(show False from r).elim
 | some u=>exact⟨u,rfl,r⟩
theorem kU.none_of{o:Option Value}(r:kU none o):o=none:=by
 cases o with
 | none=>rfl
 | some u=>exact(show False from r).elim
theorem Yi{v:V}{u:Value}(r:RelV v u):PySem.W.handedIn u=true:=by
 cases v with
 | au=>cases(show u=oZ from r);rfl
 | bl b=>cases(show u=De b from r);rfl
 | int i=>obtain⟨t,e⟩:=(show ∃t,u=nC i t from r);cases e;rfl
 | str x=>obtain⟨t,e⟩:=(show ∃t,u=Value.str x t from r);cases e;rfl
 | zY b=>obtain⟨t,e⟩:=(show ∃t,u=Value.bytes b t from r);cases e;rfl
 | pI b=>obtain⟨t,e⟩:=(show ∃t,u=Value.float b t from r);cases e;rfl
 | ref a=>cases(show u=cN a from r);rfl
 | ty n=>cases(show u=Value.type n from r);rfl
section
variable{P:Program}{w:World}{H H':Hp}{h h':Heap}{a C dx:Addr}{fs fs':List (Str × V)}
theorem Al(aJ:cI P w H h)(e:H a=some (.ins C dx fs)):∃mA,pX h a dx C mA/\(∀f,kU (fs.lookup f) (mA f))/\PySem.Within mA (fs.map (·.1))/\fs.length<=1000/\H dx=some (.own a):=by
 obtain⟨d,z,ne,ob,mA,n,r,q⟩:=(show dU P w H h a (.ins C dx fs) from aJ a _ e)
 exact⟨mA,⟨ob,n,ne⟩,r,q,z,d⟩
end
structure cw(K:PySem.W.Frag)(C:Addr):Prop where
 pg:PySem.W.plainGet K C vQ=true
 hd:PySem.W.hasDictIn K C=true
 po:PySem.W.plainOver K C=true
 sa:PySem.W.findIn K (.ref C) "__setattr__"=some (some (.builtin "object.__setattr__"))
theorem cw.get{K:PySem.W.Frag}{C:Addr}(c:cw K C)(f:Str):PySem.W.plainGet K C f=true:=c.pg
noncomputable def bf(K:PySem.W.Frag)(C:Addr)(f:Str):Prop:=PySem.W.findIn K (.ref C) f=some none
theorem bf.Yj{K:PySem.W.Frag}{C:Addr}{f:Str}(n:bf K C f):PySem.W.takerIn K C f=some none:=by
 unfold PySem.W.takerIn
 rw[show PySem.W.findIn K (.ref C) f=some none from n]
 rfl
structure Meth(K:PySem.W.Frag)(C:Addr)(m:Str)(f:Addr):Prop where
 at_:PySem.W.findIn K (.ref C) m=some (some (.ref f))
 fn:PySem.W.isFn K (.ref f)=true
 kp:PySem.W.keepIn K (.ref f)=true
section
variable{X:Cx}{pins:List (Addr × Obj)}{σ:St}{H:Hp}{s:Shared}{a C dx:Addr}{fs:List (Str × V)}{f:Str}{v:V}{A:Around}{E:Value->Shared->Prop}
theorem Yk{b:Bool}{Q:Value->Shared->Prop}(I:Inv X pins σ H s)(e:H a=some (.ins C dx fs))(c:cw X.K C)(n:bf X.K C f)(l:fs.lookup f=some v)
  (h:∀u s',Inv X pins σ H s'->RelV v u->Q u s'):wpAny (model X.prog X.w) A (getAttr (.ref a) f b) Q E s:=by
 obtain⟨mA,O,r,_,_,_⟩:=Al I.aJ e
 obtain⟨u,hu,ru⟩:=kU.some_of (v:=v) (o:=mA f) (by rw[<-l];exact r f)
 exact Yb I.cY O (c.get f) c.hd n hu (Yi ru) (h u _ (I.tok _) ru)
theorem Am{m:Str}{g:Addr}{pl:Sem Bool}{Q:Value × List Value->Shared->Prop}(I:Inv X pins σ H s)(e:H a=some (.ins C dx fs))(c:cw X.K C)(k:Meth X.K C m g)(l:fs.lookup m=none)
  (h:Q (.ref g,[.ref a]) s):wpAny (model X.prog X.w) A (getMethod (.ref a) m pl) Q E s:=by
 obtain⟨mA,O,r,_,_,_⟩:=Al I.aJ e
 have hn:mA m=none:=kU.none_of (by rw[<-l];exact r m)
 exact Yd I.cY O (c.get m) k.at_ k.fn hn h
theorem Yl{y:V}{u:Value}{Q:Unit->Shared->Prop}(I:Inv X pins σ H s)(e:H a=some (.ins C dx fs))(c:cw X.K C)(n:bf X.K C f)(hl:fs.length<1000)(ry:RelV y u)
  (h:∀s',Inv X pins σ (upd H a (.ins C dx (bz f y fs))) s'->Q () s'):wpAny (model X.prog X.w) A (setAttr (.ref a) f u) Q E s:=by
 obtain⟨mA,O,r,wi,_,ho⟩:=Al I.aJ e
 have hz:(fs.map (·.1)).length<=sizeLine:=by rw[bq,sizeLine_eq];omega
 refine Ye I.cY O c.sa c.po n.Yj c.hd wi hz λh' O' sb=>h _ ?_
 have hd:∃o,h'.get? dx=some o:=let⟨o,_,_,e',_⟩:=O'.ns;⟨o,e'⟩
 refine I.write (x:=a) (e:=dx) (by rw[e];exact rS) (.inr ho) (λb q hb z=>(sb.2 b hb).trans z) hd ?_
 refine⟨by rw[bc O.ne];exact ho,?_,O.ne,O'.obj,_,O'.ns,λg=>?_,λg hg=>?_⟩
 ·have:=NV f y fs;omega
 ·show kU ((bz f y fs).lookup g) (if g=f then some u else mA g)
  rw[NU]
  by_cases q:g=f
  ·rw[if_pos q,if_pos q];exact ry
  ·rw[if_neg q,if_neg q];exact r g
 ·by_cases q:g=f
  ·rw[q];exact(D9 f y fs).1
  ·refine(D9 f y fs).2 g (wi g λz=>hg ?_)
   show(if g=f then some u else mA g)=none
   rw[if_neg q];exact z
theorem Inv.made(I:Inv X pins σ H s):Inv X pins σ (upd (upd H s.heap.objs.size (.own (s.heap.objs.size+1))) (s.heap.objs.size+1) (.ins C s.heap.objs.size []))
  { s with heap:=(s.heap.push PySem.W.emptyDict).push (PySem.W.instObj C s.heap.objs.size) }:=by
 have e1:(s.heap.push PySem.W.emptyDict).get? s.heap.objs.size=some PySem.W.emptyDict:=gx s.heap rfl
 have e2:((s.heap.push PySem.W.emptyDict).push (PySem.W.instObj C s.heap.objs.size)).get? (s.heap.objs.size+1)=some (PySem.W.instObj C s.heap.objs.size):=by
  have:=gx (s.heap.push PySem.W.emptyDict) (o:=PySem.W.instObj C s.heap.objs.size) rfl
  rwa [rT]at this
 have e3:(s.heap.push PySem.W.emptyDict).Ns s.heap.objs.size (λ_=>none):=⟨PySem.W.emptyDict,#[],_,e1,rfl,(λe he=>absurd he (by simp)),λ_=>rfl⟩
 have I1:=I.laid (a:=s.heap.objs.size) (o:=.own (s.heap.objs.size+1)) (h':=s.heap.push PySem.W.emptyDict) (t':=s.toks) (λb u q=>fu _ q) (bK _) ⟨_,e1⟩
 refine I1.laid (a:=s.heap.objs.size+1) (o:=.ins C s.heap.objs.size []) (t':=s.toks) (λb u q=>fu _ q) (zB (rT _ _)) ?_
 have ne:s.heap.objs.size≠s.heap.objs.size+1:=eZ (zC _)
 refine⟨by rw[bc ne,bL],kP _,ne,e2,λ_=>none,(Heap.Ns1.of_empty e3).at λo q=>fu _ q,λ_=>rS,λy hy=>absurd rfl hy⟩
theorem Ym{prog:Program}{w:World}{env:Env}{e:Expr}{f:Str}{pos:Pos}{s:Shared}{Q:Value->Shared->Prop}(hb:attributeBase e f env (eval e env)=eval e env)
  (h:wpAny (model prog w) A (eval e env) (λo bB=>wpAny (model prog w) A (getAttr o f true) Q E bB) E s):wpAny (model prog w) A (eval (.Attribute e f pos) env) Q E s :=
 Attribute_any_ h (by rw[arm_eval_Attribute,hb])
end
noncomputable def Yn(K:PySem.W.Frag)(ta:TE)(f:Str):TE:=λσ H Q=>ta σ H λx H1=>∃a C dx fs v,x=.ref a/\H1 a=some (.ins C dx fs)/\cw K C/\bf K C f/\fs.lookup f=some v/\Q v H1
noncomputable def Yo(K:PySem.W.Frag)(ta tv:TE)(f:Str):TS:=λD σ H=>tv σ H λy H1=>ta σ H1 λx H2=>∃a C dx fs,x=.ref a/\H2 a=some (.ins C dx fs)/\cw K C/\bf K C f/\fs.length<1000 /\
 D.nx σ (upd H2 a (.ins C dx (bz f y fs)))
section
variable{X:Cx}{o e value:Expr}{f:Str}{pos pos' pY:Pos}{ta tv:TE}
theorem pZ(he:PE X e ta)(hb:attributeBase e f X.env (eval e X.env)=eval e X.env):PE X (.Attribute e f pos) (Yn X.K ta f):=by
 intro pins s σ H Q I h
 refine Ym hb (aP (he pins s σ H _ I h) λu s1 ⟨x,H1,I1,rx,a,C,dx,fs,v,ex,ea,c,n,l,q⟩=>?_)
 subst ex
 obtain rfl:u=cN a:=rx
 exact Yk I1 ea c n l λu' s2 I2 ru=>⟨v,H1,I2,ru,q⟩
theorem gM(ha:PE X o ta)(hv:PE X value tv)(hs:swapsWith value (some (.Attribute o f pos')) pos.line X.env=pure false):PS X (.Assign [.Attribute o f pos'] value pos) (Yo X.K ta tv f):=by
 intro pins s σ H D I h
 refine plainObj_wpAny_Assign_Attribute (aP (hv pins s σ H _ I h) λu s1 ⟨y,H1,I1,ry,q⟩=>aP (ha pins s1 σ H1 _ I1 q) λov s2 ⟨x,H2,I2,rx,a,C,dx,fs,ex,ea,c,n,l,q2⟩=>?_) hs
 subst ex
 obtain rfl:ov=cN a:=rx
 exact Yl I2 ea c n l ry λs3 I3=>⟨σ,_,I3,q2⟩
end
section
variable{X:Cx}{pins:List (Addr × Obj)}{σ:St}{H:Hp}{s:Shared}{A:Around}{E:Value->Shared->Prop}{Q:Value->Shared->Prop}{c:Value}{b:Bool}
inductive gZ(K:PySem.W.Frag)(H:Hp):V->Value->Prop where
 | au:gZ K H .au (.type "NoneType")
 | bl (x:Bool):gZ K H (.bl x) (.type "bool")
 | int (i:Int):gZ K H (.int i) (.type "int")
 | str (x:Str):gZ K H (.str x) (.type "str")
 | pI (x:UInt64):gZ K H (.pI x) (.type "float")
 | lst {a:Addr} {xs:List V} (e:H a=some (.lst xs)):gZ K H (.ref a) (.type "list")
 | bt {a:Addr} {o:Obj} {xs:List V} (e:H a=some (.bt o (.lst xs))):gZ K H (.ref a) (.type "list")
 | tup {a:Addr} {xs:List V} (e:H a=some (.tup xs)):gZ K H (.ref a) (.type "tuple")
 | dK {a:Addr} {dE:List (Key × V)} (e:H a=some (.dK dE)):gZ K H (.ref a) (.type "dict")
 | dT {a:Addr} {dE:List (List Key × V)} (e:H a=some (.dT dE)):gZ K H (.ref a) (.type "dict")
 | ins {a C dx:Addr} {fs:List (Str × V)} (e:H a=some (.ins C dx fs)) (cl:cw K C) (ha:PySem.W.findIn K (.ref C) "__class__"=some (some (.builtin "object.__class__")))
   (hn:PySem.W.specialIn K (.builtin "object.__class__") "__get__"=some (some (.builtin "getset_descriptor.__get__"))) (An:PySem.W.takesIn K (.builtin "object.__class__")=some true)
   (hm:PySem.W.mroIn K C (.type "object")=some true):gZ K H (.ref a) (.ref C)
theorem NW{x:V}{u t:Value}(I:Inv X pins σ H s)(rx:RelV x u)(ty:gZ X.K H x t)(e:PySem.W.kitOne X.K t c=some b)(h:∀tk,Q (.bool b) { s with toks:=tk }) :
  wpAny (model X.prog X.w) A (call (.builtin "isinstance") [u,c]) Q E s:=by
 cases ty with
 | au=>cases(show u=oZ from rx);exact PySem.W.kia_one PySem.W.kitx_none I.cY rS e (λz=>nomatch z) h
 | bl y=>cases(show u=De y from rx);exact PySem.W.kia_one PySem.W.kitx_bool I.cY rS e (λz=>nomatch z) h
 | int i=>obtain⟨t,q⟩:=(show ∃t,u=nC i t from rx);cases q;exact PySem.W.kia_one PySem.W.kitx_int I.cY rS e (λz=>nomatch z) h
 | str y=>obtain⟨t,q⟩:=(show ∃t,u=Value.str y t from rx);cases q;exact PySem.W.kia_one PySem.W.kitx_str I.cY rS e (λz=>nomatch z) h
 | pI y=>obtain⟨t,q⟩:=(show ∃t,u=Value.float y t from rx);cases q;exact PySem.W.kia_one PySem.W.kitx_float I.cY rS e (λz=>nomatch z) h
 | @lst a xs ea =>
  cases(show u=cN a from rx)
  obtain⟨_,_,n,_,h1⟩:=(show dU X.prog X.w H s.heap a (.lst xs) from I.aJ a _ ea)
  exact PySem.W.kia_one PySem.W.kitx_list I.cY ⟨_,h1,rfl⟩ e (λz=>nomatch z) h
 | @bt a ob xs ea =>
  cases(show u=cN a from rx)
  obtain⟨_,_,_,n,_,h1⟩:=(show dU X.prog X.w H s.heap a (.bt ob (.lst xs)) from I.aJ a _ ea)
  exact PySem.W.kia_one PySem.W.kitx_list I.cY ⟨_,h1,rfl⟩ e (λz=>nomatch z) h
 | @tup a xs ea =>
  cases(show u=cN a from rx)
  obtain⟨_,_,_,p⟩:=(show dU X.prog X.w H s.heap a (.tup xs) from I.aJ a _ ea)
  obtain⟨o,h1,h2,_⟩:=p
  exact PySem.W.kia_one PySem.W.kitx_tuple I.cY ⟨o,h1,h2⟩ e (λz=>nomatch z) h
 | @dK a dE ea =>
  cases(show u=cN a from rx)
  obtain⟨_,_,vs,_,p⟩:=(show dU X.prog X.w H s.heap a (.dK dE) from I.aJ a _ ea)
  obtain⟨o,es,ep,h1,h2,_⟩:=p
  exact PySem.W.kia_one PySem.W.kitx_dict I.cY ⟨o,h1,h2.1⟩ e (λz=>nomatch z) h
 | @dT a dE ea =>
  cases(show u=cN a from rx)
  obtain⟨_,_,xs,_,o,es,ep,h1,h2,_⟩:=(show dU X.prog X.w H s.heap a (.dT dE) from I.aJ a _ ea)
  exact PySem.W.kia_one PySem.W.kitx_dict I.cY ⟨o,h1,h2.1⟩ e (λz=>nomatch z) h
 | @ins a C dx fs ea cl ha hn An hm =>
  cases(show u=cN a from rx)
  obtain⟨mA,O,_⟩:=Al I.aJ ea
  obtain⟨od,J,_⟩:=O.look
  exact PySem.W.kia_one (PySem.W.kitx_own (cl.get _) cl.hd ha hn An hm) I.cY J e (λz=>nomatch z) h
end
end L2
namespace L2
open PySem PySem.Spec PyProof.Rows
structure bW(k:Nat)(A:Around):Prop where
 hd:A.handled=none
 dp:A.depth+3*k+5<recursionLimit
 un:A.units+16*k+200<cLine
theorem bW.mono{j k:Nat}{A:Around}(r:bW k A)(h:j<=k):bW j A:=⟨r.hd,by have:=r.dp;omega,by have:=r.un;omega⟩
theorem bW.deeper{k:Nat}{A:Around}(r:bW (k+1) A)(env:Env):bW k (A.deeper env) :=
 ⟨r.hd,by have:=r.dp;show A.depth+1+3*k+5<_;omega,by have:=r.un;show A.units+3+16*k+200<_;omega⟩
theorem Yp{A:Around}{C:Addr}{us:List Value}{kw:List (Str × Value)}:(A.under (.builtin "type.__call__" ⟨.ref C::us,kw⟩)).depth=A.depth+1:=by
 first | rfl | simp[Around.under,Code.weight,Code.isCreation,Code.isGuard,Code.isCaller,Code.frames,Code.isFrame,guardIds]
theorem Yq{A:Around}{C:Addr}{us:List Value}{kw:List (Str × Value)}:(A.under (.builtin "type.__call__" ⟨.ref C::us,kw⟩)).units=A.units+1:=by
 first | rfl | simp[Around.under,Code.cUnits,Code.frames,Code.isFrame]
theorem bW.make{k:Nat}{A:Around}(r:bW (k+1) A)(C:Addr)(us:List Value)(kw:List (Str × Value)):bW k (A.under (.builtin "type.__call__" ⟨.ref C::us,kw⟩)) :=
 ⟨r.hd,by have:=r.dp;rw[Yp];omega,by have:=r.un;rw[Yq];omega⟩
theorem bW.depth{k:Nat}{A:Around}(r:bW k A):A.depth<recursionLimit:=by have:=r.dp;omega
noncomputable def Yr:TA:=λ_ H Q=>Q [] H
noncomputable def Ys(ta:TE)(tr:TA):TA:=λσ H Q=>ta σ H λx H1=>tr σ H1 λxs H2=>Q (x::xs) H2
section
variable{X:Cx}{e:Expr}{es:List Expr}{te:TE}{t:TA}{pos:Pos}
theorem eU:PA X [] Yr:=λ_ _ _ _ H Q I h=>Calls.spliced_nil ⟨[],H,I,.nil,h⟩
theorem bV(ha:PE X e te)(hr:PA X es t)(hs:starEach (e::es) X.env=(false,eval e X.env)::starEach es X.env:=by rfl):PA X (e::es) (Ys te t):=by
 intro pos pins s σ H Q I h
 rw[hs]
 show wpAny _ _ (spliced ((false,eval e X.env)::backTo pos (starEach es X.env))) _ _ s
 refine Calls.spliced_cons (aP (ha pins s σ H _ I h) λu s1 ⟨x,H1,I1,r1,q1⟩=>?_)
 exact aP (hr pos pins s1 σ H1 _ I1 q1) λus s2 ⟨xs,H2,I2,r2,q2⟩=>⟨x::xs,H2,I2,.cons r1 r2,q2⟩
noncomputable def Yt(t:TA):TE:=λσ H Q=>t σ H λxs H1=>xs.length<=sizeLine/\∀p,H1 p=none->Q (.ref p) (upd H1 p (.tup xs))
noncomputable def Yu(t:TA):TE:=λσ H Q=>t σ H λxs H1=>xs.length<=sizeLine/\∀p,H1 p=none->Q (.ref p) (upd H1 p (.lst xs))
theorem Yv{x1}(h:PA X es t):PE X (.Tuple es x1 pos) (Yt t):=by
 intro pins s σ H Q I hq
 refine wpAny_Tuple_spliced (aP (h pos pins s σ H _ I hq) λus s1 ⟨xs,H1,I1,r,z,q⟩=>⟨by rw[<-r.length];exact z,?_⟩)
 have hf:H1 s1.heap.objs.size=none:=I1.aJ.fresh (bK _)
 refine⟨.ref s1.heap.objs.size,upd H1 s1.heap.objs.size (.tup xs),I1.laid (t':=s1.toks) (λb u e=>fu _ e) (bK _) ?_,rfl,q _ hf⟩
 exact⟨z,us,r,⟨_,gx _ rfl,rfl,_,rfl⟩⟩
theorem NX(h:PA X es t):PE X (.List es pos) (Yu t):=by
 intro pins s σ H Q I hq
 refine wpAny_List_spliced (aP (h pos pins s σ H _ I hq) λus s1 ⟨xs,H1,I1,r,z,q⟩=>⟨by rw[<-r.length];exact z,?_⟩)
 have hf:H1 s1.heap.objs.size=none:=I1.aJ.fresh (bK _)
 refine⟨.ref s1.heap.objs.size,upd H1 s1.heap.objs.size (.lst xs),I1.laid (t':=s1.toks) (λb u e=>fu _ e) (bK _) ?_,rfl,q _ hf⟩
 exact⟨z,us,0,r,gx _ rfl⟩
end
noncomputable abbrev Sp:=List V->Hp->VK->XK->Prop
noncomputable abbrev eO:=List Env->Hp->Shared->XK->Value->Shared->Prop
structure iS(P:Program)(w:World)(K:PySem.W.Frag)(mg:Str->Option Value)(base:Heap)(A:Around)(outer:List Env)(s:Shared)(H:Hp):Prop where
 frames:A.frames=some outer
 mod:Mod K mg base
 bs:∀b o,base.get? b=some o->s.heap.get? b=some o/\H b=none
 jP:base.objs.size<=s.heap.objs.size
 gK:s.heap.FunFrames base outer
 jQ:∀b∈eo outer,H b=none
 aJ:cI P w H s.heap
 bare:AllBare s.gens
noncomputable def CE(outer:List Env)(P:Program)(w:World)(H:Hp)(s:Shared)(Q:VK)(u:Value)(s':Shared):Prop :=
 ∃v H',s'.os=s.os/\AllBare s'.gens/\Un (eo outer) [] H H' s.heap s'.heap/\cI P w H' s'.heap/\RelV v u/\Q v H'
noncomputable def CR(CX:eO)(outer:List Env)(P:Program)(w:World)(H:Hp)(s:Shared)(Q:VK)(E:XK)(r:Result)(s':Shared):Prop :=
 match r with
 | .ok (.ret u)=>CE outer P w H s Q u s'
 | .ok _=>False
 | .error e=>CX outer H s E e s'
structure aM(P:Program)(w:World)(K:PySem.W.Frag)(mg:Str->Option Value)(base:Heap)(CX:eO)(k:Nat)(f:Addr)(fd:FuncData)(ps:List Str)(sp:Sp):Prop where
 len:∀vs H Q E,sp vs H Q E->vs.length=ps.length
 run:∀(A:Around) (outer:List Env) (s:Shared) (H:Hp) (args:Args) (us:List Value) (vs:List V) (Q:VK) (E:XK),bW k A->iS P w K mg base A outer s H->BindsTo s fd args (ps.zip us)->Vals vs us->sp vs H Q E ->
  codeAny (model P w) A (.call (.ref f) args) (CR CX outer P w H s Q E) s
theorem aM.mono{P:Program}{w:World}{K:PySem.W.Frag}{mg:Str->Option Value}{base:Heap}{CX:eO}{j k:Nat}{f:Addr}{fd:FuncData}{ps:List Str}{sp:Sp}(F:aM P w K mg base CX j f fd ps sp)(h:j<=k) :
  aM P w K mg base CX k f fd ps sp:=⟨F.len,λA outer s H args us vs Q E hr=>F.run A outer s H args us vs Q E (hr.mono h)⟩
theorem aM.imp{P:Program}{w:World}{K:PySem.W.Frag}{mg:Str->Option Value}{base:Heap}{CX:eO}{k:Nat}{f:Addr}{fd:FuncData}{ps:List Str}{sp k9:Sp}(F:aM P w K mg base CX k f fd ps sp)
  (h:∀vs H Q E,k9 vs H Q E->sp vs H Q E):aM P w K mg base CX k f fd ps k9 :=
 ⟨λvs H Q E q=>F.len vs H Q E (h _ _ _ _ q),λA outer s H args us vs Q E hr he hb hv hs=>F.run A outer s H args us vs Q E hr he hb hv (h _ _ _ _ hs)⟩
theorem iS.make{P:Program}{w:World}{K:PySem.W.Frag}{mg:Str->Option Value}{base:Heap}{A:Around}{outer:List Env}{s:Shared}{H:Hp}(e:iS P w K mg base A outer s H)(C:Addr)(us:List Value)(kw:List (Str × Value)) :
  iS P w K mg base (A.under (.builtin "type.__call__" ⟨.ref C::us,kw⟩)) outer s H:=⟨by first | exact e.frames | (simpa[Around.under,Code.envs,Code.isFrame,pushEnvs]using e.frames),e.mod,e.bs,e.jP,e.gK,e.jQ,e.aJ,e.bare⟩
section
variable{X:Cx}{pins:List (Addr × Obj)}{σ:St}{H:Hp}{s s':Shared}
theorem Inv.wC(I:Inv X pins σ H s):iS X.prog X.w X.K X.mg X.base X.A X.stack s H :=
 ⟨I.ok.frames,I.ok.mod,I.bs,fg I.ok.jP I.sz,I.stack,I.DM,I.aJ,I.bare⟩
theorem Inv.after{Q:VK}{u:Value}(I:Inv X pins σ H s)(h:CE X.stack X.prog X.w H s Q u s'):EP X pins σ Q u s':=by
 obtain⟨v,H',os,bare,un,aJ,r,q⟩:=h
 obtain⟨hh,g,d,t,Yw⟩:=s'
 obtain rfl:Yw=s.os:=os
 exact⟨v,H',I.call (h':=hh) (g':=g) (d':=d) (t':=t) (ch:=[]) un aJ bare (λb z=>absurd z (by simp)),r,q⟩
end
noncomputable def Yx(sp:Sp)(e7:List V)(E:XK)(t:TA):TE:=λσ H Q=>t σ H λvs H1=>sp (vs++e7) H1 Q E
noncomputable def Yy(C:Addr)(m:Str)(sp:Sp)(e7:List V)(E:XK)(ta:TE)(t:TA):TE:=λσ H Q=>ta σ H λx H1=>∃a dx fs,x=.ref a/\H1 a=some (.ins C dx fs)/\fs.lookup m=none /\
 t σ H1 λvs H2=>sp (x::(vs++e7)) H2 Q E
noncomputable def Yz(C:Addr)(sp:Sp)(e7:List V)(E:XK)(t:TA):TE:=λσ H Q=>t σ H λvs H1=>∀x dx,H1 x=none->H1 dx=none->dx≠x ->
 sp (.ref x::(vs++e7)) (upd (upd H1 dx (.own x)) x (.ins C dx [])) (λv H2=>v=.au/\Q (.ref x) H2) E
noncomputable def Binds(K:PySem.W.Frag)(fd:FuncData)(ps:List Str)(ds:List Value):Prop :=
 ∀(s:Shared) (us:List Value),K.In s.heap->(us++ds).length=ps.length->BindsTo s fd ⟨us,[]⟩ (ps.zip (us++ds))
theorem Binds.all{K:PySem.W.Frag}{fd:FuncData}{ps:List Str}(h:∀us:List Value,us.length=ps.length->bindArgs fd ⟨us,[]⟩=pure (ps.zip us)):Binds K fd ps []:=λs us _ hl=>by
 rw[fV]at hl ⊢
 exact .of_eq (h us hl)
noncomputable def jT(CX:eO)(X:Cx)(E:XK):Prop:=∀(pins:List (Addr × Obj)) (σ:St) (H:Hp) (s:Shared) (e:Value) (s':Shared),Inv X pins σ H s->CX X.stack H s E e s'->X.xe e s'
section
variable{X:Cx}{CX:eO}{k:Nat}{f C:Addr}{fd:FuncData}{ps:List Str}{sp:Sp}{e7:List V}{ds:List Value}{E:XK}{x m:Str}{p pos apos:Pos}{e o:Expr}{es:List Expr}{ta:TE}{t:TA}
theorem sQ{pins:List (Addr × Obj)}{σ:St}{H:Hp}{s:Shared}{Q:VK}{us:List Value}{vs:List V}(F:aM X.prog X.w X.K X.mg X.base CX k f fd ps sp)(hr:bW k X.A)(hb:Binds X.K fd ps ds)(hd:Vals e7 ds)(hx:jT CX X E)
  (I:Inv X pins σ H s) (r:Vals vs us) (h:sp (vs++e7) H Q E):wpAny (model X.prog X.w) X.A (call (.ref f) us) (EP X pins σ Q) X.xe s:=by
 have r2:Vals (vs++e7) (us++ds):=r.append hd
 have hl:(us++ds).length=ps.length:=by rw[<-r2.length];exact F.len _ _ _ _ h
 refine wpAny_call (codeAny_mono (F.run X.A X.stack s H ⟨us,[]⟩ (us++ds) (vs++e7) Q E hr I.wC (hb s us I.cY hl) r2 h) λr s' hq=>?_)
 cases r with
 | error e=>exact hx pins σ H s e s' I hq
 | ok fl =>
  cases fl with
  | ret u=>exact I.after hq
  | next=>exact fH hq
  | brk=>exact fH hq
  | cont=>exact fH hq
theorem iT(F:aM X.prog X.w X.K X.mg X.base CX k f fd ps sp)(hr:bW k X.A)(hg:Gl X x)(hm:X.mg x=some (.ref f))(hk:PySem.W.keepIn X.K (.ref f)=true)(hb:Binds X.K fd ps ds)(hd:Vals e7 ds)(hx:jT CX X E)
  (ha:PA X (e::es) t) (dW:(x==("__debug__":Str))=false:=by decide) (he:starEach (e::es) X.env=(false,eval e X.env)::starEach es X.env:=by rfl) (bN:(backTo pos (starEach es X.env)).any (·.1)=false:=by rfl) :
  PE X (.Call (.Name x p) (e::es) [] pos) (Yx sp e7 E t):=by
 intro pins s σ H Q I h
 refine wpAny_Call_Name_kw (wm I hg hm ?_ dW)
 refine PySem.W.callWith_K (h₀:=X.base) I.ok.mod.mB hk (aP (ha pos pins s σ H _ I h) λus s1 ⟨vs,H1,I1,r,q⟩=>⟨I1.cY,?_⟩) he bN
 exact sQ F hr hb hd hx I1 r q
theorem YA{pl:Sem Bool}(he:PE X o ta)(c:cw X.K C)(hm:Meth X.K C m f)(F:aM X.prog X.w X.K X.mg X.base CX k f fd ps sp)(hr:bW k X.A)(hb:Binds X.K fd ps ds)(hd:Vals e7 ds)(hx:jT CX X E)(ha:PA X (e::es) t)
  (cZ:starEach (e::es) X.env=(false,eval e X.env)::starEach es X.env:=by rfl) (bN:(backTo pos (starEach es X.env)).any (·.1)=false:=by rfl)
  (ht:eval (.Call (.Attribute o m apos) (e::es) [] pos) X.env=(do
   let ov<-eval o X.env
   standAt apos.atName
   let (f,first)<-holding [ov] (getMethod ov m pl)
   callWith pos f first (backTo pos (starEach (e::es) X.env)) (backToKw pos (keywordEach [] X.env))):=by rfl) :
  PE X (.Call (.Attribute o m apos) (e::es) [] pos) (Yy C m sp e7 E ta t):=by
 intro pins s σ H Q I h
 refine PySem.W.methodCall_KW (pl:=pl) (aP (he pins s σ H _ I h) λu s1 ⟨x,H1,I1,rx,a,dx,fs,ex,ea,l,q⟩=>?_) ht
 subst ex
 obtain rfl:u=cN a:=rx
 refine Am I1 ea c hm l ?_
 refine PySem.W.callWith_K (first:=[.ref a]) (h₀:=X.base) I.ok.mod.mB hm.kp (aP (ha pos pins s1 σ H1 _ I1 q) λus s2 ⟨vs,H2,I2,r,q2⟩=>⟨I2.cY,?_⟩) cZ bN
 exact sQ (us:=.ref a::us) (vs:=.ref a::vs) F hr hb hd hx I2 (.cons rfl r) q2
structure Mk(K:PySem.W.Frag)(C f:Addr):Prop where
 makes:PySem.W.makesIn K C=true
 init:PySem.W.findIn K (.ref C) "__init__"=some (some (.ref f))
 fn:PySem.W.isFn K (.ref f)=true
 kp:PySem.W.keepIn K (.ref C)=true
theorem YB{pins:List (Addr × Obj)}{σ:St}{H:Hp}{s:Shared}{Q:VK}{us:List Value}{vs:List V}(M:Mk X.K C f)(F:aM X.prog X.w X.K X.mg X.base CX k f fd ps sp)(hr:bW (k+1) X.A)(hb:Binds X.K fd ps ds)(hd:Vals e7 ds)
  (hx:jT CX X E) (I:Inv X pins σ H s) (r:Vals vs us)
  (h:∀x dx,H x=none->H dx=none->dx≠x->sp (.ref x::(vs++e7)) (upd (upd H dx (.own x)) x (.ins C dx [])) (λv H2=>v=.au/\Q (.ref x) H2) E) :
  wpAny (model X.prog X.w) X.A (call (.ref C) us) (EP X pins σ Q) X.xe s:=by
 have hq:=h (s.heap.objs.size+1) s.heap.objs.size (I.aJ.fresh (Nat.le_succ _)) (I.aJ.fresh (bK _)) (eZ (zC _))
 have I2:=Inv.made (C:=C) I
 have r2:Vals (V.ref (s.heap.objs.size+1)::(vs++e7)) (cN (s.heap.objs.size+1)::(us++ds)):=.cons rfl (r.append hd)
 have hl:(cN (s.heap.objs.size+1)::us++ds).length=ps.length:=by
  have e:=r2.length
  rw[F.len _ _ _ _ hq]at e
  exact e.symm
 refine wpAny_call (Yh (f:=f) I.cY M.makes M.init (beq_iff_eq.mp M.fn) (codeAny_mono (F.run _ X.stack _ _ ⟨cN (s.heap.objs.size+1)::us,[]⟩ (cN (s.heap.objs.size+1)::(us++ds)) _ _ E (hr.make C us [])
  (I2.wC.make C us []) (hb _ (cN (s.heap.objs.size+1)::us) I2.cY hl) r2 hq) λr s' mE=>?_))
 cases r with
 | error e=>exact hx pins σ _ _ e s' I2 mE
 | ok fl =>
  cases fl with
  | ret u =>
   obtain⟨v,H',I3,rv,ev,q3⟩:=I2.after mE
   subst ev
   exact⟨rv,⟨V.ref (s.heap.objs.size+1),H',I3,rfl,q3⟩⟩
  | next=>exact fH mE
  | brk=>exact fH mE
  | cont=>exact fH mE
theorem NY(M:Mk X.K C f)(F:aM X.prog X.w X.K X.mg X.base CX k f fd ps sp)(hr:bW (k+1) X.A)(hg:Gl X x)(hm:X.mg x=some (.ref C))(hb:Binds X.K fd ps ds)(hd:Vals e7 ds)(hx:jT CX X E)
  (ha:PA X (e::es) t) (dW:(x==("__debug__":Str))=false:=by decide) (he:starEach (e::es) X.env=(false,eval e X.env)::starEach es X.env:=by rfl) (bN:(backTo pos (starEach es X.env)).any (·.1)=false:=by rfl) :
  PE X (.Call (.Name x p) (e::es) [] pos) (Yz C sp e7 E t):=by
 intro pins s σ H Q I h
 refine wpAny_Call_Name_kw (wm I hg hm ?_ dW)
 refine PySem.W.callWith_K (h₀:=X.base) I.ok.mod.mB M.kp (aP (ha pos pins s σ H _ I h) λus s1 ⟨vs,H1,I1,r,q⟩=>⟨I1.cY,?_⟩) he bN
 exact YB M F hr hb hd hx I1 r q
end
section
variable{X:Cx}{CX:eO}{k:Nat}{f C:Addr}{fd:FuncData}{ps ks:List Str}{sp:Sp}{E:XK}{x m:Str}{p pos apos d52:Pos}{e o:Expr}{es:List Expr}{kws:List Keyword}{te ta:TE}{t tk:TA}{nm:Option Str}
variable{g:List Value->List Value->List Value}{gV:List V->List V->List V}
end
structure aZ(N P:List Str)(sc:Scope):Prop where
 kind:sc.kind=.function
 co:sc.isCoroutine=false
 gen:sc.isGenerator=false
 nd:N.Nodup
 pre:N.take P.length=P
 par:∀x∈P,sc.names.lookup x=some .local\/sc.names.lookup x=some .cell
 YC:∀y∈sc.names,y.2≠.free
theorem NZ{kindOf:Str->Option NameKind}{x:Str}:∀{binds:List (Str × Value)} {m:Str->Option Value},(∀v,(x,v) ∉ binds)->bindL kindOf binds m x=m x
 | [],_,_=>rfl
 | (n,v)::r,m,h=>by
  unfold bindL
  rw[NZ λw hw=>h w (fU _ hw)]
  split
  ·have:x≠n:=by rintro rfl;exact h v jj
   simp[this]
  ·rfl
theorem N0{kindOf:Str->Option NameKind}{x:Str}:∀{binds:List (Str × Value)} {m:Str->Option Value},(∀v,(x,v) ∉ binds)->bindC kindOf binds m x=m x
 | [],_,_=>rfl
 | (n,v)::r,m,h=>by
  unfold bindC
  rw[N0 λw hw=>h w (fU _ hw)]
  split
  ·rfl
  ·have:x≠n:=by rintro rfl;exact h v jj
   simp[this]
theorem N1{kindOf:Str->Option NameKind}{x:Str}{v:Value}:∀{P:List Str} {vs:List Value} {i:Nat} {m:Str->Option Value},P.Nodup->P[i]?=some x->vs[i]?=some v->kindOf x=some .local ->
  bindL kindOf (P.zip vs) m x=some v
 | [],_,_,_,_,h,_,_=>by simp at h
 | _::_,[],_,_,_,_,h,_=>by simp at h
 | p::P,w::vs,0,m,nd,h1,h2,hk=>by
  simp at h1 h2;subst h1;subst h2
  show bindL kindOf ((p,w)::P.zip vs) m p=_
  unfold bindL
  rw[NZ λv hv=>(kQ.mp nd).1 (rV hv).1,if_pos hk]
  simp
 | p::P,w::vs,i+1,m,nd,h1,h2,hk=>by
  show bindL kindOf ((p,w)::P.zip vs) m x=_
  unfold bindL
  exact N1 (i:=i) (kQ.mp nd).2 (by simpa using h1) (by simpa using h2) hk
theorem N2{kindOf:Str->Option NameKind}{x:Str}{v:Value}:∀{P:List Str} {vs:List Value} {i:Nat} {m:Str->Option Value},P.Nodup->P[i]?=some x->vs[i]?=some v->kindOf x≠some .local ->
  bindC kindOf (P.zip vs) m x=some v
 | [],_,_,_,_,h,_,_=>by simp at h
 | _::_,[],_,_,_,_,h,_=>by simp at h
 | p::P,w::vs,0,m,nd,h1,h2,hk=>by
  simp at h1 h2;subst h1;subst h2
  show bindC kindOf ((p,w)::P.zip vs) m p=_
  unfold bindC
  rw[N0 λv hv=>(kQ.mp nd).1 (rV hv).1,if_neg hk]
  simp
 | p::P,w::vs,i+1,m,nd,h1,h2,hk=>by
  show bindC kindOf ((p,w)::P.zip vs) m x=_
  unfold bindC
  exact N2 (i:=i) (kQ.mp nd).2 (by simpa using h1) (by simpa using h2) hk
noncomputable def start(N:List Str)(vs:List V):St:=vs.map some++bj (N.length-vs.length) none
noncomputable def iz(CX:eO)(P:Program)(w:World)(K:PySem.W.Frag)(mg:Str->Option Value)(base:Heap)(N:List Str)(qual:Str)(scope:Scope)(f:Addr)(cd:Value)(A:Around)(outer:List Env)(s:Shared)(H:Hp)(E:XK):Cx where
 prog:=P
 w:=w
 K:=K
 mg:=mg
 base:=base
 A:=A.deeper (envOfC qual scope s.heap.objs.size f cd)
 N:=N
 cJ:=s
 jO:=H
 env:=envOfC qual scope s.heap.objs.size f cd
 outer:=outer
 stack:=envOfC qual scope s.heap.objs.size f cd::outer
 ex:=[]
 calm:=true
 fn:=λ_=>true
 pn:=[]
 xe:=λe s'=>wpAny (model P w) (A.deeper (envOfC qual scope s.heap.objs.size f cd)) (leaving (envOfC qual scope s.heap.objs.size f cd) e) (λ_ p5=>CX outer H s E e p5) (λe' p5=>CX outer H s E e' p5) s'
theorem N3{sc:Scope}{n:Nat}{x:Str}(h:sc.names.lookup x=some .cell):∃c,(cellsFrom n sc.names []).lookup x=some c:=by
 have q:=PySem.W.cellsFrom_some sc.names n [] (.inl h)
 exact zD.mp q
theorem YD{CX:eO}{P:Program}{w:World}{K:PySem.W.Frag}{mg:Str->Option Value}{base:Heap}{N ps:List Str}{qual:Str}{scope:Scope}{f:Addr}{cd:Value}{A:Around}{outer:List Env}{s s1:Shared}{H:Hp}{E:XK}{us:List Value}{vs:List V}
  (S:aZ N ps scope) (hd:A.handled=none) (e0:iS P w K mg base A outer s H) (hl:vs.length=ps.length) (r:Vals vs us)
  (x:InCallC s s.heap.objs.size (bindL (envOfC qual scope s.heap.objs.size f cd).kindOf (ps.zip us) λ_=>none) (cellsFrom (s.heap.objs.size+1) scope.names []) (bindC (envOfC qual scope s.heap.objs.size f cd).kindOf (ps.zip us) λ_=>none) s1) :
  Inv (iz CX P w K mg base N qual scope f cd A outer s H E) [] (start N vs) H s1:=by
 have bN:ps.length<=N.length:=by have:=congrArg Dg S.pre;rw[iu]at this;omega
 obtain⟨h1,tk,rfl,hk⟩:=x.done
 have wD:∀b:Addr,b ∉ (iz CX P w K mg base N qual scope f cd A outer s H E).ex:=λb z=>absurd (show b∈([]:List Addr) from z) (by simp)
 refine⟨⟨e0.mod,S.kind,rfl,rfl,bK _,λy z c h1 h2=>?_,λy hy=>?_,λy c _ h=>?_,λ_=>hd,Around.frames_deeper e0.frames,.inr ⟨rfl,rfl⟩,λb z=>absurd z (wD b),e0.bs,e0.jP,λb _ _=>wD b,λb z=>absurd z (wD b),e0.gK,e0.jQ⟩,
  rfl,e0.bare,Un.kept hk,⟨_,x.toInCall.ns,λi y v h1 h2 h3=>?_⟩,λy c h=>⟨_,x.cell y c h⟩,e0.aJ.fresh (bK _),λy c h=>?_,λp hp=>absurd (show p∈([]:List (Addr × Obj)) from hp) (by simp),e0.aJ.kept hk,?_⟩
 ·exact name_of_addr x.apart (PySem.mem_of_lookup h1) (PySem.mem_of_lookup h2)
 ·have hy:scope.names.lookup y=some .cell\/scope.names.lookup y=some .free:=hy
  rcases hy with hy | hy
  ·exact N3 hy
  ·exact absurd rfl (S.YC _ (PySem.mem_of_lookup hy))
 ·exact zx (x.above y c (PySem.mem_of_lookup h))
 ·have hi:i<vs.length:=by
   unfold start at h2
   by_cases hi:i<vs.length
   ·exact hi
   ·rw[mh (by simpa using hi)]at h2
    rw[rW]at h2
    split at h2<;>cases h2
  have ha:vs[i]?=some v:=by
   unfold start at h2
   rw[pd (by simpa using hi),bZ]at h2
   cases e:vs[i]? with
   | none=>rw[e]at h2;cases h2
   | some a=>rw[e]at h2;cases h2;rfl
  obtain⟨u,hu,rv⟩:=r.get ha
  have hp:ps[i]?=some y:=by
   rw[<-S.pre,We (by omega)];exact h1
  have N4:ps.Nodup:=by rw[<-S.pre];exact S.nd.sublist (List.take_sublist _ _)
  refine⟨u,rv,?_⟩
  rcases S.par y (rX hp)with k | k
  ·exact .inl ⟨k,N1 N4 hp hu k⟩
  ·obtain⟨c,e⟩:=N3 (n:=s.heap.objs.size+1) k
   refine .inr ⟨.inl k,c,e,?_⟩
   have q:=x.cell y c e
   rw[N2 N4 hp hu (by show scope.names.lookup y≠_;rw[k];decide)]at q
   exact q
 ·exact e0.aJ.fresh (zx (x.above y c (PySem.mem_of_lookup h)))
 ·unfold start
  show _=N.length
  rw[dm,bq,fW]
  omega
theorem Ao{CX:eO}{P:Program}{w:World}{K:PySem.W.Frag}{mg:Str->Option Value}{base:Heap}{k:Nat}{f:Addr}{name qual:Str}{params:Arguments}{body:List Stmt}{scope:Scope}{dV kV doc pm aD ct oc:Value}{an od:Option Addr}
  {g5:Array (Option Value)} {N ps:List Str} {sp:Sp} (lk:K.lookup f=some ⟨oc,od,.func (PySem.W.fnOf name qual params body scope dV kV doc pm an aD ct),g5⟩) (cK:PySem.W.codeIn K aD qual=true) (S:aZ N ps scope)
  (len:∀vs H Q E,sp vs H Q E->vs.length=ps.length)
  (gO:∀(A:Around) (outer:List Env) (s:Shared) (H:Hp) (vs:List V) (Q:VK) (E:XK),bW k (A.deeper (envOfC qual scope s.heap.objs.size f aD))->sp vs H Q E ->
   ∃t,PSs (iz CX P w K mg base N qual scope f aD A outer s H E) body t/\t { nx:=λ_ H'=>Q .au H',rt:=Q } (start N vs) H) :
  aM P w K mg base CX (k+1) f (PySem.W.fnOf name qual params body scope dV kV doc pm an aD ct) ps sp:=by
 refine⟨len,λA outer s H args us vs Q E hr e0 hb r g7=>?_⟩
 have hl:=len _ _ _ _ g7
 have KX:K.In s.heap:=e0.mod.mB.keeps λb o e=>(e0.bs b o e).1
 have lim:s.heap.NoLimit:=e0.mod.nolimit.keeps λb o e=>(e0.bs b o e).1
 have g8:∀y∈ps.zip us,scope.names.lookup y.1=some .local\/(scope.names.lookup y.1=some .cell/\((cellsFrom (s.heap.objs.size+1) scope.names []).lookup y.1).isSome=true):=λ⟨n,v⟩ hy=>by
  rcases S.par n (rV hy).1 with q | q
  ·exact .inl q
  ·exact .inr ⟨q,PySem.W.cellsFrom_some _ _ _ (.inl q)⟩
 refine codeAny_call_function hr.depth (KX _ _ lk) rfl S.co S.gen rfl (PySem.W.codeRec_of KX cK) (hb _ _ _ _ ?_)
 refine wpAny_newFunctionEnv_cells S.kind g8 λenv he s1 x=>?_
 subst he
 refine⟨lim.keeps x.toInCall.keep,codeAny_func ?_⟩
 obtain⟨t,ht,hq⟩:=gO A outer s H vs Q E (hr.deeper _) g7
 have I:Inv (iz CX P w K mg base N qual scope f aD A outer s H E) [] (start N vs) H s1:=YD S hr.hd e0 hl r x
 refine wpAny_mono (ht [] s1 (start N vs) H _ I hq) (λfl s' hs=>?_) λe s' hs=>hs
 have fin:∀{aI:St} {H':Hp} {v:V} {u:Value},Inv (iz CX P w K mg base N qual scope f aD A outer s H E) [] aI H' s'->RelV v u->Q v H'->CE outer P w H s Q u s' :=
  λ{aI H' v u} J rv q=>⟨v,H',J.os,J.bare,J.base,J.aJ,rv,q⟩
 cases fl with
 | ret u =>
  obtain⟨v,aI,H',J,rv,q⟩:=hs
  exact fin J rv q
 | next =>
  obtain⟨aI,H',J,q⟩:=hs
  exact fin (v:=V.au) (u:=oZ) J rfl q
 | brk =>
  obtain⟨_,_,_,q⟩:=hs
  exact fH q
 | cont =>
  obtain⟨_,_,_,q⟩:=hs
  exact fH q
end L2
namespace L2
open PySem PySem.Spec PyProof.Rows
section
variable{X:Cx}{x:Str}{p pos:Pos}{e:Expr}{es:List Expr}{t:TA}{id T:String}{r:List V->Hp->VK->Prop}
noncomputable def Ea(r:List V->Hp->VK->Prop)(t:TA):TE:=λσ H Q=>t σ H λvs H1=>r vs H1 Q
theorem Ap(hc:fZ X (.builtin id) r)(hg:Gl X x)(hm:X.mg x=none)(hv:bootBuiltins x=some (.builtin id))(ha:PA X (e::es) t)(hn:x≠"__name__":=by decide)(dW:(x==("__debug__":Str))=false:=by decide)
  (he:starEach (e::es) X.env=(false,eval e X.env)::starEach es X.env:=by rfl) (bN:(backTo pos (starEach es X.env)).any (·.1)=false:=by rfl):PE X (.Call (.Name x p) (e::es) [] pos) (Ea r t):=by
 intro pins s σ H Q I h
 refine wpAny_Call_Name_kw (pM I hg hm hv ?_ hn dW)
 exact PyProof.Rows.callWith_builtin1 (aP (ha pos pins s σ H _ I h) λus s1 ⟨vs,H1,I1,r1,q1⟩=>hc pins s1 σ H1 vs us Q I1 r1 q1) he bN
theorem YE(hc:fZ X (.type T) r)(hg:Gl X x)(hm:X.mg x=none)(hv:bootBuiltins x=some (.type T))(ha:PA X (e::es) t)(hn:x≠"__name__":=by decide)(dW:(x==("__debug__":Str))=false:=by decide)
  (he:starEach (e::es) X.env=(false,eval e X.env)::starEach es X.env:=by rfl) (bN:(backTo pos (starEach es X.env)).any (·.1)=false:=by rfl):PE X (.Call (.Name x p) (e::es) [] pos) (Ea r t):=by
 intro pins s σ H Q I h
 refine wpAny_Call_Name_kw (pM I hg hm hv ?_ hn dW)
 exact zA (aP (ha pos pins s σ H _ I h) λus s1 ⟨vs,H1,I1,r1,q1⟩=>hc pins s1 σ H1 vs us Q I1 r1 q1) he bN
end
end L2
namespace HT
open PySem PyProof.Rows
section
open PySem.SeqAt
open PySem.AutoSeq1 (wpAny_loadPart')
open PySem.MeetsSeq PySem.MeetsSeq2 PySem.MeetsSeq3
end
section
variable{prog:Program}{w:World}{A:Around}{E:Value->Shared->Prop}{s:Shared}
noncomputable def c9(n d:Nat):Option Int->Nat
 | none=>d
 | some v=>if v<0 then(v+(n:Int)).toNat else min v.toNat n
theorem Eb(n d k:Nat):c9 n d (some (k:Int))=min k n:=by
 show(if(k:Int)<0 then((k:Int)+(n:Int)).toNat else min (k:Int).toNat n)=min k n
 rw[if_neg (by omega),gy]
end
end HT
namespace L2
open PySem PySem.Spec PyProof.Rows
noncomputable abbrev TO:=St->Hp->(Option Int->Hp->Prop)->Prop
noncomputable def PO(X:Cx)(e:Option Expr)(t:TO):Prop :=
 ∀(pins:List (Addr × Obj)) (s:Shared) (σ:St) (H:Hp) (Q:Option Int->Hp->Prop),Inv X pins σ H s->t σ H Q ->
  wpAny (model X.prog X.w) X.A (evalPart e X.env) (λu s'=>∃o H',Inv X pins σ H' s'/\IsPart u o/\Q o H') X.xe s
noncomputable def YF:TO:=λ_ H Q=>Q none H
noncomputable def YG(t:TE):TO:=λσ H Q=>t σ H λx H1=>∃i,x=.int i/\Q (some i) H1
theorem YH{ns:List Int}:∀{us:List Value},Vals (ns.map V.int) us->IntsAre us ns:=by
 induction ns with
 | nil=>intro us r;rw[jH]at r;cases r;exact .nil
 | cons n ns ih =>
  intro us r
  rw[df]at r
  cases r with
  | cons r1 r2 =>
   obtain⟨t,e⟩:=r1
   subst e
   exact .cons n t (ih r2)
section
variable{X:Cx}{e:Expr}{te:TE}{lo hi:Option Expr}{tl th:TO}{pos p2:Pos}
theorem YI:PO X none YF:=by
 intro pins s σ H Q I h
 rw[evalPart_none]
 exact wpAny_pure ⟨none,H,I,.none,h⟩
theorem YJ(h:PE X e te):PO X (some e) (YG te):=by
 intro pins s σ H Q I hw
 rw[evalPart_some]
 refine aP (h pins s σ H _ I hw) λu s1 ⟨x,H1,I1,r1,q1⟩=>?_
 obtain⟨i,rfl,q⟩:=q1
 obtain⟨t,rfl⟩:=r1
 exact⟨some i,H1,I1,.int i t,q⟩
noncomputable def p7(X:Cx)(r:V->Option Int->Option Int->Hp->VK->Prop):Prop :=
 ∀(pins:List (Addr × Obj)) (s:Shared) (σ:St) (H:Hp) (x:V) (v vl vu:Value) (lo hi:Option Int) (sl:Addr) (Q:VK),Inv X pins σ H s->RelV x v->s.heap.IsSliceOf sl vl vu .none->IsPart vl lo->IsPart vu hi->r x lo hi H Q ->
  ∃T id,typeLookup (.type T) "__getitem__"=pure (some (.builtin id))/\s.TypeIs v T/\wpAny (model X.prog X.w) X.A (getItem v (.ref sl)) (EP X pins σ Q) X.xe s
theorem p7.or{r r':V->Option Int->Option Int->Hp->VK->Prop}(h:p7 X r)(h':p7 X r'):p7 X (λx lo hi H Q=>r x lo hi H Q\/r' x lo hi H Q):=by
 intro pins s σ H x v vl vu lo hi sl Q I rx hs pl pu q
 rcases q with q | q
 ·exact h pins s σ H x v vl vu lo hi sl Q I rx hs pl pu q
 ·exact h' pins s σ H x v vl vu lo hi sl Q I rx hs pl pu q
noncomputable def YK(r:V->Option Int->Option Int->Hp->VK->Prop)(te:TE)(tl th:TO):TE:=λσ H Q=>te σ H λx H1=>tl σ H1 λl H2=>th σ H2 λu H3=>r x l u H3 Q
theorem YL{r:V->Option Int->Option Int->Hp->VK->Prop}(hr:p7 X r)(he:PE X e te)(hl:PO X lo tl)(hu:PO X hi th):PE X (.Subscript e (.Slice lo hi none p2) pos) (YK r te tl th):=by
 intro pins s σ H Q I h
 refine Subscript_ (aP (he pins s σ H _ I h) λv s1 ⟨x,H1,I1,r1,q1⟩=>?_)
 refine wpAny_Slice (aP (hl pins s1 σ H1 _ I1 q1) λvl s2 ⟨l,H2,I2,pl,q2⟩=>aP (hu pins s2 σ H2 _ I2 q2) λvu s3 ⟨u,H3,I3,pu,q3⟩=>?_)
 rw[evalPart_none]
 refine wpAny_pure ?_
 have I4:Inv X pins σ H3 { s3 with heap:=s3.heap.push { cls:=.type "slice",data:=.fields #[vl,vu,.none] } }:=I3.kept (t':=s3.toks) λb ob q=>fu _ q
 obtain⟨T,id,hT,ht,hg⟩:=hr pins { s3 with heap:=s3.heap.push { cls:=.type "slice",data:=.fields #[vl,vu,.none] } } σ H3 x v vl vu l u s3.heap.objs.size Q I4 r1 (Heap.IsSliceOf.new ..) pl pu q3
 show wpAny (model X.prog X.w) X.A (subscriptTail e (.Slice lo hi none p2) v (.ref s3.heap.objs.size)) (EP X pins σ Q) X.xe { s3 with heap:=s3.heap.push { cls:=.type "slice",data:=.fields #[vl,vu,.none] } }
 exact tail_any (ops:=[.ref s3.heap.objs.size,v]) ht hT hg (by with_unfolding_all rfl)
noncomputable def sR(xs:List V)(lo hi:Option Int):List V:=(xs.drop (HT.c9 xs.length 0 lo)).take (HT.c9 xs.length xs.length hi-HT.c9 xs.length 0 lo)
theorem YM(xs:List V)(lo hi:Option Int):(sR xs lo hi).length<=xs.length:=by
 unfold sR
 rw[iu,jI]
 omega
end
end L2
namespace L2
open PySem PySem.Spec PyProof.Rows
noncomputable def iA(n:Nat)(i:Int):Option Nat:=if 0<=i then(if i<n then some i.toNat else none)else if -(n:Int)<=i then some (i+n).toNat else none
noncomputable def eP{α:Type}(xs:List α)(i:Int):Option α:=(iA xs.length i).bind λj=>xs[j]?
theorem N5{n:Nat}{i:Int}{j:Nat}(h:iA n i=some j):seqIndex? i n=some j/\j<n/\-(n:Int)<=i/\i<n:=by
 unfold iA at h
 by_cases h0:0<=i
 ·rw[if_pos h0]at h
  by_cases h1:i<n
  ·rw[if_pos h1]at h
   have e:i.toNat=j:=cO h
   exact⟨by rw[seqIndex_of h0 h1,e],by omega,by omega,h1⟩
  ·rw[if_neg h1]at h;cases h
 ·rw[if_neg h0]at h
  by_cases h1:-(n:Int)<=i
  ·rw[if_pos h1]at h
   have e:(i+n).toNat=j:=cO h
   exact⟨by rw[seqIndex_neg (by omega) h1,e],by omega,h1,by omega⟩
  ·rw[if_neg h1]at h;cases h
theorem mF{α:Type}{xs:List α}{i:Int}{v:α}(h:eP xs i=some v):∃j,seqIndex? i xs.length=some j/\xs[j]?=some v/\j<xs.length/\-(xs.length:Int)<=i/\i<xs.length:=by
 unfold eP at h
 cases e:iA xs.length i with
 | none=>rw[e]at h;cases h
 | some j =>
  rw[e]at h
  obtain⟨h1,h2,h3,h4⟩:=N5 e
  exact⟨j,h1,h,h2,h3,h4⟩
noncomputable def N6(b:Expr):Prop:=∀o i,subscripted b false o i=operate [o,i] (getItem o i)
noncomputable def mG(X:Cx)(r:R2):Prop :=
 ∀(value slice:Expr) (pins:List (Addr × Obj)) (s:Shared) (σ:St) (H:Hp) (x y:V) (v u:Value) (Q:VK),Inv X pins σ H s->RelV x v->RelV y u->r x y H Q ->
  subscripted slice false v u=operate [v,u] (getItem v u)->wpAny (model X.prog X.w) X.A (subscriptTail value slice v u) (EP X pins σ Q) X.xe s
noncomputable def Aq(X:Cx)(id:String)(r:V->List V->Hp->VK->Prop):Prop :=
 ∀(pins:List (Addr × Obj)) (s:Shared) (σ:St) (H:Hp) (x:V) (xs:List V) (v:Value) (us:List Value) (Q:VK),Inv X pins σ H s->RelV x v->Vals xs us->r x xs H Q ->
  wpAny (model X.prog X.w) X.A (call (.builtin id) (v::us)) (EP X pins σ Q) X.xe s
section
variable{X:Cx}{a b:Expr}{ta tb:TE}{pos:Pos}
theorem mG.or{r r':R2}(h:mG X r)(h':mG X r'):mG X (λx y H Q=>r x y H Q\/r' x y H Q):=by
 intro value slice pins s σ H x y v u Q I rx ry q hs
 rcases q with q | q
 ·exact h value slice pins s σ H x y v u Q I rx ry q hs
 ·exact h' value slice pins s σ H x y v u Q I rx ry q hs
theorem YN{r:R2}(hr:mG X r)(ha:PE X a ta)(hb:PE X b tb)(hs:N6 b):PE X (.Subscript a b pos) (wz r ta tb):=by
 intro pins s σ H Q I h
 exact Subscript_ (D4 ha hb I h λv u s2 x y H2 I2 rx ry q=>hr a b pins s2 σ H2 x y v u Q I2 rx ry q (hs _ _))
noncomputable def N7(K:PySem.W.Frag):R2:=λx y H Q=>∃p xs i v,x=.ref p/\y=.int i/\bM K H p xs/\eP xs i=some v/\Q v H
noncomputable def N8(K:PySem.W.Frag):R2:=λx y H Q=>∃p xs i v,x=.ref p/\y=.int i/\gX K H p xs/\eP xs i=some v/\Q v H
noncomputable def N9:R2:=λx y H Q=>∃z i c,x=.str z/\y=.int i/\z.length<=sizeLine/\eP z.cps.toList i=some c/\Q (.str ⟨#[c]⟩) H
theorem YO:mG X (N7 X.K):=by
 intro value slice pins s σ H x y v u Q I rx ry h hs
 obtain⟨p,xs,i,z,rfl,rfl,hq,he,q⟩:=h
 cases rx
 obtain⟨t,rfl⟩:=ry
 obtain⟨its,r,pl,hz⟩:=I.list hq
 obtain⟨j,h1,h2,h3,h4,h5⟩:=mF he
 obtain⟨w,ew,gb⟩:=r.get h2
 have hl:=r.length
 have hn:=sO
 have fin:EP X pins σ Q w s:=⟨z,H,I,gb,q⟩
 by_cases h0:0<=i
 ·have hj:i.toNat=j:=by
   rw[seqIndex_of h0 h5]at h1
   exact cO h1
  exact item_listR pl.isList h0 (by omega) (by rw[hj];simpa using ew) fin hs
 ·have hj:(i+(its.toArray.size:Int)).toNat=j:=by
   rw[seqIndex_neg (by omega) h4]at h1
   rw[dD,<- hl]
   exact cO h1
  exact subscriptTail_builtinR (x:=w) pl.isList.typeIs slot_list_getitem.lookup
   (wpAny_getItem_list_neg (Q:=λr s'=>r=w/\EP X pins σ Q r s') pl.isList (by omega) (by rw[dD]<;>omega) (by omega) (by rw[hj];simpa using ew) ⟨rfl,fin⟩) hs
theorem YQ:mG X (N8 X.K):=by
 intro value slice pins s σ H x y v u Q I rx ry h hs
 obtain⟨p,xs,i,z,rfl,rfl,hq,he,q⟩:=h
 cases rx
 obtain⟨t,rfl⟩:=ry
 obtain⟨its,r,pl,hz⟩:=I.tuple hq
 obtain⟨j,h1,h2,h3,h4,h5⟩:=mF he
 obtain⟨w,ew,gb⟩:=r.get h2
 have hl:=r.length
 have hn:=sO
 have fin:EP X pins σ Q w s:=⟨z,H,I,gb,q⟩
 exact subscriptTail_builtinR (x:=w) pl.typeIs slot_tuple_getitem.lookup
  (getItem_tuple (j:=j) (Q:=λr s'=>r=w/\EP X pins σ Q r s') pl (by omega) (by omega) (by rw[dD,<- hl];exact h1) (by simpa using ew) ⟨rfl,fin⟩) hs
theorem YR:mG X N9:=by
 intro value slice pins s σ H x y v u Q I rx ry h hs
 obtain⟨z,i,c,rfl,rfl,hz,he,q⟩:=h
 obtain⟨t,rfl⟩:=rx
 obtain⟨t',rfl⟩:=ry
 obtain⟨j,h1,h2,h3,h4,h5⟩:=mF he
 have hl:z.cps.toList.length=z.length:=by simp[Str.length]
 rw[hl]at h1 h4 h5
 have hn:=sO
 exact tail_any (typeIs_str s z t) slot_str_getitem.lookup (getItem_str (c:=c) (by
  have e1:decide (i < -(2 ^ 63:Int))=false:=decide_eq_false (by omega)
  have e2:decide (i ≥ 2 ^ 63)=false:=decide_eq_false (by omega)
  rw[e1,e2,vR]) (by rw[h1];simpa using h2) ⟨.str ⟨#[c]⟩,H,I.tok _,⟨_,rfl⟩,q⟩) hs
noncomputable def YS(K:PySem.W.Frag):R2:=λx y H Q=>N7 K x y H Q\/N8 K x y H Q\/N9 x y H Q
theorem YT:mG X (YS X.K):=YO.or (YQ.or YR)
theorem YU(its:List Value)(n j:Nat)(u:Value):zE (·.setIfInBounds j u) { cls:=.type "list",data:=.seq its.toArray n }={ cls:=.type "list",data:=.seq (its.set j u).toArray n }:=by
 simp[zE]
theorem Inv.lst{pins:List (Addr × Obj)}{σ:St}{H:Hp}{s:Shared}{p:Addr}{xs:List V}(I:Inv X pins σ H s)(h:H p=some (.lst xs)) :
  ∃(its:List Value) (n:Nat),Vals xs its/\s.heap.get? p=some { cls:=.type "list",data:=.seq its.toArray n }/\xs.length<=sizeLine:=by
 obtain⟨z,its,n,r,e⟩:=I.aJ p _ h
 exact⟨its,n,r,e,z⟩
theorem Inv.YV{pins:List (Addr × Obj)}{σ:St}{H:Hp}{s:Shared}{p:Addr}{xs ys:List V}{its its':List Value}{n n':Nat}{f:Obj->Obj}(I:Inv X pins σ H s)(h:H p=some (.lst xs))
  (ho:s.heap.get? p=some { cls:=.type "list",data:=.seq its.toArray n }) (hf:f { cls:=.type "list",data:=.seq its.toArray n }={ cls:=.type "list",data:=.seq its'.toArray n' }) (r:Vals ys its') (hz:ys.length<=sizeLine) (t:Nat) :
  Inv X pins σ (upd H p (.lst ys)) { s with heap:=s.heap.update p f,toks:=t }:=by
 have e:(s.heap.update p f).get? p=some { cls:=.type "list",data:=.seq its'.toArray n' }:=by
  rw[Dh f ho (by rw[hf]<;>rfl),hf]
 refine I.write (x:=p) (e:=p) (by rw[h];trivial) (.inl rfl) (λb u hb q=>(pf _ _ (ft hb)).trans q) ⟨_,e⟩ ?_
 exact⟨hz,its',n',r,e⟩
noncomputable def YW:V->V->V->Hp->(Hp->Prop)->Prop:=λo i v H Q=>∃p xs k j,o=.ref p/\i=.int k/\H p=some (.lst xs)/\iA xs.length k=some j/\Q (upd H p (.lst (xs.set j v)))
theorem YX:NI X YW:=by
 intro pins s σ H o i v ov iv u Q I ro ri rv h
 obtain⟨p,xs,k,j,rfl,rfl,hp,hj,q⟩:=h
 cases ro
 obtain⟨t,rfl⟩:=ri
 obtain⟨its,n,r,ho,hz⟩:=I.lst hp
 obtain⟨h1,h2,h3,h4⟩:=N5 hj
 have hl:=r.length
 have hn:=sO
 have I':Inv X pins σ (upd H p (.lst (xs.set j v))) { s with heap:=s.heap.update p (zE (·.setIfInBounds j u)) } :=
  I.YV hp ho (YU its n j u) (r.set rv j) (by rw[gW];exact hz) s.toks
 by_cases h0:0<=k
 ·have hk:k.toNat=j:=by
   rw[seqIndex_of h0 h4]at h1
   exact cO h1
  exact PySem.W.ki_setAt ho h0 (by omega) (by rw[dD,<- hl];exact h4) (by rw[hk];exact⟨_,I',q⟩)
 ·have hk:(k+(its.toArray.size:Int)).toNat=j:=by
   rw[seqIndex_neg (by omega) h3]at h1
   rw[dD,<- hl]
   exact cO h1
  exact PySem.W.ki_setBack ho (by omega) (by rw[dD,<- hl];exact h3) (by omega) (by rw[hk];exact⟨_,I',q⟩)
theorem Ec(lo hi:Option Int)(n:Nat):(sliceBounds lo hi none n).1=((HT.c9 n 0 lo:Nat):Int)/\(sliceBounds lo hi none n).2.1=((HT.c9 n n hi:Nat):Int)/\(sliceBounds lo hi none n).2.2=1:=by
 refine⟨?_,?_,rfl⟩
 ·cases lo with
  | none=>simp[sliceBounds,HT.c9]
  | some i =>
   simp only[sliceBounds,HT.c9,rY,show(1:Int)>0 by decide,if_true]
   by_cases h:i<0
   ·simp only[h,if_true]<;>omega
   ·simp only[h,if_false]<;>omega
 ·cases hi with
  | none=>simp[sliceBounds,HT.c9]
  | some i =>
   simp only[sliceBounds,HT.c9,rY,show(1:Int)>0 by decide,if_true]
   by_cases h:i<0
   ·simp only[h,if_true]<;>omega
   ·simp only[h,if_false]<;>omega
theorem YY(its:List Value)(lo hi:Option Int):slicePick its.toArray lo hi none=((its.drop (HT.c9 its.length 0 lo)).take (HT.c9 its.length its.length hi-HT.c9 its.length 0 lo)).toArray:=by
 obtain⟨h1,h2,h3⟩:=Ec lo hi its.toArray.size
 unfold slicePick
 rw[h1,h2,h3]
 simp only[sliceRange_one,pick_run,dD]<;>rfl
noncomputable def YZ(K:PySem.W.Frag):V->Option Int->Option Int->Hp->VK->Prop:=λx lo hi H Q=>∃a xs,x=.ref a/\bM K H a xs/\∀p,H p=none->Q (.ref p) (upd H p (.lst (sR xs lo hi)))
theorem Y0:p7 X (YZ X.K):=by
 intro pins s σ H x v vl vu lo hi sl Q I rx hs pl pu h
 obtain⟨a,xs,rfl,hx,q⟩:=h
 cases rx
 obtain⟨its,r,ht,hz⟩:=I.list hx
 have hlen:=r.length
 refine⟨"list",_,slot_list_getitem.lookup,ht.isList.typeIs,?_⟩
 refine wpAny_getItem_list_slice ht.isList hs pl pu .none (by simp) ?_ (by rw[dD]<;>omega)
 rw[YY,<- hlen]
 refine⟨.ref s.heap.objs.size,_,I.laid (t':=s.toks) (o:=.lst (sR xs lo hi)) (λb ob q=>fu _ q) (bK _) ?_,rfl,q _ (I.aJ.fresh (bK _))⟩
 exact⟨fg (YM xs lo hi) hz,_,0,(r.drop (HT.c9 xs.length 0 lo)).take (HT.c9 xs.length xs.length hi-HT.c9 xs.length 0 lo),gx _ rfl⟩
noncomputable def mH:V->Bool
 | .au=>true
 | .bl _=>true
 | .int _=>true
 | .str _=>true
 | _=>false
noncomputable def lh:V->V->Bool
 | .au,.au=>true
 | .bl a,.bl b=>a==b
 | .bl a,.int b=>(if a then 1 else 0)==b
 | .int a,.bl b=>a==(if b then 1 else 0)
 | .int a,.int b=>a==b
 | .str a,.str b=>a==b
 | _,_=>false
theorem Y1{A:Around}{s:Shared}{y x:V}{u v:Value}(ry:RelV y u)(rx:RelV x v)(fy:mH y=true)(fx:mH x=true):Di A s u v (lh y x):=by
 cases y with
 | au =>
  cases ry
  cases x with
  | au=>cases rx;exact SeqAt.EqAt.same _
  | bl b=>cases rx;exact SeqAt.EqAt.none_bool b
  | int b=>obtain⟨t,rfl⟩:=rx;exact SeqAt.EqAt.none_int b t
  | str b=>obtain⟨t,rfl⟩:=rx;exact SeqAt.EqAt.none_str b t
  | _=>exact absurd (show false=true from fx) ir
 | bl a =>
  cases ry
  cases x with
  | au=>cases rx;exact SeqAt.EqAt.bool_none a
  | bl b=>cases rx;exact SeqAt.EqAt.bool_bool a b
  | int b=>obtain⟨t,rfl⟩:=rx;exact SeqAt.EqAt.bool_int a b t
  | str b=>obtain⟨t,rfl⟩:=rx;exact SeqAt.EqAt.bool_str a b t
  | _=>exact absurd (show false=true from fx) ir
 | int a =>
  obtain⟨t',rfl⟩:=ry
  cases x with
  | au=>cases rx;exact SeqAt.EqAt.int_none a t'
  | bl b=>cases rx;exact SeqAt.EqAt.int_bool a t' b
  | int b=>obtain⟨t,rfl⟩:=rx;exact SeqAt.EqAt.int_int a t' b t
  | str b=>obtain⟨t,rfl⟩:=rx;exact SeqAt.EqAt.int_str a t' b t
  | _=>exact absurd (show false=true from fx) ir
 | str a =>
  obtain⟨t',rfl⟩:=ry
  cases x with
  | au=>cases rx;exact SeqAt.EqAt.str_none a t'
  | bl b=>cases rx;exact SeqAt.EqAt.str_bool a t' b
  | int b=>obtain⟨t,rfl⟩:=rx;exact SeqAt.EqAt.str_int a t' b t
  | str b=>obtain⟨t,rfl⟩:=rx;exact SeqAt.EqAt.str_str a t' b t
  | _=>exact absurd (show false=true from fx) ir
 | _=>exact absurd (show false=true from fy) ir
noncomputable def mI(x:V)(u:Value):Bool:=match u with
 | .none=>lh .au x
 | .bool b=>lh (.bl b) x
 | .int i _=>lh (.int i) x
 | .str z _=>lh (.str z) x
 | _=>false
theorem Oa{x y:V}{u:Value}(r:RelV y u)(f:mH y=true):mI x u=lh y x:=by
 cases y with
 | au=>cases r;rfl
 | bl b=>cases r;rfl
 | int i=>obtain⟨t,rfl⟩:=r;rfl
 | str z=>obtain⟨t,rfl⟩:=r;rfl
 | _=>exact absurd (show false=true from f) ir
theorem Ee{x:V}:∀{xs:List V} {us:List Value},Vals xs us->xs.all mH=true->us.any (mI x)=xs.any λy=>lh y x
 | _,_,.nil,_=>rfl
 | y::xs,u::us,.cons r t,f=>by
  rw[dh,dZ]at f
  rw[List.any_cons,List.any_cons,Oa r f.1,Ee t f.2]
theorem Ef{A:Around}{s:Shared}{x:V}{v:Value}(rx:RelV x v)(fx:mH x=true):∀{xs:List V} {us:List Value},Vals xs us->xs.all mH=true->∀u∈us,Di A s u v (mI x u)
 | _,_,.nil,_=>λu hu=>by cases hu
 | y::xs,u::us,.cons r t,f=>λu' hu=>by
  rw[dh,dZ]at f
  rcases cA.mp hu with rfl | hu
  ·rw[Oa r f.1];exact Y1 r rx f.1 fx
  ·exact Ef rx fx t f.2 u' hu
noncomputable def Ar(x:V)(xs:List V):Bool:=xs.any λy=>lh y x
noncomputable def Y2(K:PySem.W.Frag)(neg:Bool):R2:=λx y H Q=>∃p xs,y=.ref p/\(bM K H p xs\/gX K H p xs)/\mH x=true/\xs.all mH=true/\Q (.bl (if neg then !Ar x xs else Ar x xs)) H
theorem Y3:cu X (compareOp .NotIn) (Y2 X.K true):=by
 intro pins s σ H x y v u Q I rx ry h
 obtain⟨p,xs,rfl,hq,fx,fs,q⟩:=h
 cases ry
 rcases hq with hq | hq
 ·obtain⟨its,r,pl,hz⟩:=I.list hq
  refine SeqAt.notIn_listAt (mI x) pl.isList (λw hw=>Ef rx fx r fs w (by simpa using hw)) ⟨.bl _,H,I,rfl,?_⟩
  rw[show its.toArray.any (mI x)=its.any (mI x) by simp,Ee r fs]
  exact q
 ·obtain⟨its,r,pl,hz⟩:=I.tuple hq
  refine SeqAt.notIn_tupleAt (mI x) pl (λw hw=>Ef rx fx r fs w (by simpa using hw)) ⟨.bl _,H,I,rfl,?_⟩
  rw[show its.toArray.any (mI x)=its.any (mI x) by simp,Ee r fs]
  exact q
theorem Ob:fZ X (.builtin "len") (λxs H Q=>∃p ys,xs=[.ref p]/\(bM X.K H p ys\/gX X.K H p ys)/\Q (.int ys.length) H):=by
 intro pins s σ H xs us Q I r h
 obtain⟨p,ys,rfl,hq,q⟩:=h
 obtain⟨u,rfl,rx⟩:=D8 r
 cases rx
 have hn:=sO
 rcases hq with hq | hq
 ·obtain⟨its,r',pl,hz⟩:=I.list hq
  have hlen:=r'.length
  exact Calls.call_len_list pl.isList (by simp only[dD]<;>omega) ⟨.int ys.length,H,I.tok _,⟨s.toks+1,by rw[dD,hlen]⟩,q⟩
 ·obtain⟨its,r',pl,hz⟩:=I.tuple hq
  have hlen:=r'.length
  exact len_tuple pl (by simp only[dD]<;>omega) ⟨.int ys.length,H,I.tok _,⟨s.toks+1,by rw[dD,hlen]⟩,q⟩
theorem Y4:fZ X (.builtin "len") (λxs H Q=>∃z,xs=[.str z]/\z.length<=sizeLine/\Q (.int z.length) H):=by
 intro pins s σ H xs us Q I r h
 obtain⟨z,rfl,hz,q⟩:=h
 obtain⟨u,rfl,t,rfl⟩:=D8 r
 have hn:=sO
 exact len_str (by omega) ⟨.int z.length,H,I.tok _,⟨_,rfl⟩,q⟩
theorem fZ.or{f:Value}{r r':List V->Hp->VK->Prop}(h:fZ X f r)(h':fZ X f r'):fZ X f (λxs H Q=>r xs H Q\/r' xs H Q):=by
 intro pins s σ H xs us Q I rs q
 rcases q with q | q
 ·exact h pins s σ H xs us Q I rs q
 ·exact h' pins s σ H xs us Q I rs q
theorem Y5:fZ X (.type "list") (λxs H Q=>∃p ys,xs=[.ref p]/\(bM X.K H p ys\/gX X.K H p ys)/\∀l,H l=none->Q (.ref l) (upd H l (.lst ys))):=by
 intro pins s σ H xs us Q I r h
 obtain⟨p,ys,rfl,hq,q⟩:=h
 obtain⟨u,rfl,rx⟩:=D8 r
 cases rx
 have fin:∀(its:List Value),Vals ys its->ys.length<=sizeLine->∀(h':Heap) (c':Nat),(∀b o',s.heap.get? b=some o'->h'.get? b=some o') ->
   h'.get? s.heap.objs.size=some { cls:=.type "list",dict:=none,data:=.seq its.toArray c',slots:=#[] }->EP X pins σ Q (.ref s.heap.objs.size) { s with heap:=h' }:=λits r' hz h' c' kp e =>
  ⟨.ref s.heap.objs.size,_,I.laid (t':=s.toks) kp (bK _) (show dU X.prog X.w _ h' _ (.lst ys) from⟨hz,its,c',r',e⟩),rfl,q _ (I.aJ.fresh (bK _))⟩
 rcases hq with hq | hq
 ·obtain⟨its,r',pl,hz⟩:=I.list hq
  have hlen:=r'.length
  obtain⟨o,ho,hc,n,hd⟩:=pl.isList
  exact call_list_seq p (.inl rfl) ho hc hd (λh' c' kp e=>fin its r' hz h' c' kp e) (by simp only[dD]<;>omega)
 ·obtain⟨its,r',pl,hz⟩:=I.tuple hq
  have hlen:=r'.length
  obtain⟨o,ho,hc,n,hd⟩:=pl
  exact call_list_seq p (.inr rfl) ho hc hd (λh' c' kp e=>fin its r' hz h' c' kp e) (by simp only[dD]<;>omega)
noncomputable def Eg(K:PySem.W.Frag)(T:String)(x:V)(H:Hp):Prop:=match x with
 | .str _=>T="str"
 | .int _=>T="int"
 | .ref p=>(T="list"/\∃xs,bM K H p xs)\/(T="tuple"/\∃o,K.lookup p=some o/\o.cls=.type "tuple"/\o.dict=none) \/
   (T="dict"/\((∃dE,H p=some (.dK dE))\/∃dE,H p=some (.dT dE)))\/(T="set"/\∃S n,H p=some (.set S n))
 | _=>False
theorem Oc{pins:List (Addr × Obj)}{σ:St}{H:Hp}{s:Shared}{T:String}{x:V}{v:Value}(I:Inv X pins σ H s)(r:RelV x v)(ty:Eg X.K T x H) :
  s.TypeIs v T/\∀a,v=.ref a->∃ob,s.heap.get? a=some ob/\ob.dict=none:=by
 cases x with
 | str z =>
  obtain⟨t,rfl⟩:=r
  cases(show T="str" from ty)
  exact⟨typeIs_str s z t,λ_ e=>nomatch e⟩
 | int i =>
  obtain⟨t,rfl⟩:=r
  cases(show T="int" from ty)
  exact⟨typeIs_int s i t,λ_ e=>nomatch e⟩
 | ref p =>
  cases r
  rcases ty with⟨rfl,xs,hq⟩ | ⟨rfl,o,hk,hc,hd⟩ | ⟨rfl,hk⟩ | ⟨rfl,S,n,hk⟩
  ·obtain⟨its,_,pl,_⟩:=I.list hq
   refine⟨pl.isList.typeIs,λa e=>?_⟩
   cases e
   obtain⟨o,n,e,c,hd,_⟩:=pl
   exact⟨o,e,hd⟩
  ·refine⟨⟨o,I.cY p o hk,hc⟩,λa e=>?_⟩
   cases e
   exact⟨o,I.cY _ o hk,hd⟩
  ·have z:∃o,s.heap.get? p=some o/\o.ExactDict:=by
    rcases hk with⟨dE,hk⟩ | ⟨dE,hk⟩
    ·obtain⟨_,_,_,_,o,_,_,e,ex,_⟩:=I.aJ p _ hk
     exact⟨o,e,ex⟩
    ·obtain⟨_,_,_,_,o,_,_,e,ex,_⟩:=I.aJ p _ hk
     exact⟨o,e,ex⟩
   obtain⟨o,e,ex⟩:=z
   refine⟨⟨o,e,ex.1⟩,λa e2=>?_⟩
   cases e2
   exact⟨o,e,ex.2.1⟩
  ·obtain⟨o,_,_,_,e,ex,_⟩:=I.aJ p _ hk
   refine⟨⟨o,e,ex.1⟩,λa e2=>?_⟩
   cases e2
   exact⟨o,e,ex.2.1⟩
 | _=>exact fH ty
noncomputable def Od(K:PySem.W.Frag)(T:String)(r:V->List V->Hp->VK->Prop)(to:TE):TE:=λσ H Q=>to σ H λx H1=>Eg K T x H1/\r x [] H1 Q
noncomputable def Y6(K:PySem.W.Frag)(T:String)(r:V->List V->Hp->VK->Prop)(to:TE)(t:TA):TE:=λσ H Q=>to σ H λx H1=>Eg K T x H1/\t σ H1 λxs H2=>r x xs H2 Q
variable{o e:Expr}{es:List Expr}{to:TE}{t:TA}{name:Str}{apos b9:Pos}{T id:String}{r:V->List V->Hp->VK->Prop}
theorem Y7(pa:PlainAttrs T)(slot:Slot T name id)(Eh:typeOf (.builtin id)=pure (.type "method_descriptor"))(hm:Aq X id r)(ho:PE X o to)
  (mJ:attributeBase o name X.env (eval o X.env)=eval o X.env:=by rfl) (mK:(apos.endLine==b9.line)=true:=by rfl):PE X (.Call (.Attribute o name apos) [] [] b9) (Od X.K T r to):=by
 intro pins s σ H Q I h
 refine wpAny_Call_method0_late mJ mK (aP (ho pins s σ H _ I h) λv s1 ⟨x,H1,I1,r1,ty,q1⟩=>?_)
 obtain⟨h1,h2⟩:=Oc I1 r1 ty
 exact⟨T,id,pa,slot,Eh,h1,h2,Calls.callWith_builtin rfl (PySem.evalArgs_none (hm pins s1 σ H1 x [] v [] Q I1 r1 .nil q1))⟩
theorem Y8(pa:PlainAttrs T)(slot:Slot T name id)(Eh:typeOf (.builtin id)=pure (.type "method_descriptor"))(hm:Aq X id r)(ho:PE X o to)(ha:PA X (e::es) t)
  (mJ:attributeBase o name X.env (eval o X.env)=eval o X.env:=by rfl)
  (Ei:((backTo b9 (starEach (e::es) X.env)).all (λx=>!x.1)&&(backToKw b9 (keywordEach [] X.env)).all (λx=>x.1.isSome)
   && decide ((e::es).length+([]:List Keyword).length+(if([]:List Keyword).isEmpty then 0 else 1)<30))=true:=by rfl)
  (mK:(apos.endLine==b9.line)=true:=by rfl) (hs:starEach (e::es) X.env=(false,eval e X.env)::starEach es X.env:=by rfl) (Ej:(backTo b9 (starEach es X.env)).any (·.1)=false:=by rfl) :
  PE X (.Call (.Attribute o name apos) (e::es) [] b9) (Y6 X.K T r to t):=by
 intro pins s σ H Q I h
 refine wpAny_Call_method_late mJ Ei mK rfl (aP (ho pins s σ H _ I h) λv s1 ⟨x,H1,I1,r1,ty,q1⟩=>?_)
 obtain⟨h1,h2⟩:=Oc I1 r1 ty
 refine⟨T,id,pa,slot,Eh,h1,h2,?_⟩
 have hA:=ha b9 pins s1 σ H1 _ I1 q1
 rw[hs]at hA ⊢
 refine Calls.callWith_builtin (by show(false||(backTo b9 (starEach es X.env)).any (·.1))=false;rw[Ej]<;>rfl) (Calls.evalArgs_plain ?_)
 exact aP hA λus s2 ⟨vs,H2,I2,r2,q2⟩=>hm pins s2 σ H2 x vs v us Q I2 r1 r2 q2
/- xs.append(e),list.index on a d54 tuple .. are Aq facts of 06m -/
end
end L2
namespace L2
open PySem PySem.Spec PyProof.Rows
noncomputable def Y9(X:Cx)(id:String)(r:V->List V->Hp->VK->Prop):Prop :=
 ∀(pins:List (Addr × Obj)) (s:Shared) (σ:St) (H:Hp) (x:V) (xs:List V) (v:Value) (us:List Value) (Q:VK),Inv X pins σ H s->RelV x v->Vals xs us->r x xs H Q ->
  wpAny (model X.prog X.w) X.A (call (.builtin id) (v::us)) (EP X pins σ Q) X.xe s
theorem Vals.one:∀{x:V} {us:List Value},Vals [x] us->∃u,us=[u]/\RelV x u
 | _,_,.cons r .nil=>⟨_,rfl,r⟩
theorem Vals.two:∀{x y:V} {us:List Value},Vals [x,y] us->∃u v,us=[u,v]/\RelV x u/\RelV y v
 | _,_,_,.cons r (.cons q .nil)=>⟨_,_,rfl,r,q⟩
theorem Vals.rep{xs:List V}{us:List Value}(h:Vals xs us):∀k:Nat,Vals (bj k xs).flatten (bj k us).flatten
 | 0=>.nil
 | k+1=>by
  rw[ph,ph,rZ,rZ]
  exact Vals.append h (Vals.rep h k)
theorem Oe(its:List Value):∀(k:Nat) (acc:List Value),
  List.foldl (λx1 x2=>x1++x2) acc.toArray (bj k its.toArray)=(acc++(bj k its).flatten).toArray
 | 0,acc=>by simp
 | k+1,acc=>by
  have e:acc.toArray++its.toArray=(acc++its).toArray:=by simp
  have e2:(acc++its)++(bj k its).flatten=acc++(bj (k+1) its).flatten:=by
   rw[ph,rZ,dM]
  rw[<-e2,<- Oe its k (acc++its),<- e,ph,se]
section
variable{X:Cx}{pins:List (Addr × Obj)}{σ:St}{H:Hp}{s:Shared}{l b:Addr}{xs ys zs:List V}
theorem Inv.Za{its its':List Value}{n:Nat}{f:Array Value->Array Value}{t':Nat}(I:Inv X pins σ H s)(hH:H l=some (.lst xs))
  (e:s.heap.get? l=some { cls:=.type "list",data:=.seq its.toArray n }) (hf:f its.toArray=its'.toArray) (hv:Vals ys its') (hz:ys.length<=sizeLine) :
  Inv X pins σ (upd H l (.lst ys)) { s with heap:=s.heap.update l (zE f),toks:=t' }:=by
 have q:=PySem.IsL.update e f
 rw[hf]at q
 refine I.write (x:=l) (e:=l) (by rw[hH];exact trivial) (.inl rfl) (λb' u hb hu=>(pf s.heap (zE f) (ft hb)).trans hu) ⟨_,q⟩ ?_
 exact⟨hz,its',_,hv,q⟩
theorem Inv.Of{its:List Value}{t':Nat}(I:Inv X pins σ H s)(hv:Vals ys its)(hz:ys.length<=sizeLine) :
  Inv X pins σ (upd H s.heap.objs.size (.lst ys)) { s with heap:=s.heap.push { cls:=.type "list",data:=.seq its.toArray },toks:=t' } :=
 I.laid (λ_ _ q=>fu _ q) (bK _) ⟨hz,its,0,hv,gx _ rfl⟩
theorem Inv.fresh(I:Inv X pins σ H s):H s.heap.objs.size=none:=I.aJ.fresh (bK _)
theorem Inv.As(I:Inv X pins σ H s)(hH:H l=some (.lst xs)):xs.length<=sizeLine/\∃(its:List Value) (n:Nat),Vals xs its/\xs.length=its.length/\s.heap.get? l=some { cls:=.type "list",data:=.seq its.toArray n }:=by
 obtain⟨z,its,n,r,e⟩:=I.aJ l _ hH
 exact⟨z,its,n,r,r.length,e⟩
theorem Zb{n:Nat}(h:n<=sizeLine):MS n=false:=by
 unfold MS
 exact decide_eq_false (by omega)
end
section
variable{X:Cx}
noncomputable def Zc:V->List V->Hp->VK->Prop:=λx vs H Q=>∃l xs y,x=.ref l/\vs=[y]/\H l=some (.lst xs)/\xs.length<sizeLine/\Q .au (upd H l (.lst (xs++[y])))
theorem Og:Y9 X "list.append" Zc:=by
 intro pins s σ H x vs v us Q I rx rv h
 obtain⟨l,xs,y,rfl,rfl,hH,hz,q⟩:=h
 cases rx
 obtain⟨u,rfl,ru⟩:=rv.one
 obtain⟨z,its,n,r,hl,e⟩:=I.As hH
 refine call_meets F.slot_list_append ⟨_,e,rfl⟩ F.entry_list_append (F.args_list_append_2 _ _) (PySem.list_append l its.toArray n u (by rw[dD];omega)) ⟨e,?_⟩
 refine⟨.au,_,I.Za (its':=its++[u]) hH e (by simp) (r.append (.cons ru .nil)) ?_,rfl,q⟩
 rw[dm,jJ]
 omega
noncomputable def Zd:R2:=λx y H Q=>∃l b xs zs,x=.ref l/\y=.ref b/\H l=some (.lst xs)/\H b=some (.lst zs)/\xs.length+zs.length<=sizeLine/\∀p,H p=none->Q (.ref p) (upd H p (.lst (xs++zs)))
theorem Oh:cu X (binaryOp .Add) Zd:=by
 intro pins s σ H x y v u Q I rx ry h
 obtain⟨l,b,xs,zs,rfl,rfl,hH,hB,hz,q⟩:=h
 cases rx
 cases ry
 obtain⟨z,its,n,r,hl,e⟩:=I.As hH
 obtain⟨z2,Oi,n2,r2,Au,e2⟩:=I.As hB
 refine PySem.P.add_list e e2 ?_ (by rw[dD,dD];omega)
 have ea:its.toArray++Oi.toArray=(its++Oi).toArray:=by simp
 rw[ea]
 exact⟨.ref _,_,I.Of (t':=s.toks) (r.append r2) (by rw[dm];omega),rfl,q _ I.fresh⟩
noncomputable def Ze:R2:=λx y H Q=>∃l k xs,x=.ref l/\y=.int k/\H l=some (.lst xs)/\-(2 ^ 63)<=k/\k<2 ^ 63/\xs.length*k.toNat<=sizeLine /\
 ∀p,H p=none->Q (.ref p) (upd H p (.lst (bj k.toNat xs).flatten))
theorem Zf{α:Type}(xs:List α)(k:Nat):(bj k xs).flatten.length=k*xs.length:=by
 induction k with
 | zero=>simp
 | succ k ih=>rw[ph,rZ,dm,ih,Nat.succ_mul,MT]
theorem Zg:cu X (binaryOp .Mult) Ze:=by
 intro pins s σ H x y v u Q I rx ry h
 obtain⟨l,k,xs,rfl,rfl,hH,h1,h2,hz,q⟩:=h
 cases rx
 obtain⟨t,rfl⟩:=ry
 obtain⟨z,its,n,r,hl,e⟩:=I.As hH
 have hlen:its.toArray.size*k.toNat<=sizeLine:=by rw[dD,<- hl];exact hz
 have Zh:¬ its.toArray.size*k.toNat>(2 ^ 63-1)/8:=by
  have:(sizeLine:Nat)<=(2 ^ 63-1)/8:=by decide
  omega
 have Zi:¬ (!Builtin.List.listFitsIndex k)=true:=by
  rw[fitsIndex_both h1 h2]
  exact ir
 have Zj:¬ MS (its.toArray.size*k.toNat)=true:=by
  rw[Zb hlen]
  exact ir
 have Zk:List.foldl (λx1 x2=>x1++x2) #[] (bj (if its.toArray.isEmpty=true then 0 else k.toNat) its.toArray)=(bj k.toNat its).flatten.toArray:=by
  have f0:∀m:Nat,List.foldl (λx1 x2=>x1++x2) #[] (bj m its.toArray)=(bj m its).flatten.toArray:=λm=>by
   have:=Oe its m []
   rw[sg]at this
   exact this
  rw[f0]
  cases its with
  | nil=>simp
  | cons a r'=>rw[if_neg (by simp)]
 refine wpAny_binaryOp_repeat_ref (T:="list") (U:="int") (by decide) ⟨_,e,rfl⟩ (λs'=>typeIs_int s' k t) noFill_list_mul F.fills_int_mul F.slot_int_rmul repeat_list F.slot_int_index.lookup
  (call_meets F.slot_int_rmul (typeIs_int s k t) F.entry_int_rmul (F.args_int_rmul_2 _ _) (int___rmul___int_list k t l its.toArray n)
   ⟨e,rfl,⟨_,e,rfl⟩,call_meets F.slot_list_mul ⟨_,e,rfl⟩ F.entry_list_mul (F.args_list_mul_2 _ _) (AutoListH.list___mul___list_int_3 l its.toArray n k t Zi Zh Zj) ⟨e,?_⟩⟩)
 rw[Zk]
 exact⟨.ref _,_,I.Of (t':=s.toks) (r.rep k.toNat) (by rw[Zf,mi];exact hz),rfl,q _ I.fresh⟩
end
section
variable{prog:Program}{w:World}{A:Around}{E:Value->Shared->Prop}{s:Shared}
end
section
variable{X:Cx}
end
end L2
namespace Att
open PySem PySem.W PySem.Calls PyProof.Rows
theorem Zl{P:Params}{h:Heap}:∀(ns:List Int) (vs:List Value),WellAll P h vs (ns.map WData.int)->IntsAre vs ns:=by
 intro ns
 induction ns with
 | nil =>
  intro vs w
  rw[jH]at w
  cases w
  exact .nil
 | cons n ns ih =>
  intro vs w
  rw[df]at w
  cases w with
  | cons a b =>
   cases a
   exact .cons _ _ (ih _ b)
theorem Zm{l:OpenLaw}{n:Nat}(hn:l.most=some n){P:Params}{h:Heap}{args:List WData}{vals:List Value}
  (Av:l.row.toRowW.claim.pre args=true) (Ek:WellAll P h vals args) :
  ∃a vs ns,vals=[cN a]/\args=[WData.list (ns.map WData.int)]/\h.get? a=some { cls:=.type "list",data:=.seq vs.toArray }/\IntsAre vs ns/\ns.length<=n:=by
 have wF:WShape.hasAll [] args [.list .int]=true:=(pre_splitW Av).1
 have hc:l.pre.holds [] { args:=args }=true:=(pre_splitW Av).2
 obtain⟨d,r,rfl,h1,h2⟩:=hasAllW_cons wF
 obtain rfl:=hasAllW_nil h2
 obtain⟨xs,rfl,h3⟩:=hasW_list h1
 obtain⟨ns,rfl⟩:=items_int h3
 have hlen:ns.length<=n:=by
  unfold OpenLaw.pre at hc
  have h4:(WTm.not (.lt (.lit (.int (n:Int))) (.len (.arg 0)))).holds [] { args:=[.list (ns.map .int)] }=true:=by
   have h4:=(holds_andW hc).1
   rw[hn]at h4
   exact h4
  have h5:=condW_of h4 (w_not (w_lt w_lit (w_len_list (w_arg rfl))))
  rw[bq]at h5
  refine Nat.le_of_not_lt λq=>?_
  have q':(n:Int)<((ns.length:Nat):Int):=by omega
  first
   | (rw[decide_eq_true q']at h5;exact absurd h5 (by decide))
   | (simp at h5;omega)
 cases Ek with
 | cons w1 w2 =>
  cases w2
  cases w1 with
  | list ho Zn=>exact⟨_,_,ns,rfl,rfl,ho,Zl ns _ Zn,hlen⟩
theorem Zo(l:OpenLaw)(args:List WData):l.row.toRowW.claim.post args (.bool true) args=true :=
 postW_of (r:=l.row.toRowW) (X:=(true==true))
  (show WShape.has [] (.bool true) .bool=true by first | rfl | decide | simp[WShape.has,WShape.arms,WShape.armsAll])
  (show(WTm.eq .res (.lit (.bool true))).value [] { args:=args,res:=some (.bool true),after:=args }=some (.bool (true==true)) from w_eq_bool (w_res rfl) w_lit) rfl
theorem Zp{l:OpenLaw}{n:Nat}{q:Program}{loose:List Str}{XP:(Str->Option Value)->Heap->Prop}{YP:World->Heap->Prop}{d:DefRec}
  (hn:l.most=some n) (wH:d.params.defaults=[])
  (call:∀(w:World) (cJ bB:Shared) (mg mb:Str->Option Value) (fa:Addr) (o:Obj) (pm cd doc:Value) (a:Addr) (vs:List Value) (ns:List Int),
   Ground q loose [] XP w cJ mg mb bB.heap->YP w bB.heap ->
   bB.heap.get? fa=some o->o.data=.func (docDef d.name d.params d.body d.scope pm cd doc)->bB.heap.CodeRec cd d.name->mg d.name=some (.ref fa) ->
   bB.heap.get? a=some { cls:=.type "list",data:=.seq vs.toArray }->IntsAre vs ns->ns.length<=n->bB.gens=#[] ->
   codeAny (model l.prog w) callerA (.call (.ref fa) ⟨[.ref a],[]⟩) (λr s'=>r=.ok (.ret (.bool true))/\OldK bB.heap s'.heap/\s'.os=bB.os/\AllBare s'.gens) bB) :
  WalkO q loose XP YP l.row.toRowW d [] (λf vs=>PySem.call f vs):=by
 intro w cJ bB mg mb G Y fa o pm cd doc dV kV ho hd cK hD wI hg args vals as Av d55 hrd Ek eQ
 obtain rfl:dV=.none:=Dflts.none hD wH
 obtain rfl:kV=.none:=Dflts.noKw hD
 obtain⟨a,vs,ns,rfl,rfl,El,hints,hlen⟩:=Zm hn Av Ek
 refine enter_call (codeAny_mono (call w cJ bB mg mb fa o pm cd doc a vs ns G Y ho (fd_plain hd) cK wI El hints hlen hg) λr s' hq=>?_)
 obtain⟨rfl,h2,h3,h4⟩:=hq
 exact⟨.inl ⟨.bool true,.bool true,[],rfl,λ_=>rfl,.bool true,Zo l _,λ_=>⟨MU,λ_ hm=>(nomatch hm)⟩⟩,h2,h3,h4⟩
section
variable{prog:Program}{w:World}{A:Around}{E:Value->Shared->Prop}{s:Shared}{K:Frag}
end
end Att
namespace L2
open PySem PySem.Spec PyProof.Rows
theorem Oj:∀{vs:List Value} {ns:List Int},IntsAre vs ns->Vals (ns.map V.int) vs
 | _,_,.nil=>.nil
 | _,_,.cons n t h=>.cons ⟨t,rfl⟩ (Oj h)
end L2
namespace L2
open PySem PySem.Spec PyProof.Rows
end L2
/- THE d60 d61 (shape;LID,My.* are d63):
   My.eV: a structure of Ol addresses d64 d65 d66 names (classes,d67);My.Txt K t: a structure (Prop) of Ol equations over K;
   My.d68:{K} {implicit addresses ..} (e1:nsIn K mainGlobals "law"=some (some (.ref f))) (e2:K.lookup f=some ⟨oc,od,.func (fnOf "law" "law" params body scope dV kV doc pm an aD ct),sl⟩) (e3:codeIn K aD "law"=true) ..:∃t,My.Txt K t
(Ol tactic k_is has no namespace: write k_is) -/
namespace L2
open PySem PySem.Spec PyProof.Rows
noncomputable def eA(s:Stmt)(j:Nat):Stmt:=match s with
 | .ClassDef _ _ _ body _ _ _ _ _ _ _=>body.getD j (.Pass ⟨0,0,0,0⟩)
 | _=>.Pass ⟨0,0,0,0⟩
noncomputable def iB(s:Stmt):Arguments:=match s with
 | .FunctionDef _ a _ _ _ _ _ _ _ _=>a
 | _=>{ posonlyargs:=[],args:=[],vararg:=none,kwonlyargs:=[],kw_defaults:=[],kwarg:=none,defaults:=[] }
noncomputable def fw(s:Stmt):List Stmt:=match s with
 | .FunctionDef _ _ b _ _ _ _ _ _ _=>b
 | _=>[]
noncomputable def aK(s:Stmt):Scope:=match s with
 | .FunctionDef _ _ _ _ _ _ sc _ _ _=>sc
 | _=>{ kind:=.function,names:=[],isGenerator:=false,isCoroutine:=false }
noncomputable abbrev aQ:eO:=λ_ _ _ _ _ _=>False
noncomputable abbrev E0:XK:=λ_ _ _=>False
theorem aR{X:Cx}:jT aQ X E0:=λ_ _ _ _ _ _ _ h=>h.elim
structure ax(K:PySem.W.Frag)(x qual:Str)(st:Stmt)(f:Addr)(fd:FuncData):Prop where
 ex:∃(oc:Value) (od:Option Addr) (kV doc pm:Value) (an:Option Addr) (aD ct:Value) (g5:Array (Option Value)),
  fd=PySem.W.fnOf x qual (iB st) (fw st) (aK st) .none kV doc pm an aD ct/\K.lookup f=some ⟨oc,od,.func fd,g5⟩/\PySem.W.codeIn K aD qual=true
 kp:PySem.W.keepIn K (.ref f)=true
section
variable{P:Program}{w:World}{K:PySem.W.Frag}{mg:Str->Option Value}{base:Heap}
theorem ax.ok{x qual:Str}{st:Stmt}{f:Addr}{fd:FuncData}{N ps:List Str}{k:Nat}{sp:Sp}(F:ax K x qual st f fd)(S:aZ N ps (aK st))(len:∀vs H Q E,sp vs H Q E->vs.length=ps.length)
  (gO:∀(aD:Value) (A:Around) (outer:List Env) (s:Shared) (H:Hp) (vs:List V) (Q:VK) (E:XK),bW k (A.deeper (envOfC qual (aK st) s.heap.objs.size f aD))->sp vs H Q E ->
   ∃t,PSs (iz aQ P w K mg base N qual (aK st) f aD A outer s H E).fY (fw st) t/\t { nx:=λ_ H'=>Q .au H',rt:=Q } (start N vs) H):aM P w K mg base aQ (k+1) f fd ps sp:=by
 obtain⟨oc,od,kV,doc,pm,an,aD,ct,g5,rfl,lk,cK⟩:=F.ex
 refine Ao lk cK S len λA outer s H vs Q E hr g7=>?_
 obtain⟨t,h,q⟩:=gO aD A outer s H vs Q E hr g7
 exact⟨t,h.fY,q⟩
theorem ax.binds{x qual:Str}{st:Stmt}{f:Addr}{fd:FuncData}{ps:List Str}(F:ax K x qual st f fd)
  (h:∀(kV doc pm:Value) (an:Option Addr) (aD ct:Value) (us:List Value),us.length=ps.length->bindArgs (PySem.W.fnOf x qual (iB st) (fw st) (aK st) .none kV doc pm an aD ct) ⟨us,[]⟩=pure (ps.zip us)):Binds K fd ps []:=by
 obtain⟨oc,od,kV,doc,pm,an,aD,ct,g5,rfl,lk,cK⟩:=F.ex
 exact .all (h kV doc pm an aD ct)
theorem Aw{x qual:Str}{st:Stmt}{f:Addr}{oc:Value}{od an:Option Addr}{g5:Array (Option Value)}{kV doc pm aD ct:Value}(l:K.lookup f=some ⟨oc,od,.func (PySem.W.fnOf x qual (iB st) (fw st) (aK st) .none kV doc pm an aD ct),g5⟩)
  (c:PySem.W.codeIn K aD qual=true) (k:PySem.W.keepIn K (.ref f)=true):ax K x qual st f (PySem.W.fnOf x qual (iB st) (fw st) (aK st) .none kV doc pm an aD ct):=⟨⟨oc,od,kV,doc,pm,an,aD,ct,g5,rfl,l,c⟩,k⟩
end
section
variable{X:Cx}
theorem pv(i:Nat){x:Str}{pos:Pos}(hN:X.N[i]?=some x:=by rfl)(hv:mC X.env.scope x:=by first | exact ai rfl | exact aX (ai rfl) | exact aX (aX rfl))(hd:(x==("__debug__":Str))=false:=by decide)
  (cK:(x==("__classdict__":Str))=false:=by decide):PE X (.Name x pos) (NG i):=sJ hN hv hd cK
end
theorem iC{A B:Prop}(h:B):if false=true then A else B:=by
 rw[if_neg ir]
 exact h
theorem nO{A B:Prop}(h:A):if true=true then A else B:=by
 rw[if_pos rfl]
 exact h
end L2
namespace Mf
noncomputable def bl(n:Nat):Nat:=if n=0 then 0 else n.log2+1
theorem eW{n m:Nat}:bl n<=m↔n<2 ^ m:=by
 unfold bl
 by_cases h:n=0
 ·simp[h,vS]
 ·rw[if_neg h]
  rw[<-Nat.log2_lt h]
  omega
theorem Em{n m:Nat}:m<bl n↔2 ^ m<=n:=by
 have:=@eW n m
 omega
theorem iU(n:Nat):n<2 ^ bl n:=eW.mp (bK _)
theorem Om{n:Nat}(h:n≠0):2 ^ (bl n-1)<=n:=by
 have:0<bl n:=by unfold bl;rw[if_neg h];omega
 exact Em.mp (by omega)
theorem g9{n:Nat}(h:n≠0):0<bl n:=by
 unfold bl;rw[if_neg h];omega
theorem mL:bl 0=0:=rfl
theorem sS{n:Nat}(h:n≠0):n.testBit (bl n-1)=true:=by
 have h1:=Om h
 have h2:=iU n
 have hp:=g9 h
 have e:bl n=(bl n-1)+1:=by omega
 rw[e,mj]at h2
 rw[Wf]
 have:n/2 ^ (bl n-1)=1:=by
  apply Nat.div_eq_of_lt_le
  ·omega
  ·omega
 rw[this];rfl
theorem Zq{x n:Nat}(h:∀i,n<=i->x.testBit i=false):x<2 ^ n:=by
 apply Nat.lt_pow_two_of_testBit
 intro i hi
 exact h i hi
theorem Oo{x y n:Nat}(hx:x<2 ^ (n+1))(hy:y<2 ^ (n+1))(tx:x.testBit n=true)(ty:y.testBit n=true):x ^^^ y<2 ^ n:=by
 apply Zq
 intro i hi
 rw[mm]
 by_cases e:i=n
 ·rw[e,tx,ty];rfl
 ·have gz:n+1<=i:=by omega
  have p:2 ^ (n+1)<=2 ^ i:=vT (by decide) gz
  rw[Dj (de hx p),Dj (de hy p)]
  rfl
theorem Oq(x y z:Nat):(x ^^^ y) ^^^ (z ^^^ y)=x ^^^ z:=by
 apply zF;intro i;simp only[mm]
 cases x.testBit i<;>cases y.testBit i<;>cases z.testBit i<;>rfl
theorem Ot(x y z t:Nat):(x ^^^ y) ^^^ (z ^^^ t)=(x ^^^ z) ^^^ (y ^^^ t):=by
 apply zF;intro i;simp only[mm]
 cases x.testBit i<;>cases y.testBit i<;>cases z.testBit i<;>cases t.testBit i<;>rfl
noncomputable def P(a b:Nat):Nat->Nat
 | 0=>0
 | k+1=>P a b k ^^^ (if b.testBit k then a <<< k else 0)
noncomputable def cl(a b:Nat):Nat:=P a b (bl b)
theorem Ou{a b k:Nat}(h:b<2 ^ k):∀j,P a b (k+j)=P a b k
 | 0=>rfl
 | j+1=>by
  show P a b (k+j) ^^^ (if b.testBit (k+j)then a <<< (k+j)else 0)=_
  rw[Ou h j]
  have p:2 ^ k<=2 ^ (k+j):=vT (by decide) (by omega)
  rw[Dj (de h p)]
  simp
theorem sT{a b k:Nat}(h:b<2 ^ k):P a b k=cl a b:=by
 have h1:=eW.mpr h
 have e:k=bl b+(k-bl b):=by omega
 rw[e,Ou (iU b)]
 rfl
theorem Ov(a a' b:Nat):∀k,P (a ^^^ a') b k=P a b k ^^^ P a' b k
 | 0=>(kR 0).symm
 | k+1=>by
  show P (a ^^^ a') b k ^^^ _=(P a b k ^^^ _) ^^^ (P a' b k ^^^ _)
  rw[Ov a a' b k]
  by_cases t:b.testBit k=true
  ·rw[if_pos t,if_pos t,if_pos t,Wg]
   ac_rfl
  ·rw[if_neg t,if_neg t,if_neg t]
   simp
theorem Ow(a b b':Nat):∀k,P a (b ^^^ b') k=P a b k ^^^ P a b' k
 | 0=>(kR 0).symm
 | k+1=>by
  show P a (b ^^^ b') k ^^^ _=(P a b k ^^^ _) ^^^ (P a b' k ^^^ _)
  rw[Ow a b b' k,mm]
  cases b.testBit k<;>cases b'.testBit k<;>simp
  ·ac_rfl
  ·ac_rfl
  ·exact(Oq _ _ _).symm
theorem nQ(a a' b:Nat):cl (a ^^^ a') b=cl a b ^^^ cl a' b:=Ov a a' b _
theorem sU{x y n:Nat}(hx:x<2 ^ n)(hy:y<2 ^ n):x ^^^ y<2 ^ n:=Nat.xor_lt_two_pow hx hy
theorem Zr(a b b':Nat):cl a (b ^^^ b')=cl a b ^^^ cl a b':=by
 let k:=bl b+bl b'
 have h1:b<2 ^ k:=eW.mp (by omega)
 have h2:b'<2 ^ k:=eW.mp (by omega)
 rw[<-sT (sU h1 h2),<- sT h1,<- sT h2,Ow]
theorem Zs(a:Nat):cl a 0=0:=rfl
theorem Ox(b:Nat):∀k,P 0 b k=0
 | 0=>rfl
 | k+1=>by
  show P 0 b k ^^^ _=0
  rw[Ox b k];simp
theorem nR(b:Nat):cl 0 b=0:=Ox b _
theorem Zt(b k:Nat):(b/2).testBit k=b.testBit (k+1):=by
 rw[Dk]
theorem Oy(a b:Nat):∀k,P a b (k+1)=(if b%2=1 then a else 0) ^^^ P (2*a) (b/2) k
 | 0=>by
  show 0 ^^^ _=_ ^^^ 0
  rw[nF,kR,zG]
  simp
 | k+1=>by
  show P a b (k+1) ^^^ _=_ ^^^ (P (2*a) (b/2) k ^^^ _)
  rw[Oy a b k,Zt,pj]
  have e:a <<< (k+1)=(2*a) <<< k:=by
   rw[kb,kb,mj]
   rw[mi 2 a,si,mi 2]
  rw[e]
theorem Oz{b k:Nat}(h:b<2 ^ (k+1)):b/2<2 ^ k:=by
 rw[mj]at h;omega
theorem OA(a b:Nat):cl a b=(if b%2=1 then a else 0) ^^^ cl (2*a) (b/2):=by
 have h:b<2 ^ (bl b+1):=Nat.lt_trans (iU b) (by rw[mj];have:=vS (bl b);omega)
 rw[<-sT h,Oy,sT (Oz h)]
theorem OB(a b:Nat):∀k,P (2*a) b k=2*P a b k
 | 0=>rfl
 | k+1=>by
  show P (2*a) b k ^^^ _=2*(P a b k ^^^ _)
  rw[OB a b k]
  have d:∀x y:Nat,2*(x ^^^ y)=2*x ^^^ 2*y:=by
   intro x y
   have h:=@Wg 1 x y
   rw[kb,kb,kb,Nat.pow_one]at h
   rw[mi 2 (x ^^^ y),mi 2 x,mi 2 y]
   exact h
  rw[d]
  by_cases t:b.testBit k=true
  ·rw[if_pos t,if_pos t,kb,kb,si]
  ·rw[if_neg t,if_neg t]
theorem Eo(a b:Nat):cl (2*a) b=2*cl a b:=OB a b _
theorem wJ(a c t:Nat)(ht:t<2):cl a (2*c+t)=2*cl a c ^^^ (if t=1 then a else 0):=by
 rw[OA,Eo,MV]
 have e1:(2*c+t)/2=c:=by omega
 have e2:(2*c+t)%2=t:=by omega
 rw[e1,e2]
theorem Zu(a c:Nat):cl a (2*c)=2*cl a c:=by
 have h:=wJ a c 0 (by decide)
 simpa using h
theorem OC(c t:Nat)(ht:t<2):2*c ^^^ t=2*c+t:=by
 apply zF
 intro i
 cases i with
 | zero =>
  rw[mm,zG,zG,zG]
  have:t=0\/t=1:=by omega
  rcases this with h | h<;>subst h<;>simp<;>omega
 | succ i =>
  rw[mm,Dk,Dk,Dk]
  have e1:2*c/2=c:=by omega
  have e2:t/2=0:=by omega
  have e3:(2*c+t)/2=c:=by omega
  rw[e1,e2,e3];simp
theorem Ep:∀b:Nat,cl 1 b=b:=by
 intro b
 induction b using Dm with
 | ind b ih =>
  by_cases h:b=0
  ·subst h;rfl
  ·have e:b=2*(b/2)+b%2:=by omega
   rw[e,wJ 1 (b/2) (b%2) (by omega),ih (b/2) (by omega)]
   have:b%2=0\/b%2=1:=by omega
   rcases this with h | h
   ·rw[h];simp
   ·rw[h];rw[if_pos rfl];exact OC _ _ (by decide)
theorem wK:∀b a:Nat,cl a b=cl b a:=by
 intro b
 induction b using Dm with
 | ind b ih =>
  intro a
  by_cases h:b=0
  ·subst h;rw[nR];rfl
  ·have e:b=2*(b/2)+b%2:=by omega
   have lt:b%2<2:=by omega
   have e':cl b a=cl (2*(b/2) ^^^ b%2) a:=by rw[OC _ _ lt,<- e]
   rw[e',nQ,Eo,<- ih (b/2) (by omega) a]
   have Zv:cl a b=cl a (2*(b/2)+b%2):=by rw[<-e]
   rw[Zv,wJ _ _ _ lt]
   have:b%2=0\/b%2=1:=by omega
   rcases this with h | h
   ·rw[h,nR];rfl
   ·rw[h,Ep];rfl
theorem Er{a m:Nat}(h:a<2 ^ m)(b:Nat):∀k,P a b (k+1)<2 ^ (m+k)
 | 0=>by
  show 0 ^^^ _<_
  rw[nF,Nat.add_zero]
  by_cases t:b.testBit 0=true
  ·rw[if_pos t];simpa using h
  ·rw[if_neg t];exact vS m
 | k+1=>by
  show P a b (k+1) ^^^ _<_
  have i:=Er h b k
  have p:2 ^ (m+k)<=2 ^ (m+(k+1)):=vT (by decide) (by omega)
  apply sU (de i p)
  by_cases t:b.testBit (k+1)=true
  ·rw[if_pos t,kb,Nat.pow_add 2 m]
   exact(Wh (vS _)).mpr h
  ·rw[if_neg t];exact vS _
theorem Zw{a b m n:Nat}(h:a<2 ^ m)(h':b<2 ^ (n+1)):cl a b<2 ^ (m+n):=by
 rw[<-sT h'];exact Er h b n
theorem Zx{a b:Nat}(ha:a≠0)(hb:b≠0):2 ^ (bl a-1+(bl b-1))<=cl a b:=by
 have e:bl b=(bl b-1)+1:=by have:=g9 hb;omega
 have ta:=sS ha
 have tb:=sS hb
 apply Nat.ge_two_pow_of_testBit
 unfold cl
 rw[e]
 show(P a b (bl b-1) ^^^ _).testBit _=true
 have e2:bl b-1+1-1=bl b-1:=by omega
 rw[e2,mm,if_pos tb]
 have f:(P a b (bl b-1)).testBit (bl a-1+(bl b-1))=false:=by
  cases q:bl b-1 with
  | zero=>show Nat.testBit 0 _=false;exact Nat.zero_testBit _
  | succ k =>
   apply Dj
   have l:=Er (iU a) b k
   have p:=g9 ha
   have e3:bl a-1+(k+1)=bl a+k:=by omega
   rw[e3];exact l
 rw[f,Wi]
 have e4:bl a-1+(bl b-1)-(bl b-1)=bl a-1:=by omega
 rw[e4,ta]
 simp
theorem OD{a b:Nat}(ha:a≠0)(hb:b≠0):bl (cl a b)=bl a+bl b-1:=by
 have p1:=g9 ha
 have p2:=g9 hb
 have h1:bl (cl a b)<=bl a+(bl b-1):=eW.mpr (Zw (iU a) (by
  have e:bl b-1+1=bl b:=by omega
  rw[e];exact iU b))
 have h2:=Em.mpr (Zx ha hb)
 omega
theorem OE(s b:Nat):cl (2 ^ s) b=b <<< s:=by
 induction s with
 | zero=>rw[Nat.pow_zero,Ep];rfl
 | succ s ih =>
  rw[mj,mi,Eo,ih,kb,kb,mj]
  rw[<-si,mi 2,si,mi 2,<- si,si]
theorem Zy{a q b r s:Nat}(h:a=cl q b ^^^ r):a=cl (q ^^^ 2 ^ s) b ^^^ (r ^^^ b <<< s):=by
 rw[nQ,OE,h,Oq]
theorem OF{b r:Nat}(hb:b≠0)(h:bl b<=bl r):bl (r ^^^ b <<< (bl r-bl b))<bl r:=by
 have p:=g9 hb
 have hr:r≠0:=by
  intro z;rw[z,mL]at h;omega
 have:r ^^^ b <<< (bl r-bl b)<2 ^ (bl r-1):=by
  apply Oo
  ·have e:bl r-1+1=bl r:=by omega
   rw[e];exact iU r
  ·have e:bl r-1+1=bl b+(bl r-bl b):=by omega
   rw[e,kb,Nat.pow_add]
   exact(Wh (vS _)).mpr (iU b)
  ·exact sS hr
  ·rw[Wi]
   have e:bl r-1-(bl r-bl b)=bl b-1:=by omega
   rw[e,sS hb]
   simp;omega
 have:=eW.mpr this
 omega
theorem Zz{x y z:Nat}(h:x ^^^ y=z):x=z ^^^ y:=by
 rw[<-h,pj,zH,kR]
theorem Es{x y:Nat}(h:x ^^^ y=0):x=y:=by
 have:=Zz h
 rwa [nF]at this
theorem ZA{b q r q' r':Nat}(h:cl q b ^^^ r=cl q' b ^^^ r')(hr:bl r<bl b)(bo:bl r'<bl b):q=q'/\r=r':=by
 have hb:b≠0:=by intro z;rw[z,mL]at hr;omega
 have e:cl (q ^^^ q') b=r ^^^ r':=by
  rw[nQ]
  have z:(cl q b ^^^ r) ^^^ (cl q' b ^^^ r')=0:=by rw[h,zH]
  rw[Ot]at z
  exact Es z
 have lt:bl (r ^^^ r')<bl b:=by
  have h1:r<2 ^ (bl b-1):=eW.mp (by omega)
  have h2:r'<2 ^ (bl b-1):=eW.mp (by omega)
  have:=eW.mpr (sU h1 h2)
  have:=g9 hb
  omega
 have z:q ^^^ q'=0:=by
  apply Dn
  intro hq
  have h1:=OD hq hb
  have h2:=g9 hq
  rw[e]at h1
  omega
 have zq:=Es z
 subst zq
 rw[z,nR]at e
 exact⟨rfl,Es e.symm⟩
end Mf
namespace Mf
open PySem PySem.Builtin.Int
theorem ZC(x y:Nat):(x ^^^ y)+2*(x &&& y)=x+y:=by
 induction x using Dm generalizing y with
 | ind x ih =>
  by_cases h:x=0
  ·subst h;simp
  ·have h1:=ih (x/2) (by omega) (y/2)
   have e1:(x ^^^ y)/2=x/2 ^^^ y/2:=Nat.xor_div_two
   have e2:(x &&& y)/2=x/2 &&& y/2:=Nat.and_div_two
   have t:∀n:Nat,n%2=if n.testBit 0=true then 1 else 0:=by
    intro n
    rw[zG]
    by_cases h:n%2=1
    ·simp[h]
    ·simp[h];omega
   have m1:(x ^^^ y)%2=(x%2+y%2)%2:=by
    rw[t (x ^^^ y),t x,t y,mm]
    cases x.testBit 0<;>cases y.testBit 0<;>rfl
   have m2:(x &&& y)%2=x%2*(y%2):=by
    rw[t (x &&& y),t x,t y,MW]
    cases x.testBit 0<;>cases y.testBit 0<;>rfl
   have d1:=Nat.div_add_mod (x ^^^ y) 2
   have d2:=Nat.div_add_mod (x &&& y) 2
   rw[e1]at d1
   rw[e2]at d2
   have hx:x%2=0\/x%2=1:=by omega
   have hy:y%2=0\/y%2=1:=by omega
   rcases hx with hx | hx<;>rcases hy with hy | hy<;>rw[hx,hy]at m1 m2<;>omega
theorem OG{x y:Int}(hx:0<=x)(hy:0<=y):nD x y=((x.toNat &&& y.toNat:Nat):Int):=by
 unfold nD
 rw[decide_eq_true hx,decide_eq_true hy]
theorem ZD{x y:Int}(hx:0<=x)(hy:0<=y):Builtin.bitOr x y=((x.toNat ||| y.toNat:Nat):Int):=by
 unfold Builtin.bitOr nD Builtin.bitNot
 rw[decide_eq_false (by omega),decide_eq_false (by omega)]
 show-(-((((- (-x-1)-1).toNat ||| (-(-y-1)-1).toNat:Nat):Int))-1)-1=_
 have e1:(- (-x-1)-1).toNat=x.toNat:=by omega
 have e2:(- (-y-1)-1).toNat=y.toNat:=by omega
 rw[e1,e2]
 omega
theorem ZE(x y:Nat):(x ||| y)=(x ^^^ y)+(x &&& y):=by
 have d:(x ^^^ y) &&& (x &&& y)=0:=by
  apply zF;intro i
  simp only[mm,MW,Nat.zero_testBit]
  cases x.testBit i<;>cases y.testBit i<;>rfl
 have e:(x ||| y)=(x ^^^ y) ^^^ (x &&& y):=by
  apply zF;intro i
  simp only[mm,MW,Nat.testBit_or]
  cases x.testBit i<;>cases y.testBit i<;>rfl
 have h:=ZC (x ^^^ y) (x &&& y)
 rw[d]at h
 rw[e];omega
theorem ZF{x y:Int}(hx:0<=x)(hy:0<=y):nE x y=((x.toNat ^^^ y.toNat:Nat):Int):=by
 unfold nE
 rw[ZD hx hy,OG hx hy,ZE]
 omega
theorem mM(x y:Nat):nE (x:Int) (y:Int)=((x ^^^ y:Nat):Int):=by
 rw[ZF (by omega) (by omega)];rfl
theorem OH(x y:Nat):nD (x:Int) (y:Int)=((x &&& y:Nat):Int):=by
 rw[OG (by omega) (by omega)];rfl
theorem sV(x k:Nat):(x:Int)*2 ^ ((k:Int)).toNat=((x <<< k:Nat):Int):=by
 rw[kb]
 simp
theorem ZG(x k:Nat):(x:Int)/2 ^ ((k:Int)).toNat=((x >>> k:Nat):Int):=by
 rw[Wj]
 simp
theorem ZH(x k:Nat):((x >>> k) &&& 1=1)↔x.testBit k=true:=by
 rw[Wf,Wj]
 have:(x/2 ^ k) &&& 1=(x/2 ^ k)%2:=Nat.and_two_pow_sub_one_eq_mod _ 1
 rw[this]
 simp
end Mf
namespace Mf
end Mf
namespace Mf
theorem OI(a b:Nat):∀c,cl (cl a b) c=cl a (cl b c):=by
 intro c
 induction c using Dm with
 | ind c ih =>
  by_cases h:c=0
  ·subst h;rfl
  ·have e:c=2*(c/2)+c%2:=by omega
   have lt:c%2<2:=by omega
   have i:=ih (c/2) (by omega)
   rw[e,wJ _ _ _ lt,wJ _ _ _ lt,i,Zr,Zu]
   have:c%2=0\/c%2=1:=by omega
   rcases this with h | h
   ·rw[h];rfl
   ·rw[h];rfl
noncomputable def sW:Nat->Nat->Nat->Nat
 | 0,a,_=>a
 | n+1,a,b=>if bl a<bl b then a else sW n (a ^^^ b <<< (bl a-bl b)) b
noncomputable def md(a b:Nat):Nat:=sW (bl a+1) a b
theorem OJ{b:Nat}(hb:b≠0):∀n a,bl a<n->(∃q,a=cl q b ^^^ sW n a b)/\bl (sW n a b)<bl b
 | 0,_,h=>absurd h (by omega)
 | n+1,a,h=>by
  unfold sW
  by_cases l:bl a<bl b
  ·rw[if_pos l]
   exact⟨⟨0,by rw[nR,nF]⟩,l⟩
  ·rw[if_neg l]
   have less:=OF hb (show bl b<=bl a by omega)
   obtain⟨⟨q,e⟩,l2⟩:=OJ hb n (a ^^^ b <<< (bl a-bl b)) (by omega)
   refine⟨⟨q ^^^ 2 ^ (bl a-bl b),?_⟩,l2⟩
   rw[nQ,OE]
   have e2:a=(a ^^^ b <<< (bl a-bl b)) ^^^ b <<< (bl a-bl b):=by rw[pj,zH,kR]
   rw[e]at e2
   refine e2.trans ?_
   generalize sW n _ b=r
   rw[pj,MV r,<- pj]
theorem wL{b:Nat}(hb:b≠0)(a:Nat):(∃q,a=cl q b ^^^ md a b)/\bl (md a b)<bl b:=OJ hb _ a (by omega)
theorem wM{a b q r:Nat}(h:a=cl q b ^^^ r)(hr:bl r<bl b):md a b=r:=by
 have hb:b≠0:=by intro z;rw[z,mL]at hr;omega
 obtain⟨⟨q',e⟩,l⟩:=wL hb a
 exact(ZA (e.symm.trans h) l hr).2
theorem ZI(q:Nat){b:Nat}(hb:b≠0):md (cl q b) b=0 :=
 wM (q:=q) (by rw[kR]) (by rw[mL];exact g9 hb)
end Mf
namespace Mf
theorem ZJ(y:Nat):bl (y/2)=bl y-1:=by
 by_cases h:y=0
 ·subst h;rfl
 ·have p:=g9 h
  have h1:bl (y/2)<=bl y-1:=eW.mpr (Oz (by
   have e:bl y-1+1=bl y:=by omega
   rw[e];exact iU y))
  have h2:bl y<=bl (y/2)+1:=eW.mpr (by
   have:=iU (y/2)
   rw[mj];omega)
  omega
theorem ZK(x:Nat):bl (2*x)<=bl x+1:=eW.mpr (by
 have:=iU x
 rw[mj];omega)
theorem Et{x y:Nat}(h:x<=y):bl x<=bl y:=eW.mpr (mn h (iU y))
end Mf
namespace Mf
noncomputable def al(a:Nat):Bool:=decide (2<=a)&&(aL (2 ^ ((bl a-1)/2+1)-2)).all λi=>md a (2+i) != 0
theorem ZL{a:Nat}(h:a<2):al a=false:=by
 unfold al;rw[decide_eq_false (by omega)];rfl
theorem ZM{a:Nat}(h:2<=a)(k:∀i,i<2 ^ ((bl a-1)/2+1)-2->md a (2+i)≠0):al a=true:=by
 unfold al
 rw[decide_eq_true h,mq,cX]
 intro i hi
 have:=k i (cV.mp hi)
 simpa using this
theorem ZN{a i:Nat}(k:i<2 ^ ((bl a-1)/2+1)-2)(z:md a (2+i)=0):al a=false:=by
 unfold al
 rw[Bool.and_eq_false_iff]
 right
 rw[List.all_eq_false]
 exact⟨i,cV.mpr k,by simp[z]⟩
theorem ZO{a:Nat}(h:2<=a){b:Nat}(hb:b<2 ^ ((bl a-1)/2+1)):b<a/\2*bl b<=bl a+1:=by
 have h2:2<=bl a:=by
  have:=Em.mpr (show 2 ^ 1<=a by omega)
  omega
 have l:=eW.mpr hb
 refine⟨de hb (fg (vT (by decide) ?_) (Om (by omega))),by omega⟩
 omega
end Mf
namespace L2
open PySem PySem.Spec PyProof.Rows Mf
theorem gA:bootBuiltins "len"=some (.builtin "len"):=by decide +kernel
theorem OK:bootBuiltins "isinstance"=some (.builtin "isinstance"):=by decide +kernel
theorem wN:bootBuiltins "min"=some (.builtin "min"):=by decide +kernel
theorem p8:bootBuiltins "all"=some (.builtin "all"):=by decide +kernel
theorem OL:bootBuiltins "any"=some (.builtin "any"):=by decide +kernel
theorem ZP:bootBuiltins "sum"=some (.builtin "sum"):=by decide +kernel
theorem OM:bootBuiltins "int"=some (.type "int"):=by decide +kernel
theorem ON:bootBuiltins "bool"=some (.type "bool"):=by decide +kernel
theorem wO:bootBuiltins "list"=some (.type "list"):=by decide +kernel
section
variable{X:Cx}{a b o:Expr}{ta tb to:TE}{pos apos b9:Pos}
theorem OO(i:Int):Builtin.Int.intBits i=bl i.natAbs:=by
 unfold Builtin.Int.intBits bl
 by_cases h:i=0
 ·subst h;rfl
 ·have h':¬ i.natAbs=0:=by omega
  rw[if_neg h',if_neg (by simpa using h)]
noncomputable def OP:V->List V->Hp->VK->Prop:=λx vs H Q=>∃i,x=.int i/\vs=[]/\Q (.int (bl i.natAbs:Nat)) H
theorem ZQ:Aq X "int.bit_length" OP:=by
 intro pins s σ H x xs v us Q I rx rs h
 obtain⟨i,rfl,rfl,q⟩:=h
 obtain⟨t,rfl⟩:=rx
 cases rs
 refine call_int_bit_length ?_
 rw[OO]
 exact⟨.int _,H,I.tok _,⟨_,rfl⟩,q⟩
theorem Eu(ho:PE X o to)(mJ:attributeBase o "bit_length" X.env (eval o X.env)=eval o X.env:=by rfl)(mK:(apos.endLine==b9.line)=true:=by rfl) :
  PE X (.Call (.Attribute o "bit_length" apos) [] [] b9) (Od X.K "int" OP to) :=
 Y7 PySem.F.plainAttrs_int PySem.F.slot_int_bit_length PySem.F.type_int_bit_length ZQ ho mJ mK
noncomputable def OQ(i j:Int):Prop:=0<=j/\((bl i.natAbs:Nat):Int)+j<=134217728
theorem OR:cu X (binaryOp .LShift) (rI OQ λi j=>.int (i*2 ^ j.toNat)):=wB λi j _ _ _ _ _ hc q =>
 lshift_int hc.1 (by rw[OO];exact Int.le_trans hc.2 (by decide)) q
theorem ZR{x:Str}{n:String}(hg:Gl X x)(hm:X.mg x=none)(hv:bootBuiltins x=some (.type n))(hn:x≠"__name__":=by decide)(hd:(x==("__debug__":Str))=false:=by decide):PE X (.Name x pos) (tC (.ty n)) :=
 W2 hg hm hv rfl hn hd
noncomputable def ZS(K:PySem.W.Frag):List V->Hp->VK->Prop:=λxs H Q=>∃x n t b,xs=[x,.ty n]/\gZ K H x t/\PySem.W.kitOne K t (.type n)=some b/\Q (.bl b) H
theorem ZT:fZ X (.builtin "isinstance") (ZS X.K):=by
 intro pins s σ H xs us Q I r h
 obtain⟨x,n,t,b,rfl,ty,e,q⟩:=h
 obtain⟨u,v,rfl,ru,rv⟩:=r.two
 cases(show v=Value.type n from rv)
 exact NW I ru ty e λtk=>⟨.bl b,H,I.tok _,rfl,q⟩
end
theorem ZU(b i:Nat):decide (V.int (nD ((b:Int)/2 ^ ((0:Int)+(i:Int)).toNat) 1)=V.int 1)=b.testBit i:=by
 have e:((0:Int)+(i:Int)).toNat=((i:Int)).toNat:=by omega
 rw[e,ZG,show(1:Int)=((1:Nat):Int) from rfl,OH,sj,decide_eq_true_iff,<- ZH]
 constructor
 ·intro h;injection h with h;omega
 ·intro h;rw[h]
theorem ZV{a b i:Nat}(h:b.testBit i=true):nE ((P a b i:Nat):Int) ((a:Int)*2 ^ ((0:Int)+(i:Int)).toNat)=((P a b (i+1):Nat):Int):=by
 have e:((0:Int)+(i:Int)).toNat=((i:Int)).toNat:=by omega
 rw[e,sV,mM]
 show _=((P a b i ^^^ (if b.testBit i then a <<< i else 0):Nat):Int)
 rw[if_pos h]
theorem ZW{a b i:Nat}(h:¬ b.testBit i=true):P a b (i+1)=P a b i:=by
 show P a b i ^^^ (if b.testBit i then a <<< i else 0)=_
 rw[if_neg h,kR]
theorem dI{i j:Int}:decide (V.int i=V.int j)=true↔i=j:=by
 rw[decide_eq_true_iff]
 exact⟨λh=>by injection h,λh=>by rw[h]⟩
end L2
namespace L2
open PySem PySem.Spec PyProof.Rows
section
variable{X:Cx}
end
end L2
namespace L2
open PySem PySem.Spec PyProof.Rows
noncomputable def Az(X:Cx)(scope:Scope)(N:List Str)(cl:List (Str × Addr))(C:Addr)(s:Shared)(H:Hp)(fp:List Addr):Cx where
 prog:=X.prog
 w:=X.w
 K:=X.K
 mg:=X.mg
 base:=X.base
 A:=X.A
 N:=N
 cJ:=s
 jO:=H
 env:=compEnvC scope cl C X.env
 outer:=X.stack
 stack:=X.stack
 ex:=fp
 fn:=λ_=>false
 calm:=X.calm
 pn:=[]
 xe:=λ_ _=>False
noncomputable def lj(X:Cx)(scope:Scope)(cl:List (Str × Addr)):List (Str × Nat)->Prop
 | []=>True
 | (y,i)::r=>(X.N[i]?=some y/\(X.env.scope.names.lookup y=some .cell\/X.env.scope.names.lookup y=some .free)/\((relabel scope X.env).names.lookup y=some .cell\/(relabel scope X.env).names.lookup y=some .free)/\∃c,cl.lookup y=some c/\X.env.cells.lookup y=some c)/\lj X scope cl r
theorem lj.at{X:Cx}{scope:Scope}{cl:List (Str × Addr)}:∀{aC:List (Str × Nat)},lj X scope cl aC->∀p∈aC,X.N[p.2]?=some p.1/\(X.env.scope.names.lookup p.1=some .cell\/X.env.scope.names.lookup p.1=some .free)/\((relabel scope X.env).names.lookup p.1=some .cell\/(relabel scope X.env).names.lookup p.1=some .free)/\∃c,cl.lookup p.1=some c/\X.env.cells.lookup p.1=some c
 | [],_,p,hp=>absurd hp (by simp)
 | (y,i)::r,h,p,hp=>by
  rcases cA.mp hp with e | e
  ·subst e;exact h.1
  ·exact lj.at h.2 p e
noncomputable def lu(Y:Cx)(ifs:List Expr)(t:TT):Prop :=
 ∀(pins:List (Addr × Obj)) (s:Shared) (σ:St) (H:Hp) (Q:Bool->Hp->Prop),Inv Y pins σ H s->t σ H Q ->
  wpAny (model Y.prog Y.w) Y.A (forIn ifs true λc r=>if r=true then do let ok<-isTrue c Y.env (eval c Y.env);pure (Dq ok)else pure (Dq r)) (TP Y pins σ Q) Y.xe s
noncomputable def ZX:TT:=λ_ H Q=>Q true H
theorem ZY{Y:Cx}:lu Y [] ZX:=λ_ _ _ H _ I h=>wpAny_tests_nil ⟨H,I,h⟩
theorem ZZ{Y:Cx}{c:Expr}{t:TT}(h:PT Y c t):lu Y [c] t:=λpins s σ H Q I q=>wpAny_tests_one (h pins s σ H Q I q)
section
variable{X:Cx}{elt iter:Expr}{x:Str}{px pos:Pos}{ifs:List Expr}{scope:Scope}{cl:List (Str × Addr)}{aC:List (Str × Nat)}{wi:TI}{tt:TT}{te:TE}
end
section
variable{prog:Program}{w:World}{A:Around}{R:Result->Shared->Prop}{s:Shared}
theorem Z0{elt target iter:Expr}{ifs:List Expr}{scope:Scope}{pos:Pos}{it acc:Value}{env:Env}(Iv:Nat->Shared->Prop)
  (turn:∀n s,Iv n s->wpAny (model prog w) A (pyNext it) (λr s1=>match r with
   | none=>R (.ok .next) s1
   | some v=>wpAny (model prog w) A (letOwnedTupleGo target it v) (λ_ t1=>wpAny (model prog w) A (assign target env v) (λ_ s2 =>
     wpAny (model prog w) A (forIn ifs true λc r=>if r=true then do let ok<-isTrue c env (eval c env);pure (Dq ok)else pure (Dq r)) (λok s3 =>
      if ok=true then wpAny (model prog w) A (eval elt env) (λy s4=>wpAny (model prog w) A (call (.builtin "list.append") [acc,y]) (λ_ s5=>∃m,m<n/\Iv m s5) (λ_ _=>False) s4) (λ_ _=>False) s3
      else ∃m,m<n/\Iv m s3) (λ_ _=>False) s2) (λ_ _=>False) t1) (λ_ _=>False) s1) (λ_ _=>False) s)
  (n:Nat) (h:Iv n s):codeAny (model prog w) A (.compLoop (.ListComp elt [⟨target,iter,ifs,0⟩] scope pos) 0 it acc env) R s:=by
 refine codeAny_loop rfl Iv (λn s hI=>?_) n h
 change wpAny _ A (Sem.onRaise (compTurn (.ListComp elt [⟨target,iter,ifs,0⟩] scope pos) 0 it acc env) λx=>do noteFrame x env;theTreesLotGoes x) _ _ s
 refine wpAny_noted (wpAny_mono (E:=λ_ _=>False) ?_ (λ_ _ q=>q) λ_ _ z=>z.elim)
 rw[compTurn_list]
 refine wpAny_bind (wpAny_standAt (wpAny_bind (aP (turn n s hI) λr s1 h1=>?_)))
 cases r with
 | none=>exact wpAny_pure h1
 | some v =>
  refine wpAny_bind (aP h1 λ_ t1 k1=>wpAny_bind (aP k1 λ_ s2 h2=>wpAny_bind (aP h2 λok s3 h3=>?_)))
  cases ok with
  | false=>exact wpAny_pure ⟨rfl,h3⟩
  | true=>exact wpAny_bind (wpAny_bind (aP h3 λy s4 h4=>wpAny_bind (aP h4 λ_ s5 h5=>wpAny_pure (wpAny_pure ⟨rfl,h5⟩))))
end
section
variable{X:Cx}{elt iter:Expr}{x:Str}{px pos:Pos}{ifs:List Expr}{scope:Scope}{cl:List (Str × Addr)}{aC:List (Str × Nat)}{wi:TI}{tt:TT}{te:TE}
end
end L2
namespace L2
open PySem PySem.Spec PyProof.Rows
section
variable{X:Cx}
theorem Z1:cu X (compareOp .Is) (λx y H Q=>∃a b,x=.bl a/\y=.bl b/\Q (.bl (a==b)) H):=by
 intro pins s σ H x y v u Q I rx ry h
 obtain⟨a,b,rfl,rfl,q⟩:=h
 cases rx
 cases ry
 exact is_bool ⟨.bl _,H,I,rfl,q⟩
theorem OS{bs:List Bool}{us:List Value}(r:Vals (bs.map V.bl) us):bs.length=us.length/\∀(i:Nat) (v:Value),us[i]?=some v->∃b,bs[i]?=some b/\v=.bool b:=by
 have l:=r.length
 rw[bq]at l
 refine⟨l,λi v e=>?_⟩
 have hi:i<us.length:=(jk.mp e).1
 have hb:i<bs.length:=by omega
 obtain⟨u,e2,q⟩:=r.get (i:=i) (x:=V.bl bs[i]) (by rw[bZ,aS hb];rfl)
 rw[e]at e2
 cases e2
 exact⟨bs[i],aS hb,q⟩
theorem AA{s:Shared}{h':Heap}{o:Obj}(hk:∀b x,b ∉ [s.heap.objs.size]->(s.heap.push o).get? b=some x->h'.get? b=some x)(b:Addr)(x:Obj)(e:s.heap.get? b=some x):h'.get? b=some x :=
 hk b x (λhm=>gw _ (by have:=bP e;rw[fv.mp hm]at this;exact this)) (fu _ e)
theorem Z2(bs:List Bool):((aL bs.length).all λi=>(bs[i]?).getD true)=bs.all id:=by
 rw[sj,cX,cX]
 constructor
 ·intro h b hb
  obtain⟨i,hi,rfl⟩:=ke hb
  have:=h i (cV.mpr hi)
  rwa [aS hi]at this
 ·intro h i hi
  have gz:=cV.mp hi
  rw[aS gz]
  exact h _ (dN gz)
theorem OT(bs:List Bool):((aL bs.length).any λi=>(bs[i]?).getD false)=bs.any id:=by
 rw[sj,MX,MX]
 constructor
 ·rintro⟨i,hi,h⟩
  have gz:=cV.mp hi
  rw[aS gz]at h
  exact⟨_,dN gz,h⟩
 ·rintro⟨b,hb,h⟩
  obtain⟨i,hi,rfl⟩:=ke hb
  exact⟨i,cV.mpr hi,by rw[aS hi];exact h⟩
theorem Z3(hc:X.calm=true):fZ X (.builtin "all") (λxs H Q=>∃(p:Addr) (bs:List Bool),xs=[.ref p]/\bM X.K H p (bs.map V.bl)/\Q (.bl (bs.all id)) H):=by
 intro pins s σ H xs us Q I r h
 obtain⟨p,bs,rfl,hS,q⟩:=h
 obtain⟨u,rfl,ru⟩:=r.one
 cases ru
 obtain⟨its,rv,pl,hz⟩:=I.list hS
 obtain⟨hlen,wQ⟩:=OS rv
 have hl:=pl.isList
 have fA:p<s.heap.objs.size:=by obtain⟨_,e,_⟩:=hl;exact bP e
 refine call_all_walk (wpAny_pyIter_list hl ?_)
 refine⟨s.heap.objs.size,[s.heap.objs.size,p],[s.heap.objs.size],its.toArray.size,_,_,λi=>(bs[i]?).getD true,rfl,Dr (A:=X.A.in1) (I.ok.hd hc) _ p (eZ fA) its.toArray,
  ⟨⟨_,gx _ rfl,rfl,rfl⟩,hl.push _⟩,λi v s' Q' E' hP hQ=>?_,λh' tk hk=>?_⟩
 ·obtain⟨b,e,rfl⟩:=wQ i v (by simpa using hP)
  simp only[e,pk]at hQ
  exact wpAny_truthy_bool hQ
 ·have e:((aL its.toArray.size).all λi=>(bs[i]?).getD true)=bs.all id:=by
   rw[dD,<- hlen];exact Z2 bs
  rw[e]
  exact⟨.bl _,H,I.kept (h':=h') (t':=tk) (AA hk),rfl,q⟩
theorem Z4(hc:X.calm=true):fZ X (.builtin "any") (λxs H Q=>∃(p:Addr) (bs:List Bool),xs=[.ref p]/\bM X.K H p (bs.map V.bl)/\Q (.bl (bs.any id)) H):=by
 intro pins s σ H xs us Q I r h
 obtain⟨p,bs,rfl,hS,q⟩:=h
 obtain⟨u,rfl,ru⟩:=r.one
 cases ru
 obtain⟨its,rv,pl,hz⟩:=I.list hS
 obtain⟨hlen,wQ⟩:=OS rv
 have hl:=pl.isList
 have fA:p<s.heap.objs.size:=by obtain⟨_,e,_⟩:=hl;exact bP e
 refine call_any_walk (wpAny_pyIter_list hl ?_)
 refine⟨s.heap.objs.size,[s.heap.objs.size,p],[s.heap.objs.size],its.toArray.size,_,_,λi=>(bs[i]?).getD false,rfl,Dr (A:=X.A.in1) (I.ok.hd hc) _ p (eZ fA) its.toArray,
  ⟨⟨_,gx _ rfl,rfl,rfl⟩,hl.push _⟩,λi v s' Q' E' hP hQ=>?_,λh' tk hk=>?_⟩
 ·obtain⟨b,e,rfl⟩:=wQ i v (by simpa using hP)
  simp only[e,pk]at hQ
  exact wpAny_truthy_bool hQ
 ·have e:((aL its.toArray.size).any λi=>(bs[i]?).getD false)=bs.any id:=by
   rw[dD,<- hlen];exact OT bs
  rw[e]
  exact⟨.bl _,H,I.kept (h':=h') (t':=tk) (AA hk),rfl,q⟩
end
noncomputable def ly(X:Cx):List (Str × Addr)->Prop
 | []=>True
 | (y,c)::r=>X.env.cells.lookup y=some c/\ly X r
theorem ly.all{X:Cx}:∀{cl:List (Str × Addr)},ly X cl->∀y c,cl.lookup y=some c->X.env.cells.lookup y=some c
 | [],_,y,c,h=>by simp at h
 | (z,d)::r,h,y,c,e=>by
  rw[fI]at e
  cases q:y==z with
  | true =>
   rw[q]at e
   cases e
   rw[eq_of_beq q]
   exact h.1
  | false =>
   rw[q]at e
   exact ly.all h.2 y c e
noncomputable def lC(cl:List (Str × Addr)):List (Str × NameKind)->Prop
 | []=>True
 | (y,k)::r=>(k=.local\/k=.globalImplicit\/∃c,cl.lookup y=some c)/\lC cl r
theorem lC.all{cl:List (Str × Addr)}:∀{ns:List (Str × NameKind)},lC cl ns->∀y,(ns.lookup y=some .cell\/ns.lookup y=some .free)->∃c,cl.lookup y=some c
 | [],_,y,h=>by simp at h
 | (z,k)::r,h,y,e=>by
  rw[fI]at e
  cases q:y==z with
  | true =>
   rw[q]at e
   rw[eq_of_beq q]
   rcases h.1 with g | g | g
   ·rw[g]at e;rcases e with e | e<;>cases e
   ·rw[g]at e;rcases e with e | e<;>cases e
   ·exact g
  | false =>
   rw[q]at e
   exact lC.all h.2 y e
section
variable{X:Cx}{elt iter:Expr}{x:Str}{px pos:Pos}{ifs:List Expr}{scope:Scope}{cl:List (Str × Addr)}{wi:TI}{tt:TT}{te:TE}
end
end L2
namespace L2
open PySem PySem.Spec PyProof.Rows Mf
end L2
namespace L2
end L2
namespace L2
open PySem PySem.Spec PyProof.Rows
noncomputable def hE(aC:List (Str × Nat))(n:Nat)(σ:L2.St):St:=(aC.map λp=>(σ[p.2]?).getD none)++bj n none
noncomputable def OU(J:It)(aC:List (Str × Nat))(n:Nat)(g:TG)(tt:TT)(te:TE)(σ:L2.St)(H1:Hp)(Q:VK):Prop:=∀D,H1 D=none->∃W:Nat->Nat->List V->Hp->Prop,(∃m,W 0 m [] (upd H1 D (.lst []))) /\
 ∀i m acc H2,W i m acc H2->H2 D=some (.lst acc)/\((J.stop i H2/\Q (.ref D) H2)\/(J.go i H2/\∀x H3,J.jS i H2 x H3->H3 D=some (.lst acc)/\g x (hE aC n σ) H3 λgL H4 =>
  (gL.length=(hE aC n σ).length/\∀j,j<aC.length->gL[j]?=(hE aC n σ)[j]?)/\tt gL H4 λb H5=>H5 D=some (.lst acc) /\
  if b=true then te gL H5 λy H6=>H6 D=some (.lst acc)/\acc.length<sizeLine/\∃m',m'<m/\W (i+1) m' (acc++[y]) (upd H6 D (.lst (acc++[y])))else ∃m',m'<m/\W (i+1) m' acc H5))
noncomputable def AB(wi:TI)(aC:List (Str × Nat))(n:Nat)(g:TG)(tt:TT)(te:TE):TE:=λσ H Q=>wi σ H λJ H1=>OU J aC n g tt te σ H1 Q
section
variable{X:Cx}{elt iter tg:Expr}{pos:Pos}{ifs:List Expr}{scope:Scope}{cl:List (Str × Addr)}{wi:TI}{tt:TT}{te:TE}{g:TG}
end
end L2
namespace L2
open PySem PySem.Spec PyProof.Rows
section
variable{X:Cx}{tg:Expr}
end
end L2
namespace L2
open PySem PySem.Spec PyProof.Rows
noncomputable def Ew(h:Heap)(a T:Addr)(cls fl:Value):Prop :=
 ∃oe vs oT ts,h.get? a=some oe/\oe.cls=cls/\oe.dict=none/\oe.data=.fields vs/\vs[1]?=some (.ref T)/\T≠a/\h.get? T=some oT/\oT.data=.fields ts/\ts[3]?=some fl
noncomputable abbrev p9(h:Heap)(a T:Addr)(cls:Value):Prop:=Ew h a T cls .none
theorem Z5(o:Obj)(f:Array Value->Array Value):(o.mapFields f).dict=o.dict:=by
 obtain⟨c,d,dt,sl⟩:=o
 cases dt<;>rfl
section
variable{M:Model}{A:Around}{E:Value->Shared->Prop}{s:Shared}{base:Heap}{env:Env}{outer:List Env}{L a T:Addr}{cls:Value}{oe:Obj}{vs:Array Value}{Q:Unit->Shared->Prop}
structure Ent(fs:List Addr)(h h':Heap)(a T:Addr)(oe:Obj)(L:Addr):Prop where
 new:h.get? T=none
 ne:T≠a
 keep:∀b o,b≠a->b ∉ fs->h.get? b=some o->h'.get? b=some o
 slot:∀b o,b≠a->h.get? b=some o->∃sl,h'.get? b=some { o with slots:=sl }
 exc:h'.get? a=some (oe.mapFields λz=>z.setIfInBounds 1 (.ref T))
 ent:∃oT ts,h'.get? T=some oT/\oT.data=.fields ts/\ts[3]?=some (rawInt L)
theorem OV{head:Value}{Z6:Bool}(eB:A.frames=some (env::outer))(hl:s.heap.FunFrames base (env::outer))(hf:env.frame=some L)(he:s.heap.get? a=some oe)(hd:oe.data=.fields vs)(k7:1<vs.size)
  (na:a ∉ (env::outer).filterMap (·.frame)) (k:∀h' T',Ent ((env::outer).filterMap (·.frame)) s.heap h' a T' oe L->Q () { s with heap:=h' }) :
  wpAny M A (do let x<-frameOf env;let pl<-entryPlaceOf L Z6;let b<-EntryCells.newEntry head x .none (rawInt L) .none pl;setField (.ref a) 1 b) Q E s:=by
 refine wpAny_bind (wpAny_frameOf_fun eB hl hf λg1 so=>wpAny_bind (wpAny_entryPlaceOf λpl ip=>?_))
 unfold EntryCells.newEntry newFields
 have e1:g1.get? a=some oe:=(so.2.1 a na).trans he
 refine wpAny_bind (wpAny_newObj_type ?_ (ip.sizeOk5 _ _ _ _ _))
 generalize OW:({ cls:=.type "traceback",dict:=none,data:=.fields ([head,cN L,.none,rawInt L,.none]++(if pl.isEmpty then bj 6 oZ else pl)).toArray }:Obj)=te
 have e2:(g1.push te).get? a=some oe:=fu te e1
 have Z7:te.data=.fields ([head,cN L,.none,rawInt L,.none]++(if pl.isEmpty then bj 6 oZ else pl)).toArray:=by rw[<-OW]
 have nf:te.isFreed=false:=by rw[<-OW];rfl
 refine wpAny_setField e2 hd k7 ?_
 have d3:=Ds hd λz=>z.setIfInBounds 1 (cN g1.objs.size)
 have nT:g1.objs.size≠a:=MQ (bP e1)
 refine k _ g1.objs.size ⟨?_,nT,λb o hb hz q=>?_,λb o hb q=>?_,Dh _ e2 (MY d3),⟨te,_,?_,Z7,?_⟩⟩
 ·cases q:s.heap.get? g1.objs.size with
  | none=>rfl
  | some o=>obtain⟨sl,z⟩:=so.2.2 _ _ q;exact absurd (bP z) (gw _)
 ·rw[pf _ _ (ft hb)]
  exact fu te ((so.2.1 b hz).trans q)
 ·obtain⟨sl,z⟩:=so.2.2 b o q
  refine⟨sl,?_⟩
  rw[pf _ _ (ft hb)]
  exact fu te z
 ·rw[pf _ _ (ft nT)]
  exact gx g1 nf
 ·first | (simp;done) | (rcases ip with rfl | ⟨_,_,_,_,_,_,_,rfl⟩<;>simp)
structure OX(fs Z:List Addr)(h h':Heap)(a T:Addr)(cls:Value):Prop where
 new:h.get? T=none
 keep:∀b o,b ∉ Z->b ∉ fs->h.get? b=some o->h'.get? b=some o
 slot:∀b o,b ∉ Z->h.get? b=some o->∃sl,h'.get? b=some { o with slots:=sl }
 wR:p9 h' a T cls
theorem OY{fl:Value}(tr:Ew s.heap a T cls fl)(k:∀h',(∀b o,b≠T->s.heap.get? b=some o->h'.get? b=some o)->p9 h' a T cls->Q () { s with heap:=h' }):wpAny M A (setFlight (.ref a) none) Q E s:=by
 obtain⟨oe,vs,oT,ts,h1,h2,h3,h4,h5,h6,h7,h8,h9⟩:=tr
 have sz:3<ts.size:=(MZ.mp h9).1
 unfold setFlight
 refine wpAny_bind (wpAny_field h1 h4 h5 ?_)
 rw[if_pos (by simp)]
 refine wpAny_setField h7 h8 sz (k _ (λb o hb q=>(pf _ _ (ft hb)).trans q) ?_)
 have d:=Ds h8 λz=>z.setIfInBounds 3 ((none:Option Addr).elim oZ λf=>rawInt f)
 exact⟨oe,vs,_,_,(pf _ _ h6).trans h1,h2,h3,h4,h5,h6,Dh _ h7 (MY d),d,by simp[sz]⟩
theorem Ent.fin{fs:List Addr}{h h':Heap}{a T L:Addr}{oe:Obj}{vs:Array Value}(e:Ent fs h h' a T oe L)(hd:oe.data=.fields vs)(k7:1<vs.size)(Z8:oe.dict=none):Ew h' a T oe.cls (rawInt L):=by
 obtain⟨oT,ts,e1,e2,e3⟩:=e.ent
 exact⟨_,_,oT,ts,e.exc,Obj.cls_mapFields _ _,by rw[Z5];exact Z8,Ds hd _,by simp[k7],e.ne,e1,e2,e3⟩
theorem Z9(eB:A.frames=some (env::outer))(hl:s.heap.FunFrames base (env::outer))(hf:env.frame=some L)(na:a ∉ (env::outer).filterMap (·.frame))(tr:p9 s.heap a T cls)
  (k:∀h' T',OX ((env::outer).filterMap (·.frame)) [a,T] s.heap h' a T' cls->Q () { s with heap:=h' }):wpAny M A (noteFrame (.ref a) env) (λ_ kj=>wpAny M A (setFlight (.ref a) none) Q E kj) E s:=by
 obtain⟨oe,vs,oT,ts,h1,h2,h3,h4,h5,h6,h7,h8,h9⟩:=tr
 have s1:1<vs.size:=(MZ.mp h5).1
 have s3:3<ts.size:=(MZ.mp h9).1
 unfold noteFrame
 simp only[hf]
 refine wpAny_bind (wpAny_field h1 h4 h5 ?_)
 rw[if_pos (by simp)]
 refine wpAny_bind (wpAny_field h7 h8 h9 ?_)
 rw[if_neg (by simp[rawInt])]
 refine wpAny_bind (wpAny_setField h7 h8 s3 ?_)
 generalize hg:s.heap.update T (Obj.mapFields λz=>z.setIfInBounds 3 oZ)=g
 have qa:∀b,b≠T->g.get? b=s.heap.get? b:=λb hb=>by rw[<-hg];exact pf _ _ (ft hb)
 have bT:∀b o,s.heap.get? b=some o->(∀ws,o.data≠.fields ws)->b≠T:=λb o q hn z=>by subst z;rw[h7]at q;cases q;exact hn ts h8
 have gT:∃γ,g.get? T=some γ:=⟨_,by rw[<-hg];exact Dh _ h7 (MY (Ds h8 _))⟩
 refine OV (s:={ s with heap:=g }) eB (hl.of_keeps λb o q hn=>⟨o,(qa b (bT b o q hn)).trans q,rfl⟩) hf ((qa a (ft h6)).trans h1) h4 s1 na λh' T' en=>?_
 have ε:T'≠T:=λz=>by subst z;obtain⟨o,q⟩:=gT;rw[en.new]at q;cases q
 refine OY (s:={ s with heap:=h' }) (h2 ▸ en.fin h4 s1 h3) λEy kp Ez=>?_
 refine k Ey T' ⟨(qa T' ε).symm.trans en.new,λb o hz hb q=>?_,λb o hz q=>?_,Ez⟩
 ·have z1:b≠a:=λz=>hz (by simp[z])
  have z2:b≠T:=λz=>hz (by simp[z])
  have z3:b≠T':=λz=>by have:=en.new;rw[<-z,qa b z2,q]at this;cases this
  exact kp b o z3 (en.keep b o z1 hb ((qa b z2).trans q))
 ·have z1:b≠a:=λz=>hz (by simp[z])
  have z2:b≠T:=λz=>hz (by simp[z])
  have z3:b≠T':=λz=>by have:=en.new;rw[<-z,qa b z2,q]at this;cases this
  obtain⟨sl,r⟩:=en.slot b o z1 ((qa b z2).trans q)
  exact⟨sl,kp b _ z3 r⟩
theorem ζ{h1:Heap}{args:List Value}(eB:A.frames=some (env::outer))(hl:s.heap.FunFrames base (env::outer))(hf:env.frame=some L)(hx:M4 s.heap h1 a cls args)
  (k:∀h' T',OX ((env::outer).filterMap (·.frame)) [] s.heap h' a T' cls->Q () { s with heap:=h' }):wpAny M A (noteFrame (.ref a) env) (λ_ kj=>wpAny M A (setFlight (.ref a) none) Q E kj) E { s with heap:=h1 }:=by
 obtain⟨t,e1,_,_⟩:=hx.there
 have na:a ∉ (env::outer).filterMap (·.frame):=λhb=>by obtain⟨_,o,ho,_⟩:=hl.mem hb;rw[hx.new]at ho;cases ho
 unfold noteFrame
 simp only[hf]
 refine wpAny_bind (wpAny_field (s:={ s with heap:=h1 }) e1 rfl (x:=.none) (by rfl) ?_)
 rw[if_neg (by decide)]
 refine OV (s:={ s with heap:=h1 }) eB (hl.of_keeps λb o q _=>⟨o,hx.keeps b o q,rfl⟩) hf e1 rfl (by simp) na λh' T' en=>?_
 refine OY (s:={ s with heap:=h' }) (en.fin rfl (by simp) rfl) λEy kp Ez=>?_
 have ba:∀b o,s.heap.get? b=some o->b≠a:=λb o q z=>by rw[z,hx.new]at q;cases q
 have bT:∀b o,s.heap.get? b=some o->b≠T':=λb o q z=>by have:=hx.keeps b o q;rw[z,en.new]at this;cases this
 refine k Ey T' ⟨?_,λb o _ hb q=>kp b o (bT b o q) (en.keep b o (ba b o q) hb (hx.keeps b o q)),λb o _ q=>?_,Ez⟩
 ·cases q:s.heap.get? T' with
  | none=>rfl
  | some o=>exact absurd rfl (bT T' o q)
 ·obtain⟨sl,r⟩:=en.slot b o (ba b o q) (hx.keeps b o q)
  exact⟨sl,kp b _ (bT b o q) r⟩
end
end L2
namespace L2
open PySem PySem.Spec PyProof.Rows
theorem dU.there{P:Program}{w:World}{H:Hp}{h:Heap}{a:Addr}{o:HO}(x:dU P w H h a o):∃u,h.get? a=some u:=by
 cases o with
 | lst xs=>obtain⟨_,_,_,_,e⟩:=x;exact⟨_,e⟩
 | tup xs=>obtain⟨_,_,_,o,e,_⟩:=x;exact⟨o,e⟩
 | dK dE=>obtain⟨_,_,_,_,o,_,_,e,_⟩:=x;exact⟨_,e⟩
 | dT dE=>obtain⟨_,_,_,_,o,_,_,e,_⟩:=x;exact⟨_,e⟩
 | set S n=>obtain⟨o,_,_,_,e,_⟩:=x;exact⟨_,e⟩
 | ins C dx fs=>obtain⟨_,_,_,e,_⟩:=x;exact⟨_,e⟩
 | own y=>exact x
 | xd fs=>obtain⟨_,⟨_,_,_,e,_⟩,_⟩:=x;exact⟨_,e⟩
 | v9 lo hi=>obtain⟨_,_,_,e⟩:=x;exact⟨_,e⟩
 | bt ob u=>obtain⟨e,_⟩:=x;exact⟨_,e⟩
 | dr ps=>exact⟨_,show h.get? a=some _ from x.1⟩
 | met f y=>exact⟨_,show h.get? a=some _ from x⟩
 | ext φ=>obtain⟨_,e,_⟩:=x;exact e
theorem cI.none{P:Program}{w:World}{H:Hp}{h:Heap}{a:Addr}(x:cI P w H h)(e:h.get? a=.none):H a=.none:=by
 cases q:H a with
 | none=>rfl
 | some u=>obtain⟨o,z⟩:=(x a u q).there;rw[e]at z;cases z
structure Apart(X:Cx)(pins:List (Addr × Obj))(H:Hp)(b:Addr):Prop where
 old:X.cJ.heap.get? b=none
 free:H b=none
 loc:b≠X.env.locals
 cell:∀x c,X.env.cells.lookup x=some c->c≠b
 pin:∀p∈X.pn++pins,p.1≠b
 fr:b ∉ eo X.stack
section
variable{X:Cx}{pins:List (Addr × Obj)}{σ:St}{H H':Hp}{s:Shared}{a T b:Addr}{cls:Value}{M:Model}{Q:Unit->Shared->Prop}{E:Value->Shared->Prop}{h':Heap}
theorem Inv.old(I:Inv X pins σ H s)(hex:X.ex=[])(e:s.heap.get? b=none):X.cJ.heap.get? b=none:=by
 cases q:X.cJ.heap.get? b with
 | none=>rfl
 | some o=>obtain⟨o',z⟩:=I.base.there b o q (by rw[hex];simp);rw[e]at z;cases z
theorem OZ(I:Inv X pins σ H s)(cZ:X.stack=X.env::X.outer)(hex:X.ex=[])(hf:X.env.frame=some X.env.locals)(Z:List Addr)(hZ:∀b∈Z,X.cJ.heap.get? b=none/\H b=none)
  (keep:∀b o,b ∉ Z->b ∉ eo X.stack->s.heap.get? b=some o->h'.get? b=some o) (slots:∀b o,b ∉ Z->s.heap.get? b=some o->∃sl,h'.get? b=some { o with slots:=sl }) :
  Un (eo X.outer) [] X.jO H X.cJ.heap h'/\cI X.prog X.w H h':=by
 have EA:∀b o,X.cJ.heap.get? b=some o->b ∉ Z:=λb o e z=>by rw[(hZ b z).1]at e;cases e
 have sub:∀b,b∈eo X.stack->b=X.env.locals\/b∈eo X.outer:=λb hb=>by
  rw[cZ]at hb
  unfold eo at hb
  rw[zy,hf]at hb
  exact cA.mp hb
 have sup:∀b,b∈eo X.outer->b∈eo X.stack:=λb hb=>by
  rw[cZ]
  unfold eo
  rw[zy,hf]
  exact fU _ hb
 have z9:∀b o,X.cJ.heap.get? b=some o->b≠X.env.locals:=λb o e=>eZ (de (bP e) I.ok.above)
 have nx:∀b:Addr,b ∉ X.ex:=λb=>by rw[hex];simp
 refine⟨⟨λb o e n hb _=>?_,λb o e n hb _=>?_,λb o e n _=>I.base.free b o e n (nx b),λb o e _=>?_,I.base.jN,I.base.jm,I.base.iy⟩,λb ob e=>?_⟩
 ·exact keep b o (EA b o e) (λz=>(sub b z).elim (z9 b o e) hb) (I.base.keep b o e n hb (nx b))
 ·obtain⟨sl,e1⟩:=I.base.slot b o e n hb (nx b)
  exact(slots b _ (EA b o e) e1).imp λsl h=>h
 ·obtain⟨o',e1⟩:=I.base.there b o e (nx b)
  exact(slots b o' (EA b o e) e1).elim λsl q=>⟨_,q⟩
 ·refine(I.aJ b ob e).kh (λc u hc q=>keep c u (λz=>?_) (λz=>?_) q) (λ_ q=>q) (λ_ _ q=>q) λ_ _ q=>q
  ·have n:=(hZ c z).2
   rcases hc with rfl | hc
   ·rw[n]at e;cases e
   ·rw[n]at hc;cases hc
  ·have n:=I.DM c z
   rcases hc with rfl | hc
   ·rw[n]at e;cases e
   ·rw[n]at hc;cases hc
structure O0(X:Cx)(H:Hp)(h':Heap)(a T:Addr)(cls:Value):Prop where
 un:Un (eo X.outer) [] X.jO H X.cJ.heap h'
 aJ:cI X.prog X.w H h'
 wR:p9 h' a T cls
 a0:X.cJ.heap.get? a=none
 a1:H a=none
 t0:X.cJ.heap.get? T=none
 t1:H T=none
theorem η(I:Inv X pins σ H s)(cZ:X.stack=X.env::X.outer)(hex:X.ex=[])(hf:X.env.frame=some X.env.locals)(tr:p9 s.heap a T cls)(pa:Apart X pins H a)(pT:Apart X pins H T)
  (hQ:∀h' T',O0 X H h' a T' cls->Q () { s with heap:=h' }):wpAny M X.A (leaving X.env (.ref a)) Q E s:=by
 have hZ:∀b∈[a,T],X.cJ.heap.get? b=none/\H b=none:=λb hb=>by
  rcases cA.mp hb with rfl | hb
  ·exact⟨pa.old,pa.free⟩
  ·rw[fv.mp hb];exact⟨pT.old,pT.free⟩
 have na:a ∉ (X.env::X.outer).filterMap (·.frame):=by have:=pa.fr;rw[cZ]at this;exact this
 refine wpAny_bind (Z9 (base:=X.base) (by rw[I.ok.frames,cZ]) (cZ ▸ I.stack) hf na tr λh' T' st=>?_)
 have kp:∀b o,b ∉ [a,T]->b ∉ eo X.stack->s.heap.get? b=some o->h'.get? b=some o:=λb o hz hb q=>st.keep b o hz (by rw[cZ]at hb;exact hb) q
 obtain⟨un,aJ⟩:=OZ (h':=h') I cZ hex hf [a,T] hZ kp st.slot
 exact hQ h' T' ⟨un,aJ,st.wR,pa.old,pa.free,I.old hex st.new,I.aJ.none st.new⟩
theorem θ{h1:Heap}{args:List Value}(I:Inv X pins σ H s)(cZ:X.stack=X.env::X.outer)(hex:X.ex=[])(hf:X.env.frame=some X.env.locals)(hx:M4 s.heap h1 a cls args)
  (hQ:∀h' T',O0 X H h' a T' cls->Q () { s with heap:=h' }):wpAny M X.A (leaving X.env (.ref a)) Q E { s with heap:=h1 }:=by
 refine wpAny_bind (ζ (base:=X.base) (by rw[I.ok.frames,cZ]) (cZ ▸ I.stack) hf hx λh' T' st=>?_)
 have kp:∀b o,b ∉ ([]:List Addr)->b ∉ eo X.stack->s.heap.get? b=some o->h'.get? b=some o:=λb o hz hb q=>st.keep b o hz (by rw[cZ]at hb;exact hb) q
 obtain⟨un,aJ⟩:=OZ (h':=h') I cZ hex hf [] (λb hb=>absurd hb (by simp)) kp st.slot
 exact hQ h' T' ⟨un,aJ,st.wR,I.old hex hx.new,I.aJ.none hx.new,I.old hex st.new,I.aJ.none st.new⟩
end
noncomputable def mO(P:Program)(w:World):eO:=λouter H s E e s'=>∃a T cls H',e=.ref a/\s'.os=s.os/\AllBare s'.gens/\Un (eo outer) [] H H' s.heap s'.heap/\cI P w H' s'.heap/\p9 s'.heap a T cls /\
 s.heap.get? a=none/\H' a=none/\s.heap.get? T=none/\H' T=none/\E cls none H'
section
variable{X:Cx}{pins:List (Addr × Obj)}{σ:St}{H H':Hp}{s:Shared}{a T b:Addr}{cls:Value}{M:Model}{Q:Unit->Shared->Prop}{E:Value->Shared->Prop}{h':Heap}
end
end L2
namespace L2
open PySem PySem.W PySem.Spec PySem.Calls PyProof.Rows
section
variable{prog:Program}{w:World}{A:Around}{E:Value->Shared->Prop}{s:Shared}{K:Frag}{x D:Addr}{ox:Obj}{nS:Option Obj}
theorem ι{tk:Tok}{Q:Fin->Shared->Prop}(X:K.In s.heap)(I:PySem.W.InstAt s.heap x ox D nS)(hf:findObj K D nS "__class__"=some (.bind (.builtin "getset_descriptor.__get__") (.builtin "object.__class__")))(hm:mroIn K D (.type "object")=some true)
  (hq:Q (.done (.ret (.ref D))) s):wpAny (model prog w) A (Builtin.«object.__getattribute__» ⟨[.ref x,.str "__class__" tk],[]⟩) Q E s:=by
 have cg:=λ(R:Result->Shared->Prop) (hR:R (.ok (.ret (.ref D))) s) (A:Around)=>PySem.W.class_get (prog:=prog) (w:=w) (A:=A) (R:=R) (tp:=.ref D) X I hm hR
 obtain⟨hh,g,d,t,os⟩:=s
 have L0:=I.type (M:=model prog w)
 have L1:=looks_find (M:=model prog w) X I hf
 unfold Builtin.«object.__getattribute__»
 repeat (any_goals (first | assumption | refine wpAny_bind (L0.at ?_) | refine wpAny_bind (L1.at ?_) | wp_step))
 exact cg _ (wpAny_pure hq) _
theorem μ{M:Model}{O1:Value}{Q:Unit->Shared->Prop}(X:K.In s.heap)(I:PySem.W.InstAt s.heap x ox D nS)(hb:mroIn K D (.type "BaseException")=some true)(hq:Q () s) :
  wpAny M A (checkBuiltinCall "BaseException.__getattribute__" ⟨[.ref x,O1],[]⟩) Q E s:=by
 obtain⟨hh,g,d,t,os⟩:=s
 have L0:=I.type (M:=M)
 have L1:=looks_mroIn (M:=M) X hb
 have hk:builtinKind "BaseException.__getattribute__"=some .slot:=by decide +kernel
 have ν:splitId "BaseException.__getattribute__"=some ("BaseException","__getattribute__"):=by decide +kernel
 have ha:=F.args_bexc_ga (.ref x) O1
 simp only[checkBuiltinCall,hk,ν]
 refine wpAny_bind ?_
 ·unfold isInstance
  repeat (first | refine wpAny_bind (L0.at ?_) | refine wpAny_bind (L1.at ?_) | refine L1.at ?_ | wp_step)
  exact hq
theorem ξ{tk:Tok}{R:Result->Shared->Prop}(X:K.In s.heap)(I:PySem.W.InstAt s.heap x ox D nS)(hf:findObj K D nS "__class__"=some (.bind (.builtin "getset_descriptor.__get__") (.builtin "object.__class__")))(hm:mroIn K D (.type "object")=some true)(hb:mroIn K D (.type "BaseException")=some true)
  (hq:R (.ok (.ret (.ref D))) s):codeAny (model prog w) A (.call (.builtin "BaseException.__getattribute__") ⟨[.ref x,.str "__class__" tk],[]⟩) R s :=
 codeAny_call_builtin (by decide +kernel) F.entry_bexc_ga (μ X I hb (ι X I hf hm hq))
end
end L2
namespace L2
open PySem PySem.W PySem.Spec PySem.Calls PyProof.Rows
section
variable{prog:Program}{w:World}{A:Around}{E:Value->Shared->Prop}{s:Shared}{K:Frag}{x D:Addr}{ox:Obj}{nS:Option Obj}
theorem ο{Q:Option Value->Shared->Prop}(X:K.In s.heap)(I:PySem.W.InstAt s.heap x ox D nS)(π:findIn K (.ref D) "__getattribute__"=some (some (.builtin "BaseException.__getattribute__")))(ρ:findIn K (.ref D) "__getattr__"=some none)
  (hf:findObj K D nS "__class__"=some (.bind (.builtin "getset_descriptor.__get__") (.builtin "object.__class__"))) (hm:mroIn K D (.type "object")=some true) (hb:mroIn K D (.type "BaseException")=some true)
  (h:Q (some (.ref D)) { s with toks:=s.toks+1 }):wpAny (model prog w) A (getAttr? (.ref x) "__class__") Q E s:=by
 have xc:=λ(R:Result->Shared->Prop) (tk:Tok) (hR:R (.ok (.ret (.ref D))) { s with toks:=s.toks+1 }) (A:Around)=>ξ (prog:=prog) (w:=w) (A:=A) (R:=R) (tk:=tk) (s:={ s with toks:=s.toks+1 }) X I hf hm hb hR
 obtain⟨hh,g,d,t,os⟩:=s
 have L0:=I.type (M:=model prog w)
 have L1:=looks_findIn (M:=model prog w) X π
 have L2:=looks_findIn (M:=model prog w) X ρ
 have f3:=(F.excAttr_ValueError).ga.bind (.ref x)
 have dO:(Dt "BaseException.__getattribute__"==Dt "object.__getattribute__")=false:=by decide +kernel
 have cm:(onTheHeap (cN D)&&Dt "BaseException.__getattribute__"==Dt "object.__getattribute__")=false:=by rw[dO];rfl
 unfold getAttr? getAttrBy? getAttrBy
 refine wpAny_bind (wpAny_mkText (wpAny_bind (wpAny_attempt (wpAny_holding (wpAny_bind (L0.at (wpAny_bind (L1.at ?_))))))))
 dsimp only
 rw[cm]
 simp only[sk,if_false]
 unfold getAttrByItsOwn
 repeat (any_goals (first | assumption | refine wpAny_bind (L0.at ?_) | refine wpAny_bind (L2.at ?_) | wp_step))
 refine xc _ t ?_ _
 show wpAny _ _ (handedOut (.ref D)) _ _ _
 exact handed_on rfl (wpAny_pure h)
structure EB(K:Frag)(C:Addr):Prop where
 cls:(clsIn K C).isSome=true
 ga:findIn K (.ref C) "__getattribute__"=some (some (.builtin "BaseException.__getattribute__"))
 gt:findIn K (.ref C) "__getattr__"=some none
 ca:findIn K (.ref C) "__class__"=some (some (.builtin "object.__class__"))
 hn:specialIn K (.builtin "object.__class__") "__get__"=some (some (.builtin "getset_descriptor.__get__"))
 tk:takesIn K (.builtin "object.__class__")=some true
 mo:mroIn K C (.type "object")=some true
 mb:mroIn K C (.type "BaseException")=some true
noncomputable def AD(a C:Addr)(h:Heap):Prop:=∃o,h.get? a=some o/\o.cls=.ref C/\notCls o=true/\o.dict=none
theorem τ{K:Frag}{C:Addr}{name:Str}{a g:Value}(hc:(clsIn K C).isSome=true)(ha:findIn K (.ref C) name=some (some a))(hg:specialIn K a "__get__"=some (some g))(ht:takesIn K a=some true):findObj K C none name=some (.bind g a):=by
 obtain⟨cd,hc⟩:=zD.mp hc
 unfold findObj
 rw[hc,Wk,ha,Wk]
 simp[hg,ht]
theorem O2{a C:Addr}{h:Heap}(p:AD a C h):∃ox,PySem.W.InstAt h a ox C none:=by
 obtain⟨o,h1,h2,h3,h4⟩:=p
 exact⟨o,h1,h2,h3,by rw[h4];trivial⟩
theorem υ{a C:Addr}(c:EB K C):KitX K (.ref a) (.ref C) (AD a C) where
 ty:=λ_ _ _ p=>let⟨_,I⟩:=O2 p;I.type
 it:=λ_ _ X _=>by
  obtain⟨sX,mD⟩:=zD.mp c.cls
  unfold clsIn at mD
  split at mD
  ·rename_i c' d' χ DN ho
   intro A' Q' E' s' k q
   unfold isType loadHead
   exact wpAny_bind (wpAny_loadPart (k _ _ (X _ _ ho)) (wpAny_pure q))
  ·cases mD
 ne:=λh tp dd its n sl X ω=>by
  obtain⟨sX,mD⟩:=zD.mp c.cls
  refine Bool.eq_false_iff.mpr λq=>?_
  have e:C=tp:=Value.ref.inj (beq_iff_eq.mp q)
  subst e
  unfold clsIn at mD
  split at mD
  ·rename_i c' d' χ DN ho
   have z:=(X _ _ ho).symm.trans ω
   cases z
  ·cases mD
 ca:=λX p k=>let⟨_,I⟩:=O2 p;ο X I c.ga c.gt (τ c.cls c.ca c.hn c.tk) c.mo c.mb k
end
end L2
namespace L2
open PySem PySem.Spec PyProof.Rows
section
variable{X:Cx}{pins:List (Addr × Obj)}{σ:St}{H:Hp}{s:Shared}{h':Heap}{its:List Addr}{T:Addr}{o:HO}{t':Nat}
theorem Inv.AE(I:Inv X pins σ H s)(k:∀b o,b ∉ its->s.heap.get? b=some o->h'.get? b=some o)(hf:∀b∈its,iQ X pins H b):Inv X pins σ H { s with heap:=h',toks:=t' }:=by
 have nK:∀b u,H b=some u->b ∉ its:=λb u e z=>by have:=(hf b z).1;rw[this]at e;cases e
 refine I.step (g':=s.gens) (d':=s.drawn) (ch:=its) (λb hb=>?_) (λb o _ _ hc e _=>k b o hc e) (λb o _ _ hc e _=>⟨o.slots,k b o hc e⟩) (λ_ _ _ _ n=>n)
  (λb o hc e=>⟨o,k b o hc e⟩) (λ_ _ e=>e) (λ_ _ _ e=>e) (λb ps e=>⟨#[],by rw[e];simp⟩) (λm hm=>?_) (λb u e=>?_) I.bare
 ·obtain⟨_,h1,_,h2,h3,h4⟩:=hf b hb
  exact⟨h2,h1,h3,h4⟩
 ·obtain⟨o,es,ep,ho,r⟩:=hm
  exact⟨o,es,ep,k _ o (λz=>(hf _ z).2.1 rfl) ho,r⟩
 ·refine(I.aJ b u e).kh (λc v hc q=>k c v ?_ q) (λ_ q=>q) (λ_ _ q=>q) λ_ _ q=>q
  rcases hc with z | z
  ·rw[z];exact nK b u e
  ·exact nK c _ z
theorem Inv.O3(I:Inv X pins σ H s)(k:∀b o,b ∉ its->s.heap.get? b=some o->h'.get? b=some o)(hf:∀b∈its,iQ X pins H b)(hT:s.heap.objs.size<=T)(new:dU X.prog X.w (upd H T o) h' T o) :
  Inv X pins σ (upd H T o) { s with heap:=h',toks:=t' }:=by
 have nK:∀b u,H b=some u->b ∉ its:=λb u e z=>by have:=(hf b z).1;rw[this]at e;cases e
 have fT:H T=none:=I.aJ.fresh hT
 have neT:∀b u,H b=some u->b≠T:=λb u e z=>by rw[z,fT]at e;cases e
 have Γ:∀b u,s.heap.get? b=some u->b≠T:=λb u e z=>absurd (de (bP e) hT) (by rw[z];exact gw _)
 refine I.step (g':=s.gens) (d':=s.drawn) (ch:=its) (λb hb=>?_) (λb o _ _ hc e _=>k b o hc e) (λb o _ _ hc e _=>⟨o.slots,k b o hc e⟩) (λb u _ e n=>by rw[bc (Γ b u e)];exact n)
  (λb o hc e=>⟨o,k b o hc e⟩) (λb _ e=>by rw[bc (neT b _ e)];exact e) (λb _ _ e=>by rw[bc (neT b _ e)];exact e) (λb ps e=>⟨#[],by rw[bc (neT b _ e),e];simp⟩) (λm hm=>?_) (λb u e=>?_) I.bare
 ·obtain⟨_,h1,_,h2,h3,h4⟩:=hf b hb
  exact⟨h2,h1,h3,h4⟩
 ·obtain⟨o,es,ep,ho,r⟩:=hm
  exact⟨o,es,ep,k _ o (λz=>(hf _ z).2.1 rfl) ho,r⟩
 ·by_cases hb:b=T
  ·subst hb;rw[bL]at e;cases e;exact new
  ·rw[bc hb]at e
   refine(I.aJ b u e).kh (λc v hc q=>k c v ?_ q) (λc q=>by rw[bc (neT c _ q)];exact q) (λc _ q=>by rw[bc (neT c _ q)];exact q) λc _ q=>by rw[bc (neT c _ q)];exact q
   rcases hc with z | z
   ·rw[z];exact nK b u e
   ·exact nK c _ z
noncomputable def EC(K:PySem.W.Frag)(a b:Addr):It :=
 ⟨λi H=>∃xs ys x y,bM K H a xs/\bM K H b ys/\xs[i]?=some x/\ys[i]?=some y,
  λi H v H'=>∃T x y,v=.ref T/\H T=none/\H'=upd H T (.tup [x,y])/\(∀xs,bM K H a xs->xs[i]?=some x)/\∀ys,bM K H b ys->ys[i]?=some y,
  λi H=>∃xs ys,bM K H a xs/\bM K H b ys/\(xs.length<=i\/ys.length<=i)⟩
theorem nU{K:PySem.W.Frag}{a c:Addr}{xs:List V}(hk:X.K=K)(I:Inv X pins σ H s)(h:bM K H a xs)(hf:iQ X pins H c)(ho:∃o,s.heap.get? c=some o/\o.cls≠.type "list"):a≠c:=by
 subst hk
 obtain⟨its,rv,p,hz⟩:=I.list h
 obtain⟨o,e,d⟩:=ho
 obtain⟨o',e',c',_⟩:=p.isList
 intro z
 subst z
 rw[e]at e';cases e'
 exact d c'
theorem Δ{P:Program}{w:World}{K:PySem.W.Frag}{elts:List Expr}{k:Nat}{pos:Pos}(a b z TI TO i1 i2:Addr)(D5:[z,TI,TO,i1,i2].Nodup) :
  Turn P w K (.Tuple elts k pos) (EC K a b) [z,TI,TO,i1,i2] z (λi h=>IsZip h z TI TO .none/\IsPair h TI (.ref i1) (.ref i2)/\(∃u v,IsPair h TO u v)/\h.IsListIter i1 a i/\h.IsListIter i2 b i):=by
 have ap:∀(X:Cx) (pins:List (Addr × Obj)) (s:Shared) (σ:St) (H:Hp) (i:Nat) (xs ys:List V),X.K=K->Inv X pins σ H s->(∀b∈[z,TI,TO,i1,i2],iQ X pins H b)->IsZip s.heap z TI TO .none->(∃u v,IsPair s.heap TO u v)->s.heap.IsListIter i1 a i->s.heap.IsListIter i2 b i ->
   bM K H a xs->bM K H b ys->ZipApart z TI TO i1 i2 a b:=by
  intro X pins s σ H i xs ys hK I hf hz iV h1 h2 hx hy
  simp only[kQ,cA,not_or,iw,not_false_eq_true,and_true]at D5
  obtain⟨⟨d1,d2,d3,d4⟩,⟨d5,d6,d7⟩,⟨d8,d9⟩,Θ,_⟩:=D5
  have oz:∃o,s.heap.get? z=some o/\o.cls≠.type "list":=⟨_,hz,by intro q;exact absurd (Du q) (by decide)⟩
  have O4:∃o,s.heap.get? TO=some o/\o.cls≠.type "list":=by obtain⟨u,v,e⟩:=iV;exact⟨_,e,by intro q;exact absurd (Du q) (by decide)⟩
  have o1:∃o,s.heap.get? i1=some o/\o.cls≠.type "list":=by obtain⟨o,e,c,d⟩:=h1;exact⟨_,e,by rw[c];intro q;exact absurd (Du q) (by decide)⟩
  have o2:∃o,s.heap.get? i2=some o/\o.cls≠.type "list":=by obtain⟨o,e,c,d⟩:=h2;exact⟨_,e,by rw[c];intro q;exact absurd (Du q) (by decide)⟩
  exact⟨ft d1,ft d2,ft d3,ft d4,d5,d6,d7,d8,d9,Θ,
   nU hK I hx (hf z (by simp)) oz,nU hK I hx (hf TO (by simp)) O4,nU hK I hx (hf i1 (by simp)) o1,nU hK I hx (hf i2 (by simp)) o2,
   nU hK I hy (hf z (by simp)) oz,nU hK I hy (hf TO (by simp)) O4,nU hK I hy (hf i1 (by simp)) o1,nU hK I hy (hf i2 (by simp)) o2⟩
 refine⟨by simp,λi h st c hc=>?_,λi h h' st kk=>?_,?_,?_,λ_ _ _ _ _ st h=>wpAny_pyIter_zip st.1 h⟩
 ·obtain⟨hz,kq,⟨u,v,iV⟩,⟨o1,e1,c1,d1⟩,⟨o2,e2,c2,d2⟩⟩:=st
  simp only[cA,iw,or_false]at hc
  rcases hc with rfl | rfl | rfl | rfl | rfl
  ·exact⟨_,hz,λv q=>by cases q⟩
  ·exact⟨_,kq,λv q=>by cases q⟩
  ·exact⟨_,iV,λv q=>by cases q⟩
  ·exact⟨_,e1,λv q=>by rw[d1]at q;cases q⟩
  ·exact⟨_,e2,λv q=>by rw[d2]at q;cases q⟩
 ·obtain⟨hz,kq,⟨u,v,iV⟩,h1,h2⟩:=st
  exact⟨kk _ (by simp) _ hz,kk _ (by simp) _ kq,⟨u,v,kk _ (by simp) _ iV⟩,h1.at λo e=>kk _ (by simp) o e,h2.at λo e=>kk _ (by simp) o e⟩
 ·intro X hP hw hK hc i pins s σ H E I hf st hg
  obtain⟨xs,ys,x,y,hx,hy,ex,ey⟩:=hg
  obtain⟨hz,kq,⟨u,v,iV⟩,h1,h2⟩:=st
  have D:=ap X pins s σ H i xs ys hK I hf hz ⟨u,v,iV⟩ h1 h2 hx hy
  subst hP hw hK
  obtain⟨as,ra,pa,_⟩:=I.list hx
  obtain⟨bs,rb,pb,_⟩:=I.list hy
  obtain⟨ux,ED,rx⟩:=ra.get ex
  obtain⟨uy,Λ,ry⟩:=rb.get ey
  refine wpAny_pyNext_zip_item D hz kq iV h1 h2 pa.isList pb.isList (x:=ux) (y:=uy) (by simpa using ED) (by simpa using Λ) λh' z' Ξ jU jq T' sz kk=>?_
  have fT:H s.heap.objs.size=none:=I.aJ.fresh (bK _)
  have I1:Inv X pins σ (upd H s.heap.objs.size (.tup [x,y])) { s with heap:=h',toks:=s.toks }:=I.O3 (its:=[z,TO,i1,i2]) (λc o hc e=>kk c o (λq=>hc (by simp[q])) (λq=>hc (by simp[q])) (λq=>hc (by simp[q])) (λq=>hc (by simp[q])) e)
   (λc hc=>hf c (by simp only[cA,iw,or_false]at hc ⊢;rcases hc with rfl | rfl | rfl | rfl<;>simp)) (bK _) ⟨by show 2<=sizeLine;decide,[ux,uy],.cons rx (.cons ry .nil),⟨_,T',rfl,_,rfl⟩⟩
  have nT:∀c∈[z,TI,TO,i1,i2],c≠s.heap.objs.size:=λc hc q=>by
   have:∃o,s.heap.get? c=some o:=by
    simp only[cA,iw,or_false]at hc
    rcases hc with rfl | rfl | rfl | rfl | rfl
    ·exact⟨_,hz⟩
    ·exact⟨_,kq⟩
    ·exact⟨_,iV⟩
    ·obtain⟨o,e,_⟩:=h1;exact⟨o,e⟩
    ·obtain⟨o,e,_⟩:=h2;exact⟨o,e⟩
   obtain⟨o,e⟩:=this
   exact absurd (bP e) (by rw[q];exact gw _)
  refine⟨_,rfl,wpAny_letOwnedTupleGo_zip z' λEE EF sb=>?_⟩
  have EG:∀c∈[z],iQ X pins (upd H s.heap.objs.size (.tup [x,y])) c:=λc hc=>by
   have e:c=z:=by simpa using hc
   subst e
   obtain⟨f0,fr⟩:=hf c (by simp)
   exact⟨by rw[bc (nT c (by simp))];exact f0,fr⟩
  have I2:=Inv.AE (h':=EE) (its:=[z]) (t':=s.toks) I1 (λc o hc e=>sb.extBut _ _ (λq=>hc (by simp[q])) e) EG
  refine⟨.ref s.heap.objs.size,_,I2,rfl,⟨_,x,y,rfl,fT,rfl,λsY da=>by rw[I.Ae da hx];exact ex,λO5 Φ=>by rw[I.Ae Φ hy];exact ey⟩,⟨EF,sb.extBut _ _ D.TIz (kk _ _ D.TIz D.TITO D.TIi1 D.TIi2 kq),⟨ux,uy,sb.extBut _ _ D.TOz Ξ⟩,jU.extBut sb.extBut D.i1z,jq.extBut sb.extBut D.i2z⟩,λc hc=>?_⟩
  rw[bc (nT c hc)]
  exact(hf c hc).1
 ·intro X hP hw hK hc i pins s σ H E I hf st hg
  obtain⟨xs,ys,hx,hy,hl⟩:=hg
  obtain⟨hz,kq,⟨u,v,iV⟩,h1,h2⟩:=st
  have D:=ap X pins s σ H i xs ys hK I hf hz ⟨u,v,iV⟩ h1 h2 hx hy
  subst hP hw hK
  obtain⟨as,ra,pa,_⟩:=I.list hx
  obtain⟨bs,rb,pb,_⟩:=I.list hy
  have la:=ra.length
  have lb:=rb.length
  refine wpAny_pyNext_zip_end (I.ok.hd hc) D hz kq iV h1 h2 pa.isList pb.isList (hl.imp (λq=>by simp;omega) λq=>by simp;omega) λh' kk=>⟨rfl,?_⟩
  exact I.AE (its:=[z,TO,i1,i2]) (t':=s.toks) (λc o hc e=>kk c o (λq=>hc (by simp[q])) (λq=>hc (by simp[q])) (λq=>hc (by simp[q])) (λq=>hc (by simp[q])) e)
   (λc hc=>hf c (by simp only[cA,iw,or_false]at hc ⊢;rcases hc with rfl | rfl | rfl | rfl<;>simp))
noncomputable def EH(K:PySem.W.Frag)(a:Addr):It :=
 ⟨λi H=>∃xs x,bM K H a xs/\xs[i]?=some x,
  λi H v H'=>∃T x,v=.ref T/\H T=none/\H'=upd H T (.tup [.int i,x])/\∀xs,bM K H a xs->xs[i]?=some x,
  λi H=>∃xs,bM K H a xs/\xs.length<=i⟩
theorem Ψ{P:Program}{w:World}{K:PySem.W.Frag}{elts:List Expr}{k:Nat}{pos:Pos}(a z it:Addr)(lD:z≠it) :
  Turn P w K (.Tuple elts k pos) (EH K a) [z,it] z (λi h=>(∃old,IsEnum h z it i old)/\h.IsListIter it a i):=by
 refine⟨by simp,λi h st c hc=>?_,λi h h' st kk=>?_,?_,?_,λ_ _ _ _ _ st h=>by obtain⟨⟨old,e⟩,_⟩:=st;exact wpAny_pyIter_enum e h⟩
 ·obtain⟨⟨old,hz⟩,⟨o1,e1,c1,d1⟩⟩:=st
  simp only[cA,iw,or_false]at hc
  rcases hc with rfl | rfl
  ·exact⟨_,hz,λv q=>by cases q⟩
  ·exact⟨_,e1,λv q=>by rw[d1]at q;cases q⟩
 ·obtain⟨⟨old,hz⟩,h1⟩:=st
  exact⟨⟨old,kk _ (by simp) _ hz⟩,h1.at λo e=>kk _ (by simp) o e⟩
 ·intro X hP hw hK hc i pins s σ H E I hf st hg
  subst hP hw hK
  obtain⟨xs,x,hx,ex⟩:=hg
  obtain⟨⟨old,hz⟩,h1⟩:=st
  obtain⟨as,ra,pa,_⟩:=I.list hx
  obtain⟨ux,ED,rx⟩:=ra.get ex
  refine wpAny_pyNext_enum_item hz h1 pa.isList (x:=ux) (by simpa using ED) lD λh' z' jU T' sz kk=>?_
  have fT:H s.heap.objs.size=none:=I.aJ.fresh (bK _)
  have I1:Inv X pins σ (upd H s.heap.objs.size (.tup [.int i,x])) { s with heap:=h',toks:=s.toks+1 }:=I.O3 (its:=[z,it]) (λc o hc e=>kk c o (λq=>hc (by simp[q])) (λq=>hc (by simp[q])) e)
   (λc hc=>hf c hc) (bK _) ⟨by show 2<=sizeLine;decide,[.int i s.toks,ux],.cons ⟨_,rfl⟩ (.cons rx .nil),⟨_,T',rfl,_,rfl⟩⟩
  have nT:∀c∈[z,it],c≠s.heap.objs.size:=λc hc q=>by
   have:∃o,s.heap.get? c=some o:=by
    simp only[cA,iw,or_false]at hc
    rcases hc with rfl | rfl
    ·exact⟨_,hz⟩
    ·obtain⟨o,e,_⟩:=h1;exact⟨o,e⟩
   obtain⟨o,e⟩:=this
   exact absurd (bP e) (by rw[q];exact gw _)
  refine⟨_,rfl,wpAny_letOwnedTupleGo_enum z' λEE EF sb=>?_⟩
  have EG:∀c∈[z],iQ X pins (upd H s.heap.objs.size (.tup [.int i,x])) c:=λc hc=>by
   have e:c=z:=by simpa using hc
   subst e
   obtain⟨f0,fr⟩:=hf c (by simp)
   exact⟨by rw[bc (nT c (by simp))];exact f0,fr⟩
  have I2:=Inv.AE (h':=EE) (its:=[z]) (t':=s.toks+1) I1 (λc o hc e=>sb.extBut _ _ (λq=>hc (by simp[q])) e) EG
  refine⟨.ref s.heap.objs.size,_,I2,rfl,⟨_,x,rfl,fT,rfl,λsY da=>by rw[I.Ae da hx];exact ex⟩,⟨⟨ux,by simpa using EF⟩,jU.extBut sb.extBut (ft lD)⟩,λc hc=>?_⟩
  rw[bc (nT c hc)]
  exact(hf c hc).1
 ·intro X hP hw hK hc i pins s σ H E I hf st hg
  subst hP hw hK
  obtain⟨xs,hx,hl⟩:=hg
  obtain⟨⟨old,hz⟩,h1⟩:=st
  obtain⟨as,ra,pa,_⟩:=I.list hx
  have la:=ra.length
  refine wpAny_pyNext_enum_end (I.ok.hd hc) hz h1 pa.isList (by simp;omega) λh' kk=>⟨rfl,?_⟩
  exact I.AE (its:=[it]) (t':=s.toks) (λc o hc e=>kk c o (λq=>hc (by simp[q])) e) (λc hc=>hf c (by simp at hc ⊢;simp[hc]))
end
section
variable{X:Cx}{a b:Expr}{ta:TA}{p pos pY:Pos}{elts:List Expr}{x1:Nat}
noncomputable def Ω(K:PySem.W.Frag)(ta:TA):TI:=λσ H R=>ta σ H λvs H1=>∃a b,vs=[.ref a,.ref b]/\(∃xs,bM K H1 a xs)/\(∃ys,bM K H1 b ys)/\R (EC K a b) H1
theorem cb2:bootBuiltins "zip"=some (.type "zip"):=by decide +kernel
theorem cw5(hg:Gl X "zip")(hm:X.mg "zip"=none)(ha:PA X [a,b] ta)(hs:starEach [a,b] X.env=[(false,eval a X.env),(false,eval b X.env)]:=by rfl)(fi:starEach [b] X.env=[(false,eval b X.env)]:=by rfl) :
  PI X (.Tuple elts x1 pY) (.Call (.Name "zip" p) [a,b] [] pos) (Ω X.K ta):=by
 intro pins s σ H R I h
 refine Call_ (pM I hg hm cb2 (zA (aP (ha pos pins s σ H _ I h) λus s1 ⟨vs,H1,I1,r1,q1⟩=>?_) (by rw[hs,fi]) (by rw[fi];rfl)))
 obtain⟨a,b,e,⟨xs,hx⟩,⟨ys,hy⟩,q⟩:=q1
 subst e
 cases r1 with
 | cons r rr =>
  cases rr with
  | cons r2 rr =>
   cases rr
   cases r
   cases r2
   obtain⟨as,ra,pa,_⟩:=I1.list hx
   obtain⟨bs,rb,pb,_⟩:=I1.list hy
   refine call_zip_2 pa.isList pb.isList λh' hz kq iV h1 h2 sz kk=>wpAny_pyIter_zip hz ?_
   refine⟨_,[s1.heap.objs.size+4,s1.heap.objs.size+2,s1.heap.objs.size+3,s1.heap.objs.size,s1.heap.objs.size+1],_,_,H1,rfl,I1.kept (t':=s1.toks) kk,Δ a b _ _ _ _ _ (by simp),⟨hz,kq,⟨_,_,iV⟩,h1,h2⟩,λc hc=>?_,q⟩
   have hle:s1.heap.objs.size<=c:=by
    simp only[cA,iw,or_false]at hc
    rcases hc with rfl | rfl | rfl | rfl | rfl<;>omega
   exact I1.Ai hle (I1.aJ.fresh hle)
noncomputable def cG7(K:PySem.W.Frag)(ta:TA):TI:=λσ H R=>ta σ H λvs H1=>∃a,vs=[.ref a]/\(∃xs,bM K H1 a xs)/\R (EH K a) H1
theorem bv0:bootBuiltins "enumerate"=some (.type "enumerate"):=by decide +kernel
theorem cn5(hg:Gl X "enumerate")(hm:X.mg "enumerate"=none)(ha:PA X [a] ta)(hs:starEach [a] X.env=[(false,eval a X.env)]:=by rfl) :
  PI X (.Tuple elts x1 pY) (.Call (.Name "enumerate" p) [a] [] pos) (cG7 X.K ta):=by
 intro pins s σ H R I h
 refine Call_ (pM I hg hm bv0 (zA (aP (ha pos pins s σ H _ I h) λus s1 ⟨vs,H1,I1,r1,q1⟩=>?_) hs rfl))
 obtain⟨a,e,⟨xs,hx⟩,q⟩:=q1
 subst e
 cases r1 with
 | cons r rr =>
  cases rr
  cases r
  obtain⟨as,ra,pa,_⟩:=I1.list hx
  refine call_enumerate_list pa.isList λh' hz h1 sz kk=>wpAny_pyIter_enum hz ?_
  refine⟨_,[s1.heap.objs.size+1,s1.heap.objs.size],_,_,H1,rfl,I1.kept (t':=s1.toks) kk,Ψ a (s1.heap.objs.size+1) s1.heap.objs.size (Nat.succ_ne_self _),⟨⟨_,hz⟩,h1⟩,λc hc=>?_,q⟩
  have hle:s1.heap.objs.size<=c:=by
   simp only[cA,iw,or_false]at hc
   rcases hc with rfl | rfl<;>omega
  exact I1.Ai hle (I1.aJ.fresh hle)
end
end L2
namespace L2
open PySem PySem.Spec PyProof.Rows PySem.W PySem.Calls
section
variable{X:Cx}
noncomputable def sZ{α:Type}(xs:List α)(lo hi:Option Int):List α:=(xs.drop (HT.c9 xs.length 0 lo)).take (HT.c9 xs.length xs.length hi-HT.c9 xs.length 0 lo)
theorem bU9(x:Str)(lo hi:Option Int):Txt.slice x lo hi=⟨(sZ x.cps.toList lo hi).toArray⟩:=by
 have hx:x.length=x.cps.size:=rfl
 have e:(Dv lo hi 1 x.length).filterMap (x.cps[·]?)=sZ x.cps.toList lo hi:=by
  obtain⟨h1,h2,h3⟩:=Ec lo hi x.length
  have e0:Dv lo hi 1 x.length=sliceRange (sliceBounds lo hi none x.length).1 (sliceBounds lo hi none x.length).2.1 1:=by
   cases lo<;>cases hi<;>rfl
  rw[e0,h1,h2]
  simp only[sliceRange_one,pick_run]
  unfold sZ
  rw[hx,vP]
 unfold Txt.slice
 split
 ·rename_i h
  have hl:(Dv lo hi 1 x.length).length=x.length:=by
   rw[dZ]at h;exact eq_of_beq h.2
  have hs:(sZ x.cps.toList lo hi)=x.cps.toList:=by
   have e2:HT.c9 x.cps.toList.length x.cps.toList.length hi-HT.c9 x.cps.toList.length 0 lo=x.length:=by
    obtain⟨h1,h2,h3⟩:=Ec lo hi x.length
    have e0:Dv lo hi 1 x.length=sliceRange (sliceBounds lo hi none x.length).1 (sliceBounds lo hi none x.length).2.1 1:=by
     cases lo<;>cases hi<;>rfl
    rw[e0,h1,h2]at hl
    simp only[sliceRange_one,bq,cB]at hl
    rw[vP,<- hx]
    omega
   unfold sZ
   have le:HT.c9 x.cps.toList.length x.cps.toList.length hi<=x.cps.toList.length:=by
    cases hi with
    | none=>simp[HT.c9]
    | some i=>simp only[HT.c9];split<;>omega
   have le2:HT.c9 x.cps.toList.length 0 lo<=x.cps.toList.length:=by
    cases lo with
    | none=>simp[HT.c9]
    | some i=>simp only[HT.c9];split<;>omega
   rw[vP,<- hx]at e2 le le2 ⊢
   have z:HT.c9 x.length 0 lo=0:=by omega
   have z2:HT.c9 x.length x.length hi=x.length:=by omega
   rw[z,z2,List.drop_zero,Nat.sub_zero,hx,<- vP,sq]
  rw[hs]
 ·rw[e]
theorem cz7:p7 X (λx lo hi H Q=>∃z,x=.str z/\z.length<=sizeLine/\Q (.str ⟨(sZ z.cps.toList lo hi).toArray⟩) H):=by
 intro pins s σ H x v vl vu lo hi sl Q I rx hs pl pu h
 obtain⟨z,rfl,hz,q⟩:=h
 obtain⟨t,rfl⟩:=rx
 refine⟨"str",_,F.slot_str_getitem.lookup,typeIs_str _ _ _,?_⟩
 have fin:∀(l u:Option (Int × Tok)),l.map (·.1)=lo->u.map (·.1)=hi->partValue l=vl->partValue u=vu->wpAny (model X.prog X.w) X.A (getItem (.str z t) (.ref sl)) (EP X pins σ Q) X.xe s:=by
  intro l u h1 h2 h3 h4
  obtain⟨o,e1,e2,e3⟩:=hs
  refine wpAny_getItem_str_slice (l:=l) (u:=u) (st:=none) ⟨o,e1,e2,by rw[e3,h3,h4];rfl⟩ rfl ?_
  have e:Txt.slice z lo hi=(if(((none:Option (Int × Tok)).map (·.1)).getD 1==1&&(slicePicked z l u none).length==z.length)=true then z else⟨((slicePicked z l u none).filterMap (z.cps[·]?)).toArray⟩):=by
   unfold Txt.slice slicePicked;rw[h1,h2];rfl
  refine post_val_or_str ⟨?_,λt' k=>?_⟩
  ·rw[<-e];exact fg (Txt.slice_le z _ _) hz
  ·rw[<-e,bU9];exact⟨.str _,H,I.tok _,⟨_,rfl⟩,q⟩
 cases pl with
 | none =>
  cases pu with
  | none=>exact fin none none rfl rfl rfl rfl
  | int j tj=>exact fin none (some (j,tj)) rfl rfl rfl rfl
 | int i ti =>
  cases pu with
  | none=>exact fin (some (i,ti)) none rfl rfl rfl rfl
  | int j tj=>exact fin (some (i,ti)) (some (j,tj)) rfl rfl rfl rfl
end
end L2
namespace L3
open PySem L2
noncomputable def iW:HO->Bool
 | .dr _=>false
 | _=>true
structure af(H H':Hp):Prop where
 get:∀b o,H b=some o->(h:iW o=true:=by rfl)->H' b=some o
 tb:∀b ps,H b=some (.dr ps)->∃more,H' b=some (.dr (ps++more))
noncomputable instance {H H':Hp}:CoeFun (af H H') λ_=>∀b o,H b=some o->(h:iW o=true:=by rfl)->H' b=some o:=⟨λs=>@af.get _ _ s⟩
theorem EI{o:HO}(h:iW o=false):∃ps,o=.dr ps:=by
 cases o with
 | dr ps=>exact⟨ps,rfl⟩
 | _=>cases h
theorem af.of{H H':Hp}(h:∀b o,H b=some o->H' b=some o):af H H':=⟨λb o e _=>h b o e,λb ps e=>⟨#[],by rw[h b _ e];simp⟩⟩
theorem af.refl(H:Hp):af H H:=.of λ_ _ h=>h
theorem af.trans{H H1 H2:Hp}(a:af H H1)(b:af H1 H2):af H H2 :=
 ⟨λc o h n=>b.get c o (a.get c o h n) n,λc ps h=>by
  obtain⟨m1,e1⟩:=a.tb c ps h
  obtain⟨m2,e2⟩:=b.tb c _ e1
  exact⟨m1++m2,by rw[e2,rP]⟩⟩
theorem af.any{H H':Hp}(e:af H H'){l:Addr}{o:HO}(h:H l=some o):∃o',H' l=some o':=by
 cases n:iW o with
 | true=>exact⟨o,e.get l o h n⟩
 | false =>
  obtain⟨ps,rfl⟩:=EI n
  obtain⟨m,q⟩:=e.tb l ps h
  exact⟨_,q⟩
theorem af.free{H H':Hp}(e:af H H'){l:Addr}(h:H' l=Option.none):H l=Option.none:=by
 cases q:H l with
 | none=>rfl
 | some o =>
  obtain⟨o',z⟩:=e.any q
  rw[z]at h
  cases h
inductive s8 where
 | ext (φ:Addr->Heap->Prop)
 | lam (of oc:Obj) (c k:Addr)
noncomputable instance:Coe (Addr->Heap->Prop) s8:=⟨.ext⟩
noncomputable def EJ(H:Hp)(k:Addr):Prop:=∃ψ,H k=some (.ext ψ)/\∀h,ψ h->∃q,h.CodeRec (.ref k) q
noncomputable def jr(of oc:Obj)(c p:Addr):Heap->Prop:=λh=>h.get? p=some of/\h.get? c=some oc
structure jV(H:Hp)(p:Addr)(of oc:Obj)(c k:Addr):Prop where
 fn:H p=some (.ext (jr of oc c p))
 cell:H c=some (.own p)
 EK:EJ H k
noncomputable def qe(H:Hp)(p:Addr):s8->Prop
 | .ext φ=>H p=some (.ext (φ p))
 | .lam of oc c k=>jV H p of oc c k
theorem qe.mono{H H':Hp}{p:Addr}:∀{z:s8},qe H p z->(∀a o,H a=some o->(∀ws,o≠.lst ws)->iW o=true->H' a=some o)->qe H' p z
 | .ext φ,x,k=>k _ _ x (λws q=>by cases q) rfl
 | .lam of oc c k',x,k=>⟨k _ _ x.fn (λws q=>by cases q) rfl,k _ _ x.cell (λws q=>by cases q) rfl,let⟨ψ,e,h⟩:=x.EK;⟨ψ,k _ _ e (λws q=>by cases q) rfl,h⟩⟩
inductive D where
 | au | bl (b:Bool) | int (i:Int) | str (x:Str)
 | lst (o:Bool) (xs:List D)
 | tup (xs:List D)
 | obj (C:Addr) (ns:List Str) (xs:List D)
 | fz (xs:List D)
 | bE (z:s8)
 deriving Inhabited
noncomputable def D.pl:D->Bool
 | .lst o xs=>!o&&wU xs
 | .tup xs=>wU xs
 | _=>true
where wU:List D->Bool
 | []=>true
 | d::ds=>d.pl&&wU ds
noncomputable def D.fr:D->Bool
 | .lst o xs=>o&&wV xs
 | .tup xs=>wV xs
 | .obj _ _ _=>false
 | .fz _=>false
 | _=>true
where wV:List D->Bool
 | []=>true
 | d::ds=>d.fr&&wV ds
noncomputable def D.sh:D->D
 | .lst _ xs=>.lst false (wW xs)
 | .tup xs=>.tup (wW xs)
 | d=>d
where wW:List D->List D
 | []=>[]
 | d::ds=>d.sh::wW ds
theorem O6(ds:List D):D.pl.wU ds=ds.all D.pl:=by induction ds with | nil=>rfl | cons d ds ih=>simp[D.pl.wU,ih]
theorem O7(ds:List D):D.fr.wV ds=ds.all D.fr:=by induction ds with | nil=>rfl | cons d ds ih=>simp[D.fr.wV,ih]
theorem O8(ds:List D):D.sh.wW ds=ds.map D.sh:=by induction ds with | nil=>rfl | cons d ds ih=>simp[D.sh.wW,ih]
theorem fK(o:Bool)(xs:List D):(D.lst o xs).pl=(!o&&xs.all D.pl):=by simp[D.pl,O6]
theorem kr(xs:List D):(D.tup xs).pl=xs.all D.pl:=by simp[D.pl,O6]
theorem gg(o:Bool)(xs:List D):(D.lst o xs).fr=(o&&xs.all D.fr):=by simp[D.fr,O7]
theorem qf(xs:List D):(D.tup xs).fr=xs.all D.fr:=by simp[D.fr,O7]
theorem dF(o:Bool)(xs:List D):(D.lst o xs).sh=.lst false (xs.map D.sh):=by simp[D.sh,O8]
theorem lF(xs:List D):(D.tup xs).sh=.tup (xs.map D.sh):=by simp[D.sh,O8]
inductive R(F H:Hp):List D->List V->List Addr->Prop
 | nil:R F H [] [] []
 | au {ds vs B}:R F H ds vs B->R F H (.au::ds) (.au::vs) B
 | bl {b ds vs B}:R F H ds vs B->R F H (.bl b::ds) (.bl b::vs) B
 | int {i ds vs B}:R F H ds vs B->R F H (.int i::ds) (.int i::vs) B
 | str {x ds vs B}:R F H ds vs B->R F H (.str x::ds) (.str x::vs) B
 | shr {p ws xs ds vs B}:F p=some (.lst ws)->R F H xs ws []->R F H ds vs B->R F H (.lst false xs::ds) (.ref p::vs) B
 | own {p ws xs A ds vs B}:H p=some (.lst ws)->F p=none->R F H xs ws A->R F H ds vs B->R F H (.lst true xs::ds) (.ref p::vs) (p::(A++B))
 | tup {p ws xs A ds vs B}:H p=some (.tup ws)->R F H xs ws A->R F H ds vs B->R F H (.tup xs::ds) (.ref p::vs) (A++B)
 | obj {p C dx ns ws xs ds vs B}:H p=some (.ins C dx (ns.zip ws))->ns.length=ws.length->R F H xs ws []->R F H ds vs B->R F H (.obj C ns xs::ds) (.ref p::vs) B
 | fz {p o ws xs ds vs B}:F p=some (.bt o (.lst ws))->R F H xs ws []->R F H ds vs B->R F H (.fz xs::ds) (.ref p::vs) B
 | bE {p z ds vs B}:qe H p z->R F H ds vs B->R F H (.bE z::ds) (.ref p::vs) B
inductive S(F H:Hp):List D->List V->Prop
 | nil:S F H [] []
 | au {ds vs}:S F H ds vs->S F H (.au::ds) (.au::vs)
 | bl {b ds vs}:S F H ds vs->S F H (.bl b::ds) (.bl b::vs)
 | int {i ds vs}:S F H ds vs->S F H (.int i::ds) (.int i::vs)
 | str {x ds vs}:S F H ds vs->S F H (.str x::ds) (.str x::vs)
 | shr {p ws xs ds vs}:F p=some (.lst ws)->R F H xs ws []->S F H ds vs->S F H (.lst false xs::ds) (.ref p::vs)
 | own {p ws xs ds vs}:H p=some (.lst ws)->S F H xs ws->S F H ds vs->S F H (.lst true xs::ds) (.ref p::vs)
 | tup {p ws xs ds vs}:H p=some (.tup ws)->S F H xs ws->S F H ds vs->S F H (.tup xs::ds) (.ref p::vs)
 | obj {p C dx ns ws xs ds vs}:H p=some (.ins C dx (ns.zip ws))->ns.length=ws.length->R F H xs ws []->S F H ds vs->S F H (.obj C ns xs::ds) (.ref p::vs)
 | fz {p o ws xs ds vs}:F p=some (.bt o (.lst ws))->R F H xs ws []->S F H ds vs->S F H (.fz xs::ds) (.ref p::vs)
 | bE {p z ds vs}:qe H p z->S F H ds vs->S F H (.bE z::ds) (.ref p::vs)
section
variable{F F' H H':Hp}{d:D}{ds es:List D}{v:V}{vs ws:List V}{A B:List Addr}
theorem R.length(r:R F H ds vs A):ds.length=vs.length:=by
 induction r<;>simp_all
theorem S.length(r:S F H ds vs):ds.length=vs.length:=by
 induction r<;>simp_all
theorem R.cons(r:R F H [d] [v] A)(q:R F H ds vs B):R F H (d::ds) (v::vs) (A++B):=by
 cases r with
 | au r=>cases r;exact .au q
 | bl r=>cases r;exact .bl q
 | int r=>cases r;exact .int q
 | str r=>cases r;exact .str q
 | shr h x r=>cases r;exact .shr h x q
 | own h f x r=>cases r;simpa using R.own h f x q
 | tup h x r=>cases r;simpa using R.tup h x q
 | obj h l x r=>cases r;exact .obj h l x q
 | fz h x r=>cases r;exact .fz h x q
 | bE h r=>cases r;exact .bE h q
theorem R.cL(r:R F H (d::ds) vs A):∃v bS A1 A2,vs=v::bS/\A=A1++A2/\R F H [d] [v] A1/\R F H ds bS A2:=by
 cases r with
 | au r=>exact⟨_,_,[],_,rfl,rfl,.au .nil,r⟩
 | bl r=>exact⟨_,_,[],_,rfl,rfl,.bl .nil,r⟩
 | int r=>exact⟨_,_,[],_,rfl,rfl,.int .nil,r⟩
 | str r=>exact⟨_,_,[],_,rfl,rfl,.str .nil,r⟩
 | shr h x r=>exact⟨_,_,[],_,rfl,rfl,.shr h x .nil,r⟩
 | @own p _ _ A1 _ _ B1 h f x r=>exact⟨_,_,p::A1,B1,rfl,rfl,by simpa using R.own h f x .nil,r⟩
 | @tup p _ _ A1 _ _ B1 h x r=>exact⟨_,_,A1,B1,rfl,rfl,by simpa using R.tup h x .nil,r⟩
 | obj h l x r=>exact⟨_,_,[],_,rfl,rfl,.obj h l x .nil,r⟩
 | fz h x r=>exact⟨_,_,[],_,rfl,rfl,.fz h x .nil,r⟩
 | bE h r=>exact⟨_,_,[],_,rfl,rfl,.bE h .nil,r⟩
theorem S.cons(r:S F H [d] [v])(q:S F H ds vs):S F H (d::ds) (v::vs):=by
 cases r with
 | au r=>exact .au q
 | bl r=>exact .bl q
 | int r=>exact .int q
 | str r=>exact .str q
 | shr h x r=>exact .shr h x q
 | own h x r=>exact .own h x q
 | tup h x r=>exact .tup h x q
 | obj h l x r=>exact .obj h l x q
 | fz h x r=>exact .fz h x q
 | bE h r=>exact .bE h q
theorem S.cL(r:S F H (d::ds) vs):∃v bS,vs=v::bS/\S F H [d] [v]/\S F H ds bS:=by
 cases r with
 | au r=>exact⟨_,_,rfl,.au .nil,r⟩
 | bl r=>exact⟨_,_,rfl,.bl .nil,r⟩
 | int r=>exact⟨_,_,rfl,.int .nil,r⟩
 | str r=>exact⟨_,_,rfl,.str .nil,r⟩
 | shr h x r=>exact⟨_,_,rfl,.shr h x .nil,r⟩
 | own h x r=>exact⟨_,_,rfl,.own h x .nil,r⟩
 | tup h x r=>exact⟨_,_,rfl,.tup h x .nil,r⟩
 | obj h l x r=>exact⟨_,_,rfl,.obj h l x .nil,r⟩
 | fz h x r=>exact⟨_,_,rfl,.fz h x .nil,r⟩
 | bE h r=>exact⟨_,_,rfl,.bE h .nil,r⟩
theorem R.append:∀{ds:List D} {vs:List V} {A:List Addr},R F H ds vs A->R F H es ws B->R F H (ds++es) (vs++ws) (A++B)
 | [],_,_,r,q=>by cases r;exact q
 | d::ds,_,_,r,q=>by
  obtain⟨v,bS,A1,A2,rfl,rfl,h1,h2⟩:=r.cL
  simpa using h1.cons (R.append h2 q)
theorem S.append:∀{ds:List D} {vs:List V},S F H ds vs->S F H es ws->S F H (ds++es) (vs++ws)
 | [],_,r,q=>by cases r;exact q
 | d::ds,_,r,q=>by
  obtain⟨v,bS,rfl,h1,h2⟩:=r.cL
  exact h1.cons (S.append h2 q)
theorem R.split:∀{ds:List D} {vs:List V} {A:List Addr},R F H (ds++es) vs A->∃v1 v2 A1 A2,vs=v1++v2/\A=A1++A2/\R F H ds v1 A1/\R F H es v2 A2
 | [],vs,A,r=>⟨[],vs,[],A,rfl,rfl,.nil,r⟩
 | d::ds,_,_,r=>by
  obtain⟨v,bS,A1,A2,rfl,rfl,h1,h2⟩:=R.cL (ds:=ds++es) r
  obtain⟨v1,v2,B1,B2,rfl,rfl,h3,h4⟩:=R.split (ds:=ds) h2
  exact⟨v::v1,v2,A1++B1,B2,rfl,by simp,h1.cons h3,h4⟩
theorem R.get:∀{ds:List D} {vs:List V} {A:List Addr} {i:Nat},R F H ds vs A->ds[i]?=some d->∃v A1,vs[i]?=some v/\R F H [d] [v] A1/\A1 ⊆ A
 | [],_,_,_,_,e=>by simp at e
 | d'::ds,_,_,i,r,e=>by
  obtain⟨v,bS,A1,A2,rfl,rfl,h1,h2⟩:=r.cL
  cases i with
  | zero=>simp at e;subst e;exact⟨v,A1,rfl,h1,by simp⟩
  | succ i =>
   obtain⟨w,B1,e2,q,sb⟩:=R.get (ds:=ds) (i:=i) h2 (by simpa using e)
   exact⟨w,B1,by simpa using e2,q,λx hx=>cW _ (sb hx)⟩
theorem S.get:∀{ds:List D} {vs:List V} {i:Nat},S F H ds vs->ds[i]?=some d->∃v,vs[i]?=some v/\S F H [d] [v]
 | [],_,_,_,e=>by simp at e
 | d'::ds,_,i,r,e=>by
  obtain⟨v,bS,rfl,h1,h2⟩:=r.cL
  cases i with
  | zero=>simp at e;subst e;exact⟨v,rfl,h1⟩
  | succ i =>
   obtain⟨w,e2,q⟩:=S.get (ds:=ds) (i:=i) h2 (by simpa using e)
   exact⟨w,by simpa using e2,q⟩
theorem S.get':∀{ds:List D} {vs:List V} {i:Nat},S F H ds vs->vs[i]?=some v->∃d,ds[i]?=some d/\S F H [d] [v]
 | [],_,_,r,e=>by cases r;simp at e
 | d'::ds,_,i,r,e=>by
  obtain⟨v,bS,rfl,h1,h2⟩:=r.cL
  cases i with
  | zero=>simp at e;subst e;exact⟨d',rfl,h1⟩
  | succ i =>
   obtain⟨w,e2,q⟩:=S.get' (ds:=ds) (i:=i) h2 (by simpa using e)
   exact⟨w,by simpa using e2,q⟩
theorem S.take:∀{ds:List D} {vs:List V} (n:Nat),S F H ds vs->S F H (ds.take n) (vs.take n)
 | _,_,0,r=>by simpa using S.nil
 | [],_,n+1,r=>by cases r;exact .nil
 | d::ds,_,n+1,r=>by
  obtain⟨v,bS,rfl,h1,h2⟩:=r.cL
  exact h1.cons (S.take n h2)
theorem S.drop:∀{ds:List D} {vs:List V} (n:Nat),S F H ds vs->S F H (ds.drop n) (vs.drop n)
 | _,_,0,r=>by simpa using r
 | [],_,n+1,r=>by cases r;exact .nil
 | d::ds,_,n+1,r=>by
  obtain⟨v,bS,rfl,h1,h2⟩:=r.cL
  exact S.drop n h2
theorem iD{p:Addr}{o:HO}(h:Rd F p o)(s:af F F')(n:iW o=true:=by rfl):Rd F' p o:=by
 rcases h with h | ⟨u,h⟩
 ·exact .inl (s.get _ _ h n)
 ·exact .inr ⟨u,s _ _ h⟩
theorem R.s(r:R F H ds vs A):S F H ds vs:=by
 induction r with
 | nil=>exact .nil
 | au _ ih=>exact .au ih
 | bl _ ih=>exact .bl ih
 | int _ ih=>exact .int ih
 | str _ ih=>exact .str ih
 | shr h x _ _ ih=>exact .shr h x ih
 | own h f _ _ i1 i2=>exact .own h i1 i2
 | tup h _ _ i1 i2=>exact .tup h i1 i2
 | obj h l x _ _ ih=>exact .obj h l x ih
 | fz h x _ _ ih=>exact .fz h x ih
 | bE h _ ih=>exact .bE h ih
structure fL(W:List Addr)(H H':Hp):Prop where
 get:∀a o,H a=some o->a ∉ W->(h:iW o=true:=by rfl)->H' a=some o
noncomputable instance {W:List Addr} {H H':Hp}:CoeFun (fL W H H') λ_=>∀a o,H a=some o->a ∉ W->(h:iW o=true:=by rfl)->H' a=some o:=⟨λs=>@fL.get _ _ _ s⟩
noncomputable def gB(W:List Addr)(H:Hp):Prop:=∀a∈W,∃ws,H a=some (.lst ws)
theorem R.keep{W:List Addr}(hf:af F F')(hb:fL W H H')(hl:gB W H)(r:R F H ds vs A)(hn:∀a∈A,F' a=none)(hd:∀a∈A,a ∉ W):R F' H' ds vs A:=by
 induction r with
 | nil=>exact .nil
 | au _ ih=>exact .au (ih hn hd)
 | bl _ ih=>exact .bl (ih hn hd)
 | int _ ih=>exact .int (ih hn hd)
 | str _ ih=>exact .str (ih hn hd)
 | shr h x _ i1 ih=>exact .shr (hf _ _ h) (i1 (by simp) (by simp)) (ih hn hd)
 | own h f _ _ i1 i2 =>
  refine .own (hb _ _ h (hd _ (by simp))) (hn _ (by simp)) (i1 (λa ha=>hn a ?_) λa ha=>hd a ?_) (i2 (λa ha=>hn a ?_) λa ha=>hd a ?_)<;>simp[ha]
 | @tup p ws _ _ _ _ _ h _ _ i1 i2 =>
  refine .tup (hb _ _ h λz=>?_) (i1 (λa ha=>hn a ?_) λa ha=>hd a ?_) (i2 (λa ha=>hn a ?_) λa ha=>hd a ?_)<;>try simp[ha]
  obtain⟨q,e⟩:=hl _ z
  rw[h]at e;cases e
 | obj h l x _ i1 ih =>
  refine .obj (hb _ _ h λz=>?_) l (i1 (by simp) (by simp)) (ih hn hd)
  obtain⟨q,e⟩:=hl _ z
  rw[h]at e;cases e
 | fz h x _ i1 ih=>exact .fz (hf _ _ h) (i1 (by simp) (by simp)) (ih hn hd)
 | bE h _ ih =>
  exact .bE (h.mono λa o e n t=>hb.get a o e (λz=>by
   obtain⟨q,e'⟩:=hl _ z
   rw[e]at e';cases e';exact n _ rfl) t) (ih hn hd)
theorem fL.same(h:af H H'):fL [] H H':=⟨λa o e _ n=>h.get a o e n⟩
theorem gB.nil:gB [] H:=λa h=>absurd h (by simp)
theorem R.grow(hf:af F F')(hb:af H H')(r:R F H ds vs A)(hn:∀a∈A,F' a=none):R F' H' ds vs A :=
 r.keep hf (fL.same hb) gB.nil hn (by simp)
theorem R.shared(hf:af F F')(hb:af H H')(r:R F H ds vs []):R F' H' ds vs []:=r.grow hf hb (by simp)
theorem S.mono(hf:af F F')(hb:af H H')(r:S F H ds vs):S F' H' ds vs:=by
 induction r with
 | nil=>exact .nil
 | au _ ih=>exact .au ih
 | bl _ ih=>exact .bl ih
 | int _ ih=>exact .int ih
 | str _ ih=>exact .str ih
 | shr h x _ ih=>exact .shr (hf _ _ h) (x.shared hf hb) ih
 | own h _ _ i1 i2=>exact .own (hb _ _ h) i1 i2
 | tup h _ _ i1 i2=>exact .tup (hb _ _ h) i1 i2
 | obj h l x _ ih=>exact .obj (hb _ _ h) l (x.shared hf hb) ih
 | fz h x _ ih=>exact .fz (hf _ _ h) (x.shared hf hb) ih
 | bE h _ ih=>exact .bE (h.mono λa o e _ t=>hb.get a o e t) ih
theorem S.r(s:S F H ds vs)(p:ds.all D.pl=true):R F H ds vs []:=by
 induction s with
 | nil=>exact .nil
 | au _ ih=>exact .au (ih (by simpa[D.pl]using p))
 | bl _ ih=>exact .bl (ih (by simpa[D.pl]using p))
 | int _ ih=>exact .int (ih (by simpa[D.pl]using p))
 | str _ ih=>exact .str (ih (by simpa[D.pl]using p))
 | shr h x _ ih=>exact .shr h x (ih (by simp[fK]at p;simpa using p.2))
 | own h _ _ i1 i2=>simp[fK]at p
 | tup h _ _ i1 i2 =>
  rw[dh,kr,dZ]at p
  simpa using R.tup h (i1 p.1) (i2 p.2)
 | obj h l x _ ih=>exact .obj h l x (ih (by simpa[D.pl]using p))
 | fz h x _ ih=>exact .fz h x (ih (by simpa[D.pl]using p))
 | bE h _ ih=>exact .bE h (ih (by simpa[D.pl]using p))
theorem R.pl(r:R F H ds vs []):ds.all D.pl=true:=by
 generalize e:([]:List Addr)=A at r
 induction r with
 | nil=>rfl
 | au _ ih=>simp[D.pl];simpa using ih e
 | bl _ ih=>simp[D.pl];simpa using ih e
 | int _ ih=>simp[D.pl];simpa using ih e
 | str _ ih=>simp[D.pl];simpa using ih e
 | shr h x _ i1 ih=>simp only[dh,fK,i1 rfl,ih e];rfl
 | own h f _ _ i1 i2=>cases e
 | tup h _ _ i1 i2 =>
  obtain⟨e1,e2⟩:=pq.mp e.symm
  simp only[dh,kr,i1 e1.symm,i2 e2.symm];rfl
 | obj h l x _ i1 ih=>simp[D.pl];simpa using ih e
 | fz h x _ i1 ih=>simp[D.pl];simpa using ih e
 | bE h _ ih=>simp[D.pl];simpa using ih e
theorem D.AF:∀{d:D},d.pl=true->d.sh=d
 | .au,_=>rfl
 | .bl _,_=>rfl
 | .int _,_=>rfl
 | .str _,_=>rfl
 | .obj _ _ _,_=>rfl
 | .fz _,_=>rfl
 | .bE _,_=>rfl
 | .lst o xs,h=>by
  rw[fK,dZ]at h
  have:∀(l:List D),(∀x∈l,x∈xs)->l.all D.pl=true->l.map D.sh=l:=by
   intro l hl hp
   induction l with
   | nil=>rfl
   | cons x l ih =>
    simp only[dh,dZ]at hp
    have hx:x∈xs:=hl x (by simp)
    rw[df,D.AF hp.1,ih (λy hy=>hl y (by simp[hy])) hp.2]
  rw[dF,this xs (λ_ h=>h) h.2]
  cases o<;>simp_all
 | .tup xs,h=>by
  rw[kr]at h
  have:∀(l:List D),(∀x∈l,x∈xs)->l.all D.pl=true->l.map D.sh=l:=by
   intro l hl hp
   induction l with
   | nil=>rfl
   | cons x l ih =>
    simp only[dh,dZ]at hp
    have hx:x∈xs:=hl x (by simp)
    rw[df,D.AF hp.1,ih (λy hy=>hl y (by simp[hy])) hp.2]
  rw[lF,this xs (λ_ h=>h) h]
termination_by d=>sizeOf d
theorem lH{l:List D}(h:l.all D.pl=true):l.map D.sh=l:=by
 induction l with
 | nil=>rfl
 | cons x l ih =>
  simp only[dh,dZ]at h
  rw[df,D.AF h.1,ih h.2]
theorem S.frozen(e:af F H)(s:S F H ds vs):R H H (ds.map D.sh) vs []:=by
 induction s with
 | nil=>exact .nil
 | au _ ih=>exact .au ih
 | bl _ ih=>exact .bl ih
 | int _ ih=>exact .int ih
 | str _ ih=>exact .str ih
 | shr h x _ ih =>
  rw[df,dF,lH x.pl]
  exact .shr (e _ _ h) (x.shared e (af.refl _)) ih
 | own h _ _ i1 i2=>rw[df,dF];exact .shr h i1 i2
 | tup h _ _ i1 i2=>rw[df,lF];simpa using R.tup h i1 i2
 | obj h l x _ ih=>exact .obj h l (x.shared e (af.refl _)) ih
 | fz h x _ ih=>exact .fz (e _ _ h) (x.shared e (af.refl _)) ih
 | bE h _ ih=>exact .bE h ih
noncomputable def bt(F H:Hp)(A:List Addr):Hp:=λa=>if a∈A then H a else F a
theorem hJ(e:af F H):af F (bt F H A):=⟨λa o h n=>by unfold bt;split;exact e.get _ _ h n;exact h,λa ps h=>by unfold bt;split;exact e.tb _ _ h;exact⟨#[],by rw[h];simp⟩⟩
theorem mP(e:af F H):af (bt F H A) H:=⟨λa o h n=>by unfold bt at h;split at h;exact h;exact e.get _ _ h n,λa ps h=>by unfold bt at h;split at h;exact⟨#[],by rw[h];simp⟩;exact e.tb _ _ h⟩
theorem nV{a:Addr}(h:a ∉ A):bt F H A a=F a:=by unfold bt;rw[if_neg h]
theorem cx1{a:Addr}(h:a∈A):bt F H A a=H a:=by unfold bt;rw[if_pos h]
theorem R.bt(e:af F H)(r:R F H ds vs A):∀A',A ⊆ A'->R (L3.bt F H A') H (ds.map D.sh) vs []:=by
 induction r with
 | nil=>exact λ_ _=>.nil
 | au _ ih=>exact λA' h=>.au (ih A' h)
 | bl _ ih=>exact λA' h=>.bl (ih A' h)
 | int _ ih=>exact λA' h=>.int (ih A' h)
 | str _ ih=>exact λA' h=>.str (ih A' h)
 | shr h x _ i1 ih =>
  intro A' hA
  rw[df,dF,lH x.pl]
  exact .shr (hJ e _ _ h) (x.shared (hJ e) (af.refl _)) (ih A' hA)
 | own h f _ _ i1 i2 =>
  intro A' hA
  rw[df,dF]
  exact .shr ((cx1 (hA (by simp))).trans h) (i1 A' λa ha=>hA (by simp[ha])) (i2 A' λa ha=>hA (by simp[ha]))
 | tup h _ _ i1 i2 =>
  intro A' hA
  rw[df,lF]
  simpa using R.tup h (i1 A' λa ha=>hA (by simp[ha])) (i2 A' λa ha=>hA (by simp[ha]))
 | obj h l x _ i1 ih=>exact λA' hA=>.obj h l (x.shared (hJ e) (af.refl _)) (ih A' hA)
 | fz h x _ i1 ih=>exact λA' hA=>.fz (hJ e _ _ h) (x.shared (hJ e) (af.refl _)) (ih A' hA)
 | bE h _ ih=>exact λA' hA=>.bE h (ih A' hA)
theorem R.lists(r:R F H ds vs A):∀a∈A,(∃ws,H a=some (.lst ws))/\F a=none:=by
 induction r with
 | nil=>simp
 | au _ ih=>exact ih
 | bl _ ih=>exact ih
 | int _ ih=>exact ih
 | str _ ih=>exact ih
 | shr h x _ i1 ih=>exact ih
 | own h f _ _ i1 i2 =>
  intro a ha
  rcases cA.mp ha with rfl | ha
  ·exact⟨⟨_,h⟩,f⟩
  ·exact(cj.mp ha).elim (i1 a) (i2 a)
 | tup h _ _ i1 i2=>exact λa ha=>(cj.mp ha).elim (i1 a) (i2 a)
 | obj h l x _ i1 ih=>exact ih
 | fz h x _ i1 ih=>exact ih
 | bE h _ ih=>exact ih
theorem R.qg(r:R F H ds vs A)(hd:ds.all D.fr=true)(e:af F' F):R F' H ds vs A:=by
 induction r with
 | nil=>exact .nil
 | au _ ih=>exact .au (ih (by simpa[D.fr]using hd))
 | bl _ ih=>exact .bl (ih (by simpa[D.fr]using hd))
 | int _ ih=>exact .int (ih (by simpa[D.fr]using hd))
 | str _ ih=>exact .str (ih (by simpa[D.fr]using hd))
 | shr h x _ i1 ih=>simp[gg]at hd
 | own h f _ _ i1 i2 =>
  rw[dh,gg,dZ,mq]at hd
  exact .own h (e.free f) (i1 hd.1) (i2 hd.2)
 | tup h _ _ i1 i2 =>
  rw[dh,qf,dZ]at hd
  exact .tup h (i1 hd.1) (i2 hd.2)
 | obj h l x _ i1 ih=>simp[D.fr]at hd
 | fz h x _ i1 ih=>simp[D.fr]at hd
 | bE h _ ih=>exact .bE h (ih (by simpa[D.fr]using hd))
theorem R.inj(r:R F H ds vs A):∀{B:List Addr},R F H ds vs B->A=B:=by
 induction r with
 | nil=>intro B q;cases q;rfl
 | au _ ih=>intro B q;cases q with | au q=>exact ih q
 | bl _ ih=>intro B q;cases q with | bl q=>exact ih q
 | int _ ih=>intro B q;cases q with | int q=>exact ih q
 | str _ ih=>intro B q;cases q with | str q=>exact ih q
 | shr h x _ i1 ih=>intro B q;cases q with | shr _ _ q=>exact ih q
 | own h f _ _ i1 i2 =>
  intro B q
  cases q with
  | own h' f' x' q =>
   rw[h]at h';cases h'
   rw[i1 x',i2 q]
 | tup h _ _ i1 i2 =>
  intro B q
  cases q with
  | tup h' x' q =>
   rw[h]at h';cases h'
   rw[i1 x',i2 q]
 | obj h l x _ i1 ih=>intro B q;cases q with | obj _ _ _ q=>exact ih q
 | fz h x _ i1 ih=>intro B q;cases q with | fz _ _ q=>exact ih q
 | bE h _ ih=>intro B q;cases q with | bE _ q=>exact ih q
theorem R.perm{ps qs:List (D × V)}(hp:ps.Perm qs):∀{A:List Addr},R F H (ps.map (·.1)) (ps.map (·.2)) A->∃A',R F H (qs.map (·.1)) (qs.map (·.2)) A'/\A.Perm A':=by
 induction hp with
 | nil=>exact λr=>⟨_,r,.refl _⟩
 | cons x _ ih =>
  intro A r
  obtain⟨v,bS,A1,A2,e,rfl,h1,h2⟩:=R.cL r
  obtain⟨rfl,rfl⟩:=mr e
  obtain⟨A',r',p⟩:=ih h2
  exact⟨A1++A',h1.cons r',p.append_left _⟩
 | swap x y l =>
  intro A r
  obtain⟨v,bS,A1,A2,e,rfl,h1,h2⟩:=R.cL r
  obtain⟨rfl,rfl⟩:=mr e
  obtain⟨v2,EL,B1,B2,e,rfl,h3,h4⟩:=R.cL h2
  obtain⟨rfl,rfl⟩:=mr e
  exact⟨B1++(A1++B2),h3.cons (h1.cons h4),by rw[<-dM,<- dM];exact nG.append_right _⟩
 | trans _ _ i1 i2 =>
  intro A r
  obtain⟨A',r',p⟩:=i1 r
  obtain⟨A2,r2,p2⟩:=i2 r'
  exact⟨A2,r2,p.trans p2⟩
noncomputable def Full(F H:Hp):Prop:=∀a o,H a=some o->(∀ws,o≠.lst ws)->F a=some o
theorem Full.refl(H:Hp):Full H H:=λ_ _ h _=>h
theorem R.full(hF:Full F H)(hs:af F H')(r:R F H ds vs A)(e:A=[]):R F H' ds vs []:=by
 induction r with
 | nil=>exact .nil
 | au _ ih=>exact .au (ih e)
 | bl _ ih=>exact .bl (ih e)
 | int _ ih=>exact .int (ih e)
 | str _ ih=>exact .str (ih e)
 | shr h x _ i1 ih=>exact .shr h (i1 rfl) (ih e)
 | own h f _ _ i1 i2=>cases e
 | tup h _ _ i1 i2 =>
  obtain⟨e1,e2⟩:=pq.mp e
  exact R.tup (A:=[]) (B:=[]) (hs _ _ (hF _ _ h (by intro ws z;cases z))) (i1 e1) (i2 e2)
 | obj h l x _ i1 ih=>exact .obj (hs _ _ (hF _ _ h (by intro ws z;cases z))) l (i1 rfl) (ih e)
 | fz h x _ i1 ih=>exact .fz h (i1 rfl) (ih e)
 | bE h _ ih=>exact .bE (h.mono λa o e n t=>hs.get a o (hF a o e n) t) (ih e)
open Classical in
noncomputable def snap(F H:Hp):Hp:=λa=>if(∃o,H a=some o/\∀ws,o≠.lst ws)then H a else F a
theorem s9:Full (snap F H) H:=λa o h n=>by unfold snap;rw[if_pos ⟨o,h,n⟩];exact h
theorem qh(e:af F H):af F (snap F H):=⟨λa o h n=>by
 unfold snap;split
 ·exact e.get a o h n
 ·exact h,λa ps h=>by
 unfold snap;split
 ·exact e.tb a ps h
 ·exact⟨#[],by rw[h];simp⟩⟩
theorem b84(e:af F H):af (snap F H) H:=⟨λa o h n=>by
 unfold snap at h;split at h
 ·exact h
 ·exact e.get a o h n,λa ps h=>by
 unfold snap at h;split at h
 ·exact⟨#[],by rw[h];simp⟩
 ·exact e.tb a ps h⟩
theorem bZ5(e:af F H){a:Addr}{ws:List V}(h:snap F H a=some (.lst ws)):F a=some (.lst ws):=by
 unfold snap at h;split at h
 ·rename_i z
  obtain⟨o,h1,h2⟩:=z
  rw[h]at h1;exact absurd (cO h1).symm (h2 ws)
 ·exact h
theorem b39{a:Addr}{ws:List V}(h:H a=some (.lst ws))(n:F a=none):snap F H a=none:=by
 unfold snap;split
 ·rename_i z
  obtain⟨o,h1,h2⟩:=z
  rw[h]at h1;exact absurd (cO h1).symm (h2 ws)
 ·exact n
end
end L3
namespace L3
open PySem L2
noncomputable abbrev Dl:=List (Option D)
inductive RS(F H:Hp):Dl->St->List Addr->Prop
 | nil:RS F H [] [] []
 | au {δ σ o C}:RS F H δ σ C->RS F H (none::δ) (o::σ) C
 | dG {d v A δ σ C}:R F H [d] [v] A->RS F H δ σ C->RS F H (some d::δ) (some v::σ) (A++C)
theorem hV{A B:List Addr}:(A++B).Nodup↔A.Nodup/\B.Nodup/\∀a∈A,a ∉ B:=by
 rw[List.nodup_append]
 constructor
 ·rintro⟨h1,h2,h3⟩;exact⟨h1,h2,λa ha hb=>h3 a ha a hb rfl⟩
 ·rintro⟨h1,h2,h3⟩;exact⟨h1,h2,λa ha b hb e=>h3 a ha (e ▸ hb)⟩
section
variable{F F' H H':Hp}{d:D}{v:V}{δ:Dl}{σ:St}{A C:List Addr}{i:Nat}
theorem RS.length(r:RS F H δ σ C):δ.length=σ.length:=by induction r<;>simp_all
theorem RS.pick:∀{δ:Dl} {σ:St} {C:List Addr} {i:Nat},RS F H δ σ C->δ[i]?=some (some d)->∃v A C',σ[i]?=some (some v)/\R F H [d] [v] A/\RS F H (δ.set i none) σ C'/\C.Perm (A++C')
 | _,_,_,_,.nil,e=>by simp at e
 | _,_,_,i,.au r,e=>by
  cases i with
  | zero=>simp at e
  | succ i =>
   obtain⟨v,A,C',e1,h1,h2,p⟩:=RS.pick r (by simpa using e)
   exact⟨v,A,C',by simpa using e1,h1,.au h2,p⟩
 | _,_,_,i,.dG (A:=A0) (C:=C0) h r,e=>by
  cases i with
  | zero =>
   simp at e;subst e
   exact⟨_,A0,C0,rfl,h,.au r,.refl _⟩
  | succ i =>
   obtain⟨v,A,C',e1,h1,h2,p⟩:=RS.pick r (by simpa using e)
   refine⟨v,A,A0++C',by simpa using e1,h1,.dG h h2,(p.append_left A0).trans ?_⟩
   rw[<-dM,<- dM]
   exact nG.append_right _
theorem RS.fill:∀{δ:Dl} {σ:St} {C:List Addr} {i:Nat},RS F H δ σ C->δ[i]?=some none->σ[i]?=some (some v)->R F H [d] [v] A->∃C',RS F H (δ.set i (some d)) σ C'/\C'.Perm (A++C)
 | _,_,_,_,.nil,e,_,_=>by simp at e
 | _,_,_,i,.au r,e,e2,h=>by
  cases i with
  | zero=>simp at e2;subst e2;exact⟨_,.dG h r,.refl _⟩
  | succ i =>
   obtain⟨C',h1,p⟩:=RS.fill r (by simpa using e) (by simpa using e2) h
   exact⟨C',.au h1,p⟩
 | _,_,_,i,.dG (A:=A0) (C:=C0) h0 r,e,e2,h=>by
  cases i with
  | zero=>simp at e
  | succ i =>
   obtain⟨C',h1,p⟩:=RS.fill r (by simpa using e) (by simpa using e2) h
   refine⟨A0++C',.dG h0 h1,(p.append_left A0).trans ?_⟩
   rw[<-dM,<- dM]
   exact nG.append_right _
theorem RS.drop:∀{δ:Dl} {σ:St} {C:List Addr} (i:Nat),RS F H δ σ C->∃C',RS F H (δ.set i none) σ C'/\C'.Sublist C
 | _,_,_,_,.nil=>⟨_,.nil,.refl _⟩
 | _,_,_,i,.au r=>by
  cases i with
  | zero=>exact⟨_,.au r,.refl _⟩
  | succ i=>obtain⟨C',h,s⟩:=RS.drop i r;exact⟨C',.au h,s⟩
 | _,_,_,i,.dG (A:=A0) h0 r=>by
  cases i with
  | zero=>exact⟨_,.au r,List.sublist_append_right _ _⟩
  | succ i=>obtain⟨C',h,s⟩:=RS.drop i r;exact⟨_,.dG h0 h,(M5 A0).append s⟩
theorem RS.wX:∀{δ:Dl} {σ:St} {C:List Addr} {i:Nat} (o:Option V),RS F H δ σ C->(δ[i]?=some none\/δ[i]?=none)->RS F H δ (σ.set i o) C
 | _,_,_,_,_,.nil,_=>.nil
 | _,_,_,i,_,.au r,e=>by
  cases i with
  | zero=>exact .au r
  | succ i=>exact .au (RS.wX _ r (by simpa using e))
 | _,_,_,i,_,.dG h0 r,e=>by
  cases i with
  | zero=>simp at e
  | succ i=>exact .dG h0 (RS.wX _ r (by simpa using e))
theorem RS.keep{W:List Addr}(hf:af F F')(hb:fL W H H')(hl:gB W H)(r:RS F H δ σ C)(hn:∀a∈C,F' a=none)(hd:∀a∈C,a ∉ W):RS F' H' δ σ C:=by
 induction r with
 | nil=>exact .nil
 | au _ ih=>exact .au (ih hn hd)
 | dG h _ ih=>exact .dG (h.keep hf hb hl (λa ha=>hn a (by simp[ha])) λa ha=>hd a (by simp[ha])) (ih (λa ha=>hn a (by simp[ha])) λa ha=>hd a (by simp[ha]))
theorem RS.lists(r:RS F H δ σ C):∀a∈C,(∃ws,H a=some (.lst ws))/\F a=none:=by
 induction r with
 | nil=>simp
 | au _ ih=>exact ih
 | dG h _ ih=>exact λa ha=>(cj.mp ha).elim (h.lists a) (ih a)
end
structure Bs where
 H0:Hp
 F0:Hp
structure aq(B:Bs)(F H:Hp)(σ:St)(δ:Dl)(ts:List (D × V)):Prop where
 ext:af F H
 b1:af B.H0 H
 b2:af B.F0 F
 b3:∀a ws,F a=some (.lst ws)->B.F0 a=some (.lst ws)\/B.H0 a=none
 own:∃A C,R F H (ts.map (·.1)) (ts.map (·.2)) A/\RS F H δ σ C/\(A++C).Nodup/\∀a∈A++C,B.H0 a=none
section
variable{B:Bs}{F F' H H':Hp}{d:D}{v:V}{δ:Dl}{σ:St}{ts ps:List (D × V)}{A C W:List Addr}{i:Nat}{p:Addr}{xs ys:List D}{vs ws:List V}
theorem aq.look(c:aq B F H σ δ ts)(e:δ[i]?=some (some d)):∃v,σ[i]?=some (some v)/\S F H [d] [v]:=by
 obtain⟨A,C,r,s,nd,fr⟩:=c.own
 obtain⟨v,A',C',e1,h1,h2,p⟩:=s.pick e
 exact⟨v,e1,h1.s⟩
theorem aq.len(c:aq B F H σ δ ts):δ.length=σ.length:=let⟨_,_,_,s,_⟩:=c.own;s.length
theorem aq.grow(c:aq B F H σ δ ts)(h:af H H'):aq B F H' σ δ ts:=by
 obtain⟨A,C,r,s,nd,fr⟩:=c.own
 exact⟨c.ext.trans h,c.b1.trans h,c.b2,c.b3,A,C,r.grow (af.refl _) h λa ha=>(r.lists a ha).2,s.keep (af.refl _) (fL.same h) gB.nil (λa ha=>(s.lists a ha).2) (by simp),nd,fr⟩
theorem aq.pop(c:aq B F H σ δ ((d,v)::ts)):aq B F H σ δ ts:=by
 obtain⟨A,C,r,s,nd,fr⟩:=c.own
 obtain⟨w,bS,A1,A2,e,rfl,h1,h2⟩:=R.cL r
 obtain⟨rfl,rfl⟩:=mr e
 refine⟨c.ext,c.b1,c.b2,c.b3,A2,C,h2,s,?_,λa ha=>fr a (by simp at ha ⊢;exact .inr ha)⟩
 rw[dM]at nd
 exact(hV.mp nd).2.1
theorem aq.top(c:aq B F H σ δ ((d,v)::ts)):S F H [d] [v]:=by
 obtain⟨A,C,r,s,nd,fr⟩:=c.own
 obtain⟨w,bS,A1,A2,e,rfl,h1,h2⟩:=R.cL r
 obtain⟨rfl,rfl⟩:=mr e
 exact h1.s
theorem aq.pushS(c:aq B F H σ δ ts)(s:S F H [d] [v])(pl:d.pl=true):aq B F H σ δ ((d,v)::ts):=by
 obtain⟨A,C,r,q,nd,fr⟩:=c.own
 exact⟨c.ext,c.b1,c.b2,c.b3,A,C,(s.r (by simp[pl])).cons r,q,nd,fr⟩
theorem af.upd{o:HO}(h:H p=none):af H (upd H p o):=.of λb u e=>by rw[bc (eK e h)];exact e
theorem aq.pack(c:aq B F H σ δ (ps++ts))(hs:af H H')(k:∀A1,R F H' (ps.map (·.1)) (ps.map (·.2)) A1->A1.Nodup->∃A',R F H' [d] [v] A'/\A'.Nodup/\∀a∈A',a∈A1\/H a=none):aq B F H' σ δ ((d,v)::ts):=by
 obtain⟨A,C,r,s,nd,fr⟩:=c.own
 rw[fh,fh]at r
 obtain⟨v1,v2,A1,A2,e,rfl,h1,h2⟩:=R.split r
 have l1:(ps.map (·.2)).length=v1.length:=by rw[<-h1.length];simp
 obtain⟨rfl,rfl⟩:=Dw e l1
 rw[dM]at nd fr
 obtain⟨n1,n2,n3⟩:=hV.mp nd
 have g1:=h1.grow (af.refl F) hs λa ha=>(h1.lists a ha).2
 have g2:=h2.grow (af.refl F) hs λa ha=>(h2.lists a ha).2
 have gs:=s.keep (af.refl F) (fL.same hs) gB.nil (λa ha=>(s.lists a ha).2) (by simp)
 obtain⟨A',r',EM,sub⟩:=k A1 g1 n1
 refine⟨c.ext.trans hs,c.b1.trans hs,c.b2,c.b3,A'++A2,C,r'.cons g2,gs,?_,?_⟩
 ·rw[dM]
  refine hV.mpr ⟨EM,n2,λa ha hb=>?_⟩
  rcases sub a ha with z | z
  ·exact n3 a z hb
  ·rcases cj.mp hb with y | y
   ·obtain⟨⟨_,q⟩,_⟩:=h2.lists a y;rw[z]at q;cases q
   ·obtain⟨⟨_,q⟩,_⟩:=s.lists a y;rw[z]at q;cases q
 ·intro a ha
  rw[dM]at ha
  rcases cj.mp ha with y | y
  ·rcases sub a y with z | z
   ·exact fr a (by simp[z])
   ·exact c.b1.free z
  ·exact fr a (cW _ y)
theorem aq.EN(c:aq B F H σ δ ts)(hs:af H H')(r:R F H' [d] [v] A)(nd:A.Nodup)(fr:∀a∈A,H a=none):aq B F H' σ δ ((d,v)::ts) :=
 aq.pack (ps:=[]) c hs λ_ _ _=>⟨A,r,nd,λa ha=>.inr (fr a ha)⟩
theorem aq.nW(c:aq B F H σ δ ts)(hp:H p=none)(s:S F H xs vs)(pl:xs.all D.pl=true):aq B F (upd H p (.lst vs)) σ δ ((.lst true xs,.ref p)::ts) :=
 c.EN (af.upd hp) (A:=[p]) (by simpa using R.own bL (c.ext.free hp) ((s.r pl).shared (af.refl _) (af.upd hp)) .nil) (by simp) (by simp[hp])
theorem aq.cO4(c:aq B F H σ δ (ps++ts))(hp:H p=none):aq B F (upd H p (.lst (ps.map (·.2)))) σ δ ((.lst true (ps.map (·.1)),.ref p)::ts):=by
 refine c.pack (af.upd hp) λA1 r nd=>⟨p::A1,by simpa using R.own bL (c.ext.free hp) r .nil,kQ.mpr ⟨λh=>?_,nd⟩,λa ha=>?_⟩
 ·obtain⟨A,C,r0,_,_,_⟩:=c.own
  rw[fh,fh]at r0
  obtain⟨v1,v2,B1,B2,e,rfl,h1,h2⟩:=R.split r0
  have l1:(ps.map (·.2)).length=v1.length:=by rw[<-h1.length];simp
  obtain⟨rfl,rfl⟩:=Dw e l1
  have g1:=h1.grow (af.refl F) (af.upd (o:=.lst (ps.map (·.2))) hp) λa ha=>(h1.lists a ha).2
  have:A1=B1:=R.inj r g1
  subst this
  obtain⟨⟨_,q⟩,_⟩:=h1.lists p h
  rw[hp]at q;cases q
 ·rcases cA.mp ha with rfl | h
  ·exact .inr hp
  ·exact .inl h
theorem aq.cO5(c:aq B F H σ δ (ps++ts))(hp:H p=none):aq B F (upd H p (.tup (ps.map (·.2)))) σ δ ((.tup (ps.map (·.1)),.ref p)::ts) :=
 c.pack (af.upd hp) λA1 r nd=>⟨A1,by simpa using R.tup (F:=F) bL r .nil,nd,λa ha=>.inl ha⟩
theorem aq.perm(c:aq B F H σ δ ps)(h:ps.Perm ts):aq B F H σ δ ts:=by
 obtain⟨A,C,r,s,nd,fr⟩:=c.own
 obtain⟨A',r',p⟩:=r.perm h
 have pp:=p.append_right C
 exact⟨c.ext,c.b1,c.b2,c.b3,A',C,r',s,pp.nodup_iff.mp nd,λa ha=>fr a (pp.mem_iff.mpr ha)⟩
theorem aq.move(c:aq B F H σ δ ts)(e:δ[i]?=some (some d)):∃v,σ[i]?=some (some v)/\aq B F H σ (δ.set i none) ((d,v)::ts):=by
 obtain⟨A,C,r,s,nd,fr⟩:=c.own
 obtain⟨v,A',C',e1,h1,h2,p⟩:=s.pick e
 have pp:(A++C).Perm ((A'++A)++C'):=by
  refine(p.append_left A).trans ?_
  rw[<-dM]
  exact nG.append_right _
 exact⟨v,e1,c.ext,c.b1,c.b2,c.b3,A'++A,C',h1.cons r,h2,pp.nodup_iff.mp nd,λa ha=>fr a (pp.mem_iff.mpr ha)⟩
theorem aq.forget(c:aq B F H σ δ ts)(i:Nat):aq B F H σ (δ.set i none) ts:=by
 obtain⟨A,C,r,s,nd,fr⟩:=c.own
 obtain⟨C',h,sb⟩:=s.drop i
 exact⟨c.ext,c.b1,c.b2,c.b3,A,C',r,h,nd.sublist ((M5 A).append sb),λa ha=>fr a (((M5 A).append sb).subset ha)⟩
theorem aq.fill(c:aq B F H σ δ ((d,v)::ts))(e:δ[i]?=some none)(e2:σ[i]?=some (some v)):aq B F H σ (δ.set i (some d)) ts:=by
 obtain⟨A,C,r,s,nd,fr⟩:=c.own
 obtain⟨w,bS,A1,A2,e',rfl,h1,h2⟩:=R.cL r
 obtain⟨rfl,rfl⟩:=mr e'
 obtain⟨C',s',p⟩:=s.fill e e2 h1
 have pp:((A1++A2)++C).Perm (A2++C'):=by
  refine((nG (l₁:=A1) (l₂:=A2)).append_right C).trans ?_
  rw[dM]
  exact(p.symm).append_left A2
 exact⟨c.ext,c.b1,c.b2,c.b3,A2,C',h2,s',pp.nodup_iff.mp nd,λa ha=>fr a (pp.mem_iff.mpr ha)⟩
theorem aq.wX(c:aq B F H σ δ ts)(o:Option V)(e:δ[i]?=some none\/δ[i]?=none):aq B F H (σ.set i o) δ ts:=by
 obtain⟨A,C,r,s,nd,fr⟩:=c.own
 exact⟨c.ext,c.b1,c.b2,c.b3,A,C,r,s.wX o e,nd,fr⟩
theorem aq.store(c:aq B F H σ δ ((d,v)::ts))(i:Nat):aq B F H (σ.set i (some v)) (δ.set i (some d)) ts:=by
 by_cases hi:i<δ.length
 ·have c1:=c.forget i
  have hs:i<σ.length:=by rw[<-c.len];exact hi
  have e:(δ.set i none)[i]?=some none:=by simp[hi]
  have c2:=(c1.wX (some v) (.inl e)).fill (i:=i) e (by simp[hs])
  rwa [Dx]at c2
 ·have hs:¬ i<σ.length:=by rw[<-c.len];exact hi
  rw[Wl (by omega),Wl (by omega)]
  exact c.pop
theorem aq.mut(c:aq B F H σ δ (ps++ts))(e:δ[i]?=some (some (.lst true xs)))(e2:σ[i]?=some (some (.ref p)))
  (k:∀ws A1 A2,H p=some (.lst ws)->R F H xs ws A1->R F H (ps.map (·.1)) (ps.map (·.2)) A2->(A1++A2).Nodup->∃A',R F H ys vs A'/\A'.Nodup/\∀a∈A',a∈A1++A2) :
  aq B F (upd H p (.lst vs)) σ (δ.set i (some (.lst true ys))) ts:=by
 have hi:i<δ.length:=(jk.mp e).1
 obtain⟨v,e3,c1⟩:=c.move e
 rw[e2]at e3;cases e3
 obtain⟨A,C,r,s,nd,fr⟩:=c1.own
 have r':R F H (([.lst true xs]++ps.map (·.1))++ts.map (·.1)) ((.ref p::ps.map (·.2))++ts.map (·.2)) A:=by simpa using r
 obtain⟨v1,v2,A1,A2,e4,rfl,h1,h2⟩:=R.split r'
 have l1:(V.ref p::ps.map (·.2)).length=v1.length:=by rw[<-h1.length];simp
 obtain⟨rfl,rfl⟩:=Dw e4 l1
 cases h1 with
 | @own _ EO _ B1 _ _ B2 hH hF hx hr =>
  rw[dM]at nd fr
  obtain⟨n1,n2,n3⟩:=hV.mp nd
  obtain⟨m1,m2⟩:=kQ.mp n1
  obtain⟨A',ra,nda,sub⟩:=k EO B1 B2 hH hx hr m2
  have pA:p ∉ A':=λz=>m1 (sub _ z)
  have pR:p ∉ A2++C:=λz=>n3 p (by simp) z
  have but:fL [p] H (upd H p (.lst vs)):=⟨λa o q z _=>by rw[bc (by simpa using z)];exact q⟩
  have hl:gB [p] H:=λa ha=>by rw[fv.mp ha];exact⟨_,hH⟩
  have g1:=ra.keep (af.refl F) but hl (λa ha=>(ra.lists a ha).2) λa ha z=>pA (by rw[<-fv.mp z];exact ha)
  have g2:=h2.keep (af.refl F) but hl (λa ha=>(h2.lists a ha).2) λa ha z=>pR (by rw[<-fv.mp z];exact eR _ ha)
  have gs:=s.keep (af.refl F) but hl (λa ha=>(s.lists a ha).2) λa ha z=>pR (by rw[<-fv.mp z];exact cW _ ha)
  have fp:B.H0 p=none:=fr p (by simp)
  have b1:af B.H0 (upd H p (.lst vs)):=⟨λa o q n=>by
   rw[bc (λz=>by rw[z,fp]at q;cases q)]
   exact c1.b1.get a o q n,λa ps q=>by
   rw[bc (λz=>by rw[z,fp]at q;cases q)]
   exact c1.b1.tb a ps q⟩
  have ext:af F (upd H p (.lst vs)):=⟨λa o q n=>by
   rw[bc (λz=>by rw[z,hF]at q;cases q)]
   exact c1.ext.get a o q n,λa ps q=>by
   rw[bc (λz=>by rw[z,hF]at q;cases q)]
   exact c1.ext.tb a ps q⟩
  have c2:aq B F (upd H p (.lst vs)) σ (δ.set i none) ((.lst true ys,.ref p)::ts):=by
   refine⟨ext,b1,c1.b2,c1.b3,(p::A')++A2,C,R.cons (by simpa using R.own bL hF g1 .nil) g2,gs,?_,?_⟩
   ·rw[dM]
    refine hV.mpr ⟨kQ.mpr ⟨pA,nda⟩,n2,λa ha hb=>?_⟩
    rcases cA.mp ha with rfl | ha
    ·exact pR hb
    ·exact n3 a (fU _ (sub a ha)) hb
   ·intro a ha
    rw[dM]at ha
    rcases cj.mp ha with z | z
    ·rcases cA.mp z with rfl | z
     ·exact fp
     ·exact fr a (eR _ (fU _ (sub a z)))
    ·exact fr a (cW _ z)
  have c3:=c2.fill (i:=i) (by simp[hi]) e2
  rwa [Dx]at c3
theorem aq.ER(c:aq B F H σ δ ((d,v)::ts)):∃F',af F F'/\aq B F' H σ δ ((d.sh,v)::ts):=by
 obtain⟨A,C,r,s,nd,fr⟩:=c.own
 obtain⟨w,bS,A1,A2,e',rfl,h1,h2⟩:=R.cL r
 obtain⟨rfl,rfl⟩:=mr e'
 rw[dM]at nd fr
 obtain⟨n1,n2,n3⟩:=hV.mp nd
 have out:∀a∈A2++C,bt F H A1 a=F a:=λa ha=>nV λz=>n3 a z ha
 have b3:∀a o,bt F H A1 a=some (.lst o)->B.F0 a=some (.lst o)\/B.H0 a=none:=λa o q=>by
  by_cases z:a∈A1
  ·exact .inr (fr a (eR _ z))
  ·rw[nV z]at q;exact c.b3 a o q
 refine⟨bt F H A1,hJ c.ext,mP c.ext,c.b1,c.b2.trans (hJ c.ext),b3,A2,C,?_,?_,n2,λa ha=>fr a (cW _ ha)⟩
 ·have g1:=h1.bt c.ext A1 (λ_ h=>h)
  exact R.cons (A:=[]) g1 (h2.keep (hJ c.ext) (fL.same (af.refl H)) gB.nil (λa ha=>by rw[out a (eR _ ha)];exact(h2.lists a ha).2) (by simp))
 ·exact s.keep (hJ c.ext) (fL.same (af.refl H)) gB.nil (λa ha=>by rw[out a (cW _ ha)];exact(s.lists a ha).2) (by simp)
theorem aq.freeze(c:aq B F H σ δ ts)(e:δ[i]?=some (some d)):∃F',af F F'/\aq B F' H σ (δ.set i (some d.sh)) ts:=by
 have hi:i<δ.length:=(jk.mp e).1
 obtain⟨v,e2,c1⟩:=c.move e
 obtain⟨F',s,c2⟩:=c1.ER
 refine⟨F',s,?_⟩
 have c3:=c2.fill (i:=i) (by simp[hi]) e2
 rwa [Dx]at c3
theorem aq.rebase(c:aq B F H σ δ ts):aq ⟨B.H0,F⟩ F H σ δ ts:=⟨c.ext,c.b1,af.refl _,λ_ _ q=>.inl q,c.own⟩
theorem aq.cO7{F1:Hp}(c:aq ⟨B.H0,F1⟩ F H σ δ ts)(h:af B.F0 F1)(h3:∀a ws,F1 a=some (.lst ws)->B.F0 a=some (.lst ws)\/B.H0 a=none):aq B F H σ δ ts :=
 ⟨c.ext,c.b1,h.trans c.b2,λa o q=>(c.b3 a o q).elim (h3 a o) .inr,c.own⟩
theorem aq.call(c:aq B F H σ δ ts)(hs:af H H')(hf:af F F')(he:af F' H')(h3:∀a ws,F' a=some (.lst ws)->F a=some (.lst ws)\/H a=none)(r:R F' H' [d] [v] A)(nd:A.Nodup)(fr:∀a∈A,H a=none) :
  aq B F' H' σ δ ((d,v)::ts):=by
 obtain⟨A0,C,r0,s,nd0,fr0⟩:=c.own
 have no:∀a,(∃ws,H a=some (.lst ws))/\F a=none->F' a=none:=λa zz=>by
  obtain⟨⟨ws,e⟩,n⟩:=zz
  cases q:F' a with
  | none=>rfl
  | some o =>
   have q2:H' a=some o:=by
    cases n:iW o with
    | true=>exact he.get a o q n
    | false =>
     obtain⟨ps,rfl⟩:=EI n
     obtain⟨m,z⟩:=he.tb a ps q
     rw[hs a _ e]at z
     cases z
   rw[hs a _ e]at q2
   cases q2
   rcases h3 a ws q with z | z
   ·rw[n]at z;cases z
   ·rw[e]at z;cases z
 refine⟨he,c.b1.trans hs,c.b2.trans hf,λa o q=>(h3 a o q).elim (c.b3 a o) λz=>.inr (c.b1.free z),A++A0,C,R.cons r (r0.grow hf hs λa ha=>no a (r0.lists a ha)),
  s.keep hf (fL.same hs) gB.nil (λa ha=>no a (s.lists a ha)) (by simp),?_,?_⟩
 ·rw[dM]
  refine hV.mpr ⟨nd,nd0,λa ha hb=>?_⟩
  have z:=fr a ha
  rcases cj.mp hb with y | y
  ·obtain⟨⟨_,q⟩,_⟩:=r0.lists a y;rw[z]at q;cases q
  ·obtain⟨⟨_,q⟩,_⟩:=s.lists a y;rw[z]at q;cases q
 ·intro a ha
  rw[dM]at ha
  rcases cj.mp ha with y | y
  ·exact c.b1.free (fr a y)
  ·exact fr0 a y
theorem aq.inS(c:aq B F H σ δ ((d,v)::ts)):aq B F H (some v::σ) (some d::δ) ts:=by
 obtain⟨A,C,r,s,nd,fr⟩:=c.own
 obtain⟨w,bS,A1,A2,e',rfl,h1,h2⟩:=R.cL r
 obtain⟨rfl,rfl⟩:=mr e'
 have pp:((A1++A2)++C).Perm (A2++(A1++C)):=by
  rw[<-dM];exact nG.append_right C
 exact⟨c.ext,c.b1,c.b2,c.b3,A2,A1++C,h2,.dG h1 s,pp.nodup_iff.mp nd,λa ha=>fr a (pp.mem_iff.mpr ha)⟩
theorem aq.cP1{w:V}(c:aq B F H (some w::σ) (some d::δ) ts):aq B F H σ δ ((d,w)::ts):=by
 obtain⟨A,C,r,s,nd,fr⟩:=c.own
 cases s with
 | @dG _ _ A1 _ _ C1 h1 s =>
  have pp:(A++(A1++C1)).Perm ((A1++A)++C1):=by
   rw[<-dM];exact nG.append_right C1
  exact⟨c.ext,c.b1,c.b2,c.b3,A1++A,C1,R.cons h1 r,s,pp.nodup_iff.mp nd,λa ha=>fr a (pp.mem_iff.mpr ha)⟩
theorem aq.cP2(c:aq B F H σ δ ((d,v)::(.lst true xs,.ref p)::ts))(hp:H p=some (.lst ws)):aq B F (upd H p (.lst (ws++[v]))) σ δ ((.lst true (xs++[d]),.ref p)::ts):=by
 have c1:=(c.perm (List.Perm.swap _ _ _)).inS
 refine(aq.mut (ps:=[(d,v)]) (i:=0) (ys:=xs++[d]) (vs:=ws++[v]) c1 rfl rfl λgC A1 A2 h r1 r2 nd=>?_).cP1
 rw[hp]at h;cases h
 exact⟨A1++A2,r1.append r2,nd,λa ha=>ha⟩
theorem aq.app(c:aq B F H σ δ ((d,v)::ts))(e:δ[i]?=some (some (.lst true xs)))(e2:σ[i]?=some (some (.ref p)))(hp:H p=some (.lst ws)) :
  aq B F (upd H p (.lst (ws++[v]))) σ (δ.set i (some (.lst true (xs++[d])))) ts :=
 aq.mut (ps:=[(d,v)]) c e e2 λgC A1 A2 h r1 r2 nd=>by
  rw[hp]at h;cases h
  exact⟨A1++A2,r1.append r2,nd,λa ha=>ha⟩
theorem R.O9:∀{xs:List D} {ws:List V} {A1 A2:List Addr} (j:Nat),R F H xs ws A1->R F H [d] [v] A2->(A1++A2).Nodup->∃A',R F H (xs.set j d) (ws.set j v) A'/\A'.Nodup/\∀a∈A',a∈A1++A2
 | [],_,A1,A2,j,r,q,nd=>by cases r;exact⟨[],.nil,by simp,by simp⟩
 | x::xs,_,A1,A2,j,r,q,nd=>by
  obtain⟨w,gC,B1,B2,rfl,rfl,h1,h2⟩:=r.cL
  rw[dM]at nd
  obtain⟨n1,n2,n3⟩:=hV.mp nd
  cases j with
  | zero =>
   refine⟨A2++B2,q.cons h2,(nG (l₁:=B2) (l₂:=A2)).nodup_iff.mp n2,λa ha=>?_⟩
   simp only[cj]at ha ⊢
   rcases ha with z | z
   ·exact .inr z
   ·exact .inl (.inr z)
  | succ j =>
   obtain⟨A',r',EM,sub⟩:=R.O9 j h2 q n2
   refine⟨B1++A',h1.cons r',hV.mpr ⟨n1,EM,λa ha hb=>n3 a ha (sub a hb)⟩,λa ha=>?_⟩
   rcases cj.mp ha with z | z
   ·simp[z]
   ·have:=sub a z
    simp only[cj]at this ⊢
    rcases this with z | z
    ·exact .inl (.inr z)
    ·exact .inr z
theorem aq.cP3(c:aq B F H σ δ ((d,v)::ts))(e:δ[i]?=some (some (.lst true xs)))(e2:σ[i]?=some (some (.ref p)))(hp:H p=some (.lst ws))(j:Nat) :
  aq B F (upd H p (.lst (ws.set j v))) σ (δ.set i (some (.lst true (xs.set j d)))) ts :=
 aq.mut (ps:=[(d,v)]) c e e2 λgC A1 A2 h r1 r2 nd=>by
  rw[hp]at h;cases h
  exact r1.O9 j r2 nd
theorem aq.ownAt(c:aq B F H σ δ ts)(e:δ[i]?=some (some (.lst true xs))):∃p ws,σ[i]?=some (some (.ref p))/\H p=some (.lst ws)/\xs.length=ws.length:=by
 obtain⟨v,e1,s⟩:=c.look e
 cases s with
 | own h x _=>exact⟨_,_,e1,h,x.length⟩
theorem RS.start{ds:List D}{vs:List V}(r:R F H ds vs [])(n:Nat):RS F H (ds.map some++bj n none) (vs.map some++bj n none) []:=by
 have z:∀n,RS F H (bj n none) (bj n none) []:=λn=>by
  induction n with
  | zero=>exact .nil
  | succ n ih=>exact .au ih
 have:∀(ds:List D) (vs:List V),R F H ds vs []->RS F H (ds.map some++bj n none) (vs.map some++bj n none) []:=by
  intro ds
  induction ds with
  | nil=>intro vs r;cases r;exact z n
  | cons d ds ih =>
   intro vs r
   obtain⟨v,bS,A1,A2,rfl,e,h1,h2⟩:=r.cL
   obtain⟨rfl,rfl⟩:=pq.mp e.symm
   exact .dG (A:=[]) h1 (ih _ h2)
 exact this ds vs r
theorem aq.start{ds:List D}{vs:List V}(e:af F H)(r:R F H ds vs [])(n:Nat):aq ⟨H,F⟩ F H (vs.map some++bj n none) (ds.map some++bj n none) [] :=
 ⟨e,af.refl _,af.refl _,λ_ _ q=>.inl q,[],[],.nil,RS.start r n,by simp,by simp⟩
theorem aq.snap(c:aq B F H σ δ ts):aq B (L3.snap F H) H σ δ ts:=by
 obtain⟨A,C,r,s,nd,fr⟩:=c.own
 have no:∀a,(∃ws,H a=some (.lst ws))/\F a=none->L3.snap F H a=none:=λa ⟨⟨ws,e⟩,n⟩=>b39 e n
 exact⟨b84 c.ext,c.b1,c.b2.trans (qh c.ext),λa ws q=>c.b3 a ws (bZ5 c.ext q),A,C,r.grow (qh c.ext) (af.refl _) λa ha=>no a (r.lists a ha),
  s.keep (qh c.ext) (fL.same (af.refl _)) gB.nil (λa ha=>no a (s.lists a ha)) (by simp),nd,fr⟩
end
end L3
namespace L3
open PySem L2 PySem.Spec PyProof.Rows
noncomputable abbrev aO:=Dl->(D->Dl->Prop)->Prop
noncomputable abbrev fB:=Dl->(Bool->Dl->Prop)->Prop
noncomputable abbrev cC:=Dl->(List D->Dl->Prop)->Prop
structure tf where
 nx:Dl->Prop
 rt:D->Prop
 bk:Dl->Prop:=λ_=>False
 ct:Dl->Prop:=λ_=>False
 xc:Addr->Dl->Prop:=λ_ _=>False
 xr:Addr->Dl->Prop:=λ_ _=>False
noncomputable abbrev cM:=tf->Dl->Prop
noncomputable def lE(t:aO):TE:=λσ H Q=>∃B F δ ts Qd,aq B F H σ δ ts/\t δ Qd/\∀d ah v F' H',Qd d ah->af F F'->af H H'->aq B F' H' σ ah ((d,v)::ts)->Q v H'
noncomputable def lB(t:aO):TE:=λσ H Q=>∃B F δ ts Qd,aq B F H σ δ ts/\t δ Qd/\∀d ah v F' H',Qd d ah->af F F'->af H H'->aq B F' H' σ ah ts->S F' H' [d] [v]->Q v H'
noncomputable def lT(t:fB):TT:=λσ H Q=>∃B F δ ts Qd,aq B F H σ δ ts/\t δ Qd/\∀b ah F' H',Qd b ah->af F F'->af H H'->aq B F' H' σ ah ts->Q b H'
noncomputable def lA(t:cC):TA:=λσ H Q=>∃B F δ ts Qd,aq B F H σ δ ts/\t δ Qd/\∀ds ah vs F' H',Qd ds ah->af F F'->af H H'->aq B F' H' σ ah ts->S F' H' ds vs->Q vs H'
noncomputable def lO(t:cC):TA:=λσ H Q=>∃B F δ ts Qd,aq B F H σ δ ts/\t δ Qd/\∀(ps:List (D × V)) ah F' H',Qd (ps.map (·.1)) ah->af F F'->af H H'->aq B F' H' σ ah (ps++ts)->Q (ps.map (·.2)) H'
noncomputable def XL(X:Cx)(B:Bs)(Dd:tf):Prop :=
 (∀C ah pins aI F' H' s' a T,Dd.xc C ah->aq B F' H' aI ah []->Inv X pins aI H' s'->p9 s'.heap a T (.ref C)->Apart X pins H' a->Apart X pins H' T->X.xe (.ref a) s') /\
 (∀C ah pins aI F' H' s' h' e vs,Dd.xr C ah->aq B F' H' aI ah []->Inv X pins aI H' s'->M4 s'.heap h' e (.ref C) vs->X.xe (.ref e) { s' with heap:=h' })
theorem XL.none{X:Cx}{B:Bs}{Dd:tf}(h1:∀C δ,¬ Dd.xc C δ)(h2:∀C δ,¬ Dd.xr C δ):XL X B Dd:=⟨λC δ _ _ _ _ _ _ _ h=>absurd h (h1 C δ),λC δ _ _ _ _ _ _ _ _ h=>absurd h (h2 C δ)⟩
noncomputable def lS(X:Cx)(t:cM):TS:=λD σ H=>∃B F δ Dd,aq B F H σ δ []/\t Dd δ/\(∀ah aI F' H',Dd.nx ah->aq B F' H' aI ah []->D.nx aI H')/\(∀d v ah aI F' H',Dd.rt d->aq B F' H' aI ah [(d,v)]->D.rt v H') /\
 (∀ah aI F' H',Dd.bk ah->aq B F' H' aI ah []->D.bk aI H')/\(∀ah aI F' H',Dd.ct ah->aq B F' H' aI ah []->D.ct aI H')/\XL X B Dd
section
variable{X:Cx}{e a b c:Expr}{es:List Expr}{pos:Pos}{st:Stmt}{wY:List Stmt}
theorem dn{t t':TE}(h:PE X e t)(m:∀σ H Q,t' σ H Q->t σ H Q):PE X e t':=λpins s σ H Q I q=>h pins s σ H Q I (m σ H Q q)
theorem ES{t t':TT}(h:PT X e t)(m:∀σ H Q,t' σ H Q->t σ H Q):PT X e t':=λpins s σ H Q I q=>h pins s σ H Q I (m σ H Q q)
theorem Pa{t t':TT}(h:PW X e t)(m:∀σ H Q,t' σ H Q->t σ H Q):PW X e t':=λwh pins s σ H Q I q=>h wh pins s σ H Q I (m σ H Q q)
theorem wZ{t t':TA}(h:PA X es t)(m:∀σ H Q,t' σ H Q->t σ H Q):PA X es t':=λp pins s σ H Q I q=>h p pins s σ H Q I (m σ H Q q)
theorem jW{t t':TS}(h:PS X st t)(m:∀D σ H,t' D σ H->t D σ H):PS X st t':=λpins s σ H D I q=>h pins s σ H D I (m D σ H q)
theorem ET{t t':TS}(h:PSs X wY t)(m:∀D σ H,t' D σ H->t D σ H):PSs X wY t':=λpins s σ H D I q=>h pins s σ H D I (m D σ H q)
variable{t u ta tb tc:aO}
theorem aa(h:PE X e (lE t)):PE X e (lB t):=dn h λσ H Q ⟨B,F,δ,ts,Qd,c,q,k⟩=>⟨B,F,δ,ts,Qd,c,q,λd ah v F' H' hd sf sh c'=>k d ah v F' H' hd sf sh c'.pop c'.top⟩
noncomputable def qi(t:aO):aO:=λδ Q=>t δ λd ah=>d.pl=true/\Q d ah
theorem dq(h:PE X e (lB t)):PE X e (lE (qi t)):=dn h λσ H Q ⟨B,F,δ,ts,Qd,c,q,k⟩=>⟨B,F,δ,ts,_,c,q,λd ah v F' H' hd sf sh c' s=>k d ah v F' H' hd.2 sf sh (c'.pushS s hd.1)⟩
noncomputable def nX(i:Nat):aO:=λδ Q=>match δ[i]? with
 | some (some d)=>Q d δ
 | _=>False
noncomputable def nY(i:Nat):aO:=λδ Q=>match δ[i]? with
 | some (some d)=>Q d (δ.set i none)
 | _=>False
theorem cq1{i:Nat}{δ:Dl}{Q:D->Dl->Prop}(h:nX i δ Q):∃d,δ[i]?=some (some d)/\Q d δ:=by
 unfold nX at h
 split at h
 ·rename_i d e;exact⟨d,e,h⟩
 ·exact h.elim
theorem b92{i:Nat}{δ:Dl}{Q:D->Dl->Prop}(h:nY i δ Q):∃d,δ[i]?=some (some d)/\Q d (δ.set i none):=by
 unfold nY at h
 split at h
 ·rename_i d e;exact⟨d,e,h⟩
 ·exact h.elim
noncomputable def dC(d:D):aO:=λδ Q=>Q d δ
theorem bv(i:Nat){x:Str}(hN:X.N[i]?=some x:=by rfl)(hv:mC X.env.scope x:=by first | exact ai rfl | exact aX (ai rfl) | exact aX (aX rfl))(hd:(x==("__debug__":Str))=false:=by decide)
  (cK:(x==("__classdict__":Str))=false:=by decide):PE X (.Name x pos) (lB (nX i)):=dn (sJ hN hv hd cK) λσ H Q ⟨B,F,δ,ts,Qd,c,q,k⟩=>by
 obtain⟨d,e,q⟩:=cq1 q
 obtain⟨v,e1,s⟩:=c.look e
 exact⟨v,e1,k d δ v F H q (af.refl _) (af.refl _) c s⟩
theorem em(i:Nat){x:Str}(hN:X.N[i]?=some x:=by rfl)(hv:mC X.env.scope x:=by first | exact ai rfl | exact aX (ai rfl) | exact aX (aX rfl))(hd:(x==("__debug__":Str))=false:=by decide)
  (cK:(x==("__classdict__":Str))=false:=by decide):PE X (.Name x pos) (lE (nY i)):=dn (sJ hN hv hd cK) λσ H Q ⟨B,F,δ,ts,Qd,c,q,k⟩=>by
 obtain⟨d,e,q⟩:=b92 q
 obtain⟨v,e1,c'⟩:=c.move e
 exact⟨v,e1,k d _ v F H q (af.refl _) (af.refl _) c'⟩
theorem AG{B:Bs}{F H:Hp}{σ:L2.St}{δ:Dl}{ts:List (D × V)}{Qd:D->Dl->Prop}{Q:VK}{d:D}{v:V}(c:aq B F H σ δ ts)(q:Qd d δ)(s:S F H [d] [v])(p:d.pl=true)
  (k:∀d ah v F' H',Qd d ah->af F F'->af H H'->aq B F' H' σ ah ((d,v)::ts)->Q v H'):Q v H:=k d δ v F H q (af.refl _) (af.refl _) (c.pushS s p)
theorem ao{i j}:PE X (.Constant (.int i) j pos) (lE (dC (.int i))):=dn pL λσ H Q ⟨B,F,δ,ts,Qd,c,q,k⟩=>AG c q (.int .nil) rfl k
theorem gP{i j}:PE X (.Constant (.bool i) j pos) (lE (dC (.bl i))):=dn WX λσ H Q ⟨B,F,δ,ts,Qd,c,q,k⟩=>AG c q (.bl .nil) rfl k
theorem AH{j}:PE X (.Constant .none j pos) (lE (dC .au)):=dn WY λσ H Q ⟨B,F,δ,ts,Qd,c,q,k⟩=>AG c q (.au .nil) rfl k
theorem Pb{x j}:PE X (.Constant (.str x) j pos) (lE (dC (.str x))):=dn WZ λσ H Q ⟨B,F,δ,ts,Qd,c,q,k⟩=>AG c q (.str .nil) rfl k
noncomputable abbrev cE:=D->D->(D->Prop)->Prop
noncomputable def AI(r:R2)(rd:cE):Prop:=∀{B:Bs} {F H:Hp} {σ:L2.St} {δ:Dl} {ts:List (D × V)} {x y:D} {v w:V} {Q:VK} {Qd:D->Prop},aq B F H σ δ ts->S F H [x] [v]->S F H [y] [w]->rd x y Qd ->
 (∀d z H',Qd d->af H H'->aq B F H' σ δ ((d,z)::ts)->Q z H')->r v w H Q
noncomputable def bQ(X:Cx)(f:Value->Value->Sem Value)(rd:cE):Prop:=∃r,cu X f r/\AI r rd
theorem bQ.or{f:Value->Value->Sem Value}{r1 r2:cE}(h1:bQ X f r1)(h2:bQ X f r2):bQ X f λx y Q=>r1 x y Q\/r2 x y Q:=by
 obtain⟨q1,a1,b1⟩:=h1
 obtain⟨q2,a2,b2⟩:=h2
 refine⟨_,a1.or a2,λ{B F H σ δ ts x y v w Q Qd} c sx sy h k=>?_⟩
 rcases h with h | h
 ·exact .inl (b1 c sx sy h k)
 ·exact .inr (b2 c sx sy h k)
theorem bQ.imp{f:Value->Value->Sem Value}{r1 r2:cE}(h1:bQ X f r1)(h:∀x y Q,r2 x y Q->r1 x y Q):bQ X f r2:=by
 obtain⟨q1,a1,b1⟩:=h1
 exact⟨q1,a1,λ{B F H σ δ ts x y v w Q Qd} c sx sy h2 k=>b1 c sx sy (h _ _ _ h2) k⟩
noncomputable def mQ(rd:cE)(ta tb:aO):aO:=λδ Q=>ta δ λx ak=>tb ak λy aW=>rd x y λd=>Q d aW
theorem EU{r:R2}{rd:cE}(hl:AI r rd):∀σ H Q,lE (mQ rd ta tb) σ H Q->wz r (lB ta) (lB tb) σ H Q:=λσ H Q ⟨B,F,δ,ts,Qd,c,q,k⟩ =>
 ⟨B,F,δ,ts,_,c,q,λx ak v F1 H1 q1 f1 h1 c1 s1=>⟨B,F1,ak,ts,_,c1,q1,λy aW w F2 H2 q2 f2 h2 c2 s2 =>
  hl c2 (s1.mono f2 h2) s2 q2 λd z H' hd hs c3=>k d aW z F2 H' hd (f1.trans f2) ((h1.trans h2).trans hs) c3⟩⟩
theorem az{op:Operator}{rd:cE}(ho:bQ X (binaryOp op) rd)(ha:PE X a (lB ta))(hb:PE X b (lB tb)):PE X (.BinOp a op b pos) (lE (mQ rd ta tb)):=by
 obtain⟨r,h1,h2⟩:=ho
 exact dn (wA h1 ha hb) (EU h2)
theorem qj{op:CmpOp}{rd:cE}(ho:bQ X (compareOp op) rd)(ha:PE X a (lB ta))(hb:PE X b (lB tb))(hm:behindInMarks op b=false):PE X (.Compare a [op] [b] pos) (lE (mQ rd ta tb)):=by
 obtain⟨r,h1,h2⟩:=ho
 exact dn (X4 h1 ha hb hm) (EU h2)
noncomputable def dT(t:aO):fB:=λδ Q=>t δ λd ah=>∃k,d=.bl k/\Q k ah
theorem b85{te:TE}(h:∀σ H Q,lE t σ H Q->te σ H Q):∀σ H Q,lT (dT t) σ H Q->NS te σ H Q:=λσ H Q zz=>by
 obtain⟨B,F,δ,ts,Qd,c,q,k⟩:=zz
 refine h σ H _ ⟨B,F,δ,ts,_,c,q,λd ah v F' H' hd sf sh c'=>?_⟩
 obtain⟨b,rfl,qb⟩:=hd
 have s:=c'.top
 cases s with
 | bl _=>exact⟨b,rfl,k b ah F' H' qb sf sh c'.pop⟩
theorem bX{op:CmpOp}{rd:cE}(ho:bQ X (compareOp op) rd)(ha:PE X a (lB ta))(hb:PE X b (lB tb))(hm:behindInMarks op b=false):PT X (.Compare a [op] [b] pos) (lT (dT (mQ rd ta tb))):=by
 obtain⟨r,h1,h2⟩:=ho
 exact ES (D7 h1 ha hb hm) (b85 (EU h2))
noncomputable def qk(r r':cE)(ta tb tc:aO):aO:=λδ Q=>ta δ λx ak=>tb ak λy aW=>r x y λd=>∃k,d=.bl k/\if k=true then tc aW λz iE=>r' y z λd'=>Q d' iE else Q (.bl false) aW
theorem iX(h:PE X e (lB t))(he:∀whole,isTrue e X.env whole=(do let v<-whole;standAt e.pos;holding [v] (truthy v)):=by intro _;rfl):PT X e (lT (dT t)) :=
 ES (Ab h he) λσ H Q ⟨B,F,δ,ts,Qd,c,q,k⟩=>⟨B,F,δ,ts,_,c,q,λd ah v F' H' hd sf sh c' s=>by
  obtain⟨b,rfl,qb⟩:=hd
  cases s with
  | bl _=>exact⟨b,rfl,k b ah F' H' qb sf sh c'⟩⟩
variable{tA tB:fB}{rest:List Expr}
noncomputable def tu(t u:fB):fB:=λδ Q=>t δ λc ak=>if c=true then u ak Q else Q false ak
noncomputable def tw(t u:fB):fB:=λδ Q=>t δ λc ak=>if c=true then Q true ak else u ak Q
noncomputable def tD(t:fB):fB:=λδ Q=>t δ λc ak=>Q (!c) ak
theorem cI2(ha:PT X a (lT tA))(hb:PW X (.BoolOp .And (b::rest) pos) (lT tB)):PW X (.BoolOp .And (a::b::rest) pos) (lT (tu tA tB)) :=
 Pa (W7 ha hb) λσ H Q ⟨B,F,δ,ts,Qd,c,q,k⟩=>⟨B,F,δ,ts,_,c,q,λb ak F1 H1 q1 f1 h1 c1=>by
  cases b with
  | true=>exact nO ⟨B,F1,ak,ts,Qd,c1,by simpa using q1,λb ah F' H' hd sf sh c'=>k b ah F' H' hd (f1.trans sf) (h1.trans sh) c'⟩
  | false=>exact iC (k false ak F1 H1 (by simpa using q1) f1 h1 c1)⟩
theorem lJ(ha:PT X a (lT tA))(hb:PW X (.BoolOp .Or (b::rest) pos) (lT tB)):PW X (.BoolOp .Or (a::b::rest) pos) (lT (tw tA tB)) :=
 Pa (NH ha hb) λσ H Q ⟨B,F,δ,ts,Qd,c,q,k⟩=>⟨B,F,δ,ts,_,c,q,λb ak F1 H1 q1 f1 h1 c1=>by
  cases b with
  | true=>exact nO (k true ak F1 H1 (by simpa using q1) f1 h1 c1)
  | false=>exact iC ⟨B,F1,ak,ts,Qd,c1,by simpa using q1,λb ah F' H' hd sf sh c'=>k b ah F' H' hd (f1.trans sf) (h1.trans sh) c'⟩⟩
theorem nZ(ha:PT X a (lT tA)):PT X (.UnaryOp .Not a pos) (lT (tD tA)) :=
 ES (Ad ha) λσ H Q ⟨B,F,δ,ts,Qd,c,q,k⟩=>⟨B,F,δ,ts,_,c,q,λb ak F1 H1 q1 f1 h1 c1=>k _ ak F1 H1 q1 f1 h1 c1⟩
noncomputable def tE(ta tb:aO):aO:=λδ Q=>ta δ λx ak=>∃c,x=.bl c/\if c=true then tb ak Q else Q (.bl false) ak
noncomputable def tF(ta:aO):aO:=λδ Q=>ta δ λx ak=>∃c,x=.bl c/\Q (.bl (!c)) ak
theorem n6(ha:PE X a (lB ta))(hb:PE X (.BoolOp .And (b::rest) pos) (lE tb)):PE X (.BoolOp .And (a::b::rest) pos) (lE (tE ta tb)) :=
 dn (Xa ha hb) λσ H Q ⟨B,F,δ,ts,Qd,c,q,k⟩=>⟨B,F,δ,ts,_,c,q,λd ak v F1 H1 q1 f1 h1 c1 s1=>by
  obtain⟨b,rfl,qb⟩:=q1
  cases s1 with
  | bl _ =>
   refine⟨b,rfl,?_⟩
   cases b with
   | true=>exact nO ⟨B,F1,ak,ts,Qd,c1,by simpa using qb,λd ah v F' H' hd sf sh c'=>k d ah v F' H' hd (f1.trans sf) (h1.trans sh) c'⟩
   | false=>exact iC (k _ ak _ F1 H1 (by simpa using qb) f1 h1 (c1.pushS (.bl .nil) rfl))⟩
theorem EV(ha:PE X a (lB ta)):PE X (.UnaryOp .Not a pos) (lE (tF ta)) :=
 dn (Xb ha) λσ H Q ⟨B,F,δ,ts,Qd,c,q,k⟩=>⟨B,F,δ,ts,_,c,q,λd ak v F1 H1 q1 f1 h1 c1 s1=>by
  obtain⟨b,rfl,qb⟩:=q1
  cases s1 with
  | bl _=>exact⟨b,rfl,k _ ak _ F1 H1 qb f1 h1 (c1.pushS (.bl .nil) rfl)⟩⟩
noncomputable def tG(t:fB)(ta tb:aO):aO:=λδ Q=>t δ λc ak=>if c=true then ta ak Q else tb ak Q
theorem cN0(hc:PT X c (lT tA))(ha:PE X a (lE ta))(hb:PE X b (lE tb)):PE X (.IfExp c a b pos) (lE (tG tA ta tb)) :=
 dn (Xd hc ha hb) λσ H Q ⟨B,F,δ,ts,Qd,c,q,k⟩=>⟨B,F,δ,ts,_,c,q,λb ak F1 H1 q1 f1 h1 c1=>by
  cases b with
  | true=>exact nO ⟨B,F1,ak,ts,Qd,c1,by simpa using q1,λd ah v F' H' hd sf sh c'=>k d ah v F' H' hd (f1.trans sf) (h1.trans sh) c'⟩
  | false=>exact iC ⟨B,F1,ak,ts,Qd,c1,by simpa using q1,λd ah v F' H' hd sf sh c'=>k d ah v F' H' hd (f1.trans sf) (h1.trans sh) c'⟩⟩
noncomputable def ql:cC:=λδ Q=>Q [] δ
noncomputable def qm(t:aO)(r:cC):cC:=λδ Q=>t δ λd ak=>r ak λds aW=>Q (d::ds) aW
theorem aw:PA X [] (lA ql):=wZ eU λσ H Q ⟨B,F,δ,ts,Qd,c,q,k⟩=>k [] δ [] F H q (af.refl _) (af.refl _) c .nil
variable{tr:cC}
theorem ag(ha:PE X e (lB t))(hr:PA X es (lA tr))(hs:starEach (e::es) X.env=(false,eval e X.env)::starEach es X.env:=by rfl):PA X (e::es) (lA (qm t tr)) :=
 wZ (bV ha hr hs) λσ H Q ⟨B,F,δ,ts,Qd,c,q,k⟩=>⟨B,F,δ,ts,_,c,q,λd ak v F1 H1 q1 f1 h1 c1 s1=>⟨B,F1,ak,ts,_,c1,q1,λds aW vs F2 H2 q2 f2 h2 c2 s2 =>
  k (d::ds) aW (v::vs) F2 H2 q2 (f1.trans f2) (h1.trans h2) c2 ((s1.mono f2 h2).cons s2)⟩⟩
theorem cF:PA X [] (lO ql):=wZ eU λσ H Q ⟨B,F,δ,ts,Qd,c,q,k⟩=>k [] δ F H q (af.refl _) (af.refl _) c
theorem cq(ha:PE X e (lE t))(hr:PA X es (lO tr))(hs:starEach (e::es) X.env=(false,eval e X.env)::starEach es X.env:=by rfl):PA X (e::es) (lO (qm t tr)) :=
 wZ (bV ha hr hs) λσ H Q ⟨B,F,δ,ts,Qd,c,q,k⟩=>⟨B,F,δ,ts,_,c,q,λd ak v F1 H1 q1 f1 h1 c1=>⟨B,F1,ak,(d,v)::ts,_,c1,q1,λps aW F2 H2 q2 f2 h2 c2 =>
  k ((d,v)::ps) aW F2 H2 q2 (f1.trans f2) (h1.trans h2) (c2.perm (List.perm_middle))⟩⟩
noncomputable def qo(t:cC):aO:=λδ Q=>t δ λds ah=>ds.length<=sizeLine/\Q (.lst true ds) ah
noncomputable def tH(t:cC):aO:=λδ Q=>t δ λds ah=>ds.length<=sizeLine/\Q (.tup ds) ah
theorem dP(h:PA X es (lO tr)):PE X (.List es pos) (lE (qo tr)) :=
 dn (NX h) λσ H Q ⟨B,F,δ,ts,Qd,c,q,k⟩=>⟨B,F,δ,ts,_,c,q,λps ak F1 H1 q1 f1 h1 c1=>⟨by simpa using q1.1,λp hp=>k _ ak _ F1 _ q1.2 f1 (h1.trans (af.upd hp)) (c1.cO4 hp)⟩⟩
theorem mR{x1}(h:PA X es (lO tr)):PE X (.Tuple es x1 pos) (lE (tH tr)) :=
 dn (Yv h) λσ H Q ⟨B,F,δ,ts,Qd,c,q,k⟩=>⟨B,F,δ,ts,_,c,q,λps ak F1 H1 q1 f1 h1 c1=>⟨by simpa using q1.1,λp hp=>k _ ak _ F1 _ q1.2 f1 (h1.trans (af.upd hp)) (c1.cO5 hp)⟩⟩
end
end L3
namespace L3
open PySem L2 PySem.Spec PyProof.Rows
noncomputable abbrev bg:=List D->(D->Prop)->Prop
noncomputable def bh(sp:bg):Sp:=λvs H Q _=>∃F ds Qd,af F H/\R F H ds vs []/\sp ds Qd/\∀d v F' H' A,Qd d->af H H'->af F F'->af F' H'->(∀a ws,F' a=some (.lst ws)->F a=some (.lst ws)\/H a=none)->R F' H' [d] [v] A->A.Nodup->(∀a∈A,H a=none)->Q v H'
noncomputable def qp(sp:bg)(t:cC):aO:=λδ Q=>t δ λds ah=>sp (ds.map D.sh) λd=>(ds.all D.pl||d.fr)=true/\Q d ah
theorem w4{B:Bs}{F H:Hp}{σ:L2.St}{δ:Dl}{ts:List (D × V)}{Qd:D->Prop}{Q:VK}{E:XK}{ds:List D}{vs:List V}{sp:bg}(c:aq B F H σ δ ts)(s:S F H ds vs)(q:sp (ds.map D.sh) λd=>(ds.all D.pl||d.fr)=true/\Qd d)
  (k:∀d v F' H',Qd d->af F F'->af H H'->aq B F' H' σ δ ((d,v)::ts)->Q v H'):bh sp vs H Q E:=by
 by_cases hp:ds.all D.pl=true
 ·rw[lH hp]at q
  exact⟨F,ds,_,c.ext,s.r hp,q,λd v F' H' A hd hs hf he h3 r nd fr=>k d v F' H' hd.2 hf hs (c.call hs hf he h3 r nd fr)⟩
 ·refine⟨H,ds.map D.sh,_,af.refl _,s.frozen c.ext,q,λd v F' H' A hd hs hf he h3 r nd fr=>?_⟩
  have eB:d.fr=true:=by
   have:=hd.1
   rw[Bool.or_eq_true]at this
   exact this.resolve_left hp
  exact k d v F H' hd.2 (af.refl _) hs (c.EN hs (r.qg (by simp[eB]) (c.ext.trans hf)) nd fr)
section
variable{X:Cx}{CX:eO}{n:Nat}{f:Addr}{fd:FuncData}{ps:List Str}{sp:bg}{E:XK}{x:Str}{p pos:Pos}{e:Expr}{es:List Expr}{t:cC}
theorem bu(F:aM X.prog X.w X.K X.mg X.base CX n f fd ps (bh sp))(hr:bW n X.A)(hg:Gl X x)(hm:X.mg x=some (.ref f))(hk:PySem.W.keepIn X.K (.ref f)=true)(hb:Binds X.K fd ps [])(hx:jT CX X E)
  (ha:PA X (e::es) (lA t)) (dW:(x==("__debug__":Str))=false:=by decide) (he:starEach (e::es) X.env=(false,eval e X.env)::starEach es X.env:=by rfl) (bN:(backTo pos (starEach es X.env)).any (·.1)=false:=by rfl) :
  PE X (.Call (.Name x p) (e::es) [] pos) (lE (qp sp t)) :=
 dn (iT F hr hg hm hk hb .nil hx ha dW he bN) λσ H Q ⟨B,F,δ,ts,Qd,c,q,k⟩=>⟨B,F,δ,ts,_,c,q,λds ak vs F1 H1 q1 f1 h1 c1 s1=>by
  show bh sp (vs++[]) H1 Q E
  rw[fV]
  exact w4 c1 s1 q1 λd v F' H' hd hf hs c'=>k d ak v F' H' hd (f1.trans hf) (h1.trans hs) c'⟩
end
noncomputable def ku(N:List Str)(ds:List D):Dl:=ds.map some++bj (N.length-ds.length) none
section
variable{P:Program}{w:World}{K:PySem.W.Frag}{mg:Str->Option Value}{base:Heap}
theorem bA{x qual:Str}{st:Stmt}{f:Addr}{fd:FuncData}{N ps:List Str}{k:Nat}{sp:bg}(F:ax K x qual st f fd)(S:aZ N ps (aK st))(len:∀ds Q,sp ds Q->ds.length=ps.length)
  (gO:∀(aD:Value) (A:Around) (outer:List Env) (s:Shared) (H:Hp) (E:XK),bW k (A.deeper (envOfC qual (aK st) s.heap.objs.size f aD)) ->
   ∃t:cM,PSs (iz aQ P w K mg base N qual (aK st) f aD A outer s H E).fY (fw st) (lS (iz aQ P w K mg base N qual (aK st) f aD A outer s H E).fY t)/\∀ds Q,sp ds Q->t { nx:=λ_=>Q .au,rt:=Q } (ku N ds)):aM P w K mg base aQ (k+1) f fd ps (bh sp):=by
 refine F.ok S (λvs H Q E ⟨F,ds,Qd,e,r,h,_⟩=>by rw[<-r.length];exact len ds Qd h) λaD A outer s H vs Q E hr zz=>?_
 obtain⟨F,ds,Qd,e,r,h,k⟩:=zz
 obtain⟨t,ht,hq⟩:=gO aD A outer s H E hr
 have fin:∀d v ah aI F' H',Qd d->aq ⟨H,F⟩ F' H' aI ah [(d,v)]->Q v H':=λd v ah aI F' H' hd c=>by
  obtain⟨A,C,r',s',nd,fr⟩:=c.own
  exact k d v F' H' A hd c.b1 c.b2 c.ext c.b3 r' (hV.mp nd).1 λa ha=>fr a (eR _ ha)
 have e1:L2.start N vs=vs.map some++bj (N.length-ds.length) none:=by unfold L2.start;rw[r.length]
 refine⟨_,ht,⟨H,F⟩,F,ku N ds,_,?_,hq ds Qd h,λah aI F' H' hd c=>fin .au .au ah aI F' H' hd (c.pushS (.au .nil) rfl),fin,λ_ _ _ _ z=>z.elim,λ_ _ _ _ z=>z.elim,XL.none (λ_ _ z=>z) λ_ _ z=>z⟩
 rw[e1]
 exact aq.start e r _
end
section
variable{X:Cx}{e a b c:Expr}{es:List Expr}{pos:Pos}{st:Stmt}{wY rest:List Stmt}{t u:cM}{te:aO}{tt:fB}
noncomputable def tI:cM:=λD δ=>D.nx δ
noncomputable def Pc(t u:cM):cM:=λD δ=>t { D with nx:=u D } δ
theorem aB{t u:cM}{En:tf}{δ:Dl}(h:∀U:Dl->Prop,(∀ah,u En ah->U ah)->t { En with nx:=U } δ):Pc t u En δ:=h (u En) λ_ z=>z
theorem cQ:PSs X [] (lS X tI):=ET pO λD σ H ⟨B,F,δ,Dd,c,q,k1,_⟩=>k1 δ σ F H q c
theorem aA(h1:PS X st (lS X t))(h2:PSs X rest (lS X u)):PSs X (st::rest) (lS X (Pc t u)) :=
 ET (eN h1 h2) λD σ H ⟨B,F,δ,Dd,c,q,k1,k2,k3,k4⟩=>⟨B,F,δ,{ Dd with nx:=u Dd },c,q,λah aI F' H' hq c'=>⟨B,F',ah,Dd,c',hq,k1,k2,k3,k4⟩,k2,k3,k4⟩
theorem aE(h1:PS X st (lS X t)):PSs X [st] (lS X t):=iP h1
theorem Pd:PS X st (lS X λ_ _=>False):=jW pS λD σ H ⟨_,_,_,_,_,q,_⟩=>q.elim
noncomputable def qq(i:Nat)(t:cM):cM:=λD δ=>∃d,δ[i]?=some (some d)/\t D (δ.set i (some d.sh))
theorem EW(i:Nat)(h:PSs X wY (lS X t)):PSs X wY (lS X (qq i t)):=ET h λD σ H zz=>by
 obtain⟨B,F,δ,Dd,c,⟨d,e,q⟩,k⟩:=zz
 obtain⟨F',s,c'⟩:=c.freeze e
 exact⟨B,F',_,Dd,c',q,k⟩
noncomputable def qt(i:Nat)(t:aO):cM:=λD δ=>t δ λd ah=>D.nx (ah.set i (some d))
theorem aU{i:Nat}{x:Str}{pos':Pos}(hN:X.N.Nodup)(hi:X.N[i]?=some x)(hx:Loc X.env.scope x)(he:PE X e (lE te))(hs:swapsWith e (some (.Name x pos')) pos.line X.env=pure false:=by rfl)
  (hf:X.fn x=true\/X.env.scope.names.lookup x=some .local:=by first | exact .inl rfl | exact .inr rfl | assumption):PS X (.Assign [.Name x pos'] e pos) (lS X (qt i te)) :=
 jW (DW hN hi hx he hs hf) λD σ H ⟨B,F,δ,Dd,c,q,k1,k2,k3,k4⟩=>⟨B,F,δ,[],_,c,q,λd ah v F' H' hd sf sh c'=>k1 _ _ F' H' hd (c'.store i)⟩
noncomputable def tJ(t:aO):cM:=λD δ=>t δ λd _=>D.rt d
theorem aV(he:PE X e (lE te)):PS X (.Return (some e) pos) (lS X (tJ te)) :=
 jW (Xj he) λD σ H ⟨B,F,δ,Dd,c,q,k1,k2,k3,k4⟩=>⟨B,F,δ,[],_,c,q,λd ah v F' H' hd sf sh c'=>k2 d v ah σ F' H' hd c'⟩
noncomputable def tK(t:aO):cM:=λD δ=>t δ λ_ ah=>D.nx ah
theorem AJ(he:PE X e (lB te))(hs:swapsWith e none pos.line X.env=pure false:=by rfl):PS X (.Expr e pos) (lS X (tK te)) :=
 jW (pP he hs) λD σ H ⟨B,F,δ,Dd,c,q,k1,k2,k3,k4⟩=>⟨B,F,δ,[],_,c,q,λd ah v F' H' hd sf sh c' s=>k1 ah σ F' H' hd c'⟩
noncomputable def tL(tc:fB)(t u:cM):cM:=λD δ=>tc δ λb ah=>if b=true then t D ah else u D ah
theorem cR{l r:List Stmt}(hc:PT X c (lT tt))(ha:PSs X l (lS X t))(hb:PSs X r (lS X u)):PS X (.If c l r pos) (lS X (tL tt t u)) :=
 jW (pQ hc ha hb) λD σ H ⟨B,F,δ,Dd,c,q,k⟩=>⟨B,F,δ,[],_,c,q,λb ah F' H' hq sf sh c'=>by
  cases b with
  | true=>exact nO ⟨B,F',ah,Dd,c',by simpa using hq,k⟩
  | false=>exact iC ⟨B,F',ah,Dd,c',by simpa using hq,k⟩⟩
noncomputable def tM(i:Nat)(rd:cE)(t:aO):cM:=λD δ=>∃x,δ[i]?=some (some x)/\t δ λy ak=>rd x y λz=>D.nx (ak.set i (some z))
theorem w5{i:Nat}{x:Str}{op:Operator}{rd:cE}{pos':Pos}(hN:X.N.Nodup)(hi:X.N[i]?=some x)(hx:Loc X.env.scope x)(he:PE X e (lB te))(ho:bQ X (inplaceOp op) rd)
  (hf:X.fn x=true\/X.env.scope.names.lookup x=some .local:=by first | exact .inl rfl | exact .inr rfl | assumption):PS X (.AugAssign (.Name x pos') op e pos) (lS X (tM i rd te)):=by
 obtain⟨r,h1,h2⟩:=ho
 refine jW (Xw hN hi hx he (ti:=r) h1 hf) λD σ H zz=>?_
 obtain⟨B,F,δ,Dd,c,⟨d0,e0,q⟩,k1,k2,k3,k4⟩:=zz
 obtain⟨v0,e1,s0⟩:=c.look e0
 exact⟨v0,e1,B,F,δ,[],_,c,q,λd ah v F' H' hd sf sh c' s=>h2 c' (s0.mono sf sh) s hd λz w H2 hz h3 c3=>k1 _ _ F' H2 hz (c3.store i)⟩
noncomputable def tN(tc:fB)(tb:cM):cM:=λD δ=>∃W:Nat->Dl->Prop,(∃m,W m δ)/\∀m δ,W m δ->tc δ λb ah=>if b=true then tb { D with nx:=λah=>∃m',m'<m/\W m' ah,ct:=λah=>∃m',m'<m/\W m' ah,bk:=D.nx } ah else D.nx ah
theorem tO{body:List Stmt}(hp:PassesOwn (model X.prog X.w) X.A X.env X.xe)(hc:PT X c (lT tt))(hb:PSs X body (lS X t)):PS X (.While c body [] pos) (lS X (tN tt t)) :=
 jW (XA hp hc hb) λD σ H zz=>by
  obtain⟨B,F,δ,Dd,c,⟨W,⟨m0,w0⟩,hw⟩,k1,k2,k3,k4⟩:=zz
  refine⟨λm σ H=>∃F δ,aq B F H σ δ []/\W m δ,⟨m0,F,δ,c,w0⟩,λm σ H ⟨F,δ,c,w⟩=>⟨B,F,δ,[],_,c,hw m δ w,λb ah F' H' hq sf sh c'=>?_⟩⟩
  cases b with
  | true =>
   refine nO ⟨λaI H'=>∃m',m'<m/\∃F δ,aq B F H' aI δ []/\W m' δ,λaI H' z=>z,B,F',ah,{ Dd with nx:=λah=>∃m',m'<m/\W m' ah,ct:=λah=>∃m',m'<m/\W m' ah,bk:=Dd.nx },c',by simpa using hq,λaW kZ F2 H2 ⟨m',hm,w2⟩ c2=>⟨m',hm,F2,aW,c2,w2⟩,k2,λaW kZ F2 H2 z c2=>k1 aW kZ F2 H2 z c2,λaW kZ F2 H2 ⟨m',hm,w2⟩ c2=>⟨m',hm,F2,aW,c2,w2⟩,k4.2⟩
  | false=>exact iC (k1 ah σ F' H' (by simpa using hq) c')
end
structure JD(J:It)(F:Hp)(xs:List D):Prop where
 go:∀i H,af F H->i<xs.length->J.go i H
 jS:∀i H x H',af F H->i<xs.length->J.jS i H x H'->∃d,xs[i]?=some d/\af H H'/\R F H' [d] [x] []
 stop:∀i H,af F H->xs.length<=i->J.stop i H
noncomputable abbrev iY:=Dl->(Bool->List D->Dl->Prop)->Prop
noncomputable def lI(t:iY):TI:=λσ H Rr=>∃B F δ ts Qd,aq B F H σ δ ts/\t δ Qd/\∀g xs ah J F' H',Qd g xs ah->af F F'->af H H'->aq B F' H' σ ah ts->JD J H' (xs.map D.sh)->(g=true->xs.all D.pl=true/\JD J F' xs)->Rr J H'
noncomputable abbrev hW:=D->Dl->(Dl->Prop)->Prop
noncomputable def lG(m:Nat)(t:hW):TG:=λv σ H Q=>∃B F δ ts d Qd,aq B F H σ δ ((d,v)::ts)/\t d δ Qd/\∀ah aI,Qd ah->aI.length=σ.length->(∀j,j<m->aI[j]?=σ[j]?)->aq B F H aI ah ts->Q aI H
noncomputable def jX:D->Option (List D)
 | .lst _ xs=>some xs
 | .fz xs=>some xs
 | _=>none
section
variable{B:Bs}{F H F1:Hp}{σ:L2.St}{δ:Dl}{ts:List (D × V)}
end
section
variable{X:Cx}{e a b c tg l iter:Expr}{es:List Expr}{pos:Pos}{t u:cM}{te:aO}{tt:fB}{ta:cC}{m:Nat}
theorem tP{w w':TI}(h:PI X tg iter w)(m:∀σ H Q,w' σ H Q->w σ H Q):PI X tg iter w':=λpins s σ H Q I q=>h pins s σ H Q I (m σ H Q q)
theorem Pe{w w':TG}(h:PG X tg w)(m:∀v σ H Q,w' v σ H Q->w v σ H Q):PG X tg w':=λpins s σ H v u Q I r q=>h pins s σ H v u Q I r (m v σ H Q q)
noncomputable def gN(i:Nat):hW:=λd δ Q=>Q (δ.set i (some d))
theorem cy{i:Nat}{x:Str}(hN:X.N.Nodup)(hi:X.N[i]?=some x)(hx:Loc X.env.scope x)(hm:m<=i:=by decide)(hf:X.fn x=true\/X.env.scope.names.lookup x=some .local:=by first | exact .inl rfl | exact .inr rfl | assumption):PG X (.Name x pos) (lG m (gN i)) :=
 Pe (Ah hN hi hx hf) λv σ H Q ⟨B,F,δ,ts,d,Qd,c,q,k⟩=>k _ _ q (by simp) (λj hj=>by rw[rQ (by omega)]) (c.store i)
theorem mS{K:PySem.W.Frag}{F H:Hp}{p:Addr}{xs:List D}{ws:List V}(hp:Rd F p (.lst ws))(r:R F H xs ws [])(hF:Full F H):JD (DY K p) F xs where
 go:=λi H' hs hi=>by
  have l:=r.length
  have gz:i<ws.length:=by omega
  exact⟨ws,ws[i],.inl (iD hp hs),aS gz⟩
 jS:=λi H' x H2 hs hi zz=>by
  obtain⟨e,y⟩:=zz
  subst e
  have hx:=y ws (.inl (iD hp hs))
  obtain⟨v,A1,e2,r1,sub⟩:=(r.full hF hs rfl).get (aS hi)
  rw[hx]at e2;cases e2
  have:A1=[]:=Wm.mpr λa ha=>by simpa using sub ha
  subst this
  exact⟨_,aS hi,af.refl _,r1⟩
 stop:=λi H' hs hi=>⟨ws,.inl (iD hp hs),by have:=r.length;omega⟩
theorem AK{F:Hp}(lo:Int)(n:Nat):JD (wo lo n) F ((aL n).map λ(k:Nat)=>D.int (lo+(k:Int))) where
 go:=λi H' hs hi=>by
  have gz:i<n:=by simpa using hi
  exact gz
 jS:=λi H' x H2 hs hi zz=>by
  obtain⟨e,y⟩:=zz
  subst e y
  have gz:i<n:=by simpa using hi
  exact⟨.int (lo+i),by simp[kg gz],af.refl _,.int .nil⟩
 stop:=λi H' hs hi=>by
  have gz:n<=i:=by simpa using hi
  exact gz
noncomputable def tQ(t:aO):iY:=λδ Q=>t δ λd ah=>∃xs,jX d=some xs/\Q true (xs.map D.sh) ah
theorem cL3(xs:List D){F H:Hp}{ws:List V}(r:R F H (xs.map D.sh) ws []):(xs.map D.sh).map D.sh=xs.map D.sh:=lH r.pl
theorem AL(h:PE X l (lE te)):PI X tg l (lI (tQ te)) :=
 tP (NM h) λσ H Q ⟨B,F,δ,ts,Qd,c,q,k⟩=>⟨B,F,δ,ts,_,c,q,λd ak v F1 H1 hd f1 h1 c1=>by
  obtain⟨xs,e,hq⟩:=hd
  obtain⟨F2,f2,c2⟩:=c1.ER
  have tp:=c2.top
  have c3:=c2.pop.snap
  have e2:=c2.ext
  have sn:=qh e2
  cases d with
  | lst o ys =>
   obtain rfl:=cO e
   rw[dF]at tp
   cases tp with
   | @shr p ws _ _ _ hp r _ =>
    have r3:=r.shared sn (af.refl _)
    refine⟨p,rfl,⟨ws,bM.of (e2 _ _ hp)⟩,k true _ ak _ _ H1 hq ((f1.trans f2).trans sn) h1 c3 ?_ λ_=>⟨r.pl,mS (.inl (sn _ _ hp)) r3 s9⟩⟩
    rw[cL3 _ r]
    exact mS (.inl (e2 _ _ hp)) (r.shared e2 (af.refl _)) (Full.refl _)
  | fz ys =>
   obtain rfl:=cO e
   cases tp with
   | @fz p o ws _ _ _ hp r _ =>
    have r3:=r.shared sn (af.refl _)
    have es:=lH r.pl
    rw[es]at hq
    refine⟨p,rfl,⟨ws,.inl (.inr ⟨o,e2 _ _ hp⟩)⟩,k true _ ak _ _ H1 hq ((f1.trans f2).trans sn) h1 c3 ?_ λ_=>⟨r.pl,mS (.inr ⟨o,sn _ _ hp⟩) r3 s9⟩⟩
    rw[es]
    exact mS (.inr ⟨o,e2 _ _ hp⟩) (r.shared e2 (af.refl _)) (Full.refl _)
  | au=>cases e
  | bl _=>cases e
  | int _=>cases e
  | str _=>cases e
  | tup _=>cases e
  | obj _ _ _=>cases e
  | bE _=>cases e⟩
noncomputable def tR(t:aO):iY:=λδ Q=>t δ λd ah=>∃xs,jX d=some xs/\Q d.pl xs ah
theorem gQ(h:PE X l (lB te)):PI X tg l (lI (tR te)) :=
 tP (NM h) λσ H Q ⟨B,F,δ,ts,Qd,c,q,k⟩=>⟨B,F,δ,ts,_,c,q,λd ak v F1 H1 hd f1 h1 c1 s=>by
  obtain⟨xs,e,hq⟩:=hd
  have c3:=c1.snap
  have e2:=c1.ext
  have sn:=qh e2
  cases s with
  | @shr p ws ys _ _ hp r _ =>
   obtain rfl:=cO e
   refine⟨p,rfl,⟨ws,bM.of (e2 _ _ hp)⟩,k _ _ ak _ _ H1 hq (f1.trans sn) h1 c3 ?_ λ_=>⟨r.pl,mS (.inl (sn _ _ hp)) (r.shared sn (af.refl _)) s9⟩⟩
   rw[lH r.pl]
   exact mS (.inl (e2 _ _ hp)) (r.shared e2 (af.refl _)) (Full.refl _)
  | @own p ws ys _ _ hp r _ =>
   obtain rfl:=cO e
   refine⟨p,rfl,⟨ws,bM.of hp⟩,k _ _ ak _ _ H1 hq (f1.trans sn) h1 c3 (mS (.inl hp) (r.frozen e2) (Full.refl _)) λz=>by simp[fK]at z⟩
  | @fz p o ws ys _ _ hp r _ =>
   obtain rfl:=cO e
   refine⟨p,rfl,⟨ws,.inl (.inr ⟨o,e2 _ _ hp⟩)⟩,k _ _ ak _ _ H1 hq (f1.trans sn) h1 c3 ?_ λ_=>⟨r.pl,mS (.inr ⟨o,sn _ _ hp⟩) (r.shared sn (af.refl _)) s9⟩⟩
   rw[lH r.pl]
   exact mS (.inr ⟨o,e2 _ _ hp⟩) (r.shared e2 (af.refl _)) (Full.refl _)
  | au _=>cases e
  | bl _=>cases e
  | int _=>cases e
  | str _=>cases e
  | tup _ _ _=>cases e
  | obj _ _ _ _=>cases e
  | bE _ _=>cases e⟩
theorem w9(f:Nat->Int)(l:List Nat):(l.map λk=>D.int (f k)).map D.sh=l.map λk=>D.int (f k):=by simp[D.sh]
theorem Pf(f:Nat->Int)(l:List Nat):(l.map λk=>D.int (f k)).all D.pl=true:=by simp[D.pl]
noncomputable def tS(t:cC):iY:=λδ Q=>t δ λds ah=>∃j:Int,ds=[.int j]/\(-(2 ^ 62)<=j/\j<2 ^ 62)/\Q true ((aL j.toNat).map λ(k:Nat)=>D.int (0+(k:Int))) ah
theorem js{p:Pos}(hg:Gl X "range")(hm:X.mg "range"=none)(ha:PA X [a] (lA ta))(hs:starEach [a] X.env=[(false,eval a X.env)]:=by rfl):PI X tg (.Call (.Name "range" p) [a] [] pos) (lI (tS ta)) :=
 tP (XG hg hm ha hs) λσ H Q ⟨B,F,δ,ts,Qd,c,q,k⟩=>⟨B,F,δ,ts,_,c,q,λds ak vs F1 H1 hd f1 h1 c1 s=>by
  obtain⟨j,rfl,⟨b1,b2⟩,hq⟩:=hd
  cases s with
  | int s =>
   cases s
   refine⟨j,rfl,b1,b2,k true _ ak _ _ H1 hq f1 h1 c1 ?_ λ_=>⟨Pf _ _,AK 0 _⟩⟩
   rw[w9]
   exact AK 0 _⟩
noncomputable def tT(t:cC):iY:=λδ Q=>t δ λds ah=>∃i j:Int,ds=[.int i,.int j]/\(-(2 ^ 62)<=i/\i<2 ^ 62/\-(2 ^ 62)<=j/\j<2 ^ 62)/\Q true ((aL (j-i).toNat).map λ(k:Nat)=>D.int (i+(k:Int))) ah
theorem xb{p:Pos}(hg:Gl X "range")(hm:X.mg "range"=none)(ha:PA X [a,b] (lA ta))(hs:starEach [a,b] X.env=[(false,eval a X.env),(false,eval b X.env)]:=by rfl)(fi:starEach [b] X.env=[(false,eval b X.env)]:=by rfl) :
  PI X tg (.Call (.Name "range" p) [a,b] [] pos) (lI (tT ta)) :=
 tP (XH hg hm ha hs fi) λσ H Q ⟨B,F,δ,ts,Qd,c,q,k⟩=>⟨B,F,δ,ts,_,c,q,λds ak vs F1 H1 hd f1 h1 c1 s=>by
  obtain⟨i,j,rfl,bd,hq⟩:=hd
  cases s with
  | int s =>
   cases s with
   | int s =>
    cases s
    refine⟨i,j,rfl,bd,k true _ ak _ _ H1 hq f1 h1 c1 ?_ λ_=>⟨Pf _ _,AK i _⟩⟩
    rw[w9]
    exact AK i _⟩
noncomputable def gh(xs:List D)(g:hW)(tb:cM):cM:=λEn ak=>∃Iv:Nat->Dl->Prop,Iv 0 ak /\
 (∀i d ah,xs[i]?=some d->Iv i ah->g d ah λaW=>tb { En with nx:=Iv (i+1),ct:=Iv (i+1),bk:=En.nx } aW)/\∀ah,Iv xs.length ah->En.nx ah
theorem gh.mk{xs:List D}{g:hW}{tb:cM}{En:tf}{δ:Dl}(Iv:Nat->Dl->Prop)(h0:Iv 0 δ)(ht:∀i d ah,xs[i]?=some d->Iv i ah->g d ah λaW=>tb { En with nx:=Iv (i+1),ct:=Iv (i+1),bk:=En.nx } aW)
  (hf:∀ah,Iv xs.length ah->En.nx ah):gh xs g tb En δ:=⟨Iv,h0,ht,hf⟩
noncomputable def tU(ti:iY)(g:hW)(tb:cM):cM:=λEn δ=>ti δ λsh xs ak=>sh=true/\gh xs g tb En ak
theorem gi{ti:iY}{g:hW}{body:List Stmt}(hp:PassesOwn (model X.prog X.w) X.A X.env X.xe)(hc:X.calm=true)(hi:PI X tg iter (lI ti))(hg:PG X tg (lG 0 g))(hb:PSs X body (lS X t))
  (hs:∀x,foldedSetIterable iter X.env x=pure x:=by intro _;rfl):PS X (.For tg iter body [] pos) (lS X (tU ti g t)) :=
 jW (XM hp hc hi hg hb hs) λEn σ H ⟨B,F,δ,Dd,c,q,k1,k2,k3,k4⟩=>⟨B,F,δ,[],_,c,q,λsh xs ak J F1 H1 hq f1 h1 c1 _ jd=>by
  obtain⟨wF,Iv,i0,turn,fin⟩:=hq
  obtain⟨bN,jd⟩:=jd wF
  have un:∀{F' H':Hp} {aI:L2.St} {ah:Dl} {ts:List (D × V)},aq ⟨B.H0,F1⟩ F' H' aI ah ts->aq B F' H' aI ah ts:=λc'=>c'.cO7 c1.b2 c1.b3
  refine⟨λi m σ H=>m=xs.length-i/\i<=xs.length/\∃F δ,aq ⟨B.H0,F1⟩ F H σ δ []/\Iv i δ,⟨_,rfl,kP _,F1,ak,c1.rebase,i0⟩,?_⟩
  rintro i m kZ H2 ⟨rfl,hi,F2,aW,c2,iv⟩
  have s2:af F1 H2:=c2.b2.trans c2.ext
  by_cases fA:i<xs.length
  ·refine .inr ⟨jd.go i H2 s2 fA,λaI H'=>∃F δ,aq ⟨B.H0,F1⟩ F H' aI δ []/\Iv (i+1) δ,λaI H' z=>⟨xs.length-(i+1),by omega,rfl,fA,z⟩,λx H3 y=>?_⟩
   obtain⟨d,e,s3,r⟩:=jd.jS i H2 x H3 s2 fA y
   have c3:=(c2.grow s3).pushS (d:=d) (v:=x) ((r.s).mono c2.b2 (af.refl _)) (by have:=r.pl;simpa using this)
   refine⟨⟨B.H0,F1⟩,F2,aW,[],d,_,c3,turn i d aW e iv,λah aI hq _ _ c4=>?_⟩
   exact⟨⟨B.H0,F1⟩,F2,ah,_,c4,hq,λjt mT F5 H5 h5 c5=>⟨F5,jt,c5,h5⟩,λd5 v5 jt mT F5 H5 h5 c5=>k2 d5 v5 jt mT F5 H5 h5 (un c5),λjt mT F5 H5 h5 c5=>k1 jt mT F5 H5 h5 (un c5),λjt mT F5 H5 h5 c5=>⟨F5,jt,c5,h5⟩,⟨λC jt pins mT F5 H5 s5 a T h5 c5=>k4.2.1 C jt pins mT F5 H5 s5 a T h5 (un c5),λC jt pins mT F5 H5 s5 h' e vs h5 c5=>k4.2.2 C jt pins mT F5 H5 s5 h' e vs h5 (un c5)⟩⟩
  ·have e:i=xs.length:=by omega
   subst e
   exact .inl ⟨jd.stop _ H2 s2 (bK _),k1 aW kZ F2 H2 (fin aW iv) (un c2)⟩⟩
end
end L3
namespace L3
open PySem L2 PySem.Spec PyProof.Rows
noncomputable def ju(δ:Dl)(q:Str × Nat):Option D:=(δ[q.2]?).getD none
noncomputable def iZ(δ:Dl)(q:Str × Nat):Bool:=match ju δ q with
 | some d=>d.pl
 | none=>true
noncomputable def gj(aC:List (Str × Nat))(n:Nat)(δ:Dl):Dl:=(aC.map λq=>(ju δ q).map D.sh)++bj n none
noncomputable def tV(sh:Bool)(xs:List D)(aC:List (Str × Nat))(n:Nat)(g:hW)(tt:fB)(te:aO)(ak:Dl)(Q:D->Dl->Prop):Prop:=∃(p:D->Bool) (f:D->D),
 (∀x∈xs.map D.sh,g x (gj aC n ak) λaW=>tt aW λb iE=>b=p x/\(p x=true->te iE λd _=>d=f x)) /\
 ((sh&&aC.all (iZ ak))=true\/∀x∈xs.map D.sh,p x=true->(f x).fr=true)/\xs.length<=sizeLine/\Q (.lst true (((xs.map D.sh).filter p).map f)) ak
noncomputable def n8(ti:iY)(aC:List (Str × Nat))(n:Nat)(g:hW)(tt:fB)(te:aO):aO:=λδ Q=>ti δ λsh xs ak=>tV sh xs aC n g tt te ak Q
noncomputable def lK:fB:=λδ Q=>Q true δ
theorem cb1{sh:Bool}{xs:List D}{aC:List (Str × Nat)}{n m:Nat}{te:aO}{ak:Dl}{Q:D->Dl->Prop}(f:D->D)(hx:∀x∈xs.map D.sh,te ((gj aC n ak).set m (some x)) λd _=>d=f x)
  (eB:(sh&&aC.all (iZ ak))=true\/∀x∈xs.map D.sh,(f x).fr=true) (hl:xs.length<=sizeLine) (hq:Q (.lst true ((xs.map D.sh).map f)) ak):tV sh xs aC n (gN m) lK te ak Q :=
 ⟨λ_=>true,f,λx h=>⟨rfl,λ_=>hx x h⟩,eB.imp id λh x hx _=>h x hx,hl,by rw[Wn.mpr (λ_ _=>rfl)];exact hq⟩
section
variable{B:Bs}{F H:Hp}{σ:L2.St}{δ:Dl}{ts:List (D × V)}
theorem Pg(c:aq B F H σ δ ts)(n:Nat):∀(aC:List (Str × Nat)),aC.all (iZ δ)=true->RS F H (gj aC n δ) (hE aC n σ) []
 | [],_=>by
  have z:∀n,RS F H (bj n none) (bj n none) []:=λn=>by
   induction n with
   | zero=>exact .nil
   | succ n ih=>exact .au ih
  exact z n
 | q::r,h=>by
  rw[dh,dZ]at h
  have ih:=Pg c n r h.2
  show RS F H ((ju δ q).map D.sh::gj r n δ) ((σ[q.2]?).getD none::hE r n σ) []
  cases e:ju δ q with
  | none=>exact .au ih
  | some d =>
   have e2:δ[q.2]?=some (some d):=by
    unfold ju at e
    cases z:δ[q.2]? with
    | none=>rw[z]at e;cases e
    | some o=>rw[z]at e;exact congrArg some e
   have hp:d.pl=true:=by have:=h.1;unfold iZ at this;rw[e]at this;exact this
   obtain⟨v,e3,s⟩:=c.look e2
   rw[e3]
   show RS F H (some d.sh::_) (some v::_) []
   rw[D.AF hp]
   exact .dG (A:=[]) (s.r (by simp[hp])) ih
theorem Ph(c:aq B F H σ δ ts)(n:Nat):∀(aC:List (Str × Nat)),RS H H (gj aC n δ) (hE aC n σ) []
 | []=>by
  have z:∀n,RS H H (bj n none) (bj n none) []:=λn=>by
   induction n with
   | zero=>exact .nil
   | succ n ih=>exact .au ih
  exact z n
 | q::r=>by
  have ih:=Ph c n r
  show RS H H ((ju δ q).map D.sh::gj r n δ) ((σ[q.2]?).getD none::hE r n σ) []
  cases e:ju δ q with
  | none=>exact .au ih
  | some d =>
   have e2:δ[q.2]?=some (some d):=by
    unfold ju at e
    cases z:δ[q.2]? with
    | none=>rw[z]at e;cases e
    | some o=>rw[z]at e;exact congrArg some e
   obtain⟨v,e3,s⟩:=c.look e2
   rw[e3]
   exact .dG (A:=[]) (s.frozen c.ext) ih
theorem Pj{α:Type}(xs:List α)(p:α->Bool)(i:Nat)(x:α)(h:xs[i]?=some x):(xs.take (i+1)).filter p=(xs.take i).filter p++(if p x=true then [x]else []):=by
 rw[mw,h,List.filter_append]
 simp only[M6]
 by_cases hp:p x=true<;>simp[hp]
end
section
variable{X:Cx}{elt iter tg:Expr}{pos:Pos}{ifs:List Expr}{scope:Scope}{cl:List (Str × Addr)}{ti:iY}{tt:fB}{te:aO}{g:hW}
theorem EX{B:Bs}{F1 H1:Hp}{σ:L2.St}{ak:Dl}{ts:List (D × V)}{J:It}{Qd:D->Dl->Prop}{Q:VK}{xs:List D}{sh:Bool}{aC:List (Str × Nat)}{n:Nat}(c1:aq B F1 H1 σ ak ts)
  (mU:JD J H1 (xs.map D.sh)) (qu:sh=true->xs.all D.pl=true/\JD J F1 xs) (p:D->Bool) (f:D->D)
  (hx:∀x∈xs.map D.sh,g x (gj aC n ak) λaW=>tt aW λb iE=>b=p x/\(p x=true->te iE λd _=>d=f x))
  (eB:(sh&&aC.all (iZ ak))=true\/∀x∈xs.map D.sh,p x=true->(f x).fr=true) (hlen:xs.length<=sizeLine) (hq:Qd (.lst true (((xs.map D.sh).filter p).map f)) ak)
  (k:∀d ah v F' H',Qd d ah->af F1 F'->af H1 H'->aq B F' H' σ ah ((d,v)::ts)->Q v H'):OU J aC n (lG aC.length g) (lT tt) (lE te) σ H1 Q:=by
 intro Dp hD
 have cD:aq B F1 (upd H1 Dp (.lst [])) σ ak ((.lst true [],.ref Dp)::ts):=c1.nW hD .nil rfl
 refine⟨λi m acc H2=>m=xs.length-i/\i<=xs.length/\H2 Dp=some (.lst acc)/\af H1 H2/\acc.length<=i/\∃F2,af F1 F2 /\
  aq B F2 H2 σ ak ((.lst true ((((xs.map D.sh).take i).filter p).map f),.ref Dp)::ts),⟨xs.length,rfl,kP _,bL,af.upd hD,bK _,F1,af.refl _,by simpa using cD⟩,?_⟩
 rintro i m acc H2 ⟨rfl,hi,EY,xf,hal,F2,mV,c2⟩
 refine⟨EY,?_⟩
 by_cases fA:i<xs.length
 case neg =>
  have e:i=xs.length:=by omega
  subst e
  refine .inl ⟨mU.stop _ H2 xf (by simp),k _ ak _ F2 H2 ?_ mV xf c2⟩
  have:(xs.map D.sh).take xs.length=xs.map D.sh:=by rw[vU (by simp)]
  rw[this]
  exact hq
 case pos =>
  refine .inr ⟨mU.go i H2 xf (by simpa using fA),λx H3 y=>?_⟩
  obtain⟨d0,e0,EZ,r0⟩:=mU.jS i H2 x H3 xf (by simpa using fA) y
  have Pk:d0∈xs.map D.sh:=rX e0
  have Pl:H3 Dp=some (.lst acc):=EZ _ _ EY
  have c3:=c2.grow EZ
  have E1:=xf.trans EZ
  refine⟨Pl,?_⟩
  have gn:=hx d0 Pk
  have turn:∀Fi,af Fi H3->RS Fi H3 (gj aC n ak) (hE aC n σ) []->S Fi H3 [d0] [x]->d0.pl=true ->
    (∀d v F' H' A,d=f d0->p d0=true->af H3 H'->af Fi F'->af F' H'->(∀a ws,F' a=some (.lst ws)->Fi a=some (.lst ws)\/H3 a=none)->R F' H' [d] [v] A->A.Nodup->(∀a∈A,H3 a=none) ->
     ∃F4,af F2 F4/\aq B F4 H' σ ak ((d,v)::(.lst true ((((xs.map D.sh).take i).filter p).map f),.ref Dp)::ts)) ->
    lG aC.length g x (hE aC n σ) H3 λgL H4 =>
     (gL.length=(hE aC n σ).length/\∀j,j<aC.length->gL[j]?=(hE aC n σ)[j]?)/\lT tt gL H4 λb H5=>H5 Dp=some (.lst acc) /\
     if b=true then lE te gL H5 λy H6=>H6 Dp=some (.lst acc)/\acc.length<sizeLine/\∃m',m'<xs.length-i /\
      (m'=xs.length-(i+1)/\i+1<=xs.length/\upd H6 Dp (.lst (acc++[y])) Dp=some (.lst (acc++[y]))/\af H1 (upd H6 Dp (.lst (acc++[y])))/\(acc++[y]).length<=i+1/\∃F2,af F1 F2 /\
       aq B F2 (upd H6 Dp (.lst (acc++[y]))) σ ak ((.lst true ((((xs.map D.sh).take (i+1)).filter p).map f),.ref Dp)::ts))
     else ∃m',m'<xs.length-i/\(m'=xs.length-(i+1)/\i+1<=xs.length/\H5 Dp=some (.lst acc)/\af H1 H5/\acc.length<=i+1/\∃F2,af F1 F2 /\
       aq B F2 H5 σ ak ((.lst true ((((xs.map D.sh).take (i+1)).filter p).map f),.ref Dp)::ts)):=by
   intro Fi hFi hRS hS bN back
   have ci:aq ⟨H3,Fi⟩ Fi H3 (hE aC n σ) (gj aC n ak) []:=⟨hFi,af.refl _,af.refl _,λ_ _ q=>.inl q,[],[],.nil,hRS,by simp,by simp⟩
   refine⟨⟨H3,Fi⟩,Fi,gj aC n ak,[],d0,_,ci.pushS hS bN,gn,λah gL hq1 l1 k1 c4=>⟨⟨l1,k1⟩,⟨H3,Fi⟩,Fi,ah,[],_,c4,hq1,λb jt F5 H5 hb f5 h5 c5=>?_⟩⟩
   obtain⟨hb,ht⟩:=hb
   have AM:H5 Dp=some (.lst acc):=h5 _ _ Pl
   refine⟨AM,?_⟩
   by_cases hp:p d0=true
   ·rw[hb,hp]
    refine nO ⟨⟨H3,Fi⟩,F5,jt,[],_,c5,ht hp,λd δ6 v F6 H6 hd f6 h6 c6=>?_⟩
    have Pm:H6 Dp=some (.lst acc):=h6 _ _ AM
    obtain⟨A,C,r,s,nd,fr⟩:=c6.own
    obtain⟨F4,tW,c7⟩:=back d v F6 H6 A hd hp c6.b1 c6.b2 c6.ext c6.b3 r (hV.mp nd).1 λa ha=>fr a (eR _ ha)
    have c8:=c7.cP2 Pm
    refine⟨Pm,by omega,xs.length-(i+1),by omega,rfl,fA,bL,?_,by simpa using hal,F4,mV.trans tW,?_⟩
    ·have Pn:=E1.trans c6.b1
     exact⟨λa o q n=>by rw[bc (eK q hD)];exact Pn.get a o q n,λa ps q=>by rw[bc (eK q hD)];exact Pn.tb a ps q⟩
    ·have e9:(((xs.map D.sh).take (i+1)).filter p).map f=(((xs.map D.sh).take i).filter p).map f++[d]:=by
      rw[Pj _ p i d0 e0,hp,hd];simp
     rw[e9]
     exact c8
   ·have AN:p d0=false:=by simpa using hp
    rw[hb,AN]
    refine iC ⟨xs.length-(i+1),by omega,rfl,fA,AM,E1.trans h5,by omega,F2,mV,?_⟩
    have e9:(((xs.map D.sh).take (i+1)).filter p).map f=(((xs.map D.sh).take i).filter p).map f:=by
     rw[Pj _ p i d0 e0,AN];simp
    rw[e9]
    exact c3.grow h5
  by_cases hA:(sh&&aC.all (iZ ak))=true
  ·rw[dZ]at hA
   obtain⟨bN,jd⟩:=qu hA.1
   have wF:=lH bN
   rw[wF]at e0
   obtain⟨d1,e1,_,r1⟩:=jd.jS i H2 x H3 (mV.trans c2.ext) fA y
   rw[e0]at e1;cases e1
   have cQ5:d0.pl=true:=by have:=r1.pl;simpa using this
   refine turn F2 c3.ext (Pg c3 n aC hA.2) ((r1.s).mono mV (af.refl _)) cQ5 λd v F' H' A hd hp hs hf he h3 r nd fr=>⟨F',hf,c3.call hs hf he h3 r nd fr⟩
  ·have cQ6:=eB.resolve_left hA
   refine turn H3 (af.refl _) (Ph c3 n aC) ((r0.shared E1 (af.refl _)).s) (by have:=r0.pl;simpa using this) λd v F' H' A hd hp hs hf he h3 r nd fr=>⟨F2,af.refl _,?_⟩
   exact c3.EN hs (r.qg (by rw[hd];simp[cQ6 d0 Pk hp]) (c3.ext.trans hf)) nd fr
theorem du{Y:Cx}:lu Y [] (lT lK):=λ_ _ _ H _ I ⟨B,F,δ,ts,Qd,c,q,k⟩=>ZY _ _ _ H _ I (k true δ F H q (af.refl _) (af.refl _) c)
theorem E2{Y:Cx}{c:Expr}(h:PT Y c (lT tt)):lu Y [c] (lT tt):=ZZ h
end
end L3
namespace L3
open PySem L2 PySem.Spec PyProof.Rows
section
variable{X:Cx}{F H:Hp}{v w:V}
noncomputable def l2(rd:cE):R2:=λv w H Q=>∃B F σ δ ts x y Qd,aq B F H σ δ ts/\S F H [x] [v]/\S F H [y] [w]/\rd x y Qd/\∀d z H',Qd d->af H H'->aq B F H' σ δ ((d,z)::ts)->Q z H'
theorem bQ.of{f:Value->Value->Sem Value}{rd:cE}(h:cu X f (l2 rd)):bQ X f rd:=⟨_,h,λ{B F H σ δ ts x y v w Q Qd} c sx sy q k=>⟨B,F,σ,δ,ts,x,y,Qd,c,sx,sy,q,k⟩⟩
theorem xg{f:Value->Value->Sem Value}{C:Int->Int->Prop}{g:Int->Int->V}{gd:Int->Int->D}(ho:cu X f (rI C g))(hg:∀i j F H,S F H [gd i j] [g i j])(hp:∀i j,(gd i j).pl=true):bQ X f λx y Q=>∃i j,x=.int i/\y=.int j/\C i j/\Q (gd i j) :=
 ⟨_,ho,λ{B F H σ δ ts x y v w Q Qd} c sx sy h k=>by
  obtain⟨i,j,rfl,rfl,hc,q⟩:=h
  cases sx;cases sy
  exact⟨i,j,rfl,rfl,hc,k _ _ _ q (af.refl _) (c.pushS (hg i j F H) (hp i j))⟩⟩
theorem lL{f:Value->Value->Sem Value}{g:Int->Int->V}{gd:Int->Int->D}(ho:cu X f (jo g))(hg:∀i j F H,S F H [gd i j] [g i j])(hp:∀i j,(gd i j).pl=true):bQ X f λx y Q=>∃i j,x=.int i/\y=.int j/\Q (gd i j) :=
 ⟨_,ho,λ{B F H σ δ ts x y v w Q Qd} c sx sy h k=>by
  obtain⟨i,j,rfl,rfl,q⟩:=h
  cases sx;cases sy
  exact⟨i,j,rfl,rfl,k _ _ _ q (af.refl _) (c.pushS (hg i j F H) (hp i j))⟩⟩
theorem i5{o:Bool}{xs:List D}(s:S F H [.lst o xs] [v])(e:af F H):∃p ws,v=.ref p/\H p=some (.lst ws)/\S F H xs ws:=by
 cases s with
 | shr h r _=>exact⟨_,_,rfl,e _ _ h,r.s⟩
 | own h r _=>exact⟨_,_,rfl,h,r⟩
theorem ky{xs:List D}(s:S F H [.tup xs] [v]):∃p ws,v=.ref p/\H p=some (.tup ws)/\S F H xs ws:=by
 cases s with
 | tup h r _=>exact⟨_,_,rfl,h,r⟩
theorem kz{d:D}{xs:List D}(s:S F H [d] [v])(e:af F H)(h:jX d=some xs):∃p ws,v=.ref p/\Rd H p (.lst ws)/\S F H xs ws:=by
 cases s with
 | shr h' r _=>cases h;exact⟨_,_,rfl,.inl (e _ _ h'),r.s⟩
 | own h' r _=>cases h;exact⟨_,_,rfl,.inl h',r⟩
 | fz h' r _=>cases h;exact⟨_,_,rfl,.inr ⟨_,e _ _ h'⟩,r.s⟩
 | au _=>cases h
 | bl _=>cases h
 | int _=>cases h
 | str _=>cases h
 | tup _ _ _=>cases h
 | obj _ _ _ _=>cases h
 | bE _ _=>cases h
theorem S.rep{xs:List D}{ws:List V}(s:S F H xs ws):∀k:Nat,S F H (bj k xs).flatten (bj k ws).flatten
 | 0=>by simpa using S.nil
 | k+1=>by
  rw[ph,ph,rZ,rZ]
  exact s.append (S.rep s k)
noncomputable def qv:cE:=λx y Q=>match x,y with
 | .int i,.int j=>Q (.int (i+j))
 | .str a,.str b=>a.length+b.length<=sizeLine/\Q (.str (a++b))
 | .lst _ xs,.lst _ ys=>(xs.length+ys.length<=sizeLine/\xs.all D.pl=true/\ys.all D.pl=true)/\Q (.lst true (xs++ys))
 | _,_=>False
theorem cI1:bQ X (binaryOp .Add) λx y Q=>∃o xs o' ys,x=.lst o xs/\y=.lst o' ys/\(xs.length+ys.length<=sizeLine/\xs.all D.pl=true/\ys.all D.pl=true)/\Q (.lst true (xs++ys)) :=
 ⟨_,Oh,λ{B F H σ δ ts x y v w Q Qd} c sx sy h k=>by
  obtain⟨o,xs,o',ys,rfl,rfl,⟨hz,h1,h2⟩,q⟩:=h
  obtain⟨p,ws,rfl,e1,s1⟩:=i5 sx c.ext
  obtain⟨p',gC,rfl,e2,s2⟩:=i5 sy c.ext
  refine⟨p,p',ws,gC,rfl,rfl,e1,e2,by rw[<-s1.length,<- s2.length];exact hz,λr hr=>?_⟩
  exact k _ _ _ q (af.upd hr) (c.nW hr (s1.append s2) (by simp[h1,h2]))⟩
theorem cQ8:bQ X (binaryOp .Add) λx y Q=>∃i j,x=.str i/\y=.str j/\i.length+j.length<=sizeLine/\Q (.str (i++j)) :=
 ⟨_,X6,λ{B F H σ δ ts x y v w Q Qd} c sx sy h k=>by
  obtain⟨i,j,rfl,rfl,hz,q⟩:=h
  cases sx;cases sy
  exact⟨i,j,rfl,rfl,hz,k _ _ _ q (af.refl _) (c.pushS (.str .nil) rfl)⟩⟩
theorem cH:bQ X (binaryOp .Add) qv:=((lL (gd:=λi j=>.int (i+j)) XR (λ_ _ _ _=>.int .nil) λ_ _=>rfl).or (cQ8.or cI1)).imp λx y Q h=>by
 unfold qv at h
 split at h
 ·exact .inl ⟨_,_,rfl,rfl,h⟩
 ·exact .inr (.inl ⟨_,_,rfl,rfl,h.1,h.2⟩)
 ·exact .inr (.inr ⟨_,_,_,_,rfl,rfl,h.1,h.2⟩)
 ·exact h.elim
noncomputable def iI(C:Int->Int->Prop)(g:Int->Int->D):cE:=λx y Q=>match x,y with
 | .int i,.int j=>C i j/\Q (g i j)
 | _,_=>False
noncomputable def ia(g:Int->Int->D):cE:=λx y Q=>match x,y with
 | .int i,.int j=>Q (g i j)
 | _,_=>False
theorem AO{f:Value->Value->Sem Value}{C:Int->Int->Prop}{g:Int->Int->D}(h:bQ X f λx y Q=>∃i j,x=.int i/\y=.int j/\C i j/\Q (g i j)):bQ X f (iI C g):=h.imp λx y Q h=>by
 unfold iI at h
 split at h
 ·exact⟨_,_,rfl,rfl,h.1,h.2⟩
 ·exact h.elim
theorem mW{f:Value->Value->Sem Value}{g:Int->Int->D}(h:bQ X f λx y Q=>∃i j,x=.int i/\y=.int j/\Q (g i j)):bQ X f (ia g):=h.imp λx y Q h=>by
 unfold ia at h
 split at h
 ·exact⟨_,_,rfl,rfl,h⟩
 ·exact h.elim
noncomputable def tX:cE:=ia λi j=>.int (i-j)
theorem dQ:bQ X (binaryOp .Sub) tX:=mW (lL D6 (λ_ _ _ _=>.int .nil) λ_ _=>rfl)
noncomputable def E3(_ j:Int):Prop:=0<j/\j.natAbs.log2<9000
theorem og{i j:Int}(h1:0<j)(h2:j<1073741824):E3 i j:=⟨h1,by
 have h:j.natAbs<2 ^ 30:=by omega
 have:=(Nat.log2_lt (show j.natAbs≠0 by omega)).mpr h
 omega⟩
theorem b59:cu X (binaryOp .FloorDiv) (rI E3 λi j=>.int (i/j)):=wB λi j _ _ _ _ _ hc q =>
 floordiv_int (show j≠0 by have:=hc.1;omega) (by rw[Wd i (by have:=hc.1;omega)];exact q) (.inl (PyProof.noPylong_of_log2 hc.2))
noncomputable def tY:cE:=iI E3 λi j=>.int (i/j)
theorem oh:bQ X (binaryOp .FloorDiv) tY:=AO (xg b59 (λ_ _ _ _=>.int .nil) λ_ _=>rfl)
noncomputable def tZ:cE:=iI (λ_ j=>0<j) λi j=>.int (i%j)
theorem cS:bQ X (binaryOp .Mod) tZ:=AO (xg XS (λ_ _ _ _=>.int .nil) λ_ _=>rfl)
noncomputable def t7:cE:=iI OQ λi j=>.int (i*2 ^ j.toNat)
theorem t9:bQ X (binaryOp .LShift) t7:=AO (xg OR (λ_ _ _ _=>.int .nil) λ_ _=>rfl)
noncomputable def ua:cE:=iI (λ_ j=>0<=j) λi j=>.int (i/2 ^ j.toNat)
theorem Po:bQ X (binaryOp .RShift) ua:=AO (xg XT (λ_ _ _ _=>.int .nil) λ_ _=>rfl)
noncomputable def ub:cE:=ia λi j=>.int (nD i j)
theorem Pp:bQ X (binaryOp .BitAnd) ub:=mW (lL XU (λ_ _ _ _=>.int .nil) λ_ _=>rfl)
noncomputable def ud:cE:=ia λi j=>.int (nE i j)
theorem xh:bQ X (binaryOp .BitXor) ud:=mW (lL XW (λ_ _ _ _=>.int .nil) λ_ _=>rfl)
theorem b66:cu X (binaryOp .Mult) (rI IntMulOk λi j=>.int (i*j)):=wB λ_ _ _ _ _ _ _ hc q=>mul_int q hc
noncomputable def qw:cE:=λx y Q=>match x,y with
 | .int i,.int j=>IntMulOk i j/\Q (.int (i*j))
 | .lst _ xs,.int k=>(-(2 ^ 63)<=k/\k<2 ^ 63/\xs.length*k.toNat<=sizeLine/\xs.all D.pl=true)/\Q (.lst true (bj k.toNat xs).flatten)
 | _,_=>False
theorem cG6:bQ X (binaryOp .Mult) λx y Q=>∃o xs k,x=.lst o xs/\y=.int k/\(-(2 ^ 63)<=k/\k<2 ^ 63/\xs.length*k.toNat<=sizeLine/\xs.all D.pl=true)/\Q (.lst true (bj k.toNat xs).flatten) :=
 ⟨_,Zg,λ{B F H σ δ ts x y v w Q Qd} c sx sy h k=>by
  obtain⟨o,xs,n,rfl,rfl,⟨b1,b2,hz,h1⟩,q⟩:=h
  obtain⟨p,ws,rfl,e1,s1⟩:=i5 sx c.ext
  cases sy
  refine⟨p,n,ws,rfl,rfl,e1,b1,b2,by rw[<-s1.length];exact hz,λr hr=>?_⟩
  refine k _ _ _ q (af.upd hr) (c.nW hr (s1.rep _) ?_)
  rw[cX]
  intro x hx
  obtain⟨l,hl,xi⟩:=List.mem_flatten.mp hx
  rw[(Dy.mp hl).2]at xi
  exact cX.mp h1 x xi⟩
theorem fM:bQ X (binaryOp .Mult) qw:=((xg (gd:=λi j=>.int (i*j)) b66 (λ_ _ _ _=>.int .nil) λ_ _=>rfl).or cG6).imp λx y Q h=>by
 unfold qw at h
 split at h
 ·exact .inl ⟨_,_,rfl,rfl,h.1,h.2⟩
 ·exact .inr ⟨_,_,_,rfl,rfl,h.1,h.2⟩
 ·exact h.elim
theorem cv5:bQ X (inplaceOp .Add) (ia λi j=>.int (i+j)):=mW (lL XX (λ_ _ _ _=>.int .nil) λ_ _=>rfl)
theorem AQ:bQ X (inplaceOp .BitXor) (ia λi j=>.int (nE i j)):=mW (lL XY (λ_ _ _ _=>.int .nil) λ_ _=>rfl)
noncomputable def ue:cE:=ia λi j=>.bl (decide (i<j))
noncomputable def uf:cE:=ia λi j=>.bl (decide (i<=j))
noncomputable def ug:cE:=ia λi j=>.bl (decide (j<i))
noncomputable def uh:cE:=ia λi j=>.bl (decide (j<=i))
theorem ui:bQ X (compareOp .Lt) ue:=mW (lL NQ (λ_ _ _ _=>.bl .nil) λ_ _=>rfl)
theorem kA:bQ X (compareOp .LtE) uf:=mW (lL X1 (λ_ _ _ _=>.bl .nil) λ_ _=>rfl)
theorem E4:bQ X (compareOp .Gt) ug:=mW (lL NR (λ_ _ _ _=>.bl .nil) λ_ _=>rfl)
theorem cN1:bQ X (compareOp .GtE) uh:=mW (lL X2 (λ_ _ _ _=>.bl .nil) λ_ _=>rfl)
noncomputable def oi:D->Bool
 | .au=>true
 | _=>false
noncomputable def qy:cE:=λx y Q=>match y with
 | .au=>Q (.bl (!oi x))
 | _=>False
theorem cq9{d:D}(s:S F H [d] [v]):decide (v=.au)=oi d:=by cases s<;>simp[oi]
theorem cD6:bQ X (compareOp .IsNot) qy:=⟨_,X3,λ{B F H σ δ ts x y v w Q Qd} c sx sy h k=>by
 unfold qy at h
 split at h
 ·cases sy
  refine⟨rfl,?_⟩
  rw[cq9 sx]
  exact k _ _ _ h (af.refl _) (c.pushS (.bl .nil) rfl)
 ·exact h.elim⟩
noncomputable def bF:D->D->Bool
 | .au,.au=>true
 | .bl a,.bl b=>a==b
 | .bl a,.int b=>(if a then 1 else 0)==b
 | .int a,.bl b=>a==(if b then 1 else 0)
 | .int a,.int b=>a==b
 | .str a,.str b=>a==b
 | .lst _ xs,.lst _ ys=>fO xs ys
 | .tup xs,.tup ys=>fO xs ys
 | _,_=>false
where fO:List D->List D->Bool
 | [],[]=>true
 | x::xs,y::ys=>bF x y&&fO xs ys
 | _,_=>false
noncomputable def dv:Nat->D->Bool
 | _,.au=>true
 | _,.bl _=>true
 | _,.int _=>true
 | _,.str _=>true
 | n+1,.lst _ xs=>xs.all (dv n)
 | n+1,.tup xs=>xs.all (dv n)
 | _,_=>false
theorem E5:∀(xs ys:List D),xs.length=ys.length->bF.fO xs ys=(aL xs.length).all λj=>bF (xs.getD j .au) (ys.getD j .au)
 | [],[],_=>rfl
 | x::xs,y::ys,h=>by
  rw[jl,Wo,dh,kS]
  show(bF x y&&bF.fO xs ys)=_
  rw[E5 xs ys (by simpa using h)]
  rfl
theorem E6:∀(xs ys:List D),xs.length≠ys.length->bF.fO xs ys=false
 | [],[],h=>absurd rfl h
 | [],_::_,_=>rfl
 | _::_,[],_=>rfl
 | x::xs,y::ys,h=>by
  show(bF x y&&bF.fO xs ys)=false
  rw[E6 xs ys (by simpa using h),Bool.and_false]
noncomputable def ofV:V->D
 | .bl b=>.bl b
 | .int i=>.int i
 | .str z=>.str z
 | _=>.au
theorem xj{x:D}{v:V}(h:dv 0 x=true)(s:S F H [x] [v]):x=ofV v:=by
 cases s with
 | au _=>rfl
 | bl _=>rfl
 | int _=>rfl
 | str _=>rfl
 | _=>cases h
theorem Pq{x:D}(h:dv 0 x=true):bF x x=true:=by
 cases x with
 | au=>rfl
 | bl b=>exact beq_self_eq_true b
 | int i=>exact beq_self_eq_true i
 | str z=>exact beq_self_eq_true z
 | _=>cases h
theorem oj{n:Nat}{x:D}(h:dv (n+1) x=true):dv 0 x=true\/(∃o xs,x=.lst o xs/\xs.all (dv n)=true)\/∃xs,x=.tup xs/\xs.all (dv n)=true:=by
 cases x with
 | lst o xs=>exact .inr (.inl ⟨o,xs,rfl,h⟩)
 | tup xs=>exact .inr (.inr ⟨xs,rfl,h⟩)
 | obj _ _ _=>exact absurd h ir
 | fz _=>exact absurd h ir
 | bE _=>exact absurd h ir
 | _=>exact .inl rfl
theorem AR{x:D}{p:Addr}(h:dv 0 x=true)(s:S F H [x] [.ref p]):False:=by
 rw[xj h s]at s
 cases s
theorem Pr:∀(n:Nat) {xs ys:List D} {vs:List V},xs.all (dv n)=true->ys.all (dv n)=true->S F H xs vs->S F H ys vs->af F H->bF.fO xs ys=true:=by
 intro n xs
 induction n generalizing xs with
 | zero =>
  induction xs with
  | nil=>intro ys vs _ _ s1 s2 _;cases s1;cases s2;rfl
  | cons x xs ih =>
   intro ys vs h1 h2 s1 s2 e
   obtain⟨v,bS,rfl,q1,r1⟩:=s1.cL
   cases ys with
   | nil=>cases s2
   | cons y ys =>
    obtain⟨v',EL,ee,q2,r2⟩:=s2.cL
    obtain⟨rfl,rfl⟩:=mr ee
    rw[dh,dZ]at h1 h2
    show(bF x y&&bF.fO xs ys)=true
    rw[ih h1.2 h2.2 r1 r2 e,mx,xj h2.1 q2,<- xj h1.1 q1]
    exact Pq h1.1
 | succ n Pt =>
  induction xs with
  | nil=>intro ys vs _ _ s1 s2 _;cases s1;cases s2;rfl
  | cons x xs ih =>
   intro ys vs h1 h2 s1 s2 e
   obtain⟨v,bS,rfl,q1,r1⟩:=s1.cL
   cases ys with
   | nil=>cases s2
   | cons y ys =>
    obtain⟨v',EL,ee,q2,r2⟩:=s2.cL
    obtain⟨rfl,rfl⟩:=mr ee
    rw[dh,dZ]at h1 h2
    show(bF x y&&bF.fO xs ys)=true
    rw[ih h1.2 h2.2 r1 r2 e,mx]
    have h1:=h1.1
    have h2:=h2.1
    clear ih r1 r2 s1 s2
    rcases oj h1 with k1 | ⟨o1,a1,rfl,k1⟩ | ⟨a1,rfl,k1⟩
    ·rcases oj h2 with k2 | ⟨o2,a2,rfl,k2⟩ | ⟨a2,rfl,k2⟩
     ·rw[xj k2 q2,<- xj k1 q1]
      exact Pq k1
     ·obtain⟨p,ws,rfl,_⟩:=i5 q2 e
      exact(AR k1 q1).elim
     ·obtain⟨p,ws,rfl,_⟩:=ky q2
      exact(AR k1 q1).elim
    ·obtain⟨p,ws,rfl,e1,t1⟩:=i5 q1 e
     rcases oj h2 with k2 | ⟨o2,a2,rfl,k2⟩ | ⟨a2,rfl,k2⟩
     ·exact(AR k2 q2).elim
     ·obtain⟨p2,E7,ev,e2,t2⟩:=i5 q2 e
      cases ev
      cases e1.symm.trans e2
      exact Pt k1 k2 t1 t2 e
     ·obtain⟨p2,E7,ev,e2,t2⟩:=ky q2
      cases ev
      cases e1.symm.trans e2
    ·obtain⟨p,ws,rfl,e1,t1⟩:=ky q1
     rcases oj h2 with k2 | ⟨o2,a2,rfl,k2⟩ | ⟨a2,rfl,k2⟩
     ·exact(AR k2 q2).elim
     ·obtain⟨p2,E7,ev,e2,t2⟩:=i5 q2 e
      cases ev
      cases e1.symm.trans e2
     ·obtain⟨p2,E7,ev,e2,t2⟩:=ky q2
      cases ev
      cases e1.symm.trans e2
      exact Pt k1 k2 t1 t2 e
end
end L3
namespace L3
open PySem L2 PySem.Spec PyProof.Rows
structure Pu(A:Around)(s:Shared)(u w:Value)(b:Bool):Prop where
 rc:SeqAt.RcAt A s u w b
 ne:SeqAt.RcNeAt A s u w (!b)
 eq:Di A s u w b
section
variable{X:Cx}{F H:Hp}{v w:V}
theorem Pw{xs:List V}{us:List Value}(r:Vals xs us){j:Nat}(h:j<us.toArray.size):∃x,xs[j]?=some x/\RelV x us.toArray[j]:=by
 have l:=r.length
 have hj:j<xs.length:=by rw[l];simpa using h
 obtain⟨u,e,q⟩:=r.get (aS hj)
 obtain⟨_,z⟩:=jk.mp e
 refine⟨_,aS hj,?_⟩
 have:us.toArray[j]=u:=by simpa using z
 rw[this];exact q
theorem Px{xs:List D}{j:Nat}{d:D}(h:xs[j]?=some d):xs.getD j .au=d:=by rw[aY,h];rfl
theorem uj{x:D}{v:V}{u:Value}(h:dv 0 x=true)(s:S F H [x] [v])(r:RelV v u):(x=.au/\u=.none)\/(∃b,x=.bl b/\u=.bool b)\/(∃i t,x=.int i/\u=.int i t)\/∃z t,x=.str z/\u=.str z t:=by
 cases s with
 | au _=>cases r;exact .inl ⟨rfl,rfl⟩
 | bl _=>cases r;exact .inr (.inl ⟨_,rfl,rfl⟩)
 | int _=>obtain⟨t,rfl⟩:=r;exact .inr (.inr (.inl ⟨_,t,rfl,rfl⟩))
 | str _=>obtain⟨t,rfl⟩:=r;exact .inr (.inr (.inr ⟨_,t,rfl,rfl⟩))
 | _=>exact absurd h ir
theorem Py{x y:D}{u u':Value}{A:Around}{s:Shared}(h1:(x=.au/\u=.none)\/(∃b,x=.bl b/\u=.bool b)\/(∃i t,x=.int i/\u=.int i t)\/∃z t,x=.str z/\u=.str z t)(h2:(y=.au/\u'=.none)\/(∃b,y=.bl b/\u'=.bool b)\/(∃i t,y=.int i/\u'=.int i t)\/∃z t,y=.str z/\u'=.str z t):Pu A s u u' (bF x y):=by
 rcases h1 with⟨rfl,rfl⟩ | ⟨a,rfl,rfl⟩ | ⟨a,t,rfl,rfl⟩ | ⟨a,t,rfl,rfl⟩<;>rcases h2 with⟨rfl,rfl⟩ | ⟨b,rfl,rfl⟩ | ⟨b,t',rfl,rfl⟩ | ⟨b,t',rfl,rfl⟩
 ·exact⟨.none_none,.none_none,.same _⟩
 ·exact⟨.none_bool _,.none_bool _,.none_bool _⟩
 ·exact⟨.none_int _ _,.none_int _ _,.none_int _ _⟩
 ·exact⟨.none_str _ _,.none_str _ _,.none_str _ _⟩
 ·exact⟨.bool_none _,.bool_none _,.bool_none _⟩
 ·exact⟨.bool_bool _ _,.bool_bool _ _,.bool_bool _ _⟩
 ·exact⟨.bool_int _ _ _,.bool_int _ _ _,.bool_int _ _ _⟩
 ·exact⟨.bool_str _ _ _,.bool_str _ _ _,.bool_str _ _ _⟩
 ·exact⟨.int_none _ _,.int_none _ _,.int_none _ _⟩
 ·exact⟨.int_bool _ _ _,.int_bool _ _ _,.int_bool _ _ _⟩
 ·exact⟨.int_int _ _ _ _,.int_int _ _ _ _,.int_int _ _ _ _⟩
 ·exact⟨.int_str _ _ _ _,.int_str _ _ _ _,.int_str _ _ _ _⟩
 ·exact⟨.str_none _ _,.str_none _ _,.str_none _ _⟩
 ·exact⟨.str_bool _ _ _,.str_bool _ _ _,.str_bool _ _ _⟩
 ·exact⟨.str_int _ _ _ _,.str_int _ _ _ _,.str_int _ _ _ _⟩
 ·exact⟨.str_str _ _ _ _,.str_str _ _ _ _,.str_str _ _ _ _⟩
theorem Pz{pins:List (Addr × Obj)}{σ:L2.St}{s:Shared}(I:Inv X pins σ H s)(e:af F H):∀(n:Nat) (x y:D) (v w:V) (u u':Value) (A:Around),dv n x=true->dv n y=true->S F H [x] [v]->S F H [y] [w]->RelV v u->RelV w u' ->
  A.units+n<cLine->Pu A s u u' (bF x y):=by
 intro n
 induction n with
 | zero =>
  intro x y v w u u' A hx hy sx sy rv gb hu
  exact Py (uj hx sx rv) (uj hy sy gb)
 | succ n ih =>
  intro x y v w u u' A hx hy sx sy rv gb hu
  have bw:A.units<cLine:=mn (Nat.le_add_right ..) hu
  have PB:A.in1.units+n<cLine:=by show A.units+1+n<cLine;rw[Dz,MT 1];exact hu
  have items:∀{xs ys:List D} {vs ws:List V} {us uk:List Value},xs.all (dv n)=true->ys.all (dv n)=true->S F H xs vs->S F H ys ws->Vals vs us->Vals ws uk ->
    ∀j (h1:j<us.toArray.size) (h2:j<uk.toArray.size),Di A.in1 s us.toArray[j] uk.toArray[j] (bF (xs.getD j .au) (ys.getD j .au)):=by
   intro xs ys vs ws us uk hx hy sx sy r1 r2 j h1 h2
   obtain⟨a,e1,q1⟩:=Pw r1 h1
   obtain⟨b,e2,q2⟩:=Pw r2 h2
   obtain⟨d1,g1,t1⟩:=sx.get' e1
   obtain⟨d2,g2,t2⟩:=sy.get' e2
   rw[Px g1,Px g2]
   exact(ih d1 d2 a b _ _ A.in1 (cX.mp hx d1 (rX g1)) (cX.mp hy d2 (rX g2)) t1 t2 q1 q2 PB).eq
  clear ih hu PB
  rcases oj hx with k1 | ⟨o,xs,rfl,k1⟩ | ⟨xs,rfl,k1⟩
  ·have f:=uj k1 sx rv
   rcases oj hy with k2 | ⟨o',ys,rfl,k2⟩ | ⟨ys,rfl,k2⟩
   ·exact Py f (uj k2 sy gb)
   ·obtain⟨p',gC,rfl,e2,t2⟩:=i5 sy e
    cases gb
    obtain⟨kB,r2,p2,z2⟩:=I.list (bM.of (K:=X.K) e2)
    have p2:=p2.isList
    rcases f with⟨rfl,rfl⟩ | ⟨a,rfl,rfl⟩ | ⟨a,t,rfl,rfl⟩ | ⟨a,t,rfl,rfl⟩
    ·exact⟨.none_list p2 bw,.none_list p2 bw,.none_list p2 bw⟩
    ·exact⟨.bool_list _ p2 bw,.bool_list _ p2 bw,.bool_list _ p2 bw⟩
    ·exact⟨.int_list _ _ p2 bw,.int_list _ _ p2 bw,.int_list _ _ p2 bw⟩
    ·exact⟨.str_list _ _ p2 bw,.str_list _ _ p2 bw,.str_list _ _ p2 bw⟩
   ·obtain⟨p',gC,rfl,e2,t2⟩:=ky sy
    cases gb
    obtain⟨kB,r2,p2,z2⟩:=I.tuple (gX.of (K:=X.K) e2)
    rcases f with⟨rfl,rfl⟩ | ⟨a,rfl,rfl⟩ | ⟨a,t,rfl,rfl⟩ | ⟨a,t,rfl,rfl⟩
    ·exact⟨.none_tuple p2 bw,.none_tuple p2 bw,.none_tuple p2 bw⟩
    ·exact⟨.bool_tuple _ p2 bw,.bool_tuple _ p2 bw,.bool_tuple _ p2 bw⟩
    ·exact⟨.int_tuple _ _ p2 bw,.int_tuple _ _ p2 bw,.int_tuple _ _ p2 bw⟩
    ·exact⟨.str_tuple _ _ p2 bw,.str_tuple _ _ p2 bw,.str_tuple _ _ p2 bw⟩
  ·obtain⟨p,ws,rfl,e1,t1⟩:=i5 sx e
   cases rv
   obtain⟨its,r1,p1,z1⟩:=I.list (bM.of (K:=X.K) e1)
   have p1:=p1.isList
   rcases oj hy with k2 | ⟨o',ys,rfl,k2⟩ | ⟨ys,rfl,k2⟩
   ·rcases uj k2 sy gb with⟨rfl,rfl⟩ | ⟨a,rfl,rfl⟩ | ⟨a,t,rfl,rfl⟩ | ⟨a,t,rfl,rfl⟩
    ·exact⟨.list_none p1 bw,.list_none p1 bw,.list_none p1 bw⟩
    ·exact⟨.list_bool _ p1 bw,.list_bool _ p1 bw,.list_bool _ p1 bw⟩
    ·exact⟨.list_int _ _ p1 bw,.list_int _ _ p1 bw,.list_int _ _ p1 bw⟩
    ·exact⟨.list_str _ _ p1 bw,.list_str _ _ p1 bw,.list_str _ _ p1 bw⟩
   ·obtain⟨p',gC,rfl,e2,t2⟩:=i5 sy e
    cases gb
    obtain⟨kB,r2,p2,z2⟩:=I.list (bM.of (K:=X.K) e2)
    have p2:=p2.isList
    have qA:xs.length=its.length:=t1.length.trans r1.length
    have um:ys.length=kB.length:=t2.length.trans r2.length
    by_cases hl:xs.length=ys.length
    ·have k7:its.toArray.size=kB.toArray.size:=by rw[dD,dD,<- qA,<- um];exact hl
     have ev:(aL its.toArray.size).all (λj=>bF (xs.getD j .au) (ys.getD j .au))=bF (.lst o xs) (.lst o' ys):=by
      show _=bF.fO xs ys
      rw[E5 xs ys hl,dD,<- qA]
     have a:=SeqAt.RcAt.lists (e:=λj=>bF (xs.getD j .au) (ys.getD j .au)) p1 p2 k7 bw (items k1 k2 t1 t2 r1 r2)
     have b:=SeqAt.RcNeAt.lists (e:=λj=>bF (xs.getD j .au) (ys.getD j .au)) p1 p2 k7 bw (items k1 k2 t1 t2 r1 r2)
     rw[ev]at a b
     refine⟨a,b,?_⟩
     by_cases qB:p=p'
     ·subst qB
      cases e1.symm.trans e2
      rw[show bF (.lst o xs) (.lst o' ys)=true from Pr n k1 k2 t1 t2 e]
      exact .same _
     ·exact .of_refs qB a
    ·have k7:(its.toArray.size != kB.toArray.size)=true:=bne_iff_ne.mpr (by rw[dD,dD,<- qA,<- um];exact hl)
     rw[show bF (.lst o xs) (.lst o' ys)=false from E6 xs ys hl]
     have a:=SeqAt.RcAt.lists_lengths p1 p2 k7 bw
     refine⟨a,SeqAt.RcNeAt.lists_lengths p1 p2 k7 bw,.of_refs (λqB=>?_) a⟩
     subst qB
     cases e1.symm.trans e2
     exact hl (t1.length.trans t2.length.symm)
   ·obtain⟨p',gC,rfl,e2,t2⟩:=ky sy
    cases gb
    obtain⟨kB,r2,p2,z2⟩:=I.tuple (gX.of (K:=X.K) e2)
    exact⟨.list_tuple p1 p2 bw,.list_tuple p1 p2 bw,.list_tuple p1 p2 bw⟩
  ·obtain⟨p,ws,rfl,e1,t1⟩:=ky sx
   cases rv
   obtain⟨its,r1,p1,z1⟩:=I.tuple (gX.of (K:=X.K) e1)
   rcases oj hy with k2 | ⟨o',ys,rfl,k2⟩ | ⟨ys,rfl,k2⟩
   ·rcases uj k2 sy gb with⟨rfl,rfl⟩ | ⟨a,rfl,rfl⟩ | ⟨a,t,rfl,rfl⟩ | ⟨a,t,rfl,rfl⟩
    ·exact⟨.tuple_none p1 bw,.tuple_none p1 bw,.tuple_none p1 bw⟩
    ·exact⟨.tuple_bool _ p1 bw,.tuple_bool _ p1 bw,.tuple_bool _ p1 bw⟩
    ·exact⟨.tuple_int _ _ p1 bw,.tuple_int _ _ p1 bw,.tuple_int _ _ p1 bw⟩
    ·exact⟨.tuple_str _ _ p1 bw,.tuple_str _ _ p1 bw,.tuple_str _ _ p1 bw⟩
   ·obtain⟨p',gC,rfl,e2,t2⟩:=i5 sy e
    cases gb
    obtain⟨kB,r2,p2,z2⟩:=I.list (bM.of (K:=X.K) e2)
    have p2:=p2.isList
    exact⟨.tuple_list p1 p2 bw,.tuple_list p1 p2 bw,.tuple_list p1 p2 bw⟩
   ·obtain⟨p',gC,rfl,e2,t2⟩:=ky sy
    cases gb
    obtain⟨kB,r2,p2,z2⟩:=I.tuple (gX.of (K:=X.K) e2)
    have qA:xs.length=its.length:=t1.length.trans r1.length
    have um:ys.length=kB.length:=t2.length.trans r2.length
    have ev:((aL (min its.toArray.size kB.toArray.size)).all (λj=>bF (xs.getD j .au) (ys.getD j .au))&&its.toArray.size==kB.toArray.size)=bF (.tup xs) (.tup ys):=by
     show _=bF.fO xs ys
     rw[dD,dD,<- qA,<- um]
     by_cases hl:xs.length=ys.length
     ·rw[E5 xs ys hl,<- hl,zI,beq_self_eq_true,mx]
     ·rw[E6 xs ys hl,beq_false_of_ne hl,Bool.and_false]
    have a:=SeqAt.RcAt.tuples (e:=λj=>bF (xs.getD j .au) (ys.getD j .au)) p1 p2 bw (items k1 k2 t1 t2 r1 r2)
    have b:=SeqAt.RcNeAt.tuples (e:=λj=>bF (xs.getD j .au) (ys.getD j .au)) p1 p2 bw (items k1 k2 t1 t2 r1 r2)
    rw[ev]at a b
    refine⟨a,b,?_⟩
    by_cases qB:p=p'
    ·subst qB
     cases e1.symm.trans e2
     rw[show bF (.tup xs) (.tup ys)=true from Pr n k1 k2 t1 t2 e]
     exact .same _
    ·exact .of_refs qB a
noncomputable def uo:cE:=λx y Q=>(dv 6 x=true/\dv 6 y=true)/\Q (.bl (bF x y))
noncomputable def uq:cE:=λx y Q=>(dv 6 x=true/\dv 6 y=true)/\Q (.bl (!bF x y))
theorem fP(hu:X.A.units+6<cLine):bQ X (compareOp .Eq) uo:=bQ.of λpins s σ H v w u u' Q I rv gb zz=>by
 obtain⟨B,F,aI,δ,ts,x,y,Qd,c,sx,sy,⟨⟨hx,hy⟩,q⟩,k⟩:=zz
 exact(Pz I c.ext 6 x y v w u u' X.A hx hy sx sy rv gb hu).rc _ _ _ _ ⟨.bl _,H,I,rfl,k _ _ _ q (af.refl _) (c.pushS (.bl .nil) rfl)⟩
theorem i6(hu:X.A.units+6<cLine):bQ X (compareOp .NotEq) uq:=bQ.of λpins s σ H v w u u' Q I rv gb zz=>by
 obtain⟨B,F,aI,δ,ts,x,y,Qd,c,sx,sy,⟨⟨hx,hy⟩,q⟩,k⟩:=zz
 exact(Pz I c.ext 6 x y v w u u' X.A hx hy sx sy rv gb hu).ne _ _ _ _ ⟨.bl _,H,I,rfl,k _ _ _ q (af.refl _) (c.pushS (.bl .nil) rfl)⟩
end
end L3
namespace L3
open PySem L2 PySem.Spec PyProof.Rows
section
variable{X:Cx}{F H:Hp}{v w:V}{e a b c o:Expr}{es:List Expr}{pos p p2 apos b9:Pos}{t ta tb tc te:aO}{tr:cC}{x:Str}
theorem bX9{r r':R2}{rd xk:cE}(hl:AI r rd)(DQ:AI r' xk):∀σ H Q,lE (qk rd xk ta tb tc) σ H Q->NT r r' (lB ta) (lB tb) (lB tc) σ H Q:=λσ H Q ⟨B,F,δ,ts,Qd,c,q,k⟩ =>
 ⟨B,F,δ,ts,_,c,q,λx ak v F1 H1 q1 f1 h1 c1 s1=>⟨B,F1,ak,ts,_,c1,q1,λy aW w F2 H2 q2 f2 h2 c2 s2=>by
  refine hl c2 (s1.mono f2 h2) s2 q2 λd z H' hd hs c3=>?_
  obtain⟨b,rfl,qb⟩:=hd
  have st:=c3.top
  cases st with
  | bl _ =>
   refine⟨b,rfl,?_⟩
   cases b with
   | true =>
    refine nO ⟨B,F2,aW,ts,_,c3.pop,by simpa using qb,λz iE w3 F3 H3 q3 f3 h3 c4 s3=>?_⟩
    exact DQ c4 (s2.mono f3 (hs.trans h3)) s3 q3 λd z H' hd hs' c5=>k d iE z F3 H' hd ((f1.trans f2).trans f3) ((((h1.trans h2).trans hs).trans h3).trans hs') c5
   | false=>exact iC (k _ aW _ F2 H' (by simpa using qb) (f1.trans f2) ((h1.trans h2).trans hs) (c3.pop.pushS (.bl .nil) rfl))⟩⟩
theorem ur{op pW:CmpOp}{rd xk:cE}(ho:bQ X (compareOp op) rd)(ki:bQ X (compareOp pW) xk)(ha:PE X a (lB ta))(hb:PE X b (lB tb))(hc:PE X c (lB tc))
  (hm:lastMarks [op,pW] [b,c]=false:=by with_unfolding_all rfl):PE X (.Compare a [op,pW] [b,c] pos) (lE (qk rd xk ta tb tc)):=by
 obtain⟨r,h1,h2⟩:=ho
 obtain⟨r',jU,jq⟩:=ki
 exact dn (X5 h1 jU ha hb hc hm) (bX9 h2 jq)
noncomputable def uu(t:aO):aO:=λδ Q=>t δ λd ah=>match d with
 | .int i=>Q (.int (-i)) ah
 | _=>False
theorem PC(ha:PE X a (lB ta)):PE X (.UnaryOp .USub a pos) (lE (uu ta)):=dn (XO X0 ha) λσ H Q ⟨B,F,δ,ts,Qd,c,q,k⟩=>⟨B,F,δ,ts,_,c,q,λd ak v F1 H1 q1 f1 h1 c1 s1=>by
 cases s1 with
 | int _=>exact⟨_,rfl,k _ ak _ F1 H1 q1 f1 h1 (c1.pushS (.int .nil) rfl)⟩
 | _=>exact q1.elim⟩
noncomputable abbrev i7:=List D->(D->Prop)->Prop
noncomputable def lc(rd:i7):List V->Hp->VK->Prop:=λvs H Q=>∃B F σ δ ts ds Qd,aq B F H σ δ ts/\S F H ds vs/\rd ds Qd/\∀d z H',Qd d->af H H'->aq B F H' σ δ ((d,z)::ts)->Q z H'
noncomputable def gq(X:Cx)(f:Value)(rd:i7):Prop:=fZ X f (lc rd)
theorem gq.of{f:Value}{r:List V->Hp->VK->Prop}{rd:i7}(h:fZ X f r)(m:∀vs H Q,lc rd vs H Q->r vs H Q):gq X f rd:=λpins s σ H xs us Q I r q=>h pins s σ H xs us Q I r (m xs H Q q)
noncomputable def om(rd:i7)(t:cC):aO:=λδ Q=>t δ λds ah=>rd ds λd=>Q d ah
theorem PD{rd:i7}:∀σ H Q,lE (om rd tr) σ H Q->Ea (lc rd) (lA tr) σ H Q:=λσ H Q ⟨B,F,δ,ts,Qd,c,q,k⟩=>⟨B,F,δ,ts,_,c,q,λds ak vs F1 H1 q1 f1 h1 c1 s1 =>
 ⟨B,F1,σ,ak,ts,ds,_,c1,s1,q1,λd z H' hd hs c'=>k d ak z F1 H' hd f1 (h1.trans hs) c'⟩⟩
theorem di{id:String}{rd:i7}(hc:gq X (.builtin id) rd)(hg:Gl X x)(hm:X.mg x=none)(hv:bootBuiltins x=some (.builtin id))(ha:PA X (e::es) (lA tr))(hn:x≠"__name__":=by decide)(dW:(x==("__debug__":Str))=false:=by decide)
  (he:starEach (e::es) X.env=(false,eval e X.env)::starEach es X.env:=by rfl) (bN:(backTo pos (starEach es X.env)).any (·.1)=false:=by rfl):PE X (.Call (.Name x p) (e::es) [] pos) (lE (om rd tr)) :=
 dn (Ap hc hg hm hv ha hn dW he bN) PD
theorem AS{T:String}{rd:i7}(hc:gq X (.type T) rd)(hg:Gl X x)(hm:X.mg x=none)(hv:bootBuiltins x=some (.type T))(ha:PA X (e::es) (lA tr))(hn:x≠"__name__":=by decide)(dW:(x==("__debug__":Str))=false:=by decide)
  (he:starEach (e::es) X.env=(false,eval e X.env)::starEach es X.env:=by rfl) (bN:(backTo pos (starEach es X.env)).any (·.1)=false:=by rfl):PE X (.Call (.Name x p) (e::es) [] pos) (lE (om rd tr)) :=
 dn (YE hc hg hm hv ha hn dW he bN) PD
theorem jY{d:D}{vs:List V}(s:S F H [d] vs):∃v,vs=[v]/\S F H [d] [v]:=by
 obtain⟨v,bS,rfl,h1,h2⟩:=s.cL
 cases h2
 exact⟨v,rfl,h1⟩
theorem cF1{d d':D}{vs:List V}(s:S F H [d,d'] vs):∃v v',vs=[v,v']/\S F H [d] [v]/\S F H [d'] [v']:=by
 obtain⟨v,bS,rfl,h1,h2⟩:=s.cL
 obtain⟨v',rfl,h3⟩:=jY h2
 exact⟨v,v',rfl,h1,h3⟩
theorem jZ{K:PySem.W.Frag}{p:Addr}{ws:List V}(h:Rd H p (.lst ws)):bM K H p ws:=.inl h
noncomputable def qC:i7:=λds Q=>match ds with
 | [.lst _ xs]=>Q (.int xs.length)
 | [.fz xs]=>Q (.int xs.length)
 | [.tup xs]=>Q (.int xs.length)
 | [.str z]=>z.length<=sizeLine/\Q (.int z.length)
 | _=>False
theorem gR:gq X (.builtin "len") qC:=gq.of (Ob.or Y4) λvs H Q zz=>by
 obtain⟨B,F,σ,δ,ts,ds,Qd,c,s,q,k⟩:=zz
 unfold qC at q
 split at q
 ·obtain⟨v,rfl,s1⟩:=jY s
  obtain⟨p,ws,rfl,h,t⟩:=kz s1 c.ext rfl
  refine .inl ⟨p,ws,rfl,.inl (jZ h),?_⟩
  rw[<-t.length]
  exact k _ _ _ q (af.refl _) (c.pushS (.int .nil) rfl)
 ·obtain⟨v,rfl,s1⟩:=jY s
  obtain⟨p,ws,rfl,h,t⟩:=kz s1 c.ext rfl
  refine .inl ⟨p,ws,rfl,.inl (jZ h),?_⟩
  rw[<-t.length]
  exact k _ _ _ q (af.refl _) (c.pushS (.int .nil) rfl)
 ·obtain⟨v,rfl,s1⟩:=jY s
  obtain⟨p,ws,rfl,h,t⟩:=ky s1
  refine .inl ⟨p,ws,rfl,.inr (gX.of h),?_⟩
  rw[<-t.length]
  exact k _ _ _ q (af.refl _) (c.pushS (.int .nil) rfl)
 ·obtain⟨v,rfl,s1⟩:=jY s
  cases s1
  exact .inr ⟨_,rfl,q.1,k _ _ _ q.2 (af.refl _) (c.pushS (.int .nil) rfl)⟩
 ·exact q.elim
noncomputable def qD:i7:=λds Q=>match ds with
 | [.lst _ xs]=>xs.all D.pl=true/\Q (.lst true xs)
 | [.fz xs]=>Q (.lst true xs)
 | [.tup xs]=>xs.all D.pl=true/\Q (.lst true xs)
 | _=>False
theorem AU:gq X (.type "list") qD:=gq.of Y5 λvs H Q zz=>by
 obtain⟨B,F,σ,δ,ts,ds,Qd,c,s,q,k⟩:=zz
 unfold qD at q
 split at q
 ·obtain⟨v,rfl,s1⟩:=jY s
  obtain⟨p,ws,rfl,h,t⟩:=kz s1 c.ext rfl
  exact⟨p,ws,rfl,.inl (jZ h),λl hl=>k _ _ _ q.2 (af.upd hl) (c.nW hl t q.1)⟩
 ·obtain⟨v,rfl,s1⟩:=jY s
  cases s1 with
  | fz h r _=>exact⟨_,_,rfl,.inl (jZ (.inr ⟨_,c.ext _ _ h⟩)),λl hl=>k _ _ _ q (af.upd hl) (c.nW hl r.s r.pl)⟩
 ·obtain⟨v,rfl,s1⟩:=jY s
  obtain⟨p,ws,rfl,h,t⟩:=ky s1
  exact⟨p,ws,rfl,.inr (gX.of h),λl hl=>k _ _ _ q.2 (af.upd hl) (c.nW hl t q.1)⟩
 ·exact q.elim
noncomputable def ii(g:Int->Int->Int):i7:=λds Q=>match ds with
 | [.int i,.int j]=>Q (.int (g i j))
 | _=>False
theorem cG9{f:Value}{g:Int->Int->Int}(h:fZ X f (λxs H Q=>∃i j,xs=[.int i,.int j]/\Q (.int (g i j)) H)):gq X f (ii g):=gq.of h λvs H Q zz=>by
 obtain⟨B,F,σ,δ,ts,ds,Qd,c,s,q,k⟩:=zz
 unfold ii at q
 split at q
 ·obtain⟨v,v',rfl,s1,s2⟩:=cF1 s
  cases s1;cases s2
  exact⟨_,_,rfl,k _ _ _ q (af.refl _) (c.pushS (.int .nil) rfl)⟩
 ·exact q.elim
theorem xm(hc:X.calm=true):gq X (.builtin "min") (ii λi j=>if j<i then j else i):=cG9 (X8 hc)
noncomputable def kC(bs:List Bool):List D:=bs.map D.bl
theorem E8:∀{bs:List Bool} {ws:List V},S F H (kC bs) ws->ws=bs.map V.bl
 | [],_,s=>by cases s;rfl
 | b::bs,_,s=>by
  cases s with
  | bl s=>rw[E8 s];rfl
noncomputable def qE:i7:=λds Q=>match ds with
 | [.lst _ xs]=>∃bs,xs=kC bs/\Q (.bl (bs.all id))
 | _=>False
noncomputable def qF:i7:=λds Q=>match ds with
 | [.lst _ xs]=>∃bs,xs=kC bs/\Q (.bl (bs.any id))
 | _=>False
theorem qG(hc:X.calm=true):gq X (.builtin "all") qE:=gq.of (Z3 hc) λvs H Q zz=>by
 obtain⟨B,F,σ,δ,ts,ds,Qd,c,s,q,k⟩:=zz
 unfold qE at q
 split at q
 ·obtain⟨v,rfl,s1⟩:=jY s
  obtain⟨bs,rfl,q⟩:=q
  obtain⟨p,ws,rfl,h,t⟩:=kz s1 c.ext rfl
  rw[E8 t]at h
  exact⟨p,bs,rfl,jZ h,k _ _ _ q (af.refl _) (c.pushS (.bl .nil) rfl)⟩
 ·exact q.elim
theorem cG2(hc:X.calm=true):gq X (.builtin "any") qF:=gq.of (Z4 hc) λvs H Q zz=>by
 obtain⟨B,F,σ,δ,ts,ds,Qd,c,s,q,k⟩:=zz
 unfold qF at q
 split at q
 ·obtain⟨v,rfl,s1⟩:=jY s
  obtain⟨bs,rfl,q⟩:=q
  obtain⟨p,ws,rfl,h,t⟩:=kz s1 c.ext rfl
  rw[E8 t]at h
  exact⟨p,bs,rfl,jZ h,k _ _ _ q (af.refl _) (c.pushS (.bl .nil) rfl)⟩
 ·exact q.elim
noncomputable def E9:D->Option String
 | .int _=>some "int"
 | .bl _=>some "bool"
 | .au=>some "NoneType"
 | .str _=>some "str"
 | .lst _ _=>some "list"
 | .fz _=>some "list"
 | .tup _=>some "tuple"
 | _=>none
noncomputable def Fc(k n:String):Option Bool:=([("int","int",true),("int","bool",false),("int","list",false),("int","tuple",false),("int","str",false),("bool","int",true),("bool","bool",true),("bool","list",false),("bool","tuple",false),("bool","str",false),
 ("NoneType","int",false),("NoneType","bool",false),("NoneType","list",false),("NoneType","tuple",false),("NoneType","str",false),("str","int",false),("str","bool",false),("str","list",false),("str","tuple",false),("str","str",true),
 ("list","int",false),("list","bool",false),("list","list",true),("list","tuple",false),("list","str",false),("tuple","int",false),("tuple","bool",false),("tuple","list",false),("tuple","tuple",true),("tuple","str",false)].find? λz=>z.1==k&&z.2.1==n).map (·.2.2)
noncomputable def lM(n:String)(d:D):Option Bool:=(E9 d).bind λk=>Fc k n
theorem cy4{K:PySem.W.Frag}{k n:String}{r:Bool}(h:Fc k n=some r):PySem.W.kitOne K (.type k) (.type n)=some r:=by
 unfold Fc at h
 obtain⟨z,hz,rfl⟩:=zJ.mp h
 have hm:=M7 hz
 have hp:=List.find?_some hz
 rw[dZ,beq_iff_eq,beq_iff_eq]at hp
 obtain⟨rfl,rfl⟩:=hp
 simp only[cA,iw,or_false]at hm
 repeat' (rcases hm with hm | hm)
 all_goals rfl
theorem cm0{K:PySem.W.Frag}{d:D}(s:S F H [d] [v])(e:af F H){k:String}(h:E9 d=some k):gZ K H v (.type k):=by
 cases s with
 | int _=>cases h;exact .int _
 | bl _=>cases h;exact .bl _
 | au _=>cases h;exact .au
 | str _=>cases h;exact .str _
 | shr h' _ _=>cases h;exact .lst (e _ _ h')
 | own h' _ _=>cases h;exact .lst h'
 | fz h' _ _=>cases h;exact .bt (e _ _ h')
 | tup h' _ _=>cases h;exact .tup h'
 | obj _ _ _ _=>cases h
 | bE _ _=>cases h
theorem cI6{K:PySem.W.Frag}{d:D}(s:S F H [d] [v])(e:af F H){n:String}{r:Bool}(h:lM n d=some r):∃t,gZ K H v t/\PySem.W.kitOne K t (.type n)=some r:=by
 unfold lM at h
 cases hk:E9 d with
 | none=>rw[hk]at h;cases h
 | some k=>rw[hk]at h;exact⟨_,cm0 s e hk,cy4 h⟩
noncomputable def uv(n:String)(t:aO):aO:=λδ Q=>t δ λd ah=>∃r,lM n d=some r/\Q (.bl r) ah
theorem xn{n:String}{y:Str}{q:Pos}(hg:Gl X "isinstance")(hm:X.mg "isinstance"=none)(Fd:Gl X y)(AV:X.mg y=none)(hv2:bootBuiltins y=some (.type n))(ha:PE X a (lB ta))
  (hn:y≠"__name__":=by decide) (hd:(y==("__debug__":Str))=false:=by decide)
  (hs:starEach [a,.Name y q] X.env=(false,eval a X.env)::starEach [.Name y q] X.env:=by rfl) (fi:starEach [.Name y q] X.env=(false,eval (.Name y q) X.env)::starEach [] X.env:=by rfl) (bN:(backTo pos (starEach [.Name y q] X.env)).any (·.1)=false:=by rfl) :
  PE X (.Call (.Name "isinstance" p) [a,.Name y q] [] pos) (lE (uv n ta)) :=
 dn (Ap ZT hg hm OK (bV ha (bV (ZR Fd AV hv2 hn hd) eU fi) hs) (by decide) (by decide) hs bN) λσ H Q ⟨B,F,δ,ts,Qd,c,q,k⟩=>⟨B,F,δ,ts,_,c,q,λd ak v F1 H1 q1 f1 h1 c1 s1=>by
  obtain⟨r,e,qr⟩:=q1
  obtain⟨t,h2,h3⟩:=cI6 (K:=X.K) s1 c1.ext e
  exact⟨v,n,t,r,rfl,h2,h3,k _ ak _ F1 H1 qr f1 h1 (c1.pushS (.bl .nil) rfl)⟩⟩
theorem Fe{xs:List D}{ws:List V}{i:Int}{d:D}(s:S F H xs ws)(h:eP xs i=some d):∃v,eP ws i=some v/\S F H [d] [v]:=by
 unfold eP at h ⊢
 rw[<-s.length]
 cases e:iA xs.length i with
 | none=>rw[e]at h;cases h
 | some j =>
  rw[e]at h
  exact s.get h
noncomputable def qH(x y:D)(Q:D->Prop):Prop:=match x,y with
 | .lst _ xs,.int i=>∃d,eP xs i=some d/\Q d
 | .fz xs,.int i=>∃d,eP xs i=some d/\Q d
 | .tup xs,.int i=>∃d,eP xs i=some d/\Q d
 | .str z,.int i=>z.length<=sizeLine/\∃ch,eP z.cps.toList i=some ch/\Q (.str ⟨#[ch]⟩)
 | _,_=>False
noncomputable def uw(ta tb:aO):aO:=λδ Q=>ta δ λx ak=>tb ak λy aW=>qH x y λd=>Q d aW
theorem bC(ha:PE X a (lB ta))(hb:PE X b (lB tb))(hs:N6 b):PE X (.Subscript a b pos) (lB (uw ta tb)) :=
 dn (YN YT ha hb hs) λσ H Q ⟨B,F,δ,ts,Qd,c,q,k⟩=>⟨B,F,δ,ts,_,c,q,λx ak v F1 H1 q1 f1 h1 c1 s1=>⟨B,F1,ak,ts,_,c1,q1,λy aW w F2 H2 q2 f2 h2 c2 s2=>by
  have mX:=s1.mono f2 h2
  have fin:∀d z,Qd d aW->S F2 H2 [d] [z]->Q z H2:=λd z hd s=>k d aW z F2 H2 hd (f1.trans f2) (h1.trans h2) c2 s
  unfold qH at q2
  split at q2
  ·obtain⟨d,ed,qd⟩:=q2
   cases s2
   obtain⟨p,ws,rfl,h,t⟩:=kz mX c2.ext rfl
   obtain⟨z,ez,sz⟩:=Fe t ed
   exact .inl ⟨p,ws,_,z,rfl,rfl,jZ h,ez,fin d z qd sz⟩
  ·obtain⟨d,ed,qd⟩:=q2
   cases s2
   obtain⟨p,ws,rfl,h,t⟩:=kz mX c2.ext rfl
   obtain⟨z,ez,sz⟩:=Fe t ed
   exact .inl ⟨p,ws,_,z,rfl,rfl,jZ h,ez,fin d z qd sz⟩
  ·obtain⟨d,ed,qd⟩:=q2
   cases s2
   obtain⟨p,ws,rfl,h,t⟩:=ky mX
   obtain⟨z,ez,sz⟩:=Fe t ed
   exact .inr (.inl ⟨p,ws,_,z,rfl,rfl,gX.of h,ez,fin d z qd sz⟩)
  ·obtain⟨hz,ch,ec,qc⟩:=q2
   cases mX
   cases s2
   exact .inr (.inr ⟨_,_,ch,rfl,rfl,hz,ec,fin _ _ qc (.str .nil)⟩)
  ·exact q2.elim⟩⟩
noncomputable abbrev uz:=Dl->(Option Int->Dl->Prop)->Prop
noncomputable def lP(t:uz):TO:=λσ H Q=>∃B F δ ts Qd,aq B F H σ δ ts/\t δ Qd/\∀o ah F' H',Qd o ah->af F F'->af H H'->aq B F' H' σ ah ts->Q o H'
theorem PF{oe:Option Expr}{u u':TO}(h:PO X oe u)(m:∀σ H Q,u' σ H Q->u σ H Q):PO X oe u':=λpins s σ H Q I q=>h pins s σ H Q I (m σ H Q q)
noncomputable def uA:uz:=λδ Q=>Q none δ
noncomputable def uB(t:aO):uz:=λδ Q=>t δ λd ah=>match d with
 | .int i=>Q (some i) ah
 | _=>False
theorem uC:PO X none (lP uA):=PF YI λσ H Q ⟨B,F,δ,ts,Qd,c,q,k⟩=>k none δ F H q (af.refl _) (af.refl _) c
theorem uD(h:PE X e (lB t)):PO X (some e) (lP (uB t)):=PF (YJ h) λσ H Q ⟨B,F,δ,ts,Qd,c,q,k⟩=>⟨B,F,δ,ts,_,c,q,λd ak v F1 H1 q1 f1 h1 c1 s1=>by
 cases s1 with
 | int _=>exact⟨_,rfl,k _ ak F1 H1 q1 f1 h1 c1⟩
 | _=>exact q1.elim⟩
noncomputable def fj{α:Type}(xs:List α)(lo hi:Option Int):List α:=(xs.drop (HT.c9 xs.length 0 lo)).take (HT.c9 xs.length xs.length hi-HT.c9 xs.length 0 lo)
theorem S.cut{xs:List D}{ws:List V}(s:S F H xs ws)(lo hi:Option Int):S F H (fj xs lo hi) (sR ws lo hi):=by
 unfold fj sR
 rw[<-s.length]
 exact(s.drop _).take _
theorem PH{xs:List D}{p:D->Bool}(h:xs.all p=true)(lo hi:Option Int):(fj xs lo hi).all p=true:=by
 rw[cX]at h ⊢
 intro x hx
 exact h x (pz (sr hx))
noncomputable def uE(t:aO):aO:=λδ Q=>t δ λd ah=>match d with
 | .int i=>Q (.int (Mf.bl i.natAbs:Nat)) ah
 | _=>False
theorem mY(ho:PE X o (lB t))(mJ:attributeBase o "bit_length" X.env (eval o X.env)=eval o X.env:=by rfl)(mK:(apos.endLine==b9.line)=true:=by rfl):PE X (.Call (.Attribute o "bit_length" apos) [] [] b9) (lE (uE t)) :=
 dn (Eu ho mJ mK) λσ H Q ⟨B,F,δ,ts,Qd,c,q,k⟩=>⟨B,F,δ,ts,_,c,q,λd ak v F1 H1 q1 f1 h1 c1 s1=>by
  cases s1 with
  | int _=>exact⟨rfl,_,rfl,rfl,k _ ak _ F1 H1 q1 f1 h1 (c1.pushS (.int .nil) rfl)⟩
  | _=>exact q1.elim⟩
end
end L3
namespace L3
open PySem L2 PySem.Spec PyProof.Rows
section
variable{X:Cx}{F H:Hp}{v w:V}{e a b c o tg:Expr}{es:List Expr}{pos p p2 apos b9 pos':Pos}{t ta tb tc te ti:aO}{tr:cC}{x:Str}{i:Nat}
noncomputable def uF(i:Nat)(t:aO):cM:=λD δ=>(∃xs,δ[i]?=some (some (.lst true xs)))/\t δ λd ah=>∃xs,ah[i]?=some (some (.lst true xs))/\xs.length<sizeLine/\D.nx (ah.set i (some (.lst true (xs++[d]))))
theorem lN(hN:X.N[i]?=some x)(hv:mC X.env.scope x)(he:PE X e (lE t))(hd:(x==("__debug__":Str))=false:=by decide)(cK:(x==("__classdict__":Str))=false:=by decide)
  (mJ:attributeBase (.Name x p) "append" X.env (eval (.Name x p) X.env)=eval (.Name x p) X.env:=by rfl)
  (Ei:((backTo b9 (starEach [e] X.env)).all (λx=>!x.1)&&(backToKw b9 (keywordEach [] X.env)).all (λx=>x.1.isSome)
   && decide ([e].length+([]:List Keyword).length+(if([]:List Keyword).isEmpty then 0 else 1)<30))=true:=by rfl)
  (mK:(apos.endLine==b9.line)=true:=by rfl) (hs:starEach [e] X.env=(false,eval e X.env)::starEach [] X.env:=by rfl) (Ej:(backTo b9 (starEach [] X.env)).any (·.1)=false:=by rfl)
  (qI:swapsWith (.Call (.Attribute (.Name x p) "append" apos) [e] [] b9) none pos.line X.env=pure false:=by rfl) :
  PS X (.Expr (.Call (.Attribute (.Name x p) "append" apos) [e] [] b9) pos) (lS X (uF i t)) :=
 jW (pP (Y8 PySem.F.plainAttrs_list PySem.F.slot_list_append PySem.F.type_list_append Og (sJ hN hv hd cK) (bV he eU hs) mJ Ei mK hs Ej) qI) λEn σ H zz=>by
  obtain⟨B,F,δ,Dd,c,⟨⟨ys,ey⟩,q⟩,k1,k2,k3,k4⟩:=zz
  obtain⟨p0,EO,g1,g2,g3⟩:=c.ownAt ey
  refine⟨.ref p0,g1,.inl ⟨rfl,_,bM.of g2⟩,B,F,δ,[],_,c,q,λd ah v F' H' hd sf sh c'=>?_⟩
  obtain⟨xs,ex,hl,hn⟩:=hd
  obtain⟨p1,ws,r1,r2,r3⟩:=c'.ownAt ex
  rw[g1]at r1;cases r1
  exact⟨p0,ws,v,rfl,rfl,r2,by omega,k1 _ _ F' _ hn (c'.app ex g1 r2)⟩
noncomputable def uG(i:Nat)(te ti:aO):cM:=λD δ=>te δ λd ak=>∃ys,ak[i]?=some (some (.lst true ys))/\qi ti ak λk aW=>match k with
 | .int n=>∃xs j,aW[i]?=some (some (.lst true xs))/\iA xs.length n=some j/\D.nx (aW.set i (some (.lst true (xs.set j d))))
 | _=>False
theorem oo(hN:X.N[i]?=some x)(hv:mC X.env.scope x)(he:PE X e (lE te))(hi:PE X b (lB ti))(hd:(x==("__debug__":Str))=false:=by decide)(cK:(x==("__classdict__":Str))=false:=by decide)
  (ha:∀v,assign (.Subscript (.Name x p) b pos') X.env v=(do
   let ov<-holding [v] (eval (.Name x p) X.env)
   let iv<-holding [v,ov] (eval b X.env)
   standAt pos'
   holding [v,ov,iv] (setItem ov iv v)
   release [v,ov,iv] []):=by intro _;rfl)
  (hs:swapsWithSole [.Subscript (.Name x p) b pos'] e pos.line X.env=pure false:=by rfl) (hw:swappedStores [.Subscript (.Name x p) b pos'] e X.env=pure none:=by rfl)
  (h1:(assignEach [.Subscript (.Name x p) b pos'] X.env).map (·.2)=[assign (.Subscript (.Name x p) b pos') X.env]:=by rfl) :
  PS X (.Assign [.Subscript (.Name x p) b pos'] e pos) (lS X (uG i te ti)) :=
 jW (Xu he (Xt (sJ hN hv hd cK) (dq hi) YX ha) hs hw h1) λEn σ H ⟨B,F,δ,Dd,c,q,k1,k2,k3,k4⟩=>⟨B,F,δ,[],_,c,q,λd ak v F1 H1 hq f1 h1 c1=>by
  obtain⟨ys,ey,hq⟩:=hq
  obtain⟨p0,EO,g1,g2,g3⟩:=c1.ownAt ey
  refine⟨.ref p0,g1,B,F1,ak,[(d,v)],_,c1,hq,λkd aW kv F2 H2 hk f2 h2 c2=>?_⟩
  have st:=c2.top
  split at hk
  ·obtain⟨xs,j,ex,ej,hn⟩:=hk
   cases st
   have c3:=c2.pop
   obtain⟨p1,ws,r1,r2,r3⟩:=c3.ownAt ex
   rw[g1]at r1;cases r1
   exact⟨p0,ws,_,j,rfl,rfl,r2,by rw[<-r3];exact ej,k1 _ _ F2 _ hn (c3.cP3 ex g1 r2 j)⟩
  ·exact hk.elim⟩
end
end L3
namespace L3
open PySem L2 PySem.Spec PyProof.Rows
theorem cT{A:Around}{k:Nat}(hr:bW k A):A.units+6<cLine:=by have:=hr.un;omega
noncomputable def aF(ns:List Int):List D:=ns.map D.int
noncomputable def Ff(o:Obj):Bool:=match o.cls with
 | .type n=>n != "list"
 | _=>true
noncomputable def PJ:bg:=λds Q=>∃ns:List Int,ds=[.fz (aF ns)]/\ns.length<=63/\Q (.bl true)
theorem kD{F H:Hp}:∀ns:List Int,R F H (aF ns) (ns.map V.int) []
 | []=>.nil
 | n::ns=>.int (kD ns)
theorem bJ7{K:PySem.W.Frag}{a:Addr}{o:Obj}(h:K.lookup a=some o):(a,o)∈K:=by
 induction K with
 | nil=>cases h
 | cons p K ih =>
  obtain⟨b,u⟩:=p
  rw[fI]at h
  split at h
  ·rename_i z
   have:a=b:=by simpa using z
   cases h;subst this;simp
  ·exact fU _ (ih h)
end L3
namespace L3
open PySem L2 PySem.Spec PyProof.Rows
section
variable{B:Bs}{F H:Hp}{σ:L2.St}{δ:Dl}{ts ps:List (D × V)}{i k:Nat}{p q:Addr}{l1 l2 ys O5:List D}{ws uk:List V}
end
section
variable{X:Cx}{F H:Hp}{e b:Expr}{pos p pr apos b9 Fg:Pos}{t ti te:aO}{x y:Str}{i j:Nat}
end
end L3
namespace L3
open PySem L2 PySem.Spec PyProof.Rows
theorem xo(i:Int):(D.int i).pl=true:=rfl
theorem xp(i:Bool):(D.bl i).pl=true:=rfl
theorem xq(i:Str):(D.str i).pl=true:=rfl
theorem xt:D.au.pl=true:=rfl
theorem xu(xs:List D):(D.fz xs).pl=true:=rfl
theorem xv(C:Addr)(ns:List Str)(xs:List D):(D.obj C ns xs).pl=true:=rfl
theorem xw(i:Int):(D.int i).fr=true:=rfl
theorem xx(i:Bool):(D.bl i).fr=true:=rfl
theorem xy(i:Str):(D.str i).fr=true:=rfl
theorem xB:D.au.fr=true:=rfl
theorem oq(i:Int):(D.int i).sh=.int i:=rfl
theorem xC(i:Bool):(D.bl i).sh=.bl i:=rfl
theorem xD(i:Str):(D.str i).sh=.str i:=rfl
theorem xE:D.au.sh=.au:=rfl
theorem xF(xs:List D):(D.fz xs).sh=.fz xs:=rfl
theorem xG(C:Addr)(ns:List Str)(xs:List D):(D.obj C ns xs).sh=.obj C ns xs:=rfl
theorem xH{α:Type}(n:Nat)(x:α):(bj n [x]).flatten=bj n x:=by
 induction n with
 | zero=>rfl
 | succ n ih=>rw[ph,rZ,ih];rfl
theorem kE(ns:List Int):(aF ns).length=ns.length:=by simp[aF]
theorem mZ(ns:List Int):(aF ns).all D.pl=true:=by simp[aF,D.pl]
theorem qJ(ns:List Int):(aF ns).all D.fr=true:=by simp[aF,D.fr]
theorem j3(ns:List Int):(aF ns).map D.sh=aF ns:=by simp[aF,D.sh]
theorem qK(a b:List Int):aF a++aF b=aF (a++b):=by simp[aF]
theorem xI(n:Nat)(i:Int):bj n (D.int i)=aF (bj n i):=by simp[aF]
theorem qL(n:Nat)(i:Int):dv n (.int i)=true:=by cases n<;>rfl
theorem xJ(n:Nat)(i:Bool):dv n (.bl i)=true:=by cases n<;>rfl
theorem xK(n:Nat)(i:Str):dv n (.str i)=true:=by cases n<;>rfl
theorem kF(i j:Int):bF (.int i) (.int j)=decide (i=j):=by
 show(i==j)=_
 rw[Bool.beq_eq_decide_eq]
theorem PK:∀(a b:List Int),bF.fO (aF a) (aF b)=decide (a=b)
 | [],[]=>rfl
 | [],_::_=>by simp[aF,bF.fO]
 | _::_,[]=>by simp[aF,bF.fO]
 | x::xs,y::ys=>by
  show(bF (.int x) (.int y)&&bF.fO (aF xs) (aF ys))=_
  rw[PK xs ys,kF,sj];simp
theorem uH(o o':Bool)(a b:List Int):bF (.lst o (aF a)) (.lst o' (aF b))=decide (a=b):=PK a b
theorem PL{ns:List Int}{k:Nat}(h:k<ns.length):(aF ns)[k]?=some (.int ns[k]):=by simp[aF,h]
theorem lQ{ns:List Int}{k:Int}(h0:0<=k)(h:k<ns.length):eP (aF ns) k=some (.int (ns.getD k.toNat 0)):=by
 unfold eP iA
 rw[if_pos h0,kE,if_pos h]
 show(aF ns)[k.toNat]?=_
 have hk:k.toNat<ns.length:=by omega
 rw[PL hk,aY,aS hk];rfl
theorem uI(ns:List Int)(lo hi:Option Int):fj (aF ns) lo hi=aF (fj ns lo hi):=by simp[fj,aF,M8,M9]
theorem xM(i:Int):lM "int" (.int i)=some true:=by rfl
theorem xN(i:Int):lM "bool" (.int i)=some false:=by rfl
theorem xO(i:Int):lM "list" (.int i)=some false:=by rfl
theorem xP(o:Bool)(xs:List D):lM "list" (.lst o xs)=some true:=by rfl
theorem xQ:lM "int" .au=some false:=by rfl
theorem xR(x:Str):lM "str" (.str x)=some true:=by rfl
theorem xS(xs:List D):lM "tuple" (.tup xs)=some true:=by rfl
theorem sL:sizeLine=16777216:=rfl
theorem xT{p:Prop}[Decidable p]:(decide p=true)=p:=by simp
theorem cp1{α:Type}(xs:List α)(a b:Nat):fj xs (some (a:Int)) (some (b:Int))=(xs.drop a).take (b-a):=by
 unfold fj
 rw[HT.Eb,HT.Eb]
 by_cases h:a<=xs.length
 ·rw[Nat.min_eq_left h]
  apply Na
  intro i
  rw[Wq,Wq,Nb]
  by_cases hi:i<b-a
  ·rw[if_pos hi]
   by_cases hb:a+i<xs.length
   ·rw[if_pos (by omega)]
   ·rw[gJ (by omega)];simp
  ·rw[if_neg hi,if_neg (by omega)]
 ·rw[Nat.min_eq_right (show xs.length<=a by omega),Nc (bK _),Nc (show xs.length<=a by omega)];simp
end L3
namespace L2
open PySem PySem.Spec PyProof.Rows
section
variable{X:Cx}{e:Expr}{te:TE}{lo hi:Option Expr}{st:Expr}{tl th ts:TO}{pos p2:Pos}
theorem PM(ns:List Int):∀k,k<=ns.length->preSum (λi=>ns.getD i 0) k=(ns.take k).sum
 | 0,_=>rfl
 | k+1,h=>by
  show preSum (λi=>ns.getD i 0) k+ns.getD k 0=_
  rw[PM ns k (by omega),mw,aS (by omega),List.sum_append,aY,aS (by omega)]
  simp
theorem bY2(hc:X.calm=true):fZ X (.builtin "sum") (λxs H Q=>∃(p:Addr) (ns:List Int),xs=[.ref p]/\bM X.K H p (ns.map V.int)/\Q (.int ns.sum) H):=by
 intro pins s σ H xs us Q I r h
 obtain⟨p,ns,rfl,hS,q⟩:=h
 obtain⟨u,rfl,ru⟩:=r.one
 cases ru
 obtain⟨its,rv,pl,hz⟩:=I.list hS
 have hi:=YH rv
 have hlen:ns.length=its.length:=by have:=rv.length;simpa using this
 have hl:=pl.isList
 have fA:p<s.heap.objs.size:=by obtain⟨_,e,_⟩:=hl;exact bP e
 refine call_sum_walkG (wpAny_pyIter_list hl ?_)
 refine⟨s.heap.objs.size,[s.heap.objs.size,p],[s.heap.objs.size],its.toArray.size,_,_,λi=>ns.getD i 0,rfl,Dr (A:=X.A.in1) (I.ok.hd hc) _ p (eZ fA) its.toArray,
  ⟨⟨_,gx _ rfl,rfl,rfl⟩,hl.push _⟩,λb hb=>?_,λi v hP=>?_,λh' tk t' hk=>?_⟩
 ·simp only[rT]
  rcases cA.mp hb with rfl | hb
  ·exact zC _
  ·rw[fv.mp hb];exact Nd fA
 ·have e:its[i]?=some v:=by simpa using hP
  obtain⟨x,ex,q2⟩:∃x,(ns.map V.int)[i]?=some x/\RelV x v:=by
   have gz:i<its.length:=(jk.mp e).1
   obtain⟨u,e2,q2⟩:=rv.get (i:=i) (x:=V.int ns[i]) (by rw[bZ,aS (by omega)];rfl)
   rw[e]at e2;cases e2
   exact⟨_,by rw[bZ,aS (by omega)];rfl,q2⟩
  rw[bZ]at ex
  obtain⟨n,en,rfl⟩:=zJ.mp ex
  obtain⟨t,rfl⟩:=q2
  exact⟨t,by show nC n t=nC (ns.getD i 0) t;rw[aY,en];rfl⟩
 ·rw[dD,<- hlen,PM ns _ (bK _),sq]
  exact⟨.int _,H,I.kept (h':=h') (t':=tk) (AA hk),⟨_,rfl⟩,q⟩
end
end L2
namespace L3
open PySem L2 PySem.Spec PyProof.Rows
section
variable{X:Cx}{F H:Hp}{e:Expr}{t:aO}{lo hi:Option Expr}{st:Expr}{tl th td:uz}{pos p2:Pos}
theorem Fh:∀{a:List Int} {ws:List V},S F H (aF a) ws->ws=a.map V.int
 | [],_,s=>by cases s;rfl
 | b::bs,_,s=>by
  cases s with
  | int s=>rw[Fh s];rfl
noncomputable def m3:i7:=λds Q=>match ds with
 | [.lst _ xs]=>∃a,xs=aF a/\Q (.int a.sum)
 | _=>False
theorem cG4(hc:X.calm=true):gq X (.builtin "sum") m3:=gq.of (bY2 hc) λvs H Q zz=>by
 obtain⟨B,F,σ,δ,ts,ds,Qd,c,s,q,k⟩:=zz
 unfold m3 at q
 split at q
 ·obtain⟨v,rfl,s1⟩:=jY s
  obtain⟨a,rfl,q⟩:=q
  obtain⟨p,ws,rfl,h,t⟩:=kz s1 c.ext rfl
  rw[Fh t]at h
  exact⟨p,a,rfl,jZ h,k _ _ _ q (af.refl _) (c.pushS (.int .nil) rfl)⟩
 ·exact q.elim
noncomputable def Fj:Expr->Option Int
 | .Constant (.int i) _ _=>some i
 | _=>none
noncomputable def AW:List Expr->Option (List Int)
 | []=>some []
 | e::es=>(Fj e).bind λi=>(AW es).map (i :: ·)
theorem b64{e:Expr}{i:Int}(h:Fj e=some i):∃a b,e=.Constant (.int i) a b:=by
 cases e with
 | Constant c a b =>
  cases c with
  | int j=>cases h;exact⟨_,_,rfl⟩
  | _=>cases h
 | _=>cases h
noncomputable def cI3(ns:List Int):cC:=λδ Q=>Q (aF ns) δ
theorem PN:∀(es:List Expr) (ns:List Int),AW es=some ns->PA X es (lO (cI3 ns))
 | [],ns,h=>by cases h;exact cF
 | e::es,ns,h=>by
  obtain⟨i,hi,h2⟩:=Option.bind_eq_some_iff.mp (show(Fj e).bind (λi=>(AW es).map (i :: ·))=some ns from h)
  obtain⟨ms,hm,rfl⟩:=zJ.mp h2
  obtain⟨a,b,rfl⟩:=b64 hi
  exact wZ (cq (ao (i:=i)) (PN es ms hm)) λ_ _ _ q=>q
noncomputable def uJ(ns:List Int):aO:=λδ Q=>ns.length<=sizeLine/\Q (.lst true (aF ns)) δ
theorem PQ{es:List Expr}{ns:List Int}(h:AW es=some ns):PE X (.List es pos) (lE (uJ ns)) :=
 dn (dP (PN es ns h)) λ_ _ _ ⟨B,F,δ,ts,Qd,c,q,k⟩=>⟨B,F,δ,ts,Qd,c,by
  show(aF ns).length<=sizeLine/\_
  rw[kE];exact q,k⟩
theorem b17{ns:List Int}(h:0<ns.length):eP (aF ns) (-1)=some (.int (ns.getD (ns.length-1) 0)):=by
 unfold eP iA
 rw[if_neg (by decide),kE,if_pos (by omega)]
 have hk:((-1:Int)+ns.length).toNat=ns.length-1:=by omega
 show(aF ns)[((-1:Int)+ns.length).toNat]?=_
 rw[hk,PL (by omega),aY,aS (by omega)];rfl
theorem xU{n:Nat}{g:hW}{tb:cM}{En:tf}{δ:Dl}(Iv:Nat->Dl->Prop)(h0:Iv 0 δ)(ht:∀k ah,k<n->Iv k ah->g (.int k) ah λaW=>tb { En with nx:=Iv (k+1),ct:=Iv (k+1),bk:=En.nx } aW)
  (hf:∀ah,Iv n ah->En.nx ah):gh (su (λ(k:Nat)=>D.int (0+(k:Int))) (aL (n:Int).toNat)) g tb En δ:=by
 rw[gy]
 refine gh.mk Iv h0 (λi d ah hd iv=>?_) λah iv=>hf ah (by simpa using iv)
 rw[bZ]at hd
 obtain⟨k,hk,rfl⟩:=zJ.mp hd
 have hi:i<n:=by have:=(jk.mp hk).1;simpa using this
 rw[kg hi]at hk
 cases hk
 rw[Nf]
 exact ht i ah hi iv
theorem mF{xs:List D}{k:Int}{d:D}(h0:0<=k)(h:xs[k.toNat]?=some d):eP xs k=some d:=by
 unfold eP iA
 have hk:k.toNat<xs.length:=(jk.mp h).1
 rw[if_pos h0,if_pos (by omega)]
 exact h
end
end L3
namespace L3
open PySem L2 PySem.Spec PyProof.Rows
noncomputable abbrev ot:=List D->(D->Prop)->(Addr->Prop)->Prop
noncomputable def xV(sp:ot):Sp:=λvs H Q E=>∃F ds Qd Ed,af F H/\R F H ds vs []/\sp ds Qd Ed/\(∀d v F' H' A,Qd d->af H H'->af F F'->af F' H'->(∀a ws,F' a=some (.lst ws)->F a=some (.lst ws)\/H a=none)->R F' H' [d] [v] A->A.Nodup->(∀a∈A,H a=none)->Q v H') /\
 ∀C H',Ed C->af H H'->E (.ref C) none H'
section
variable{P:Program}{w:World}{K:PySem.W.Frag}{mg:Str->Option Value}{base:Heap}
theorem PR{x qual:Str}{st:Stmt}{f:Addr}{fd:FuncData}{N ps:List Str}{k:Nat}{sp:ot}(F:ax K x qual st f fd)(S:aZ N ps (aK st))(len:∀ds Q E,sp ds Q E->ds.length=ps.length)
  (gO:∀(aD:Value) (A:Around) (outer:List Env) (s:Shared) (H:Hp) (E:XK),bW k (A.deeper (envOfC qual (aK st) s.heap.objs.size f aD)) ->
   ∃t:cM,PSs (iz (mO P w) P w K mg base N qual (aK st) f aD A outer s H E) (fw st) (lS (iz (mO P w) P w K mg base N qual (aK st) f aD A outer s H E) t) /\
    ∀ds Q Ex,sp ds Q Ex->t { nx:=λ_=>Q .au,rt:=Q,xc:=λC _=>Ex C,xr:=λC _=>Ex C } (ku N ds)):aM P w K mg base (mO P w) (k+1) f fd ps (xV sp):=by
 obtain⟨oc,od,kV,doc,pm,an,aD,ct,g5,rfl,lk,cK⟩:=F.ex
 refine Ao lk cK S (λvs H Q E ⟨F,ds,Qd,Ed,e,r,h,_⟩=>by rw[<-r.length];exact len ds Qd Ed h) λA outer s H vs Q E hr zz=>?_
 obtain⟨F,ds,Qd,Ed,e,r,h,k,kx⟩:=zz
 obtain⟨t,ht,hq⟩:=gO aD A outer s H E hr
 have fin:∀d v ah aI F' H',Qd d->aq ⟨H,F⟩ F' H' aI ah [(d,v)]->Q v H':=λd v ah aI F' H' hd c=>by
  obtain⟨A,C,r',s',nd,fr⟩:=c.own
  exact k d v F' H' A hd c.b1 c.b2 c.ext c.b3 r' (hV.mp nd).1 λa ha=>fr a (eR _ ha)
 have e1:L2.start N vs=vs.map some++bj (N.length-ds.length) none:=by unfold L2.start;rw[r.length]
 refine⟨_,ht,⟨H,F⟩,F,ku N ds,_,?_,hq ds Qd Ed h,λah aI F' H' hd c=>fin .au .au ah aI F' H' hd (c.pushS (.au .nil) rfl),fin,λ_ _ _ _ z=>z.elim,λ_ _ _ _ z=>z.elim,λC ah pins aI F' H' s' a T hx c I tr pa pT=>?_,λC ah pins aI F' H' s' h' e vs hx c I hm=>?_⟩
 ·rw[e1]
  exact aq.start e r _
 ·exact η I rfl rfl rfl tr pa pT λh' T' g=>⟨a,T',.ref C,H',rfl,I.os,I.bare,g.un,g.aJ,g.wR,g.a0,g.a1,g.t0,g.t1,kx C H' hx c.b1⟩
 ·exact θ I rfl rfl rfl hm λh' T' g=>⟨e,T',.ref C,H',rfl,I.os,I.bare,g.un,g.aJ,g.wR,g.a0,g.a1,g.t0,g.t1,kx C H' hx c.b1⟩
end
section
variable{X:Cx}{n:Nat}{f:Addr}{fd:FuncData}{ps:List Str}{sp:ot}{x:Str}{p pos:Pos}{e:Expr}{es:List Expr}{t:cC}{tx:d70}
noncomputable def uK(t:cM):cM:=λD δ=>t { D with xc:=λ_ _=>False,xr:=λ_ _=>False } δ
theorem cE8{st:Stmt}{u:cM}(h:PS X.fY st (lS X.fY u)):PS X st (lS X (uK u)):=by
 intro pins s σ H D I zz
 obtain⟨B,F,δ,Dd,c,q,k1,k2,k3,k4,xl⟩:=zz
 exact wpAny_mono (h pins s σ H D (I.jR _) ⟨B,F,δ,_,c,q,k1,k2,k3,k4,XL.none (λ_ _ z=>z) λ_ _ z=>z⟩) (λ_ _ q=>q.kY) λ_ _ z=>fH z
noncomputable def uL(C:Addr)(t:cC):cM:=λD δ=>t δ λds ah=>ds.length<=9/\D.xr C ah
structure Fl(K:PySem.W.Frag)(mg:Str->Option Value)(x:Str)(C:Addr):Prop where
 own:∀h:Heap,K.In h->h.Ns mainGlobals mg->∃newId Bn PU PV B PX PY AX,OwnCls x C AX newId mg h/\ExcBaseFacts Bn newId PU PV/\AX.contains (.type Bn)=true/\ExcBaseFacts B PX PY AX
theorem PZ{C:Addr}{np b9:Pos}(hm:Fl X.K X.mg x C)(hc:X.calm=true)(hg:Gl X x)(ha:PA X (e::es) (lA t))(dW:(x==("__debug__":Str))=false:=by decide)
  (he:starEach (e::es) X.env=(false,eval e X.env)::starEach es X.env:=by rfl) (bN:(backTo b9 (starEach es X.env)).any (·.1)=false:=by rfl) :
  PS X (.Raise (some (.Call (.Name x np) (e::es) [] b9)) none pos) (lS X (uL C t)):=by
 intro pins s σ H D I zz
 obtain⟨B,F,δ,Dd,c,q,k1,k2,k3,k4,xl⟩:=zz
 obtain⟨newId,Bn,PU,PV,B',PX,PY,AX,O,Fn,hBn,FB⟩:=hm.own X.base I.ok.mod.mB I.ok.mod.glob
 obtain⟨tl,N,nm,qn,bs,hdct,sn,sub,ab,col,dd,k0,qA,um,k3',k5,mN,hC,hN,lR,T⟩:=O.obj
 refine wpAny_Raise_call_subU (k5:=k5) (k3:=k3') (k2:=um) (k1:=qA) (k0:=k0) (dd:=dd) (col:=col) (ab:=ab) (sub:=sub) (sn:=sn) (hdct:=hdct) (bs:=bs) (N:=N) (q:=qn) (nm:=nm) (C:=C) Fn hBn FB (mN:=mN) (T.hasType FB.hasBase) (I.ok.hd hc) (by rw[he];show(false||(backTo b9 (starEach es X.env)).any (·.1))=false;rw[bN];rfl) lR (wm I hg O.bound ⟨rfl,?_⟩ dW)
 have AY:=ha b9 pins s σ H (λvs H1=>vs.length<=9/\∃ah F',Dd.xr C ah/\aq B F' H1 σ ah []) I ⟨B,F,δ,[],_,c,q,λds ak vs F1 H1 q1 f1 h1 c1 s1=>⟨by rw[<-s1.length];exact q1.1,ak,F1,q1.2,c1⟩⟩
 rw[he]at AY ⊢
 refine Calls.evalArgs_plain (wpAny_mono AY (λus s2 h2=>?_) λ_ _ y=>y)
 obtain⟨vs,H1,I1,r,hl,ah,F',hx,c'⟩:=h2
 exact⟨rfl,by rw[<-r.length];exact fg hl (by decide),I1.bk _ _ hC,hN.keeps I1.bk,T.keeps I1.bk,λh' e' hm'=>xl.2 C ah pins σ F' H1 s2 h' e' _ hx c' I1 hm'⟩
end
end L3
namespace L3
open PySem L2 PySem.Spec PyProof.Rows
section
variable{X:Cx}{pins DR:List (Addr × Obj)}{σ:L2.St}{H:Hp}{s:Shared}{a:Addr}
end
section
variable{X:Cx}{tb th:cM}{body cT7:List Stmt}{cT8:Stmt}{K n:Str}{Kc:Addr}{i:Nat}{kp cT9 pos:Pos}
end
end L3
namespace L3
open PySem L2 PySem.Spec PyProof.Rows
noncomputable def P0:V->Option Value
 | .ref a=>some (.ref a)
 | .ty n=>some (.type n)
 | _=>none
theorem cn2{c:V}{u cv:Value}(h:P0 c=some cv)(r:RelV c u):u=cv:=by
 cases c<;>cases h<;>exact r
inductive Fm(K:PySem.W.Frag)(H:Hp):V->Value->Prop where
 | ty {v:V} {t:Value} (h:gZ K H v t):Fm K H v t
 | exc {a C:Addr} (e:H a=some (.ext (AD a C))) (x:EB K C):Fm K H (.ref a) (.ref C)
noncomputable def cM3(K:PySem.W.Frag):List V->Hp->VK->Prop:=λxs H Q=>∃x c cv t b,xs=[x,c]/\P0 c=some cv/\Fm K H x t/\PySem.W.kitOne K t cv=some b/\Q (.bl b) H
section
variable{X:Cx}{F H:Hp}{v:V}{a:Expr}{ta:aO}{p pos:Pos}
theorem b01:fZ X (.builtin "isinstance") (cM3 X.K):=by
 intro pins s σ H xs us Q I r h
 obtain⟨x,c,cv,t,b,rfl,hv,ty,e,q⟩:=h
 obtain⟨u,v,rfl,ru,rv⟩:=r.two
 cases cn2 hv rv
 cases ty with
 | ty ty=>exact NW I ru ty e λtk=>⟨.bl b,H,I.tok _,rfl,q⟩
 | @exc a C ea x =>
  cases(show u=cN a from ru)
  obtain⟨xa,_,_⟩:=(show dU X.prog X.w H s.heap a (.ext (AD a C)) from I.aJ a _ ea)
  exact PySem.W.kia_one (υ x) I.cY xa e (λz=>nomatch z) λtk=>⟨.bl b,H,I.tok _,rfl,q⟩
end
section
variable{K:PySem.W.Frag}{mg:Str->Option Value}{x:Str}{C:Addr}
theorem cx3(hm:mg x=some (.ref C))(q:PySem.W.excIn K C [.type "ValueError",.type "Exception",.type "BaseException",.type "object"] "ValueError.__new__"=true):Fl K mg x C:=by
 refine⟨λh X G=>⟨"ValueError.__new__","ValueError",_,_,"ValueError",_,_,[.type "ValueError",.type "Exception",.type "BaseException",.type "object"],?_,PySem.F.excBase_ValueError,rfl,PySem.F.excBase_ValueError⟩⟩
 refine⟨hm,?_⟩
 unfold PySem.W.excIn at q
 split at q
 ·rename_i dd cd sl ho
  split at q
  ·rename_i C' bm k0 k1 k2 k3 n k5 hm hs
   simp only[dZ,beq_iff_eq,Bool.not_eq_true']at q
   obtain⟨⟨⟨⟨⟨rfl,rfl⟩,P1⟩,ht⟩,aJ⟩,lR⟩:=q
   obtain⟨nm,bs,mro,ns,qn,hd,sn,sub,ab,col,del⟩:=cd
   dsimp only at hm P1 aJ lR
   subst hm P1
   have hsl:sl=#[k0,k1,k2,k3,some (.builtin "ValueError.__new__"),k5]:=by
    obtain⟨l⟩:=sl
    simp only at hs
    rw[hs]
   subst hsl
   exact⟨bm,ns,nm,qn,bs,hd,sn,sub,ab,col,dd,k0,k1,k2,k3,k5,_,X _ _ ho,.of_isNs (PySem.W.isNs_of_in X aJ),PySem.W.nsMap_none_of_in X aJ lR,PySem.W.tail_of_in X ht⟩
  ·cases q
 ·cases q
open PySem.W in
theorem xW{t:Value}{b:Bool}(lD:(t==.ref C)=false)(h1:(clsIn K C).isSome=true)(h2:typeIn K (.ref C)=some (.type "type"))(h3:subIn K t (.ref C)=some b):kitOne K t (.ref C)=some b:=by
 unfold kitOne kitCls
 rw[lD]
 simp only[sk,if_false]
 rw[h1,h2,if_pos (by rfl),h3]
end
theorem Fo{P:Program}{w:World}{X:Cx}:jT (mO P w) X E0:=by
 rintro _ _ _ _ _ _ _ ⟨_,_,_,_,_,_,_,_,_,_,_,_,_,_,z⟩
 exact z.elim
theorem Fp{P:Program}{w:World}{K:PySem.W.Frag}{mg:Str->Option Value}{base:Heap}{k:Nat}{f:Addr}{fd:FuncData}{ps:List Str}{sp:ot}(h:aM P w K mg base (mO P w) k f fd ps (xV sp)) :
  aM P w K mg base (mO P w) k f fd ps (bh λds Q=>sp ds Q λ_=>False) :=
 h.imp λvs H Q E ⟨F,ds,Qd,e,r,q,k⟩=>⟨F,ds,Qd,_,e,r,q,k,λ_ _ z=>z.elim⟩
end L3
namespace L3
open PySem L2 PySem.Spec PyProof.Rows
theorem xX{CX:eO}{P:Program}{w:World}{K:PySem.W.Frag}{mg:Str->Option Value}{base:Heap}{N:List Str}{q:Str}{sc:Scope}{f:Addr}{aD:Value}{A:Around}{outer:List Env}{s:Shared}{H:Hp}{E:XK}:(iz CX P w K mg base N q sc f aD A outer s H E).K=K:=rfl
theorem xY(φ:s8):(D.bE φ).pl=true:=rfl
theorem xZ(φ:s8):(D.bE φ).sh=.bE φ:=rfl
end L3
namespace L3
open PySem L2 PySem.Spec PyProof.Rows
theorem x6{X:Cx}:X.fY.K=X.K:=rfl
end L3
namespace L3
open PySem L2 PySem.Spec PyProof.Rows
noncomputable def eC(xs ys:List D):List D:=cP (λx y=>D.tup [x,y]) xs ys
noncomputable def fC(xs:List D):List D:=xs.mapIdx λi x=>D.tup [.int i,x]
theorem P2(xs ys:List D):(eC xs ys).map D.sh=eC (xs.map D.sh) (ys.map D.sh):=by
 unfold eC
 rw[DA,DB]
 congr 1
theorem co7{xs ys:List D}(h1:xs.all D.pl=true)(h2:ys.all D.pl=true):(eC xs ys).all D.pl=true:=by
 unfold eC
 rw[cX]at h1 h2 ⊢
 intro d hd
 obtain⟨i,hi,e⟩:=ke hd
 rw[List.getElem_zipWith]at e
 subst e
 rw[kr]
 simp only[dh,sA,mx,dZ]
 exact⟨h1 _ (dN _),h2 _ (dN _)⟩
theorem ca8(xs:List D):(fC xs).map D.sh=fC (xs.map D.sh):=by
 unfold fC
 apply Na
 intro i
 simp only[bZ,zK,Option.map_map]
 cases xs[i]? with
 | none=>rfl
 | some x =>
  show some (D.sh (.tup [.int i,x]))=some (D.tup [.int i,x.sh])
  rw[lF];rfl
theorem b96{xs:List D}(h1:xs.all D.pl=true):(fC xs).all D.pl=true:=by
 unfold fC
 rw[cX]at h1 ⊢
 intro d hd
 obtain⟨i,hi,e⟩:=ke hd
 rw[List.getElem_mapIdx]at e
 subst e
 rw[kr]
 simp only[dh,sA,mx,dZ]
 exact⟨rfl,h1 _ (dN _)⟩
theorem qM(xs:List D):(fC xs).length=xs.length:=by simp[fC]
theorem Fq(xs ys:List D):(eC xs ys).length=min xs.length ys.length:=by simp[eC]
section
variable{F H:Hp}{d:D}{v:V}{xs ys:List D}{ws us:List V}{p q:Addr}{K:PySem.W.Frag}
theorem Fs(s:S F H [d] [v])(e2:af F H)(e:jX d=some xs):∃p ws,v=.ref p/\Rd H p (.lst ws)/\R H H (xs.map D.sh) ws []/\(d.pl=true->xs.all D.pl=true/\Rd F p (.lst ws)/\R F H xs ws []):=by
 cases s with
 | @shr p ws ys _ _ hp r _ =>
  obtain rfl:=cO e
  refine⟨p,ws,rfl,.inl (e2 _ _ hp),?_,λ_=>⟨r.pl,.inl hp,r⟩⟩
  rw[lH r.pl]
  exact r.shared e2 (af.refl _)
 | @own p ws ys _ _ hp r _ =>
  obtain rfl:=cO e
  exact⟨p,ws,rfl,.inl hp,r.frozen e2,λz=>by simp[fK]at z⟩
 | @fz p o ws ys _ _ hp r _ =>
  obtain rfl:=cO e
  refine⟨p,ws,rfl,.inr ⟨o,e2 _ _ hp⟩,?_,λ_=>⟨r.pl,.inr ⟨o,hp⟩,r⟩⟩
  rw[lH r.pl]
  exact r.shared e2 (af.refl _)
 | au _=>cases e
 | bl _=>cases e
 | int _=>cases e
 | str _=>cases e
 | tup _ _ _=>cases e
 | obj _ _ _ _=>cases e
 | bE _ _=>cases e
theorem Ft(r:R F H xs ws []){i:Nat}(hi:i<xs.length){x:V}(hx:ws[i]?=some x):R F H [xs[i]] [x] []:=by
 obtain⟨v,A1,e2,r1,sub⟩:=r.get (aS hi)
 rw[hx]at e2;cases e2
 have:A1=[]:=Wm.mpr λa ha=>by simpa using sub ha
 subst this
 exact r1
theorem P4(hp:Rd F p (.lst ws))(r:R F H xs ws [])(hq:Rd F q (.lst us))(t:R F H ys us [])(hF:Full F H):JD (EC K p q) F (eC xs ys) where
 go:=λi H' hs hi=>by
  rw[Fq]at hi
  have l1:=r.length
  have l2:=t.length
  exact⟨ws,us,_,_,.inl (iD hp hs),.inl (iD hq hs),aS (show i<ws.length by omega),aS (show i<us.length by omega)⟩
 jS:=λi H' v H2 hs hi zz=>by
  obtain⟨T,x,y,e1,e2,e3,hx,hy⟩:=zz
  subst e1 e3
  have x8:=hi
  rw[Fq]at x8
  have h1:=Ft (r.full hF hs rfl) (show i<xs.length by omega) (hx ws (.inl (iD hp hs)))
  have h2:=Ft (t.full hF hs rfl) (show i<ys.length by omega) (hy us (.inl (iD hq hs)))
  have sm:=af.upd (o:=.tup [x,y]) e2
  refine⟨_,aS hi,sm,?_⟩
  have eg:(eC xs ys)[i]=.tup [xs[i]'(by omega),ys[i]'(by omega)]:=by simp[eC]
  rw[eg]
  exact R.tup (A:=[]) (B:=[]) bL ((h1.shared (af.refl _) sm).cons (h2.shared (af.refl _) sm)) .nil
 stop:=λi H' hs hi=>by
  rw[Fq]at hi
  have l1:=r.length
  have l2:=t.length
  exact⟨ws,us,.inl (iD hp hs),.inl (iD hq hs),by omega⟩
theorem P5(hp:Rd F p (.lst ws))(r:R F H xs ws [])(hF:Full F H):JD (EH K p) F (fC xs) where
 go:=λi H' hs hi=>by
  rw[qM]at hi
  have l1:=r.length
  exact⟨ws,_,.inl (iD hp hs),aS (show i<ws.length by omega)⟩
 jS:=λi H' v H2 hs hi zz=>by
  obtain⟨T,x,e1,e2,e3,hx⟩:=zz
  subst e1 e3
  have x8:=hi
  rw[qM]at x8
  have h1:=Ft (r.full hF hs rfl) x8 (hx ws (.inl (iD hp hs)))
  have sm:=af.upd (o:=.tup [.int i,x]) e2
  refine⟨_,aS hi,sm,?_⟩
  have eg:(fC xs)[i]=.tup [.int i,xs[i]]:=by simp[fC]
  rw[eg]
  exact R.tup (A:=[]) (B:=[]) bL (.int (h1.shared (af.refl _) sm)) .nil
 stop:=λi H' hs hi=>by
  rw[qM]at hi
  have l1:=r.length
  exact⟨ws,.inl (iD hp hs),by omega⟩
end
section
variable{X:Cx}{a b:Expr}{ta:cC}{p pos pY:Pos}{elts:List Expr}{x1:Nat}
noncomputable def uM(t:cC):iY:=λδ Q=>t δ λds ah=>match ds with
 | [d1,d2]=>∃xs ys,jX d1=some xs/\jX d2=some ys/\Q (d1.pl&&d2.pl) (eC xs ys) ah
 | _=>False
theorem uN(hg:Gl X "zip")(hm:X.mg "zip"=none)(ha:PA X [a,b] (lA ta))(hs:starEach [a,b] X.env=[(false,eval a X.env),(false,eval b X.env)]:=by rfl)(fi:starEach [b] X.env=[(false,eval b X.env)]:=by rfl) :
  PI X (.Tuple elts x1 pY) (.Call (.Name "zip" p) [a,b] [] pos) (lI (uM ta)) :=
 tP (cw5 hg hm ha hs fi) λσ H Q ⟨B,F,δ,ts,Qd,c,q,k⟩=>⟨B,F,δ,ts,_,c,q,λds ak vs F1 H1 hd f1 h1 c1 s=>by
  match ds,hd,s with
  | [d1,d2],⟨xs,ys,i1,i2,hq⟩,s =>
   obtain⟨v1,bS,rfl,s1,s2⟩:=s.cL
   obtain⟨v2,d71,rfl,s2,s3⟩:=s2.cL
   cases s3
   have e2:=c1.ext
   have sn:=qh e2
   obtain⟨p1,w1,rfl,r1,t1,u1⟩:=Fs s1 e2 i1
   obtain⟨p2,w2,rfl,r2,t2,u2⟩:=Fs s2 e2 i2
   refine⟨p1,p2,rfl,⟨w1,.inl r1⟩,⟨w2,.inl r2⟩,k _ _ ak _ _ H1 hq (f1.trans sn) h1 c1.snap ?_ λz=>?_⟩
   ·rw[P2]
    exact P4 r1 t1 r2 t2 (Full.refl _)
   ·rw[dZ]at z
    obtain⟨a1,a2,a3⟩:=u1 z.1
    obtain⟨b1,b2,b3⟩:=u2 z.2
    exact⟨co7 a1 b1,P4 (iD a2 sn) (a3.shared sn (af.refl _)) (iD b2 sn) (b3.shared sn (af.refl _)) s9⟩⟩
noncomputable def uO(t:cC):iY:=λδ Q=>t δ λds ah=>match ds with
 | [d1]=>∃xs,jX d1=some xs/\Q d1.pl (fC xs) ah
 | _=>False
theorem qN(hg:Gl X "enumerate")(hm:X.mg "enumerate"=none)(ha:PA X [a] (lA ta))(hs:starEach [a] X.env=[(false,eval a X.env)]:=by rfl) :
  PI X (.Tuple elts x1 pY) (.Call (.Name "enumerate" p) [a] [] pos) (lI (uO ta)) :=
 tP (cn5 hg hm ha hs) λσ H Q ⟨B,F,δ,ts,Qd,c,q,k⟩=>⟨B,F,δ,ts,_,c,q,λds ak vs F1 H1 hd f1 h1 c1 s=>by
  match ds,hd,s with
  | [d1],⟨xs,i1,hq⟩,s =>
   obtain⟨v1,bS,rfl,s1,s2⟩:=s.cL
   cases s2
   have e2:=c1.ext
   have sn:=qh e2
   obtain⟨p1,w1,rfl,r1,t1,u1⟩:=Fs s1 e2 i1
   refine⟨p1,rfl,⟨w1,.inl r1⟩,k _ _ ak _ _ H1 hq (f1.trans sn) h1 c1.snap ?_ λz=>?_⟩
   ·rw[ca8]
    exact P5 r1 t1 (Full.refl _)
   ·obtain⟨a1,a2,a3⟩:=u1 z
    exact⟨b96 a1,P5 (iD a2 sn) (a3.shared sn (af.refl _)) s9⟩⟩
end
end L3
namespace L3
open PySem L2 PySem.Spec PyProof.Rows
section
variable{X:Cx}{F H:Hp}{e b:Expr}{pos p p2 p3 pr apos b9 Fg:Pos}{t ti te:aO}{x y:Str}{i j:Nat}
theorem Fu{α:Type}{xs:List α}{k:Nat}{v:α}(h:xs[k]?=some v):eP xs (k:Int)=some v:=by
 unfold eP iA
 have hk:k<xs.length:=(jk.mp h).1
 rw[if_pos (by omega),if_pos (by omega)]
 exact h
end
section
variable{X:Cx}{CX:eO}{k:Nat}{f:Addr}{fd:FuncData}{ps:List Str}{sp:bg}{E:XK}{fn x1 x2 y1 y2:Str}{i1 i2 j1 j2:Nat}{tk:Nat}
 {tp t1 t2 zp d72 q1 q2 fp d73 a1 a2 cU8 d74 d75 cp Fg pr apos b9 d76 pos:Pos}
end
end L3
namespace L3
open PySem L2 PySem.Spec PyProof.Rows
theorem aq.cU9{B:Bs}{F H:Hp}{σ:L2.St}{δ:Dl}{ts:List (D × V)}{a b:D}{v:V}(c:aq B F H σ δ ((.tup [a,b],v)::ts)):∃p u w,v=.ref p/\H p=some (.tup [u,w])/\aq B F H σ δ ((a,u)::(b,w)::ts):=by
 obtain⟨A,C,r,s,nd,fr⟩:=c.own
 cases r with
 | @tup p ws xs A1 _ _ B1 hp r1 r2 =>
  obtain⟨u,gC,A2,A3,rfl,rfl,h1,h2⟩:=r1.cL
  obtain⟨w,d77,A4,A5,rfl,rfl,h3,h4⟩:=h2.cL
  cases h4
  refine⟨p,u,w,rfl,hp,c.ext,c.b1,c.b2,c.b3,A2++(A4++B1),C,h1.cons (h3.cons r2),s,?_,?_⟩
  ·simpa using nd
  ·intro a ha;exact fr a (by simpa using ha)
section
variable{X:Cx}{y1 y2:Str}{i1 i2 tk m:Nat}{t1 t2 tp:Pos}
noncomputable def jv(i1 i2:Nat):hW:=λd δ Q=>match d with
 | .tup [a,b]=>Q ((δ.set i1 (some a)).set i2 (some b))
 | _=>False
theorem i8(hc:X.calm=true)(P6:X.N.Nodup)(m1:X.N[i1]?=some y1)(l1:Loc X.env.scope y1)(m2:X.N[i2]?=some y2)(l2:Loc X.env.scope y2)(hm1:m<=i1:=by decide)(AV:m<=i2:=by decide)
  (f1:X.fn y1=true\/X.env.scope.names.lookup y1=some .local:=by first | exact .inl rfl | exact .inr rfl | assumption) (f2:X.fn y2=true\/X.env.scope.names.lookup y2=some .local:=by first | exact .inl rfl | exact .inr rfl | assumption)
  (hag:(assignEach [.Name y1 t1,.Name y2 t2] X.env).map (·.2)=assign (.Name y1 t1) X.env::(assignEach [.Name y2 t2] X.env).map (·.2):=by rfl) (cV1:(assignEach [.Name y2 t2] X.env).map (·.2)=assign (.Name y2 t2) X.env::(assignEach [] X.env).map (·.2):=by rfl)
  (hn:(assignEach [.Name y1 t1,.Name y2 t2] X.env).length=2:=by rfl) (cZ:(assignEach [.Name y1 t1,.Name y2 t2] X.env).findIdx? (·.1)=none:=by rfl) :
  PG X (.Tuple [.Name y1 t1,.Name y2 t2] tk tp) (lG m (jv i1 i2)) :=
 Pe (Xr hc (NJ (Ah P6 m1 l1 f1) (NJ (Ah P6 m2 l2 f2) Xp cV1) hag) hn cZ) λv σ H Q zz=>by
  obtain⟨B,F,δ,ts,d,Qd,c,q,k⟩:=zz
  obtain⟨a,b,rfl,q⟩:∃a b,d=D.tup [a,b]/\Qd ((δ.set i1 (some a)).set i2 (some b)):=by
   unfold jv at q
   split at q
   ·exact⟨_,_,rfl,q⟩
   ·exact q.elim
  obtain⟨p,u,w,rfl,hp,c2⟩:=c.cU9
  refine⟨p,[u,w],rfl,gX.of hp,rfl,u,[w],rfl,w,[],rfl,rfl,k _ _ q (by simp) (λj hj=>?_) ((c2.store i1).store i2)⟩
  rw[rQ (by omega),rQ (by omega)]
end
open Classical in
theorem eD{α:Type}{sh:Bool}{xs:List D}{aC:List (Str × Nat)}{n m:Nat}{te:aO}{ak:Dl}{Q:D->Dl->Prop}(l:List α)(e g:α->D)(i9:xs.map D.sh=l.map e)(inj:∀a b,e a=e b->a=b)
  (hx:∀a∈l,te ((gj aC n ak).set m (some (e a))) λd _=>d=g a) (eB:(sh&&aC.all (iZ ak))=true\/∀a∈l,(g a).fr=true) (hl:l.length<=sizeLine) (hq:Q (.lst true (l.map g)) ak):tV sh xs aC n (gN m) lK te ak Q:=by
 let f:D->D:=λx=>if h:∃a∈l,e a=x then g h.choose else .au
 have hf:∀a∈l,f (e a)=g a:=λa ha=>by
  have h:∃b∈l,e b=e a:=⟨a,ha,rfl⟩
  show(if h:∃b∈l,e b=e a then g h.choose else .au)=g a
  rw[dif_pos h]
  exact congrArg g (inj _ _ h.choose_spec.2)
 refine cb1 f (λx h=>?_) (eB.imp id λh x hx=>?_) ?_ ?_
 ·rw[i9]at h
  obtain⟨a,ha,rfl⟩:=bD.mp h
  rw[hf a ha];exact hx a ha
 ·rw[i9]at hx
  obtain⟨a,ha,rfl⟩:=bD.mp hx
  rw[hf a ha];exact h a ha
 ·have:=congrArg Dg i9
  simp at this
  omega
 ·rw[i9,bR,show l.map (f ∘ e)=l.map g from pB λa ha=>hf a ha]
  exact hq
end L3
namespace L3
open PySem L2 PySem.Spec PyProof.Rows
end L3
namespace L2
open PySem PySem.Spec PyProof.Rows
section
variable{X:Cx}
end
end L2
namespace L3
open PySem L2 PySem.Spec PyProof.Rows
noncomputable abbrev tx(l:List Nat):D:=.str ⟨l.toArray⟩
section
variable{X:Cx}{F H:Hp}{e:Expr}{es:List Expr}{t:aO}{pos p p2 apos b9:Pos}
noncomputable def qO(x:D)(lo hi:Option Int)(Q:D->Prop):Prop:=match x with
 | .lst _ xs=>xs.all D.pl=true/\Q (.lst true (fj xs lo hi))
 | .fz xs=>Q (.lst true (fj xs lo hi))
 | .str z=>z.length<=sizeLine/\Q (tx (fj z.cps.toList lo hi))
 | _=>False
noncomputable def uP(t:aO)(tl th:uz):aO:=λδ Q=>t δ λx ak=>tl ak λl aW=>th aW λu iE=>qO x l u λd=>Q d iE
theorem uQ{lo hi:Option Expr}{tl th:uz}(he:PE X e (lB t))(hl:PO X lo (lP tl))(hu:PO X hi (lP th)):PE X (.Subscript e (.Slice lo hi none p2) pos) (lE (uP t tl th)) :=
 dn (YL (Y0.or cz7) he hl hu) λσ H Q ⟨B,F,δ,ts,Qd,c,q,k⟩=>⟨B,F,δ,ts,_,c,q,λx ak v F1 H1 q1 f1 h1 c1 s1=>⟨B,F1,ak,ts,_,c1,q1,λl aW F2 H2 q2 f2 h2 c2=>⟨B,F2,aW,ts,_,c2,q2,λu iE F3 H3 q3 f3 h3 c3=>by
  have mX:=s1.mono (f2.trans f3) (h2.trans h3)
  unfold qO at q3
  split at q3
  ·obtain⟨p,ws,rfl,h,t⟩:=kz mX c3.ext rfl
   exact .inl ⟨p,ws,rfl,jZ h,λr hr=>k _ iE _ F3 _ q3.2 ((f1.trans f2).trans f3) (((h1.trans h2).trans h3).trans (af.upd hr)) (c3.nW hr (t.cut _ _) (PH q3.1 _ _))⟩
  ·obtain⟨p,ws,rfl,h,t⟩:=kz mX c3.ext rfl
   cases mX with
   | fz h' r _=>exact .inl ⟨_,_,rfl,jZ (.inr ⟨_,c3.ext _ _ h'⟩),λr' hr=>k _ iE _ F3 _ q3 ((f1.trans f2).trans f3) (((h1.trans h2).trans h3).trans (af.upd hr)) (c3.nW hr (r.s.cut _ _) (PH r.pl _ _))⟩
  ·cases mX with
   | str _=>exact .inr ⟨_,rfl,q3.1,k _ iE _ F3 H3 q3.2 ((f1.trans f2).trans f3) ((h1.trans h2).trans h3) (c3.pushS (.str .nil) rfl)⟩
  ·exact q3.elim⟩⟩⟩
end
theorem x9(a:List Nat):(⟨a.toArray⟩:Str).length=a.length:=by show a.toArray.size=_;simp
end L3
namespace L3
open PySem L2 PySem.Spec PyProof.Rows
noncomputable def aj(l:List Nat):List D:=aF (l.map λ(n:Nat)=>(n:Int))
theorem dX(l:List Nat):(aj l).length=l.length:=by unfold aj;rw[kE,bq]
theorem bY(l:List Nat):aj l=l.map λ(n:Nat)=>D.int (n:Int):=by unfold aj aF;rw[bR];rfl
theorem qP(l:List Nat):(aj l).map D.sh=l.map λ(n:Nat)=>D.int (n:Int):=by unfold aj;rw[j3];exact bY l
theorem jc(a b:Nat)(h:D.int (a:Int)=D.int (b:Int)):a=b:=by injection h with h;omega
theorem m4(l:List Nat):(aj l).all D.pl=true:=mZ _
theorem ou(l:List Nat):(aj l).map D.sh=aj l:=j3 _
theorem lU(a b:List Nat):aj a++aj b=aj (a++b):=by unfold aj;rw[qK,fh]
theorem ya(l:List Nat)(lo hi:Option Int):fj (aj l) lo hi=aj (fj l lo hi):=by
 unfold aj
 rw[uI]
 congr 1
 unfold fj
 rw[bq,M9,M8]
theorem P7{α:Type}(xs:List α)(b:Nat):fj xs none (some (b:Int))=xs.take b:=by
 have:=cp1 xs 0 b
 unfold fj at this ⊢
 simpa[HT.c9]using this
theorem AZ{α:Type}(xs:List α)(a:Nat):fj xs (some (a:Int)) none=xs.drop a:=by
 unfold fj
 rw[HT.Eb]
 show(xs.drop (min a xs.length)).take (xs.length-min a xs.length)=_
 by_cases h:a<=xs.length
 ·rw[Nat.min_eq_left h,vU (by rw[jI];exact bK _)]
 ·rw[Nat.min_eq_right (by omega),List.drop_length,Nc (by omega)];simp
end L3
namespace L2
open PySem PySem.Spec PyProof.Rows
section
variable{X:Cx}{tg l o e:Expr}{tl to te:TE}{apos b9:Pos}
end
end L2
namespace L3
open PySem L2 PySem.Spec PyProof.Rows
section
variable{X:Cx}{F H:Hp}{tg l e:Expr}{te t tb:aO}{apos b9 pos:Pos}
variable{o:Expr}
theorem Fv:∀{ns:List Int} {ws:List V},S F H (aF ns) ws->ws=ns.map V.int
 | [],_,s=>by cases s;rfl
 | n::ns,_,s=>by
  cases s with
  | int s=>rw[Fv s];rfl
end
end L3
namespace L3
open PySem L2 PySem.Spec PyProof.Rows
end L3
namespace L2
open PySem PySem.Spec PyProof.Rows
noncomputable def Tb(ts:List Addr)(H:Hp):Prop:=∀P∈ts,∃ps,H P=some (.dr ps)
structure uR(ts:List Addr)(H:Hp):Prop where
 any:∀b,H b=none\/(∃o xs,H b=some (.bt o (.lst xs)))\/(b∈ts/\H b=some (.dr #[]))
 tab:∀P∈ts,H P=some (.dr #[])
theorem uR.tb{ts:List Addr}{H:Hp}(h:uR ts H):Tb ts H:=λP hP=>⟨#[],h.tab P hP⟩
noncomputable def Bm(mg:Str->Option Value)(base:Heap):Prop:=∃bm o,mg "__builtins__"=some (.ref bm)/\bm≠builtinsNs/\bm≠mainGlobals/\base.get? bm=some o/\o.cls=.type "module"/\o.dict=some builtinsNs/\o.data=.plain
theorem bT2{P:Program}{w:World}{K:PySem.W.Frag}{mg mb:Str->Option Value}{CX:eO}{k:Nat}{fa a:Addr}{fd:FuncData}{x:Str}{sp:Sp}{bB:Shared}{vs:List Value}{ns:List Int}{ts:List Addr}
  (KX:K.In bB.heap) (A6:bB.heap.Ns mainGlobals mg) (hb:bB.heap.Ns builtinsNs mb) (hbb:∀x:Str,x≠"__name__"->mb x=bootBuiltins x) (cV4:bB.heap.NoLimit) (hg:bB.gens=#[])
  (ht:∀P∈ts,bB.heap.get? P=some (PySem.W.tabObj #[])) (Fw:∀P∈ts,isCodeTable bB.heap P) (hkt:∀P∈ts,K.lookup P=none)
  (ha:bB.heap.get? a=some { cls:=.type "list",data:=.seq vs.toArray }) (hi:IntsAre vs ns) (hl:ns.length<=sizeLine) (hr:bW k callerA)
  (yb:Bm mg bB.heap) (F:∀base:Heap,K.In base->base.Ns mainGlobals mg->Bm mg base->aM P w K mg base CX k fa fd [x] sp) (cV6:∀(s:Shared) (u:Value),BindsTo s fd ⟨[u],[]⟩ [(x,u)])
  (g7:∀H:Hp,uR ts H->bM K H a (ns.map V.int)->sp [.ref a] H (λv _=>v=.bl true) λ_ _ _=>False)
  (Fx:∀H e s',CX [] H bB (λ_ _ _=>False) e s'->False) :
  codeAny (model P w) callerA (.call (.ref fa) ⟨[.ref a],[]⟩) (λr s'=>r=.ok (.ret (.bool true))/\OldK bB.heap s'.heap/\s'.os=bB.os/\AllBare s'.gens) bB:=by
 have rv:=Oj hi
 have cV7:=hi.length
 have nat:a ∉ ts:=λz=>by
  have:=ht a z
  rw[ha]at this
  cases this
 have core:∀H:Hp,uR ts H->bM K H a (ns.map V.int)->cI P w H bB.heap->(∀b,H b≠none->b=a\/b∈ts)->(H a≠none->K.lookup a=none) ->
   codeAny (model P w) callerA (.call (.ref fa) ⟨[.ref a],[]⟩) (λr s'=>r=.ok (.ret (.bool true))/\OldK bB.heap s'.heap/\s'.os=bB.os/\AllBare s'.gens) bB:=by
  intro H hO hS aJ hA hK
  have Fy:∀{b:Addr} {o:Obj},bB.heap.get? b=some o->H b=none->(kW bB.heap H).get? b=some o:=λe n=>WM e n
  have wD:∀{b:Addr} {o:Obj} {es:Array DictEntry} {ep:Nat},bB.heap.get? b=some o->o.data=.dict es ep->H b=none:=λ{b o es ep} e d=>by
   cases q:H b with
   | none=>rfl
   | some u =>
    rcases hA b (by rw[q];simp)with e' | e'
    ·subst e'
     rw[ha]at e;cases e
     have d':Data.seq vs.toArray _=Data.dict es ep:=d
     cases d'
    ·rw[ht b e']at e;cases e
     have d':Data.fields #[]=Data.dict es ep:=d
     cases d'
  have A8:∀{b:Addr} {m:Str->Option Value},bB.heap.Ns b m->(kW bB.heap H).Ns b m:=λ{b m} ⟨o,es,ep,e,d,r⟩=>⟨o,es,ep,Fy e (wD e d),d,r⟩
  have P8:K.In (kW bB.heap H):=λb o e=>Fy (KX b o e) (by
   cases q:H b with
   | none=>rfl
   | some u =>
    rcases hA b (by rw[q];simp)with e' | e'
    ·subst e'
     rw[hK (by rw[q];simp)]at e;cases e
    ·rw[hkt b e']at e;cases e)
  have hBm:Bm mg (kW bB.heap H):=by
   obtain⟨bm,o,b1,b2,b3,b4,b5,b6,b7⟩:=yb
   refine⟨bm,o,b1,b2,b3,Fy b4 ?_,b5,b6,b7⟩
   cases q:H bm with
   | none=>rfl
   | some u =>
    rcases hA bm (by rw[q];simp)with e' | e'
    ·rw[e',ha]at b4;cases b4
     have d':Data.seq vs.toArray _=Data.plain:=b7
     cases d'
    ·rw[ht bm e']at b4;cases b4
     have d':Data.fields #[]=Data.plain:=b7
     cases d'
  have hM:Mod K mg (kW bB.heap H):=⟨P8,A8 A6,⟨mb,A8 hb,hbb⟩,let⟨mc,h1,h2⟩:=cV4;⟨mc,A8 h1,h2⟩⟩
  have e0:iS P w K mg (kW bB.heap H) callerA [] bB H:=⟨rfl,hM,λb o e=>WN e,zB (WL _ _),trivial,λb hb=>absurd (show b∈([]:List Addr) from hb) (by simp),aJ,.of_eq hg⟩
  refine codeAny_mono ((F _ P8 (A8 A6) hBm).run callerA [] bB H ⟨[.ref a],[]⟩ [.ref a] [.ref a] _ _ hr e0 (cV6 bB (.ref a)) (.cons rfl .nil) (g7 H hO hS)) λr s' h=>?_
  cases r with
  | error e=>exact(Fx H e s' h).elim
  | ok fl =>
   cases fl with
   | next=>exact fH h
   | brk=>exact fH h
   | cont=>exact fH h
   | ret u =>
    obtain⟨v,H',os,bare,un,P9,r',q⟩:=h
    have q':v=.bl true:=q
    subst q'
    obtain rfl:u=De true:=r'
    have each:∀b o,bB.heap.get? b=some o->asItWas bB.heap s'.heap b o/\∃o',s'.heap.get? b=some o':=λb o e=>by
     cases q:H b with
     | none =>
      have z:=un.keep b o e q (by intro z;exact absurd (show b∈([]:List Addr) from z) (by simp)) (by simp)
      exact⟨.inl z,o,z⟩
     | some u =>
      rcases hO.any b with z | ⟨ob,xs,z⟩ | ⟨jw,z⟩
      ·rw[q]at z;cases z
      ·have z2:=un.jm b ob _ z
       obtain⟨e1,_⟩:=aJ b _ z
       obtain⟨e2,_⟩:=P9 b _ z2
       rw[e]at e1;cases e1
       exact⟨.inl e2,_,e2⟩
      ·obtain⟨more,z2⟩:=un.iy b _ z
       have e2:=(P9 b _ z2).1
       rw[ht b jw]at e;cases e
       exact⟨.inr (.inl ⟨Fw b jw,rfl,#[],more,rfl,e2⟩),_,e2⟩
    exact⟨rfl,⟨λb o e=>(each b o e).1,λb o e=>(each b o e).2⟩,os,bare⟩
 have tok:∀(H:Hp) (b:Addr),b∈ts->dU P w H bB.heap b (.dr #[]):=λH b hb=>⟨ht b hb,trivial,λpos cv q=>by cases q⟩
 cases hk:K.lookup a with
 | some o =>
  have e:=KX a o hk
  rw[ha]at e
  cases e
  refine core (λb=>if b∈ts then some (.dr #[])else none) ⟨λb=>?_,λb hb=>if_pos hb⟩ (.inr ⟨_,vs.toArray,_,hk,rfl,rfl,rfl,by rw[dD,cV7];exact hl,by simpa using rv⟩) (λb u z=>?_) (λb z=>?_) λz=>absurd (if_neg nat) z
  ·by_cases hb:b∈ts
   ·exact .inr (.inr ⟨hb,if_pos hb⟩)
   ·exact .inl (if_neg hb)
  ·by_cases hb:b∈ts
   ·have z':=(if_pos hb).symm.trans z
    cases z'
    exact tok _ b hb
   ·have z':=(if_neg hb).symm.trans z
    cases z'
  ·by_cases hb:b∈ts
   ·exact .inr hb
   ·exact absurd (if_neg hb) z
 | none =>
  refine core (λb=>if b=a then some (.bt { cls:=.type "list",data:=.seq vs.toArray } (.lst (ns.map V.int)))else if b∈ts then some (.dr #[])else none) ⟨λb=>?_,λb hb=>?_⟩ (.inl (.inr ⟨{ cls:=.type "list",data:=.seq vs.toArray },if_pos rfl⟩)) (λb u z=>?_) (λb z=>?_) λ_=>hk
  ·by_cases hb:b=a
   ·exact .inr (.inl ⟨_,_,if_pos hb⟩)
   ·by_cases jw:b∈ts
    ·exact .inr (.inr ⟨jw,(if_neg hb).trans (if_pos jw)⟩)
    ·exact .inl ((if_neg hb).trans (if_neg jw))
  ·have lD:b≠a:=λz=>nat (z ▸ hb)
   exact(if_neg lD).trans (if_pos hb)
  ·by_cases hb:b=a
   ·have z':=(if_pos hb).symm.trans z
    cases z'
    subst hb
    exact⟨ha,by rw[bq];exact hl,vs,_,rv,ha⟩
   ·by_cases jw:b∈ts
    ·have z':=((if_neg hb).trans (if_pos jw)).symm.trans z
     cases z'
     exact tok _ b jw
    ·have z':=((if_neg hb).trans (if_neg jw)).symm.trans z
     cases z'
  ·by_cases hb:b=a
   ·exact .inl hb
   ·by_cases jw:b∈ts
    ·exact .inr jw
    ·exact absurd ((if_neg hb).trans (if_neg jw)) z
theorem cV9{l:PySem.W.OpenLaw}{n k:Nat}{q:Program}{loose:List Str}{XP:(Str->Option Value)->Heap->Prop}{YP:World->Heap->Prop}{d:DefRec}{K:Params->PySem.W.Frag}{CX:World->eO}{sp:World->Sp}{x:Str}{ts:List Addr}
  (hn:l.most=some n) (sP:n<=sizeLine) (wH:d.params.defaults=[]) (hr:bW k callerA)
  (hY:∀(w:World) (h:Heap),YP w h->(K w.params).In h/\∀P∈ts,h.get? P=some (PySem.W.tabObj #[]))
  (hC:∀(w:World) (h:Heap),(K w.params).In h->∀P∈ts,(K w.params).lookup P=none/\∃c,PySem.W.CodeHd h c P)
  (F:∀(w:World) (mg:Str->Option Value) (fa:Addr) (h:Heap),(K w.params).In h->h.Ns mainGlobals mg->mg d.name=some (.ref fa) ->
   ∃fd:FuncData,(∀(s:Shared) (u:Value),BindsTo s fd ⟨[u],[]⟩ [(x,u)]) /\
    ∀base:Heap,(K w.params).In base->base.Ns mainGlobals mg->Bm mg base->aM l.prog w (K w.params) mg base (CX w) k fa fd [x] (sp w))
  (g7:∀(w:World) (H:Hp) (a:Addr) (ns:List Int),ns.length<=n->uR ts H->bM (K w.params) H a (ns.map V.int)->sp w [.ref a] H (λv _=>v=.bl true) λ_ _ _=>False)
  (Fx:∀(w:World) (H:Hp) (s:Shared) (e:Value) (s':Shared),CX w [] H s (λ_ _ _=>False) e s'->False) :
  PySem.W.WalkO q loose XP YP l.row.toRowW d [] (λf vs=>PySem.call f vs):=by
 refine Att.Zp hn wH λw cJ bB mg mb fa o pm cd doc a vs ns G Y ho hd cK wI El hints hlen hg=>?_
 obtain⟨KX,hT⟩:=hY w _ Y
 obtain⟨fd,hb,hF⟩:=F w mg fa _ KX G.T.g wI
 have Fw:∀P∈ts,isCodeTable bB.heap P:=λP hP=>by
  obtain⟨_,c,C⟩:=hC w _ KX P hP
  exact(C.tab (hT P hP)).isCodeTable
 have yb:Bm mg bB.heap:=by
  obtain⟨bm,ob,b1,b2,b3,b4,b5,b6⟩:=G.T.bmain
  refine⟨bm,ob,b1,b2,λq=>?_,b3,b4,b5,b6⟩
  obtain⟨o,es,ep,e,hd,_⟩:=G.T.g
  rw[q,e]at b3;cases b3;rw[hd]at b6;cases b6
 exact bT2 KX G.T.g G.T.b G.T.builtins G.T.nolimit hg hT Fw (λP hP=>(hC w _ KX P hP).1) El hints (fg hlen sP) hr yb hF hb (λH hO hS=>g7 w H a ns hlen hO hS) λH e s'=>Fx w H bB e s'
end L2
namespace L3
open PySem L2 PySem.Spec PyProof.Rows
noncomputable def uS(ts:List Addr)(sp:Sp):Sp:=λvs H Q E=>Tb ts H/\sp vs H Q E
theorem Fz{X:Cx}{pins:List (Addr × Obj)}{σ:L2.St}{H:Hp}{s:Shared}{ts:List Addr}(I:Inv X pins σ H s)(h:Tb ts X.jO):Tb ts H:=λP hP=>by
 obtain⟨ps,e⟩:=h P hP
 obtain⟨m,e2⟩:=I.base.iy P ps e
 exact⟨_,e2⟩
noncomputable def Ba(ts:List Addr)(K:PySem.W.Frag):Sp:=λvs H Q _=>∃(a:Addr) (ns:List Int),vs=[.ref a]/\uR ts H/\bM K H a (ns.map V.int)/\ns.length<=63/\∀H',Q (.bl true) H'
theorem b79{ts:List Addr}{K:PySem.W.Frag}(nl:K.all (λp=>Ff p.2)=true){vs:List V}{H:Hp}{Q:VK}{E:XK}(h:Ba ts K vs H Q E):uS ts (bh PJ) vs H Q E:=by
 obtain⟨a,ns,rfl,hO,hS,hl,q⟩:=h
 have hz:∃o,H a=some (.bt o (.lst (ns.map V.int))):=by
  rcases hS with (hS | hS) | ⟨o,its,n,hk,hc,_⟩
  ·rcases hO.any a with z | ⟨o,xs,z⟩ | ⟨_,z⟩
   ·rw[hS]at z;cases z
   ·rw[hS]at z;cases z
   ·rw[hS]at z;cases z
  ·exact hS
  ·have hm:=bJ7 hk
   have:=cX.mp nl _ hm
   simp[Ff,hc]at this
 obtain⟨o,ho⟩:=hz
 refine⟨hO.tb,H,[.fz (aF ns)],λd=>d=.bl true,af.refl _,.fz ho (kD ns) .nil,⟨ns,rfl,hl,rfl⟩,λd v F' H' A hd hs hf he h3 r nd fr=>?_⟩
 subst hd
 cases r
 exact q H'
end L3
namespace L2
open PySem PySem.Spec PyProof.Rows
noncomputable def rem(H:Hp)(f c:Addr):Hp:=λb=>if b=f\/b=c then none else H b
noncomputable def m5(H H':Hp)(f c:Addr):Hp:=λb=>if b=f\/b=c then H b else H' b
section
variable{P:Program}{w:World}{H H':Hp}{h:Heap}{a b f c:Addr}{o:HO}{of oc:Obj}
theorem Qa:rem H f c f=none:=if_pos (.inl rfl)
theorem Bb:rem H f c c=none:=if_pos (.inr rfl)
theorem ib(h1:b≠f)(h2:b≠c):rem H f c b=H b:=if_neg (by simp[h1,h2])
theorem uT(e:H b=none):rem H f c b=none:=by unfold rem;split;rfl;exact e
theorem Qb(e:rem H f c b=some o):b≠f/\b≠c/\H b=some o:=by
 unfold rem at e
 split at e
 ·cases e
 ·rename_i n
  exact⟨λz=>n (.inl z),λz=>n (.inr z),e⟩
theorem ow(h1:b≠f)(h2:b≠c):m5 H H' f c b=H' b:=if_neg (by simp[h1,h2])
theorem Qc:m5 H H' f c f=H f:=if_pos (.inl rfl)
theorem FA:m5 H H' f c c=H c:=if_pos (.inr rfl)
theorem dU.rem{φ:Heap->Prop}(x:dU P w H h a o)(ha:a≠f)(hf:H f=some (.ext φ))(hc:H c=some (.own f)\/H c=none)(FC:¬ ∀h',φ h'->∃q,h'.CodeRec (.ref f) q):dU P w (rem H f c) h a o:=by
 have own:∀b,H b=some (.own a)->L2.rem H f c b=some (.own a):=λb e=>by
  rw[ib (λz=>by subst z;rw[hf]at e;cases e) (λz=>by subst z;rcases hc with hc | hc<;>(rw[hc]at e;cases e);exact ha rfl)];exact e
 have tup:∀b xs,H b=some (.tup xs)->L2.rem H f c b=some (.tup xs):=λb xs e=>by
  rw[ib (λz=>by subst z;rw[hf]at e;cases e) (λz=>by subst z;rcases hc with hc | hc<;>(rw[hc]at e;cases e))];exact e
 induction o with
 | lst xs=>exact x
 | tup xs=>exact x
 | dK dE=>exact x
 | dT dE =>
  obtain⟨z,y,xs,r,ob⟩:=x
  exact⟨z,y,xs,Paired.DL r λp q z=>⟨z.1,tup _ _ z.2.1,z.2.2⟩,ob⟩
 | set S n=>exact x
 | ins C dx fs =>
  obtain⟨d,r⟩:=x
  exact⟨own _ d,r⟩
 | own y=>exact x
 | xd fs=>exact x
 | v9 lo hi=>exact x
 | bt ob u ih=>obtain⟨e,q⟩:=x;exact⟨e,ih q⟩
 | dr ps =>
  obtain⟨e,t,cc⟩:=x
  refine⟨e,t,λpos cv q=>?_⟩
  obtain⟨d,φ,e1,e2,e3⟩:=cc pos cv q
  refine⟨d,φ,e1,?_,e3⟩
  rw[ib (λz=>?_) (λz=>by subst z;rcases hc with hc | hc<;>(rw[hc]at e2;cases e2))]
  ·exact e2
  ·subst z
   rw[hf]at e2;cases e2
   exact FC e3
 | met f y=>exact x
 | ext φ=>obtain⟨p,r,st⟩:=x;exact⟨p,r,λh1 h2 p1 kk=>st h1 h2 p1 λb o hb q=>kk b o (hb.imp id (own b)) q⟩
theorem Qe{φ:Heap->Prop}{fd:FuncData}(p:φ h)(g:∀h',φ h'->h'.get? f=some of)(hd:of.data=.func fd):¬ ∀h',φ h'->∃q,h'.CodeRec (.ref f) q:=λz=>by
 obtain⟨q,k,ok,vs,t,q1,q2,q3,_⟩:=z h p
 cases q1
 rw[g h p]at q2;cases q2
 rw[hd]at q3;cases q3
theorem cI.lam(ok:cI P w H h)(hf:H f=some (.ext (L3.jr of oc c f))):L3.jr of oc c f h:=(ok f _ hf).1
theorem cI.rem{fd:FuncData}(ok:cI P w H h)(hf:H f=some (.ext (L3.jr of oc c f)))(hc:H c=some (.own f))(hd:of.data=.func fd):cI P w (rem H f c) h:=λb o e =>
 let⟨h1,_,h3⟩:=Qb e;(ok b o h3).rem h1 hf (.inl hc) (Qe (ok.lam hf) (λ_ p=>p.1) hd)
end
theorem iS.rem{P:Program}{w:World}{K:PySem.W.Frag}{mg:Str->Option Value}{base:Heap}{A:Around}{outer:List Env}{s:Shared}{H:Hp}{f c:Addr}{of oc:Obj}{fd:FuncData}(e:iS P w K mg base A outer s H)
  (hf:H f=some (.ext (L3.jr of oc c f))) (hc:H c=some (.own f)) (hd:of.data=.func fd):iS P w K mg base A outer s (rem H f c) :=
 ⟨e.frames,e.mod,λb o q=>⟨(e.bs b o q).1,uT (e.bs b o q).2⟩,e.jP,e.gK,λb hb=>uT (e.jQ b hb),e.aJ.rem hf hc hd,e.bare⟩
theorem CE.add{P:Program}{w:World}{K:PySem.W.Frag}{mg:Str->Option Value}{base:Heap}{A:Around}{outer:List Env}{s s':Shared}{H:Hp}{f c:Addr}{of oc:Obj}{Q Q':VK}{u:Value}(e0:iS P w K mg base A outer s H)
  (hf:H f=some (.ext (L3.jr of oc c f))) (hc:H c=some (.own f)) (h:CE outer P w (rem H f c) s Q u s') (hQ:∀v H',Q v H'->H' f=none->H' c=none->Q' v (m5 H H' f c)):CE outer P w H s Q' u s':=by
 obtain⟨v,H',os,bare,un,aJ,r,q⟩:=h
 obtain⟨gf,gc⟩:=e0.aJ.lam hf
 have Qf:∀{b o},H b=some o->b ∉ eo outer:=λ{b o} e z=>by rw[e0.jQ b z]at e;cases e
 have nf:H' f=none:=un.free f _ gf Qa (by simp)
 have nc:H' c=none:=un.free c _ gc Bb (by simp)
 have kf:=un.keep f _ gf Qa (Qf hf) (by simp)
 have kc:=un.keep c _ gc Bb (Qf hc) (by simp)
 refine⟨v,m5 H H' f c,os,bare,⟨λb o e n=>un.keep b o e (uT n),λb o e n=>un.slot b o e (uT n),λb o e n x=>?_,un.there,λb xs e=>?_,λb ob xs e=>?_,λb ps e=>?_⟩,λb o e=>?_,r,hQ v H' q nf nc⟩
 ·rw[ow (λz=>by subst z;rw[hf]at n;cases n) (λz=>by subst z;rw[hc]at n;cases n)]
  exact un.free b o e (uT n) x
 ·have n1:b≠f:=λz=>by subst z;rw[hf]at e;cases e
  have n2:b≠c:=λz=>by subst z;rw[hc]at e;cases e
  rw[ow n1 n2]
  exact un.jN b xs (by rw[ib n1 n2];exact e)
 ·have n1:b≠f:=λz=>by subst z;rw[hf]at e;cases e
  have n2:b≠c:=λz=>by subst z;rw[hc]at e;cases e
  rw[ow n1 n2]
  exact un.jm b ob xs (by rw[ib n1 n2];exact e)
 ·have n1:b≠f:=λz=>by subst z;rw[hf]at e;cases e
  have n2:b≠c:=λz=>by subst z;rw[hc]at e;cases e
  rw[ow n1 n2]
  exact un.iy b ps (by rw[ib n1 n2];exact e)
 ·by_cases z:b=f
  ·subst z
   rw[Qc,hf]at e;cases e
   refine⟨⟨kf,kc⟩,⟨_,kf⟩,λh1 h2 p kk=>⟨kk b _ (.inl rfl) p.1,kk c _ (.inr ?_) p.2⟩⟩
   rw[FA];exact hc
  ·by_cases z2:b=c
   ·subst z2
    rw[FA,hc]at e;cases e
    exact⟨_,kc⟩
   ·rw[ow z z2]at e
    have up:∀{b' o'},H' b'=some o'->m5 H H' f c b'=some o':=λ{b' o'} q=>by
     rw[ow (λz=>by subst z;rw[nf]at q;cases q) (λz=>by subst z;rw[nc]at q;cases q)];exact q
    exact(aJ b o e).kh (λ_ _ _ q=>q) (λ_ q=>up q) (λ_ _ q=>up q) λ_ _ q=>up q
theorem b77{prog:Program}{w:World}{A:Around}{R:Result->Shared->Prop}{s:Shared}{a:Addr}{args:Args}{o:Obj}{fd:FuncData}{body:Expr}{q:Str}(cW2:A.depth<recursionLimit)
  (ho:s.heap.get? a=some o)
  (we:o.data=.func fd) (hco:fd.scope.isCoroutine=false) (cW4:fd.scope.isGenerator=false) (gO:fd.body=.expr body) (cK:s.heap.CodeRec fd.code q)
  (h:wpAny (model prog w) A.in1 (bindArgs fd args) (λbinds bB =>
   wpAny (model prog w) A.in1 (newFunctionEnv fd.scope fd.globals fd.closure binds (q++".<locals>.") (some a) fd.code none fd.builtins)
    (λenv kj=>kj.heap.NoLimit/\codeAny (model prog w) A (.expr body env) R kj) (λe s'=>R (.error e) s') bB) (λe s'=>R (.error e) s') s) :
  codeAny (model prog w) A (.call (.ref a) args) R s:=by
 refine codeAny_of_tree ?_
 show wpAny _ A.in1 (callAny (.ref a) args) _ _ s
 simp only[callAny]
 refine wpAny_bind (wpAny_load ho ?_)
 obtain⟨c,oc,vs,tq,hc,iO,FD,hq⟩:=cK
 simp only[we,callFunction,hco,cW4,gO,hc]
 rw[hc]at h
 refine wpAny_bind (m:=field (.ref c) 1) (wpAny_field iO FD hq (wpAny_bind (wpAny_pure ?_)))
 exact wpAny_bind (wpAny_mono h (λbinds bB Bc=>wpAny_bind (wpAny_mono Bc (λenv kj Qg=>wpAny_bind (wpAny_enterFrame Qg.1 cW2
  (wpAny_pure (And.intro rfl Qg.2)))) λ_ _ h'=>h')) λ_ _ h'=>h')
structure Qh(p1 p2 x:Str)(sc:Scope):Prop where
 kind:sc.kind=.function
 co:sc.isCoroutine=false
 gen:sc.isGenerator=false
 nd:[p1,p2,x].Nodup
 l1:sc.names.lookup p1=some .local
 l2:sc.names.lookup p2=some .local
 Qi:∀y∈sc.names,y.2≠.cell
 only:∀y∈sc.names,y.2=.free->y.1=x
 lx:sc.names.lookup x=some .free
noncomputable def qQ(CX:eO)(P:Program)(w:World)(K:PySem.W.Frag)(mg:Str->Option Value)(base:Heap)(N:List Str)(qual:Str)(scope:Scope)(f:Addr)(cd:Value)(cl:List (Str × Addr))(A:Around)(outer:List Env)(s:Shared)(H:Hp)(E:XK):Cx where
 prog:=P
 w:=w
 K:=K
 mg:=mg
 base:=base
 A:=A.deeper (PySem.W.envX qual scope s.heap.objs.size f cd cl)
 N:=N
 cJ:=s
 jO:=H
 env:=PySem.W.envX qual scope s.heap.objs.size f cd cl
 outer:=outer
 stack:=PySem.W.envX qual scope s.heap.objs.size f cd cl::outer
 ex:=[]
 calm:=true
 fn:=λ_=>false
 pn:=[]
 xe:=λe s'=>wpAny (model P w) (A.deeper (PySem.W.envX qual scope s.heap.objs.size f cd cl)) (leaving (PySem.W.envX qual scope s.heap.objs.size f cd cl) e) (λ_ p5=>CX outer H s E e p5) (λe' p5=>CX outer H s E e' p5) s'
theorem cm7{CX:eO}{P:Program}{w:World}{K:PySem.W.Frag}{mg:Str->Option Value}{base:Heap}{p1 p2 x qn q:Str}{params:Arguments}{body:Expr}{scope:Scope}{pm je:Value}{f c c':Addr}{k:Nat}{A:Around}{outer:List Env}{s:Shared}{H:Hp}{E:XK}
  {u1 u2 uc:Value} {v1 v2 vc:V} {Q:VK} {t:TE} {args:Args} (S:Qh p1 p2 x scope) (e0:iS P w K mg base A outer s H) (hr:bW (k+1) A)
  (hf:s.heap.get? f=some (PySem.W.kla_obj "<lambda>" qn params body scope [(x,c)] pm c' je)) (hc:s.heap.IsCell c (some uc)) (rc:RelV vc uc) (hH:H c=none) (cK:s.heap.CodeRec (.ref c') q)
  (hb:bindArgs (PySem.W.kla_fn "<lambda>" qn params body scope [(x,c)] pm (.ref c') je) args=pure [(p1,u1),(p2,u2)]) (r1:RelV v1 u1) (r2:RelV v2 u2)
  (ht:PE (qQ CX P w K mg base [p1,p2,x] q scope f (.ref c') [(x,c)] A outer s H E) body t) (h:t [some v1,some v2,some vc] H Q) :
  codeAny (model P w) A (.call (.ref f) args) (CR CX outer P w H s Q E) s:=by
 have lim:s.heap.NoLimit:=e0.mod.nolimit.keeps λb o e=>(e0.bs b o e).1
 refine b77 hr.depth hf rfl S.co S.gen rfl cK ?_
 rw[hb]
 have cW6:∀y∈[(p1,u1),(p2,u2)],scope.names.lookup y.1=some .local:=λy hy=>by
  simp at hy
  rcases hy with rfl | rfl
  ·exact S.l1
  ·exact S.l2
 refine wpAny_pure (wpAny_newFunctionEnv S.Qi cW6 (λBc A6 Qj=>⟨lim.fresh _ Qj,?_⟩) S.kind)
 show codeAny _ _ (.expr body (PySem.W.envX q scope s.heap.objs.size f (.ref c') [(x,c)])) _ _
 have hk:∀b o,s.heap.get? b=some o->Bc.get? b=some o:=λb o e=>Qj.extBut b o (eZ (bP e)) (fu _ e)
 have cm:p1≠p2/\p1≠x/\p2≠x:=by have:=S.nd;simp at this;exact⟨this.1.1,this.1.2,this.2⟩
 have look:∀y d,([(x,c)]:List (Str × Addr)).lookup y=some d->y=x/\d=c:=λy d e=>by
  rw[fI]at e
  split at e
  ·rename_i z;exact⟨beq_iff_eq.mp z,(cO e).symm⟩
  ·cases e
 have I:Inv (qQ CX P w K mg base [p1,p2,x] q scope f (.ref c') [(x,c)] A outer s H E) [] [some v1,some v2,some vc] H { s with heap:=Bc,toks:=s.toks+[(p1,u1),(p2,u2)].length }:=by
  refine⟨⟨e0.mod,S.kind,rfl,rfl,bK _,λy z d h1 h2=>?_,λy hy=>?_,λy d z _=>absurd z (by simp[qQ]),λ_=>hr.hd,Around.frames_deeper e0.frames,.inr ⟨rfl,rfl⟩,λb z=>absurd z (by simp[qQ]),e0.bs,e0.jP,λb _ _=>by simp[qQ],λb z=>absurd z (by simp[qQ]),e0.gK,e0.jQ⟩,
   rfl,e0.bare,Un.kept hk,⟨_,A6,λi y v h1 h2 h3=>?_⟩,λy d h=>?_,e0.aJ.fresh (bK _),λy d h=>?_,λp hp=>absurd (show p∈([]:List (Addr × Obj)) from hp) (by simp),e0.aJ.kept hk,rfl⟩
  ·exact(look y d h1).1.trans (look z d h2).1.symm
  ·have hy:scope.names.lookup y=some .cell\/scope.names.lookup y=some .free:=hy
   rcases hy with hy | hy
   ·exact absurd rfl (S.Qi _ (PySem.mem_of_lookup hy))
   ·obtain rfl:y=x:=S.only _ (PySem.mem_of_lookup hy) rfl
    exact⟨c,by show([(y,c)]:List (Str × Addr)).lookup y=_;rw[fI,beq_self_eq_true]⟩
  ·match i,h1,h2 with
   | 0,h1,h2 =>
    cases h1;cases h2
    exact⟨u1,r1,.inl ⟨S.l1,by
     show([(p1,u1),(p2,u2)]:List (Str × Value)).reverse.lookup p1=_
     simp[fI,beq_eq_false_iff_ne.mpr cm.1]⟩⟩
   | 1,h1,h2 =>
    cases h1;cases h2
    exact⟨u2,r2,.inl ⟨S.l2,by
     show([(p1,u1),(p2,u2)]:List (Str × Value)).reverse.lookup p2=_
     simp[fI]⟩⟩
   | 2,h1,h2 =>
    cases h1;cases h2
    exact⟨uc,rc,.inr ⟨.inr S.lx,c,by show([(x,c)]:List (Str × Addr)).lookup x=_;rw[fI,beq_self_eq_true],hc.keeps hk⟩⟩
   | n+3,h1,h2=>cases h2
  ·obtain⟨rfl,rfl⟩:=look y d h
   exact⟨_,hc.keeps hk⟩
  ·obtain⟨rfl,rfl⟩:=look y d h
   exact hH
 refine PySem.W.kla_codeExpr (wpAny_mono (ht [] _ _ H _ I h) (λu s' hs=>?_) λe s' hs=>hs)
 obtain⟨v,H',J,rv,q⟩:=hs
 exact⟨v,H',J.os,J.bare,J.base,J.aJ,rv,q⟩
end L2
namespace L3
open PySem L2 PySem.Spec PyProof.Rows
theorem af.m5{H H':Hp}{f c:Addr}{o1 o2:HO}(h:af (rem H f c) H')(h1:H f=some o1)(n1:iW o1=true)(h2:H c=some o2)(n2:iW o2=true):af H (m5 H H' f c) where
 get b o e n:=by
  by_cases z:b=f
  ·rw[z,Qc,<- z];exact e
  ·by_cases z2:b=c
   ·rw[z2,FA,<- z2];exact e
   ·rw[ow z z2];exact h.get b o (by rw[ib z z2];exact e) n
 tb b ps e:=by
  have z:b≠f:=λz=>by subst z;rw[h1]at e;cases e;cases n1
  have z2:b≠c:=λz=>by subst z;rw[h2]at e;cases e;cases n2
  rw[ow z z2]
  exact h.tb b ps (by rw[ib z z2];exact e)
noncomputable abbrev uU:=Int->Int->(Int->Prop)->Prop
structure yc(P:Program)(w:World)(K:PySem.W.Frag)(mg:Str->Option Value)(base:Heap)(n:Nat)(of oc:Obj)(c k:Addr)(sp:uU):Prop where
 fn:∃o1 od fd sl,of=⟨o1,od,.func fd,sl⟩
 run:∀(A:Around) (outer:List Env) (s:Shared) (H:Hp) (f:Addr) (t u:Tok) (i j:Int) (Qd:Int->Prop),bW n A->iS P w K mg base A outer s H->s.heap.get? f=some of->s.heap.get? c=some oc->H c=none->(∃q,s.heap.CodeRec (.ref k) q)->sp i j Qd ->
  codeAny (model P w) A (.call (.ref f) ⟨[.int i t,.int j u],[]⟩) (CR aQ outer P w H s (λv H'=>∃r,v=.int r/\Qd r/\af H H') (λ_ _ _=>False)) s
noncomputable def uV(L:Obj->Obj->Addr->Addr->uU->Prop)(i:Nat)(ta:cC):aO:=λδ Q=>∃of oc c k sp,δ[i]?=some (some (.bE (.lam of oc c k)))/\L of oc c k sp/\ta δ λds ah=>∃a b,ds=[.int a,.int b]/\sp a b λr=>Q (.int r) ah
theorem Qk{X:Cx}{n i:Nat}{x:Str}{p pos:Pos}{e1 e2:Expr}{ta:cC}(hN:X.N[i]?=some x)(hv:mC X.env.scope x)(hr:bW n X.A)(ha:PA X [e1,e2] (lA ta))
  (hd:(x==("__debug__":Str))=false:=by decide) (cK:(x==("__classdict__":Str))=false:=by decide) (he:starEach [e1,e2] X.env=(false,eval e1 X.env)::starEach [e2] X.env:=by rfl) (bN:(backTo pos (starEach [e2] X.env)).any (·.1)=false:=by rfl) :
  PE X (.Call (.Name x p) [e1,e2] [] pos) (lE (uV (yc X.prog X.w X.K X.mg X.base n) i ta)):=by
 intro pins s σ H Q I zz
 obtain⟨B,F,δ,ts,Qd,c,⟨of,oc,cc,k,sp,ed,L,q⟩,kk⟩:=zz
 obtain⟨v,ev,sv⟩:=c.look ed
 obtain⟨f,rfl,lam⟩:∃f,v=.ref f/\jV H f of oc cc k:=by
  cases sv with
  | bE h _=>exact⟨_,rfl,h⟩
 refine wpAny_Call_Name_kw (aP (sJ hN hv hd cK pins s σ H (λv' H'=>v'=.ref f/\H'=H) I ⟨_,ev,rfl,rfl⟩) λu s1 zz=>?_)
 obtain⟨v',H',I1,r1,e1,e2⟩:=zz
 subst e1 e2
 obtain rfl:u=.ref f:=r1
 have fnAt:∀{H1:Hp} {s2:Shared},Inv X pins σ H1 s2->jV H1 f of oc cc k->PySem.W.FnAt f s2.heap:=λ{H1 s2} J l=>by
  obtain⟨o1,od,fd,sl,e⟩:=L.fn
  exact⟨o1,od,fd,sl,by rw[<-e];exact(J.aJ.lam l.fn).1⟩
 refine PySem.W.callWith_F (fnAt I1 lam) (aP (ha pos pins s1 σ H' (λvs H2=>∃a b ah F',vs=[.int a,.int b]/\(sp a b λr=>Qd (.int r) ah)/\af F F'/\af H' H2/\aq B F' H2 σ ah ts) I1
  ⟨B,F,δ,ts,_,c,q,λds ah vs F' H2 ⟨a,b,eds,q2⟩ f1 h1 c1 s1=>?_⟩) λus s2 ⟨vs,H2,I2,r2,a,b,ah,F',evs,q2,f1,h1,c1⟩=>⟨fnAt I2 ((show qe H' f (.lam of oc cc k) from lam).mono λa o e _ t=>h1.get a o e t),?_⟩) he bN
 ·subst eds
  refine⟨a,b,ah,F',?_,q2,f1,h1,c1⟩
  cases s1 with
  | int s1=>cases s1 with
   | int s1=>cases s1;rfl
 ·subst evs
  have oy:jV H2 f of oc cc k:=(show qe H' f (.lam of oc cc k) from lam).mono λa o e _ t=>h1.get a o e t
  obtain⟨o1,od,fd,sl,eof⟩:=L.fn
  have cW9:of.data=.func fd:=by rw[eof]
  obtain⟨gf,gc⟩:=I2.aJ.lam oy.fn
  obtain⟨ψ,eψ,yd⟩:=oy.EK
  obtain⟨u1,u2,t1,t2,rfl⟩:∃(u1 u2:Unit) (t1 t2:Tok),us=[.int a t1,.int b t2]:=by
   cases r2 with
   | cons ra r2=>cases r2 with
    | cons rb r2 =>
     cases r2
     obtain⟨t1,rfl⟩:=ra
     obtain⟨t2,rfl⟩:=rb
     exact⟨(),(),t1,t2,rfl⟩
  refine wpAny_call (codeAny_mono (L.run X.A X.stack s2 (rem H2 f cc) f t1 t2 a b _ hr (I2.wC.rem oy.fn oy.cell cW9) gf gc Bb (yd _ (I2.aJ k _ eψ).1) q2) λr s' hq=>?_)
  cases r with
  | error e=>exact hq.elim
  | ok fl =>
   cases fl with
   | ret u =>
    refine I2.after (CE.add I2.wC oy.fn oy.cell hq (Q':=Q) ?_)
    rintro v H3 ⟨r,rfl,hqd,hs⟩ nf nc
    have sm:=hs.m5 oy.fn rfl oy.cell rfl
    exact kk _ ah _ F' _ hqd f1 (h1.trans sm) ((c1.grow sm).pushS (.int .nil) rfl)
   | next=>exact fH hq
   | brk=>exact fH hq
   | cont=>exact fH hq
end L3
namespace L2
open PySem PySem.Spec PyProof.Rows
theorem bF8{p:Pos}{c:Value}(l:List Value)(h:TriplesOk l):TriplesOk (l++[rawInt p.line,rawInt p.col,c]):=by
 fun_induction TriplesOk l with
 | case1=>simp[TriplesOk,rawInt]
 | case2 a b d e f rest ih=>exact ih h
 | case3=>exact h.elim
theorem bQ6{p q:Pos}{c cv:Value}(l:List Value)(h:TriplesOk l)(e:codeAmong q (l++[rawInt p.line,rawInt p.col,c])=some cv):codeAmong q l=some cv\/cv=c:=by
 fun_induction TriplesOk l with
 | case1 =>
  simp only[sg,rawInt,codeAmong]at e
  split at e
  ·exact .inr (cO e).symm
  ·cases e
 | case2 a b d e' f rest ih =>
  simp only[sC,codeAmong]at e ⊢
  split at e
  ·rename_i z;rw[if_pos z];exact .inl e
  ·rename_i z;rw[if_neg z];exact ih h e
 | case3=>exact h.elim
noncomputable def m6(f:Addr)(o:Obj):Heap->Prop:=λh=>h.get? f=some o
noncomputable def cL2(P c:Addr)(x:Str)(params:Arguments)(body:Expr)(scope:Scope):TE:=λ_ H Q=>(∃ps,H P=some (.dr ps)) /\
 ∀f k qn pm je H',H f=none->H' f=some (.ext (m6 f (PySem.W.kla_obj "<lambda>" qn params body scope [(x,c)] pm k je)))->L3.EJ H' k->k≠f->L3.af H H'->(∀a ws,H' a=some (.lst ws)->H a=some (.lst ws))->Q (.ref f) H'
theorem Ql{X:Cx}{P c cc:Addr}{x:Str}{params:Arguments}{body:Expr}{scope:Scope}{pos:Pos}(fk:closureFor scope X.env=pure [(x,c)])(Bd:X.env.code=.ref cc)(hK:PySem.W.codeHdIn X.K cc P=true)(yb:Bm X.mg X.base)
  (cX5:defaultsOf params X.env=([],[]):=by rfl):PE X (.Lambda params body scope pos) (cL2 P c x params body scope):=by
 intro pins s σ H Q I zz
 obtain⟨⟨ps,hP⟩,q⟩:=zz
 obtain⟨bm,ob,b1,b2,b3,b4,b5,b6,b7⟩:=yb
 have C:=PySem.W.codeHd_of_K I.cY hK
 obtain⟨oP,Be,codes⟩:=I.aJ P _ hP
 have hg:=I.mod.glob.keeps I.bk
 have Qm:∀{b o},X.base.get? b=some o->b≠P:=λ{b o} e z=>by
  have:=(I.bs b o e).2
  rw[z,hP]at this;cases this
 have hgP:mainGlobals≠P:=by
  obtain⟨o,es,ep,e,_⟩:=I.mod.glob
  exact Qm e
 have Qn:s.heap.BuiltinsAt X.mg P:=⟨bm,ob,b1,b2,b3,Qm b4,I.bk _ _ b4,b5,b6,b7⟩
 refine PySem.W.kla_eval cX5 ?_
 have fresh:∀{b:Addr},s.heap.objs.size<=b->H b=none:=λ{b} h=>I.aJ.fresh h
 cases FE:codeAmong pos ps.toList with
 | none =>
  refine PySem.W.kla_makeFunction (mg:=X.mg) fk I.ok.glob hg Bd C oP Be FE hgP Qn λk je h' tk hx ye fA cX7 Qo=>?_
  have FF:P<s.heap.objs.size:=bP oP
  have hPk:k≠P:=λz=>by rw[z]at ye;exact absurd FF (vV.mpr ye)
  have qR:s.heap.objs.size<=h'.objs.size:=fg ye (zx fA)
  have hPf:h'.objs.size≠P:=λz=>by rw[<-z]at FF;exact absurd FF (vV.mpr qR)
  have Qp:k≠h'.objs.size:=eZ fA
  generalize Qq:PySem.W.kla_obj "<lambda>" (X.env.qual++"<lambda>") params body scope [(x,c)] ((X.mg "__name__").getD .none) k je=obj
  have eB:obj.isFreed=false:=by rw[<-Qq];rfl
  have yf:∀b,b≠P->b≠k->b≠h'.objs.size->upd (upd (upd H P (.dr (ps++#[rawInt pos.line,rawInt pos.col,.ref k]))) k (.ext λh=>∃q,h.CodeRec (.ref k) q)) h'.objs.size (.ext (m6 h'.objs.size obj)) b=H b:=λb n1 n2 n3=>by
   rw[bc n3,bc n2,bc n1]
  have Bf:upd (upd (upd H P (.dr (ps++#[rawInt pos.line,rawInt pos.col,.ref k]))) k (.ext λh=>∃q,h.CodeRec (.ref k) q)) h'.objs.size (.ext (m6 h'.objs.size obj)) h'.objs.size=some (.ext (m6 h'.objs.size obj)):=bL
  have atK:upd (upd (upd H P (.dr (ps++#[rawInt pos.line,rawInt pos.col,.ref k]))) k (.ext λh=>∃q,h.CodeRec (.ref k) q)) h'.objs.size (.ext (m6 h'.objs.size obj)) k=some (.ext λh=>∃q,h.CodeRec (.ref k) q):=by rw[bc Qp,bL]
  have Bg:upd (upd (upd H P (.dr (ps++#[rawInt pos.line,rawInt pos.col,.ref k]))) k (.ext λh=>∃q,h.CodeRec (.ref k) q)) h'.objs.size (.ext (m6 h'.objs.size obj)) P=some (.dr (ps++#[rawInt pos.line,rawInt pos.col,.ref k])):=by rw[bc hPf.symm,bc hPk.symm,bL]
  generalize hHn:upd (upd (upd H P (.dr (ps++#[rawInt pos.line,rawInt pos.col,.ref k]))) k (.ext λh=>∃q,h.CodeRec (.ref k) q)) h'.objs.size (.ext (m6 h'.objs.size obj))=Hn at yf Bf atK Bg
  have old:∀{b o},H b=some o->b≠P->Hn b=some o:=λ{b o} e n=>by
   have hb:b<s.heap.objs.size:=I.aJ.lt e
   rw[yf b n (λz=>absurd hb (vV.mpr (z ▸ ye))) (λz=>absurd hb (vV.mpr (z ▸ qR)))];exact e
  have kept:∀b o,b≠P->s.heap.get? b=some o->(h'.push obj).get? b=some o:=λb o n e=>fu _ (hx b o n e)
  have un:Un X.fs [] H Hn s.heap (h'.push obj):=by
   refine⟨λb o e n _ _=>kept b o (λz=>by rw[z,hP]at n;cases n) e,λb o e n _ _=>⟨o.slots,kept b o (λz=>by rw[z,hP]at n;cases n) e⟩,λb o e n _=>?_,λb o e _=>?_,λb xs e=>old e (λz=>by rw[z,hP]at e;cases e),λb ob xs e=>old e (λz=>by rw[z,hP]at e;cases e),λb Qr e=>?_⟩
   ·have hb:=bP e
    rw[yf b (λz=>by rw[z,hP]at n;cases n) (λz=>absurd hb (vV.mpr (z ▸ ye))) (λz=>absurd hb (vV.mpr (z ▸ qR)))];exact n
   ·by_cases z:b=P
    ·rw[z];exact⟨_,fu _ Qo⟩
    ·exact⟨o,kept b o z e⟩
   ·by_cases z:b=P
    ·subst z
     rw[hP]at e;cases e
     exact⟨_,Bg⟩
    ·exact⟨#[],by rw[old e z];simp⟩
  have aJ:cI X.prog X.w Hn (h'.push obj):=λb o e=>by
   by_cases z1:b=h'.objs.size
   ·subst z1
    rw[Bf]at e;cases e
    exact⟨gx _ eB,⟨_,gx _ eB⟩,λh1 h2 p kk=>kk _ _ (.inl rfl) p⟩
   ·by_cases z2:b=k
    ·subst z2
     rw[atK]at e;cases e
     have hr:=cX7.push obj
     refine⟨⟨_,hr⟩,?_,λh1 h2 ⟨q,c1,o1,vs,t,e1,e2,r⟩ kk=>?_⟩
     ·obtain⟨c1,o1,vs,t,e1,e2,_⟩:=hr
      cases e1
      exact⟨o1,e2⟩
     ·cases e1
      exact⟨q,_,o1,vs,t,rfl,kk _ _ (.inl rfl) e2,r⟩
    ·by_cases z3:b=P
     ·subst z3
      rw[Bg]at e;cases e
      refine⟨fu _ Qo,by rw[Wr];exact bF8 _ Be,λp' cv e'=>?_⟩
      rw[Wr]at e'
      rcases bQ6 _ Be e' with e' | e'
      ·obtain⟨d,φ,e1,e2,e3⟩:=codes p' cv e'
       exact⟨d,φ,e1,old e2 (λz=>by rw[z,hP]at e2;cases e2),e3⟩
      ·exact⟨k,_,e',atK,λh' p=>p⟩
     ·rw[yf b z3 z2 z1]at e
      have nP:∀{b' o'},H b'=some o'->(∀ps,o'≠.dr ps)->b'≠P:=λ{b' o'} e n z=>by rw[z,hP]at e;cases e;exact n _ rfl
      refine(I.aJ b o e).kh (λb' u yg e'=>kept b' u ?_ e') (λb' e'=>old e' (nP e' (λps z=>by cases z))) (λb' xs e'=>old e' (nP e' (λps z=>by cases z))) λb' φ e'=>old e' (nP e' (λps z=>by cases z))
      rcases yg with rfl | yg
      ·exact z3
      ·exact nP yg (λps z=>by cases z)
  refine⟨.ref h'.objs.size,Hn,I.un un aJ,rfl,q _ k _ _ _ _ (fresh qR) (by rw[Qq];exact Bf) ⟨_,atK,λh p=>p⟩ Qp ⟨λb o e n=>old e (λz=>by rw[z,hP]at e;cases e;cases n),λb Qr e=>?_⟩ λa ws e=>?_⟩
  ·exact un.iy b Qr e
  ·by_cases z1:a=h'.objs.size
   ·subst z1;rw[Bf]at e;cases e
   ·by_cases z2:a=k
    ·subst z2;rw[atK]at e;cases e
    ·by_cases z3:a=P
     ·subst z3;rw[Bg]at e;cases e
     ·rw[yf a z3 z2 z1]at e;exact e
 | some cv =>
  obtain⟨k,φ,rfl,hk,FC⟩:=codes pos cv FE
  refine PySem.W.kla_makeFunctionHit (mg:=X.mg) fk I.ok.glob hg Bd C oP Be FE Qn λje h' tk hx qR=>?_
  have hf:=fresh qR
  refine⟨.ref h'.objs.size,upd H h'.objs.size (.ext (m6 h'.objs.size (PySem.W.kla_obj "<lambda>" (X.env.qual++"<lambda>") params body scope [(x,c)] ((X.mg "__name__").getD .none) k je))),I.laid (λb u e=>fu _ (hx b u e)) qR ?_,rfl,q _ k (X.env.qual++"<lambda>") ((X.mg "__name__").getD .none) je _ hf bL ⟨φ,?_,FC⟩ (eK hk hf) (L3.af.of λb o e=>?_) λa ws e=>?_⟩
  ·exact⟨gx _ rfl,⟨_,gx _ rfl⟩,λh1 h2 p kk=>kk _ _ (.inl rfl) p⟩
  ·rw[bc (eK hk hf)];exact hk
  ·rw[bc (eK e hf)];exact e
  ·by_cases z:a=h'.objs.size
   ·subst z;rw[bL]at e;cases e
   ·rw[bc z]at e;exact e
end L2
namespace L2
open PySem PySem.Spec PyProof.Rows
structure uW(K:PySem.W.Frag)(C:Addr)(m:Str)(f:Addr):Prop where
 ga:PySem.W.specialIn K (.ref C) "__getattribute__"=some (some (.builtin "type.__getattribute__"))
 rd:PySem.W.readsIn K C (.type "type")=true
 at_:PySem.W.findCls K (.ref C) (.type "type") m=some (.val (.ref f))
 kp:PySem.W.keepIn K (.ref f)=true
section
variable{X:Cx}{CX:eO}{k:Nat}{f C:Addr}{fd:FuncData}{ps:List Str}{sp:Sp}{E:XK}{x m:Str}{p pos apos:Pos}{e o:Expr}{es:List Expr}{ta:TE}{t:TA}
theorem ca6{pins:List (Addr × Obj)}{σ:St}{H:Hp}{s:Shared}{pl:Sem Bool}{A:Around}{E':Value->Shared->Prop}{Q:Value × List Value->Shared->Prop}(I:Inv X pins σ H s)(M:uW X.K C m f)(h:∀s',Inv X pins σ H s'->Q (.ref f,[]) s') :
  wpAny (model X.prog X.w) A (getMethod (.ref C) m pl) Q E' s :=
 PySem.W.method_cls I.cY M.ga (PySem.W.cls_value (mc:=.type "type") I.cY M.rd M.at_ rfl (h _ (I.tok _)))
theorem Qs{pins:List (Addr × Obj)}{σ:St}{H:Hp}{s:Shared}{pl:Sem Bool}{Q:Value->Shared->Prop}{QA:List V->Hp->Prop}(I:Inv X pins σ H s)(M:uW X.K C m f)(hg:Gl X x)(hm:X.mg x=some (.ref C))(ha:PA X (e::es) t)(h:t σ H QA)
  (hq:∀us s1 vs H1,Inv X pins σ H1 s1->Vals vs us->QA vs H1->wpAny (model X.prog X.w) X.A (call (.ref f) us) Q X.xe s1)
  (dW:(x==("__debug__":Str))=false:=by decide) (cZ:starEach (e::es) X.env=(false,eval e X.env)::starEach es X.env:=by rfl) (bN:(backTo pos (starEach es X.env)).any (·.1)=false:=by rfl)
  (ht:eval (.Call (.Attribute (.Name x p) m apos) (e::es) [] pos) X.env=(do
   let ov<-eval (.Name x p) X.env
   standAt apos.atName
   let (f,first)<-holding [ov] (getMethod ov m pl)
   callWith pos f first (backTo pos (starEach (e::es) X.env)) (backToKw pos (keywordEach [] X.env))):=by rfl) :
  wpAny (model X.prog X.w) X.A (eval (.Call (.Attribute (.Name x p) m apos) (e::es) [] pos) X.env) Q X.xe s:=by
 refine PySem.W.methodCall_KW (pl:=pl) (wm I hg hm ?_ dW) ht
 refine ca6 I M λs1 I1=>?_
 refine PySem.W.callWith_K (first:=[]) (h₀:=X.base) I.ok.mod.mB M.kp (aP (ha pos pins s1 σ H _ I1 h) λus s2 ⟨vs,H2,I2,r,q2⟩=>⟨I2.cY,?_⟩) cZ bN
 exact hq us s2 vs H2 I2 r q2
noncomputable def cH1(sp:Sp)(E:XK)(c:Addr)(i:Nat)(t:TA):TE:=λσ H Q=>t σ H λvs H1=>∃f of fd v,H1 f=some (.ext (m6 f of))/\of.data=.func fd/\σ[i]?=some (some v) /\
 ∀oc u,oc.data=.cell (some u)->RelV v u->H1 c=none->c≠f->sp vs (upd (upd H1 f (.ext (L3.jr of oc c f))) c (.own f)) (λr H2=>H2 f=some (.ext (L3.jr of oc c f))/\H2 c=some (.own f)/\Q r (rem H2 f c)) E
theorem Qt{pl:Sem Bool}{y:Str}{c:Addr}{i:Nat}(M:uW X.K C m f)(F:aM X.prog X.w X.K X.mg X.base aQ k f fd ps sp)(hr:bW k X.A)(hb:Binds X.K fd ps [])(hg:Gl X x)(hm:X.mg x=some (.ref C))
  (hN:X.N[i]?=some y) (hy:X.env.scope.names.lookup y=some .cell) (fk:X.env.cells.lookup y=some c) (wj:X.fn y=true) (ha:PA X (e::es) t)
  (dW:(x==("__debug__":Str))=false:=by decide) (cZ:starEach (e::es) X.env=(false,eval e X.env)::starEach es X.env:=by rfl) (bN:(backTo pos (starEach es X.env)).any (·.1)=false:=by rfl)
  (ht:eval (.Call (.Attribute (.Name x p) m apos) (e::es) [] pos) X.env=(do
   let ov<-eval (.Name x p) X.env
   standAt apos.atName
   let (f,first)<-holding [ov] (getMethod ov m pl)
   callWith pos f first (backTo pos (starEach (e::es) X.env)) (backToKw pos (keywordEach [] X.env))):=by rfl) :
  PE X (.Call (.Attribute (.Name x p) m apos) (e::es) [] pos) (cH1 sp E c i t):=by
 intro pins s σ H Q I h
 refine Qs (pl:=pl) I M hg hm ha h (λus s1 vs H1 I1 r ⟨fa,of,fdd,v,hf,hd,hv,hq⟩=>?_) dW cZ bN ht
 obtain⟨ml,_,hl⟩:=I1.loc
 obtain⟨u,rv,lk⟩:=hl i y v hN hv (.inr (.inl hy))
 obtain⟨oc,gc,iO⟩:∃oc,s1.heap.get? c=some oc/\oc.data=.cell (some u):=by
  rcases lk with⟨hk,_⟩ | ⟨_,c',wk,ic⟩
  ·rw[show X.env.kindOf y=some .cell from hy]at hk;cases hk
  ·rw[fk]at wk;cases wk;exact ic
 have nc:H1 c=none:=I1.jn y c fk
 have oA:c≠fa:=λz=>by rw[z,hf]at nc;cases nc
 have gf:s1.heap.get? fa=some of:=(I1.aJ fa _ hf).1
 have mE:=hq oc u iO rv nc oA
 have Qu:=I1.ok.pK y c wj fk
 generalize hH:upd (upd H1 fa (.ext (L3.jr of oc c fa))) c (.own fa)=Hp at mE
 have Qv:Hp c=some (.own fa):=by rw[<-hH,bL]
 have atf:Hp fa=some (.ext (L3.jr of oc c fa)):=by rw[<-hH,bc oA.symm,bL]
 have lV:∀b,b≠fa->b≠c->Hp b=H1 b:=λb n1 n2=>by rw[<-hH,bc n2,bc n1]
 have nfs:c ∉ X.fs:=λhb=>by
  obtain⟨_,o,ho,_⟩:=I1.ok.gK.mem hb
  exact absurd (de (bP ho) Qu) (gw _)
 have nst:∀b∈eo X.stack,b≠c:=λb hb z=>by
  rcases cA.mp (I1.z7 b hb)with e | hb
  ·exact I1.nJ y c fk (z ▸ e)
  ·exact nfs (z ▸ hb)
 have cY5:cI X.prog X.w Hp s1.heap:=λb ob q=>by
  by_cases z1:b=c
  ·subst z1;rw[Qv]at q;cases q;exact⟨_,gc⟩
  ·by_cases z2:b=fa
   ·subst z2;rw[atf]at q;cases q
    exact⟨⟨gf,gc⟩,⟨_,gf⟩,λh1 h2 p kk=>⟨kk _ _ (.inl rfl) p.1,kk _ _ (.inr Qv) p.2⟩⟩
   ·rw[lV b z2 z1]at q
    have x1:=(I1.aJ b ob q).rem (f:=fa) (c:=c) z2 hf (.inr nc) (Qe gf (λ_ p=>p) hd)
    have up:∀{b' o'},rem H1 fa c b'=some o'->Hp b'=some o':=λ{b' o'} q=>by
     obtain⟨n1,n2,q'⟩:=Qb q
     rw[lV b' n1 n2];exact q'
    exact x1.kh (λ_ _ _ q=>q) (λ_ q=>up q) (λ_ _ q=>up q) λ_ _ q=>up q
 have e0:iS X.prog X.w X.K X.mg X.base X.A X.stack s1 Hp:=by
  have e1:=I1.wC
  refine⟨e1.frames,e1.mod,λb ob q=>⟨(e1.bs b ob q).1,?_⟩,e1.jP,e1.gK,λb hb=>?_,cY5,e1.bare⟩
  ·have hb0:=(I1.ok.bs b ob q).1
   rw[lV b (λz=>by have:=(e1.bs b ob q).2;rw[z,hf]at this;cases this) (λz=>absurd (de (bP hb0) (z ▸ Qu)) (gw _))]
   exact(e1.bs b ob q).2
  ·have nb:=e1.jQ b hb
   rw[lV b (λz=>by rw[z,hf]at nb;cases nb) (nst b hb)];exact nb
 have hlen:us.length=ps.length:=by rw[<-r.length];exact F.len _ _ _ _ mE
 refine wpAny_call (codeAny_mono (F.run X.A X.stack s1 Hp ⟨us,[]⟩ us vs _ E hr e0 (by have:=hb s1 us I1.cY (by rw[fV];exact hlen);rwa [fV]at this) r mE) λrr s' hz=>?_)
 cases rr with
 | error e=>exact hz.elim
 | ok fl =>
  cases fl with
  | next=>exact fH hz
  | brk=>exact fH hz
  | cont=>exact fH hz
  | ret u' =>
   obtain⟨v',H2,os,bare,un,Qw,rv',q1,q2,q3⟩:=hz
   obtain⟨_,Qx⟩:=Qw.lam q1
   refine I1.after ⟨v',rem H2 fa c,os,bare,⟨λb ob g n hb hx=>?_,λb ob g n hb hx=>?_,λb ob g n hx=>?_,un.there,λb xs g=>?_,λb ob xs g=>?_,λb ps g=>?_⟩,Qw.rem q1 q2 hd,rv',q3⟩
   ·by_cases z:b=c
    ·rw[z,gc]at g;cases g;rw[z];exact Qx
    ·exact un.keep b ob g (by rw[lV b (λz=>by rw[z,hf]at n;cases n) z];exact n) hb hx
   ·by_cases z:b=c
    ·rw[z,gc]at g;cases g;rw[z];exact⟨_,Qx⟩
    ·exact un.slot b ob g (by rw[lV b (λz=>by rw[z,hf]at n;cases n) z];exact n) hb hx
   ·by_cases z:b=c
    ·rw[z];exact Bb
    ·exact uT (un.free b ob g (by rw[lV b (λz=>by rw[z,hf]at n;cases n) z];exact n) hx)
   ·have n1:b≠fa:=λz=>by rw[z,hf]at g;cases g
    have n2:b≠c:=λz=>by rw[z,nc]at g;cases g
    rw[ib n1 n2]
    exact un.jN b xs (by rw[lV b n1 n2];exact g)
   ·have n1:b≠fa:=λz=>by rw[z,hf]at g;cases g
    have n2:b≠c:=λz=>by rw[z,nc]at g;cases g
    rw[ib n1 n2]
    exact un.jm b ob xs (by rw[lV b n1 n2];exact g)
   ·have n1:b≠fa:=λz=>by rw[z,hf]at g;cases g
    have n2:b≠c:=λz=>by rw[z,nc]at g;cases g
    rw[ib n1 n2]
    exact un.iy b ps (by rw[lV b n1 n2];exact g)
end
end L2
namespace L3
open PySem L2 PySem.Spec PyProof.Rows
theorem yh{ts:List Addr}{H H':Hp}(h:Tb ts H)(s:af H H'):Tb ts H':=λP hP=>by
 obtain⟨ps,e⟩:=h P hP
 obtain⟨m,e2⟩:=s.tb P ps e
 exact⟨_,e2⟩
theorem Qy{P:Program}{w:World}{K:PySem.W.Frag}{mg:Str->Option Value}{base:Heap}{n:Nat}{p1 p2 x qn:Str}{params:Arguments}{body:Expr}{scope:Scope}{pm je:Value}{oc:Obj}{c k:Addr}{m:Int}{tm:Tok}{sp:uU}(S:Qh p1 p2 x scope)
  (iO:oc.data=.cell (some (.int m tm))) (hb:∀u1 u2:Value,bindArgs (PySem.W.kla_fn "<lambda>" qn params body scope [(x,c)] pm (.ref k) je) ⟨[u1,u2],[]⟩=pure [(p1,u1),(p2,u2)])
  (gO:∀(q:Str) (f:Addr) (A:Around) (outer:List Env) (s:Shared) (H:Hp) (E:XK),bW n (A.deeper (PySem.W.envX q scope s.heap.objs.size f (.ref k) [(x,c)])) ->
   ∃t:aO,PE (qQ aQ P w K mg base [p1,p2,x] q scope f (.ref k) [(x,c)] A outer s H E).fY body (lE t)/\∀i j Qd,sp i j Qd->t [some (.int i),some (.int j),some (.int m)] λd _=>∃r,d=.int r/\Qd r) :
  yc P w K mg base (n+1) (PySem.W.kla_obj "<lambda>" qn params body scope [(x,c)] pm k je) oc c k sp where
 fn:=⟨_,_,_,_,rfl⟩
 run A outer s H f t u i j Qd hr e0 gf gc hH cK h:=by
  obtain⟨q,cK⟩:=cK
  obtain⟨tt,ht,hq⟩:=gO q f A outer s H (λ_ _ _=>False) (hr.deeper _)
  refine cm7 (v1:=.int i) (v2:=.int j) (vc:=.int m) (E:=λ_ _ _=>False) S e0 hr gf ⟨oc,gc,iO⟩ ⟨tm,rfl⟩ hH cK (hb _ _) ⟨t,rfl⟩ ⟨u,rfl⟩ ht.fY ?_
  refine⟨⟨H,H⟩,H,_,[],_,?_,hq i j Qd h,λd ah v F' H' hd f1 h1 c1=>?_⟩
  ·exact aq.start (ds:=[.int i,.int j,.int m]) (vs:=[.int i,.int j,.int m]) (af.refl H) (.int (.int (.int .nil))) 0
  ·obtain⟨r,rfl,hd⟩:=hd
   have s1:=c1.top
   cases s1
   exact⟨r,rfl,hd,h1⟩
section
variable{X:Cx}{CX:eO}{n:Nat}{f:Addr}{fd:FuncData}{ps:List Str}{sp:bg}{E:XK}{x:Str}{p pos:Pos}{e:Expr}{es:List Expr}{t:cC}{tl:List Addr}
theorem Qz(hT:Tb tl X.jO)(F:aM X.prog X.w X.K X.mg X.base CX n f fd ps (uS tl (bh sp)))(hr:bW n X.A)(hg:Gl X x)(hm:X.mg x=some (.ref f))(hk:PySem.W.keepIn X.K (.ref f)=true)(hb:Binds X.K fd ps [])(hx:jT CX X E)
  (ha:PA X (e::es) (lA t)) (dW:(x==("__debug__":Str))=false:=by decide) (he:starEach (e::es) X.env=(false,eval e X.env)::starEach es X.env:=by rfl) (bN:(backTo pos (starEach es X.env)).any (·.1)=false:=by rfl) :
  PE X (.Call (.Name x p) (e::es) [] pos) (lE (qp sp t)):=by
 intro pins s σ H Q I zz
 obtain⟨B,F',δ,ts,Qd,c,q,k⟩:=zz
 have tb:=Fz I hT
 refine iT F hr hg hm hk hb .nil hx ha dW he bN pins s σ H Q I ⟨B,F',δ,ts,_,c,q,λds ak vs F1 H1 q1 f1 h1 c1 s1=>?_⟩
 refine⟨yh tb h1,?_⟩
 rw[fV]
 exact w4 c1 s1 q1 λd v F' H' hd hf hs c'=>k d ak v F' H' hd (f1.trans hf) (h1.trans hs) c'
end
section
variable{P:Program}{w:World}{K:PySem.W.Frag}{mg:Str->Option Value}{base:Heap}
theorem FG{x qual:Str}{st:Stmt}{f:Addr}{fd:FuncData}{N ps:List Str}{k:Nat}{sp:bg}{tl:List Addr}(F:ax K x qual st f fd)(S:aZ N ps (aK st))(len:∀ds Q,sp ds Q->ds.length=ps.length)
  (gO:∀(aD:Value) (A:Around) (outer:List Env) (s:Shared) (H:Hp) (E:XK),Tb tl H->bW k (A.deeper (envOfC qual (aK st) s.heap.objs.size f aD)) ->
   ∃t:cM,PSs (iz aQ P w K mg base N qual (aK st) f aD A outer s H E).fY (fw st) (lS (iz aQ P w K mg base N qual (aK st) f aD A outer s H E).fY t)/\∀ds Q,sp ds Q->t { nx:=λ_=>Q .au,rt:=Q } (ku N ds)):aM P w K mg base aQ (k+1) f fd ps (uS tl (bh sp)):=by
 refine F.ok S (λvs H Q E ⟨_,F,ds,Qd,e,r,h,_⟩=>by rw[<-r.length];exact len ds Qd h) λaD A outer s H vs Q E hr zz=>?_
 obtain⟨tb,F,ds,Qd,e,r,h,k⟩:=zz
 obtain⟨t,ht,hq⟩:=gO aD A outer s H E tb hr
 have fin:∀d v ah aI F' H',Qd d->aq ⟨H,F⟩ F' H' aI ah [(d,v)]->Q v H':=λd v ah aI F' H' hd c=>by
  obtain⟨A,C,r',s',nd,fr⟩:=c.own
  exact k d v F' H' A hd c.b1 c.b2 c.ext c.b3 r' (hV.mp nd).1 λa ha=>fr a (eR _ ha)
 have e1:L2.start N vs=vs.map some++bj (N.length-ds.length) none:=by unfold L2.start;rw[r.length]
 refine⟨_,ht,⟨H,F⟩,F,ku N ds,_,?_,hq ds Qd h,λah aI F' H' hd c=>fin .au .au ah aI F' H' hd (c.pushS (.au .nil) rfl),fin,λ_ _ _ _ z=>z.elim,λ_ _ _ _ z=>z.elim,XL.none (λ_ _ z=>z) λ_ _ z=>z⟩
 rw[e1]
 exact aq.start e r _
theorem QB{x qual:Str}{st:Stmt}{f cc:Addr}{fd:FuncData}{N ps:List Str}{k:Nat}{sp:Sp}(F:ax K x qual st f fd)(Bd:fd.code=.ref cc)(S:aZ N ps (aK st))(len:∀vs H Q E,sp vs H Q E->vs.length=ps.length)
  (gO:∀(A:Around) (outer:List Env) (s:Shared) (H:Hp) (vs:List V) (Q:VK) (E:XK),bW k (A.deeper (envOfC qual (aK st) s.heap.objs.size f (.ref cc)))->sp vs H Q E ->
   ∃t,PSs (iz aQ P w K mg base N qual (aK st) f (.ref cc) A outer s H E).fY (fw st) t/\t { nx:=λ_ H'=>Q .au H',rt:=Q } (L2.start N vs) H):aM P w K mg base aQ (k+1) f fd ps sp:=by
 obtain⟨oc,od,kV,doc,pm,an,aD,ct,g5,rfl,lk,cK⟩:=F.ex
 obtain rfl:aD=.ref cc:=Bd
 refine Ao lk cK S len λA outer s H vs Q E hr g7=>?_
 obtain⟨t,h,q⟩:=gO A outer s H vs Q E hr g7
 exact⟨t,h.fY,q⟩
end
end L3
namespace L3
open PySem L2 PySem.Spec PyProof.Rows
theorem bS9{ns:List Str}{xs:List D}{ws:List V}{F H:Hp}{f:Str}{d:D}(r:R F H xs ws [])(h:(ns.zip xs).lookup f=some d):∃w,(ns.zip ws).lookup f=some w/\R F H [d] [w] []:=by
 generalize e:([]:List Addr)=A at r
 induction ns generalizing xs ws A with
 | nil=>simp at h
 | cons n ns ih =>
  cases xs with
  | nil=>simp at h
  | cons x xs =>
   obtain⟨v,bS,A1,A2,rfl,rfl,h1,h2⟩:=R.cL r
   obtain⟨rfl,rfl⟩:=pq.mp e.symm
   rw[Ws]at h ⊢
   by_cases z:f=n
   ·subst z
    rw[fI,beq_self_eq_true]at h
    cases h
    refine⟨v,?_,h1⟩
    rw[fI,beq_self_eq_true]
   ·have z':(f==n)=false:=beq_eq_false_iff_ne.mpr z
    rw[fI,z']at h
    obtain⟨w,e1,e2⟩:=ih h [] rfl h2
    refine⟨w,?_,e2⟩
    rw[fI,z']
    exact e1
theorem FH{ns:List Str}{ws:List V}{f:Str}(h:f ∉ ns):(ns.zip ws).lookup f=none:=by
 induction ns generalizing ws with
 | nil=>simp
 | cons n ns ih =>
  cases ws with
  | nil=>simp
  | cons w ws =>
   rw[Ws,fI]
   have hn:(f==n)=false:=beq_eq_false_iff_ne.mpr λz=>h (by rw[z];simp)
   simp only[hn]
   exact ih λz=>h (by simp[z])
theorem yi{F H:Hp}{C:Addr}{ns:List Str}{xs:List D}{v:V}(s:S F H [.obj C ns xs] [v]):∃p dx ws,v=.ref p/\H p=some (.ins C dx (ns.zip ws))/\ns.length=ws.length/\R F H xs ws []:=by
 cases s with
 | obj h l r _=>exact⟨_,_,_,rfl,h,l,r⟩
section
variable{X:Cx}{e o:Expr}{es:List Expr}{f m x:Str}{pos p apos:Pos}{t to:aO}{ta:cC}{n:Nat}
noncomputable def qS(K:PySem.W.Frag)(t:aO)(f:Str):aO:=λδ Q=>t δ λd ah=>∃C ns xs v,d=.obj C ns xs/\cw K C/\bf K C f/\(ns.zip xs).lookup f=some v/\Q v ah
theorem cF3(he:PE X e (lB t))(hb:attributeBase e f X.env (eval e X.env)=eval e X.env:=by rfl):PE X (.Attribute e f pos) (lB (qS X.K t f)) :=
 dn (pZ he hb) λσ H Q ⟨B,F,δ,ts,Qd,c,q,k⟩=>⟨B,F,δ,ts,_,c,q,λd ah v F' H' ⟨C,ns,xs,w,ed,hc,hn,hl,hq⟩ f1 h1 c1 s1=>by
  subst ed
  obtain⟨p,dx,ws,rfl,hp,_,r⟩:=yi s1
  obtain⟨u,hu,ru⟩:=bS9 r hl
  exact⟨p,C,dx,_,u,rfl,hp,hc,hn,hu,k w ah u F' H' hq f1 h1 c1 ru.s⟩⟩
structure jf(P:Program)(w:World)(K:PySem.W.Frag)(mg:Str->Option Value)(base:Heap)(n:Nat)(m:Str)(C:Addr)(sp:bg):Prop where
 cls:cw K C
 ex:∃f fd ps,Meth K C m f/\aM P w K mg base aQ n f fd ps (bh sp)/\Binds K fd ps []
noncomputable def qT(MO:Addr->bg->Prop)(m:Str)(to:aO)(ta:cC):aO:=λδ Q=>to δ λd ak=>∃C ns xs sp,d=.obj C ns xs/\MO C sp/\m ∉ ns/\ta ak λds aW=>sp ((D.obj C ns xs::ds).map D.sh) λr=>((D.obj C ns xs::ds).all D.pl||r.fr)=true/\Q r aW
theorem cx2{pl:Sem Bool}(ho:PE X o (lB to))(hr:bW n X.A)(ha:PA X (e::es) (lA ta))
  (cZ:starEach (e::es) X.env=(false,eval e X.env)::starEach es X.env:=by rfl) (bN:(backTo pos (starEach es X.env)).any (·.1)=false:=by rfl)
  (ht:eval (.Call (.Attribute o m apos) (e::es) [] pos) X.env=(do
   let ov<-eval o X.env
   standAt apos.atName
   let (f,first)<-holding [ov] (getMethod ov m pl)
   callWith pos f first (backTo pos (starEach (e::es) X.env)) (backToKw pos (keywordEach [] X.env))):=by rfl) :
  PE X (.Call (.Attribute o m apos) (e::es) [] pos) (lE (qT (jf X.prog X.w X.K X.mg X.base n m) m to ta)):=by
 intro pins s σ H Q I zz
 obtain⟨B,F,δ,ts,Qd,c,q,k⟩:=zz
 refine PySem.W.methodCall_KW (pl:=pl) (aP (ho pins s σ H (λx H1=>∃d ak F1,S F1 H1 [d] [x]/\aq B F1 H1 σ ak ts/\af F F1/\af H H1/\∃C ns xs sp,d=.obj C ns xs/\jf X.prog X.w X.K X.mg X.base n m C sp/\m ∉ ns/\ta ak λds aW=>sp ((D.obj C ns xs::ds).map D.sh) λr=>((D.obj C ns xs::ds).all D.pl||r.fr)=true/\Qd r aW) I
  ⟨B,F,δ,ts,_,c,q,λd ak v F1 H1 hq f1 h1 c1 s1=>⟨d,ak,F1,s1,c1,f1,h1,hq⟩⟩) λu s1 ⟨x,H1,I1,rx,d,ak,F1,sd,c1,f1,h1,C,ns,xs,sp,ed,M,hm,hq⟩=>?_) ht
 subst ed
 obtain⟨a,dx,ws,rfl,ea,hl,r0⟩:=yi sd
 obtain rfl:u=cN a:=rx
 obtain⟨f,fd,ps,oB,FO,hb⟩:=M.ex
 refine Am I1 ea M.cls oB (FH hm) ?_
 refine PySem.W.callWith_K (first:=[.ref a]) (h₀:=X.base) I.ok.mod.mB oB.kp (aP (ha pos pins s1 σ H1 (λvs H2=>∃ds aW F2,S F2 H2 ds vs/\aq B F2 H2 σ aW ts/\af F1 F2/\af H1 H2/\sp ((D.obj C ns xs::ds).map D.sh) λr=>((D.obj C ns xs::ds).all D.pl||r.fr)=true/\Qd r aW) I1
  ⟨B,F1,ak,ts,_,c1,hq,λds aW vs F2 H2 hq f2 h2 c2 s2=>⟨ds,aW,F2,s2,c2,f2,h2,hq⟩⟩) λus s2 ⟨vs,H2,I2,r,ds,aW,F2,FI,c2,f2,h2,g7⟩=>⟨I2.cY,?_⟩) cZ bN
 refine sQ (us:=.ref a::us) (vs:=.ref a::vs) (e7:=[]) FO hr hb .nil aR I2 (.cons rfl r) ?_
 rw[fV]
 exact w4 c2 (.obj (h2 _ _ ea) hl (r0.shared f2 h2) FI) g7 λd v F' H' hd hf hs c'=>k d aW v F' H' hd (f1.trans (f2.trans hf)) (h1.trans (h2.trans hs)) c'
noncomputable def qU(MO:Addr->bg->Prop)(m:Str)(to:aO):aO:=λδ Q=>to δ λd ak=>∃C ns xs sp,d=.obj C ns xs/\MO C sp/\m ∉ ns/\sp [D.obj C ns xs] λr=>Q r ak
theorem cm3{pl:Sem Bool}(ho:PE X o (lB to))(hr:bW n X.A)
  (ht:eval (.Call (.Attribute o m apos) [] [] pos) X.env=(do
   let ov<-eval o X.env
   standAt apos.atName
   let (f,first)<-holding [ov] (getMethod ov m pl)
   callWith pos f first (backTo pos (starEach [] X.env)) (backToKw pos (keywordEach [] X.env))):=by rfl) :
  PE X (.Call (.Attribute o m apos) [] [] pos) (lE (qU (jf X.prog X.w X.K X.mg X.base n m) m to)):=by
 intro pins s σ H Q I zz
 obtain⟨B,F,δ,ts,Qd,c,q,k⟩:=zz
 refine PySem.W.methodCall_KW (pl:=pl) (aP (ho pins s σ H (λx H1=>∃d ak F1,S F1 H1 [d] [x]/\aq B F1 H1 σ ak ts/\af F F1/\af H H1/\∃C ns xs sp,d=.obj C ns xs/\jf X.prog X.w X.K X.mg X.base n m C sp/\m ∉ ns/\sp [D.obj C ns xs] λr=>Qd r ak) I
  ⟨B,F,δ,ts,_,c,q,λd ak v F1 H1 hq f1 h1 c1 s1=>⟨d,ak,F1,s1,c1,f1,h1,hq⟩⟩) λu s1 ⟨x,H1,I1,rx,d,ak,F1,sd,c1,f1,h1,C,ns,xs,sp,ed,M,hm,hq⟩=>?_) ht
 subst ed
 obtain⟨a,dx,ws,rfl,ea,hl,r0⟩:=yi sd
 obtain rfl:u=cN a:=rx
 obtain⟨f,fd,ps,oB,FO,hb⟩:=M.ex
 refine Am I1 ea M.cls oB (FH hm) ?_
 refine PySem.W.callWith_K0 (first:=[.ref a]) I1.cY oB.kp (sQ (us:=[.ref a]) (vs:=[.ref a]) (e7:=[]) FO hr hb .nil aR I1 (.cons rfl .nil) ?_)
 show bh sp [.ref a] H1 Q E0
 exact w4 (Qd:=λr=>Qd r ak) c1 (.obj ea hl r0 .nil) (by simpa[D.sh,D.pl]using hq) λd v F' H' hd hf hs c'=>k d ak v F' H' hd (f1.trans hf) (h1.trans hs) c'
end
structure bI(x:Addr)(H H':Hp):Prop where
 get:∀b o,b≠x->H b=some o->iW o=true->H' b=some o
 tb:∀b ps,H b=some (.dr ps)->∃more,H' b=some (.dr (ps++more))
theorem bI.trans{x:Addr}{H H1 H2:Hp}(a:bI x H H1)(b:bI x H1 H2):bI x H H2 :=
 ⟨λc o n h t=>b.get c o n (a.get c o n h t) t,λc ps h=>by
  obtain⟨m1,e1⟩:=a.tb c ps h
  obtain⟨m2,e2⟩:=b.tb c _ e1
  exact⟨m1++m2,by rw[e2,rP]⟩⟩
theorem af.x{x:Addr}{H H':Hp}(h:af H H'):bI x H H':=⟨λb o _ e n=>h.get b o e n,h.tb⟩
theorem bI.upd{x C dx:Addr}{H:Hp}{o o':HO}(h:H x=some o)(n:iW o=true):bI x H (upd H x o') :=
 ⟨λb o z e _=>by rw[bc z];exact e,λb ps e=>⟨#[],by rw[bc (λz=>by rw[z,h]at e;cases e;cases n),e];simp⟩⟩
noncomputable def FJ(tl:List Addr)(C:Addr)(jx:List D->List Str->List D->Prop):Sp:=λvs H Q _=>∃x dx bS ds ns xs,vs=.ref x::bS/\Tb tl H/\H x=some (.ins C dx [])/\R H H ds bS []/\jx ds ns xs /\
 ∀H' ws A,bI x H H'->H' x=some (.ins C dx (ns.zip ws))->ns.length=ws.length->R (λ_=>none) H' xs ws A->A.Nodup->(∀a∈A,H a=none)->Q .au H'
noncomputable def uX(C:Addr)(jx:List D->List Str->List D->Prop)(ta:cC):aO:=λδ Q=>ta δ λds ah=>∃ns xs,jx (ds.map D.sh) ns xs/\Q (.obj C ns (xs.map D.sh)) ah
theorem aq.made{B:Bs}{F H H':Hp}{σ:L2.St}{δ:Dl}{ts:List (D × V)}{C dx x:Addr}{ns:List Str}{xs:List D}{ws:List V}{A:List Addr}(c:aq B F H σ δ ts)(hs:af H H')(hx:H' x=some (.ins C dx (ns.zip ws)))(hl:ns.length=ws.length)
  (r:R (λ_=>none) H' xs ws A) (fr:∀a∈A,H a=none):af F (L3.bt F H' A)/\aq B (L3.bt F H' A) H' σ δ ((.obj C ns (xs.map D.sh),.ref x)::ts):=by
 have c1:=c.grow hs
 have hF:∀a∈A,F a=none:=λa ha=>c.ext.free (fr a ha)
 have r1:R F H' xs ws A:=r.keep (af.of λb o e=>by cases e) (fL.same (af.refl _)) gB.nil hF (by simp)
 have r2:=r1.bt c1.ext A (λ_ h=>h)
 have fs:af F (L3.bt F H' A):=hJ c1.ext
 obtain⟨A',C',r',s',nd,uY⟩:=c.own
 have out:∀a,(∃ws,H a=some (.lst ws))/\F a=none->L3.bt F H' A a=none:=λa zz=>by
  obtain⟨⟨ws,h⟩,hf⟩:=zz
  rw[nV (λz=>by rw[fr a z]at h;cases h)];exact hf
 have g1:=r'.grow fs hs λa ha=>out a (r'.lists a ha)
 have g2:=s'.keep fs (fL.same hs) gB.nil (λa ha=>out a (s'.lists a ha)) (by simp)
 refine⟨fs,mP c1.ext,c1.b1,c1.b2.trans fs,λa ws h=>?_,A',C',?_,g2,nd,uY⟩
 ·by_cases z:a∈A
  ·exact .inr (c.b1.free (fr a z))
  ·rw[nV z]at h;exact c.b3 a ws h
 ·exact R.obj hx hl r2 g1
section
variable{X:Cx}{CX:eO}{n:Nat}{f C:Addr}{fd:FuncData}{ps:List Str}{jx:List D->List Str->List D->Prop}{E:XK}{x:Str}{p pos:Pos}{e:Expr}{es:List Expr}{t:cC}{tl:List Addr}
theorem QC(hT:Tb tl X.jO)(M:Mk X.K C f)(F:aM X.prog X.w X.K X.mg X.base CX n f fd ps (FJ tl C jx))(hr:bW (n+1) X.A)(hg:Gl X x)(hm:X.mg x=some (.ref C))(hb:Binds X.K fd ps [])(hx:jT CX X E)
  (ha:PA X (e::es) (lA t)) (dW:(x==("__debug__":Str))=false:=by decide) (he:starEach (e::es) X.env=(false,eval e X.env)::starEach es X.env:=by rfl) (bN:(backTo pos (starEach es X.env)).any (·.1)=false:=by rfl) :
  PE X (.Call (.Name x p) (e::es) [] pos) (lE (uX C jx t)):=by
 intro pins s σ H Q I zz
 obtain⟨B,F',δ,ts,Qd,c,q,k⟩:=zz
 have tb:=Fz I hT
 refine NY M F hr hg hm hb .nil hx ha dW he bN pins s σ H Q I ⟨B,F',δ,ts,_,c,q,λds ak vs F1 H1 q1 f1 h1 c1 s1=>?_⟩
 intro x dx cm dO lD
 obtain⟨ns,xs,hI,hq⟩:=q1
 have sm:af H1 (upd (upd H1 dx (.own x)) x (.ins C dx [])):=.of λb o e=>by rw[bc (eK e cm),bc (eK e dO)];exact e
 refine⟨x,dx,vs,ds.map D.sh,ns,xs,by rw[fV],yh (yh tb h1) sm,bL,(s1.frozen c1.ext).shared sm sm,hI,λH' ws A yj da hl r nd fr=>⟨rfl,?_⟩⟩
 have s2:af H1 H':=⟨λb o e n=>yj.get b o (eK e cm) (sm.get b o e n) n,λb ps e=>by
  obtain⟨m1,e1⟩:=sm.tb b ps e
  obtain⟨m2,e2⟩:=yj.tb b _ e1
  exact⟨m1++m2,by rw[e2,rP]⟩⟩
 obtain⟨fs,c2⟩:=c1.made s2 da hl r λa ha=>sm.free (fr a ha)
 exact k _ ak _ _ H' hq (f1.trans fs) (h1.trans s2) c2
end
end L3
namespace Mf
open PySem L2 L3
noncomputable def gm(m:Bool × Nat)(a b:Nat):Nat:=if m.1 then md (cl a b) m.2 else a*b%m.2
noncomputable def ae(m:Bool × Nat):Nat:=if m.1 then 2 ^ (bl m.2-1)else m.2
noncomputable def Bh(g:Nat->Nat->Nat)(a:Nat):Nat->Nat->List Int->Option (List Int)
 | 0,_,_=>none
 | f+1,p,acc=>if p=1 then some acc else if p<64 then Bh g a f (g p a) (acc++[(p:Int)])else none
noncomputable def FK(g:Nat->Nat->Nat)(a:Nat):Option (List Int):=Bh g a 64 (g 1 a) [1]
noncomputable def Bi(g:Nat->Nat->Nat)(many:Nat):Nat->Nat->List Int->Option (List Int)
 | 0,_,_=>none
 | f+1,st,l=>if l.length+1<many then(match FK g (st+1)with | some l'=>Bi g many f (st+1) l' | none=>none)else some l
noncomputable def yk(g:Nat->Nat->Nat)(many:Nat):Option (List Int):=match FK g 1 with | some l=>Bi g many 62 1 l | none=>none
noncomputable def ym(g:Nat->Nat->Nat):uU:=λi j Q=>∃a b:Nat,i=a/\j=b/\a<64/\b<64/\Q (g a b:Nat)
noncomputable def gD:List Nat:=[7,11,13,19,25,31,37,41,47,55,59,61,67,73,87,91,97,103,109,115,117]
noncomputable def m8:List Nat:=[2,3,5,7,11,13,17,19,23,29,31,37,41,43,47,53,59,61]
noncomputable def aG:List (Bool × Nat):=gD.map (λn=>(true,n))++m8.map λn=>(false,n)
noncomputable def by4(l:List Int):Nat->List Int
 | 0=>bj (l.length+1) 0
 | i+1=>(by4 l i).set (l.getD i 0).toNat (i:Int)
noncomputable def eE(l:List Int):List Int:=by4 l l.length
theorem yn(l:List Int):∀i,(by4 l i).length=l.length+1
 | 0=>by simp[by4]
 | i+1=>by simp[by4,yn l i]
noncomputable def oE(l g:List Int)(a:Nat):List Int:=if a=0 then bj (l.length+1) 0 else 0::(aL l.length).map λ(b:Nat)=>l.getD ((g.getD a 0+g.getD (b+1) 0)%(l.length:Int)).toNat 0
noncomputable def uZ(l g:List Int)(n:Nat):List D:=(aL n).map λa=>D.lst true (aF (oE l g a))
noncomputable def oF(l g:List Int):List D:=uZ l g (l.length+1)
end Mf
namespace L3
open PySem L2 Mf
noncomputable def LI(H:Hp)(p:Addr)(ns:List Int):Prop:=H p=some (.lst (ns.map V.int))
theorem LI.same{H H':Hp}{p:Addr}{ns:List Int}(h:LI H p ns)(s:af H H'):LI H' p ns:=s.get _ _ h
theorem LI.upd{H:Hp}{p x:Addr}{ns:List Int}{o o':HO}(h:LI H p ns)(hx:H x=some o)(n:∀ws,o≠.lst ws):LI (upd H x o') p ns:=by
 unfold LI
 rw[bc (λz=>by rw[z]at h;unfold LI at h;rw[hx]at h;cases h;exact n _ rfl)];exact h
theorem QD{F' H' H:Hp}{v:V}{A:List Addr}{ns:List Int}(r:R F' H' [.lst true (aF ns)] [v] A)(fr:∀a∈A,H a=none):∃p,v=.ref p/\LI H' p ns/\H p=none:=by
 cases r with
 | @own p ws xs A1 _ _ B1 hp hf r1 r2 =>
  have:=Fh r1.s
  subst this
  exact⟨p,rfl,hp,fr p (by simp)⟩
structure cZ2(K:PySem.W.Frag)(C f:Addr):Prop where
 cls:cw K C
 many:bf K C "many"
 wide:bf K C "wide"
 FL:bf K C "powers"
 cZ3:bf K C "logs"
 step:bf K C "step"
 sp:Meth K C "step_power" f
structure QE(g:Nat->Nat->Nat)(many:Nat)(l:List Int)(st:Int):Prop where
 lo:2<=many
 hi:many<=64
 step:yk g many=some l
 len:l.length+1=many
 ins:∀x∈l,0<=x/\x.toNat<=l.length
 st:l[((1:Int)%((many:Int)-1)).toNat]?=some st
noncomputable def ie(b:Str):List Str:=[b,"many","wide","powers","logs","step"]
noncomputable def Bj(n0:Int)(many:Nat)(p1 p2:Addr)(st:Int):List V:=[.int n0,.int many,.int ((bl many:Nat)-1),.ref p1,.ref p2,.int st]
theorem u0{f:Str}{v:V}:∀{fs:List (Str × V)},(∀p∈fs,p.1≠f)->bz f v fs=fs++[(f,v)]
 | [],_=>rfl
 | (g,x)::r,h=>by
  unfold bz
  rw[if_neg (h (g,x) (by simp)),u0 λp hp=>h p (by simp[hp])];rfl
theorem jV.qV{H:Hp}{x C dx f c k:Addr}{fs:List (Str × V)}{o':HO}{of oc:Obj}(h:jV H f of oc c k)(hx:H x=some (.ins C dx fs)):jV (L2.upd H x o') f of oc c k:=by
 obtain⟨ψ,e,yd⟩:=h.EK
 exact⟨by rw[bc (λz=>by rw[<-z,h.fn]at hx;cases hx)];exact h.fn,by rw[bc (λz=>by rw[<-z,h.cell]at hx;cases hx)];exact h.cell,ψ,by rw[bc (λz=>by rw[<-z,e]at hx;cases hx)];exact e,yd⟩
theorem yp{H:Hp}{x p:Addr}{o o':HO}(hx:H x=some o)(h:L2.upd H x o' p=none):H p=none:=by
 by_cases z:p=x
 ·subst z;rw[bL]at h;cases h
 ·rw[bc z]at h;exact h
theorem Bk{α:Type}{b f:Str}{v:α}{r:List (Str × α)}(h:b≠f):((b,v)::r).lookup f=r.lookup f:=by
 rw[fI,beq_eq_false_iff_ne.mpr (ft h)]
section
variable{H2 H3 H':Hp}{x f c p:Addr}{o1 o2:HO}
theorem yq{b:Addr}{o:HO}(e:H3 b=some o)(nb:b≠f)(nc:H3 c=none):L2.upd (L2.upd H3 f o1) c o2 b=some o:=by
 rw[bc (eK e nc),bc nb];exact e
theorem QF(hs:af H2 H3)(nf:H2 f=none)(nc:H3 c=none)(s:bI x (L2.upd (L2.upd H3 f o1) c o2) H'):bI x H2 (rem H' f c) where
 get b o n e t:=by
  have z1:=eK e nf
  have e3:=hs.get b o e t
  rw[ib z1 (eK e3 nc)]
  exact s.get b o n (yq e3 z1 nc) t
 tb b ps e:=by
  have z1:=eK e nf
  obtain⟨m,e3⟩:=hs.tb b ps e
  obtain⟨m2,e4⟩:=s.tb b _ (yq e3 z1 nc)
  exact⟨m++m2,by rw[ib z1 (eK e3 nc),e4,rP]⟩
theorem Bl(hs:af H2 H3)(h:L2.upd (L2.upd H3 f o1) c o2 p=none):H2 p=none:=by
 refine hs.free ?_
 by_cases z:p=c
 ·subst z;rw[bL]at h;cases h
 ·rw[bc z]at h
  by_cases z2:p=f
  ·subst z2;rw[bL]at h;cases h
  ·rw[bc z2]at h;exact h
theorem LI.rem{l:List Int}{φ:Heap->Prop}{y:Addr}(h:LI H' p l)(hf:H' f=some (.ext φ))(hc:H' c=some (.own y)):LI (rem H' f c) p l:=by
 unfold LI at h ⊢
 rw[ib (λz=>by rw[z,hf]at h;cases h) (λz=>by rw[z,hc]at h;cases h)];exact h
theorem QG{of oc:Obj}{k:Addr}(lD:c≠f)(nc:H3 c=none)(hk:EJ H3 k)(kf:k≠f):jV (L2.upd (L2.upd H3 f (.ext (jr of oc c f))) c (.own f)) f of oc c k:=by
 obtain⟨ψ,e,yd⟩:=hk
 exact⟨by rw[bc lD.symm,bL],bL,ψ,yq e kf nc,yd⟩
end
noncomputable def fl(m:Bool × Nat):List Int:=(yk (gm m) (ae m)).getD []
noncomputable def fst(m:Bool × Nat):Int:=(fl m).getD ((1:Int)%((ae m:Int)-1)).toNat 0
noncomputable def QH(m:Bool × Nat):Bool:=decide (2<=ae m)&&decide (ae m<=64)&&(yk (gm m) (ae m)).isSome&&decide ((fl m).length+1=ae m)&&(fl m).all (λx=>decide (0<=x)&&decide (x.toNat<=(fl m).length))&&decide (((1:Int)%((ae m:Int)-1)).toNat<(fl m).length)
theorem cj1:aG.all QH=true:=by decide +kernel
theorem cU{m:Bool × Nat}(h:m∈aG):QE (gm m) (ae m) (fl m) (fst m):=by
 have h:=cX.mp cj1 m h
 simp only[QH,dZ,decide_eq_true_eq,cX]at h
 obtain⟨⟨⟨⟨⟨h1,h2⟩,h3⟩,h4⟩,h5⟩,h6⟩:=h
 obtain⟨l,e⟩:=zD.mp h3
 have el:fl m=l:=by unfold fl;rw[e];rfl
 refine⟨h1,h2,by rw[e,el],h4,λx hx=>h5 x hx,?_⟩
 unfold fst
 rw[aY,aS h6];rfl
theorem cb8:∀p∈m8,(decide (2<=(p:Int))&&decide ((p:Int)<=61)&&(aL ((p:Int).toNat-2)).all λi=>(p:Int)%(2+(i:Int)) != 0)=true:=by decide +kernel
theorem cl0:∀p∈gD,(decide (4<=(p:Int))&&decide ((p:Int)<=127)&&al (p:Int).toNat)=true:=by decide +kernel
theorem R.qV{F H:Hp}{x C dx:Addr}{fs:List (Str × V)}{o':HO}{ds:List D}{vs:List V}{A:List Addr}(r:R F H ds vs A)(hx:H x=some (.ins C dx fs))(hd:ds.all D.fr=true):R F (L2.upd H x o') ds vs A:=by
 have up:∀{a o},H a=some o->(∀C dx fs,o≠.ins C dx fs)->L2.upd H x o' a=some o:=λ{a o} e n=>by
  rw[bc (λz=>by rw[z,hx]at e;cases e;exact n _ _ _ rfl)];exact e
 induction r with
 | nil=>exact .nil
 | au _ ih=>exact .au (ih (by simpa[D.fr]using hd))
 | bl _ ih=>exact .bl (ih (by simpa[D.fr]using hd))
 | int _ ih=>exact .int (ih (by simpa[D.fr]using hd))
 | str _ ih=>exact .str (ih (by simpa[D.fr]using hd))
 | shr h x _ i1 ih=>simp[gg]at hd
 | own h f _ _ i1 i2 =>
  rw[dh,gg,dZ,mq]at hd
  exact .own (up h λ_ _ _ z=>by cases z) f (i1 hd.1) (i2 hd.2)
 | tup h _ _ i1 i2 =>
  rw[dh,qf,dZ]at hd
  exact .tup (up h λ_ _ _ z=>by cases z) (i1 hd.1) (i2 hd.2)
 | obj h l x _ i1 ih=>simp[D.fr]at hd
 | fz h x _ i1 ih=>simp[D.fr]at hd
 | @bE p z _ _ _ h r ih =>
  refine .bE ?_ (ih (by simpa[D.fr]using hd))
  cases z with
  | ext φ=>exact up h λ_ _ _ z=>by cases z
  | lam of oc c k=>exact jV.qV h hx
theorem QI(l g:List Int):(oF l g).all D.fr=true:=by
 unfold oF uZ
 rw[kS,cX]
 intro a _
 show(D.lst true (aF _)).fr=true
 rw[gg,qJ];rfl
theorem bI.free{x a:Addr}{H H':Hp}(s:bI x H H')(hx:H' x≠none)(h:H' a=none):H a=none:=by
 cases q:H a with
 | none=>rfl
 | some o =>
  by_cases z:a=x
  ·subst z;exact absurd h hx
  ·cases n:iW o with
   | true=>rw[s.get a o z q n]at h;cases h
   | false =>
    obtain⟨ps,rfl⟩:=EI n
    obtain⟨m,e⟩:=s.tb a ps q
    rw[e]at h;cases h
theorem QJ(l:List Int):∀i,∀x∈by4 l i,0<=x
 | 0=>λx hx=>by rw[(Dy.mp hx).2];exact Int.le_refl _
 | i+1=>λx hx=>by
  unfold by4 at hx
  rcases DC hx with h | h
  ·exact QJ l i x h
  ·rw[h];exact MR _
theorem QK:∀p∈gD,bl p<=7:=by decide +kernel
theorem QL:∀p∈gD,1<=bl p:=by decide +kernel
theorem b91(a b:Nat):bl (cl a b)<=bl a+bl b:=by
 by_cases ha:a=0
 ·subst ha;rw[nR];exact kP _
 ·by_cases hb:b=0
  ·subst hb
   have:cl a 0=0:=rfl
   rw[this];exact kP _
  ·rw[OD ha hb];omega
noncomputable def m9(l g:List Int):List D:=(aL (l.length+1)).map λa=>D.lst false (aF (oE l g a))
theorem b73(l g:List Int):(D.lst true (oF l g)).sh=.lst false (m9 l g):=by
 rw[dF]
 unfold oF uZ m9
 rw[bR]
 congr 1
 apply pB
 intro a _
 show D.sh (.lst true (aF _))=_
 rw[dF,j3]
theorem bX3(l g:List Int):(m9 l g).all D.pl=true:=by
 unfold m9
 rw[kS,cX]
 intro a _
 show(D.lst false (aF _)).pl=true
 rw[fK,mZ];rfl
noncomputable abbrev pD(m:Bool × Nat):List D:=[.int m.2,.int (ae m),.int ((bl (ae m):Nat)-1),.lst false (aF (fl m)),.lst false (aF (eE (fl m))),.int (fst m)]
noncomputable def qW(C:Addr)(p:Nat):D:=.obj C (ie "prime") (pD (false,p))
noncomputable def qX(C:Addr)(p:Nat):D:=.obj C (ie "bits"++[("products":Str)]) (pD (true,p)++[.lst false (m9 (fl (true,p)) (eE (fl (true,p))))])
noncomputable def fD(cb cp:Addr)(m:Bool × Nat):D:=if m.1 then qX cb m.2 else qW cp m.2
end L3
namespace L3
open PySem L2 Mf
theorem yr{u p:Nat}(h:bl u<bl p):md u p=u:=wM (q:=0) (by rw[nR,nF]) h
theorem bY0{u v n:Nat}(hu:bl u<n)(hv:bl v<n):bl (u ^^^ v)<n:=by
 have h1:u<2 ^ (n-1):=eW.mp (by omega)
 have h2:v<2 ^ (n-1):=eW.mp (by omega)
 have:=eW.mpr (sU h1 h2)
 omega
theorem Bo{p:Nat}(hp:p≠0)(u v:Nat):md (u ^^^ v) p=md u p ^^^ md v p:=by
 obtain⟨⟨q1,e1⟩,l1⟩:=wL hp u
 obtain⟨⟨q2,e2⟩,l2⟩:=wL hp v
 refine wM (q:=q1 ^^^ q2) ?_ (bY0 l1 l2)
 rw[nQ,<- Ot,<- e1,<- e2]
theorem QM{p:Nat}(hp:p≠0)(w:Nat):md (cl p w) p=0:=by rw[wK];exact ZI w hp
theorem dH:∀m∈aG,0<m.2:=by decide +kernel
theorem jy(m:Bool × Nat)(a b:Nat):gm m a b=gm m b a:=by
 unfold gm
 split
 ·rw[wK]
 ·rw[mi]
theorem QN{n:Nat}(hn:n≠0)(u c:Nat):md (cl (md u n) c) n=md (cl u c) n:=by
 obtain⟨⟨q,e⟩,_⟩:=wL hn u
 have h:cl u c=cl n (cl q c) ^^^ cl (md u n) c:=by
  conv=>lhs;rw[e]
  rw[nQ,wK n q,OI]
 rw[h,Bo hn,QM hn,nF]
theorem lW{m:Bool × Nat}(h:0<m.2)(a b c:Nat):gm m (gm m a b) c=gm m a (gm m b c):=by
 unfold gm
 split
 ·rw[QN (by omega),wK (md (cl b c) m.2) a,QN (by omega),OI a b c,wK (cl b c) a]
 ·rw[vW,Ng,<- vW,vW a (b*c%m.2),Ng,<- vW,si]
theorem QO{m:Bool × Nat}(h:m.1=true){a:Nat}:a<ae m↔bl a<=bl m.2-1:=by
 unfold ae
 rw[if_pos h];exact eW.symm
theorem qY{m:Bool × Nat}{a:Nat}(ha:a<ae m):gm m 1 a=a:=by
 obtain⟨k,n⟩:=m
 cases k with
 | true =>
  show md (cl 1 a) n=a
  rw[Ep]
  have h1:=(QO (m:=(true,n)) rfl).mp ha
  have h1:bl a<=bl n-1:=h1
  by_cases z:bl n=0
  ·have a0:a=0:=by
    have:=eW (n:=a) (m:=0)
    have:=this.mp (by omega)
    omega
   subst a0
   have n0:n=0:=by
    have:=(eW (n:=n) (m:=0)).mp (by omega)
    omega
   subst n0
   decide
  ·exact yr (by omega)
 | false=>show 1*a%n=a;rw[Nat.one_mul];exact vX ha
theorem u3{m:Bool × Nat}{a:Nat}(ha:a<ae m):gm m a 1=a:=by rw[jy];exact qY ha
noncomputable def lg(m:Bool × Nat)(a:Nat):Int:=(eE (fl m)).getD a 0
noncomputable def pw(m:Bool × Nat)(k:Nat):Int:=(fl m).getD k 0
noncomputable def FN(m:Bool × Nat):Bool:=((aL (ae m-1)).all λk=>decide (1<=pw m k)&&decide (pw m k<ae m)&&decide (lg m (pw m k).toNat=k))&&((aL (ae m-1)).all λa=>decide (0<=lg m (a+1))&&decide (lg m (a+1)<(ae m:Int)-1)&&decide (pw m (lg m (a+1)).toNat=((a+1:Nat):Int)))
theorem QP:aG.all FN=true:=by decide +kernel
theorem Bp{m:Bool × Nat}(hm:m∈aG){k:Nat}(hk:k<ae m-1):1<=pw m k/\pw m k<ae m/\lg m (pw m k).toNat=k:=by
 have h:=cX.mp QP m hm
 simp only[FN,dZ,cX,decide_eq_true_eq,cV]at h
 have:=h.1 k hk
 exact⟨this.1.1,this.1.2,this.2⟩
theorem Bq{m:Bool × Nat}(hm:m∈aG){a:Nat}(h1:1<=a)(h2:a<ae m):0<=lg m a/\lg m a<(ae m:Int)-1/\pw m (lg m a).toNat=a:=by
 have h:=cX.mp QP m hm
 simp only[FN,dZ,cX,decide_eq_true_eq,cV]at h
 have:=h.2 (a-1) (by omega)
 rw[show a-1+1=a by omega]at this
 exact⟨this.1.1,this.1.2,this.2⟩
theorem iF(m:Bool × Nat)(b:Nat)(h:0<m.2):gm m 0 b=0:=by
 unfold gm
 split
 ·rw[nR];exact yr (by rw[mL];exact g9 (by omega))
 ·rw[Nat.zero_mul,Nat.zero_mod]
theorem lX(m:Bool × Nat)(b:Nat)(h:0<m.2):gm m b 0=0:=by rw[jy];exact iF m b h
noncomputable def stC(m:Bool × Nat):Bool:=decide (pw m 0=1)&&(aL (ae m-1)).all λk=>decide (gm m (pw m k).toNat (pw m (1%(ae m-1))).toNat=(pw m ((k+1)%(ae m-1))).toNat)
theorem QQ:aG.all stC=true:=by decide +kernel
theorem ci7(m:Bool × Nat)(hm:m∈aG):pw m 0=1:=by
 have h:=cX.mp QQ m hm
 simp only[stC,dZ,decide_eq_true_eq]at h
 exact h.1
noncomputable def pN(m:Bool × Nat)(k:Nat):Nat:=(pw m (k%(ae m-1))).toNat
theorem cF2{m:Bool × Nat}(hm:m∈aG)(k:Nat):pN m k<ae m:=by
 have eQ:=(cU hm).lo
 have:=Bp hm (sD k (show 0<ae m-1 by omega))
 unfold pN
 omega
theorem QR{m:Bool × Nat}(hm:m∈aG)(k:Nat):gm m (pN m k) (pN m 1)=pN m (k+1):=by
 have eQ:=(cU hm).lo
 have h:=cX.mp QQ m hm
 simp only[stC,dZ,decide_eq_true_eq,cX,cV]at h
 have h2:=h.2 (k%(ae m-1)) (sD k (by omega))
 rw[vY]at h2
 exact h2
theorem QS{m:Bool × Nat}(hm:m∈aG)(i:Nat):∀j,gm m (pN m i) (pN m j)=pN m (i+j)
 | 0=>by
  have e:pN m 0=1:=by unfold pN;rw[Nat.zero_mod,ci7 m hm];rfl
  rw[e,u3 (cF2 hm i)];rfl
 | j+1=>by rw[<-QR hm j,<- lW (dH m hm),QS hm i j,QR hm];rfl
theorem FP{m:Bool × Nat}(hm:m∈aG){a b:Nat}(a1:1<=a)(a2:a<ae m)(b1:1<=b)(b2:b<ae m):((gm m a b:Nat):Int)=pw m ((lg m a+lg m b)%((ae m:Int)-1)).toNat:=by
 have eQ:=(cU hm).lo
 obtain⟨g0,g1,g2⟩:=Bq hm a1 a2
 obtain⟨f0,f1,f2⟩:=Bq hm b1 b2
 have ea:pN m (lg m a).toNat=a:=by unfold pN;rw[vX (by omega),g2];rfl
 have eb:pN m (lg m b).toNat=b:=by unfold pN;rw[vX (by omega),f2];rfl
 have e:=QS hm (lg m a).toNat (lg m b).toNat
 rw[ea,eb]at e
 rw[e]
 have ei:((lg m a+lg m b)%((ae m:Int)-1)).toNat=((lg m a).toNat+(lg m b).toNat)%(ae m-1):=by
  have:(((lg m a).toNat+(lg m b).toNat)%(ae m-1):Nat)=((lg m a+lg m b)%((ae m:Int)-1)):=by
   rw[nH,DD,nI g0,nI f0,Int.natCast_sub (by omega)];rfl
  omega
 rw[ei]
 have:=Bp hm (sD ((lg m a).toNat+(lg m b).toNat) (show 0<ae m-1 by omega))
 unfold pN
 omega
theorem co6{p a:Nat}(hp:p∈gD)(ha:a<ae (true,p)):oE (fl (true,p)) (eE (fl (true,p))) a=(aL (ae (true,p))).map λb=>((gm (true,p) a b:Nat):Int):=by
 have hm:(true,p)∈aG:=eR _ (zL hp)
 have h0:=dH _ hm
 have hF:=cU hm
 have hlen:=hF.len
 unfold oE
 split
 ·rename_i h
  subst h
  rw[hlen]
  refine Nh (by simp) λi h1 h2=>?_
  simp[iF _ _ h0]
 ·rename_i h
  rw[<-hlen,Wo,df,bR,lX _ _ h0]
  congr 1
  apply pB
  intro b hb
  have hb:=cV.mp hb
  show(fl (true,p)).getD (((eE (fl (true,p))).getD a 0+(eE (fl (true,p))).getD (b+1) 0)%((fl (true,p)).length:Int)).toNat 0=((gm (true,p) a (b+1):Nat):Int)
  rw[FP hm (by omega) ha (by omega) (by omega),show(((fl (true,p)).length:Nat):Int)=(ae (true,p):Int)-1 by omega]
  rfl
theorem Br{p a b:Nat}(hp:p∈gD)(ha:a<ae (true,p))(hb:b<ae (true,p)):eP (aF (oE (fl (true,p)) (eE (fl (true,p))) a)) (b:Int)=some (.int (gm (true,p) a b:Nat)):=by
 refine mF (by omega) ?_
 rw[co6 hp ha]
 unfold aF
 rw[gy,bZ,bZ,kg hb];rfl
theorem Bt{p a:Nat}(hp:p∈gD)(ha:a<ae (true,p)):eP (m9 (fl (true,p)) (eE (fl (true,p)))) (a:Int)=some (.lst false (aF (oE (fl (true,p)) (eE (fl (true,p))) a))):=by
 have hF:=cU (m:=(true,p)) (eR _ (zL hp))
 refine mF (by omega) ?_
 unfold m9
 rw[gy,bZ,kg (by rw[hF.len];exact ha)];rfl
end L3
namespace L3
open PySem L2 Mf
theorem cv1(C:Addr)(p:Nat):D.obj C (ie "bits"++[("products":Str)]) (su D.sh [.int p,.int (ae (true,p)),.int ((bl (ae (true,p)):Nat)-1),.lst true (aF (fl (true,p))),.lst true (aF (eE (fl (true,p)))),.int (fst (true,p)),.lst true (oF (fl (true,p)) (eE (fl (true,p))))])=qX C p:=by
 simp only[df,jH]
 rw[b73]
 simp only[dF,oq,j3];rfl
theorem b75(C:Addr)(p:Nat):D.obj C (ie "prime") (su D.sh [.int p,.int p,.int ((bl p:Nat)-1),.lst true (aF (fl (false,p))),.lst true (aF (eE (fl (false,p)))),.int (fst (false,p))])=qW C p:=by
 simp only[df,jH,dF,oq,j3];rfl
theorem u4{n:Nat}(h:(true,n)∈aG):n∈gD:=by
 rcases cj.mp h with h | h
 ·obtain⟨x,hx,e⟩:=bD.mp h
  cases e;exact hx
 ·obtain⟨x,hx,e⟩:=bD.mp h
  cases e
theorem bI3{n:Nat}(h:(false,n)∈aG):n∈m8:=by
 rcases cj.mp h with h | h
 ·obtain⟨x,hx,e⟩:=bD.mp h
  cases e
 ·obtain⟨x,hx,e⟩:=bD.mp h
  cases e;exact hx
open Classical in
theorem FQ{α:Type}{sh:Bool}{xs:List D}{aC:List (Str × Nat)}{n:Nat}{g0:hW}{te:aO}{ak:Dl}{Q:D->Dl->Prop}(l:List α)(e g:α->D)(i9:xs.map D.sh=l.map e)(inj:∀a b,e a=e b->a=b)
  (hx:∀a∈l,g0 (e a) (gj aC n ak) λaW=>te aW λd _=>d=g a) (hg:∀d δ (P P':Dl->Prop),(∀ah,P ah->P' ah)->g0 d δ P->g0 d δ P') (eB:(sh&&aC.all (iZ ak))=true\/∀a∈l,(g a).fr=true) (hl:l.length<=sizeLine) (hq:Q (.lst true (l.map g)) ak):tV sh xs aC n g0 lK te ak Q:=by
 let f:D->D:=λx=>if h:∃a∈l,e a=x then g h.choose else .au
 have hf:∀a∈l,f (e a)=g a:=λa ha=>by
  have h:∃b∈l,e b=e a:=⟨a,ha,rfl⟩
  show(if h:∃b∈l,e b=e a then g h.choose else .au)=g a
  rw[dif_pos h]
  exact congrArg g (inj _ _ h.choose_spec.2)
 refine⟨λ_=>true,f,λx h=>?_,eB.imp id λh x hx _=>?_,?_,?_⟩
 ·rw[i9]at h
  obtain⟨a,ha,rfl⟩:=bD.mp h
  rw[hf a ha]
  exact hg _ _ _ _ (λah h=>⟨rfl,λ_=>h⟩) (hx a ha)
 ·rw[i9]at hx
  obtain⟨a,ha,rfl⟩:=bD.mp hx
  rw[hf a ha];exact h a ha
 ·have:=congrArg Dg i9
  simp at this
  omega
 ·rw[i9,Wn.mpr (λ_ _=>rfl),bR,show l.map (f ∘ e)=l.map g from pB λa ha=>hf a ha]
  exact hq
theorem FR{i1 i2:Nat}(d:D)(δ:Dl)(P P':Dl->Prop)(h:∀ah,P ah->P' ah)(q:jv i1 i2 d δ P):jv i1 i2 d δ P':=by
 unfold jv at q ⊢
 split at q
 ·exact h _ q
 ·exact q
theorem QT(xs ys:List Int):(eC (aF xs) (aF ys)).map D.sh=(xs.zip ys).map λz=>D.tup [.int z.1,.int z.2]:=by
 rw[P2,j3,j3]
 unfold eC aF
 rw[DB,List.zip,DA]
theorem co3{p x y:Nat}(hp:p≠0)(hx:bl x<bl p):md (cl x y) p=(if y%2=1 then x else 0) ^^^ md (cl (if bl (2*x)=bl p then 2*x ^^^ p else 2*x) (y/2)) p:=by
 have e0:md (if y%2=1 then x else 0) p=(if y%2=1 then x else 0):=by
  split
  ·exact yr hx
  ·exact yr (by rw[mL];exact g9 hp)
 rw[OA,Bo hp,e0]
 congr 1
 split
 ·rw[nQ,Bo hp,QM hp,kR]
 ·rfl
theorem cq6{p x:Nat}(hp:p≠0)(hx:bl x<bl p):bl (if bl (2*x)=bl p then 2*x ^^^ p else 2*x)<bl p:=by
 have h2:=ZK x
 have h0:=g9 hp
 split
 ·rename_i h
  have n0:2*x≠0:=λz=>by rw[z,mL]at h;omega
  have a1:=iU (2*x)
  have a2:=iU p
  have b1:=sS n0
  have b2:=sS hp
  rw[h]at a1 b1
  obtain⟨k,hk⟩:∃k,bl p=k+1:=⟨bl p-1,by omega⟩
  rw[hk]at a1 a2 b1 b2 ⊢
  have:=eW.mpr (Oo a1 a2 b1 b2)
  omega
 ·omega
end L3
namespace L3
open PySem L2 PySem.Spec PyProof.Rows
structure Bu(P:Program)(w:World)(K:PySem.W.Frag)(mg:Str->Option Value)(base:Heap)(n:Nat)(m:Str)(C:Addr)(sp:ot):Prop where
 cls:cw K C
 ex:∃f fd ps,Meth K C m f/\aM P w K mg base (mO P w) n f fd ps (xV sp)/\Binds K fd ps []
section
variable{X:Cx}{e o:Expr}{es:List Expr}{f m x:Str}{pos p apos:Pos}{to:aO}{ta:cC}{n:Nat}
noncomputable def qZ(MO:Addr->ot->Prop)(m:Str)(to:aO)(ta:cC):aO:=λδ Q=>to δ λd ak=>∃C ns xs sp,d=.obj C ns xs/\MO C sp/\m ∉ ns/\ta ak λds aW=>sp ((D.obj C ns xs::ds).map D.sh) (λr=>((D.obj C ns xs::ds).all D.pl||r.fr)=true/\Q r aW) λ_=>False
theorem cj2{pl:Sem Bool}(ho:PE X o (lB to))(hr:bW n X.A)(ha:PA X (e::es) (lA ta))
  (cZ:starEach (e::es) X.env=(false,eval e X.env)::starEach es X.env:=by rfl) (bN:(backTo pos (starEach es X.env)).any (·.1)=false:=by rfl)
  (ht:eval (.Call (.Attribute o m apos) (e::es) [] pos) X.env=(do
   let ov<-eval o X.env
   standAt apos.atName
   let (f,first)<-holding [ov] (getMethod ov m pl)
   callWith pos f first (backTo pos (starEach (e::es) X.env)) (backToKw pos (keywordEach [] X.env))):=by rfl) :
  PE X (.Call (.Attribute o m apos) (e::es) [] pos) (lE (qZ (Bu X.prog X.w X.K X.mg X.base n m) m to ta)):=by
 intro pins s σ H Q I zz
 obtain⟨B,F,δ,ts,Qd,c,q,k⟩:=zz
 refine PySem.W.methodCall_KW (pl:=pl) (aP (ho pins s σ H (λx H1=>∃d ak F1,S F1 H1 [d] [x]/\aq B F1 H1 σ ak ts/\af F F1/\af H H1/\∃C ns xs sp,d=.obj C ns xs/\Bu X.prog X.w X.K X.mg X.base n m C sp/\m ∉ ns/\ta ak λds aW=>sp ((D.obj C ns xs::ds).map D.sh) (λr=>((D.obj C ns xs::ds).all D.pl||r.fr)=true/\Qd r aW) λ_=>False) I
  ⟨B,F,δ,ts,_,c,q,λd ak v F1 H1 hq f1 h1 c1 s1=>⟨d,ak,F1,s1,c1,f1,h1,hq⟩⟩) λu s1 ⟨x,H1,I1,rx,d,ak,F1,sd,c1,f1,h1,C,ns,xs,sp,ed,M,hm,hq⟩=>?_) ht
 subst ed
 obtain⟨a,dx,ws,rfl,ea,hl,r0⟩:=yi sd
 obtain rfl:u=cN a:=rx
 obtain⟨f,fd,ps,oB,FO,hb⟩:=M.ex
 refine Am I1 ea M.cls oB (FH hm) ?_
 refine PySem.W.callWith_K (first:=[.ref a]) (h₀:=X.base) I.ok.mod.mB oB.kp (aP (ha pos pins s1 σ H1 (λvs H2=>∃ds aW F2,S F2 H2 ds vs/\aq B F2 H2 σ aW ts/\af F1 F2/\af H1 H2/\sp ((D.obj C ns xs::ds).map D.sh) (λr=>((D.obj C ns xs::ds).all D.pl||r.fr)=true/\Qd r aW) λ_=>False) I1
  ⟨B,F1,ak,ts,_,c1,hq,λds aW vs F2 H2 hq f2 h2 c2 s2=>⟨ds,aW,F2,s2,c2,f2,h2,hq⟩⟩) λus s2 ⟨vs,H2,I2,r,ds,aW,F2,FI,c2,f2,h2,g7⟩=>⟨I2.cY,?_⟩) cZ bN
 refine sQ (us:=.ref a::us) (vs:=.ref a::vs) (e7:=[]) (Fp FO) hr hb .nil Fo I2 (.cons rfl r) ?_
 rw[fV]
 exact w4 (sp:=λds Q=>sp ds Q λ_=>False) c2 (.obj (h2 _ _ ea) hl (r0.shared f2 h2) FI) g7 λd v F' H' hd hf hs c'=>k d aW v F' H' hd (f1.trans (f2.trans hf)) (h1.trans (h2.trans hs)) c'
end
section
variable{X:Cx}{tb th:cM}{body cT7:List Stmt}{cT8:Stmt}{K:Str}{Kc:Addr}{kp cT9 pos:Pos}
end
structure q0(K:PySem.W.Frag)(C:Addr):Prop where
 cls:cw K C
 ha:PySem.W.findIn K (.ref C) "__class__"=some (some (.builtin "object.__class__"))
 hn:PySem.W.specialIn K (.builtin "object.__class__") "__get__"=some (some (.builtin "getset_descriptor.__get__"))
 An:PySem.W.takesIn K (.builtin "object.__class__")=some true
 hm:PySem.W.mroIn K C (.type "object")=some true
noncomputable def u5(K:PySem.W.Frag)(cv:Value)(t:aO):aO:=λδ Q=>t δ λd ah=>∃C ns xs r,d=.obj C ns xs/\q0 K C/\PySem.W.kitOne K (.ref C) cv=some r/\Q (.bl r) ah
theorem cw3{X:Cx}{a:Expr}{ta:aO}{p pos:Pos}{y:Str}{q:Pos}{C:Addr}(hg:Gl X "isinstance")(hm:X.mg "isinstance"=none)(Fd:Gl X y)(AV:X.mg y=some (.ref C))(ha:PE X a (lB ta))(hd:(y==("__debug__":Str))=false:=by decide)
  (hs:starEach [a,.Name y q] X.env=(false,eval a X.env)::starEach [.Name y q] X.env:=by rfl) (fi:starEach [.Name y q] X.env=(false,eval (.Name y q) X.env)::starEach [] X.env:=by rfl) (bN:(backTo pos (starEach [.Name y q] X.env)).any (·.1)=false:=by rfl) :
  PE X (.Call (.Name "isinstance" p) [a,.Name y q] [] pos) (lE (u5 X.K (.ref C) ta)) :=
 dn (Ap b01 hg hm OK (bV ha (bV (W0 (v:=.ref C) Fd AV rfl hd) eU fi) hs) (by decide) (by decide) hs bN) λσ H Q ⟨B,F,δ,ts,Qd,c,q,k⟩=>⟨B,F,δ,ts,_,c,q,λd ak v F1 H1 q1 f1 h1 c1 s1=>by
  obtain⟨C',ns,xs,r,ed,oc,e,qr⟩:=q1
  subst ed
  obtain⟨a,dx,ws,rfl,ea,_,_⟩:=yi s1
  exact⟨.ref a,_,_,.ref C',r,rfl,rfl,.ty (.ins ea oc.cls oc.ha oc.hn oc.An oc.hm),e,k _ ak _ F1 H1 qr f1 h1 (c1.pushS (.bl .nil) rfl)⟩⟩
end L3
namespace L3
open PySem L2 Mf
theorem QU{m:Bool × Nat}(hm:m∈aG){a b:Nat}(a1:1<=a)(a2:a<ae m)(b1:1<=b)(b2:b<ae m):∃r:Nat,pw m ((lg m a-lg m b)%((ae m:Int)-1)).toNat=r/\r<ae m/\gm m r b=a:=by
 have hF:=cU hm
 have eQ:=hF.lo
 have n0:=fJ (lg m a-lg m b) (show(ae m:Int)-1≠0 by omega)
 have n1:=fX (lg m a-lg m b) (show(0:Int)<(ae m:Int)-1 by omega)
 obtain⟨p1,p2,p3⟩:=Bp hm (k:=((lg m a-lg m b)%((ae m:Int)-1)).toNat) (by omega)
 obtain⟨g0,g1,g2⟩:=Bq hm a1 a2
 refine⟨(pw m ((lg m a-lg m b)%((ae m:Int)-1)).toNat).toNat,by omega,by omega,?_⟩
 have e:=FP hm (a:=(pw m ((lg m a-lg m b)%((ae m:Int)-1)).toNat).toNat) (by omega) (by omega) b1 b2
 rw[p3,nI n0,Int.emod_add_emod,Int.sub_add_cancel,Ni g0 g1,g2]at e
 omega
end L3
namespace L3
open PySem L2 PySem.Spec PyProof.Rows
section
variable{X:Cx}{e o a:Expr}{es:List Expr}{f m y:Str}{pos p apos q:Pos}{t to ta':aO}{ta:cC}{n:Nat}{P:Program}{w:World}{K:PySem.W.Frag}{mg:Str->Option Value}{base:Heap}
theorem dj(he:PE X e (lB t))(hK:K=X.K:=by rfl)(hb:attributeBase e f X.env (eval e X.env)=eval e X.env:=by rfl):PE X (.Attribute e f pos) (lB (qS K t f)):=by
 subst hK;exact cF3 he hb
theorem fQ{pl:Sem Bool}(ho:PE X o (lB to))(hr:bW n X.A)(ha:PA X (e::es) (lA ta))(hP:P=X.prog:=by rfl)(hw:w=X.w:=by rfl)(hK:K=X.K:=by rfl)(hm:mg=X.mg:=by rfl)(hb:base=X.base:=by rfl)
  (cZ:starEach (e::es) X.env=(false,eval e X.env)::starEach es X.env:=by rfl) (bN:(backTo pos (starEach es X.env)).any (·.1)=false:=by rfl)
  (ht:eval (.Call (.Attribute o m apos) (e::es) [] pos) X.env=(do
   let ov<-eval o X.env
   standAt apos.atName
   let (f,first)<-holding [ov] (getMethod ov m pl)
   callWith pos f first (backTo pos (starEach (e::es) X.env)) (backToKw pos (keywordEach [] X.env))):=by rfl) :
  PE X (.Call (.Attribute o m apos) (e::es) [] pos) (lE (qT (jf P w K mg base n m) m to ta)):=by
 subst hP hw hK hm hb;exact cx2 ho hr ha cZ bN ht
theorem ca3{pl:Sem Bool}(ho:PE X o (lB to))(hr:bW n X.A)(hP:P=X.prog:=by rfl)(hw:w=X.w:=by rfl)(hK:K=X.K:=by rfl)(hm:mg=X.mg:=by rfl)(hb:base=X.base:=by rfl)
  (ht:eval (.Call (.Attribute o m apos) [] [] pos) X.env=(do
   let ov<-eval o X.env
   standAt apos.atName
   let (f,first)<-holding [ov] (getMethod ov m pl)
   callWith pos f first (backTo pos (starEach [] X.env)) (backToKw pos (keywordEach [] X.env))):=by rfl) :
  PE X (.Call (.Attribute o m apos) [] [] pos) (lE (qU (jf P w K mg base n m) m to)):=by
 subst hP hw hK hm hb;exact cm3 ho hr ht
theorem QV{pl:Sem Bool}(ho:PE X o (lB to))(hr:bW n X.A)(ha:PA X (e::es) (lA ta))(hP:P=X.prog:=by rfl)(hw:w=X.w:=by rfl)(hK:K=X.K:=by rfl)(hm:mg=X.mg:=by rfl)(hb:base=X.base:=by rfl)
  (cZ:starEach (e::es) X.env=(false,eval e X.env)::starEach es X.env:=by rfl) (bN:(backTo pos (starEach es X.env)).any (·.1)=false:=by rfl)
  (ht:eval (.Call (.Attribute o m apos) (e::es) [] pos) X.env=(do
   let ov<-eval o X.env
   standAt apos.atName
   let (f,first)<-holding [ov] (getMethod ov m pl)
   callWith pos f first (backTo pos (starEach (e::es) X.env)) (backToKw pos (keywordEach [] X.env))):=by rfl) :
  PE X (.Call (.Attribute o m apos) (e::es) [] pos) (lE (qZ (Bu P w K mg base n m) m to ta)):=by
 subst hP hw hK hm hb;exact cj2 ho hr ha cZ bN ht
end
theorem FT:∀m∈Mf.aG,1<=Mf.bl m.2/\Mf.bl m.2<=7:=by decide +kernel
end L3
namespace L3
open PySem L2 Mf
noncomputable def gp(m:Bool × Nat)(a b:Nat):Nat:=if m.1 then a ^^^ b else(a+b)%m.2
noncomputable def gl(m:Bool × Nat)(a b:Nat):Int:=if m.1 then(a ^^^ b:Nat)else((a:Int)-b)%m.2
noncomputable def gd(m:Bool × Nat)(xs ys:List Nat):Nat:=(cP (gm m) xs ys).foldl (gp m) 0
noncomputable def oG(c:Int):Bool × Nat:=if c%2=0 then(true,gD.getD (c/2%21).toNat 0)else(false,m8.getD (c/2%18).toNat 0)
theorem cc4(c:Int):oG c∈aG:=by
 unfold oG
 split
 ·refine eR _ (bD.mpr ⟨_,?_,rfl⟩)
  have h:(c/2%21).toNat<gD.length:=by
   have:=fX (c/2) (show(0:Int)<21 by decide)
   show _<21
   omega
  rw[aY,aS h]
  exact dN _
 ·refine cW _ (bD.mpr ⟨_,?_,rfl⟩)
  have h:(c/2%18).toNat<m8.length:=by
   have:=fX (c/2) (show(0:Int)<18 by decide)
   show _<18
   omega
  rw[aY,aS h]
  exact dN _
noncomputable def dk(m:Bool × Nat):D:=.tup [.bl m.1,.int m.2]
theorem u6(cb cp:Addr)(m:Bool × Nat):fD cb cp m=.obj (if m.1 then cb else cp) (if m.1 then ie "bits"++[("products":Str)]else ie "prime") (if m.1 then pD (true,m.2)++[.lst false (m9 (fl (true,m.2)) (eE (fl (true,m.2))))]else pD (false,m.2)):=by
 obtain⟨k,n⟩:=m
 cases k<;>rfl
theorem QW(m:Bool × Nat)(x:Str)(h:x ∉ (["bits","prime","many","wide","powers","logs","step","products"]:List Str)):x ∉ (if m.1 then ie "bits"++[("products":Str)]else ie "prime"):=by
 obtain⟨k,n⟩:=m
 intro z
 apply h
 cases k
 ·have z:x∈ie "prime":=z
  simp[ie]at z
  simp only[cA]
  rcases z with z | z | z | z | z | z<;>simp[z]
 ·have z:x∈ie "bits"++[("products":Str)]:=z
  simp[ie]at z
  simp only[cA]
  rcases z with z | z | z | z | z | z | z<;>simp[z]
theorem q5(cb cp:Addr)(m:Bool × Nat):(fD cb cp m).sh=fD cb cp m:=by rw[u6];rfl
theorem FU(cb cp:Addr)(m:Bool × Nat):(fD cb cp m).pl=true:=by rw[u6];rfl
theorem cn1(m:Bool × Nat):(dk m).sh=dk m:=rfl
theorem cp0(m:Bool × Nat):(dk m).pl=true:=rfl
noncomputable def QX(P:Program)(w:World)(K:PySem.W.Frag)(mg:Str->Option Value)(base:Heap)(n:Nat)(cb cp:Addr)(m:Bool × Nat)(x:Str)(ds:List D)(Q:D->Prop):Prop:=∃C ns xs sp,fD cb cp m=.obj C ns xs/\jf P w K mg base n x C sp/\x ∉ ns/\sp (.obj C ns xs::ds) Q
theorem QY{p:Nat}(hp:0<p):∀(l:List Nat) (acc:Nat),acc<p->l.foldl (gp (false,p)) acc=(acc+l.sum)%p
 | [],acc,h=>by simp[vX h]
 | x::l,acc,h=>by
  rw[se,show gp (false,p) acc x=(acc+x)%p from rfl,QY hp l _ (sD _ hp),Nj]
  show((acc+x)%p+l.sum)%p=_
  rw[vY,Dz]
theorem QZ(p:Nat):∀xs ys:List Nat,(cP (gm (false,p)) xs ys).sum%p=(cP (· * ·) xs ys).sum%p
 | [],_=>by simp
 | _::_,[]=>by simp
 | x::xs,y::ys=>by
  simp only[Nk,Nj]
  show(x*y%p+_)%p=_
  rw[vY,Nat.add_mod,QZ p xs ys,<- Nat.add_mod]
theorem Q0:∀xs ys:List Nat,(cP (· * ·) (xs.map λ(n:Nat)=>(n:Int)) (ys.map λ(n:Nat)=>(n:Int))).sum=(((cP (· * ·) xs ys).sum:Nat):Int)
 | [],_=>by simp
 | _::_,[]=>by simp
 | x::xs,y::ys=>by
  simp only[df,Nk,Nj]
  rw[Q0 xs ys,DD,sE]
theorem oH(m:Bool × Nat)(a b:Nat):gp m a b=gp m b a:=by
 unfold gp
 split
 ·rw[MV]
 ·rw[MT]
theorem FV(m:Bool × Nat)(a b c:Nat):gp m (gp m a b) c=gp m a (gp m b c):=by
 unfold gp
 split
 ·rw[pj]
 ·rw[vY,Nat.add_mod_mod,Dz]
theorem FW{m:Bool × Nat}(h:0<m.2)(a b c:Nat):gm m (gp m a b) c=gp m (gm m a c) (gm m b c):=by
 unfold gm gp
 split
 ·rw[nQ,Bo (by omega)]
 ·rw[vW,Ng,<- vW,Nat.add_mul,vY,Nat.add_mod_mod]
theorem Q1{m:Bool × Nat}(h:0<m.2)(a b c:Nat):gm m c (gp m a b)=gp m (gm m c a) (gm m c b):=by rw[jy,FW h,jy m a,jy m b]
theorem ca7:∀m∈aG,m.1=true->2<=bl m.2:=by decide +kernel
theorem Q2{m:Bool × Nat}(hm:m∈aG){a b:Nat}(ha:a<ae m)(hb:b<ae m):gp m a b<ae m:=by
 have h0:=dH m hm
 obtain⟨k,n⟩:=m
 cases k with
 | true=>exact sU ha hb
 | false=>exact sD _ h0
theorem dw{m:Bool × Nat}(hm:m∈aG)(a b:Nat):gm m a b<ae m:=by
 have h0:=dH m hm
 obtain⟨k,n⟩:=m
 cases k with
 | true =>
  have h2:=ca7 (true,n) hm rfl
  have:=(wL (show n≠0 by have:0<n:=h0;omega) (cl a b)).2
  refine(QO rfl).mpr ?_
  show bl (md (cl a b) n)<=bl n-1
  omega
 | false=>exact sD _ h0
theorem Q3{m:Bool × Nat}{a:Nat}(ha:a<ae m):gp m 0 a=a:=by
 obtain⟨k,n⟩:=m
 cases k with
 | true=>exact nF a
 | false=>show(0+a)%n=a;rw[Nl];exact vX ha
theorem yt{m:Bool × Nat}{a:Nat}(ha:a<ae m):gp m a 0=a:=by rw[oH];exact Q3 ha
theorem cF4{m:Bool × Nat}(hm:m∈aG){a b:Nat}(ha:a<ae m)(hb:b<ae m):∃r:Nat,gl m a b=r/\r<ae m/\gp m r b=a:=by
 have h0:=dH m hm
 obtain⟨k,n⟩:=m
 cases k with
 | true=>exact⟨a ^^^ b,rfl,sU ha hb,by show a ^^^ b ^^^ b=a;rw[pj,zH,kR]⟩
 | false =>
  have h0:0<n:=h0
  have ha:a<n:=ha
  have hb:b<n:=hb
  refine⟨(a+(n-b))%n,?_,sD _ h0,?_⟩
  ·show((a:Int)-b)%n=_
   rw[nH,DD,Int.natCast_sub (by omega),show((a:Int)+((n:Int)-b))=((a:Int)-b)+n by omega,Int.add_emod_right]
  ·show((a+(n-b))%n+b)%n=a
   rw[vY,show a+(n-b)+b=a+n by omega,Nat.add_mod_right,vX ha]
noncomputable def eS(m:Bool × Nat)(n:Int):Nat:=(pw m (n%((ae m:Int)-1)).toNat).toNat
theorem u7{m:Bool × Nat}(hm:m∈aG)(n:Int):1<=eS m n/\eS m n<ae m/\lg m (eS m n)=n%((ae m:Int)-1)/\pw m (n%((ae m:Int)-1)).toNat=eS m n:=by
 have eQ:=(cU hm).lo
 have n0:=fJ n (show(ae m:Int)-1≠0 by omega)
 have n1:=fX n (show(0:Int)<(ae m:Int)-1 by omega)
 obtain⟨p1,p2,p3⟩:=Bp hm (k:=(n%((ae m:Int)-1)).toNat) (by omega)
 unfold eS
 rw[p3]
 omega
theorem cK8{m:Bool × Nat}(hm:m∈aG)(n:Int):eS m n<ae m:=(u7 hm n).2.1
theorem cE3{m:Bool × Nat}(hm:m∈aG)(a b:Int):gm m (eS m a) (eS m b)=eS m (a+b):=by
 obtain⟨a1,a2,a3,_⟩:=u7 hm a
 obtain⟨b1,b2,b3,_⟩:=u7 hm b
 have e:=FP hm a1 a2 b1 b2
 rw[a3,b3,<- Int.add_emod]at e
 have c:=(u7 hm (a+b)).2.2.2
 rw[c]at e
 omega
theorem Q4{m:Bool × Nat}(hm:m∈aG){a:Nat}(h1:1<=a)(h2:a<ae m):eS m (lg m a)=a:=by
 obtain⟨g0,g1,g2⟩:=Bq hm h1 h2
 unfold eS
 rw[Ni g0 g1,g2];rfl
theorem Q5{m:Bool × Nat}(hm:m∈aG)(n:Int):(fl m)[(n%((ae m:Int)-1)).toNat]?=some ((eS m n:Nat):Int):=by
 have hF:=cU hm
 have eQ:=hF.lo
 have n0:=fJ n (show(ae m:Int)-1≠0 by omega)
 have n1:=fX n (show(0:Int)<(ae m:Int)-1 by omega)
 have hk:(n%((ae m:Int)-1)).toNat<(fl m).length:=by have:=hF.len;omega
 rw[<-(u7 hm n).2.2.2]
 unfold pw
 rw[aY,aS hk];rfl
theorem cE4{m:Bool × Nat}(hm:m∈aG){a b:Nat}(a1:1<=a)(a2:a<ae m)(b1:1<=b)(b2:b<ae m):gm m a b≠0:=by
 rw[<-Q4 hm a1 a2,<- Q4 hm b1 b2,cE3 hm]
 have:=(u7 hm (lg m a+lg m b)).1
 omega
end L3
namespace L2
open PySem PySem.Spec PyProof.Rows
section
variable{X:Cx}{a:Expr}{ta:TA}{p pos:Pos}{tg:Expr}
end
end L2
namespace L3
open PySem L2 PySem.Spec PyProof.Rows
section
variable{F H:Hp}{K:PySem.W.Frag}{p:Addr}{ws:List V}{xs:List D}
end
section
variable{X:Cx}{a:Expr}{ta:cC}{p pos:Pos}{tg:Expr}
end
end L3
namespace L3
open PySem L2 Mf
noncomputable def AllLt(n:Nat)(l:List Nat):Prop:=∀a∈l,a<n
theorem AllLt.getD{n:Nat}{l:List Nat}(h:AllLt n l)(h0:0<n)(k:Nat):l.getD k 0<n:=by
 rw[aY]
 cases e:l[k]? with
 | none=>exact h0
 | some v=>exact h v (rX e)
end L3
namespace L3
open PySem L2 PySem.Spec PyProof.Rows
theorem b07(n:Nat)(l:List Nat):(aj l).all (dv n)=true:=by
 rw[bY,kS,cX]
 intro a _
 exact qL n _
theorem u9(n:Nat)(o:Bool)(l:List Nat):dv (n+1) (.lst o (aj l))=true:=b07 n l
theorem yu(o o':Bool)(a b:List Nat):bF (.lst o (aj a)) (.lst o' (aj b))=decide (a=b):=by
 unfold aj
 rw[uH]
 congr 1
 apply propext
 constructor
 ·intro h
  have:=congrArg (su eJ) h
  have e:(eJ ∘ λ(n:Nat)=>(n:Int))=id:=by funext x;rfl
  rw[bR,bR,e,List.map_id,List.map_id]at this
  exact this
 ·intro h;rw[h]
theorem oI{l:List Nat}{k:Int}(h0:0<=k)(h:k.toNat<l.length):eP (aj l) k=some (.int ((l.getD k.toNat 0:Nat):Int)):=by
 refine mF h0 ?_
 rw[bY,bZ,aS h,aY,aS h];rfl
theorem va{n:Nat}{k:Int}(h0:0<=k)(h:k.toNat<n):iA n k=some k.toNat:=by
 unfold iA
 rw[if_pos h0,if_pos (by omega)]
theorem oJ{n:Nat}(k:Int)(h:k=n):(((aL k.toNat).map λ(k:Nat)=>D.int (0+(k:Int))).map D.sh)=(aL n).map λ(i:Nat)=>D.int (i:Int):=by
 subst h
 rw[w9,gy]
 simp
theorem Q6(l:List Nat)(k v:Nat):(aj l).set k (.int (v:Nat))=aj (l.set k v):=by
 rw[bY,bY,pE]
theorem b86(l:List Nat):(aj l).all D.fr=true:=qJ _
theorem yv(o:Bool)(l:List Nat):(D.lst o (aj l)).sh=.lst false (aj l):=by rw[dF,ou]
theorem gE(l:List Nat):(D.lst true (aj l)).fr=true:=by rw[gg,b86];rfl
theorem cn3{xs:List D}{i:Nat}{d:D}(h:(fC xs)[i]?=some d):∃hi:i<xs.length,d=.tup [.int i,xs[i]]:=by
 have hi:i<(fC xs).length:=(jk.mp h).1
 rw[qM]at hi
 refine⟨hi,?_⟩
 unfold fC at h
 rw[zK,aS hi]at h
 exact(cO h).symm
theorem b60{l:List Nat}{i:Nat}{d:D}(h:(fC (aj l))[i]?=some d):∃hi:i<l.length,d=.tup [.int i,.int (l[i]:Nat)]:=by
 obtain⟨hi,e⟩:=cn3 h
 rw[dX]at hi
 refine⟨hi,?_⟩
 rw[e]
 simp only[bY,vZ]
theorem cc7{a:Int}{n i:Nat}{d:D}(h:((aL n).map λ(k:Nat)=>D.int (a+(k:Int)))[i]?=some d):i<n/\d=.int (a+i):=by
 have hi:i<n:=by
  have:=(jk.mp h).1
  simpa using this
 refine⟨hi,?_⟩
 rw[bZ,kg hi]at h
 exact(cO h).symm
section
variable{X:Cx}
end
end L3
namespace L3
open PySem L2 Mf
noncomputable def bO(m:Bool × Nat)(a b:Nat):Nat:=(gl m a b).toNat
theorem lY{m:Bool × Nat}(hm:m∈aG){a b:Nat}(ha:a<ae m)(hb:b<ae m):gl m a b=(bO m a b:Nat)/\bO m a b<ae m/\gp m (bO m a b) b=a:=by
 obtain⟨r,e,h1,h2⟩:=cF4 hm ha hb
 have:bO m a b=r:=by unfold bO;rw[e];rfl
 rw[this]
 exact⟨e,h1,h2⟩
theorem FX{n:Nat}{f:Nat->Nat->Nat}:∀{a b:List Nat},(∀x∈a,∀y∈b,f x y<n)->AllLt n (cP f a b)
 | [],_,_=>by intro x hx;simp at hx
 | _::_,[],_=>by intro x hx;simp at hx
 | x::a,y::b,h=>by
  intro z hz
  rw[Nk]at hz
  rcases cA.mp hz with rfl | hz
  ·exact h x (by simp) y (by simp)
  ·exact FX (λx hx y hy=>h x (by simp[hx]) y (by simp[hy])) z hz
theorem bR9(xs ys:List Nat):(eC (aj xs) (aj ys)).map D.sh=(xs.zip ys).map λz=>D.tup [.int (z.1:Int),.int (z.2:Int)]:=by
 unfold aj
 rw[QT,List.zip_map,bR];rfl
theorem Q7{sh:Bool}{aC:List (Str × Nat)}{n i1 i2:Nat}{te:aO}{ak:Dl}{Q:D->Dl->Prop}(f:Nat->Nat->Nat){A B:List Nat}(hx:∀x∈A,∀y∈B,jv i1 i2 (.tup [.int (x:Int),.int (y:Int)]) (gj aC n ak) λaW=>te aW λd _=>d=.int ((f x y:Nat):Int))
  (hl:A.length<=100000) (hq:Q (.lst true (aj (cP f A B))) ak):tV sh (eC (aj A) (aj B)) aC n (jv i1 i2) lK te ak Q:=by
 refine FQ (A.zip B) (λz=>D.tup [.int (z.1:Int),.int (z.2:Int)]) (λz=>D.int ((f z.1 z.2:Nat):Int)) (bR9 A B) (λa b h=>?_) (λz hz=>hx z.1 (rV hz).1 z.2 (rV hz).2) FR (.inr λ_ _=>rfl) (by rw[DE,sL];omega) ?_
 ·injection h with h
  simp at h
  exact Prod.ext (by omega) (by omega)
 ·rw[show((A.zip B).map λz=>D.int ((f z.1 z.2:Nat):Int))=aj (cP f A B) by rw[bY,List.zip,DA,DA]]
  exact hq
end L3
namespace L3
open PySem L2 PySem.Spec PyProof.Rows
theorem aq.c27{B:Bs}{F H:Hp}{σ:L2.St}{δ:Dl}{ps ts:List (D × V)}{p:Addr}{o:HO}{A1:List Addr}(c:aq B F H σ δ (ps++ts))(hp:H p=none)(r:R F (upd H p o) (ps.map (·.1)) (ps.map (·.2)) A1):p ∉ A1:=λh=>by
 obtain⟨A,C,r0,_,_,_⟩:=c.own
 rw[fh,fh]at r0
 obtain⟨v1,v2,B1,B2,e,rfl,h1,h2⟩:=R.split r0
 have l1:(ps.map (·.2)).length=v1.length:=by rw[<-h1.length];simp
 obtain⟨rfl,rfl⟩:=Dw e l1
 have g1:=h1.grow (af.refl F) (af.upd (o:=o) hp) λa ha=>(h1.lists a ha).2
 have:A1=B1:=R.inj r g1
 subst this
 obtain⟨ws,e⟩:=(h1.lists p h).1
 rw[hp]at e;cases e
theorem aq.join{B:Bs}{F H:Hp}{σ:L2.St}{δ:Dl}{ts:List (D × V)}{p p' r:Addr}{xs ys:List D}{ws gC:List V}(c:aq B F H σ δ ((.lst true ys,.ref p')::(.lst true xs,.ref p)::ts))(e1:H p=some (.lst ws))(e2:H p'=some (.lst gC))(hr:H r=none) :
  aq B F (upd H r (.lst (ws++gC))) σ δ ((.lst true (xs++ys),.ref r)::ts):=by
 refine aq.pack (ps:=[(.lst true ys,.ref p'),(.lst true xs,.ref p)]) c (af.upd hr) λA1 r1 nd=>?_
 have nin:=aq.c27 (ps:=[(.lst true ys,.ref p'),(.lst true xs,.ref p)]) (ts:=ts) c hr r1
 have n1:p≠r:=λz=>by rw[z,hr]at e1;cases e1
 have n2:p'≠r:=λz=>by rw[z,hr]at e2;cases e2
 have r1:R F (upd H r (.lst (ws++gC))) [.lst true ys,.lst true xs] [.ref p',.ref p] A1:=r1
 cases r1 with
 | @own _ wy _ Ay _ _ By hy fy ry rb =>
  cases rb with
  | @own _ wx _ Ax _ _ Bx hx fx rx rc =>
   cases rc
   rw[bc n2,e2]at hy;cases hy
   rw[bc n1,e1]at hx;cases hx
   refine⟨r::(Ax++Ay),by simpa using R.own bL (c.ext.free hr) (rx.append ry) .nil,?_,λa ha=>?_⟩
   ·refine kQ.mpr ⟨λz=>nin ?_,?_⟩
    ·rcases cj.mp z with z | z<;>simp[z]
    ·have sl:(Ay++Ax).Sublist (p'::Ay++(p::Ax++[])):=by
      rw[fV]
      exact(((Wt p Ax).append_left Ay).trans (Wt p' _))
     exact nG.nodup_iff.mp (nd.sublist sl)
   ·simp only[cA,cj]at ha ⊢
    rcases ha with rfl | ha | ha
    ·exact .inr hr
    ·simp[ha]
    ·simp[ha]
section
variable{X:Cx}{a b:Expr}{ta tb:aO}{pos:Pos}
noncomputable def vb(ta tb:aO):aO:=λδ Q=>ta δ λx ak=>tb ak λy aW=>∃xs ys,x=.lst true xs/\y=.lst true ys/\xs.length+ys.length<=sizeLine/\Q (.lst true (xs++ys)) aW
theorem cu6(ha:PE X a (lE ta))(hb:PE X b (lE tb)):PE X (.BinOp a .Add b pos) (lE (vb ta tb)) :=
 dn (wA Oh ha hb) λσ H Q ⟨B,F,δ,ts,Qd,c,q,k⟩ =>
  ⟨B,F,δ,ts,_,c,q,λx ak v F1 H1 q1 f1 h1 c1=>⟨B,F1,ak,(x,v)::ts,_,c1,q1,λy aW w F2 H2 q2 f2 h2 c2=>by
   obtain⟨xs,ys,rfl,rfl,hz,hq⟩:=q2
   obtain⟨p',gC,rfl,e2,s2⟩:=i5 c2.top c2.ext
   obtain⟨p,ws,rfl,e1,s1⟩:=i5 c2.pop.top c2.ext
   refine⟨p,p',ws,gC,rfl,rfl,e1,e2,by rw[<-s1.length,<- s2.length];exact hz,λr hr=>?_⟩
   exact k _ aW _ F2 _ hq (f1.trans f2) ((h1.trans h2).trans (af.upd hr)) (c2.join e1 e2 hr)⟩⟩
end
theorem bV8{a b:List Nat}(h:aj a=aj b):a=b:=by
 have:=yu true true a b
 rw[h,show bF (D.lst true (aj b)) (D.lst true (aj b))=true from(yu _ _ _ _).trans (decide_eq_true rfl)]at this
 exact of_decide_eq_true this.symm
theorem lZ{o:Bool}(a b:List Nat)(h:D.lst o (aj a)=D.lst o (aj b)):a=b:=bV8 (by injection h)
end L3
namespace L3
open PySem L2 Mf
end L3
namespace L2
open PySem PySem.Spec PyProof.Rows
theorem b99{X:Cx}:cu X (compareOp .IsNot) (λx y H Q=>∃a b,x=.bl a/\y=.bl b/\Q (.bl (a != b)) H):=by
 intro pins s σ H x y v u Q I rx ry h
 obtain⟨a,b,rfl,rfl,q⟩:=h
 cases rx
 cases ry
 exact isnot_bool (NP I q rfl)
end L2
namespace L3
open PySem L2 PySem.Spec PyProof.Rows Mf
noncomputable def q8:cE:=λx y Q=>match x,y with
 | .bl a,.bl b=>Q (.bl (a != b))
 | _,_=>False
theorem Bv{X:Cx}:bQ X (compareOp .IsNot) q8:=⟨_,b99,λ{B F H σ δ ts x y v w Q Qd} c sx sy h k=>by
 unfold q8 at h
 split at h
 ·cases sx;cases sy
  exact⟨_,_,rfl,rfl,k _ _ _ h (af.refl _) (c.pushS (.bl .nil) rfl)⟩
 ·exact h.elim⟩
end L3
namespace L3
open PySem L2 Mf
noncomputable def cf(l:List Nat)(k:Nat):Nat:=l.getD k 0
theorem vd{l:List Nat}{k:Nat}(h:l.length<=k):cf l k=0:=by
 unfold cf;rw[aY,gJ h];rfl
theorem gr{m:Bool × Nat}(hm:m∈aG){l:List Nat}(h:AllLt (ae m) l)(k:Nat):cf l k<ae m:=h.getD (by have:=(cU hm).lo;omega) k
theorem Q8(m:Bool × Nat)(x:Nat):bO m x x=0:=by
 obtain⟨k,n⟩:=m
 cases k with
 | true=>show(((x ^^^ x:Nat):Int)).toNat=0;rw[zH];rfl
 | false=>show(((x:Int)-(x:Int))%(n:Int)).toNat=0;rw[Int.sub_self,Int.zero_emod];rfl
end L3
namespace L3
open PySem L2 PySem.Spec PyProof.Rows
section
variable{B:Bs}{F H:Hp}{σ:L2.St}{δ:Dl}{ts ps:List (D × V)}{i k:Nat}{p q:Addr}{l1 l2 ys O5:List D}{ws uk:List V}
end
section
variable{X:Cx}{F H:Hp}{e b:Expr}{pos p p2 p3 pr apos b9 Fg:Pos}{t ti te:aO}{x y:Str}{i j:Nat}
end
end L3
namespace L3
structure Rg(N:Nat)(p q:Nat->Nat->Nat):Prop where
 pc:∀a b,p a b=p b a
 pa:∀a b c,p (p a b) c=p a (p b c)
 mc:∀a b,q a b=q b a
 ma:∀{a b c},a<N->b<N->c<N->q (q a b) c=q a (q b c)
 dl:∀a b c,q a (p b c)=p (q a b) (q a c)
 z:∀{a},a<N->p 0 a=a
 qz:∀a,q a 0=0
 one:∀{a},a<N->q 1 a=a
 lp:∀{a b},a<N->b<N->p a b<N
 lq:∀a b,q a b<N
 ng:∀{a},a<N->∃b,b<N/\p a b=0
section
variable{N:Nat}{p q:Nat->Nat->Nat}
noncomputable def sm(p:Nat->Nat->Nat):Nat->(Nat->Nat)->Nat
 | 0,_=>0
 | n+1,f=>p (sm p n f) (f n)
theorem Rg.pos(r:Rg N p q):0<N:=mn (kP _) (r.lq 0 0)
theorem Rg.z'(r:Rg N p q){a:Nat}(h:a<N):p a 0=a:=by rw[r.pc];exact r.z h
theorem Rg.can(r:Rg N p q){a b c:Nat}(ha:a<N)(hb:b<N)(hc:c<N)(h:p a c=p b c):a=b:=by
 obtain⟨d,_,e⟩:=r.ng hc
 have:=congrArg (λx=>p x d) h
 simp only[r.pa,e]at this
 rw[r.z' ha,r.z' hb]at this
 exact this
theorem Rg.cn(r:Rg N p q){a b:Nat}(ha:a<N)(hb:b<N)(h:p a b=b):a=0:=r.can ha r.pos hb (by rw[h,r.z hb])
theorem fc{f g:Nat->Nat}:∀{n:Nat},(∀j,j<n->f j=g j)->sm p n f=sm p n g
 | 0,_=>rfl
 | n+1,h=>by rw[sm,sm,fc λj hj=>h j (by omega),h n (by omega)]
theorem oK(r:Rg N p q){f:Nat->Nat}:∀{n:Nat},(∀j,j<n->f j<N)->sm p n f<N
 | 0,_=>r.pos
 | n+1,h=>r.lp (oK r λj hj=>h j (by omega)) (h n (by omega))
theorem j4(r:Rg N p q){f:Nat->Nat}:∀{n:Nat},(∀j,j<n->f j=0)->sm p n f=0
 | 0,_=>rfl
 | n+1,h=>by rw[sm,j4 r λj hj=>h j (by omega),h n (by omega)];exact r.z r.pos
theorem Rg.four(r:Rg N p q)(a b c d:Nat):p (p a b) (p c d)=p (p a c) (p b d):=by
 rw[r.pa,r.pa,<- r.pa b,<- r.pa c,r.pc b c]
theorem ve(r:Rg N p q)(f g:Nat->Nat):∀n,sm p n (λj=>p (f j) (g j))=p (sm p n f) (sm p n g)
 | 0=>(r.z r.pos).symm
 | n+1=>by rw[sm,ve r f g n,sm,sm,r.four]
theorem vg(r:Rg N p q)(c:Nat)(f:Nat->Nat):∀n,sm p n (λj=>q c (f j))=q c (sm p n f)
 | 0=>(r.qz c).symm
 | n+1=>by rw[sm,vg r c f n,sm,r.dl]
theorem Q9(r:Rg N p q)(F:Nat->Nat->Nat)(k:Nat):∀n,sm p n (λi=>sm p k λj=>F i j)=sm p k λj=>sm p n λi=>F i j
 | 0=>(j4 r λ_ _=>rfl).symm
 | n+1=>by
  rw[sm,Q9 r F k n,<- ve r];rfl
theorem Ra(r:Rg N p q){f:Nat->Nat}(n:Nat):∀k,(∀j,j<n+k->f j<N)->sm p (n+k) f=p (sm p n f) (sm p k λj=>f (n+j))
 | 0,h=>(r.z' (oK r λj hj=>h j (by omega))).symm
 | k+1,h=>by
  rw[<-Dz,sm,Ra r n k λj hj=>h j (by omega),sm,r.pa]
end
end L3
namespace L3
section
variable{N:Nat}{p q:Nat->Nat->Nat}
end
end L3
namespace L3
open PySem L2 Mf
theorem rg{m:Bool × Nat}(hm:m∈aG):Rg (ae m) (gp m) (gm m) where
 pc:=oH m
 pa:=FV m
 mc:=jy m
 ma:=λ_ _ _=>lW (dH m hm) _ _ _
 dl:=λa b c=>Q1 (dH m hm) b c a
 z:=Q3
 qz:=λa=>lX m a (dH m hm)
 one:=qY
 lp:=Q2 hm
 lq:=dw hm
 ng:=λ{a} ha=>by
  have g:=lY hm (a:=0) (b:=a) (by omega) ha
  exact⟨_,g.2.1,(oH m _ _).trans g.2.2⟩
theorem ca5(p:Nat->Nat->Nat)(l:List Nat):l.foldl p 0=sm p l.length λj=>l.getD j 0:=by
 have key:∀n,n<=l.length->(l.take n).foldl p 0=sm p n λj=>l.getD j 0:=by
  intro n
  induction n with
  | zero=>intro _;rfl
  | succ n ih =>
   intro h
   rw[mw,aS (by omega),zM,ih (by omega),sm,aY,aS (show n<l.length by omega)]
   rfl
 have:=key l.length (bK _)
 rw[sq]at this
 exact this
theorem cu1{m:Bool × Nat}(hm:m∈aG)(f:Nat)(b:List Nat)(j:Nat):cf (b.map (gm m f)) j=gm m f (cf b j):=by
 unfold cf
 rw[aY,bZ,aY]
 cases b[j]? with
 | none=>exact(lX m f (dH m hm)).symm
 | some x=>rfl
theorem Rb{m:Bool × Nat}(hm:m∈aG){a b:Nat}(ha:a<ae m)(hb:b<ae m)(h0:b≠0):∃r,r<ae m/\gm m r b=a:=by
 by_cases a0:a=0
 ·exact⟨0,by have:=(cU hm).lo;omega,by rw[a0];exact iF m b (dH m hm)⟩
 ·obtain⟨r,_,h1,h2⟩:=QU hm (show 1<=a by omega) ha (show 1<=b by omega) hb
  exact⟨r,h1,h2⟩
end L3
namespace L3
open PySem L2 PySem.Spec PyProof.Rows
section
variable{X:Cx}{i j:Nat}{x y:Str}{p pos pos' apos b9:Pos}
end
section
variable{X:Cx}{e:Expr}{t:aO}{p pos:Pos}
end
section
variable{X:Cx}
theorem b72(i:Int)(ns:List Int):Ar (.int i) (ns.map V.int)=decide (i∈ns):=by
 unfold Ar
 rw[Nm,sj,MX,decide_eq_true_iff]
 exact⟨λ⟨x,hx,he⟩=>(show x=i by simpa[lh]using he) ▸ hx,λhx=>⟨i,hx,by simp[lh]⟩⟩
noncomputable def q9:cE:=λx y Q=>match x,y with
 | .int i,.lst _ xs=>∃ns:List Int,xs=aF ns/\Q (.bl (!decide (i∈ns)))
 | _,_=>False
theorem cD5:bQ X (compareOp .NotIn) q9 :=
 ⟨_,Y3,λ{B F H σ δ ts x y v w Q Qd} c sx sy h k=>by
  unfold q9 at h
  split at h
  ·rename_i i o xs
   obtain⟨ns,rfl,q⟩:=h
   obtain⟨p,ws,rfl,e1,s1⟩:=i5 sy c.ext
   have e:=Fv s1
   subst e
   cases sx
   refine⟨p,_,rfl,.inl (bM.of e1),rfl,by simp[mH],?_⟩
   rw[if_pos rfl,b72]
   exact k _ _ _ q (af.refl _) (c.pushS (.bl .nil) rfl)
  ·exact h.elim⟩
end
end L3
namespace L3
open PySem L2 Mf
noncomputable def ay(o:Bool)(T:List (List Nat)):List D:=T.map λr=>.lst o (aj r)
theorem kG(o:Bool)(T:List (List Nat)):(ay o T).length=T.length:=by unfold ay;rw[bq]
theorem dR(o:Bool)(T:List (List Nat)):(ay o T).map D.sh=ay false T:=by
 unfold ay
 rw[bR]
 exact pB λr _=>yv o r
theorem oM(T:List (List Nat)):(ay false T).all D.pl=true:=by
 unfold ay
 rw[kS,cX]
 intro r _
 show(D.lst false (aj r)).pl=true
 rw[fK,m4];rfl
theorem vh(T:List (List Nat)):(ay true T).all D.fr=true:=by
 unfold ay
 rw[kS,cX]
 intro r _
 exact gE r
theorem rh(o:Bool)(S T:List (List Nat)):ay o S++ay o T=ay o (S++T):=by unfold ay;rw[fh]
theorem yw(o:Bool)(T:List (List Nat))(lo hi:Option Int):fj (ay o T) lo hi=ay o (fj T lo hi):=by
 unfold ay fj
 rw[bq,M9,M8]
theorem yx(o:Bool){T:List (List Nat)}{i:Nat}(h:i<T.length):eP (ay o T) (i:Int)=some (.lst o (aj T[i])):=by
 refine L3.Fu ?_
 unfold ay
 rw[bZ,aS h];rfl
theorem bX4(n:Nat)(o:Bool)(T:List (List Nat)):(ay o T).all (dv (n+1))=true:=by
 unfold ay
 rw[kS,cX]
 intro r _
 exact u9 _ _ _
theorem Rc(n:Nat)(o o':Bool)(T:List (List Nat)):dv (n+2) (.lst o (ay o' T))=true:=bX4 n o' T
theorem Rh(o o':Bool):∀(a b:List (List Nat)),bF.fO (ay o a) (ay o' b)=decide (a=b)
 | [],[]=>rfl
 | [],_::_=>by simp[ay,bF.fO]
 | _::_,[]=>by simp[ay,bF.fO]
 | x::xs,y::ys=>by
  show(bF (.lst o (aj x)) (.lst o' (aj y))&&bF.fO (ay o xs) (ay o' ys))=_
  rw[Rh o o' xs ys,yu,sj];simp
theorem ci1(o o' o1 o2:Bool)(a b:List (List Nat)):bF (.lst o (ay o1 a)) (.lst o' (ay o2 b))=decide (a=b):=Rh o1 o2 a b
open Classical in
theorem FY{α:Type}{sh:Bool}{xs:List D}{aC:List (Str × Nat)}{n:Nat}{g0:hW}{tt:fB}{te:aO}{ak:Dl}{Q:D->Dl->Prop}(l:List α)(e g:α->D)(kp:α->Bool)(i9:xs.map D.sh=l.map e)(inj:∀a b,e a=e b->a=b)
  (hx:∀a∈l,g0 (e a) (gj aC n ak) λaW=>tt aW λb iE=>b=kp a/\(kp a=true->te iE λd _=>d=g a)) (eB:(sh&&aC.all (iZ ak))=true\/∀a∈l,kp a=true->(g a).fr=true) (hl:l.length<=sizeLine) (hq:Q (.lst true ((l.filter kp).map g)) ak):tV sh xs aC n g0 tt te ak Q:=by
 have pick:∀{β:Type} (h:α->β) (z:β),∃f:D->β,∀a∈l,f (e a)=h a:=λh z=>⟨λx=>if w:∃a∈l,e a=x then h w.choose else z,λa ha=>by
  have w:∃b∈l,e b=e a:=⟨a,ha,rfl⟩
  show(if w:∃b∈l,e b=e a then h w.choose else z)=h a
  rw[dif_pos w]
  exact congrArg h (inj _ _ w.choose_spec.2)⟩
 obtain⟨f,hf⟩:=pick g .au
 obtain⟨p,hp⟩:=pick kp false
 refine⟨p,f,λx h=>?_,eB.imp id λh x da=>?_,?_,?_⟩
 ·rw[i9]at h
  obtain⟨a,ha,rfl⟩:=bD.mp h
  rw[hp a ha,hf a ha]
  exact hx a ha
 ·rw[i9]at da
  obtain⟨a,ha,rfl⟩:=bD.mp da
  rw[hp a ha,hf a ha];exact h a ha
 ·have:=congrArg Dg i9
  simp at this
  omega
 ·rw[i9,List.filter_map,bR,show l.filter (p ∘ e)=l.filter kp from List.filter_congr λa ha=>hp a ha,show(l.filter kp).map (f ∘ e)=(l.filter kp).map g from pB λa ha=>hf a (vO.mp ha).1]
  exact hq
theorem Ri{o:Bool}{G:List (List Nat)}{i:Nat}{d:D}(h:(fC (ay o G))[i]?=some d):∃hi:i<G.length,d=.tup [.int i,.lst o (aj G[i])]:=by
 unfold fC ay at h
 rw[zK,bZ]at h
 by_cases hi:i<G.length
 ·rw[aS hi]at h
  exact⟨hi,(cO h).symm⟩
 ·rw[gJ (by omega)]at h;cases h
theorem FZ(r:List Nat):(fC (aj r)).map D.sh=(aL r.length).map λ(i:Nat)=>D.tup [.int (i:Int),.int ((r.getD i 0:Nat):Int)]:=by
 apply Na
 intro i
 unfold fC
 rw[bY,bZ,zK,bZ,bZ]
 by_cases hi:i<r.length
 ·have e:r.getD i 0=r[i]:=by rw[aY,aS hi];rfl
  rw[aS hi,kg hi]
  show _=some (D.tup [D.int (i:Int),D.int ((r.getD i 0:Nat):Int)])
  rw[e];rfl
 ·rw[gJ (show r.length<=i by omega),gJ (show(aL r.length).length<=i by simpa using hi)];rfl
theorem Rj{r:List Nat}(h:∃x∈r,x≠0):((aL r.length).filter λi=>r.getD i 0 != 0)[0]?=some (r.findIdx (· != 0)):=by
 obtain⟨x,hx,h0⟩:=h
 have hl:r.findIdx (· != 0)<r.length:=Nn ⟨x,hx,by simpa using h0⟩
 rw[<-List.head?_eq_getElem?,List.head?_filter,List.find?_range_eq_some]
 refine⟨?_,cV.mpr hl,λj hj=>?_⟩
 ·rw[aY,aS hl]
  exact Wu (w:=hl)
 ·have:=List.not_of_lt_findIdx hj
  rw[aY,aS (by omega)]
  simpa using this
noncomputable def av(T:List (List Nat)):Nat:=(T.headD []).length
noncomputable def jz(T:List (List Nat))(j:Nat):Option Nat:=T.findIdx? λr=>r.getD j 0 != 0
noncomputable def gF(m:Bool × Nat)(T:List (List Nat))(l:List Nat)(j:Nat):List (List Nat):=T.map λr=>cP (λx y=>bO m x (gm m (r.getD j 0) y)) r l
noncomputable def l6(m:Bool × Nat)(b:Nat):Nat:=((aL (ae m)).find? λr=>gm m r b==1).getD 0
theorem Bw{m:Bool × Nat}(hm:m∈aG){b r:Nat}(hr:r<ae m)(h:gm m r b=1):l6 m b=r:=by
 have m0:=dH m hm
 unfold l6
 cases e:(aL (ae m)).find? λr=>gm m r b==1 with
 | none =>
  have:=Np.mp e r (cV.mpr hr)
  simp[h]at this
 | some r' =>
  have h':gm m r' b=1:=by simpa using List.find?_some e
  have l':r'<ae m:=cV.mp (M7 e)
  show r'=r
  rw[<-u3 hr,<- h',<- lW m0,jy m r r',lW m0,h,u3 l']
noncomputable def RT(N w:Nat)(T:List (List Nat)):Prop:=∀r∈T,r.length=w/\AllLt N r
theorem RT.app{N w:Nat}{S T:List (List Nat)}(a:RT N w S)(b:RT N w T):RT N w (S++T):=λr hr=>(cj.mp hr).elim (a r) (b r)
theorem Rk{m:Bool × Nat}(hm:m∈aG){w j:Nat}{T:List (List Nat)}{l:List Nat}(h:RT (ae m) w T)(hl:l.length=w):RT (ae m) w (gF m T l j):=λr hr=>by
 obtain⟨r,h1,rfl⟩:=bD.mp hr
 obtain⟨a,b⟩:=h r h1
 exact⟨by rw[jK,a,hl,zI],FX λx hx y hy=>(lY hm (b x hx) (dw hm _ y)).2.1⟩
noncomputable def dY(m:Bool × Nat)(T:List (List Nat))(i p:Nat):List Nat:=(T.getD i []).map (gm m (l6 m ((T.getD i []).getD p 0)))
noncomputable def ig(m:Bool × Nat)(s:List (List Nat) × List (List Nat))(p:Nat):List (List Nat) × List (List Nat):=match jz s.2 p with
 | none=>s
 | some i=>(gF m s.1 (dY m s.2 i p) p++[dY m s.2 i p],gF m (s.2.take i++s.2.drop (i+1)) (dY m s.2 i p) p)
noncomputable def jA(m:Bool × Nat)(G:List (List Nat))(k:Nat):List (List Nat) × List (List Nat):=(aL k).foldl (ig m) ([],G)
noncomputable def dy(m:Bool × Nat)(G:List (List Nat)):List (List Nat):=(jA m G (av G)).1
theorem Ga(m:Bool × Nat)(G:List (List Nat))(k:Nat):jA m G (k+1)=ig m (jA m G k) k:=by
 unfold jA
 rw[DF,zM];rfl
theorem Bz{T:List (List Nat)}{j i:Nat}(h:jz T j=some i):∃hi:i<T.length,T[i].getD j 0≠0/\T.getD i []=T[i]:=by
 obtain⟨hi,h1,_⟩:=Wv.mp h
 exact⟨hi,by simpa using h1,by rw[aY,aS hi];rfl⟩
structure yy(N w n:Nat)(s:List (List Nat) × List (List Nat)):Prop where
 a:RT N w s.1
 b:RT N w s.2
 l:s.1.length+s.2.length<=n
theorem ca2{m:Bool × Nat}(hm:m∈aG){w n p:Nat}{s:List (List Nat) × List (List Nat)}(h:yy (ae m) w n s):yy (ae m) w n (ig m s p):=by
 unfold ig
 split
 ·exact h
 ·rename_i i e
  obtain⟨hi,h1,h2⟩:=Bz e
  have hl:(dY m s.2 i p).length=w:=by unfold dY;rw[bq,h2];exact(h.b _ (dN hi)).1
  have hr:RT (ae m) w [dY m s.2 i p]:=λr hr=>by
   rw[fv]at hr
   refine⟨by rw[hr];exact hl,λx hx=>?_⟩
   rw[hr]at hx
   obtain⟨y,_,rfl⟩:=bD.mp hx
   exact dw hm _ _
  refine⟨(Rk hm h.a hl).app hr,Rk hm (λr hr=>h.b r ?_) hl,?_⟩
  ·rcases cj.mp hr with hr | hr
   ·exact sr hr
   ·exact pz hr
  ·have:=h.l
   unfold gF
   rw[dm,bq,bq,dm,iu,jI]
   show s.1.length+1+_<=n
   omega
theorem BA{m:Bool × Nat}(hm:m∈aG){w:Nat}{G:List (List Nat)}(h:RT (ae m) w G):∀k,yy (ae m) w G.length (jA m G k)
 | 0=>⟨(λr hr=>nomatch hr),h,zB (Nl _)⟩
 | k+1=>by rw[Ga];exact ca2 hm (BA hm h k)
theorem b65(j:Nat)(l:List Nat):decide ((j:Int)∈l.map λ(n:Nat)=>(n:Int))=l.contains j:=by
 rw[sj,decide_eq_true_iff,DG,bD]
 exact⟨λ⟨a,h,e⟩=>(show a=j by omega) ▸ h,λh=>⟨j,h,rfl⟩⟩
theorem ci8{o:Bool}{G:List (List Nat)}{f:List Nat->Nat}{k:Nat}{d:D}(h:(eC (aj (G.map f)) (ay o G))[k]?=some d):∃hk:k<G.length,d=.tup [.int ((f G[k]:Nat):Int),.lst o (aj G[k])]:=by
 unfold eC ay at h
 rw[bY,pF,bZ,bZ,bZ]at h
 by_cases hk:k<G.length
 ·rw[aS hk]at h
  exact⟨hk,(cO h).symm⟩
 ·rw[gJ (by omega)]at h;cases h
theorem Rl{α:Type}(a:α->Nat)(b:α->Nat):∀(l:List α) (x:List Nat),(l.foldl (λx z=>x.set (a z) (b z)) x).length=x.length
 | [],_=>rfl
 | z::l,x=>by rw[se,Rl a b l,gW]
end L3
namespace L2
open PySem PySem.Spec PyProof.Rows
theorem bR1{M:Model}{A:Around}{E:Value->Shared->Prop}{s:Shared}{scope:Scope}{globals:Addr}{cl:List (Str × Addr)}{qual:Str}{env:Env}{bi:Addr}{Q:Env->Shared->Prop}
  (hQ:Q (newEnv scope s.heap.objs.size globals (cellsFrom (s.heap.objs.size+1) scope.names cl) qual none .none (some env) bi) { s with heap:=pushCells (s.heap.push { cls:=.type "dict",data:=.dict #[] }) scope.names }) :
  wpAny M A (newFunctionEnv scope globals cl [] qual none .none (some env) bi) Q E s:=by
 simp only[newFunctionEnv,Option.isSome_some,if_true]
 refine wpAny_bind (wpAny_alloc (wpAny_bind (wpAny_layCells _ (λname kind cells=>by cases e:kind==DH<;>simp[e]) _ _ _ _ ?_)))
 rw[List.forIn_nil]
 refine wpAny_bind (wpAny_pure (wpAny_pure ?_))
 have z:({ s with heap:=s.heap.push { cls:=.type "dict",data:=.dict #[] } }:Shared).heap.objs.size=s.heap.objs.size+1:=rT ..
 rw[z]
 exact hQ
theorem yz:∀(ns:List (Str × NameKind)) (n:Nat) (acc:List (Str × Addr)) (y:Str) (c:Addr),(cellsFrom n ns acc).lookup y=some c->(n<=c/\(y,DH)∈ns)\/acc.lookup y=some c
 | [],_,_,_,_,h=>.inr h
 | (z,k)::r,n,acc,y,c,h=>by
  unfold cellsFrom at h
  split at h
  ·rename_i hk
   rcases yz r (n+1) _ y c h with⟨h1,h2⟩ | h1
   ·exact .inl ⟨by omega,fU _ h2⟩
   ·rw[fI]at h1
    cases q:y==z with
    | true =>
     rw[q]at h1;cases h1
     exact .inl ⟨bK _,by rw[eq_of_beq q,eq_of_beq hk];exact jj⟩
    | false=>rw[q]at h1;exact .inr h1
  ·rcases yz r n acc y c h with⟨h1,h2⟩ | h1
   ·exact .inl ⟨h1,fU _ h2⟩
   ·exact .inr h1
theorem Gb:∀(ns:List (Str × NameKind)) (n:Nat) (acc:List (Str × Addr)),(∀y z c,acc.lookup y=some c->acc.lookup z=some c->y=z)->(∀y c,acc.lookup y=some c->c<n) ->
  ∀y z c,(cellsFrom n ns acc).lookup y=some c->(cellsFrom n ns acc).lookup z=some c->y=z
 | [],_,_,i,_,y,z,c,h1,h2=>i y z c h1 h2
 | (u,k)::r,n,acc,i,b,y,z,c,h1,h2=>by
  unfold cellsFrom at h1 h2
  split at h1
  ·rw[if_pos (by assumption)]at h2
   refine Gb r (n+1) ((u,n)::acc) (λy z c e1 e2=>?_) (λy c e=>?_) y z c h1 h2
   ·rw[fI]at e1 e2
    cases q1:y==u with
    | true =>
     rw[q1]at e1;cases e1
     cases q2:z==u with
     | true=>rw[eq_of_beq q1,eq_of_beq q2]
     | false=>rw[q2]at e2;exact absurd (b _ _ e2) (gw _)
    | false =>
     rw[q1]at e1
     cases q2:z==u with
     | true=>rw[q2]at e2;cases e2;exact absurd (b _ _ e1) (gw _)
     | false=>rw[q2]at e2;exact i y z c e1 e2
   ·rw[fI]at e
    cases q:y==u with
    | true=>rw[q]at e;cases e;exact zC _
    | false=>rw[q]at e;exact Nd (b _ _ e)
  ·rw[if_neg (by assumption)]at h2
   exact Gb r n acc i b y z c h1 h2
theorem Gd:∀(ns:List (Str × NameKind)) (n:Nat) (acc:List (Str × Addr)) (y:Str) (c:Addr),(y,DH)∈ns->(cellsFrom n ns acc).lookup y=some c->n<=c
 | [],_,_,_,_,m,_=>nomatch m
 | (z,k)::r,n,acc,y,c,m,h=>by
  unfold cellsFrom at h
  split at h
  ·rename_i hk
   rcases cA.mp m with e | m
   ·have e1:y=z:=(Prod.mk.inj e).1
    rcases yz r (n+1) _ y c h with⟨h1,_⟩ | h1
    ·exact zN h1
    ·rw[fI,e1,beq_self_eq_true]at h1
     exact zB (cO h1)
   ·exact zN (Gd r (n+1) _ y c m h)
  ·rename_i hk
   rcases cA.mp m with e | m
   ·cases e;exact absurd rfl hk
   ·exact Gd r n acc y c m h
noncomputable def dz(X:Cx)(scope:Scope)(N:List Str)(cl:List (Str × Addr))(C:Addr)(s:Shared)(H:Hp)(fp:List Addr):Cx :=
 { Az X scope N (cellsFrom (C+1) scope.names cl) C s H fp with fn:=λy=>scope.names.contains (y,DH) }
section
variable{X:Cx}{scope:Scope}{cl:List (Str × Addr)}
theorem b68{pins:List (Addr × Obj)}{σ:St}{H:Hp}{s:Shared}{fp:List Addr}{C:Addr}(I:Inv X pins σ H s)(g8:scope.kind=.function)(hC:s.heap.objs.size<=C)
  (fk:∀y c,cl.lookup y=some c->X.env.cells.lookup y=some c) (c44:∀y,((relabel scope X.env).names.lookup y=some .cell\/(relabel scope X.env).names.lookup y=some .free)->∃c,(cellsFrom (C+1) scope.names cl).lookup y=some c)
  (hf:∀b∈fp,iQ X pins H b) (ho:∀b∈fp,∃o,s.heap.get? b=some o/\∀v,o.data≠.cell v) (N:List Str):(dz X scope N cl C s H fp).Ok where
 mod:=I.ok.mod
 kind:=g8
 glob:=I.ok.glob
 blt:=I.ok.blt
 above:=hC
 inj:=Gb scope.names (C+1) cl (λy z c h1 h2=>I.ok.inj y z c (fk _ _ h1) (fk _ _ h2)) λy c e=>by
  obtain⟨v,o,ho,_⟩:=I.cell y c (fk y c e)
  exact Nat.lt_succ_of_le (zx (de (bP ho) hC))
 has:=c44
 pK:=λy c h e=>fg hC (zN (Gd _ _ _ y c (DG.mp h) e))
 hd:=I.ok.hd
 frames:=I.ok.frames
 wb:=.inl rfl
 wc:=λb hb=>⟨by
  obtain⟨o,e,_⟩:=ho b hb
  exact eZ (de (bP e) hC),λy c e z=>by
  rcases yz _ _ _ y c e with⟨h1,_⟩ | h1
  ·obtain⟨o,e,_⟩:=ho b hb
   rw[z]at h1
   exact absurd (de (bP e) (fg hC (zN h1))) (gw _)
  ·exact(hf b hb).2.2.2.2.1 y c (fk _ _ h1) z⟩
 bs:=I.bs
 jP:=fg I.ok.jP I.sz
 sG:=λb o e hb=>by
  rcases(hf b hb).2.2.2.1 with z | z
  ·exact I.ok.sG b o e z
  ·exact absurd (de (bP (I.ok.bs b o e).1) z) (gw _)
 sH:=λb hb z=>(cA.mp (I.z7 b z)).elim (hf b hb).2.1 (hf b hb).2.2.1
 gK:=I.stack
 jQ:=I.DM
end
theorem Ge:∀(ns:List (Str × NameKind)) (h:Heap) (acc:List (Str × Addr)) (y:Str) (c:Addr),(cellsFrom h.objs.size ns acc).lookup y=some c->(∃o,(pushCells h ns).get? c=some o/\o.data=.cell none)\/acc.lookup y=some c
 | [],_,_,_,_,e=>.inr e
 | (z,k)::r,h,acc,y,c,e=>by
  unfold cellsFrom at e
  unfold pushCells
  split at e
  ·rename_i hk
   rw[if_pos hk]
   rw[<-rT h { cls:=.type "cell",data:=.cell none }]at e
   rcases Ge r _ _ y c e with h1 | h1
   ·exact .inl h1
   ·rw[fI]at h1
    cases q:y==z with
    | true =>
     rw[q]at h1;cases h1
     exact .inl ⟨_,pushCells_keeps _ _ _ _ (gx _ rfl),rfl⟩
    | false=>rw[q]at h1;exact .inr h1
  ·rename_i hk
   rw[if_neg hk]
   exact Ge r h acc y c e
end L2
namespace L2
open PySem PySem.Spec PyProof.Rows
section
variable{X:Cx}{elt iter tg:Expr}{pos:Pos}{ifs:List Expr}{scope:Scope}{cl:List (Str × Addr)}{wi:TI}{tt:TT}{te:TE}{g:TG}
theorem Rm(aC:List (Str × Nat))(bH:List Str)(hc:X.calm=true)(hi:PI X tg iter wi)
  (hg:∀C s H fp,PG (dz X scope (aC.map (·.1)++bH) cl C s H fp) tg g)
  (ht:∀C s H fp,lu (dz X scope (aC.map (·.1)++bH) cl C s H fp) ifs tt) (he:∀C s H fp,PE (dz X scope (aC.map (·.1)++bH) cl C s H fp) elt te)
  (kH:closureFor scope X.env=pure cl) (kI:ly X cl) (kJ:∀C:Addr,lC (cellsFrom (C+1) scope.names cl) (relabel scope X.env).names) (kK:∀C:Addr,lj X scope (cellsFrom (C+1) scope.names cl) aC)
  (g8:scope.kind=.function) (kL:∀y∈scope.names,y.2=.local->scope.names.lookup y.1=some .local)
  (hs:∀x,foldedSetIterable iter X.env x=pure x:=by intro _;rfl) {pins:List (Addr × Obj)} {s:Shared} {σ:L2.St} {H:Hp} {Q:VK} {use:Option (Value->Sem Unit)} {b9:Pos} {Rf:Value->Shared->Prop} (I:Inv X pins σ H s) (h:AB wi aC bH.length g tt te σ H Q)
  (c45:∀(s':Shared) (H':Hp) (C Da:Addr) (m:Str->Option Value),Inv X pins σ H' s'->s'.heap.Ns C m->H' C=none->C≠X.env.locals->X.cJ.heap.objs.size<=C->(∀x c,X.env.cells.lookup x=some c->c≠C)->(∀p∈X.pn++pins,p.1≠C)->C ∉ X.fs->Q (.ref Da) H' ->
   compPost (model X.prog X.w) X.A X.xe use Rf (.ref Da) C (.ok .next) s') :
  wpAny (model X.prog X.w) X.A (comprehension (.ListComp elt [⟨tg,iter,ifs,0⟩] scope pos) scope X.env b9 (newList []) false (eval iter X.env) use) Rf X.xe s:=by
 have fk:=kI.all
 refine wpAny_comprehension_free (use:=use) rfl hs kH g8 kL (aP (hi pins s σ H _ I h) λv s1 h1=>aP h1 λDX s2 h2=>?_)
 obtain⟨it,fp,tn,J,H2,e,I2,T,nN,f2,q⟩:=h2
 subst e
 refine wpAny_newList ?_
 refine bR1 ?_
 have hD:H2 s2.heap.objs.size=none:=I2.aJ.fresh (bK _)
 obtain⟨W,⟨m0,w0⟩,turn⟩:=q s2.heap.objs.size hD
 generalize Gf:s2.heap.push { cls:=.type "list",data:=.seq ([]:List Value).toArray }=g0 at ⊢
 have hCs:g0.objs.size=s2.heap.objs.size+1:=by rw[<-Gf,rT]
 have hDC:s2.heap.objs.size≠g0.objs.size:=by omega
 have hle:s2.heap.objs.size<=g0.objs.size:=by omega
 have sI:∀b o,s2.heap.get? b=some o->b≠g0.objs.size:=λb o e=>eZ (de (bP e) hle)
 obtain⟨g1,BB⟩:∃g1,g1=pushCells (g0.push { cls:=.type "dict",data:=.dict #[] }) scope.names:=⟨_,rfl⟩
 have ns1:g1.Ns g0.objs.size (λ_=>none):=by rw[BB];exact(Heap.Ns.new g0 (.type "dict")).keeps (pushCells_keeps _ _)
 have Rn:∀b o,g0.get? b=some o->g1.get? b=some o:=λb o e=>by rw[BB];exact pushCells_keeps _ _ b o (fu _ e)
 have old:∀b o,s2.heap.get? b=some o->g1.get? b=some o:=λb o e=>Rn b o (Gf ▸ fu _ e)
 rw[<-BB]
 have hDg:g1.get? s2.heap.objs.size=some { cls:=.type "list",data:=.seq ([]:List Value).toArray }:=Rn _ _ (Gf ▸ gx _ rfl)
 have Ro:∀b∈fp,∃o,s2.heap.get? b=some o/\∀v,o.data≠.cell v:=T.obj _ _ nN
 have BC:=b68 (scope:=scope) (cl:=cl) (C:=g0.objs.size) I2 g8 hle fk (kJ g0.objs.size).all f2 Ro (aC.map (·.1)++bH)
 have I4:Inv (dz X scope (aC.map (·.1)++bH) cl g0.objs.size s2 H2 fp) [] (hE aC bH.length σ) (upd H2 s2.heap.objs.size (.lst [])) { s2 with heap:=g1 }:=by
  refine⟨BC,rfl,I2.bare,Un.laid old (bK _) hD,⟨_,ns1,λi y v h1 h2 h3=>?_⟩,λy c e=>?_,?_,λy c e=>?_,λp hp=>absurd hp (by simp[dz,Az]),I2.aJ.laid old (bK _) ⟨kP _,[],0,.nil,hDg⟩,by simp[hE,dz,Az]⟩
  ·by_cases Gg:i<aC.length
   case neg =>
    have jq:((aC.map λp=>(σ[p.2]?).getD none)++bj bH.length none)[i]?=some (some v):=h2
    rw[mh (by simpa using Gg),rW]at jq
    split at jq<;>cases jq
   case pos =>
    have jU:(aC.map (·.1))[i]?=some y:=by
     have z:(aC.map (·.1)++bH)[i]?=some y:=h1
     rwa [pd (by simpa using Gg)]at z
    have jq:(aC.map λp=>(σ[p.2]?).getD none)[i]?=some (some v):=by
     have z:((aC.map λp=>(σ[p.2]?).getD none)++bj bH.length none)[i]?=some (some v):=h2
     rwa [pd (by simpa using Gg)]at z
    rw[bZ]at jU jq
    cases hj:aC[i]? with
    | none=>rw[hj]at jU;cases jU
    | some p =>
     rw[hj]at jU jq
     have ey:p.1=y:=cO jU
     have ev:(σ[p.2]?).getD none=some v:=cO jq
     obtain⟨hN,hk,Rp,c,e1,e2⟩:=(kK g0.objs.size).at p (rX hj)
     obtain⟨m,hn,hl⟩:=I2.loc
     have es:σ[p.2]?=some (some v):=by
      cases z:σ[p.2]? with
      | none=>rw[z]at ev;cases ev
      | some o=>rw[z]at ev;exact congrArg some ev
     obtain⟨u,ru,lk⟩:=hl p.2 p.1 v hN es (hk.elim (λz=>.inr (.inl z)) λz=>.inr (.inr z))
     refine⟨u,ru,?_⟩
     rcases lk with⟨lk,_⟩ | ⟨_,c',e3,ic⟩
     ·rcases hk with hk | hk
      ·have:=hk.symm.trans lk;cases this
      ·have:=hk.symm.trans lk;cases this
     ·rw[e2]at e3
      cases e3
      subst ey
      obtain⟨oc,iO,FD⟩:=ic
      exact .inr ⟨Rp,c,e1,oc,old _ _ iO,FD⟩
  ·rcases Ge _ _ _ y c (show(cellsFrom (g0.push { cls:=.type "dict",data:=.dict #[] }).objs.size scope.names cl).lookup y=some c by rw[rT];exact e)with h1 | h1
   ·rw[<-BB]at h1
    exact⟨none,h1⟩
   ·obtain⟨v,o,ho,hd⟩:=I2.cell y c (fk y c h1)
    exact⟨v,o,old _ _ ho,hd⟩
  ·show upd H2 _ _ g0.objs.size=none
   rw[bc (ft hDC)]
   exact I2.aJ.fresh hle
  ·rcases yz _ _ _ y c e with⟨h1,_⟩ | h1
   ·rw[bc (MQ (mn hle h1))]
    exact I2.aJ.fresh (fg hle (zN h1))
   ·obtain⟨v,o,ho,hd⟩:=I2.cell y c (fk y c h1)
    rw[bc (eZ (bP ho))]
    exact I2.jn y c (fk y c h1)
 have fin:∀(s':Shared) (H':Hp) (aI:L2.St),Inv (dz X scope (aC.map (·.1)++bH) cl g0.objs.size s2 H2 fp) [] aI H' s'->Q (.ref s2.heap.objs.size) H' ->
   compPost (model X.prog X.w) X.A X.xe use Rf (.ref s2.heap.objs.size) g0.objs.size (.ok .next) s':=by
  intro s' H' aI I' q'
  obtain⟨m,hn,_⟩:=I'.loc
  have u:=I'.base
  have hC':H' g0.objs.size=none:=I'.free
  have IX:Inv X pins σ H' s':=I2.WW (s':=s') (ch:=fp) I'.os ⟨u.keep,u.slot,u.free,u.there,u.jN,u.jm,u.iy⟩ I'.aJ I'.bare λb hb=>by
   obtain⟨_,y1,y2,y3,y4,y5⟩:=f2 b hb
   exact⟨y3,y1,y4,y5⟩
  have Rq:∀b,(∃o,s2.heap.get? b=some o)->b≠g0.objs.size:=λb ⟨o,e⟩=>sI b o e
  refine c45 s' H' g0.objs.size s2.heap.objs.size m IX hn hC' (λz=>?_) (fg I2.sz hle) (λx c e z=>?_) (λp hp z=>?_) (λz=>?_) q'
  ·have h0:X.env.locals<s2.heap.objs.size:=I2.lt
   rw[<-z]at h0
   exact gw _ (de h0 hle)
  ·obtain⟨v,o,ho,_⟩:=I2.cell x c e
   exact Rq c ⟨o,ho⟩ z
  ·exact Rq p.1 ⟨_,(I2.pin p hp).1⟩ z
  ·exact I2.Nz hle z
 have Gh:∀(H':Hp),(∀b∈fp,H' b=none)->∀b∈fp,iQ (dz X scope (aC.map (·.1)++bH) cl g0.objs.size s2 H2 fp) [] H' b:=λH' hn b hb =>
  ⟨hn b hb,(BC.wc b hb).1,BC.sH b hb,.inl hb,(BC.wc b hb).2,λp hp=>absurd hp (by simp[dz,Az])⟩
 have loop:codeAny (model X.prog X.w) X.A (.compLoop (.ListComp elt [⟨tg,iter,ifs,0⟩] scope pos) 0 (.ref it) (.ref s2.heap.objs.size) (compEnvC scope (cellsFrom (g0.objs.size+1) scope.names cl) g0.objs.size X.env))
   (compPost (model X.prog X.w) X.A X.xe use Rf (.ref s2.heap.objs.size) g0.objs.size) { s2 with heap:=g1 }:=by
  refine Z0 (λn s'=>∃i acc H',Inv (dz X scope (aC.map (·.1)++bH) cl g0.objs.size s2 H2 fp) [] (hE aC bH.length σ) H' s'/\tn i s'.heap/\(∀b∈fp,H' b=none)/\W i n acc H') ?_ m0
   ⟨0,[],_,I4,T.keep _ _ _ nN λb hb o e=>old b o e,λb hb=>?_,w0⟩
  ·rintro n s' ⟨i,acc,H',I',nM,uY,w'⟩
   obtain⟨EY,⟨stop,qn⟩ | ⟨go,step⟩⟩:=turn i n acc H' w'
   ·refine aP (T.done (dz X scope (aC.map (·.1)++bH) cl g0.objs.size s2 H2 fp) rfl rfl rfl hc i [] s' _ H' (λ_ _=>False) I' (Gh H' uY) nM stop) λr t1 zz=>?_
    obtain⟨hr,I1⟩:=zz
    subst hr
    exact fin _ _ _ I1 qn
   ·refine aP (T.item (dz X scope (aC.map (·.1)++bH) cl g0.objs.size s2 H2 fp) rfl rfl rfl hc i [] s' _ H' (λ_ _=>False) I' (Gh H' uY) nM go) λr t1 zz=>?_
    obtain⟨u,hr,h4⟩:=zz
    subst hr
    refine aP h4 λ_ t2 zz=>?_
    obtain⟨x5,H5,I5,r5,y5,pV,wu⟩:=zz
    obtain⟨AM,st6⟩:=step x5 H5 y5
    have D1:=I5.pinned (Gh H5 wu) (T.obj _ _ pV)
    refine aP (hg _ _ _ _ _ t2 _ H5 x5 u _ D1 r5 st6) λ_ t3 zz=>?_
    obtain⟨D2,H6,I6,⟨c52,c53⟩,st7⟩:=zz
    have back:∀(s7:Shared) (H7:Hp) (Gi:List V) (m7:Nat),Inv (dz X scope (aC.map (·.1)++bH) cl g0.objs.size s2 H2 fp) ([]++wq fp t2.heap) D2 H7 s7->W (i+1) m7 Gi H7 ->
      ∃i acc H',Inv (dz X scope (aC.map (·.1)++bH) cl g0.objs.size s2 H2 fp) [] (hE aC bH.length σ) H' s7/\tn i s7.heap/\(∀b∈fp,H' b=none)/\W i m7 acc H':=λs7 H7 Gi m7 I7 w7 =>
     ⟨i+1,Gi,H7,(I7.wt).weak c52.symm λj v z=>by
       by_cases hj:j<aC.length
       ·rw[c53 j hj];exact z
       ·have z':((aC.map λp=>(σ[p.2]?).getD none)++bj bH.length none)[j]?=some (some v):=z
        rw[mh (by simpa using hj),rW]at z'
        split at z'<;>(cases z'),
      T.keep _ _ _ pV λb hb o e=>(I7.pin (b,o) (cW _ (cW _ (Aj hb e)))).1,λb hb=>by
       obtain⟨o,e,d⟩:=T.obj _ _ pV b hb
       exact(I7.pin (b,o) (cW _ (cW _ (Aj hb e)))).2.1,w7⟩
    refine aP (ht _ _ _ _ _ t3 _ H6 _ I6 st7) λok t4 zz=>?_
    obtain⟨H7,I7,hD7,q7⟩:=zz
    cases ok with
    | false =>
     obtain⟨m',hm,w7⟩:=(show ∃m',m'<n/\W (i+1) m' acc H7 from q7)
     exact⟨m',hm,back t4 H7 acc m' I7 w7⟩
    | true =>
     refine aP (he _ _ _ _ _ t4 _ H7 _ I7 q7) λy t5 zz=>?_
     obtain⟨v8,H8,I8,r8,hD8,hl8,m',hm,w8⟩:=zz
     exact aP (Og _ t5 _ H8 (.ref s2.heap.objs.size) [v8] (.ref s2.heap.objs.size) [y] (λ_ H9=>H9=upd H8 s2.heap.objs.size (.lst (acc++[v8]))) I8 rfl (.cons r8 .nil) ⟨_,acc,v8,rfl,rfl,hD8,hl8,rfl⟩) λ_ t6 zz=>by
      obtain⟨_,H9,I9,_,e9⟩:=zz
      subst e9
      exact⟨m',hm,back t6 _ _ m' I9 w8⟩
  ·obtain⟨o,e,_⟩:=Ro b hb
   rw[bc (eZ (bP e))]
   exact(f2 b hb).1
 exact codeAny_compStart_list loop (T.self _ 0 _ _ _ (T.keep _ _ _ nN λb hb o e=>old b o e) loop)
theorem b94(aC:List (Str × Nat))(bH:List Str)(hc:X.calm=true)(hi:PI X tg iter wi)
  (hg:∀C s H fp,PG (dz X scope (aC.map (·.1)++bH) cl C s H fp) tg g)
  (ht:∀C s H fp,lu (dz X scope (aC.map (·.1)++bH) cl C s H fp) ifs tt) (he:∀C s H fp,PE (dz X scope (aC.map (·.1)++bH) cl C s H fp) elt te)
  (kH:closureFor scope X.env=pure cl) (kI:ly X cl) (kJ:∀C:Addr,lC (cellsFrom (C+1) scope.names cl) (relabel scope X.env).names) (kK:∀C:Addr,lj X scope (cellsFrom (C+1) scope.names cl) aC)
  (g8:scope.kind=.function) (kL:∀y∈scope.names,y.2=.local->scope.names.lookup y.1=some .local)
  (hs:∀x,foldedSetIterable iter X.env x=pure x:=by intro _;rfl):PE X (.ListComp elt [⟨tg,iter,ifs,0⟩] scope pos) (AB wi aC bH.length g tt te):=by
 intro pins s σ H Q I h
 rw[eval_ListComp]
 refine Rm aC bH hc hi hg ht he kH kI kJ kK g8 kL hs I h λs' H' C Da m IX hn hC hL h1 h2 h3 h4 q'=>?_
 exact⟨m,hn,λh' sb=>⟨.ref Da,H',IX.turned (t':=s'.toks) (λb o hb e=>sb.extBut b o hb e) hC hL (.inr h1) h2 h3,rfl,q'⟩⟩
theorem Rt{i:Nat}{x:Str}{pos' apos:Pos}(hN:X.N.Nodup)(lR:X.N[i]?=some x)(hx:Loc X.env.scope x)(hf:X.fn x=true\/X.env.scope.names.lookup x=some .local)(aC:List (Str × Nat))(bH:List Str)(hc:X.calm=true)(hi:PI X tg iter wi)
  (hg:∀C s H fp,PG (dz X scope (aC.map (·.1)++bH) cl C s H fp) tg g)
  (ht:∀C s H fp,lu (dz X scope (aC.map (·.1)++bH) cl C s H fp) ifs tt) (he:∀C s H fp,PE (dz X scope (aC.map (·.1)++bH) cl C s H fp) elt te)
  (kH:closureFor scope X.env=pure cl) (kI:ly X cl) (kJ:∀C:Addr,lC (cellsFrom (C+1) scope.names cl) (relabel scope X.env).names) (kK:∀C:Addr,lj X scope (cellsFrom (C+1) scope.names cl) aC)
  (g8:scope.kind=.function) (kL:∀y∈scope.names,y.2=.local->scope.names.lookup y.1=some .local)
  (qI:swapsWith (.ListComp elt [⟨tg,iter,ifs,0⟩] scope pos) (some (.Name x pos')) apos.line X.env=pure true) (hs:∀x,foldedSetIterable iter X.env x=pure x:=by intro _;rfl):PS X (.Assign [.Name x pos'] (.ListComp elt [⟨tg,iter,ifs,0⟩] scope pos) apos) (DV (AB wi aC bH.length g tt te) (Ag i)):=by
 intro pins s σ H D I h
 rw[exec_Assign_Name_used x pos' _ apos qI]
 refine wpAny_bind (wpAny_standAt (wpAny_bind ?_))
 have hh:AB wi aC bH.length g tt te σ H λv H1=>D.nx (σ.set i (some v)) H1:=h
 show wpAny _ _ (comprehension (.ListComp elt [⟨tg,iter,ifs,0⟩] scope pos) scope X.env (firstIterPos [⟨tg,iter,ifs,0⟩] pos) (newList []) false (eval iter X.env) (some (assign (.Name x pos') X.env)) >>= λ_=>pure ()) _ _ _
 refine wpAny_bind (Rm (use:=some (assign (.Name x pos') X.env)) (pos:=pos) aC bH hc hi hg ht he kH kI kJ kK g8 kL hs I hh λs' H' C Da m IX hn hC hL h1 h2 h3 h4 q'=>?_)
 obtain⟨oC,es,ep,hoC,Ru,rest⟩:=id hn
 have IP:Inv X (pins++[(C,oC)]) σ H' s':=⟨IX.ok,IX.os,IX.bare,IX.base,IX.loc,IX.cell,IX.free,IX.jn,λp hp=>by
  rcases cj.mp hp with z | z
  ·exact IX.pin p (eR _ z)
  ·rcases cj.mp z with z | z
   ·exact IX.pin p (cW _ z)
   ·obtain rfl:=fv.mp z
    exact⟨hoC,hC,hL,h4,λv w=>by rw[Ru]at w;cases w⟩,IX.aJ,IX.len⟩
 refine aP (Ah (X:=X) hN lR hx hf _ s' σ H' (.ref Da) (.ref Da) (λkZ H2=>kZ=σ.set i (some (.ref Da))/\H2=H') IP rfl ⟨rfl,rfl⟩) λ_ s2 zz=>?_
 obtain⟨kZ,H2,I2,e1,e2⟩:=zz
 subst e1 e2
 have pC:=I2.pin (C,oC) (cW _ (cW _ (by simp)))
 refine⟨m,⟨oC,es,ep,pC.1,Ru,rest⟩,λh' sb=>wpAny_pure (wpAny_pure ?_)⟩
 exact⟨σ.set i (some (.ref Da)),H2,(I2.wt).turned (t':=s2.toks) (λb o hb e=>sb.extBut b o hb e) hC hL (.inr h1) h2 h3,q'⟩
end
end L2
namespace L3
open PySem L2 PySem.Spec PyProof.Rows
section
variable{X:Cx}{elt iter tg:Expr}{pos:Pos}{ifs:List Expr}{scope:Scope}{cl:List (Str × Addr)}{ti:iY}{tt:fB}{te:aO}{g:hW}
theorem dA(aC:List (Str × Nat))(bH:List Str)(hc:X.calm=true)(hi:PI X tg iter (lI ti))
  (hg:∀C s H fp,PG (dz X scope (aC.map (·.1)++bH) cl C s H fp) tg (lG aC.length g))
  (ht:∀C s H fp,lu (dz X scope (aC.map (·.1)++bH) cl C s H fp) ifs (lT tt)) (he:∀C s H fp,PE (dz X scope (aC.map (·.1)++bH) cl C s H fp) elt (lE te))
  (kH:closureFor scope X.env=pure cl) (kI:ly X cl) (kJ:∀C:Addr,lC (cellsFrom (C+1) scope.names cl) (relabel scope X.env).names) (kK:∀C:Addr,lj X scope (cellsFrom (C+1) scope.names cl) aC)
  (g8:scope.kind=.function) (kL:∀y∈scope.names,y.2=.local->scope.names.lookup y.1=some .local)
  (hs:∀x,foldedSetIterable iter X.env x=pure x:=by intro _;rfl):PE X (.ListComp elt [⟨tg,iter,ifs,0⟩] scope pos) (lE (n8 ti aC bH.length g tt te)) :=
 dn (b94 aC bH hc hi hg ht he kH kI kJ kK g8 kL hs) λσ H Q ⟨B,F,δ,ts,Qd,c,q,k⟩=>⟨B,F,δ,ts,_,c,q,λsh xs ak J F1 H1 hq f1 h1 c1 mU qu=>by
  obtain⟨p,f,hx,eB,hlen,hQ⟩:=hq
  exact EX c1 mU qu p f hx eB hlen hQ λd ah v F' H' hd hf hs c'=>k d ah v F' H' hd (f1.trans hf) (h1.trans hs) c'⟩
theorem Rv{i:Nat}{x:Str}{pos' apos:Pos}(hN:X.N.Nodup)(lR:X.N[i]?=some x)(hx:L2.Loc X.env.scope x)(aC:List (Str × Nat))(bH:List Str)(hc:X.calm=true)(hi:PI X tg iter (lI ti))
  (hg:∀C s H fp,PG (dz X scope (aC.map (·.1)++bH) cl C s H fp) tg (lG aC.length g))
  (ht:∀C s H fp,lu (dz X scope (aC.map (·.1)++bH) cl C s H fp) ifs (lT tt)) (he:∀C s H fp,PE (dz X scope (aC.map (·.1)++bH) cl C s H fp) elt (lE te))
  (kH:closureFor scope X.env=pure cl) (kI:ly X cl) (kJ:∀C:Addr,lC (cellsFrom (C+1) scope.names cl) (relabel scope X.env).names) (kK:∀C:Addr,lj X scope (cellsFrom (C+1) scope.names cl) aC)
  (g8:scope.kind=.function) (kL:∀y∈scope.names,y.2=.local->scope.names.lookup y.1=some .local)
  (qI:swapsWith (.ListComp elt [⟨tg,iter,ifs,0⟩] scope pos) (some (.Name x pos')) apos.line X.env=pure true:=by rfl) (hf:X.fn x=true\/X.env.scope.names.lookup x=some .local:=by first | exact .inl rfl | exact .inr rfl)
  (hs:∀x,foldedSetIterable iter X.env x=pure x:=by intro _;rfl):PS X (.Assign [.Name x pos'] (.ListComp elt [⟨tg,iter,ifs,0⟩] scope pos) apos) (lS X (qt i (n8 ti aC bH.length g tt te))) :=
 jW (Rt hN lR hx hf aC bH hc hi hg ht he kH kI kJ kK g8 kL qI hs) λEn σ H ⟨B,F,δ,Dd,c,q,k1,k2,k3,k4⟩=>⟨B,F,δ,[],_,c,q,λsh xs ak J F1 H1 hq f1 h1 c1 mU qu=>by
  obtain⟨p,f,hx,eB,hlen,hQ⟩:=hq
  exact EX (Qd:=λd ah=>Dd.nx (ah.set i (some d))) c1 mU qu p f hx eB hlen hQ λd ah v F' H' hd hf hs c'=>k1 _ _ F' H' hd (c'.store i)⟩
end
end L3
namespace L3
open PySem L2 Mf
theorem lo1{m:Bool × Nat}(hm:m∈aG):1<ae m:=by have:=(cU hm).lo;omega
inductive Sp(N:Nat)(p q:Nat->Nat->Nat)(S:(Nat->Nat)->Prop):(Nat->Nat)->Prop
 | mem {f:Nat->Nat}:S f->Sp N p q S f
 | zero:Sp N p q S λ_=>0
 | add {f g:Nat->Nat}:Sp N p q S f->Sp N p q S g->Sp N p q S λk=>p (f k) (g k)
 | mul {f:Nat->Nat} (c:Nat):c<N->Sp N p q S f->Sp N p q S λk=>q c (f k)
theorem Sp.trans{N:Nat}{p q:Nat->Nat->Nat}{S S':(Nat->Nat)->Prop}(h:∀f,S f->Sp N p q S' f){f:Nat->Nat}(s:Sp N p q S f):Sp N p q S' f:=by
 induction s with
 | mem a=>exact h _ a
 | zero=>exact .zero
 | add _ _ a b=>exact .add a b
 | mul c hc _ a=>exact .mul c hc a
noncomputable def Gn(T:List (List Nat))(f:Nat->Nat):Prop:=∃r∈T,f=cf r
noncomputable def dB(m:Bool × Nat)(T:List (List Nat))(f:Nat->Nat):Prop:=Sp (ae m) (gp m) (gm m) (Gn T) f
theorem dB.of{m:Bool × Nat}{T:List (List Nat)}{r:List Nat}(h:r∈T):dB m T (cf r):=.mem ⟨r,h,rfl⟩
theorem b90{m:Bool × Nat}(hm:m∈aG){a:Nat}(ha:a<ae m){f f' l:Nat->Nat}(hf':∀k,f' k<ae m)(hl:∀k,l k<ae m)(h:∀k,gp m (f' k) (gm m a (l k))=f k):∃b,b<ae m/\f'=λk=>gp m (f k) (gm m b (l k)):=by
 have r:=rg hm
 obtain⟨b,hb,e⟩:=r.ng ha
 refine⟨b,hb,funext λk=>?_⟩
 rw[<-h k,r.pa,r.mc a,r.mc b,<- r.dl,e,r.qz,r.z' (hf' k)]
theorem Gj{m:Bool × Nat}(hm:m∈aG){r l:List Nat}{w:Nat}(hr:r.length=w)(hl:l.length=w)(a k:Nat):cf (cP (λx y=>bO m x (gm m a y)) r l) k=bO m (cf r k) (gm m a (cf l k)):=by
 by_cases h:k<w
 ·unfold cf
  rw[aY,pF,aS (by omega),aS (by omega),aY,aS (by omega),aY,aS (by omega)]
  rfl
 ·rw[vd (by rw[jK];omega),vd (l:=r) (by omega),vd (l:=l) (by omega),lX m _ (dH m hm),Q8]
theorem BD{m:Bool × Nat}(hm:m∈aG){r l:List Nat}{w a:Nat}(hr:r.length=w)(hl:l.length=w)(ar:AllLt (ae m) r)(k:Nat):gp m (cf (cP (λx y=>bO m x (gm m a y)) r l) k) (gm m a (cf l k))=cf r k:=by
 rw[Gj hm hr hl]
 exact(lY hm (gr hm ar k) (dw hm _ _)).2.2
theorem Gk{m:Bool × Nat}(hm:m∈aG){r l:List Nat}{w:Nat}(hr:r.length=w)(hl:l.length=w)(ar:AllLt (ae m) r)(a k:Nat):cf (cP (λx y=>bO m x (gm m a y)) r l) k<ae m:=by
 rw[Gj hm hr hl]
 exact(lY hm (gr hm ar k) (dw hm _ _)).2.1
theorem Rw{m:Bool × Nat}(hm:m∈aG){w p i:Nat}{T:List (List Nat)}(hT:RT (ae m) w T)(e:jz T p=some i):∃(g:List Nat) (c:Nat),g∈T/\T.getD i []=g/\g.length=w/\AllLt (ae m) g/\c<ae m/\gm m c (cf g p)=1/\(dY m T i p).length=w/\AllLt (ae m) (dY m T i p)/\(∀k,cf (dY m T i p) k=gm m c (cf g k))/\cf (dY m T i p) p=1/\∀k,gm m (cf g p) (cf (dY m T i p) k)=cf g k:=by
 obtain⟨hi,h1,h2⟩:=Bz e
 obtain⟨a,b⟩:=hT _ (dN hi)
 have l1:1<ae m:=lo1 hm
 obtain⟨c,hc,BE⟩:=Rb hm l1 (gr hm b p) h1
 have ec:l6 m (cf T[i] p)=c:=Bw hm hc BE
 have el:dY m T i p=T[i].map (gm m c):=by unfold dY;rw[h2,<- ec];rfl
 have ek:∀k,cf (dY m T i p) k=gm m c (cf T[i] k):=λk=>by rw[el];exact cu1 hm _ _ _
 refine⟨T[i],c,dN hi,h2,a,b,hc,BE,by rw[el,bq,a],λx hx=>?_,ek,by rw[ek];exact BE,λk=>?_⟩
 ·rw[el]at hx
  obtain⟨y,_,rfl⟩:=bD.mp hx
  exact dw hm _ _
 ·rw[ek,<- lW (dH m hm),jy m _ c,BE,qY (gr hm b k)]
theorem Rx{m:Bool × Nat}{s:List (List Nat) × List (List Nat)}{p i:Nat}(e:jz s.2 p=some i):ig m s p=(gF m s.1 (dY m s.2 i p) p++[dY m s.2 i p],gF m (s.2.take i++s.2.drop (i+1)) (dY m s.2 i p) p):=by unfold ig;rw[e]
theorem Ry{m:Bool × Nat}{s:List (List Nat) × List (List Nat)}{p:Nat}(e:jz s.2 p=none):ig m s p=s:=by unfold ig;rw[e]
theorem BF{α:Type}{T:List α}{i:Nat}{r:α}(h:r∈T.take i++T.drop (i+1)):r∈T:=(cj.mp h).elim sr pz
theorem b63{α:Type}{T:List α}{i:Nat}{r:α}(h:r∈T)(hi:i<T.length):r=T[i]\/r∈T.take i++T.drop (i+1):=by
 obtain⟨j,hj,rfl⟩:=ke h
 rcases Nat.lt_trichotomy j i with h | h | h
 ·exact .inr (cj.mpr (.inl (List.mem_take_iff_getElem.mpr ⟨j,by omega,rfl⟩)))
 ·subst h;exact .inl rfl
 ·exact .inr (cj.mpr (.inr (List.mem_drop_iff_getElem.mpr ⟨j-(i+1),by omega,by congr 1;omega⟩)))
theorem bS1{m:Bool × Nat}(hm:m∈aG){w n p:Nat}{s:List (List Nat) × List (List Nat)}(h:yy (ae m) w n s)(f:Nat->Nat):dB m (s.1++s.2) f↔dB m ((ig m s p).1++(ig m s p).2) f:=by
 cases e:jz s.2 p with
 | none=>rw[Ry e]
 | some i =>
  obtain⟨g,c,g1,g2,g3,g4,c1,c2,l1,l2,l3,l4,l5⟩:=Rw hm h.b e
  obtain⟨hi,_,hg⟩:=Bz e
  rw[Rx e]
  generalize dY m s.2 i p=l at l1 l2 l3 l4 l5
  have ll:=gr hm l2
  have row:∀{T:List (List Nat)},RT (ae m) w T->∀r'∈gF m T l p,∃r∈T,∃b,b<ae m/\cf r'=λk=>gp m (cf r k) (gm m b (cf l k)):=λ{T} hT r' bo=>by
   obtain⟨r,hr,rfl⟩:=bD.mp bo
   obtain⟨a1,a2⟩:=hT r hr
   exact⟨r,hr,b90 hm (gr hm a2 p) (Gk hm a1 l1 a2 _) ll (BD hm a1 l1 a2)⟩
  have Rz:∀{T:List (List Nat)},RT (ae m) w T->∀r∈T,∃r'∈gF m T l p,cf r=λk=>gp m (cf r' k) (gm m (cf r p) (cf l k)):=λ{T} hT r hr=>by
   obtain⟨a1,a2⟩:=hT r hr
   exact⟨_,bD.mpr ⟨r,hr,rfl⟩,funext λk=>(BD hm a1 l1 a2 k).symm⟩
  have hB:RT (ae m) w (s.2.take i++s.2.drop (i+1)):=λr hr=>h.b r (BF hr)
  constructor
  ·refine Sp.trans ?_
   rintro f ⟨r,hr,rfl⟩
   have hl:dB m ((gF m s.1 l p++[l])++gF m (s.2.take i++s.2.drop (i+1)) l p) (cf l):=dB.of (by simp)
   rcases cj.mp hr with hr | hr
   ·obtain⟨r',h1,h2⟩:=Rz h.a r hr
    rw[h2]
    exact .add (dB.of (by simp[h1])) (.mul _ (gr hm (h.a r hr).2 p) hl)
   ·rcases b63 hr hi with e' | bo
    ·have:cf r=λk=>gm m (cf g p) (cf l k):=funext λk=>by rw[l5 k,e',<- hg,g2]
     rw[this]
     exact .mul _ (gr hm g4 p) hl
    ·obtain⟨r',h1,h2⟩:=Rz hB r bo
     rw[h2]
     exact .add (dB.of (by simp[h1])) (.mul _ (gr hm (h.b r hr).2 p) hl)
  ·refine Sp.trans ?_
   rintro f ⟨r,hr,rfl⟩
   have hl:dB m (s.1++s.2) (cf l):=by
    have:cf l=λk=>gm m c (cf g k):=funext l3
    rw[this]
    exact .mul _ c1 (dB.of (cW _ g1))
   rcases cj.mp hr with hr | hr
   ·rcases cj.mp hr with hr | hr
    ·obtain⟨r1,h1,b,hb,h2⟩:=row h.a r hr
     rw[h2]
     exact .add (dB.of (eR _ h1)) (.mul _ hb hl)
    ·rw[fv]at hr
     rw[hr];exact hl
   ·obtain⟨r1,h1,b,hb,h2⟩:=row hB r hr
    rw[h2]
    exact .add (dB.of (cW _ (BF h1))) (.mul _ hb hl)
structure RR(w:Nat)(R:List (List Nat))(H:Nat->Nat):Prop where
 u:∀i j,i<R.length->j<R.length->cf (R.getD i []) (H j)=if i=j then 1 else 0
 z:∀i,i<R.length->∀t,t<H i->cf (R.getD i []) t=0
 i:∀i j,i<j->j<R.length->H i<H j
 l:∀i,i<R.length->H i<w
theorem vi{α β:Type}(f:α->β){l:List α}{i:Nat}(h:i<l.length)(a:α)(b:β):(l.map f).getD i b=f (l.getD i a):=by
 rw[aY,bZ,aY,aS h];rfl
theorem fE{α:Type}{l:List α}{i:Nat}(h:i<l.length)(a:α):l.getD i a∈l:=by
 rw[aY,aS h];exact dN h
theorem bH8{m:Bool × Nat}(hm:m∈aG){w n p:Nat}{s:List (List Nat) × List (List Nat)}(h:yy (ae m) w n s){H:Nat->Nat}(I:RR p s.1 H)(e2:∀r∈s.2,∀t,t<p->cf r t=0):∃H',RR (p+1) (ig m s p).1 H'/\∀r∈(ig m s p).2,∀t,t<p+1->cf r t=0:=by
 cases e:jz s.2 p with
 | none =>
  rw[Ry e]
  refine⟨H,⟨I.u,I.z,I.i,λi hi=>Nd (I.l i hi)⟩,λr hr t ht=>?_⟩
  rcases Nq t p with h1 | h1
  ·exact e2 r hr t h1
  ·have:=Ww.mp e r hr
   have z:r.getD p 0=0:=by simpa using this
   rw[show t=p by omega]
   exact z
 | some i0 =>
  obtain⟨g,c,g1,g2,g3,g4,c1,c2,l1,l2,l3,l4,l5⟩:=Rw hm h.b e
  rw[Rx e]
  generalize dY m s.2 i0 p=l at l1 l2 l3 l4 l5
  have m0:=dH m hm
  have lz:∀t,t<p->cf l t=0:=λt ht=>by rw[l3,e2 g g1 t ht,lX m _ m0]
  have yA:∀{r:List Nat},r.length=w->AllLt (ae m) r->(∀t,t<p->cf (cP (λx y=>bO m x (gm m (r.getD p 0) y)) r l) t=cf r t)/\cf (cP (λx y=>bO m x (gm m (r.getD p 0) y)) r l) p=0:=λ{r} a1 a2=>by
   constructor
   ·intro t ht
    have:=BD hm (a:=r.getD p 0) a1 l1 a2 t
    rw[lz t ht,lX m _ m0,yt (Gk hm a1 l1 a2 _ _)]at this
    exact this
   ·rw[Gj hm a1 l1,l4]
    show bO m (r.getD p 0) (gm m (r.getD p 0) 1)=0
    rw[u3 (show r.getD p 0<ae m from gr hm a2 p),Q8]
  have nl:(gF m s.1 l p).length=s.1.length:=by unfold gF;rw[bq]
  have RA:∀i,i<s.1.length->∃r,s.1.getD i []=r/\r.length=w/\AllLt (ae m) r/\(gF m s.1 l p++[l]).getD i []=cP (λx y=>bO m x (gm m (r.getD p 0) y)) r l:=λi hi=>by
   refine⟨_,rfl,(h.a _ (fE hi [])).1,(h.a _ (fE hi [])).2,?_⟩
   rw[aY,pd (by omega),<- aY]
   exact vi _ hi [] []
  have RB:(gF m s.1 l p++[l]).getD s.1.length []=l:=by
   rw[aY,mh (by omega),nl,DI];rfl
  have le:(gF m s.1 l p++[l]).length=s.1.length+1:=by rw[dm,nl];rfl
  refine⟨λi=>if i<s.1.length then H i else p,⟨λi j hi hj=>?_,λi hi t ht=>?_,λi j yB hj=>?_,λi hi=>?_⟩,λr hr t ht=>?_⟩
  ·show cf ((gF m s.1 l p++[l]).getD i []) _=_
   dsimp only at hi hj ⊢
   rw[le]at hi hj
   by_cases h1:i<s.1.length
   ·obtain⟨r,r1,r2,r3,r4⟩:=RA i h1
    rw[r4]
    by_cases h2:j<s.1.length
    ·rw[if_pos h2,(yA r2 r3).1 _ (I.l j h2),<- r1]
     exact I.u i j h1 h2
    ·rw[if_neg h2,(yA r2 r3).2,if_neg (by omega)]
   ·have e1:i=s.1.length:=by omega
    rw[e1,RB]
    by_cases h2:j<s.1.length
    ·rw[if_pos h2,lz _ (I.l j h2),if_neg (by omega)]
    ·rw[if_neg h2,l4,if_pos (by omega)]
  ·dsimp only at hi ht ⊢
   rw[le]at hi
   by_cases h1:i<s.1.length
   ·rw[if_pos h1]at ht
    obtain⟨r,r1,r2,r3,r4⟩:=RA i h1
    rw[r4,(yA r2 r3).1 _ (by have:=I.l i h1;omega),<- r1]
    exact I.z i h1 t ht
   ·rw[if_neg h1]at ht
    have e1:i=s.1.length:=by omega
    rw[e1,RB];exact lz t ht
  ·dsimp only at hj ⊢
   rw[le]at hj
   rw[if_pos (by omega)]
   by_cases h2:j<s.1.length
   ·rw[if_pos h2];exact I.i i j yB h2
   ·rw[if_neg h2];exact I.l i (by omega)
  ·dsimp only at hi ⊢
   rw[le]at hi
   split
   ·have:=I.l i (by omega);omega
   ·omega
  ·obtain⟨r1,BG,rfl⟩:=bD.mp hr
   obtain⟨a1,a2⟩:=h.b r1 (BF BG)
   rcases Nq t p with h1 | h1
   ·rw[(yA a1 a2).1 t h1];exact e2 _ (BF BG) t h1
   ·rw[show t=p by omega];exact(yA a1 a2).2
theorem RC{m:Bool × Nat}(hm:m∈aG){w:Nat}{G:List (List Nat)}(h:RT (ae m) w G):∀k,(∃H,RR k (jA m G k).1 H/\∀r∈(jA m G k).2,∀t,t<k->cf r t=0)/\∀f,dB m G f↔dB m ((jA m G k).1++(jA m G k).2) f
 | 0=>⟨⟨λ_=>0,⟨(λ_ _ h=>nomatch h),(λ_ h=>nomatch h),(λ_ _ _ h=>nomatch h),(λ_ h=>nomatch h)⟩,λr _ t ht=>nomatch ht⟩,λf=>.rfl⟩
 | k+1=>by
  obtain⟨⟨H,h1,h2⟩,h3⟩:=RC hm h k
  have D:=BA hm h k
  rw[Ga]
  exact⟨bH8 hm D h1 h2,λf=>(h3 f).trans (bS1 hm D f)⟩
theorem oN{m:Bool × Nat}(hm:m∈aG){G:List (List Nat)}(h:RT (ae m) (av G) G):(∃H,RR (av G) (dy m G) H)/\RT (ae m) (av G) (dy m G)/\(dy m G).length<=G.length/\∀f,dB m G f↔dB m (dy m G) f:=by
 obtain⟨⟨H,h1,h2⟩,h3⟩:=RC hm h (av G)
 have D:=BA hm h (av G)
 refine⟨⟨H,h1⟩,D.a,by have:=D.l;show(jA m G (av G)).1.length<=_;omega,λf=>(h3 f).trans ⟨Sp.trans ?_,Sp.trans ?_⟩⟩
 ·rintro f ⟨r,hr,rfl⟩
  rcases cj.mp hr with hr | hr
  ·exact dB.of hr
  ·have:cf r=λ_=>0:=funext λt=>by
    rcases Nq t (av G)with h4 | h4
    ·exact h2 r hr t h4
    ·exact vd (by rw[(D.b r hr).1];exact h4)
   rw[this];exact .zero
 ·rintro f ⟨r,hr,rfl⟩
  exact dB.of (eR _ hr)
theorem yC{N:Nat}{p q:Nat->Nat->Nat}(r:Rg N p q){f:Nat->Nat}{j0:Nat}(hf:f j0<N):∀{n:Nat},j0<n->(∀j,j<n->j≠j0->f j=0)->sm p n f=f j0
 | 0,h,_=>nomatch h
 | n+1,h,hz=>by
  rw[sm]
  by_cases e:j0=n
  ·subst e
   rw[j4 r λj hj=>hz j (by omega) (by omega),r.z hf]
  ·rw[yC r hf (by omega) λj hj=>hz j (by omega),hz n (by omega) (by omega),r.z' hf]
theorem dB.sum{m:Bool × Nat}(hm:m∈aG){w:Nat}{R:List (List Nat)}(hR:RT (ae m) w R){f:Nat->Nat}(s:dB m R f):∃c:Nat->Nat,(∀i,c i<ae m)/\∀k,f k=sm (gp m) R.length λi=>gm m (c i) (cf (R.getD i []) k):=by
 have r:=rg hm
 have m0:=dH m hm
 have l1:=lo1 hm
 induction s with
 | mem a =>
  obtain⟨x,hx,rfl⟩:=a
  obtain⟨i,hi,rfl⟩:=ke hx
  have ei:R[i]=R.getD i []:=by rw[aY,aS hi];rfl
  refine⟨λj=>if j=i then 1 else 0,λj=>by dsimp only;split<;>omega,λk=>?_⟩
  refine((yC r (f:=λa=>gm m (if a=i then 1 else 0) (cf (R.getD a []) k)) (j0:=i) (dw hm _ _) hi λj hj hn=>?_).trans ?_).symm
  ·rw[if_neg hn,iF m _ m0]
  ·rw[if_pos rfl,ei]
   exact qY (gr hm (hR _ (fE hi [])).2 k)
 | zero=>exact⟨λ_=>0,λ_=>r.pos,λk=>(j4 r λj _=>iF m _ m0).symm⟩
 | add _ _ a b =>
  obtain⟨c,hc,a⟩:=a
  obtain⟨d,hd,b⟩:=b
  refine⟨λi=>gp m (c i) (d i),λi=>r.lp (hc i) (hd i),λk=>?_⟩
  dsimp only
  rw[a k,b k,<- ve r]
  refine fc λj _=>?_
  rw[r.mc (gp m _ _),r.dl,r.mc _ (cf _ k),r.mc _ (cf _ k)]
 | mul e he _ a =>
  obtain⟨c,hc,a⟩:=a
  refine⟨λi=>gm m e (c i),λi=>dw hm _ _,λk=>?_⟩
  dsimp only
  rw[a k,<- vg r]
  refine fc λj _=>?_
  rw[lW m0]
theorem dB.ann{m:Bool × Nat}(hm:m∈aG){R:List (List Nat)}{n:Nat}{y:Nat->Nat}(h:∀x∈R,sm (gp m) n (λj=>gm m (cf x j) (y j))=0){f:Nat->Nat}(s:dB m R f):sm (gp m) n (λj=>gm m (f j) (y j))=0:=by
 have r:=rg hm
 have m0:=dH m hm
 induction s with
 | mem a=>obtain⟨x,hx,rfl⟩:=a;exact h x hx
 | zero=>exact j4 r λj _=>iF m _ m0
 | @add f g _ _ a b =>
  rw[fc (g:=λj=>gp m (gm m (f j) (y j)) (gm m (g j) (y j))) λj _=>by dsimp only;rw[r.mc (gp m _ _),r.dl,r.mc (y j),r.mc (y j)],ve r,a,b,r.z r.pos]
 | @mul f e he _ a =>
  rw[fc (g:=λj=>gm m e (gm m (f j) (y j))) λj _=>lW m0 _ _ _,vg r,a,r.qz]
theorem RR.Gm{m:Bool × Nat}(hm:m∈aG){w:Nat}{R:List (List Nat)}{H:Nat->Nat}(hR:RT (ae m) w R)(I:RR w R H){i:Nat}(hi:i<R.length):(R.getD i []).findIdx (· != 0)=H i/\∃x∈R.getD i [],x≠0:=by
 have a:=(hR _ (fE hi [])).1
 have l:=I.l i hi
 have u:=I.u i i hi hi
 rw[if_pos rfl]at u
 have eu:(R.getD i [])[H i]'(by omega)=1:=by
  unfold cf at u
  rw[aY (l:=R.getD i []),aS (by omega)]at u
  exact u
 refine⟨?_,_,dN (show H i<(R.getD i []).length by omega),by rw[eu];decide⟩
 rw[List.findIdx_eq (by omega)]
 refine⟨by rw[eu];rfl,λj hj=>?_⟩
 have z:=I.z i hi j hj
 unfold cf at z
 rw[aY (l:=R.getD i []),aS (by omega)]at z
 simpa using z
theorem cl8{a b:List Nat}{w:Nat}(ha:a.length=w)(hb:b.length=w)(h:∀k,k<w->cf a k=cf b k):a=b:=by
 refine Nh (ha.trans hb.symm) λk h1 h2=>?_
 have:=h k (by omega)
 unfold cf at this
 rw[aY,aY,aS h1,aS h2]at this
 exact this
theorem cj7(f:Nat->Nat){w k:Nat}(h:k<w):cf ((aL w).map f) k=f k:=by
 unfold cf
 rw[aY,bZ,kg h];rfl
theorem cI0(m:Bool × Nat){xs ys:List Nat}(h:xs.length=ys.length):gd m xs ys=sm (gp m) xs.length λj=>gm m (cf xs j) (cf ys j):=by
 unfold gd
 rw[ca5,jK,h,zI]
 refine fc λj hj=>?_
 unfold cf
 rw[aY,pF,aS (by omega),aS (by omega),aY,aS (by omega),aY,aS (by omega)]
 rfl
noncomputable def vj(m:Bool × Nat)(xs:List Nat)(T:List (List Nat))(w:Nat):List Nat:=(aL w).map λk=>gd m xs (T.map λr=>r.getD k 0)
theorem cx7{T:List (List Nat)}(k i:Nat):cf (T.map λr=>r.getD k 0) i=cf (T.getD i []) k:=by
 by_cases h:i<T.length
 ·exact vi (λr:List Nat=>r.getD k 0) h [] 0
 ·rw[vd (by rw[bq];omega),aY,gJ (by omega)];rfl
theorem cp3(m:Bool × Nat)(xs:List Nat)(T:List (List Nat))(w:Nat):(vj m xs T w).length=w:=by unfold vj;rw[bq,cB]
theorem cz2{m:Bool × Nat}(hm:m∈aG){xs ys:List Nat}(h:xs.length=ys.length):gd m xs ys<ae m:=by
 rw[cI0 m h];exact oK (rg hm) λj _=>dw hm _ _
theorem cv6{m:Bool × Nat}(hm:m∈aG){xs:List Nat}{T:List (List Nat)}(w:Nat)(h:xs.length=T.length):AllLt (ae m) (vj m xs T w):=λx hx=>by
 obtain⟨k,_,rfl⟩:=bD.mp hx
 exact cz2 hm (by rw[bq,h])
noncomputable def aT(r:List Nat):Nat:=r.findIdx (· != 0)
theorem BH{α:Type}(a b:α->Nat){j:Nat}:∀(l:List α) (x:List Nat),(∀z∈l,a z≠j)->cf (l.foldl (λx z=>x.set (a z) (b z)) x) j=cf x j
 | [],_,_=>rfl
 | z::l,x,h=>by
  rw[se,BH a b l _ λy hy=>h y (fU _ hy)]
  unfold cf
  rw[aY,rQ (h z jj),<- aY]
theorem RD{α:Type}(a b:α->Nat):∀(l:List α) (x:List Nat),l.Pairwise (λy z=>a y≠a z)->∀z∈l,a z<x.length->cf (l.foldl (λx z=>x.set (a z) (b z)) x) (a z)=b z
 | [],_,_,_,h,_=>nomatch h
 | y::l,x,hp,z,hz,hl=>by
  rw[se]
  rw[DJ]at hp
  rcases cA.mp hz with rfl | hz
  ·rw[BH a b l _ λy hy=>ft (hp.1 y hy)]
   unfold cf
   rw[aY,Df hl];rfl
  ·exact RD a b l _ hp.2 z hz (by rw[gW];exact hl)
theorem RE{α:Type}(a b:α->Nat):∀(l:List α) (x:List Nat),(l.foldl (λx z=>x.set (a z) (b z)) x).length=x.length
 | [],_=>rfl
 | z::l,x=>by rw[se,RE a b l,gW]
noncomputable def eG(T:List (List Nat)):List (List Nat):=(aL (av T)).map λj=>T.map λr=>r.getD j 0
theorem RF{T:List (List Nat)}{a:Nat}(h:a<av T):(eG T).getD a []=T.map λr=>r.getD a 0:=by
 unfold eG
 rw[aY,bZ,kg h];rfl
theorem RG{N:Nat}{T:List (List Nat)}(h0:0<N)(hw:0<av T)(hT:RT N (av T) T):(eG T).length=av T/\av (eG T)=T.length/\RT N T.length (eG T):=by
 have a:(eG T).length=av T:=by unfold eG;rw[bq,cB]
 have c:RT N T.length (eG T):=λr hr=>by
  obtain⟨j,_,rfl⟩:=bD.mp hr
  refine⟨bq _,λx hx=>?_⟩
  obtain⟨y,hy,rfl⟩:=bD.mp hx
  exact(hT y hy).2.getD h0 j
 refine⟨a,?_,c⟩
 have:=RF hw
 have e:av (eG T)=((eG T).getD 0 []).length:=by
  unfold av
  cases eG T<;>rfl
 rw[e,this,bq]
end L3
namespace L3
open PySem L2 Mf
noncomputable def fS(T:List (List Nat))(w:Nat):List Nat:=(aL w).filter λj=>!(T.map aT).contains j
noncomputable def iG(m:Bool × Nat)(T:List (List Nat))(w f:Nat):List Nat:=(((T.map aT).zip T).foldl (λx z=>x.set z.1 (bO m 0 (z.2.getD f 0))) ((bj w 0).set f 1))
noncomputable def oO(m:Bool × Nat)(T:List (List Nat))(w:Nat):List (List Nat):=(fS T w).map (iG m T w)
theorem RR.heads{m:Bool × Nat}(hm:m∈aG){w:Nat}{R:List (List Nat)}{H:Nat->Nat}(hR:RT (ae m) w R)(I:RR w R H):R.map aT=(aL R.length).map H:=by
 refine Nh (by rw[bq,bq,cB]) λi h1 h2=>?_
 rw[bq]at h1
 rw[vZ,vZ,Nr,<- (I.Gm hm hR h1).1,aY,aS h1];rfl
theorem RR.mem{m:Bool × Nat}(hm:m∈aG){w:Nat}{R:List (List Nat)}{H:Nat->Nat}(hR:RT (ae m) w R)(I:RR w R H)(j:Nat):j∈R.map aT↔∃i,i<R.length/\H i=j:=by
 rw[I.heads hm hR,bD]
 exact⟨λ⟨i,a,b⟩=>⟨i,cV.mp a,b⟩,λ⟨i,a,b⟩=>⟨i,cV.mpr a,b⟩⟩
theorem RR.free{m:Bool × Nat}(hm:m∈aG){w:Nat}{R:List (List Nat)}{H:Nat->Nat}(hR:RT (ae m) w R)(I:RR w R H)(j:Nat):j∈fS R w↔j<w/\∀i,i<R.length->H i≠j:=by
 unfold fS
 rw[vO,cV,Bool.not_eq_true',<- Bool.not_eq_true,DG,I.mem hm hR]
 exact and_congr_right λ_=>⟨λh i a b=>h ⟨i,a,b⟩,λh ⟨i,a,b⟩=>h i a b⟩
theorem RR.Gp{m:Bool × Nat}(hm:m∈aG){w:Nat}{R:List (List Nat)}{H:Nat->Nat}(hR:RT (ae m) w R)(I:RR w R H):(fS R w).length+R.length=w:=by
 have nd:(R.map aT).Nodup:=by
  rw[I.heads hm hR]
  unfold List.Nodup
  rw[Wx]
  intro i j hi hj yB
  rw[bq,cB]at hi hj
  rw[vZ,vZ,Nr,Nr]
  have:=I.i i j yB hj
  omega
 have pe:((aL w).filter λj=>(R.map aT).contains j).Perm (R.map aT):=by
  refine(List.perm_ext_iff_of_nodup (List.Pairwise.filter _ List.nodup_range) nd).mpr λj=>?_
  rw[vO,DG,cV]
  refine⟨λh=>h.2,λh=>⟨?_,h⟩⟩
  obtain⟨i,hi,rfl⟩:=(I.mem hm hR j).mp h
  exact I.l i hi
 have l1:=pe.length_eq
 rw[bq]at l1
 have l2:=List.length_eq_countP_add_countP (λj=>(R.map aT).contains j) (l:=aL w)
 rw[cB,Wy,Wy,l1]at l2
 unfold fS
 have e:((aL w).filter λa=>decide ¬(R.map aT).contains a=true)=(aL w).filter λj=>!(R.map aT).contains j:=List.filter_congr λx _=>by
  cases(R.map aT).contains x<;>rfl
 rw[e]at l2
 omega
theorem Gq{m:Bool × Nat}(hm:m∈aG){w f:Nat}{R:List (List Nat)}{H:Nat->Nat}(hR:RT (ae m) w R)(I:RR w R H)(hf:f∈fS R w):(iG m R w f).length=w/\AllLt (ae m) (iG m R w f)/\cf (iG m R w f) f=1/\(∀i,i<R.length->cf (iG m R w f) (H i)=bO m 0 (cf (R.getD i []) f))/\∀j,j≠f->(∀i,i<R.length->H i≠j)->cf (iG m R w f) j=0:=by
 obtain⟨f1,f2⟩:=(I.free hm hR f).mp hf
 have l1:=lo1 hm
 have zl:((R.map aT).zip R).length=R.length:=by rw[DE,bq,zI]
 have zg:∀i (h:i<R.length),((R.map aT).zip R)[i]'(by omega)=(H i,R.getD i []):=λi h=>by
  rw[List.getElem_zip,vZ]
  have e:R.getD i []=R[i]:=by rw[aY,aS h];rfl
  have:=(I.Gm hm hR h).1
  rw[e]at this ⊢
  exact Prod.ext this rfl
 have zm:∀z∈(R.map aT).zip R,∃i,i<R.length/\z=(H i,R.getD i []):=λz hz=>by
  obtain⟨i,hi,rfl⟩:=ke hz
  exact⟨i,by omega,zg i (by omega)⟩
 have mz:∀i,i<R.length->(H i,R.getD i [])∈(R.map aT).zip R:=λi h=>by
  rw[<-zg i h];exact dN _
 have bd:∀z∈(R.map aT).zip R,bO m 0 (z.2.getD f 0)<ae m:=λz hz=>by
  obtain⟨i,hi,rfl⟩:=zm z hz
  exact(lY hm (by omega) (gr hm (hR _ (fE hi [])).2 f)).2.1
 refine⟨?_,?_,?_,λi hi=>?_,λj hj hj2=>?_⟩
 ·unfold iG
  rw[RE (λz:Nat × List Nat=>z.1) (λz=>bO m 0 (z.2.getD f 0)),gW,fW]
 ·have key:∀(l:List (Nat × List Nat)) (x:List Nat),(∀z∈l,bO m 0 (z.2.getD f 0)<ae m)->AllLt (ae m) x->AllLt (ae m) (l.foldl (λx z=>x.set z.1 (bO m 0 (z.2.getD f 0))) x):=by
   intro l
   induction l with
   | nil=>exact λx _ h=>h
   | cons z l ih =>
    intro x hz h
    rw[se]
    refine ih _ (λy hy=>hz y (fU _ hy)) λy hy=>?_
    rcases DC hy with h1 | h1
    ·exact h y h1
    ·rw[h1];exact hz z jj
  refine key _ _ bd λx hx=>?_
  rcases DC hx with h1 | h1
  ·rw[(Dy.mp h1).2];omega
  ·omega
 ·unfold iG
  rw[BH (λz:Nat × List Nat=>z.1) (λz=>bO m 0 (z.2.getD f 0)) _ _ λz hz=>?_]
  ·unfold cf
   rw[aY,Df (by rw[fW];exact f1)];rfl
  ·obtain⟨i,hi,rfl⟩:=zm z hz
   exact f2 i hi
 ·have hp:((R.map aT).zip R).Pairwise (λy z:Nat × List Nat=>y.1≠z.1):=by
   rw[Wx]
   intro i j hi hj yB
   rw[zg i (by omega),zg j (by omega)]
   have:=I.i i j yB (by omega)
   show H i≠H j
   omega
  exact RD (λz:Nat × List Nat=>z.1) (λz=>bO m 0 (z.2.getD f 0)) _ _ hp _ (mz i hi) (by rw[gW,fW];exact I.l i hi)
 ·unfold iG
  rw[BH (λz:Nat × List Nat=>z.1) (λz=>bO m 0 (z.2.getD f 0)) _ _ λz hz=>?_]
  ·unfold cf
   rw[aY,rQ (ft hj),rW]
   split<;>rfl
  ·obtain⟨i,hi,rfl⟩:=zm z hz
   exact hj2 i hi
theorem cx9{N:Nat}{p q:Nat->Nat->Nat}(r:Rg N p q){f:Nat->Nat}{a b n:Nat}(ha:a<n)(hb:b<n)(hn:a≠b)(fa:f a<N)(fb:f b<N)(hz:∀j,j<n->j≠a->j≠b->f j=0):sm p n f=p (f a) (f b):=by
 have h1:=yC r (f:=λj=>if j=a then f a else 0) (j0:=a) (n:=n) (by rw[if_pos rfl];exact fa) ha λj _ h=>if_neg h
 have h2:=yC r (f:=λj=>if j=b then f b else 0) (j0:=b) (n:=n) (by rw[if_pos rfl];exact fb) hb λj _ h=>if_neg h
 rw[if_pos rfl]at h1 h2
 rw[<-h1,<- h2,<- ve r]
 refine fc λj hj=>?_
 by_cases ja:j=a
 ·rw[if_pos ja,if_neg (by omega),r.z' fa,ja]
 ·by_cases jb:j=b
  ·rw[if_neg ja,if_pos jb,r.z fb,jb]
  ·rw[if_neg ja,if_neg jb,hz j hj ja jb,r.z r.pos]
noncomputable def dt(m:Bool × Nat)(w:Nat)(x y:Nat->Nat):Nat:=sm (gp m) w λj=>gm m (x j) (y j)
theorem cz3{m:Bool × Nat}(hm:m∈aG){w f:Nat}{R:List (List Nat)}{H:Nat->Nat}(hR:RT (ae m) w R)(I:RR w R H)(hf:f∈fS R w){i:Nat}(hi:i<R.length):dt m w (cf (R.getD i [])) (cf (iG m R w f))=0:=by
 have r:=rg hm
 obtain⟨f1,f2⟩:=(I.free hm hR f).mp hf
 obtain⟨k1,k2,k3,k4,k5⟩:=Gq hm hR I hf
 have il:=gr hm (hR _ (fE hi [])).2
 have g:=lY hm (a:=0) r.pos (il f)
 unfold dt
 rw[cx9 r (f:=λj=>gm m (cf (R.getD i []) j) (cf (iG m R w f) j)) (a:=H i) (b:=f) (I.l i hi) f1 (f2 i hi) (dw hm _ _) (dw hm _ _) λj hj ja jb=>?_]
 ·rw[k3,k4 i hi,I.u i i hi hi,if_pos rfl,qY g.2.1,u3 (il f)]
  exact g.2.2
 ·by_cases c:∃i',i'<R.length/\H i'=j
  ·obtain⟨i',h1,rfl⟩:=c
   rw[I.u i i' hi h1,if_neg (λz:i=i'=>ja (by rw[z])),iF m _ (dH m hm)]
  ·rw[k5 j jb λi' h1 h2=>c ⟨i',h1,h2⟩,r.qz]
theorem dB.dt{m:Bool × Nat}(hm:m∈aG){R:List (List Nat)}{n:Nat}{y:Nat->Nat}(h:∀i,i<R.length->dt m n (cf (R.getD i [])) y=0){f:Nat->Nat}(s:dB m R f):dt m n f y=0:=by
 refine s.ann hm λx hx=>?_
 obtain⟨i,hi,rfl⟩:=ke hx
 have:=h i hi
 rw[aY,aS hi]at this
 exact this
theorem rj{N n:Nat}{M:List (List Nat)}(h:RT N n M)(h0:M≠[]):av M=n:=by
 cases M with
 | nil=>exact absurd rfl h0
 | cons g M=>exact(h g jj).1
theorem RH{m:Bool × Nat}(hm:m∈aG){n:Nat}{M:List (List Nat)}(h:RT (ae m) n M)(hl:M.length<n):∃(x:Nat->Nat) (f:Nat),f<n/\(∀k,x k<ae m)/\x f=1/\∀i,i<M.length->dt m n (cf (M.getD i [])) x=0:=by
 by_cases h0:M=[]
 ·subst h0
  exact⟨λ_=>1,0,hl,λ_=>lo1 hm,rfl,λi hi=>nomatch hi⟩
 ·have hw:=rj h h0
  obtain⟨⟨H,I⟩,iR,il,sp⟩:=oN hm (G:=M) (by rw[hw];exact h)
  rw[hw]at I iR
  have fl:=I.Gp hm iR
  have f0:0<(fS (dy m M) n).length:=by omega
  have hf:=fE f0 0
  obtain⟨k1,k2,k3,k4,k5⟩:=Gq hm iR I hf
  refine⟨cf (iG m (dy m M) n ((fS (dy m M) n).getD 0 0)),_,((I.free hm iR _).mp hf).1,gr hm k2,k3,λi hi=>?_⟩
  exact dB.dt hm (λi' gz=>cz3 hm iR I hf gz) ((sp _).mp (dB.of (fE hi [])))
theorem RR.BI{m:Bool × Nat}(hm:m∈aG){w v:Nat}{S R:List (List Nat)}{H:Nat->Nat}(hS:RT (ae m) w S)(I:RR w S H)(hR:RT (ae m) v R)(h:∀i,i<S.length->dB m R (cf (S.getD i []))):S.length<=R.length:=by
 have r:=rg hm
 refine Nat.le_of_not_lt λhl=>?_
 have hc:∀i,∃c:Nat->Nat,i<S.length->(∀j,c j<ae m)/\∀k,cf (S.getD i []) k=sm (gp m) R.length λj=>gm m (c j) (cf (R.getD j []) k):=λi=>by
  by_cases hi:i<S.length
  ·obtain⟨c,a,b⟩:=(h i hi).sum hm hR
   exact⟨c,λ_=>⟨a,b⟩⟩
  ·exact⟨λ_=>0,λz=>absurd z hi⟩
 obtain⟨C,hC⟩:=Classical.axiomOfChoice hc
 have cl:∀i,i<S.length->∀j,C i j<ae m:=λi hi=>(hC i hi).1
 obtain⟨x,f,f1,x1,x2,x3⟩:=RH hm (n:=S.length) (M:=(aL R.length).map λj=>(aL S.length).map λi=>C i j) (λy hy=>by
  obtain⟨j,_,rfl⟩:=bD.mp hy
  refine⟨by rw[bq,cB],λz hz=>?_⟩
  obtain⟨i,hi,rfl⟩:=bD.mp hz
  exact cl i (cV.mp hi) j) (by rw[bq,cB];exact hl)
 rw[bq,cB]at x3
 have x4:∀j,j<R.length->sm (gp m) S.length (λi=>gm m (C i j) (x i))=0:=λj hj=>by
  rw[<-x3 j hj]
  refine fc λi hi=>?_
  rw[vi (λj=>(aL S.length).map λi=>C i j) (by rw[cB];exact hj) 0 [],cj7 _ hi,aY,kg hj];rfl
 have x5:∀k,sm (gp m) S.length (λi=>gm m (x i) (cf (S.getD i []) k))=0:=λk=>by
  rw[fc (g:=λi=>sm (gp m) R.length λj=>gm m (gm m (C i j) (x i)) (cf (R.getD j []) k)) λi hi=>?_,Q9 r,j4 r λj hj=>?_]
  ·rw[fc (g:=λi=>gm m (cf (R.getD j []) k) (gm m (C i j) (x i))) λi hi=>jy m _ _,vg r,x4 j hj,r.qz]
  ·rw[(hC i hi).2 k,<- vg r]
   exact fc λj _=>by rw[<-lW (dH m hm),jy m (x i)]
 have:=x5 (H f)
 rw[yC r (f:=λi=>gm m (x i) (cf (S.getD i []) (H f))) (dw hm _ _) f1 λj hj hn=>by rw[I.u j f hj f1,if_neg hn,r.qz],I.u f f f1 f1,if_pos rfl,x2,qY (lo1 hm)]at this
 omega
theorem ci4{m:Bool × Nat}(hm:m∈aG){v:Nat}{G R:List (List Nat)}(hG:RT (ae m) (av G) G)(hR:RT (ae m) v R)(h:∀i,i<G.length->dB m R (cf (G.getD i []))):(dy m G).length<=R.length:=by
 obtain⟨⟨H,I⟩,iR,il,sp⟩:=oN hm hG
 refine I.BI hm iR hR λi hi=>?_
 refine Sp.trans (λf hf=>?_) ((sp _).mpr (dB.of (fE hi [])))
 obtain⟨x,hx,rfl⟩:=hf
 obtain⟨i,hi,rfl⟩:=ke hx
 have:=h i hi
 rw[aY,aS hi]at this
 exact this
theorem cC6{T:List (List Nat)}{i:Nat}(h:i<T.length):T.getD i []=T[i]:=by rw[aY,aS h];rfl
end L3
namespace L3
open PySem L2 PySem.Spec PyProof.Rows
section
variable{X:Cx}{F H:Hp}{e b:Expr}{pos pos' p p2 p3 apos b9:Pos}{ti te:aO}{x y:Str}{i j:Nat}
end
section
variable{X:Cx}
end
section
variable{X:Cx}{es:List Expr}{tr:cC}{pos:Pos}
theorem cy1(h:PA X es (lA tr)):PE X (.List es pos) (lB (qo tr)) :=
 dn (NX h) λσ H Q ⟨B,F,δ,ts,Qd,c,q,k⟩=>⟨B,F,δ,ts,_,c,q,λds ak vs F1 H1 q1 f1 h1 c1 s1=>⟨by rw[<-s1.length];exact q1.1,λp hp=>k _ ak _ F1 _ q1.2 f1 (h1.trans (af.upd hp)) (c1.grow (af.upd hp)) (.own bL (s1.mono (af.refl _) (af.upd hp)) .nil)⟩⟩
end
end L3
namespace L3
open PySem L2 Mf
end L3
namespace L3
open PySem L2 Mf
end L3
namespace L3
open PySem L2 Mf
end L3
namespace L2
open PySem PySem.Spec PyProof.Rows
section
variable{X:Cx}
theorem RI:∀{ns:List Int} {its:List Value},Vals (ns.map V.int) its->ns.length=its.length/\∀(i:Nat) (v:Value),its[i]?=some v->∃n t,ns[i]?=some n/\v=nC n t
 | [],_,r=>by cases r;exact⟨rfl,λi v h=>by simp at h⟩
 | n::ns,_,r=>by
  cases r with
  | cons a b =>
   obtain⟨h1,h2⟩:=RI b
   obtain⟨t,rfl⟩:=a
   refine⟨by simp[h1],λi v h=>?_⟩
   cases i with
   | zero=>simp at h;exact⟨n,t,rfl,h.symm⟩
   | succ i=>simpa using h2 i v (by simpa using h)
theorem bU4(hc:X.calm=true):fZ X (.builtin "any") (λxs H Q=>∃(p:Addr) (ns:List Int),xs=[.ref p]/\bM X.K H p (ns.map V.int)/\Q (.bl (ns.any (· != 0))) H):=by
 intro pins s σ H xs us Q I r h
 obtain⟨p,ns,rfl,hS,q⟩:=h
 obtain⟨u,rfl,ru⟩:=r.one
 cases ru
 obtain⟨its,rv,pl,hz⟩:=I.list hS
 obtain⟨hlen,wQ⟩:=RI rv
 have hl:=pl.isList
 have fA:p<s.heap.objs.size:=by obtain⟨_,e,_⟩:=hl;exact bP e
 refine call_any_walk (wpAny_pyIter_list hl ?_)
 refine⟨s.heap.objs.size,[s.heap.objs.size,p],[s.heap.objs.size],its.toArray.size,_,_,λi=>((ns.map (· != 0))[i]?).getD false,rfl,Dr (A:=X.A.in1) (I.ok.hd hc) _ p (eZ fA) its.toArray,
  ⟨⟨_,gx _ rfl,rfl,rfl⟩,hl.push _⟩,λi v s' Q' E' hP hQ=>?_,λh' tk hk=>?_⟩
 ·obtain⟨n,t,e,rfl⟩:=wQ i v (by simpa using hP)
  simp only[bZ,e,v3,pk]at hQ
  exact PyProof.Rows.truthy_int hQ
 ·have e:((aL its.toArray.size).any λi=>((ns.map (· != 0))[i]?).getD false)=(ns.map (· != 0)).any id:=by
   rw[dD,<- hlen,<- bq (f:=(· != 0)) (as:=ns)];exact OT _
  rw[e,Nm]
  exact⟨.bl _,H,I.kept (h':=h') (t':=tk) (AA hk),rfl,q⟩
end
end L2
namespace L3
open PySem L2 PySem.Spec PyProof.Rows
section
variable{X:Cx}
noncomputable def rk:i7:=λds Q=>match ds with
 | [.lst _ xs]=>∃ns,xs=aF ns/\Q (.bl (ns.any (· != 0)))
 | _=>False
theorem cx5(hc:X.calm=true):gq X (.builtin "any") rk:=gq.of (bU4 hc) λvs H Q zz=>by
 obtain⟨B,F,σ,δ,ts,ds,Qd,c,s,q,k⟩:=zz
 unfold rk at q
 split at q
 ·obtain⟨v,rfl,s1⟩:=jY s
  obtain⟨ns,rfl,q⟩:=q
  obtain⟨p,ws,rfl,h,t⟩:=kz s1 c.ext rfl
  rw[Fv t]at h
  exact⟨p,ns,rfl,jZ h,k _ _ _ q (af.refl _) (c.pushS (.bl .nil) rfl)⟩
 ·exact q.elim
end
end L3
namespace L2
open PySem PySem.Spec PyProof.Rows
section
variable{X:Cx}{a:Expr}{ta:TE}{p p2 pos yD:Pos}
end
end L2
namespace L3
open PySem L2 PySem.Spec PyProof.Rows
section
variable{X:Cx}{a:Expr}{t:aO}{p p2 pos yD:Pos}
end
end L3
namespace L3
open PySem L2 PySem.Spec PyProof.Rows
section
variable{F H:Hp}
end
section
variable{X:Cx}{e:Expr}{t:aO}{p2 pos:Pos}
end
end L3
namespace L3
open PySem L2 PySem.Spec PyProof.Rows
section
variable{F H:Hp}
end
section
variable{P:Program}{w:World}{K:PySem.W.Frag}{mg:Str->Option Value}{base:Heap}
end
section
variable{X:Cx}{CX:eO}{n i:Nat}{f:Addr}{fd:FuncData}{ps:List Str}{sp:bg}{E:XK}{fn x:Str}{e:Expr}{te:aO}{p p2 pos pos' yD:Pos}
end
end L3
namespace L2
section
variable{α:Type}{P:List α->Prop}
theorem cC9(h:P []):∀us:List α,us.length=0->P us:=by
 intro us hl;rcases us with _ | ⟨a,t⟩
 ·exact h
 ·cases hl
theorem gu(h:∀a,P [a]):∀us:List α,us.length=1->P us:=by
 intro us hl;rcases us with _ | ⟨a,t⟩
 ·cases hl
 ·exact cC9 (P:=λt=>P (a::t)) (h a) t (zO hl)
theorem eH(h:∀a b,P [a,b]):∀us:List α,us.length=2->P us:=by
 intro us hl;rcases us with _ | ⟨a,t⟩
 ·cases hl
 ·exact gu (P:=λt=>P (a::t)) (h a) t (zO hl)
theorem fF(h:∀a b c,P [a,b,c]):∀us:List α,us.length=3->P us:=by
 intro us hl;rcases us with _ | ⟨a,t⟩
 ·cases hl
 ·exact eH (P:=λt=>P (a::t)) (h a) t (zO hl)
theorem rl(h:∀a b c d,P [a,b,c,d]):∀us:List α,us.length=4->P us:=by
 intro us hl;rcases us with _ | ⟨a,t⟩
 ·cases hl
 ·exact fF (P:=λt=>P (a::t)) (h a) t (zO hl)
theorem RJ(h:∀a b c d e,P [a,b,c,d,e]):∀us:List α,us.length=5->P us:=by
 intro us hl;rcases us with _ | ⟨a,t⟩
 ·cases hl
 ·exact rl (P:=λt=>P (a::t)) (h a) t (zO hl)
end
end L2
namespace L3
open PySem L2 PySem.Spec PyProof.Rows
section
variable{B:Bs}{F H:Hp}{σ:L2.St}{δ:Dl}{ts:List (D × V)}
end
section
variable{X:Cx}{elt iter tg:Expr}{pos:Pos}{scope:Scope}{cl:List (Str × Addr)}{ti:iY}{te:aO}{g:hW}
end
end L3
namespace L2
open PySem PySem.Spec PyProof.Rows
section
variable{X:Cx}
end
end L2
namespace L3
open PySem L2 PySem.Spec PyProof.Rows
section
variable{X:Cx}
end
end L3
namespace L3
open PySem L2 Mf
theorem RK{m:Bool × Nat}(hm:m∈aG){a b:Nat}(ha:a<ae m)(hb:b<ae m):gm m a b=0↔a=0\/b=0:=by
 constructor
 ·intro h
  by_cases a0:a=0
  ·exact .inl a0
  ·by_cases b0:b=0
   ·exact .inr b0
   ·exact absurd h (cE4 hm (by omega) ha (by omega) hb)
 ·rintro (rfl | rfl)
  ·exact iF m _ (dH m hm)
  ·exact lX m _ (dH m hm)
theorem bZ6(l:List Nat):aj l=aF (l.map λ(n:Nat)=>(n:Int)):=by rw[bY];unfold aF;rw[bR];rfl
theorem cj3{xs ys:List Nat}{i:Nat}{d:D}(h:(eC (aj xs) (aj ys))[i]?=some d):∃(hi:i<xs.length) (hj:i<ys.length),d=.tup [.int (xs[i]:Nat),.int (ys[i]:Nat)]:=by
 unfold eC at h
 rw[bY,bY,DB]at h
 have hl:=(jk.mp h).1
 rw[jK]at hl
 have hi:i<xs.length:=by omega
 have hj:i<ys.length:=by omega
 rw[pF,aS hi,aS hj]at h
 exact⟨hi,hj,(cO h).symm⟩
theorem b71(xs ys:List Nat):(eC (aj xs) (aj ys)).length=min xs.length ys.length:=by unfold eC;rw[jK,dX,dX]
noncomputable def ff(m:Bool × Nat)(b:Nat)(ps:List Nat)(n:Nat):List (List Nat):=(aL n).map λ(i:Nat)=>ps.map λ(p:Nat)=>eS m (((b:Int)+(i:Int))*(p:Int))
theorem BJ{m:Bool × Nat}(hm:m∈aG)(b:Nat)(ps:List Nat)(n:Nat):RT (ae m) ps.length (ff m b ps n)/\(ff m b ps n).length=n:=by
 refine⟨λr hr=>?_,by unfold ff;rw[bq,cB]⟩
 obtain⟨i,_,rfl⟩:=bD.mp hr
 refine⟨by rw[bq],λx hx=>?_⟩
 obtain⟨p,_,rfl⟩:=bD.mp hx
 exact cK8 hm _
end L3
namespace L3
open PySem L2 Mf
noncomputable def gG(m:Bool × Nat)(c:List Nat)(os:List (List Nat)):List (List Nat):=os.map λo =>
 (cP (λx y=>bO m x (gm m (gm m (o.getD (aT c) 0) (l6 m (c.getD (aT c) 0))) y)) o c).take (aT c)++(cP (λx y=>bO m x (gm m (gm m (o.getD (aT c) 0) (l6 m (c.getD (aT c) 0))) y)) o c).drop (aT c+1)
noncomputable abbrev Cs:=List Nat × List (List Nat)
noncomputable def nul(c:List Nat):Bool:=c.all (·==0)
noncomputable def iH(m:Bool × Nat)(w:Nat)(z:Cs × Nat):Cs:=(z.1.1++[w-z.1.2.length+z.2],gG m (z.1.2.getD z.2 []) (z.1.2.drop (z.2+1)))
noncomputable def fm(s:Cs):List (Cs × Nat):=(aL s.2.length).map λi=>(s,i)
noncomputable def dJ(l:List Cs):List (Cs × Nat):=l.flatMap fm
noncomputable def nh(z:Cs × Nat):Bool:=nul (z.1.2.getD z.2 [])
noncomputable def rm(m:Bool × Nat)(w:Nat):Nat->List Cs->Option (List Nat)
 | 0,_=>none
 | f+1,l=>if l=[]then none else match (dJ l).find? nh with
  | some z=>some (z.1.1++[w-z.1.2.length+z.2])
  | none=>rm m w f ((dJ l).map (iH m w))
noncomputable def gv(m:Bool × Nat)(C:Nat->Nat->Nat)(ps:List Nat)(c:Nat->Nat)(k:Nat):Nat:=sm (gp m) ps.length λt=>gm m (c t) (C (ps.getD t 0) k)
noncomputable def vk(m:Bool × Nat)(C:Nat->Nat->Nat)(ps:List Nat):Prop:=∀c:Nat->Nat,(∀t,c t<ae m)->(∀k,gv m C ps c k=0)->∀t,t<ps.length->c t=0
structure Gs(m:Bool × Nat)(C:Nat->Nat->Nat)(w:Nat)(s:Cs):Prop where
 le:s.2.length<=w
 inc:s.1.Pairwise (· < ·)
 off:∀p∈s.1,p<w-s.2.length
 nx:∀j,(∀p∈s.1,p<j)->w-s.2.length<=j
 rt:∃h,RT (ae m) h s.2
 rel:∀a:Nat->Nat,(∀i,a i<ae m)->((∀k,sm (gp m) s.2.length (λi=>gm m (a i) (cf (s.2.getD i []) k))=0)↔∃c:Nat->Nat,(∀t,c t<ae m)/\∀k,gp m (sm (gp m) s.2.length λi=>gm m (a i) (C (w-s.2.length+i) k)) (gv m C s.1 c k)=0)
 ind:vk m C s.1
section
variable{m:Bool × Nat}{C:Nat->Nat->Nat}{w:Nat}
theorem cD3(hm:m∈aG)(C:Nat->Nat->Nat)(ps:List Nat)(c:Nat->Nat)(k:Nat):gv m C ps c k<ae m:=oK (rg hm) λ_ _=>dw hm _ _
theorem BK(hm:m∈aG)(C:Nat->Nat->Nat)(ps:List Nat)(j:Nat)(c:Nat->Nat)(k:Nat):gv m C (ps++[j]) c k=gp m (gv m C ps c k) (gm m (c ps.length) (C j k)):=by
 unfold gv
 rw[dm,jJ,sm]
 congr 1
 ·refine fc λt ht=>?_
  rw[aY,pd ht,<- aY]
 ·rw[aY,mh (bK _),DI];rfl
theorem RL{ps:List Nat}{c c':Nat->Nat}{k:Nat}(h:∀t,t<ps.length->c t=c' t):gv m C ps c k=gv m C ps c' k:=fc λt ht=>by rw[h t ht]
theorem oQ(hm:m∈aG){n i e:Nat}(hi:i<n)(a' X:Nat->Nat):sm (gp m) n (λj=>gm m (if j<i then 0 else if j=i then e else a' (j-i-1)) (X j))=gp m (sm (gp m) (n-i-1) λj=>gm m (a' j) (X (i+1+j))) (gm m e (X i)):=by
 have r:=rg hm
 have h0:=dH m hm
 obtain⟨d,rfl⟩:∃d,n=(i+1)+d:=⟨n-i-1,by omega⟩
 rw[Ra r (i+1) d λ_ _=>dw hm _ _,sm,j4 r λj hj=>by rw[if_pos hj,iF m _ h0],if_neg (gw _),if_pos rfl,r.z (dw hm _ _),oH]
 congr 1
 rw[show i+1+d-i-1=d by omega]
 refine fc λj hj=>?_
 rw[if_neg (by omega),if_neg (by omega),show i+1+j-i-1=j by omega]
theorem RM{c:List Nat}:nul c=true↔∀k,cf c k=0:=by
 unfold nul
 rw[cX]
 constructor
 ·intro h k
  by_cases hk:k<c.length
  ·unfold cf
   have:=h _ (fE hk 0)
   exact beq_iff_eq.mp this
  ·exact vd (by omega)
 ·intro h x hx
  obtain⟨k,hk,rfl⟩:=ke hx
  have:=h k
  unfold cf at this
  rw[aY,aS hk]at this
  exact beq_iff_eq.mpr this
theorem Gr{c:List Nat}(h:nul c=false):aT c<c.length/\cf c (aT c)≠0:=by
 have hx:∃x∈c,(x != 0)=true:=by
  refine Dn λz=>?_
  have:nul c=true:=by
   unfold nul
   rw[cX]
   intro x hx
   refine Dn λy=>z ⟨x,hx,?_⟩
   simpa using y
  rw[h]at this;cases this
 have hl:aT c<c.length:=Nn hx
 refine⟨hl,?_⟩
 have h2:(c[aT c] != 0)=true:=Wu (xs:=c) (p:=(· != 0)) (w:=hl)
 unfold cf
 rw[aY,aS hl]
 simpa using h2
theorem ck6(hm:m∈aG){b:List Nat}{os:List (List Nat)}{h:Nat}(hb:b.length=h)(ab:AllLt (ae m) b)(kM:RT (ae m) h os)(nb:nul b=false){a:Nat->Nat}(ha:∀i,a i<ae m) :
  (∀k,sm (gp m) os.length (λj=>gm m (a j) (cf ((gG m b os).getD j []) k))=0)↔∃e,e<ae m/\∀k,gp m (sm (gp m) os.length λj=>gm m (a j) (cf (os.getD j []) k)) (gm m e (cf b k))=0:=by
 have r:=rg hm
 have h0:=dH m hm
 have eQ:=lo1 hm
 obtain⟨hp,bp⟩:=Gr nb
 have RN:=gr hm ab (aT b)
 obtain⟨iv,iv1,RO⟩:=Rb hm (a:=1) (by omega) RN bp
 have Gu:l6 m (b.getD (aT b) 0)=iv:=Bw hm iv1 RO
 obtain⟨D,hD⟩:∃D:Nat->List Nat,∀j,D j=cP (λx y=>bO m x (gm m (gm m ((os.getD j []).getD (aT b) 0) iv) y)) (os.getD j []) b:=⟨_,λ_=>rfl⟩
 have RP:∀j,j<os.length->∀k,gp m (cf (D j) k) (gm m (gm m (cf (os.getD j []) (aT b)) iv) (cf b k))=cf (os.getD j []) k:=λj hj k=>by
  rw[hD]
  exact BD hm (kM _ (fE hj [])).1 hb (kM _ (fE hj [])).2 k
 have Dlt:∀j,j<os.length->∀k,cf (D j) k<ae m:=λj hj k=>by
  rw[hD]
  exact Gk hm (kM _ (fE hj [])).1 hb (kM _ (fE hj [])).2 _ k
 have Dp:∀j,j<os.length->cf (D j) (aT b)=0:=λj hj=>by
  have l1:=gr hm (kM _ (fE hj [])).2 (aT b)
  have:=RP j hj (aT b)
  rw[lW h0,RO,u3 l1]at this
  exact r.cn (Dlt j hj _) l1 this
 have c88:∀j,j<os.length->(D j).length=h:=λj hj=>by
  rw[hD,jK,(kM _ (fE hj [])).1,hb,zI]
 have Gv:∀j,j<os.length->∀k,cf ((gG m b os).getD j []) k=cf (D j) (if k<aT b then k else k+1):=λj hj k=>by
  have e1:(gG m b os).getD j []=(D j).take (aT b)++(D j).drop (aT b+1):=by
   unfold gG
   rw[vi _ hj [] [],Gu,hD]
  rw[e1]
  have lt:((D j).take (aT b)).length=aT b:=by rw[iu,c88 j hj];omega
  unfold cf
  by_cases hk:k<aT b
  ·rw[if_pos hk,aY,pd (by omega),We hk,<- aY]
  ·rw[if_neg hk,aY,mh (by omega),lt,Nb,show aT b+1+(k-aT b)=k+1 by omega,<- aY]
 obtain⟨F,hF⟩:∃F,F=sm (gp m) os.length λj=>gm m (a j) (gm m (cf (os.getD j []) (aT b)) iv):=⟨_,rfl⟩
 have Flt:F<ae m:=by rw[hF];exact oK r λ_ _=>dw hm _ _
 have RQ:∀k,(sm (gp m) os.length λj=>gm m (a j) (cf (os.getD j []) k))=gp m (sm (gp m) os.length λj=>gm m (a j) (cf (D j) k)) (gm m F (cf b k)):=λk=>by
  rw[fc (g:=λj=>gp m (gm m (a j) (cf (D j) k)) (gm m (cf b k) (gm m (a j) (gm m (cf (os.getD j []) (aT b)) iv)))) λj hj=>?_,ve r,vg r,<- hF,jy m (cf b k)]
  rw[<-RP j hj k,Q1 h0]
  congr 1
  rw[<-lW h0,jy m _ (cf b k)]
 have m3:(∀k,sm (gp m) os.length (λj=>gm m (a j) (cf ((gG m b os).getD j []) k))=0)↔∀k,sm (gp m) os.length (λj=>gm m (a j) (cf (D j) k))=0:=by
  constructor
  ·intro h k
   by_cases e:k=aT b
   ·exact j4 r λj hj=>by rw[e,Dp j hj,lX m _ h0]
   ·by_cases c:k<aT b
    ·rw[<-h k]
     exact fc λj hj=>by rw[Gv j hj,if_pos c]
    ·rw[<-h (k-1)]
     exact fc λj hj=>by rw[Gv j hj,if_neg (by omega),show k-1+1=k by omega]
  ·intro h k
   rw[fc λj hj=>by rw[Gv j hj]]
   exact h _
 rw[m3]
 constructor
 ·intro h
  obtain⟨e,e1,e2⟩:=r.ng Flt
  refine⟨e,e1,λk=>?_⟩
  rw[RQ k,h k,r.z (dw hm _ _),<- FW h0,e2,iF m _ h0]
 ·rintro⟨e,e1,h⟩
  have key:∀k,gp m (sm (gp m) os.length λj=>gm m (a j) (cf (D j) k)) (gm m (gp m F e) (cf b k))=0:=λk=>by
   rw[FW h0,<- FV,<- RQ k]
   exact h k
  have fe:gp m F e=0:=by
   have:=key (aT b)
   rw[j4 r λj hj=>by rw[Dp j hj,lX m _ h0],r.z (dw hm _ _)]at this
   rcases(RK hm (Q2 hm Flt e1) RN).mp this with z | z
   ·exact z
   ·exact absurd z bp
  intro k
  have:=key k
  rw[fe,iF m _ h0,yt (oK r λ_ _=>dw hm _ _)]at this
  exact this
theorem RU(m:Bool × Nat)(b:List Nat)(os:List (List Nat)):(gG m b os).length=os.length:=by unfold gG;rw[bq]
theorem cz9(hm:m∈aG){b:List Nat}{os:List (List Nat)}{h:Nat}(hb:b.length=h)(kM:RT (ae m) h os)(nb:nul b=false):RT (ae m) (h-1) (gG m b os):=λx hx=>by
 obtain⟨o,ho,rfl⟩:=bD.mp hx
 obtain⟨hp,_⟩:=Gr nb
 obtain⟨l1,l2⟩:=kM o ho
 refine⟨by rw[dm,iu,jI,jK,l1,hb];omega,λy hy=>?_⟩
 have:AllLt (ae m) (cP (λx y=>bO m x (gm m (gm m (o.getD (aT b) 0) (l6 m (b.getD (aT b) 0))) y)) o b):=FX λx hx y _=>(lY hm (l2 x hx) (dw hm _ y)).2.1
 rcases cj.mp hy with z | z
 ·exact this y (sr z)
 ·exact this y (pz z)
theorem Gs.next(hm:m∈aG){s:Cs}(G:Gs m C w s){i:Nat}(hi:i<s.2.length)(nb:nul (s.2.getD i [])=false)(hC:∀j k,C j k<ae m):Gs m C w (iH m w (s,i)):=by
 have r:=rg hm
 have h0:=dH m hm
 have eQ:=lo1 hm
 have hle:=G.le
 obtain⟨h,BL⟩:=G.rt
 obtain⟨bl,ba⟩:=BL _ (fE hi [])
 have RV:RT (ae m) h (s.2.drop (i+1)):=λx hx=>BL x (pz hx)
 have kl:(iH m w (s,i)).2.length=s.2.length-i-1:=by
  show(gG m _ _).length=_
  rw[RU,jI]
  show s.2.length-(i+1)=_
  omega
 have dl:(s.2.drop (i+1)).length=s.2.length-i-1:=by rw[jI];omega
 have ko:w-(iH m w (s,i)).2.length=w-s.2.length+i+1:=by omega
 have dg:∀j,(s.2.drop (i+1)).getD j []=s.2.getD (i+1+j) []:=λj=>by rw[aY,Nb,<- aY]
 refine⟨by omega,?_,λp hp=>?_,λj hj=>?_,⟨h-1,cz9 hm bl RV nb⟩,λa ha=>?_,λc hc hz t ht=>?_⟩
 ·refine zP.mpr ⟨G.inc,Nt _ _,λx hx y hy=>?_⟩
  rw[fv.mp hy]
  have:=G.off x hx
  show x<w-s.2.length+i
  omega
 ·rw[ko]
  rcases cj.mp hp with z | z
  ·have:=G.off p z;omega
  ·rw[fv.mp z];exact zC _
 ·rw[ko]
  have:=hj (w-s.2.length+i) (cW _ (fv.mpr rfl))
  omega
 ·have e1:(∀k,sm (gp m) (iH m w (s,i)).2.length (λj=>gm m (a j) (cf ((iH m w (s,i)).2.getD j []) k))=0)↔∃e,e<ae m/\∀k,gp m (sm (gp m) (s.2.length-i-1) λj=>gm m (a j) (cf (s.2.getD (i+1+j) []) k)) (gm m e (cf (s.2.getD i []) k))=0:=by
   have:=ck6 hm bl ba RV nb ha
   rw[dl]at this
   rw[kl]
   refine this.trans ?_
   constructor
   ·rintro⟨e,e1,e2⟩
    exact⟨e,e1,λk=>by rw[<-e2 k,fc λj _=>by rw[<-dg j]]⟩
   ·rintro⟨e,e1,e2⟩
    exact⟨e,e1,λk=>by rw[<-e2 k,fc λj _=>by rw[dg j]]⟩
  rw[e1]
  have al:∀e,e<ae m->∀j,(if j<i then 0 else if j=i then e else a (j-i-1))<ae m:=λe he j=>by
   split
   ·omega
   ·split
    ·exact he
    ·exact ha _
  have RW:∀(c:Nat->Nat) (e k:Nat),gp m (sm (gp m) s.2.length λj=>gm m (if j<i then 0 else if j=i then e else a (j-i-1)) (C (w-s.2.length+j) k)) (gv m C s.1 c k)=gp m (sm (gp m) (s.2.length-i-1) λj=>gm m (a j) (C (w-s.2.length+i+1+j) k)) (gp m (gv m C s.1 c k) (gm m e (C (w-s.2.length+i) k))):=λc e k=>by
   rw[oQ hm hi a (λj=>C (w-s.2.length+j) k),FV,oH m (gm m e _)]
   congr 1
   exact fc λj _=>by rw[show w-s.2.length+(i+1+j)=w-s.2.length+i+1+j by omega]
  have ln:∀c k,gv m C (iH m w (s,i)).1 c k=gp m (gv m C s.1 c k) (gm m (c s.1.length) (C (w-s.2.length+i) k)):=λc k=>BK hm C s.1 _ c k
  constructor
  ·rintro⟨e,e1,e2⟩
   obtain⟨c,c1,c2⟩:=(G.rel _ (al e e1)).mp λk=>by
    rw[oQ hm hi a (λj=>cf (s.2.getD j []) k)]
    exact e2 k
   refine⟨λt=>if t=s.1.length then e else c t,λt=>by
    show(if t=s.1.length then e else c t)<ae m
    split
    ·exact e1
    ·exact c1 t,λk=>?_⟩
   rw[ln,ko,kl,if_pos rfl,RL (c':=c) λt ht=>if_neg (eZ ht),<- RW c e k]
   exact c2 k
  ·rintro⟨c,c1,c2⟩
   refine⟨c s.1.length,c1 _,λk=>?_⟩
   have:=(G.rel _ (al _ (c1 s.1.length))).mpr ⟨c,c1,λk=>by
    rw[RW c _ k]
    have:=c2 k
    rw[ln,ko,kl]at this
    exact this⟩ k
   rw[oQ hm hi a (λj=>cf (s.2.getD j []) k)]at this
   exact this
 ·have ln:∀k,gp m (gv m C s.1 c k) (gm m (c s.1.length) (C (w-s.2.length+i) k))=0:=λk=>by
   rw[<-BK hm C s.1 _ c k]
   exact hz k
  have e0:c s.1.length=0:=by
   refine Dn λz=>?_
   have al:∀j,(if j<i then 0 else if j=i then c s.1.length else(λ_=>0) (j-i-1))<ae m:=λj=>by
    split
    ·omega
    ·split
     ·exact hc _
     ·show 0<_;omega
   have z0:∀(n:Nat) (X:Nat->Nat),sm (gp m) n (λj=>gm m ((λ_=>0) j) (X j))=0:=λn X=>j4 r λ_ _=>iF m _ h0
   have:=(G.rel _ al).mpr ⟨c,hc,λk=>by
    rw[oQ hm hi (λ_=>0) (λj=>C (w-s.2.length+j) k),z0,r.z (dw hm _ _),oH]
    exact ln k⟩
   have nn:nul (s.2.getD i [])=true:=RM.mpr λk=>by
    have q:=this k
    rw[oQ hm hi (λ_=>0) (λj=>cf (s.2.getD j []) k),z0,r.z (dw hm _ _)]at q
    rcases(RK hm (hc _) (gr hm ba k)).mp q with y | y
    ·exact absurd y z
    ·exact y
   rw[nb]at nn;cases nn
  have hs:∀k,gv m C s.1 c k=0:=λk=>by
   have:=ln k
   rw[e0,iF m _ h0,yt (cD3 hm C _ c k)]at this
   exact this
  have hl:(iH m w (s,i)).1.length=s.1.length+1:=by show(s.1++[_]).length=_;rw[dm];rfl
  by_cases ct:t<s.1.length
  ·exact G.ind c hc hs t ct
  ·rw[show t=s.1.length by omega];exact e0
theorem Gs.bound(hm:m∈aG){s:Cs}(G:Gs m C w s){i:Nat}(hi:i<s.2.length)(hC:∀j k,C j k<ae m):nul (s.2.getD i [])=true↔∃c:Nat->Nat,(∀t,c t<ae m)/\c s.1.length=1/\∀k,gv m C (s.1++[w-s.2.length+i]) c k=0:=by
 have r:=rg hm
 have h0:=dH m hm
 have eQ:=lo1 hm
 obtain⟨h,BL⟩:=G.rt
 obtain⟨bl,ba⟩:=BL _ (fE hi [])
 have al:∀j,(if j<i then 0 else if j=i then 1 else(λ_=>0) (j-i-1))<ae m:=λj=>by
  split
  ·omega
  ·split
   ·omega
   ·show 0<_;omega
 have z0:∀(n:Nat) (X:Nat->Nat),sm (gp m) n (λj=>gm m ((λ_=>0) j) (X j))=0:=λn X=>j4 r λ_ _=>iF m _ h0
 have e1:nul (s.2.getD i [])=true↔∀k,sm (gp m) s.2.length (λj=>gm m (if j<i then 0 else if j=i then 1 else(λ_=>0) (j-i-1)) (cf (s.2.getD j []) k))=0:=by
  rw[RM]
  refine forall_congr' λk=>?_
  rw[oQ hm hi (λ_=>0) (λj=>cf (s.2.getD j []) k),z0,r.z (dw hm _ _),qY (gr hm ba k)]
 rw[e1,G.rel _ al]
 constructor
 ·rintro⟨c,c1,c2⟩
  refine⟨λt=>if t=s.1.length then 1 else c t,λt=>by
   show(if t=s.1.length then 1 else c t)<ae m
   split
   ·omega
   ·exact c1 t,if_pos rfl,λk=>?_⟩
  rw[BK hm,if_pos rfl,RL (c':=c) λt ht=>if_neg (eZ ht),oH,<- c2 k,oQ hm hi (λ_=>0) (λj=>C (w-s.2.length+j) k),z0,r.z (dw hm _ _)]
 ·rintro⟨c,c1,c2,c3⟩
  refine⟨c,c1,λk=>?_⟩
  have:=c3 k
  rw[BK hm,c2]at this
  rw[oQ hm hi (λ_=>0) (λj=>C (w-s.2.length+j) k),z0,r.z (dw hm _ _),oH]
  exact this
end
end L3
namespace L3
open PySem L2 Mf
noncomputable def jB:List Nat->List Nat->Prop
 | a::as,b::bs=>a<b\/(a=b/\jB as bs)
 | _,_=>False
theorem RX:∀l:List Nat,¬ jB l l
 | [],h=>h
 | a::l,h=>h.elim (λz=>gw _ z) λz=>RX l z.2
theorem RY:∀a b:List Nat,jB a b->¬ jB b a
 | [],_,h,_=>h
 | _::_,[],h,_=>h
 | a::as,b::bs,h,h'=>by
  rcases h with h | ⟨rfl,h⟩
  ·rcases h' with h' | ⟨e,_⟩
   ·omega
   ·omega
  ·rcases h' with h' | ⟨_,h'⟩
   ·omega
   ·exact RY as bs h h'
theorem RZ:∀(a b:List Nat) (x y:List Nat),a.length=b.length->jB a b->jB (a++x) (b++y)
 | [],_,_,_,_,h=>h.elim
 | _::_,[],_,_,_,h=>h.elim
 | a::as,b::bs,x,y,hl,h=>by
  rcases h with h | ⟨e,h⟩
  ·exact .inl h
  ·exact .inr ⟨e,RZ as bs x y (by simpa using hl) h⟩
theorem R0:∀(a:List Nat) (x y:Nat),x<y->jB (a++[x]) (a++[y])
 | [],_,_,h=>.inl h
 | _::as,x,y,h=>.inr ⟨rfl,R0 as x y h⟩
noncomputable def jg(w:Nat)(S:List Nat):Prop:=S.Pairwise (· < ·)/\∀x∈S,x<w
theorem R1:∀(S:List Nat) (lo w:Nat),S.Pairwise (· < ·)->(∀x∈S,lo<=x/\x<w)->S.length<=w-lo
 | [],_,_,_,_=>kP _
 | a::S,lo,w,hp,h=>by
  rw[DJ]at hp
  have ih:=R1 S (a+1) w hp.2 λx hx=>⟨hp.1 x hx,(h x (fU _ hx)).2⟩
  have ha:=h a (jj ..)
  rw[jl]
  omega
theorem jg.len{S:List Nat}{w:Nat}(h:jg w S):S.length<=w:=R1 S 0 w h.1 λx hx=>⟨kP _,h.2 x hx⟩
theorem jg.take{S:List Nat}{w:Nat}(h:jg w S)(k:Nat):jg w (S.take k):=⟨h.1.sublist (List.take_sublist k S),λx hx=>h.2 x (sr hx)⟩
noncomputable def jC(w:Nat)(z:Cs × Nat):List Nat:=z.1.1++[w-z.1.2.length+z.2]
structure Lv(m:Bool × Nat)(C:Nat->Nat->Nat)(w k:Nat)(l:List Cs):Prop where
 gs:∀s∈l,Gs m C w s/\s.1.length=k
 all:∀S,jg w S->S.length=k->∃s∈l,s.1=S
 ord:(l.map (·.1)).Pairwise jB
theorem vm{l:List Cs}{z:Cs × Nat}:z∈dJ l↔z.1∈l/\z.2<z.1.2.length:=by
 unfold dJ
 rw[List.mem_flatMap]
 constructor
 ·rintro⟨s,hs,hz⟩
  obtain⟨i,hi,rfl⟩:=bD.mp hz
  exact⟨hs,cV.mp hi⟩
 ·rintro⟨h1,h2⟩
  exact⟨z.1,h1,bD.mpr ⟨z.2,cV.mpr h2,rfl⟩⟩
section
variable{m:Bool × Nat}{C:Nat->Nat->Nat}{w:Nat}
theorem Gw{k:Nat}:∀{l:List Cs},(∀s∈l,s.1.length=k)->(l.map (·.1)).Pairwise jB->((dJ l).map (jC w)).Pairwise jB
 | [],_,_=>MU
 | s::l,hl,ho=>by
  rw[df,DJ]at ho
  show(((fm s)++dJ l).map (jC w)).Pairwise jB
  rw[fh,zP]
  refine⟨?_,Gw (λs hs=>hl s (fU _ hs)) ho.2,λa ha b hb=>?_⟩
  ·unfold fm
   rw[bR]
   refine List.pairwise_map.mpr (Wz.imp λ{a b} hab=>?_)
   exact R0 s.1 _ _ (show w-s.2.length+a<w-s.2.length+b by omega)
  ·obtain⟨z,hz,rfl⟩:=bD.mp ha
   obtain⟨i,_,rfl⟩:=bD.mp hz
   obtain⟨y,hy,rfl⟩:=bD.mp hb
   obtain⟨h1,_⟩:=vm.mp hy
   exact RZ _ _ _ _ (by rw[hl s (jj ..),hl _ (fU _ h1)]) (ho.1 _ (bD.mpr ⟨_,h1,rfl⟩))
theorem Lv.meets(L:Lv m C w k l){S:List Nat}(hS:jg w S)(hk:S.length=k+1):∃z∈dJ l,jC w z=S:=by
 have e:S=S.take k++[S.getD k 0]:=by
  have h1:S.drop k=[S.getD k 0]:=by
   rw[List.drop_eq_getElem_cons (by omega),List.drop_of_length_le (by omega),aY,aS (by omega)];rfl
  conv=>lhs;rw[<-Nu k S,h1]
 obtain⟨s,hs,es⟩:=L.all _ (hS.take k) (by rw[iu];omega)
 obtain⟨G,_⟩:=L.gs s hs
 have hj:∀p∈s.1,p<S.getD k 0:=λp hp=>by
  rw[es]at hp
  have:=hS.1
  rw[e,zP]at this
  exact this.2.2 p hp _ (fv.mpr rfl)
 have h1:=G.nx _ hj
 have h2:=hS.2 (S.getD k 0) (fE (by omega) 0)
 have h3:=G.le
 refine⟨(s,S.getD k 0-(w-s.2.length)),vm.mpr ⟨hs,?_⟩,?_⟩
 ·show S.getD k 0-(w-s.2.length)<s.2.length
  omega
 ·show s.1++[w-s.2.length+(S.getD k 0-(w-s.2.length))]=S
  rw[show w-s.2.length+(S.getD k 0-(w-s.2.length))=S.getD k 0 by omega,es]
  exact e.symm
theorem Lv.next(hm:m∈aG)(hC:∀j k,C j k<ae m)(L:Lv m C w k l)(hn:∀z∈dJ l,nh z=false):Lv m C w (k+1) ((dJ l).map (iH m w)) where
 gs:=λs hs=>by
  obtain⟨z,hz,rfl⟩:=bD.mp hs
  obtain⟨h1,h2⟩:=vm.mp hz
  obtain⟨G,hl⟩:=L.gs _ h1
  refine⟨G.next hm h2 (hn z hz) hC,?_⟩
  show(z.1.1++[_]).length=_
  rw[dm,hl];rfl
 all:=λS hS hk=>by
  obtain⟨z,hz,e⟩:=L.meets hS hk
  exact⟨iH m w z,bD.mpr ⟨z,hz,rfl⟩,e⟩
 ord:=by
  rw[bR]
  exact Gw (λs hs=>(L.gs s hs).2) L.ord
theorem R3(hm:m∈aG)(hC:∀j k,C j k<ae m):∀(f k:Nat) (l:List Cs),Lv m C w k l->w+1<=f+k ->
  match rm m w f l with
  | none=>∀S,jg w S->k<=S.length->vk m C S
  | some F=>jg w F/\k<F.length/\(∃c:Nat->Nat,(∀t,c t<ae m)/\c (F.length-1)=1/\∀j,gv m C F c j=0)/\∀S,jg w S->k<=S.length->S.length<F.length\/(S.length=F.length/\jB S F)->vk m C S
 | 0,k,l,L,hf=>λS hS hk=>absurd hS.len (by omega)
 | f+1,k,l,L,hf=>by
  have here:∀S,jg w S->S.length=k->vk m C S:=λS hS hk=>by
   obtain⟨s,hs,rfl⟩:=L.all S hS hk
   exact(L.gs s hs).1.ind
  rw[rm]
  by_cases l0:l=[]
  ·rw[if_pos l0]
   subst l0
   intro S hS hk
   obtain⟨s,hs,_⟩:=L.all (S.take k) (hS.take k) (by rw[iu];omega)
   cases hs
  ·rw[if_neg l0]
   cases e:(dJ l).find? nh with
   | some z =>
    obtain⟨hz,as,bs,eL,oR⟩:=WA.mp e
    obtain⟨h1,h2⟩:=vm.mp (M7 e)
    obtain⟨G,hl⟩:=L.gs _ h1
    have hle:=G.le
    have fl:(jC w z).length=k+1:=by show(z.1.1++[_]).length=_;rw[dm,hl];rfl
    refine⟨⟨?_,λx hx=>?_⟩,by show k<(jC w z).length;omega,?_,λS hS hk hc=>?_⟩
    ·refine zP.mpr ⟨G.inc,Nt _ _,λx hx y hy=>?_⟩
     rw[fv.mp hy]
     have:=G.off x hx
     omega
    ·rcases cj.mp hx with q | q
     ·have:=G.off x q;omega
     ·rw[fv.mp q];omega
    ·obtain⟨c,c1,c2,c3⟩:=(G.bound hm h2 hC).mp hz
     refine⟨c,c1,?_,c3⟩
     show c ((jC w z).length-1)=1
     rw[fl,Nat.add_sub_cancel,<- hl]
     exact c2
    ·by_cases ck:S.length=k
     ·exact here S hS ck
     have cl:S.length=k+1/\jB S (jC w z):=by
      rcases hc with q | ⟨q1,q2⟩
      ·exact absurd (show S.length<(jC w z).length from q) (by omega)
      ·exact⟨(show S.length=(jC w z).length from q1).trans fl,q2⟩
     obtain⟨y,hy,ey⟩:=L.meets hS cl.1
     obtain⟨y1,y2⟩:=vm.mp hy
     obtain⟨Gy,_⟩:=L.gs _ y1
     cases ny:nh y with
     | false =>
      have:=(Gy.next hm y2 ny hC).ind
      rwa [show(iH m w (y.1,y.2)).1=S from ey]at this
     | true =>
      exfalso
      have od:=Gw (w:=w) (λs hs=>(L.gs s hs).2) L.ord
      rw[eL]at hy od
      rw[fh,df,zP]at od
      have od2:=(DJ.mp od.2.1).1
      rcases cj.mp hy with q | q
      ·have:=oR y q
       rw[ny]at this;simp at this
      ·rcases cA.mp q with q | q
       ·rw[q]at ey
        rw[<-ey]at cl
        exact RX _ cl.2
       ·have:=od2 _ (bD.mpr ⟨y,q,rfl⟩)
        rw[ey]at this
        exact RY _ _ this cl.2
   | none =>
    have hn:∀z∈dJ l,nh z=false:=λz hz=>by
     have:=Np.mp e z hz
     simpa using this
    have ih:=R3 hm hC f (k+1) _ (L.next hm hC hn) (by omega)
    dsimp only
    split
    ·rename_i e2
     rw[e2]at ih
     intro S hS hk
     by_cases ck:S.length=k
     ·exact here S hS ck
     ·exact ih S hS (by omega)
    ·rename_i F e2
     rw[e2]at ih
     obtain⟨i1,i2,i3,i4⟩:=ih
     refine⟨i1,by omega,i3,λS hS hk hc=>?_⟩
     by_cases ck:S.length=k
     ·exact here S hS ck
     ·exact i4 S hS (by omega) hc
end
end L3
namespace L3
open PySem L2 Mf
noncomputable def jD(T:List (List Nat))(j k:Nat):Nat:=cf (T.getD k []) j
theorem R4{m:Bool × Nat}(hm:m∈aG){w:Nat}{T:List (List Nat)}(hT:RT (ae m) w T)(j k:Nat):jD T j k<ae m:=by
 unfold jD
 by_cases hk:k<T.length
 ·exact gr hm (hT _ (fE hk [])).2 j
 ·have e:T.getD k []=[]:=by rw[aY,gJ (by omega)];rfl
  rw[e]
  have:=lo1 hm
  show 0<_
  omega
theorem Lv.start{m:Bool × Nat}(hm:m∈aG){T:List (List Nat)}(hw:0<av T)(hT:RT (ae m) (av T) T):Lv m (jD T) (av T) 0 [([],eG T)]:=by
 have r:=rg hm
 obtain⟨t1,t2,t3⟩:=RG (Nat.lt_trans Nat.zero_lt_one (lo1 hm)) hw hT
 refine⟨λs hs=>?_,λS _ h=>⟨_,fv.mpr rfl,(List.length_eq_zero_iff.mp h).symm⟩,Nt _ _⟩
 rw[fv.mp hs]
 refine⟨⟨zB t1,MU,λp hp=>absurd hp (iw),λj _=>by show av T-(eG T).length<=j;omega,⟨_,t3⟩,λa ha=>?_,λc _ _ t ht=>absurd ht (by show ¬ t<0;omega)⟩,rfl⟩
 have e:∀k,sm (gp m) (eG T).length (λi=>gm m (a i) (cf ((eG T).getD i []) k))=sm (gp m) (eG T).length λi=>gm m (a i) (jD T (av T-(eG T).length+i) k):=λk=>fc λi hi=>by
  rw[RF (by omega),cx7,show av T-(eG T).length+i=i by omega];rfl
 have z:∀c k,gv m (jD T) [] c k=0:=λ_ _=>rfl
 constructor
 ·intro h
  refine⟨λ_=>0,λ_=>by have:=lo1 hm;show 0<_;omega,λk=>?_⟩
  rw[z,yt (oK r λ_ _=>dw hm _ _),<- e k]
  exact h k
 ·rintro⟨c,_,h⟩ k
  have:=h k
  rw[z,yt (oK r λ_ _=>dw hm _ _),<- e k]at this
  exact this
noncomputable def ni(m:Bool × Nat)(T:List (List Nat)):Option (List Nat):=rm m (av T) (av T+1) [([],eG T)]
section
variable{m:Bool × Nat}{C:Nat->Nat->Nat}
end
noncomputable def vn(T:List (List Nat))(F:List Nat):List (List Nat):=T.map λr=>F.map λj=>r.getD j 0
theorem cy9{N w:Nat}{T:List (List Nat)}{F:List Nat}(h0:0<N)(hT:RT N w T):RT N F.length (vn T F)/\(vn T F).length=T.length:=by
 refine⟨λx hx=>?_,by unfold vn;rw[bq]⟩
 obtain⟨r,hr,rfl⟩:=bD.mp hx
 refine⟨by rw[bq],λy hy=>?_⟩
 obtain⟨j,_,rfl⟩:=bD.mp hy
 exact(hT r hr).2.getD h0 j
theorem cA3{T:List (List Nat)}{F:List Nat}{k t:Nat}(hk:k<T.length)(ht:t<F.length):cf ((vn T F).getD k []) t=jD T (F.getD t 0) k:=by
 unfold vn jD cf
 rw[vi _ hk [] [],vi _ ht 0 0]
theorem cA8(m:Bool × Nat){T:List (List Nat)}{F:List Nat}{k:Nat}(hk:k<T.length)(x:Nat->Nat):dt m F.length (cf ((vn T F).getD k [])) x=gv m (jD T) F x k:=by
 unfold dt gv
 exact fc λt ht=>by rw[cA3 hk ht,jy]
theorem cd0{o:Bool}{G:List (List Nat)}{i:Nat}{d:D}(hd:(ay o G)[i]?=some d):∃hi:i<G.length,d=.lst o (aj G[i]):=by
 unfold ay at hd
 rw[bZ]at hd
 by_cases hi:i<G.length
 ·rw[aS hi]at hd
  exact⟨hi,(cO hd).symm⟩
 ·rw[gJ (by omega)]at hd;cases hd
end L3
namespace L3
open PySem L2 PySem.Spec PyProof.Rows
section
variable{B:Bs}{F H:Hp}{σ:L2.St}{δ:Dl}{ts:List (D × V)}
end
section
variable{X:Cx}{a:Expr}{ta:aO}{pos p2:Pos}{tk:Nat}
end
end L3
namespace L3
open PySem L2 PySem.Spec PyProof.Rows
section
variable{X:Cx}{a b:Expr}{ta tb:aO}{elts:List Expr}{x1:Nat}{pY p pos:Pos}
end
end L3
namespace L3
open PySem L2 Mf
section
variable{m:Bool × Nat}
theorem cl6(hm:m∈aG){T:List (List Nat)}(hw:0<av T)(hT:RT (ae m) (av T) T)(h:ni m T=none):∀S,jg (av T) S->vk m (jD T) S:=by
 have:=R3 hm (R4 hm hT) (av T+1) 0 _ (Lv.start hm hw hT) (by omega)
 unfold ni at h
 rw[h]at this
 exact λS hS=>this S hS (kP _)
theorem bT6{n W:Nat}(h:n<=W):jg W (aL n):=⟨Wz,λx hx=>by have:=cV.mp hx;omega⟩
theorem bS7(hm:m∈aG){W:Nat}{T:List (List Nat)}(hT:RT (ae m) W T){F:List Nat}(hF:T.length<F.length):¬ vk m (jD T) F:=λI=>by
 have eQ:=lo1 hm
 obtain⟨p1,p2⟩:=cy9 (F:=F) (by omega) hT
 obtain⟨x,f,hf,hx,x1,hz⟩:=RH hm p1 (by omega)
 have:=I x hx (λk=>by
  by_cases hk:k<T.length
  ·rw[<-cA8 m hk];exact hz k (by omega)
  ·refine j4 (rg hm) λt _=>?_
   have e:jD T (F.getD t 0) k=0:=by
    unfold jD
    rw[show T.getD k []=[] by rw[aY,gJ (by omega)];rfl];rfl
   rw[e,lX m _ (dH m hm)]) f hf
 omega
end
end L3
namespace L2
open PySem PySem.Spec PyProof.Rows
section
variable{X:Cx}
end
end L2
namespace L3
open PySem L2 PySem.Spec PyProof.Rows
section
variable{X:Cx}{o e:Expr}{t tb:aO}{apos b9:Pos}
end
section
variable{X:Cx}{i:Nat}{x:Str}{p pos apos b9 cU8 yD:Pos}{a b:List Stmt}{t u:cM}{k:Int}{j}
end
end L3
namespace L3
open PySem L2 Mf
section
variable{N:Nat}{p q:Nat->Nat->Nat}
variable{ng:Nat->Nat}{c:Nat}
end
section
variable{m:Bool × Nat}
end
end L3
namespace L2
open PySem PySem.Spec PyProof.Rows
section
variable{prog:Program}{w:World}{A:Around}{E:Value->Shared->Prop}{s:Shared}
end
section
variable{X:Cx}{e:Expr}{ta:TA}{p p2 pos yD:Pos}
end
end L2
namespace L3
open PySem L2 PySem.Spec PyProof.Rows
section
variable{X:Cx}{e:Expr}{tr:cC}{p p2 pos yD:Pos}
end
end L3
namespace L3
open PySem L2 Mf
section
variable{m:Bool × Nat}
section
variable{b e L o:Nat}{y:List (Option Nat)}{w c:List Nat}{bb:Nat->Nat}
end
end
noncomputable def vo:Option Nat->D
 | none=>.au
 | some a=>.int (a:Int)
noncomputable def jE(y:List (Option Nat)):List D:=y.map vo
theorem R5(a:Option Nat):(vo a).sh=vo a:=by cases a<;>rfl
theorem cm5:∀a b:Option Nat,vo a=vo b->a=b
 | none,none,_=>rfl
 | some a,some b,h=>by
  have:(D.int (a:Int))=D.int (b:Int):=h
  injection this with h
  rw[show a=b by omega]
 | none,some _,h=>by cases h
 | some _,none,h=>by cases h
theorem R6(y:List (Option Nat)):(jE y).map D.sh=jE y:=by
 unfold jE;rw[bR];exact pB λa _=>R5 a
theorem b83(y:List (Option Nat)):(jE y).length=y.length:=bq ..
end L3
namespace L3
open PySem L2 Mf
section
variable{m:Bool × Nat}
end
end L3
namespace L3
open PySem L2 Mf
section
variable{m:Bool × Nat}
end
end L3
namespace L3
open PySem L2 Mf
section
variable{m:Bool × Nat}
end
end L3
namespace L3
open PySem L2 Mf
section
variable{m:Bool × Nat}
end
end L3
namespace L3
open PySem L2 PySem.Spec PyProof.Rows
section
variable{X:Cx}{e:Expr}{t:aO}
noncomputable def vp(t:aO):aO:=λδ Q=>t δ λd ah=>Q d.sh ah
theorem R7(h:PE X e (lE t)):PE X e (lB (vp t)):=dn h λσ H Q ⟨B,F,δ,ts,Qd,c,q,k⟩=>⟨B,F,δ,ts,_,c,q,λd ah v F' H' hd sf sh c'=>by
 obtain⟨F2,f2,c2⟩:=c'.ER
 exact k d.sh ah v F2 H' hd (sf.trans f2) sh c2.pop c2.top⟩
end
end L3
namespace L3
open PySem L2 Mf
section
variable{m:Bool × Nat}
theorem Gx(hm:m∈aG){T:List (List Nat)}(hT:RT (ae m) (av T) T):RT (ae m) (av T) (oO m (dy m T) (av T))/\(oO m (dy m T) (av T)).length<=av T:=by
 obtain⟨⟨Hd,I⟩,iR,_,_⟩:=oN hm hT
 refine⟨λr hr=>?_,?_⟩
 ·obtain⟨f,hf,rfl⟩:=bD.mp hr
  obtain⟨k1,k2,_⟩:=Gq hm iR I hf
  exact⟨k1,k2⟩
 ·unfold oO fS
  rw[bq]
  exact fg (WB ..) (by rw[cB];exact bK _)
theorem cx4(hm:m∈aG){T:List (List Nat)}(hT:RT (ae m) (av T) T):∀r∈dy m T,∃x∈r,x≠0:=λr bo=>by
 obtain⟨⟨Hd,I⟩,iR,_,_⟩:=oN hm hT
 obtain⟨j,hj,rfl⟩:=ke bo
 have:=(I.Gm hm iR hj).2
 rw[cC6 hj]at this
 exact this
end
end L3
namespace L3
open PySem L2 Mf
section
variable{m:Bool × Nat}
end
end L3
namespace L2
open PySem PySem.Spec PyProof.Rows
section
variable{X:Cx}{CX:eO}{k:Nat}{f C:Addr}{fd:FuncData}{ps:List Str}{sp:Sp}{E:XK}{x m:Str}{p pos apos:Pos}{e:Expr}{es:List Expr}{t:TA}
noncomputable def tCM(sp:Sp)(E:XK)(t:TA):TE:=λσ H Q=>t σ H λvs H1=>sp vs H1 Q E
theorem Gz{pl:Sem Bool}(M:uW X.K C m f)(F:aM X.prog X.w X.K X.mg X.base CX k f fd ps sp)(hr:bW k X.A)(hb:Binds X.K fd ps [])(hx:jT CX X E)(hg:Gl X x)(hm:X.mg x=some (.ref C))(ha:PA X (e::es) t)
  (dW:(x==("__debug__":Str))=false:=by decide) (cZ:starEach (e::es) X.env=(false,eval e X.env)::starEach es X.env:=by rfl) (bN:(backTo pos (starEach es X.env)).any (·.1)=false:=by rfl)
  (ht:eval (.Call (.Attribute (.Name x p) m apos) (e::es) [] pos) X.env=(do
   let ov<-eval (.Name x p) X.env
   standAt apos.atName
   let (f,first)<-holding [ov] (getMethod ov m pl)
   callWith pos f first (backTo pos (starEach (e::es) X.env)) (backToKw pos (keywordEach [] X.env))):=by rfl) :
  PE X (.Call (.Attribute (.Name x p) m apos) (e::es) [] pos) (tCM sp E t):=by
 intro pins s σ H Q I h
 exact Qs (pl:=pl) I M hg hm ha h (λus s1 vs H1 I1 r q=>sQ (e7:=[]) F hr hb .nil hx I1 r (by rw[fV];exact q)) dW cZ bN ht
end
end L2
namespace L3
open PySem L2 PySem.Spec PyProof.Rows
noncomputable def rn:cE:=λx y Q=>match x,y with
 | .bl a,.bl b=>Q (.bl (a==b))
 | _,_=>False
theorem cE7{X:Cx}:bQ X (compareOp .Is) rn:=⟨_,Z1,λ{B F H σ δ ts x y v w Q Qd} c sx sy h k=>by
 unfold rn at h
 split at h
 ·cases sx;cases sy
  exact⟨_,_,rfl,rfl,k _ _ _ h (af.refl _) (c.pushS (.bl .nil) rfl)⟩
 ·exact h.elim⟩
end L3
namespace L3
open PySem L2 PySem.Spec PyProof.Rows
noncomputable def BM(tl:List Addr)(C:Addr)(jx:List D->List Str->List D->Prop):L2.Sp:=λvs H Q _=>∃F H0 x dx bS ds ns xs,vs=.ref x::bS/\Tb tl H/\af F H0/\H0 x=none/\af H0 H/\H x=some (.ins C dx [])/\R F H0 ds bS []/\jx ds ns xs /\
 ∀H' ws A,bI x H H'->H' x=some (.ins C dx (ns.zip ws))->ns.length=ws.length->R F H' xs ws A->A.Nodup->(∀a∈A,H a=none)->Q .au H'
noncomputable def vq(C:Addr)(jx:List D->List Str->List D->Prop)(ta:cC):aO:=λδ Q=>ta δ λds ah=>ds.all D.pl=true/\∃ns xs,jx ds ns xs/\Q (.obj C ns (xs.map D.sh)) ah
theorem aq.da3{B:Bs}{F H H':Hp}{σ:L2.St}{δ:Dl}{ts:List (D × V)}{C dx x:Addr}{ns:List Str}{xs:List D}{ws:List V}{A:List Addr}(c:aq B F H σ δ ts)(hs:af H H')(hx:H' x=some (.ins C dx (ns.zip ws)))(hl:ns.length=ws.length)
  (r1:R F H' xs ws A) (fr:∀a∈A,H a=none):af F (L3.bt F H' A)/\aq B (L3.bt F H' A) H' σ δ ((.obj C ns (xs.map D.sh),.ref x)::ts):=by
 have c1:=c.grow hs
 have r2:=r1.bt c1.ext A (λ_ h=>h)
 have fs:af F (L3.bt F H' A):=hJ c1.ext
 obtain⟨A',C',r',s',nd,uY⟩:=c.own
 have out:∀a,(∃ws,H a=some (.lst ws))/\F a=none->L3.bt F H' A a=none:=λa zz=>by
  obtain⟨⟨ws,h⟩,hf⟩:=zz
  rw[nV (λz=>by rw[fr a z]at h;cases h)];exact hf
 have g1:=r'.grow fs hs λa ha=>out a (r'.lists a ha)
 have g2:=s'.keep fs (fL.same hs) gB.nil (λa ha=>out a (s'.lists a ha)) (by simp)
 refine⟨fs,mP c1.ext,c1.b1,c1.b2.trans fs,λa ws h=>?_,A',C',?_,g2,nd,uY⟩
 ·by_cases z:a∈A
  ·exact .inr (c.b1.free (fr a z))
  ·rw[nV z]at h;exact c.b3 a ws h
 ·exact R.obj hx hl r2 g1
section
variable{X:Cx}{CX:eO}{n:Nat}{f C:Addr}{fd:FuncData}{ps:List Str}{jx:List D->List Str->List D->Prop}{E:XK}{x:Str}{p pos:Pos}{e:Expr}{es:List Expr}{t:cC}{tl:List Addr}
theorem BN(hT:Tb tl X.jO)(M:L2.Mk X.K C f)(F:aM X.prog X.w X.K X.mg X.base CX n f fd ps (BM tl C jx))(hr:bW (n+1) X.A)(hg:Gl X x)(hm:X.mg x=some (.ref C))(hb:Binds X.K fd ps [])(hx:jT CX X E)
  (ha:PA X (e::es) (lA t)) (dW:(x==("__debug__":Str))=false:=by decide) (he:starEach (e::es) X.env=(false,eval e X.env)::starEach es X.env:=by rfl) (bN:(backTo pos (starEach es X.env)).any (·.1)=false:=by rfl) :
  PE X (.Call (.Name x p) (e::es) [] pos) (lE (vq C jx t)):=by
 intro pins s σ H Q I zz
 obtain⟨B,F',δ,ts,Qd,c,q,k⟩:=zz
 have tb:=Fz I hT
 refine NY M F hr hg hm hb .nil hx ha dW he bN pins s σ H Q I ⟨B,F',δ,ts,_,c,q,λds ak vs F1 H1 q1 f1 h1 c1 s1=>?_⟩
 intro x dx cm dO lD
 obtain⟨hp,ns,xs,hI,hq⟩:=q1
 have sm:af H1 (upd (upd H1 dx (.own x)) x (.ins C dx [])):=.of λb o e=>by rw[bc (eK e cm),bc (eK e dO)];exact e
 refine⟨F1,H1,x,dx,vs,ds,ns,xs,by rw[fV],yh (yh tb h1) sm,c1.ext,cm,sm,bL,s1.r hp,hI,λH' ws A yj da hl r nd fr=>⟨rfl,?_⟩⟩
 have s2:af H1 H':=⟨λb o e n=>yj.get b o (eK e cm) (sm.get b o e n) n,λb ps e=>by
  obtain⟨m1,e1⟩:=sm.tb b ps e
  obtain⟨m2,e2⟩:=yj.tb b _ e1
  exact⟨m1++m2,by rw[e2,rP]⟩⟩
 obtain⟨fs,c2⟩:=c1.da3 s2 da hl r λa ha=>sm.free (fr a ha)
 exact k _ ak _ _ H' hq (f1.trans fs) (h1.trans s2) c2
end
section
variable{X:Cx}{e:Expr}{te:aO}{x:Str}{p pos:Pos}{i:Nat}
end
theorem bI.of0{x:Addr}{H0 H H':Hp}(h0:H0 x=none)(s:af H0 H)(sx:bI x H H'):af H0 H' :=
 ⟨λb o e n=>sx.get b o (λz=>by rw[z,h0]at e;cases e) (s.get b o e n) n,λb ps e=>by
  obtain⟨m1,e1⟩:=s.tb b ps e
  obtain⟨m2,e2⟩:=sx.tb b _ e1
  exact⟨m1++m2,by rw[e2,rP]⟩⟩
theorem vt{F H:Hp}{v:V}{A:List Addr}{xs:List D}(r:R F H [.lst true xs] [v] A):∃p,v=.ref p:=by
 cases r
 exact⟨_,rfl⟩
theorem R8{F H F' H':Hp}:∀{l:List Int} {ws:List V} {A:List Addr},R F H (aF l) ws A->R F' H' (aF l) ws A
 | [],_,_,r=>by cases r;exact .nil
 | i::l,_,_,r=>by
  cases r with
  | int r=>exact .int (R8 r)
theorem R9{F H H':Hp}:∀{G:List (List Nat)} {ws:List V} {A:List Addr},R F H (ay true G) ws A->(∀a∈A,H' a=H a)->R F H' (ay true G) ws A
 | [],_,_,r,_=>by cases r;exact .nil
 | g::G,_,_,r,h=>by
  cases r with
  | own e f x y=>exact .own (by rw[h _ jj];exact e) f (R8 (l:=g.map λ(n:Nat)=>(n:Int)) x) (R9 y λa ha=>h a (fU _ (cW _ ha)))
theorem Sa{F H H':Hp}{G:List (List Nat)}{v:V}{A:List Addr}(r:R F H [.lst true (ay true G)] [v] A)(h:∀a∈A,H' a=H a):R F H' [.lst true (ay true G)] [v] A:=by
 cases r with
 | own e f x y =>
  cases y
  exact .own (by rw[h _ jj];exact e) f (R9 x λa ha=>h a (fU _ (eR _ ha))) .nil
noncomputable abbrev nj:List Str:=["field","length","check_rows","word_rows","message_places","size"]
structure da4(K:PySem.W.Frag)(C:Addr):Prop where
 cls:cw K C
 field:bf K C "field"
 length:bf K C "length"
 da5:bf K C "check_rows"
 da6:bf K C "word_rows"
 Sb:bf K C "message_places"
 size:bf K C "size"
end L3
namespace L3
open PySem L2 Mf
section
variable{m:Bool × Nat}
noncomputable def j5(m:Bool × Nat)(n i:Nat):List Nat:=bj i 0++[1]++bj (n-2-i) 0++[bO m 0 1]
noncomputable def gS(m:Bool × Nat)(n:Nat):List (List Nat):=(aL (n-1)).map (j5 m n)
theorem cw2{n i:Nat}(hi:i<n-1)(j:Nat):cf (j5 m n i) j=if j=i then 1 else if j=n-1 then bO m 0 1 else 0:=by
 unfold j5 cf
 rw[aY]
 by_cases c1:j<i
 ·rw[if_neg (by omega),if_neg (by omega),dM,dM,pd (by rw[fW];exact c1),rW,if_pos c1];rfl
 ·by_cases c2:j=i
  ·rw[if_pos c2,dM,dM,mh (by rw[fW];omega),fW,c2,DI];rfl
  ·rw[if_neg c2]
   by_cases c3:j<n-1
   ·rw[if_neg (by omega),pd (by simp only[dm,fW,jJ];omega),mh (by simp only[dm,fW,jJ];omega),rW]
    split<;>rfl
   ·rw[mh (by simp only[dm,fW,jJ];omega)]
    simp only[dm,fW,jJ]
    by_cases c4:j=n-1
    ·rw[if_pos c4,show j-(i+1+(n-2-i))=0 by omega];rfl
    ·rw[if_neg c4,gJ (by rw[jJ];omega)];rfl
theorem Sd(hm:m∈aG){n:Nat}(h2:2<=n):RT (ae m) n (gS m n)/\(gS m n).length=n-1/\av (gS m n)=n:=by
 have eQ:=lo1 hm
 have g:=(lY hm (show 0<ae m by omega) (show 1<ae m by omega)).2.1
 have l:(gS m n).length=n-1:=by unfold gS;rw[bq,cB]
 have r:RT (ae m) n (gS m n):=λx hx=>by
  obtain⟨i,hi,rfl⟩:=bD.mp hx
  have hi:=cV.mp hi
  unfold j5
  refine⟨by simp only[dm,fW,jJ];omega,λa ha=>?_⟩
  simp only[cj,Dy,fv]at ha
  rcases ha with ((⟨_,rfl⟩ | rfl) | ⟨_,rfl⟩) | rfl
  ·omega
  ·omega
  ·omega
  ·exact g
 exact⟨r,l,rj r λz=>by rw[z]at l;exact absurd l (by show ¬ (0=n-1);omega)⟩
end
end L3
namespace L2
open PySem PySem.Spec PyProof.Rows
structure BO(K:PySem.W.Frag)(x qual:Str)(st:Stmt)(f:Addr)(fd:FuncData):Prop where
 ex:∃(oc:Value) (od:Option Addr) (dV kV doc pm:Value) (an:Option Addr) (aD ct:Value) (g5:Array (Option Value)),
  fd=PySem.W.fnOf x qual (iB st) (fw st) (aK st) dV kV doc pm an aD ct/\K.lookup f=some ⟨oc,od,.func fd,g5⟩/\PySem.W.codeIn K aD qual=true
 kp:PySem.W.keepIn K (.ref f)=true
section
variable{P:Program}{w:World}{K:PySem.W.Frag}{mg:Str->Option Value}{base:Heap}
theorem BO.ok{x qual:Str}{st:Stmt}{f:Addr}{fd:FuncData}{N ps:List Str}{k:Nat}{sp:Sp}(F:BO K x qual st f fd)(S:aZ N ps (aK st))(len:∀vs H Q E,sp vs H Q E->vs.length=ps.length)
  (gO:∀(aD:Value) (A:Around) (outer:List Env) (s:Shared) (H:Hp) (vs:List V) (Q:VK) (E:XK),bW k (A.deeper (envOfC qual (aK st) s.heap.objs.size f aD))->sp vs H Q E ->
   ∃t,PSs (iz aQ P w K mg base N qual (aK st) f aD A outer s H E).fY (fw st) t/\t { nx:=λ_ H'=>Q .au H',rt:=Q } (start N vs) H):aM P w K mg base aQ (k+1) f fd ps sp:=by
 obtain⟨oc,od,dV,kV,doc,pm,an,aD,ct,g5,rfl,lk,cK⟩:=F.ex
 refine Ao lk cK S len λA outer s H vs Q E hr g7=>?_
 obtain⟨t,h,q⟩:=gO aD A outer s H vs Q E hr g7
 exact⟨t,h.fY,q⟩
theorem cn8{x qual:Str}{st:Stmt}{f:Addr}{oc:Value}{od an:Option Addr}{g5:Array (Option Value)}{dV kV doc pm aD ct:Value}(l:K.lookup f=some ⟨oc,od,.func (PySem.W.fnOf x qual (iB st) (fw st) (aK st) dV kV doc pm an aD ct),g5⟩)
  (c:PySem.W.codeIn K aD qual=true) (k:PySem.W.keepIn K (.ref f)=true):BO K x qual st f (PySem.W.fnOf x qual (iB st) (fw st) (aK st) dV kV doc pm an aD ct):=⟨⟨oc,od,dV,kV,doc,pm,an,aD,ct,g5,rfl,l,c⟩,k⟩
theorem cy3{fd:FuncData}{ps:List Str}{T:Addr}{o:Obj}{items:Array Value}{n:Nat}(hd:fd.defaults=.ref T)(ho:K.lookup T=some o)(hs:o.data=.seq items n)
  (h:∀us:List Value,us.length=ps.length->∃k,bindArgs fd ⟨us,[]⟩=seqItems? fd.defaults >>= k/\k (some items)=pure (ps.zip us)):Binds K fd ps []:=λs us KX hl=>by
 rw[fV]at hl ⊢
 obtain⟨k,h1,h2⟩:=h us hl
 exact .of_defaults hd (KX _ _ ho) hs h1 h2
end
end L2
namespace L3
open PySem L2 Mf
inductive Kd
 | yE (b:Nat) | rep | GA (e f:Nat)
structure rq(pre:List (Str × V)):Prop where
 put:∀(n:Str) (v:V) (l:List (Str × V)),n∈nj->bz n v (pre++l)=pre++bz n v l
 look:∀(n:Str) (l:List (Str × V)),n∈nj->(pre++l).lookup n=l.lookup n
 len:pre.length<=2
theorem rq.nil:rq []:=⟨λ_ _ _ _=>rfl,λ_ _ _=>rfl,by decide⟩
theorem rq.two(e f:V):rq [("extra",e),("first",f)]:=by
 have h1:∀n∈nj,("extra":Str)≠n/\("first":Str)≠n:=by decide
 refine⟨λn v l hn=>?_,λn l hn=>?_,bK 2⟩
 ·obtain⟨a,b⟩:=h1 n hn
  show bz n v (("extra",e)::("first",f)::l)=_
  rw[bz,if_neg a,bz,if_neg b];rfl
 ·obtain⟨a,b⟩:=h1 n hn
  show kO n (("extra",e)::("first",f)::l)=_
  rw[fI,beq_false_of_ne a.symm,fI,beq_false_of_ne b.symm]
theorem rq.lt{pre l:List (Str × V)}(h:rq pre)(hl:l.length<=6):(pre++l).length<1000:=by
 have:=h.len
 rw[dm];omega
section
variable{m:Bool × Nat}{G:List (List Nat)}
noncomputable def oS(m:Bool × Nat)(G:List (List Nat)):List (List Nat):=oO m (dy m G) (av G)
noncomputable def ij(m:Bool × Nat)(G:List (List Nat)):List Nat:=fS (dy m G) (av G)
noncomputable def l7(cb cp:Addr)(o:Bool)(m:Bool × Nat)(G:List (List Nat)):List D:=[fD cb cp m,.int (av G:Nat),.lst o (ay o G),.lst o (ay o (oS m G)),.lst o (aj (ij m G)),.int ((ij m G).length:Nat)]
noncomputable def sX(cb cp cc cr cs:Addr)(m:Bool × Nat)(G:List (List Nat)):Kd->D
 | .yE b=>.obj cc ["field","length","check_rows","word_rows","message_places","size","bound"] (l7 cb cp false m G++[.int (b:Nat)])
 | .rep=>.obj cr nj (l7 cb cp false m G)
 | .GA e f=>.obj cs ["extra","first","field","length","check_rows","word_rows","message_places","size"] ([.int (e:Nat),.int (f:Nat)]++l7 cb cp false m G)
theorem BP(cb cp:Addr)(o:Bool)(m:Bool × Nat)(G:List (List Nat)):(l7 cb cp o m G).map D.sh=l7 cb cp false m G:=by
 unfold l7
 simp only[df,jH,q5,dF,dR,qP,<- bY,oq]
theorem cB4(cb cp cc cr cs:Addr)(m:Bool × Nat)(G:List (List Nat))(k:Kd):(sX cb cp cc cr cs m G k).sh=sX cb cp cc cr cs m G k:=by cases k<;>rfl
theorem cu2(cb cp cc cr cs:Addr)(m:Bool × Nat)(G:List (List Nat))(k:Kd):(sX cb cp cc cr cs m G k).pl=true:=by cases k<;>rfl
structure ik(m:Bool × Nat)(G:List (List Nat)):Prop where
 hm:m∈aG
 rt:RT (ae m) (av G) G
 len:G.length<=64
 BQ:av G<=64
 sz:0<(ij m G).length
theorem ik.red(h:ik m G):(∃H,RR (av G) (dy m G) H)/\RT (ae m) (av G) (dy m G):=⟨(oN h.hm h.rt).1,(oN h.hm h.rt).2.1⟩
theorem BR(m:Bool × Nat)(G:List (List Nat)):(oS m G).length=(ij m G).length:=by unfold oS ij oO;rw[bq]
theorem ik.rows(h:ik m G):RT (ae m) (av G) (oS m G):=(Gx h.hm h.rt).1
theorem ik.BI(h:ik m G):(ij m G).length<=av G:=by rw[<-BR];exact(Gx h.hm h.rt).2
theorem ik.wide(h:ik m G):av (oS m G)=av G:=rj h.rows λz=>by
 have:=h.sz
 rw[<-BR,z]at this
 exact absurd this (by decide)
noncomputable def nk(m:Bool × Nat)(G:List (List Nat))(l:List Nat):List Nat:=vj m l (oS m G) (av G)
theorem ck2(m:Bool × Nat)(G:List (List Nat))(l:List Nat):(nk m G l).length=av G:=cp3 ..
theorem ik.wlt(h:ik m G){l:List Nat}(hl:l.length=(ij m G).length):AllLt (ae m) (nk m G l):=cv6 h.hm _ (by rw[BR];exact hl)
end
end L3
namespace L3
open PySem L2 PySem.Spec PyProof.Rows
section
variable{X:Cx}{scope:Scope}{tg iter elt:Expr}{ifs:List Expr}{pos:Pos}{cl:List (Str × Addr)}{ti:iY}{g:hW}{tt:fB}{te:aO}
theorem b88{i:Nat}{x:Str}{pos' apos:Pos}(hN:X.N.Nodup)(lR:X.N[i]?=some x)(hx:L2.Loc X.env.scope x)(aC:List (Str × Nat))(bH:List Str)(hc:X.calm=true)(hi:PI X tg iter (lI ti))
  (hg:∀C s H fp,PG (dz X scope (aC.map (·.1)++bH) cl C s H fp) tg (lG aC.length g))
  (ht:∀C s H fp,lu (dz X scope (aC.map (·.1)++bH) cl C s H fp) ifs (lT tt)) (he:∀C s H fp,PE (dz X scope (aC.map (·.1)++bH) cl C s H fp) elt (lE te))
  (kH:closureFor scope X.env=pure cl) (kI:ly X cl) (kJ:∀C:Addr,lC (cellsFrom (C+1) scope.names cl) (relabel scope X.env).names) (kK:∀C:Addr,lj X scope (cellsFrom (C+1) scope.names cl) aC)
  (g8:scope.kind=.function) (kL:∀y∈scope.names,y.2=.local->scope.names.lookup y.1=some .local)
  (qI:swapsWith (.ListComp elt [⟨tg,iter,ifs,0⟩] scope pos) (some (.Name x pos')) apos.line X.env=pure true:=by rfl) (hf:X.fn x=true\/X.env.scope.names.lookup x=some .local:=by first | exact .inl rfl | exact .inr rfl)
  (hs:∀x,foldedSetIterable iter X.env x=pure x:=by intro _;rfl):PS X (.Assign [.Name x pos'] (.ListComp elt [⟨tg,iter,ifs,0⟩] scope pos) apos) (λEn σ H=>lE (n8 ti aC bH.length g tt te) σ H λv H'=>En.nx (σ.set i (some v)) H') :=
 jW (Rt hN lR hx hf aC bH hc hi hg ht he kH kI kJ kK g8 kL qI hs) λEn σ H ⟨B,F,δ,ts,Qd,c,q,k⟩=>⟨B,F,δ,ts,_,c,q,λsh xs ak J F1 H1 hq f1 h1 c1 mU qu=>by
  obtain⟨p,f,hx,eB,hlen,hQ⟩:=hq
  exact EX c1 mU qu p f hx eB hlen hQ λd ah v F' H' hd hf hs c'=>k d ah v F' H' hd (f1.trans hf) (h1.trans hs) c'⟩
end
theorem aq.self{F H:Hp}{σ:L2.St}{δ:Dl}{o:Option V}(e:af F H)(r:RS F H δ σ []):aq ⟨H,F⟩ F H (o::σ) (none::δ) []:=⟨e,af.refl _,af.refl _,λ_ _ q=>.inl q,[],[],.nil,.au r,by simp,by simp⟩
end L3
namespace L2
open PySem
theorem br{N P:List Str}{sc:Scope}(a:sc.kind=.function:=by rfl)(b:sc.isCoroutine=false:=by rfl)(c:sc.isGenerator=false:=by rfl)(d:N.Nodup:=by decide +kernel)(e:N.take P.length=P:=by rfl)(f:∀x∈P,sc.names.lookup x=some .local\/sc.names.lookup x=some .cell:=by decide +kernel)(g:∀y∈sc.names,y.2≠.free:=by decide +kernel):aZ N P sc:=⟨a,b,c,d,e,f,g⟩
end L2
namespace L2
open PySem
end L2
namespace L3
open PySem L2 Mf
section
variable{m:Bool × Nat}
variable{G:List (List Nat)}
end
end L3
namespace HK36
open PySem.W (Frag codeHdIn kitOne nsIn findIn isFn specialIn plainGet hasDictIn plainOver makesIn keepIn mroIn typeIn subIn fnOf codeIn clsIn mg_of mg_none_of CodeHd)
open PySem L2 L3 Mf
seal L2.PSs L2.PS L2.PE L2.PT L2.PA L2.PI L2.PG L2.PO L2.PW
local macro_rules | `(tactic| walk_at "l3") => do
  let l ← (("tI qt tJ tK tL dT mQ nX nY dC qi qp qm ql qo tH om uw qH uA uB tu tw tD tE tF tG qk uu qC qD ii qv tX qw tY tZ t7 ua ub ud iI ia ue uf ug uh qy oi uo uq gN uE uv tM tQ tR tS tT tU uF uG n8 lK gj ju iZ pk rY v3 zQ qq ku jX qE qF m3 uJ uK uL xX uP qO uM jv x6 xY xZ df jH sC sg jl zR bj pG pH jL jM v7 exists_eq_left' exists_eq_left D.bl.injEq D.int.injEq D.lst.injEq D.fz.injEq D.str.injEq D.tup.injEq zS and_true true_and dh sA mx mq xo xp xq xt xu xv fK kr oq xC xD xE xF xG dF lF xw xx xy xB gg qf zT zU rR kT zV zW vR xM xN xO xP xQ xR xS kE mZ qJ j3 qK xI uI xH qL xJ xK kF uH if_true sk if_false reduceIte xT decide_eq_true_eq dX m4 ou ya lU x9 tN uV qZ u5 uO qS qT qU uX vb q8 rk dR oM kG yw q9 vp vq rn sL q5 FU cn1 cp0 u9 yu".splitOn " ").toArray.map fun (s : String) => Lean.mkIdent s.toName).mapM fun i => `(Lean.Parser.Tactic.simpLemma| $i:term)
  `(tactic| (try dsimp only [$l,*]) <;> (try simp only [$l,*]))
noncomputable def top (i:Nat):Stmt:=PySem.Challenge.pw_mendfield_k36_words_checked.main.body.getD i (.Pass ⟨0,0,0,0⟩)
noncomputable abbrev at2:Stmt:=top 89
theorem GB:aZ ["_law_cell_here","_law_some","_law_primes"] ["_law_cell_here"] (aK at2):=br
noncomputable abbrev GC:Stmt:=top 90
theorem aO0:aZ ["_law_told_here"] ["_law_told_here"] (aK GC):=br
noncomputable abbrev GD:Stmt:=top 56
theorem BS:aZ ["a","product","found","power"] ["a","product"] (aK GD):=br
noncomputable abbrev GF:Stmt:=top 57
theorem yF:aZ ["many","product","step","found"] ["many","product"] (aK GF):=br
noncomputable abbrev GG:Stmt:=top 58
theorem GH:aZ ["powers","logs","n","a"] ["powers"] (aK GG):=br
noncomputable abbrev GI:Stmt:=eA (top 62) 8
theorem ay0:aZ ["self","n"] ["self","n"] (aK GI):=br
noncomputable abbrev GJ:Stmt:=eA (top 62) 0
theorem aL5:aZ ["self","many","product"] ["self","many","product"] (aK GJ):=br
noncomputable abbrev GK:Stmt:=top 61
theorem av7:aZ ["prime"] ["prime"] (aK GK):=br
noncomputable abbrev nq:Stmt:=eA (top 64) 0
theorem az3:aZ ["self","prime"] ["self","prime"] (aK nq):=br
noncomputable abbrev GL:Stmt:=top 59
theorem BU:aZ ["powers","logs","many","rows","a"] ["powers","logs"] (aK GL):=br
noncomputable abbrev GN:Stmt:=top 53
theorem vv:aZ ["a","b","quotient","rest","shift"] ["a","b"] (aK GN):=br
noncomputable abbrev GO:Stmt:=top 54
theorem GP:aZ ["a","half","b"] ["a"] (aK GO):=br
noncomputable abbrev GQ:Stmt:=top 60
theorem az4:aZ ["bits"] ["bits"] (aK GQ):=br
noncomputable abbrev GR:Stmt:=top 52
theorem BV:aZ ["a","b","product","k"] ["a","b"] (aK GR):=br
noncomputable abbrev nt:Stmt:=eA (top 63) 0
theorem Se:aZ ["self","bits","many"] ["self","bits"] (aK nt):=br
noncomputable abbrev GS:Stmt:=top 93
theorem aL6:aZ ["_law_told_here"] ["_law_told_here"] (aK GS):=br
noncomputable abbrev GU:Stmt:=top 87
theorem aO1:aZ ["_law_script","_law_k"] ["_law_script","_law_k"] (aK GU):=br
noncomputable abbrev GV:Stmt:=top 95
theorem aL7:aZ ["_law_cell_here","_law_k"] ["_law_cell_here","_law_k"] (aK GV):=br
noncomputable abbrev GW:Stmt:=top 98
theorem yG:aZ ["_law_many_here","_law_length","_law_extra","_law_cell_here","_law_sparse","_law_table","_law_i","_law_row"] ["_law_many_here","_law_length","_law_extra","_law_cell_here","_law_sparse"] (aK GW):=br
noncomputable abbrev GX:Stmt:=top 15
theorem aR4:aZ ["table"] ["table"] (aK GX):=br
noncomputable abbrev GY:Stmt:=top 20
theorem Sf:aZ ["rows","place","number","row"] ["rows","place"] (aK GY):=br
noncomputable abbrev GZ:Stmt:=eA (top 63) 6
theorem Sg:aZ ["self","a","row","by_a"] ["self","a","row"] (aK GZ):=br
noncomputable abbrev G0:Stmt:=eA (top 64) 6
theorem Sh:aZ ["self","a","row","prime"] ["self","a","row"] (aK G0):=br
noncomputable abbrev G1:Stmt:=eA (top 63) 7
theorem Si:aZ ["self","row","a","other","by_a"] ["self","row","a","other"] (aK G1):=br
noncomputable abbrev G2:Stmt:=eA (top 64) 7
theorem Sj:aZ ["self","row","a","other","prime"] ["self","row","a","other"] (aK G2):=br
noncomputable abbrev G3:Stmt:=top 21
theorem aS9:aZ ["field","rows","lead_row","place"] ["field","rows","lead_row","place"] (aK G3):=br
noncomputable abbrev G4:Stmt:=eA (top 62) 5
theorem aL8:aZ ["self","a","b"] ["self","a","b"] (aK G4):=br
noncomputable abbrev G5:Stmt:=top 22
theorem oU:aZ ["field","table","done","left","place","number","lead_row"] ["field","table"] (aK G5):=br
noncomputable abbrev G6:Stmt:=top 28
theorem aT4:aZ ["table"] ["table"] (aK G6):=br
noncomputable abbrev G7:Stmt:=top 23
theorem b76:aZ ["rows"] ["rows"] (aK G7):=br
noncomputable abbrev G8:Stmt:=top 25
theorem Sk:aZ ["rows","width","taken"] ["rows","width"] (aK G8):=br
noncomputable abbrev G9:Stmt:=eA (top 63) 2
theorem aD2:aZ ["self","a","b"] ["self","a","b"] (aK G9):=br
noncomputable abbrev Ha:Stmt:=eA (top 64) 2
theorem ay1:aZ ["self","a","b"] ["self","a","b"] (aK Ha):=br
noncomputable abbrev Hb:Stmt:=top 26
theorem vw:aZ ["field","rows","width","taken","found","free","x","lead","row"] ["field","rows","width"] (aK Hb):=br
noncomputable abbrev Hc:Stmt:=eA (top 32) 0
theorem Sl:aZ ["self","field","checks","rows"] ["self","field","checks"] (aK Hc):=br
noncomputable abbrev He:Stmt:=eA (top 62) 1
theorem aK3:aZ ["self","x"] ["self","x"] (aK He):=br
noncomputable abbrev Hf:Stmt:=top 49
theorem Sm:aZ ["field","table","width"] ["field","table"] (aK Hf):=br
noncomputable abbrev Hg:Stmt:=top 24
theorem cm9:aZ ["field","table"] ["field","table"] (aK Hg):=br
noncomputable abbrev Hh:Stmt:=top 16
theorem aT5:aZ ["table"] ["table"] (aK Hh):=br
noncomputable abbrev Hi:Stmt:=top 36
theorem aO2:aZ ["column"] ["column"] (aK Hi):=br
noncomputable abbrev Hj:Stmt:=eA (top 63) 3
theorem aD3:aZ ["self","a","b"] ["self","a","b"] (aK Hj):=br
noncomputable abbrev Hk:Stmt:=eA (top 64) 3
theorem ay2:aZ ["self","a","b"] ["self","a","b"] (aK Hk):=br
noncomputable abbrev Hl:Stmt:=top 37
theorem vx:aZ ["field","column","others","place","inverse","found","other","left"] ["field","column","others"] (aK Hl):=br
noncomputable abbrev Hm:Stmt:=top 38
theorem oV:aZ ["field","table","width","sets","larger","places","behind","number","column","bigger"] ["field","table"] (aK Hm):=br
noncomputable abbrev Ho:Stmt:=eA (top 50) 0
theorem aD4:aZ ["self","field","table"] ["self","field","table"] (aK Ho):=br
noncomputable abbrev Hq:Stmt:=top 92
theorem vy:aZ ["_law_told_here","_law_a","_law_b","_law_total"] ["_law_told_here","_law_a","_law_b"] (aK Hq):=br
noncomputable abbrev Hr:Stmt:=top 94
theorem Hs:aZ ["_law_told_here","_law_a","_law_powers_here"] ["_law_told_here"] (aK Hr):=br
noncomputable abbrev Ht:Stmt:=top 97
theorem BW:aZ ["_law_told_here","_law_length","_law_extra","_law_first","_law_powers_here","_law_table","_law_i"] ["_law_told_here","_law_length","_law_extra","_law_first"] (aK Ht):=br
noncomputable abbrev Hu:Stmt:=top 84
theorem az6:aZ ["many","length","extra","first"] ["many","length","extra","first"] (aK Hu):=br
noncomputable abbrev nu:Stmt:=eA (top 85) 0
theorem Sn:aZ ["self","field","length","extra","first","checks"] ["self","field","length","extra","first"] (aK nu):=br
noncomputable abbrev Hv:Stmt:=eA (top 50) 1
theorem au8:aZ ["self"] ["self"] (aK Hv):=br
noncomputable abbrev So:Stmt:=eA (top 34) 1
noncomputable abbrev Sq:Stmt:=eA (top 85) 2
noncomputable abbrev Hw:Stmt:=top 33
theorem Sr:aZ ["field","length","less_one"] ["field","length"] (aK Hw):=br
noncomputable abbrev Hx:Stmt:=eA (top 34) 0
theorem az7:aZ ["self","field","length"] ["self","field","length"] (aK Hx):=br
noncomputable abbrev Hy:Stmt:=top 96
theorem BX:aZ ["_law_told_here","_law_length","_law_table","_law_i","_law_row"] ["_law_told_here","_law_length"] (aK Hy):=br
noncomputable abbrev Hz:Stmt:=top 99
theorem jh:aZ ["_law_script","_law_told_here","_law_many_here","_law_field_here","_law_kind","_law_length","_law_extra","_law_table","_law_code_here","_law_first"] ["_law_script","_law_told_here"] (aK Hz):=br
noncomputable abbrev HA:Stmt:=top 101
theorem aI2:aZ ["_law_script","_law_at","_law_size","_law_many_here"] ["_law_script","_law_at","_law_size","_law_many_here"] (aK HA):=br
noncomputable abbrev HB:Stmt:=top 91
theorem aO3:aZ ["_law_told_here","_law_a","_law_b"] ["_law_told_here","_law_a","_law_b"] (aK HB):=br
noncomputable abbrev HC:Stmt:=top 100
theorem vz:aZ ["_law_told_here","_law_table","_law_word","_law_sums_here","_law_row","_law_total","_law_x","_law_y"] ["_law_told_here","_law_table","_law_word"] (aK HC):=br
noncomputable abbrev HD:Stmt:=top 29
theorem aF9:aZ ["signs","length"] ["signs","length"] (aK HD):=br
noncomputable abbrev HE:Stmt:=top 30
theorem Ss:aZ ["field","signs","place","sign"] ["field","signs"] (aK HE):=br
noncomputable abbrev HF:Stmt:=eA (top 63) 5
theorem yH:aZ ["self","xs","ys","products","total","x","y"] ["self","xs","ys"] (aK HF):=br
noncomputable abbrev HG:Stmt:=eA (top 64) 5
theorem aD5:aZ ["self","xs","ys"] ["self","xs","ys"] (aK HG):=br
noncomputable abbrev HH:Stmt:=top 19
theorem aO4:aZ ["field","table","column"] ["field","table","column"] (aK HH):=br
noncomputable abbrev HI:Stmt:=eA (top 32) 6
theorem aI3:aZ ["self","word"] ["self","word"] (aK HI):=br
noncomputable abbrev HJ:Stmt:=eA (top 32) 7
theorem aI4:aZ ["self","word"] ["self","word"] (aK HJ):=br
noncomputable abbrev HK:Stmt:=top 18
theorem aT6:aZ ["field","row","table"] ["field","row","table"] (aK HK):=br
noncomputable abbrev HL:Stmt:=eA (top 32) 5
theorem aI5:aZ ["self","message"] ["self","message"] (aK HL):=br
noncomputable abbrev HM:Stmt:=top 88
theorem aL9:aZ ["_law_x"] ["_law_x"] (aK HM):=br
noncomputable abbrev nv:Stmt:=top 102
theorem jF:aZ ["_law_script","_law_told_here","_law_many_here","_law_made","_law_code_here","_law_kind","_law_word","_law_at","_law_handed","_law_due","_law_found","_law_told_word"] ["_law_script"] (aK nv):=br
set_option genInjectivity false in
set_option genSizeOf false in
structure eV where
 HN:Addr
 HP:FuncData
 HQ:Addr
 HR:FuncData
 HS:Addr
 HU:FuncData
 HV:Addr
 HW:FuncData
 HX:Addr
 HY:FuncData
 yI:Addr
 HZ:FuncData
 Ia:Addr
 Ib:FuncData
 Ic:Addr
 Ie:FuncData
 Ig:Addr
 BY:FuncData
 Ih:Addr
 Ii:FuncData
 Ij:Addr
 Ik:FuncData
 Il:Addr
 Im:FuncData
 Io:Addr
 Ip:FuncData
 Iq:Addr
 Ir:FuncData
 Iu:Addr
 BZ:FuncData
 Iw:Addr
 Iy:FuncData
 Iz:Addr
 IA:FuncData
 IB:Addr
 IC:FuncData
 ID:Addr
 IE:FuncData
 IF:Addr
 IG:FuncData
 IH:Addr
 II:FuncData
 IJ:Addr
 IK:FuncData
 IL:Addr
 IM:FuncData
 IQ:Addr
 IS:FuncData
 IT:Addr
 IU:FuncData
 IV:Addr
 IW:FuncData
 B0:Addr
 IY:FuncData
 IZ:Addr
 I0:FuncData
 Ja:Addr
 Jb:FuncData
 Jc:Addr
 Jd:FuncData
 Je:Addr
 Jf:FuncData
 Jg:Addr
 Jh:FuncData
 Ji:Addr
 Jj:FuncData
 Jk:Addr
 Jl:FuncData
 Jm:Addr
 Jn:FuncData
 B4:Addr
 Jo:FuncData
 Jp:Addr
 Jq:FuncData
 Jr:Addr
 Js:FuncData
 Jt:Addr
 Ju:FuncData
 Jv:Addr
 Jw:FuncData
 Jx:Addr
 Jy:FuncData
 Jz:Addr
 JA:FuncData
 JB:Addr
 JC:FuncData
 JE:Addr
 JF:FuncData
 JG:Addr
 JH:FuncData
 JI:Addr
 JJ:FuncData
 JK:Addr
 JL:FuncData
 JM:Addr
 JN:FuncData
 JO:Addr
 JP:FuncData
 JQ:Addr
 JR:FuncData
 JS:Addr
 JT:FuncData
 Su:Addr
 Sv:FuncData
 Sw:Addr
 Sx:FuncData
 JU:Addr
 JV:FuncData
 JW:Addr
 JX:FuncData
 JY:Addr
 JZ:FuncData
 J0:Addr
 J1:FuncData
 J2:Addr
 J3:FuncData
 J4:Addr
 J5:FuncData
 J6:Addr
 J7:FuncData
 J8:Addr
 J9:FuncData
 Ka:Addr
 Kb:FuncData
 Ke:Addr
 Kf:FuncData
 Kg:Addr
 Kh:FuncData
 Ki:Addr
 Kj:FuncData
 yJ:Addr
 Kk:FuncData
 yK:Addr
 Kl:FuncData
 Km:Addr
 Kn:FuncData
 yL:Addr
 Ko:FuncData
 Kp:Addr
 Kq:FuncData
 Kr:Addr
 Ks:FuncData
 Sy:Addr
 iJ:Addr
 Sz:Addr
 iK:Addr
 aH:Addr
 iq:Addr
 bJ:Addr
 cz:Addr
 j6:Addr
 aN:Addr
 bU:Addr
 bx:Addr
structure Txt(K:Frag)(mg:Str->Option Value)(t:eV):Prop where
 SA:ax K "_law_told" "_law_told" at2 t.HN t.HP
 aR5:mg "_law_told"=some (.ref t.HN)
 aR6:Binds K t.HP ["_law_cell_here"] []
 yM:ax K "_law_many" "_law_many" GC t.HQ t.HR
 B5:mg "_law_many"=some (.ref t.HQ)
 B6:Binds K t.HR ["_law_told_here"] []
 Kt:ax K "powers_of" "powers_of" GD t.HS t.HU
 SD:mg "powers_of"=some (.ref t.HS)
 SE:Binds K t.HU ["a","product"] []
 SF:ax K "step_powers" "step_powers" GF t.HV t.HW
 df4:mg "step_powers"=some (.ref t.HV)
 df5:Binds K t.HW ["many","product"] []
 SG:ax K "logs_of" "logs_of" GG t.HX t.HY
 df6:mg "logs_of"=some (.ref t.HX)
 df7:Binds K t.HY ["powers"] []
 az8:ax K "step_power" "Field.step_power" GI t.yI t.HZ
 yN:Binds K t.HZ ["self","n"] []
 aO5:ax K "__init__" "Field.__init__" GJ t.Ia t.Ib
 SH:Binds K t.Ib ["self","many","product"] []
 SI:ax K "makes_prime_field" "makes_prime_field" GK t.Ic t.Ie
 dg0:mg "makes_prime_field"=some (.ref t.Ic)
 dg1:Binds K t.Ie ["prime"] []
 aD6:ax K "__init__" "PrimeField.__init__" nq t.Ig t.BY
 aD7:Binds K t.BY ["self","prime"] []
 SJ:ax K "product_rows" "product_rows" GL t.Ih t.Ii
 dg4:mg "product_rows"=some (.ref t.Ih)
 dg5:Binds K t.Ii ["powers","logs"] []
 Ku:ax K "bits_divided" "bits_divided" GN t.Ij t.Ik
 SK:mg "bits_divided"=some (.ref t.Ij)
 SM:Binds K t.Ik ["a","b"] []
 SN:ax K "stands_alone" "stands_alone" GO t.Il t.Im
 dg6:mg "stands_alone"=some (.ref t.Il)
 dg7:Binds K t.Im ["a"] []
 SO:ax K "makes_bit_field" "makes_bit_field" GQ t.Io t.Ip
 dg8:mg "makes_bit_field"=some (.ref t.Io)
 dg9:Binds K t.Ip ["bits"] []
 SQ:ax K "bits_times" "bits_times" GR t.Iq t.Ir
 dh0:mg "bits_times"=some (.ref t.Iq)
 dh1:Binds K t.Ir ["a","b"] []
 aI6:ax K "__init__" "BitField.__init__" nt t.Iu t.BZ
 aI7:Binds K t.BZ ["self","bits"] []
 SR:ax K "_law_field" "_law_field" GS t.Iw t.Iy
 aO6:mg "_law_field"=some (.ref t.Iw)
 aO7:Binds K t.Iy ["_law_told_here"] []
 jG:ax K "_law_cell" "_law_cell" GU t.Iz t.IA
 j7:mg "_law_cell"=some (.ref t.Iz)
 j8:Binds K t.IA ["_law_script","_law_k"] []
 B7:ax K "_law_mixed" "_law_mixed" GV t.IB t.IC
 Kv:mg "_law_mixed"=some (.ref t.IB)
 Kw:Binds K t.IC ["_law_cell_here","_law_k"] []
 SS:ax K "_law_free_table" "_law_free_table" GW t.ID t.IE
 aD8:mg "_law_free_table"=some (.ref t.ID)
 aD9:Binds K t.IE ["_law_many_here","_law_length","_law_extra","_law_cell_here","_law_sparse"] []
 yO:ax K "width_of" "width_of" GX t.IF t.IG
 B8:mg "width_of"=some (.ref t.IF)
 B9:Binds K t.IG ["table"] []
 SU:ax K "first_with" "first_with" GY t.IH t.II
 dh8:mg "first_with"=some (.ref t.IH)
 dh9:Binds K t.II ["rows","place"] []
 aE0:ax K "scaled" "BitField.scaled" GZ t.IJ t.IK
 aE1:Binds K t.IK ["self","a","row"] []
 ay3:ax K "scaled" "PrimeField.scaled" G0 t.IL t.IM
 ay4:Binds K t.IM ["self","a","row"] []
 ay5:ax K "lessened" "BitField.lessened" G1 t.IQ t.IS
 ay6:Binds K t.IS ["self","row","a","other"] []
 au9:ax K "lessened" "PrimeField.lessened" G2 t.IT t.IU
 av0:Binds K t.IU ["self","row","a","other"] []
 Kx:ax K "cleared" "cleared" G3 t.IV t.IW
 SV:mg "cleared"=some (.ref t.IV)
 SW:Binds K t.IW ["field","rows","lead_row","place"] []
 aO8:ax K "over" "Field.over" G4 t.B0 t.IY
 SX:Binds K t.IY ["self","a","b"] []
 Ky:ax K "reduced" "reduced" G5 t.IZ t.I0
 SY:mg "reduced"=some (.ref t.IZ)
 S0:Binds K t.I0 ["field","table"] []
 S1:ax K "copied" "copied" G6 t.Ja t.Jb
 di9:mg "copied"=some (.ref t.Ja)
 dj0:Binds K t.Jb ["table"] []
 Kz:ax K "leads" "leads" G7 t.Jc t.Jd
 S2:mg "leads"=some (.ref t.Jc)
 S3:Binds K t.Jd ["rows"] []
 KA:ax K "free_places" "free_places" G8 t.Je t.Jf
 S4:mg "free_places"=some (.ref t.Je)
 S5:Binds K t.Jf ["rows","width"] []
 aG0:ax K "minus" "BitField.minus" G9 t.Jg t.Jh
 aG1:Binds K t.Jh ["self","a","b"] []
 aA2:ax K "minus" "PrimeField.minus" Ha t.Ji t.Jj
 aA3:Binds K t.Jj ["self","a","b"] []
 S6:ax K "kernel_of_reduced" "kernel_of_reduced" Hb t.Jk t.Jl
 dj5:mg "kernel_of_reduced"=some (.ref t.Jk)
 dj6:Binds K t.Jl ["field","rows","width"] []
 dj7:ax K "__init__" "Code.__init__" Hc t.Jm t.Jn
 KC:Binds K t.Jn ["self","field","checks"] []
 aM0:ax K "holds" "Field.holds" He t.B4 t.Jo
 S7:Binds K t.Jo ["self","x"] []
 S8:ax K "is_small_table" "is_small_table" Hf t.Jp t.Jq
 dj9:mg "is_small_table"=some (.ref t.Jp)
 dk0:Binds K t.Jq ["field","table"] []
 S9:ax K "rank" "rank" Hg t.Jr t.Js
 dk1:mg "rank"=some (.ref t.Jr)
 dk2:Binds K t.Js ["field","table"] []
 KD:ax K "turned" "turned" Hh t.Jt t.Ju
 Ta:mg "turned"=some (.ref t.Jt)
 Tc:Binds K t.Ju ["table"] []
 Td:ax K "is_nought" "is_nought" Hi t.Jv t.Jw
 dk3:mg "is_nought"=some (.ref t.Jv)
 dk4:Binds K t.Jw ["column"] []
 aG2:ax K "times" "BitField.times" Hj t.Jx t.Jy
 aG3:Binds K t.Jy ["self","a","b"] []
 aA4:ax K "times" "PrimeField.times" Hk t.Jz t.JA
 aA5:Binds K t.JA ["self","a","b"] []
 Te:ax K "past" "past" Hl t.JB t.JC
 dk9:mg "past"=some (.ref t.JB)
 dl0:Binds K t.JC ["field","column","others"] []
 Tf:ax K "first_bound" "first_bound" Hm t.JE t.JF
 dl1:mg "first_bound"=some (.ref t.JE)
 dl2:Binds K t.JF ["field","table"] []
 dl3:ax K "__init__" "CheckCode.__init__" Ho t.JG t.JH
 Tg:Binds K t.JH ["self","field","table"] []
 Ca:ax K "_law_times" "_law_times" Hq t.JI t.JJ
 KG:mg "_law_times"=some (.ref t.JI)
 KH:Binds K t.JJ ["_law_told_here","_law_a","_law_b"] []
 Th:ax K "_law_powers" "_law_powers" Hr t.JK t.JL
 aM1:mg "_law_powers"=some (.ref t.JK)
 aM2:Binds K t.JL ["_law_told_here"] []
 KI:ax K "_law_root_table" "_law_root_table" Ht t.JM t.JN
 Ti:mg "_law_root_table"=some (.ref t.JM)
 Tj:Binds K t.JN ["_law_told_here","_law_length","_law_extra","_law_first"] []
 Tn:ax K "makes_root_code" "makes_root_code" Hu t.JO t.JP
 dl6:mg "makes_root_code"=some (.ref t.JO)
 dl7:Binds K t.JP ["many","length","extra","first"] []
 dl8:BO K "__init__" "RootCode.__init__" nu t.JQ t.JR
 dl9:Binds K t.JR ["self","field","length","extra","first"] []
 dm0:ax K "distance" "CheckCode.distance" Hv t.JS t.JT
 dm1:Binds K t.JT ["self"] []
 d86:ax K "distance" "RepeatCode.distance" So t.Su t.Sv
 d87:Binds K t.Sv ["self"] []
 d88:ax K "distance" "RootCode.distance" Sq t.Sw t.Sx
 d89:Binds K t.Sx ["self"] []
 To:ax K "repeat_checks" "repeat_checks" Hw t.JU t.JV
 dm2:mg "repeat_checks"=some (.ref t.JU)
 dm3:Binds K t.JV ["field","length"] []
 dm4:ax K "__init__" "RepeatCode.__init__" Hx t.JW t.JX
 dm5:Binds K t.JX ["self","field","length"] []
 Tp:ax K "_law_repeat_table" "_law_repeat_table" Hy t.JY t.JZ
 ay7:mg "_law_repeat_table"=some (.ref t.JY)
 ay8:Binds K t.JZ ["_law_told_here","_law_length"] []
 Tq:ax K "_law_code" "_law_code" Hz t.J0 t.J1
 aR7:mg "_law_code"=some (.ref t.J0)
 aR8:Binds K t.J1 ["_law_script","_law_told_here"] []
 KJ:ax K "_law_message" "_law_message" HA t.J2 t.J3
 Tr:mg "_law_message"=some (.ref t.J2)
 Ts:Binds K t.J3 ["_law_script","_law_at","_law_size","_law_many_here"] []
 Tt:ax K "_law_plus" "_law_plus" HB t.J4 t.J5
 aR9:mg "_law_plus"=some (.ref t.J4)
 aS0:Binds K t.J5 ["_law_told_here","_law_a","_law_b"] []
 Tu:ax K "_law_sums" "_law_sums" HC t.J6 t.J7
 aS1:mg "_law_sums"=some (.ref t.J6)
 aS2:Binds K t.J7 ["_law_told_here","_law_table","_law_word"] []
 KL:ax K "refuse_length" "refuse_length" HD t.J8 t.J9
 Tv:mg "refuse_length"=some (.ref t.J8)
 Tw:Binds K t.J9 ["signs","length"] []
 KN:ax K "refuse_no_sign" "refuse_no_sign" HE t.Ka t.Kb
 Tx:mg "refuse_no_sign"=some (.ref t.Ka)
 Tz:Binds K t.Kb ["field","signs"] []
 aK4:ax K "dot" "BitField.dot" HF t.Ke t.Kf
 aK5:Binds K t.Kf ["self","xs","ys"] []
 aG4:ax K "dot" "PrimeField.dot" HG t.Kg t.Kh
 aG5:Binds K t.Kh ["self","xs","ys"] []
 KO:ax K "by_column" "by_column" HH t.Ki t.Kj
 TB:mg "by_column"=some (.ref t.Ki)
 TC:Binds K t.Kj ["field","table","column"] []
 dn8:ax K "checked" "Code.checked" HI t.yJ t.Kk
 TF:Binds K t.Kk ["self","word"] []
 dn9:ax K "is_word" "Code.is_word" HJ t.yK t.Kl
 Cb:Binds K t.Kl ["self","word"] []
 TH:ax K "row_by" "row_by" HK t.Km t.Kn
 do0:mg "row_by"=some (.ref t.Km)
 do1:Binds K t.Kn ["field","row","table"] []
 do2:ax K "written" "Code.written" HL t.yL t.Ko
 do3:Binds K t.Ko ["self","message"] []
 TJ:ax K "_law_whole" "_law_whole" HM t.Kp t.Kq
 aO9:mg "_law_whole"=some (.ref t.Kp)
 aP0:Binds K t.Kq ["_law_x"] []
 do6:ax K "law" "law" nv t.Kr t.Ks
 d90:mg "law"=some (.ref t.Kr)
 d91:Binds K t.Ks ["_law_script"] []
 aA7:t.BY.code=.ref t.Sy
 aA8:codeHdIn K t.Sy t.iJ=true
 aG6:t.BZ.code=.ref t.Sz
 aG7:codeHdIn K t.Sz t.iK=true
 eX:cw K t.aH
 KP:Mk K t.aH t.Iu
 aV0:q0 K t.aH
 aU5:kitOne K (.ref t.aH) (.ref t.cz)=some false
 KQ:bf K t.aH "bits"
 vA:bf K t.aH "logs"
 rz:bf K t.aH "many"
 vB:bf K t.aH "powers"
 rA:bf K t.aH "products"
 KR:bf K t.aH "step"
 KS:bf K t.aH "wide"
 aI8:Meth K t.aH "dot" t.Ke
 KU:Meth K t.aH "holds" t.B4
 av8:Meth K t.aH "lessened" t.IQ
 aE2:Meth K t.aH "minus" t.Jg
 KW:Meth K t.aH "over" t.B0
 aA9:Meth K t.aH "scaled" t.IJ
 yP:Meth K t.aH "step_power" t.yI
 aE3:Meth K t.aH "times" t.Jx
 rB:cw K t.bJ
 Cc:Mk K t.bJ t.JG
 dp6:q0 K t.bJ
 dp7:kitOne K (.ref t.bJ) (.ref t.cz)=some true
 Cd:bf K t.bJ "bound"
 Ce:bf K t.bJ "check_rows"
 Cf:bf K t.bJ "field"
 Cg:bf K t.bJ "length"
 KY:bf K t.bJ "message_places"
 Ci:bf K t.bJ "size"
 Cj:bf K t.bJ "word_rows"
 Ck:Meth K t.bJ "checked" t.yJ
 dp8:Meth K t.bJ "distance" t.JS
 vC:Meth K t.bJ "is_word" t.yK
 KZ:Meth K t.bJ "written" t.yL
 fo:cw K t.aN
 K0:Mk K t.aN t.Ig
 aU8:q0 K t.aN
 aT7:kitOne K (.ref t.aN) (.ref t.cz)=some false
 yQ:bf K t.aN "logs"
 rC:bf K t.aN "many"
 yR:bf K t.aN "powers"
 oW:bf K t.aN "prime"
 K1:bf K t.aN "step"
 K2:bf K t.aN "wide"
 aE4:Meth K t.aN "dot" t.Kg
 K3:Meth K t.aN "holds" t.B4
 au5:Meth K t.aN "lessened" t.IT
 ay9:Meth K t.aN "minus" t.Ji
 K4:Meth K t.aN "over" t.B0
 av9:Meth K t.aN "scaled" t.IL
 yS:Meth K t.aN "step_power" t.yI
 az0:Meth K t.aN "times" t.Jz
 Cm:cw K t.bU
 K5:Mk K t.bU t.JW
 dq4:q0 K t.bU
 dq5:kitOne K (.ref t.bU) (.ref t.cz)=some true
 Cn:bf K t.bU "check_rows"
 Co:bf K t.bU "field"
 Cp:bf K t.bU "length"
 K6:bf K t.bU "message_places"
 Cq:bf K t.bU "size"
 Cr:bf K t.bU "word_rows"
 Ct:Meth K t.bU "checked" t.yJ
 d96:Meth K t.bU "distance" t.Su
 vD:Meth K t.bU "is_word" t.yK
 K7:Meth K t.bU "written" t.yL
 vE:cw K t.bx
 K8:Mk K t.bx t.JQ
 dq6:q0 K t.bx
 dq7:kitOne K (.ref t.bx) (.ref t.cz)=some true
 Cu:bf K t.bx "check_rows"
 K9:bf K t.bx "extra"
 Cv:bf K t.bx "field"
 La:bf K t.bx "first"
 Cw:bf K t.bx "length"
 Lb:bf K t.bx "message_places"
 Cy:bf K t.bx "size"
 Cz:bf K t.bx "word_rows"
 CA:Meth K t.bx "checked" t.yJ
 d97:Meth K t.bx "distance" t.Sw
 vF:Meth K t.bx "is_word" t.yK
 Lc:Meth K t.bx "written" t.yL
 Ld:uW K t.cz "__init__" t.Jm
 TK:uW K t.j6 "__init__" t.Ia
 rD:mg "all"=none
 TL:mg "any"=none
 TM:mg "bool"=none
 rE:mg "enumerate"=none
 TN:mg "int"=none
 vG:mg "isinstance"=none
 gH:mg "len"=none
 yT:mg "list"=none
 yU:mg "min"=none
 gI:mg "range"=none
 dq8:mg "sum"=none
 vH:mg "zip"=none
 Le:mg "BitField"=some (.ref t.aH)
 Lf:mg "ByNought"=some (.ref t.iq)
 CB:mg "CheckCode"=some (.ref t.bJ)
 vI:mg "Code"=some (.ref t.cz)
 CC:mg "Field"=some (.ref t.j6)
 Lg:mg "PrimeField"=some (.ref t.aN)
 Lh:mg "RepeatCode"=some (.ref t.bU)
 Li:mg "RootCode"=some (.ref t.bx)
 TQ:Fl K mg "ByNought" t.iq
 aV1:EB K t.iq
section
variable{P:Program}{w:World}{K:Frag}{mg:Str->Option Value}{base:Heap}{t:eV}
theorem cA2(T:Txt K mg t)(m:Bool × Nat){Q:D->Prop}(q:Q (.int (ae m))):∃C ns xs v,fD t.aH t.aN m=.obj C ns xs/\cw K C/\bf K C "many"/\(ns.zip xs).lookup ("many":Str)=some v/\Q v:=by
 obtain⟨k,n⟩:=m
 cases k with
 | true=>exact⟨_,_,_,_,rfl,T.eX,T.rz,rfl,q⟩
 | false=>exact⟨_,_,_,_,rfl,T.fo,T.rC,rfl,q⟩
noncomputable abbrev fG(t:eV)(m:Bool × Nat)(G:List (List Nat))(k:Kd):D:=sX t.aH t.aN t.bJ t.bU t.bx m G k
theorem yV(T:Txt K mg t)(m:Bool × Nat)(G:List (List Nat))(k:Kd){a:Str}{v:D}(n1:bf K t.bJ a)(n2:bf K t.bU a)(n3:bf K t.bx a)(ha:a∈nj)(h:(nj.zip (l7 t.aH t.aN false m G)).lookup a=some v){Q:D->Prop}(q:Q v):∃C ns xs v,fG t m G k=.obj C ns xs/\cw K C/\bf K C a/\(ns.zip xs).lookup a=some v/\Q v:=by
 have ha:a="field"\/a="length"\/a="check_rows"\/a="word_rows"\/a="message_places"\/a="size":=by simpa only[cA,iw,or_false]using ha
 rcases ha with rfl | rfl | rfl | rfl | rfl | rfl<;>cases k
 all_goals first | exact⟨_,_,_,v,rfl,T.rB,n1,h,q⟩ | exact⟨_,_,_,v,rfl,T.Cm,n2,h,q⟩ | exact⟨_,_,_,v,rfl,T.vE,n3,h,q⟩
theorem vJ(T:Txt K mg t)(m:Bool × Nat)(G:List (List Nat))(k:Kd){Q:D->Prop}(q:Q (fD t.aH t.aN m)):∃C ns xs v,fG t m G k=.obj C ns xs/\cw K C/\bf K C "field"/\(ns.zip xs).lookup ("field":Str)=some v/\Q v:=yV T m G k T.Cf T.Co T.Cv (by decide) rfl q
theorem yW(T:Txt K mg t)(m:Bool × Nat)(G:List (List Nat))(k:Kd){Q:D->Prop}(q:Q (.int (av G:Nat))):∃C ns xs v,fG t m G k=.obj C ns xs/\cw K C/\bf K C "length"/\(ns.zip xs).lookup ("length":Str)=some v/\Q v:=yV T m G k T.Cg T.Cp T.Cw (by decide) rfl q
theorem TR(T:Txt K mg t)(m:Bool × Nat)(G:List (List Nat))(k:Kd){Q:D->Prop}(q:Q (.lst false (ay false G))):∃C ns xs v,fG t m G k=.obj C ns xs/\cw K C/\bf K C "check_rows"/\(ns.zip xs).lookup ("check_rows":Str)=some v/\Q v:=yV T m G k T.Ce T.Cn T.Cu (by decide) rfl q
theorem cr1(T:Txt K mg t)(m:Bool × Nat)(G:List (List Nat))(k:Kd){Q:D->Prop}(q:Q (.lst false (ay false (oS m G)))):∃C ns xs v,fG t m G k=.obj C ns xs/\cw K C/\bf K C "word_rows"/\(ns.zip xs).lookup ("word_rows":Str)=some v/\Q v:=yV T m G k T.Cj T.Cr T.Cz (by decide) rfl q
theorem TU(T:Txt K mg t)(m:Bool × Nat)(G:List (List Nat))(k:Kd){Q:D->Prop}(q:Q (.int ((ij m G).length:Nat))):∃C ns xs v,fG t m G k=.obj C ns xs/\cw K C/\bf K C "size"/\(ns.zip xs).lookup ("size":Str)=some v/\Q v:=yV T m G k T.Ci T.Cq T.Cy (by decide) rfl q
theorem yX(T:Txt K mg t){m:Bool × Nat}{G:List (List Nat)}{k:Kd}{me:Str}{n:Nat}{f:Addr}{fd:FuncData}{ps:List Str}{sp:bg}(h1:Meth K t.bJ me f)(h2:Meth K t.bU me f)(h3:Meth K t.bx me f)(F:aM P w K mg base aQ n f fd ps (bh sp))(b:Binds K fd ps [])(nm:me ∉ (["extra","first","field","length","check_rows","word_rows","message_places","size","bound"]:List Str)){ds:List D}{Q:D->Prop}(q:sp (fG t m G k::ds) Q):∃C ns zs sp,fG t m G k=.obj C ns zs/\jf P w K mg base n me C sp/\me ∉ ns/\sp (.obj C ns zs::ds) Q:=by
 simp only[cA,iw,or_false,not_or]at nm
 cases k
 ·exact⟨_,_,_,sp,rfl,⟨T.rB,_,_,_,h1,F,b⟩,by simp[nm],q⟩
 ·exact⟨_,_,_,sp,rfl,⟨T.Cm,_,_,_,h2,F,b⟩,by simp[nm],q⟩
 ·exact⟨_,_,_,sp,rfl,⟨T.vE,_,_,_,h3,F,b⟩,by simp[nm],q⟩
theorem TV(T:Txt K mg t)(m:Bool × Nat)(G:List (List Nat))(k:Kd){me:Str}{n:Nat}{f:Addr}{fd:FuncData}{ps:List Str}{sp:bg}(h1:Meth K t.bJ me f)(h2:Meth K t.bU me f)(h3:Meth K t.bx me f)(F:aM P w K mg base aQ n f fd ps (bh sp))(b:Binds K fd ps [])(nm:me ∉ (["extra","first","field","length","check_rows","word_rows","message_places","size","bound"]:List Str)):∃C ns zs k9,fG t m G k=.obj C ns zs/\jf P w K mg base n me C k9/\me ∉ ns/\∀ds Q,sp (fG t m G k::ds) Q->k9 (.obj C ns zs::ds) Q:=by
 simp only[cA,iw,or_false,not_or]at nm
 cases k
 ·exact⟨_,_,_,sp,rfl,⟨T.rB,_,_,_,h1,F,b⟩,by simp[nm],λ_ _ q=>q⟩
 ·exact⟨_,_,_,sp,rfl,⟨T.Cm,_,_,_,h2,F,b⟩,by simp[nm],λ_ _ q=>q⟩
 ·exact⟨_,_,_,sp,rfl,⟨T.vE,_,_,_,h3,F,b⟩,by simp[nm],λ_ _ q=>q⟩
noncomputable abbrev aP1:bg:=λds Q=>∃c:Int,ds=[.int c]/\Q (dk (oG c))
theorem aP2(T:Txt K mg t):aM P w K mg base aQ 1 t.HN t.HP ["_law_cell_here"] (bh (aP1 )):=by
 refine bA T.SA GB ?_ ?_
 ·intro ds Q h
  obtain⟨c,rfl,q⟩:=h<;>rfl
 ·intro aD A outer s H E hr
  refine⟨_,(aA (aU (i:=1) GB.nd rfl (ai rfl) (PQ (ns:=[7,11,13,19,25,31,37,41,47,55,59,61,67,73,87,91,97,103,109,115,117]) (by decide +kernel)))
   (aA (aU (i:=2) GB.nd rfl (ai rfl) (PQ (ns:=[2,3,5,7,11,13,17,19,23,29,31,37,41,43,47,53,59,61]) (by decide +kernel)))
   (aA (cR (bX (fP (cT hr)) (aa (az cS (bv 0) (aa ao))) (aa ao) (bG _)) (aE (aV (mR (cq gP (cq (dq (bC (bv 1) (aa (az cS (aa (az oh (bv 0) (aa ao))) (aa ao))) (λ_ _=>rfl))) cF))))) cQ)
   (aE (aV (mR (cq gP (cq (dq (bC (bv 2) (aa (az cS (aa (az oh (bv 0) (aa ao))) (aa ao))) (λ_ _=>rfl))) cF)))))))),λds Q h=>?_⟩
  obtain⟨c,rfl,q⟩:=h
  refine aB λU hU=>?_
  walk_at"l3"
  refine⟨by decide,hU _ ?_⟩
  clear hU U
  refine aB λU hU=>?_
  walk_at"l3"
  refine⟨by decide,hU _ ?_⟩
  clear hU U
  refine aB λU hU=>?_
  walk_at"l3"
  refine⟨by decide,?_⟩
  have n1:=fJ (c/2) (show(21:Int)≠0 by decide)
  have n2:=fX (c/2) (show(0:Int)<21 by decide)
  have n3:=fJ (c/2) (show(18:Int)≠0 by decide)
  have n4:=fX (c/2) (show(0:Int)<18 by decide)
  split
  ·rename_i hc
   refine⟨og (by decide) (by decide),by decide,_,lQ n1 (by simpa using n2),rfl,by decide,?_⟩
   have e:dk (oG c)=.tup [.bl true,.int (([7,11,13,19,25,31,37,41,47,55,59,61,67,73,87,91,97,103,109,115,117]:List Int).getD (c/2%21).toNat 0)]:=by
    unfold oG dk
    rw[if_pos hc]
    have:∀k:Nat,((gD.getD k 0:Nat):Int)=([7,11,13,19,25,31,37,41,47,55,59,61,67,73,87,91,97,103,109,115,117]:List Int).getD k 0:=λk=>by
     show _=(gD.map (λ(n:Nat)=>(n:Int))).getD k ((0:Nat):Int)
     rw[aY,aY,bZ]
     cases gD[k]?<;>rfl
    rw[<-this]
   rw[<-e];exact q
  ·rename_i hc
   refine hU _ ?_
   walk_at"l3"
   refine⟨og (by decide) (by decide),by decide,_,lQ n3 (by simpa using n4),rfl,by decide,?_⟩
   have e:dk (oG c)=.tup [.bl false,.int (([2,3,5,7,11,13,17,19,23,29,31,37,41,43,47,53,59,61]:List Int).getD (c/2%18).toNat 0)]:=by
    unfold oG dk
    rw[if_neg hc]
    have:∀k:Nat,((m8.getD k 0:Nat):Int)=([2,3,5,7,11,13,17,19,23,29,31,37,41,43,47,53,59,61]:List Int).getD k 0:=λk=>by
     show _=(m8.map (λ(n:Nat)=>(n:Int))).getD k ((0:Nat):Int)
     rw[aY,aY,bZ]
     cases m8[k]?<;>rfl
    rw[<-this]
   rw[<-e];exact q
noncomputable abbrev aP3:bg:=λds Q=>∃m:Bool × Nat,ds=[dk m]/\bl m.2<=1000/\1<=bl m.2/\Q (.int (ae m:Nat))
theorem CD(T:Txt K mg t):aM P w K mg base aQ 1 t.HQ t.HR ["_law_told_here"] (bh (aP3 )):=by
 refine bA T.yM aO0 ?_ ?_
 ·intro ds Q h
  obtain⟨m,rfl,h1,h2,q⟩:=h<;>rfl
 ·intro aD A outer s H E hr
  refine⟨_,(aA (cR (iX (bC (bv 0) (aa ao) (λ_ _=>rfl))) (aE (aV (az t9 (aa ao) (aa (az dQ (aa (mY (bC (bv 0) (aa ao) (λ_ _=>rfl)))) (aa ao)))))) cQ)
   (aE (aV (dq (bC (bv 0) (aa ao) (λ_ _=>rfl)))))),λds Q h=>?_⟩
  obtain⟨m,rfl,h1,h2,q⟩:=h
  unfold dk at *
  refine aB λU hU=>?_
  walk_at"l3"
  obtain⟨b,n⟩:=m
  cases b with
  | true =>
   refine⟨_,rfl,true,rfl,?_⟩
   rw[if_pos rfl]
   refine⟨_,rfl,?_⟩
   have o1:bl (1:Int).natAbs=1:=by decide
   have e:(1:Int)*2 ^ (((bl ((n:Int)).natAbs:Nat):Int)-1).toNat=((ae (true,n):Nat):Int):=by
    have jq:1<=bl n:=h2
    rw[iN,show(((bl n:Nat):Int)-1)=((bl n-1:Nat):Int) by omega,show(1:Int)=((1:Nat):Int) from rfl,sV,DK];rfl
   refine⟨?_,by rw[e];exact q⟩
   rw[iN]
   have jU:bl n<=1000:=h1
   have jq:1<=bl n:=h2
   exact⟨by omega,by omega⟩
  | false =>
   refine⟨_,rfl,false,rfl,?_⟩
   rw[if_neg (by decide)]
   refine hU _ ?_
   walk_at"l3"
   exact⟨_,rfl,rfl,q⟩
noncomputable abbrev aP4(L:Obj->Obj->Addr->Addr->uU->Prop):bg:=λds Q=>∃(a:Nat) (of oc:Obj) (c k:Addr) (g:Nat->Nat->Nat) (l:List Int),ds=[.int a,.bE (.lam of oc c k)]/\L of oc c k (ym g)/\a<64/\FK g a=some l/\Q (.lst true (aF l))
theorem TX(T:Txt K mg t):aM P w K mg base aQ 5 t.HS t.HU ["a","product"] (bh (aP4 (yc P w K mg base 4))):=by
 refine bA T.Kt BS ?_ ?_
 ·intro ds Q h
  obtain⟨a,of,oc,c,k,g,l,rfl,hL,ha,hp,q⟩:=h<;>rfl
 ·intro aD A outer s H E hr
  refine⟨_,(aA (aU (i:=2) BS.nd rfl (ai rfl) (dP (cq ao cF)))
   (aA (aU (i:=3) BS.nd rfl (ai rfl) (Qk (n:=4) (i:=1) rfl (by first | exact ai rfl | exact aX (ai rfl)) (hr.mono (by decide)) (ag (aa ao) (ag (bv 0) aw))))
   (aA (tO eT (bX (i6 (cT hr)) (bv 3) (aa ao) (bG _))
    (aA (lN (i:=2) rfl (by first | exact ai rfl | exact aX (ai rfl)) (dq (bv 3)))
    (aE (aU (i:=3) BS.nd rfl (ai rfl) (Qk (n:=4) (i:=1) rfl (by first | exact ai rfl | exact aX (ai rfl)) (hr.mono (by decide)) (ag (bv 3) (ag (bv 0) aw)))))))
   (aE (aV (em 2)))))),λds Q h=>?_⟩
  obtain⟨a,of,oc,c,k,g,l,rfl,hL,ha,hp,q⟩:=h
  refine aB λU hU=>?_
  walk_at"l3"
  refine⟨by decide,hU _ ?_⟩
  clear hU U
  refine aB λU hU=>?_
  walk_at"l3"
  refine⟨of,oc,c,k,ym g,rfl,hL,1,a,⟨rfl,rfl⟩,1,a,rfl,rfl,by decide,ha,hU _ ?_⟩
  clear hU U
  refine aB λU hU=>?_
  walk_at"l3"
  refine⟨λm δ=>∃(p:Nat) (acc:List Int),δ=[some (.int a),some (.bE (.lam of oc c k)),some (.lst true (aF acc)),some (.int p)]/\acc.length+m<=70/\Bh g a m p acc=some l,⟨64,_,[1],rfl,by decide,hp⟩,?_⟩
  rintro m δ ⟨p,acc,rfl,hn,hg⟩
  walk_at"l3"
  cases m with
  | zero=>cases hg
  | succ m =>
   unfold Bh at hg
   split at hg
   ·rename_i h1
    subst h1
    cases hg
    rw[if_neg (by simp)]
    refine hU _ ?_
    walk_at"l3"
    exact q
   ·rename_i h1
    rw[if_pos (by simp;omega)]
    split at hg
    ·rename_i h2
     clear hU
     refine aB λU hU=>?_
     walk_at"l3"
     refine⟨⟨_,rfl⟩,by omega,hU _ ?_⟩
     clear hU
     walk_at"l3"
     exact⟨of,oc,c,k,ym g,rfl,hL,p,a,⟨rfl,rfl⟩,p,a,rfl,rfl,h2,ha,m,by omega,g p a,acc++[(p:Int)],⟨by rw[<-qK];rfl,rfl⟩,by simp;omega,hg⟩
    ·cases hg
noncomputable abbrev aK6(L:Obj->Obj->Addr->Addr->uU->Prop):bg:=λds Q=>∃(n:Nat) (of oc:Obj) (c k:Addr) (g:Nat->Nat->Nat) (l:List Int),ds=[.int n,.bE (.lam of oc c k)]/\L of oc c k (ym g)/\yk g n=some l/\Q (.lst true (aF l))
theorem aK7(T:Txt K mg t):aM P w K mg base aQ 6 t.HV t.HW ["many","product"] (bh (aK6 (yc P w K mg base 4))):=by
 refine bA T.SF yF ?_ ?_
 ·intro ds Q h
  obtain⟨n,of,oc,c,k,g,l,rfl,hL,hp,q⟩:=h<;>rfl
 ·intro aD A outer s H E hr
  refine⟨_,(aA (aU (i:=2) yF.nd rfl (ai rfl) ao)
   (aA (aU (i:=3) yF.nd rfl (ai rfl) (bu ((TX T).mono (by decide)) hr rfl T.SD T.Kt.kp T.SE aR (ag (bv 2) (ag (bv 1) aw))))
   (aA (tO eT (bX ui (aa (di (gR) (by rfl) T.gH gA (ag (bv 3) aw))) (aa (az dQ (bv 0) (aa ao))) (bG _))
    (aA (w5 (i:=2) yF.nd rfl (ai rfl) (aa ao) cv5)
    (aE (aU (i:=3) yF.nd rfl (ai rfl) (bu ((TX T).mono (by decide)) hr rfl T.SD T.Kt.kp T.SE aR (ag (bv 2) (ag (bv 1) aw)))))))
   (aE (aV (em 3)))))),λds Q h=>?_⟩
  obtain⟨n,of,oc,c,k,g,l,rfl,hL,hp,q⟩:=h
  unfold yk at hp
  split at hp
  ·rename_i l0 h0
   refine aB λU hU=>?_
   walk_at"l3"
   refine hU _ ?_
   clear hU U
   refine aB λU hU=>?_
   walk_at"l3"
   refine⟨1,of,oc,c,k,g,l0,rfl,hL,by decide,h0,hU _ ?_⟩
   clear hU U
   refine aB λU hU=>?_
   walk_at"l3"
   refine⟨λm δ=>∃(st:Nat) (l1:List Int),δ=[some (.int n),some (.bE (.lam of oc c k)),some (.int st),some (.lst true (aF l1))]/\st+m<=63/\Bi g n m st l1=some l,⟨62,1,l0,rfl,by decide,hp⟩,?_⟩
   rintro m δ ⟨st,l1,rfl,hn,hg⟩
   walk_at"l3"
   cases m with
   | zero=>cases hg
   | succ m =>
    unfold Bi at hg
    split at hg
    ·rename_i h1
     rw[if_pos (by omega)]
     split at hg
     ·rename_i l2 h2
      clear hU
      refine aB λU hU=>?_
      walk_at"l3"
      refine hU _ ?_
      clear hU
      walk_at"l3"
      exact⟨st+1,of,oc,c,k,g,l2,rfl,hL,by omega,h2,m,by omega,st+1,l2,⟨rfl,rfl⟩,by omega,hg⟩
     ·cases hg
    ·rename_i h1
     rw[if_neg (by omega)]
     cases hg
     refine hU _ ?_
     walk_at"l3"
     exact q
  ·cases hp
noncomputable abbrev aT0:bg:=λds Q=>∃(l:List Int),ds=[.lst false (aF l)]/\l.length<=64/\(∀x∈l,0<=x/\x.toNat<=l.length)/\Q (.lst true (aF (eE l)))
theorem aT1(T:Txt K mg t):aM P w K mg base aQ 1 t.HX t.HY ["powers"] (bh (aT0 )):=by
 refine bA T.SG GH ?_ ?_
 ·intro ds Q h
  obtain⟨l,rfl,hl,hx,q⟩:=h<;>rfl
 ·intro aD A outer s H E hr
  refine⟨_,(aA (aU (i:=1) GH.nd rfl (ai rfl) (az fM (aa (dP (cq ao cF))) (aa (az cH (aa (di (gR) (by rfl) T.gH gA (ag (bv 0) aw))) (aa ao)))))
   (aA (gi eT rfl (qN rfl T.rE (ag (bv 0) aw)) (i8 (i1:=2) (i2:=3) rfl GH.nd rfl (ai rfl) rfl (ai rfl))
    (aE (oo (i:=1) rfl (by first | exact ai rfl | exact aX (ai rfl)) (dq (bv 2)) (bv 3))))
   (aE (aV (em 1))))),λds Q h=>?_⟩
  obtain⟨l,rfl,hl,hx,q⟩:=h
  refine aB λU hU=>?_
  walk_at"l3"
  refine⟨by decide,⟨by omega,by omega,by omega⟩,hU _ ?_⟩
  clear hU U
  refine aB λU hU=>?_
  walk_at"l3"
  refine gh.mk (λi δ=>∃o1 o2,δ=[some (.lst false (aF l)),some (.lst true (aF (by4 l i))),o1,o2]) ⟨none,none,?_⟩ ?_ ?_
  ·rw[show((l.length:Int)+1).toNat=l.length+1 by omega];rfl
  ·rintro i d δ hd ⟨o1,o2,rfl⟩
   obtain⟨hi,rfl⟩:∃h:i<l.length,d=.tup [.int i,.int l[i]]:=by
    unfold fC aF at hd
    rw[zK,bZ]at hd
    by_cases hi:i<l.length
    ·rw[aS hi]at hd
     simp at hd
     exact⟨hi,hd.symm⟩
    ·rw[gJ (by omega)]at hd;simp at hd
   have cm:=hx l[i] (dN _)
   walk_at"l3"
   refine⟨_,(l[i]).toNat,rfl,?_,_,_,?_,rfl,rfl⟩
   ·unfold iA
    rw[kE,yn,if_pos cm.1,if_pos (by omega)]
   ·unfold aF
    rw[<-pE]
    congr 1
    show _=(by4 l i).set (l.getD i 0).toNat (i:Int)
    rw[aY,aS hi];rfl
  ·rintro δ ⟨o1,o2,rfl⟩
   refine hU _ ?_
   simp only[tI,qt,tJ,tK,tL,dT,mQ,nX,nY,dC,qi,qp,qm,ql,qo,tH,om,uw,qH,uA,uB,tu,tw,tD,tE,tF,tG,qk,uu,qC,qD,ii,qv,tX,qw,tY,tZ,t7,ua,ub,ud,iI,ia,ue,uf,ug,uh,qy,oi,uo,uq,gN,uE,uv,tM,tQ,tR,tS,tT,tU,uF,uG,n8,lK,gj,ju,iZ,pk,rY,v3,zQ,qq,ku,jX,qE,qF,m3,uJ,uK,uL,xX,uP,qO,uM,jv,x6,xY,xZ,df,jH,sC,sg,jl,zR,bj,pG,pH,jL,jM,v7,exists_eq_left',exists_eq_left,D.bl.injEq,D.int.injEq,D.lst.injEq,D.fz.injEq,D.str.injEq,D.tup.injEq,zS,and_true,true_and,dh,sA,mx,mq,xo,xp,xq,xt,xu,xv,fK,kr,oq,xC,xD,xE,xF,xG,dF,lF,xw,xx,xy,xB,gg,qf,zT,zU,rR,kT,zV,zW,vR,xM,xN,xO,xP,xQ,xR,xS,kE,mZ,qJ,j3,qK,xI,uI,xH,qL,xJ,xK,kF,uH,if_true,sk,if_false,reduceIte,xT,decide_eq_true_eq,dX,m4,ou,ya,lU,x9,tN,uV,qZ,u5,uO,qS,qT,qU,uX,vb,q8,rk,dR,oM,kG,yw,q9,vp,vq,rn,qM]
   exact q
noncomputable abbrev yY(K:Frag):bg:=λds Q=>∃(C:Addr) (ns:List Str) (xs:List D) (n:Int) (many:Nat) (l:List Int) (r:Int),ds=[.obj C ns xs,.int n]/\cw K C/\bf K C "powers"/\bf K C "many"/\(ns.zip xs).lookup ("powers":Str)=some (.lst false (aF l))/\(ns.zip xs).lookup ("many":Str)=some (.int many)/\2<=many/\l[(n%((many:Int)-1)).toNat]?=some r/\Q (.int r)
theorem yZ(T:Txt K mg t):aM P w K mg base aQ 1 t.yI t.HZ ["self","n"] (bh (yY K)):=by
 refine bA T.az8 ay0 ?_ ?_
 ·intro ds Q h
  obtain⟨C,ns,xs,n,many,l,r,rfl,hC,h1,h2,h3,h4,h5,h6,q⟩:=h<;>rfl
 ·intro aD A outer s H E hr
  refine⟨_,(aE (aV (dq (bC (dj (K:=K) (bv 0)) (aa (az cS (bv 1) (aa (az dQ (dj (K:=K) (bv 0)) (aa ao))))) (λ_ _=>rfl))))),λds Q h=>?_⟩
  obtain⟨C,ns,xs,n,many,l,r,rfl,hC,h1,h2,h3,h4,h5,h6,q⟩:=h
  walk_at"l3"
  refine⟨C,ns,xs,_,rfl,hC,h1,h3,C,ns,xs,_,rfl,hC,h2,h4,?_⟩
  refine⟨by omega,_,mF (d:=.int r) (fJ _ (by omega)) ?_,rfl,q⟩
  unfold aF
  rw[bZ,h6];rfl
theorem bF2(T:Txt K mg t){m:Bool × Nat}(hm:m∈aG){n:Int}{Q:D->Prop}(q:Q (.int (eS m n:Nat))):QX P w K mg base 1 t.aH t.aN m "step_power" [.int n] Q:=by
 have hF:=cU hm
 have hl:=Q5 hm n
 obtain⟨k,b⟩:=m
 cases k with
 | true=>exact⟨_,_,_,yY K,rfl,⟨T.eX,_,_,_,T.yP,yZ T,T.yN⟩,by decide,_,_,_,_,ae (true,b),fl (true,b),_,rfl,T.eX,T.vB,T.rz,rfl,rfl,hF.lo,hl,q⟩
 | false=>exact⟨_,_,_,yY K,rfl,⟨T.fo,_,_,_,T.yS,yZ T,T.yN⟩,by decide,_,_,_,_,ae (false,b),fl (false,b),_,rfl,T.fo,T.yR,T.rC,rfl,rfl,hF.lo,hl,q⟩
noncomputable abbrev aM3(P:Program)(w:World)(K:Frag)(mg:Str->Option Value)(base:Heap)(fs:Addr):Sp:=λvs H Q _=>∃(x dx f C:Addr) (b:Str) (n0:Int) (many:Nat) (of oc:Obj) (c k:Addr) (g:Nat->Nat->Nat) (l:List Int) (st:Int),
 vs=[.ref x,.int many,.ref f]/\H x=some (.ins C dx [(b,.int n0)])/\(∀n∈(["many","wide","powers","logs","step","step_power"]:List Str),b≠n)/\cZ2 K C fs/\jV H f of oc c k/\yc P w K mg base 4 of oc c k (ym g)/\QE g many l st /\
 ∀H' p1 p2,bI x H H'->H' x=some (.ins C dx ((ie b).zip (Bj n0 many p1 p2 st)))->LI H' p1 l->LI H' p2 (eE l)->p1≠p2->H p1=none->H p2=none->Q .au H'
theorem TY(T:Txt K mg t):aM P w K mg base aQ 7 t.Ia t.Ib ["self","many","product"] (aM3 P w K mg base t.yI):=by
 refine T.aO5.ok aL5 (λvs H Q E h=>?_) λaD A outer s H vs Q E hr h=>?_
 ·obtain⟨x,dx,f,C,b,n0,many,of,oc,c,k,g,l,st,rfl,_⟩:=h;rfl
 obtain⟨x,dx,f,C,b,n0,many,of,oc,c,k,g,l,st,rfl,hx,hb,hC,ds1,hL,hF,q⟩:=h
 refine⟨_,eN (gM (pv 0) (pv 1) rfl) (eN (gM (pv 0) (wA D6 (Eu (pv 1)) pL) rfl)
  (eN (gM (pv 0) (iT ((aK7 T).mono (by decide)) hr rfl T.df4 T.SF.kp T.df5 .nil aR (bV (pv 1) (bV (pv 2) eU))) rfl)
  (eN (gM (pv 0) (iT ((aT1 T).mono (by decide)) hr rfl T.df6 T.SG.kp T.df7 .nil aR (bV (pZ (pv 0) rfl) eU)) rfl)
  (iP (gM (pv 0) (YA (pv 0) hC.cls hC.sp ((yZ T).mono (by decide)) hr T.yN .nil aR (bV pL eU)) rfl))))),?_⟩
 have nb:∀n∈(["many","wide","powers","logs","step","step_power"]:List Str),b≠n:=hb
 refine⟨.int many,rfl,.ref x,rfl,x,C,dx,_,rfl,hx,hC.cls,hC.many,mn (bK 1) (by decide),?_⟩
 rw[u0 (by simpa using nb "many" (by simp))]
 generalize e1:upd H x (HO.ins C dx ([(b,V.int n0)]++[(("many":Str),V.int many)]))=H1
 have cm:H1 x=some (.ins C dx [(b,V.int n0),(("many":Str),V.int many)]):=by rw[<-e1,bL];rfl
 have s1:bI x H H1:=by rw[<-e1];exact bI.upd (C:=C) (dx:=dx) hx rfl
 have l1:jV H1 f of oc c k:=by rw[<-e1];exact ds1.qV hx
 have n1:∀p,H1 p=none->H p=none:=λp h=>yp hx (by rw[e1];exact h)
 refine⟨_,rfl,rfl,_,rfl,rfl,_,_,rfl,rfl,.ref x,rfl,x,C,dx,_,rfl,cm,hC.cls,hC.wide,mn (bK 2) (by decide),?_⟩
 rw[u0 (by simp;exact⟨nb "wide" (by simp),by decide⟩),iN]
 generalize e2:upd H1 x (HO.ins C dx ([(b,V.int n0),(("many":Str),V.int many)]++[(("wide":Str),V.int ((bl many:Nat)-1))]))=H2
 have dO:H2 x=some (.ins C dx [(b,V.int n0),(("many":Str),V.int many),(("wide":Str),V.int ((bl many:Nat)-1))]):=by rw[<-e2,bL];rfl
 have s2:bI x H H2:=by rw[<-e2];exact s1.trans (bI.upd (C:=C) (dx:=dx) cm rfl)
 have l2:jV H2 f of oc c k:=by rw[<-e2];exact l1.qV cm
 have n2:∀p,H2 p=none->H p=none:=λp h=>n1 p (yp cm (by rw[e2];exact h))
 refine⟨_,rfl,_,rfl,H2,[.int many,.bE (.lam of oc c k)],λd=>d=.lst true (aF l),af.refl _,.int (.bE l2 .nil),⟨many,of,oc,c,k,g,l,rfl,hL,hF.step,rfl⟩,λd v F' H3 A' hd hs hf he h3 r nd fr=>?_⟩
 subst hd
 obtain⟨p1,rfl,hp1,y0⟩:=QD r fr
 have eY:=hs.get _ _ dO
 have s3:=s2.trans (hs.x (x:=x))
 refine⟨.ref x,rfl,x,C,dx,_,rfl,eY,hC.cls,hC.FL,mn (bK 3) (by decide),?_⟩
 rw[u0 (by simp;exact⟨nb "powers" (by simp),by decide,by decide⟩)]
 generalize e4:upd H3 x (HO.ins C dx ([(b,V.int n0),(("many":Str),V.int many),(("wide":Str),V.int ((bl many:Nat)-1))]++[(("powers":Str),V.ref p1)]))=H4
 have ji:H4 x=some (.ins C dx [(b,V.int n0),(("many":Str),V.int many),(("wide":Str),V.int ((bl many:Nat)-1)),(("powers":Str),V.ref p1)]):=by rw[<-e4,bL];rfl
 have s4:bI x H H4:=by rw[<-e4];exact s3.trans (bI.upd (C:=C) (dx:=dx) eY rfl)
 have p4:LI H4 p1 l:=by rw[<-e4];exact hp1.upd eY (λws z=>by cases z)
 have n4:∀p,H4 p=none->H p=none:=λp h=>n2 p (hs.free (yp eY (by rw[e4];exact h)))
 refine⟨.ref x,rfl,x,C,dx,_,.ref p1,rfl,ji,hC.cls,hC.FL,by rw[Bk (nb "powers" (by simp))];rfl,H4,[.lst false (aF l)],λd=>d=.lst true (aF (eE l)),af.refl _,.shr p4 (kD l) .nil,⟨l,rfl,by have:=hF.len;have:=hF.hi;omega,hF.ins,rfl⟩,λd v F' H5 A' hd j9 hf he h3 r nd fr=>?_⟩
 subst hd
 obtain⟨p2,rfl,TZ,rF⟩:=QD r fr
 have iM:=j9.get _ _ ji
 have s5:=s4.trans (j9.x (x:=x))
 have ds3:p1≠p2:=λz=>by rw[<-z]at rF;unfold LI at p4;rw[rF]at p4;cases p4
 refine⟨.ref x,rfl,x,C,dx,_,rfl,iM,hC.cls,hC.cZ3,mn (bK 4) (by decide),?_⟩
 rw[u0 (by simp;exact⟨nb "logs" (by simp),by decide,by decide,by decide⟩)]
 generalize e6:upd H5 x (HO.ins C dx ([(b,V.int n0),(("many":Str),V.int many),(("wide":Str),V.int ((bl many:Nat)-1)),(("powers":Str),V.ref p1)]++[(("logs":Str),V.ref p2)]))=H6
 have oX:H6 x=some (.ins C dx (([b,"many","wide","powers","logs"]:List Str).zip [V.int n0,V.int many,V.int ((bl many:Nat)-1),V.ref p1,V.ref p2])):=by rw[<-e6,bL];rfl
 have s6:bI x H H6:=by rw[<-e6];exact s5.trans (bI.upd (C:=C) (dx:=dx) iM rfl)
 have p6:LI H6 p1 l:=by rw[<-e6];exact(p4.same j9).upd iM (λws z=>by cases z)
 have q6:LI H6 p2 (eE l):=by rw[<-e6];exact TZ.upd iM (λws z=>by cases z)
 refine⟨.ref x,rfl,x,dx,_,rfl,oX,by show kO ("step_power":Str) ((b,V.int n0)::_)=none;rw[Bk (nb "step_power" (by simp))];rfl,H6,[.obj C [b,"many","wide","powers","logs"] [.int n0,.int many,.int ((bl many:Nat)-1),.lst false (aF l),.lst false (aF (eE l))],.int 1],λd=>d=.int st,af.refl _,
  .obj oX rfl (.int (.int (.int (.shr p6 (kD l) (.shr q6 (kD _) .nil))))) (.int .nil),⟨C,_,_,1,many,l,st,rfl,hC.cls,hC.FL,hC.many,by show kO ("powers":Str) ((b,D.int n0)::_)=_;rw[Bk (nb "powers" (by simp))];rfl,by show kO ("many":Str) ((b,D.int n0)::_)=_;rw[Bk (nb "many" (by simp))];rfl,hF.lo,hF.st,rfl⟩,λd v F' H7 A' hd nz hf he h3 r nd fr=>?_⟩
 subst hd
 cases r
 have l9:=nz.get _ _ oX
 refine⟨.ref x,rfl,x,C,dx,_,rfl,l9,hC.cls,hC.step,mn (bK 5) (by decide),?_⟩
 rw[u0 (by simp;exact⟨nb "step" (by simp),by decide,by decide,by decide,by decide⟩)]
 refine q _ p1 p2 ((s6.trans (nz.x (x:=x))).trans (bI.upd (C:=C) (dx:=dx) l9 rfl)) (by rw[bL];rfl) ((p6.same nz).upd l9 (λws z=>by cases z)) ((q6.same nz).upd l9 (λws z=>by cases z)) ds3 (n2 p1 y0) (n4 p2 rF)
noncomputable abbrev aw2:bg:=λds Q=>∃a:Int,ds=[.int a]/\Q (.bl (decide (2<=a)&&decide (a<=61)&&(aL (a.toNat-2)).all λi=>a%(2+(i:Int)) != 0))
theorem aw3(T:Txt K mg t):aM P w K mg base aQ 1 t.Ic t.Ie ["prime"] (bh (aw2 )):=by
 refine bA T.SI av7 ?_ ?_
 ·intro ds Q h
  obtain⟨a,rfl,q⟩:=h<;>rfl
 ·intro aD A outer s H E hr
  refine⟨_,(aE (aV (n6 (aa (ur kA kA (aa ao) (bv 0) (aa ao))) (sM (di (qG rfl) (by rfl) T.rD p8 (ag (aa (dA [("prime",0)] ["d"] rfl (xb rfl T.gI (ag (aa ao) (ag (bv 0) aw))) (λ_ _ _ _=>(cy (i:=1) (show(["prime","d"]:List Str).Nodup by decide +kernel) rfl (ai (lookup_relabel_local rfl)) (by decide) (aX (lookup_relabel_local rfl)))) (λ_ _ _ _=>du) (λ_ _ _ _=>(qj (i6 (cT hr)) (aa (az cS (bv 0) (bv 1))) (aa ao) (bG _))) rfl ⟨rfl,trivial⟩ (λ_=>by repeat' (first | exact trivial | refine⟨.inl rfl,?_⟩ | refine⟨.inr (.inl rfl),?_⟩ | refine⟨.inr (.inr ⟨_,rfl⟩),?_⟩)) (λ_=>⟨⟨rfl,.inl rfl,.inl rfl,_,rfl,rfl⟩,trivial⟩) rfl (by decide +kernel))) aw)))))),λds Q h=>?_⟩
  obtain⟨a,rfl,q⟩:=h
  walk_at"l3"
  split
  ·rename_i h1
   split
   ·rename_i h2
    refine⟨2,a,⟨rfl,rfl⟩,⟨by decide,by decide,by omega,by omega⟩,?_⟩
    have e0:(a-2).toNat=a.toNat-2:=by omega
    rw[e0]
    refine eD (aL (a.toNat-2)) (λ(k:Nat)=>D.int (2+(k:Int))) (λ(k:Nat)=>D.bl (a%(2+(k:Int)) != 0)) (by rw[w9]) (λx y h=>by injection h with h;omega) (λk hk=>?_) (.inr λ_ _=>rfl) (by rw[cB,sL];omega) ?_
    ·walk_at"l3"
     refine⟨by omega,?_⟩
     by_cases z:a%(2+(k:Int))=0<;>simp[z]
    ·refine⟨(aL (a.toNat-2)).map λ(k:Nat)=>a%(2+(k:Int)) != 0,?_,?_⟩
     ·unfold kC;rw[bR];rfl
     ·have e:(decide (2<=a)&&decide (a<=61)&&(aL (a.toNat-2)).all λi=>a%(2+(i:Int)) != 0)=((aL (a.toNat-2)).map λ(k:Nat)=>a%(2+(k:Int)) != 0).all id:=by
       simp[h1,h2,kS]
      rw[<-e];exact q
   ·rename_i h2
    have e:(decide (2<=a)&&decide (a<=61)&&(aL (a.toNat-2)).all λi=>a%(2+(i:Int)) != 0)=false:=by simp[h2]
    rw[e]at q;exact q
  ·rename_i h1
   have e:(decide (2<=a)&&decide (a<=61)&&(aL (a.toNat-2)).all λi=>a%(2+(i:Int)) != 0)=false:=by simp[h1]
   rw[e]at q;exact q
noncomputable abbrev aK8:List D->List Str->List D->Prop:=λds ns xs=>∃p:Nat,ds=[.int p]/\p∈m8/\ns=ie "prime"/\xs=[.int p,.int p,.int ((bl p:Nat)-1),.lst true (aF (fl (false,p))),.lst true (aF (eE (fl (false,p)))),.int (fst (false,p))]
theorem aB1(T:Txt K mg t)(hB:Bm mg base):aM P w K mg base aQ 8 t.Ig t.BY ["self","prime"] (FJ [t.iJ,t.iK] t.aN aK8):=by
 refine QB T.aD6 T.aA7 az3 (λvs H Q E h=>?_) λA outer s H vs Q E hr h=>?_
 ·obtain⟨x,dx,bS,ds,ns,xs,rfl,_,_,r,⟨p,rfl,_⟩,_⟩:=h
  have:=r.length
  simp at this
  simp[this]
 obtain⟨x,dx,bS,ds,ns,xs,rfl,tb,hx,r,⟨p,rfl,hp,rfl,rfl⟩,q⟩:=h
 obtain rfl:bS=[.int p]:=by
  cases r with
  | int r=>cases r;rfl
 have hm:(false,p)∈aG:=cW _ (zL hp)
 have hF:=cU hm
 refine⟨_,eN (pQ (Ad (Ab (iT ((aw3 T).mono (by decide)) hr rfl T.dg0 T.SI.kp T.dg1 .nil aR (bV (pv 1) eU)))) (iP pS) pO)
  (eN (gM (pv 0) (pv 1) rfl)
  (iP (pP (Qt (E:=E0) (i:=1) T.TK ((TY T).mono (by decide)) hr T.SH rfl T.CC rfl rfl rfl rfl (bV (pv 0) (bV (pv 1) (bV (Ql rfl rfl T.aA8 hB) eU))))))),?_⟩
 refine⟨_,rfl,H,[.int p],λd=>d=.bl true,af.refl _,.int .nil,⟨p,rfl,by rw[cb8 p hp]⟩,λd v F' H1 A1 hd eI hf he h3 r nd fr=>?_⟩
 subst hd
 cases r
 refine⟨true,rfl,?_⟩
 refine iC ?_
 have cm:=eI.get _ _ hx
 refine⟨.int p,rfl,.ref x,rfl,x,t.aN,dx,_,rfl,cm,T.fo,T.oW,by decide,?_⟩
 generalize e2:upd H1 x (HO.ins t.aN dx (bz "prime" (.int p) []))=H2
 have dO:H2 x=some (.ins t.aN dx [(("prime":Str),.int p)]):=by rw[<-e2,bL];rfl
 have s2:bI x H H2:=by rw[<-e2];exact(eI.x (x:=x)).trans (bI.upd (C:=x) (dx:=dx) cm rfl)
 have n2:∀p,H2 p=none->H p=none:=λp h=>eI.free (yp cm (by rw[e2];exact h))
 obtain⟨ps,hP⟩:=tb t.iJ (by simp)
 obtain⟨more,Lj⟩:=s2.tb _ ps hP
 refine⟨.ref x,rfl,.int p,rfl,⟨_,Lj⟩,λf k qn pm je H3 nf y6 hk kf gU hl3=>?_⟩
 refine⟨f,_,_,.int p,y6,rfl,rfl,λoc u iO hu nc oA=>?_⟩
 obtain⟨tm,rfl⟩:∃tm,u=nC p tm:=hu
 have eY:=gU.get _ _ dO
 refine⟨x,dx,f,t.aN,"prime",p,p,_,oc,_,k,gm (false,p),fl (false,p),fst (false,p),rfl,yq eY (λz=>by rw[z,nf]at dO;cases dO) nc,by decide,⟨T.fo,T.rC,T.K2,T.yR,T.yQ,T.K1,T.yS⟩,QG oA nc hk kf,?_,hF,λH' p1 p2 sx da Lk Au ne y0 rF=>?_⟩
 ·refine Qy (n:=3) ⟨rfl,rfl,rfl,by decide,rfl,rfl,by decide,by decide,rfl⟩ iO (λu1 u2=>rfl) λq f A outer s H E hr=>?_
  refine⟨_,az cS (aa (az fM (bv 0) (bv 1))) (bv 2),λi j Qd h=>?_⟩
  obtain⟨a,b,rfl,rfl,ha,hb,hq⟩:=h
  walk_at"l3"
  have hp0:2<=p:=hF.lo
  refine⟨gY.ok (.inr ⟨by omega,by omega⟩),by omega,?_⟩
  have e:((gm (false,p) a b:Nat):Int)=(a:Int)*b%p:=by
   show((a*b%p:Nat):Int)=_
   rw[nH,sE]
  rw[<-e];exact hq
 ·have gf:H' f=some (.ext (jr _ oc _ f)):=sx.get f _ (λz=>by rw[z]at nf;rw[nf]at dO;cases dO) (by rw[bc oA.symm,bL]) rfl
  have gc:=sx.get _ _ (eK eY nc).symm bL rfl
  refine⟨gf,gc,?_⟩
  refine q _ (Bj p p p1 p2 (fst (false,p))) [p1,p2] (s2.trans (QF gU nf nc sx)) ?_ rfl ?_ (by simp[ne]) (λa ha=>?_)
  ·rw[ib (λz=>by rw[z,gf]at da;cases da) (λz=>by rw[z,gc]at da;cases da)];exact da
  ·exact .int (.int (.int (.own (Lk.rem gf gc) rfl (kD _) (.own (Au.rem gf gc) rfl (kD _) (.int .nil)))))
  ·simp at ha
   rcases ha with rfl | rfl
   ·exact n2 _ (Bl gU y0)
   ·exact n2 _ (Bl gU rF)
noncomputable abbrev aJ0:bg:=λds Q=>∃(l g:List Int),ds=[.lst false (aF l),.lst false (aF g)]/\1<=l.length/\l.length<=63/\g.length=l.length+1/\(∀x∈g,0<=x)/\Q (.lst true (oF l g))
theorem aJ1(T:Txt K mg t):aM P w K mg base aQ 1 t.Ih t.Ii ["powers","logs"] (bh (aJ0 )):=by
 refine bA T.SJ BU ?_ ?_
 ·intro ds Q h
  obtain⟨l,g,rfl,h1,h2,h3,h4,q⟩:=h<;>rfl
 ·intro aD A outer s H E hr
  refine⟨_,(aA (aU (i:=2) BU.nd rfl (aX rfl) (az cH (aa (di (gR) (by rfl) T.gH gA (ag (bv 0) aw))) (aa ao)))
   (aA (aU (i:=3) BU.nd rfl (ai rfl) (dP (cq (az fM (aa (dP (cq ao cF))) (bv 2)) cF)))
   (aA (gi eT rfl (xb rfl T.gI (ag (aa ao) (ag (bv 2) aw))) (cy (i:=4) BU.nd rfl (aX rfl))
    (aE (lN (i:=3) rfl (by first | exact ai rfl | exact aX (ai rfl)) (az cH (aa (dP (cq ao cF))) (aa (dA [("powers",0),("many",2),("logs",1),("a",4)] ["b"] rfl (xb rfl T.gI (ag (aa ao) (ag (bv 2) aw))) (λ_ _ _ _=>(cy (i:=4) (show(["powers","many","logs","a","b"]:List Str).Nodup by decide +kernel) rfl (ai (lookup_relabel_local rfl)) (by decide) (aX (lookup_relabel_local rfl)))) (λ_ _ _ _=>du) (λ_ _ _ _=>(dq (bC (bv 0) (aa (az cS (aa (az cH (bC (bv 2) (bv 3) (λ_ _=>rfl)) (bC (bv 2) (bv 4) (λ_ _=>rfl)))) (aa (az dQ (bv 1) (aa ao))))) (λ_ _=>rfl)))) rfl ⟨rfl,⟨rfl,⟨rfl,⟨rfl,trivial⟩⟩⟩⟩ (λ_=>by repeat' (first | exact trivial | refine⟨.inl rfl,?_⟩ | refine⟨.inr (.inl rfl),?_⟩ | refine⟨.inr (.inr ⟨_,rfl⟩),?_⟩)) (λ_=>⟨⟨rfl,.inl rfl,.inl rfl,_,rfl,rfl⟩,⟨⟨rfl,.inl rfl,.inl rfl,_,rfl,rfl⟩,⟨⟨rfl,.inl rfl,.inl rfl,_,rfl,rfl⟩,⟨⟨rfl,.inl rfl,.inl rfl,_,rfl,rfl⟩,trivial⟩⟩⟩⟩) rfl (by decide +kernel)))))))
   (aE (aV (em 3)))))),λds Q h=>?_⟩
  obtain⟨l,g,rfl,h1,h2,h3,h4,q⟩:=h
  refine aB λU hU=>?_
  walk_at"l3"
  refine hU _ ?_
  clear hU U
  refine aB λU hU=>?_
  walk_at"l3"
  refine⟨by decide,⟨by omega,by omega,by omega⟩,by decide,hU _ ?_⟩
  clear hU U
  refine aB λU hU=>?_
  walk_at"l3"
  refine⟨1,(l.length:Int)+1,⟨rfl,rfl⟩,⟨by decide,by decide,by omega,by omega⟩,?_⟩
  have en:((l.length:Int)+1-1).toNat=l.length:=by omega
  rw[en]
  refine gh.mk (λi δ=>∃o,δ=[some (.lst false (aF l)),some (.lst false (aF g)),some (.int ((l.length:Int)+1)),some (.lst true (uZ l g (i+1))),o]) ⟨none,?_⟩ ?_ ?_
  ·rw[show((l.length:Int)+1).toNat=l.length+1 by omega];rfl
  ·rintro i d δ hd ⟨o,rfl⟩
   obtain⟨hi,rfl⟩:i<l.length/\d=.int (1+(i:Int)):=by
    rw[bZ]at hd
    by_cases hi:i<l.length
    ·rw[kg hi]at hd
     exact⟨hi,(cO hd).symm⟩
    ·rw[gJ (by simpa using hi)]at hd;cases hd
   walk_at"l3"
   refine⟨⟨_,rfl⟩,by decide,1,(l.length:Int)+1,⟨rfl,rfl⟩,⟨by decide,by decide,by omega,by omega⟩,?_⟩
   rw[en]
   refine eD (aL l.length) (λ(k:Nat)=>D.int (1+(k:Int))) (λ(k:Nat)=>D.int (l.getD ((g.getD (i+1) 0+g.getD (k+1) 0)%(l.length:Int)).toNat 0)) (by rw[w9]) (λx y h=>by injection h with h;omega) (λk hk=>?_) (.inr λ_ _=>rfl) (by rw[cB,sL];omega) ?_
   ·have Rp:=cV.mp hk
    walk_at"l3"
    have e1:(1+(i:Int)).toNat=i+1:=by omega
    have e2:(1+(k:Int)).toNat=k+1:=by omega
    have e3:(l.length:Int)+1-1=l.length:=by omega
    have n0:=fJ (g.getD (i+1) 0+g.getD (k+1) 0) (show(l.length:Int)≠0 by omega)
    have n1:=fX (g.getD (i+1) 0+g.getD (k+1) 0) (show(0:Int)<l.length by omega)
    refine⟨_,lQ (by omega) (by omega),_,lQ (by omega) (by omega),?_⟩
    rw[e1,e2,e3]
    exact⟨by omega,_,lQ n0 n1,rfl,rfl⟩
   ·walk_at"l3"
    refine⟨⟨by simp;omega,by rw[kS,cX];intro x _;rfl⟩,by simp[uZ];omega,_,?_,rfl⟩
    unfold uZ
    rw[DF (n:=i+1),fh]
    congr 1
    show _=[D.lst true (aF (oE l g (i+1)))]
    unfold oE
    rw[if_neg (by omega)]
    unfold aF
    rw[df,bR];rfl
  ·rintro δ ⟨o,rfl⟩
   refine hU _ ?_
   simp only[tI,qt,tJ,tK,tL,dT,mQ,nX,nY,dC,qi,qp,qm,ql,qo,tH,om,uw,qH,uA,uB,tu,tw,tD,tE,tF,tG,qk,uu,qC,qD,ii,qv,tX,qw,tY,tZ,t7,ua,ub,ud,iI,ia,ue,uf,ug,uh,qy,oi,uo,uq,gN,uE,uv,tM,tQ,tR,tS,tT,tU,uF,uG,n8,lK,gj,ju,iZ,pk,rY,v3,zQ,qq,ku,jX,qE,qF,m3,uJ,uK,uL,xX,uP,qO,uM,jv,x6,xY,xZ,df,jH,sC,sg,jl,zR,bj,pG,pH,jL,jM,v7,exists_eq_left',exists_eq_left,D.bl.injEq,D.int.injEq,D.lst.injEq,D.fz.injEq,D.str.injEq,D.tup.injEq,zS,and_true,true_and,dh,sA,mx,mq,xo,xp,xq,xt,xu,xv,fK,kr,oq,xC,xD,xE,xF,xG,dF,lF,xw,xx,xy,xB,gg,qf,zT,zU,rR,kT,zV,zW,vR,xM,xN,xO,xP,xQ,xR,xS,kE,mZ,qJ,j3,qK,xI,uI,xH,qL,xJ,xK,kF,uH,if_true,sk,if_false,reduceIte,xT,decide_eq_true_eq,dX,m4,ou,ya,lU,x9,tN,uV,qZ,u5,uO,qS,qT,qU,uX,vb,q8,rk,dR,oM,kG,yw,q9,vp,vq,rn,bq,cB]
   exact q
noncomputable abbrev aJ2(t:eV):ot:=λds Q Ex=>∃a b:Nat,ds=[.int a,.int b]/\bl a<=1000000/\bl b<=1000000/\(b=0->Ex t.iq)/\(b≠0->∀q r:Nat,a=cl q b ^^^ r->bl r<bl b->Q (.tup [.int q,.int r]))
theorem T1(T:Txt K mg t):aM P w K mg base (mO P w) 1 t.Ij t.Ik ["a","b"] (xV (aJ2 t )):=by
 refine PR T.Ku vv ?_ ?_
 ·intro ds Q Ex h
  obtain⟨a,b,rfl,ha,hb,qx,q⟩:=h<;>rfl
 ·intro aD A outer s H E hr
  refine⟨_,(aA (cR (bX (fP (cT hr)) (bv 1) (aa ao) (bG _)) (aE (PZ T.TQ rfl (by rfl) (ag (aa Pb) aw))) cQ)
   (aA (aU (i:=2) vv.nd rfl (ai rfl) ao)
   (aA (aU (i:=3) vv.nd rfl (ai rfl) (em 0))
   (aA (cE8 (tO eT (bX cN1 (aa (mY (bv 3))) (aa (mY (bv 1))) (bG _))
    (aA (aU (i:=4) vv.nd rfl (ai rfl) (az dQ (aa (mY (bv 3))) (aa (mY (bv 1)))))
    (aA (w5 (i:=2) vv.nd rfl (ai rfl) (aa (az t9 (aa ao) (bv 4))) AQ)
    (aE (w5 (i:=3) vv.nd rfl (ai rfl) (aa (az t9 (bv 1) (bv 4))) AQ))))))
   (aE (aV (mR (cq (em 2) (cq (em 3) cF))))))))),λds Q Ex h=>?_⟩
  obtain⟨a,b,rfl,ha,hb,qx,q⟩:=h
  refine aB λU hU=>?_
  walk_at"l3"
  split
  ·rename_i h0
   exact⟨by decide,qx (by omega)⟩
  ·rename_i h0
   have b0:b≠0:=by omega
   refine hU _ ?_
   clear hU U
   refine aB λU hU=>?_
   walk_at"l3"
   refine hU _ ?_
   clear hU U
   refine aB λU hU=>?_
   walk_at"l3"
   refine hU _ ?_
   clear hU U
   refine aB λU hU=>?_
   walk_at"l3"
   refine⟨λm δ=>∃(x r:Nat) (o sh:Option D),δ=[o,some (.int b),some (.int (x:Nat)),some (.int (r:Nat)),sh]/\a=cl x b ^^^ r/\bl r<=bl a/\m=bl r,
    ⟨bl a,0,a,_,none,rfl,by rw[nR,nF],bK _,rfl⟩,?_⟩
   rintro m δ ⟨x,r,o,sh,rfl,inv,hra,rfl⟩
   simp only[tI,qt,tJ,tK,tL,dT,mQ,nX,nY,dC,qi,qp,qm,ql,qo,tH,om,uw,qH,uA,uB,tu,tw,tD,tE,tF,tG,qk,uu,qC,qD,ii,qv,tX,qw,tY,tZ,t7,ua,ub,ud,iI,ia,ue,uf,ug,uh,qy,oi,uo,uq,gN,uE,uv,tM,tQ,tR,tS,tT,tU,uF,uG,n8,lK,gj,ju,iZ,pk,rY,v3,zQ,qq,ku,jX,qE,qF,m3,uJ,uK,uL,xX,uP,qO,uM,jv,x6,xY,xZ,df,jH,sC,sg,jl,zR,bj,pG,pH,jL,jM,v7,exists_eq_left',exists_eq_left,D.bl.injEq,D.int.injEq,D.lst.injEq,D.fz.injEq,D.str.injEq,D.tup.injEq,zS,and_true,true_and,dh,sA,mx,mq,xo,xp,xq,xt,xu,xv,fK,kr,oq,xC,xD,xE,xF,xG,dF,lF,xw,xx,xy,xB,gg,qf,zT,zU,rR,kT,zV,zW,vR,xM,xN,xO,xP,xQ,xR,xS,kE,mZ,qJ,j3,qK,xI,uI,xH,qL,xJ,xK,kF,uH,if_true,sk,if_false,reduceIte,xT,decide_eq_true_eq,dX,m4,ou,ya,lU,x9,tN,uV,qZ,u5,uO,qS,qT,qU,uX,vb,q8,rk,dR,oM,kG,yw,q9,vp,vq,rn,iN]
   split
   ·rename_i hc
    have hle:bl b<=bl r:=by omega
    have less:=OF b0 hle
    have es:(((bl r:Nat):Int)-((bl b:Nat):Int))=((bl r-bl b:Nat):Int):=by omega
    clear hU
    refine aB λU hU=>?_
    walk_at"l3"
    simp only[iN,es]
    refine hU _ ?_
    clear hU
    refine aB λU hU=>?_
    walk_at"l3"
    have o1:bl (1:Int).natAbs=1:=by decide
    refine⟨⟨by omega,by omega⟩,hU _ ?_⟩
    clear hU
    simp only[tI,qt,tJ,tK,tL,dT,mQ,nX,nY,dC,qi,qp,qm,ql,qo,tH,om,uw,qH,uA,uB,tu,tw,tD,tE,tF,tG,qk,uu,qC,qD,ii,qv,tX,qw,tY,tZ,t7,ua,ub,ud,iI,ia,ue,uf,ug,uh,qy,oi,uo,uq,gN,uE,uv,tM,tQ,tR,tS,tT,tU,uF,uG,n8,lK,gj,ju,iZ,pk,rY,v3,zQ,qq,ku,jX,qE,qF,m3,uJ,uK,uL,xX,uP,qO,uM,jv,x6,xY,xZ,df,jH,sC,sg,jl,zR,bj,pG,pH,jL,jM,v7,exists_eq_left',exists_eq_left,D.bl.injEq,D.int.injEq,D.lst.injEq,D.fz.injEq,D.str.injEq,D.tup.injEq,zS,and_true,true_and,dh,sA,mx,mq,xo,xp,xq,xt,xu,xv,fK,kr,oq,xC,xD,xE,xF,xG,dF,lF,xw,xx,xy,xB,gg,qf,zT,zU,rR,kT,zV,zW,vR,xM,xN,xO,xP,xQ,xR,xS,kE,mZ,qJ,j3,qK,xI,uI,xH,qL,xJ,xK,kF,uH,if_true,sk,if_false,reduceIte,xT,decide_eq_true_eq,dX,m4,ou,ya,lU,x9,tN,uV,qZ,u5,uO,qS,qT,qU,uX,vb,q8,rk,dR,oM,kG,yw,q9,vp,vq,rn,iN]
    refine⟨⟨by omega,by rw[iN];omega⟩,_,less,x ^^^ 2 ^ (bl r-bl b),r ^^^ b <<< (bl r-bl b),o,_,⟨rfl,?_,?_,rfl⟩,Zy inv,by omega,rfl⟩
    ·rw[show(1:Int)=((1:Nat):Int) from rfl,sV,mM,DK]
    ·rw[sV,mM]
   ·rename_i hc
    refine hU _ ?_
    walk_at"l3"
    refine⟨by decide,q b0 x r inv (by omega)⟩
noncomputable abbrev aJ3:bg:=λds Q=>∃a:Nat,ds=[.int a]/\bl a<=60/\Q (.bl (al a))
theorem aJ4(T:Txt K mg t):aM P w K mg base aQ 2 t.Il t.Im ["a"] (bh (aJ3 )):=by
 refine bA T.SN GP ?_ ?_
 ·intro ds Q h
  obtain⟨a,rfl,ha,q⟩:=h<;>rfl
 ·intro aD A outer s H E hr
  refine⟨_,(aA (cR (bX ui (bv 0) (aa ao) (bG _)) (aE (aV gP)) cQ)
   (aA (aU (i:=1) GP.nd rfl (ai rfl) (az oh (aa (az dQ (aa (mY (bv 0))) (aa ao))) (aa ao)))
   (aA (gi eT rfl (xb rfl T.gI (ag (aa ao) (ag (aa (az t9 (aa ao) (aa (az cH (bv 1) (aa ao))))) aw))) (cy (i:=2) GP.nd rfl (ai rfl))
    (aE (cR (bX (fP (cT hr)) (bC (aa (bu (Fp ((T1 T).mono (by decide))) hr rfl T.SK T.Ku.kp T.SM Fo (ag (bv 0) (ag (bv 2) aw)))) (aa ao) (λ_ _=>rfl)) (aa ao) (bG _)) (aE (aV gP)) cQ)))
   (aE (aV gP))))),λds Q h=>?_⟩
  obtain⟨a,rfl,ha,q⟩:=h
  refine aB λU hU=>?_
  walk_at"l3"
  split
  ·rename_i h2
   rw[ZL (by omega)]at q;exact q
  ·rename_i h2
   have h2:2<=a:=by omega
   have hp:=g9 (show a≠0 by omega)
   refine hU _ ?_
   clear hU U
   refine aB λU hU=>?_
   walk_at"l3"
   simp only[iN]
   refine⟨og (by omega) (by omega),hU _ ?_⟩
   clear hU U
   have eh:((((bl a:Nat):Int)-1)/2+1)=(((bl a-1)/2+1:Nat):Int):=by omega
   have e1:(1:Int)*2 ^ ((((bl a:Nat):Int)-1)/2+1).toNat=((2 ^ ((bl a-1)/2+1):Nat):Int):=by
    rw[eh,show(1:Int)=((1:Nat):Int) from rfl,sV,DK]
   have big:2 ^ ((bl a-1)/2+1)<=2 ^ 40:=vT (by decide) (by omega)
   have o1:bl (1:Int).natAbs=1:=by decide
   refine aB λU hU=>?_
   walk_at"l3"
   rw[e1]
   have ea1:((2 ^ ((bl a-1)/2+1):Nat):Int)<=2 ^ 40:=by exact_mod_cast big
   have nn:(0:Int)<=((2 ^ ((bl a-1)/2+1):Nat):Int):=MR _
   refine⟨⟨by omega,by omega⟩,_,_,⟨rfl,rfl⟩,⟨by decide,by decide,by omega,by omega⟩,?_⟩
   have en:(((2 ^ ((bl a-1)/2+1):Nat):Int)-2).toNat=2 ^ ((bl a-1)/2+1)-2:=by omega
   rw[en]
   refine gh.mk (λi δ=>(∃o1 o2,δ=[some (.int a),o1,o2])/\∀j,j<i->md a (2+j)≠0) ⟨⟨_,_,rfl⟩,λj hj=>absurd hj (by omega)⟩ ?_ ?_
   ·rintro i d δ hd ⟨⟨o1,o2,rfl⟩,inv⟩
    obtain⟨hi,rfl⟩:i<2 ^ ((bl a-1)/2+1)-2/\d=.int (2+(i:Int)):=by
     rw[bZ]at hd
     by_cases hi:i<2 ^ ((bl a-1)/2+1)-2
     ·rw[kg hi]at hd
      exact⟨hi,(cO hd).symm⟩
     ·rw[gJ (by simpa using hi)]at hd;cases hd
    have bi:bl (2+i)<=60:=by
     have:=(ZO h2 (show 2+i<2 ^ ((bl a-1)/2+1) by omega)).2
     omega
    walk_at"l3"
    refine⟨a,2+i,by rw[show((2+i:Nat):Int)=2+(i:Int) by omega],by omega,by omega,by omega,λ_ x r e l=>?_⟩
    have em:md a (2+i)=r:=wM e l
    refine⟨.int r,rfl,rfl,?_⟩
    rw[kF]
    split
    ·rename_i hz
     have r0:r=0:=by have:=of_decide_eq_true hz;omega
     rw[ZN hi (em.trans r0)]at q
     exact q
    ·rename_i hz
     refine⟨⟨_,_,rfl,rfl⟩,λj hj=>?_⟩
     by_cases ej:j=i
     ·rw[ej,em]
      intro r0
      exact hz (decide_eq_true (by omega))
     ·exact inv j (by omega)
   ·rintro δ ⟨⟨o1,o2,rfl⟩,inv⟩
    rw[bq,cB]at inv
    rw[ZM h2 inv]at q
    refine hU _ ?_
    walk_at"l3"
    exact q
noncomputable abbrev aB2:bg:=λds Q=>∃a:Int,ds=[.int a]/\Q (.bl (decide (4<=a)&&decide (a<=127)&&al a.toNat))
theorem aB3(T:Txt K mg t):aM P w K mg base aQ 3 t.Io t.Ip ["bits"] (bh (aB2 )):=by
 refine bA T.SO az4 ?_ ?_
 ·intro ds Q h
  obtain⟨a,rfl,q⟩:=h<;>rfl
 ·intro aD A outer s H E hr
  refine⟨_,(aE (aV (n6 (aa (ur kA kA (aa ao) (bv 0) (aa ao))) (sM (bu ((aJ4 T).mono (by decide)) hr rfl T.dg6 T.SN.kp T.dg7 aR (ag (bv 0) aw)))))),λds Q h=>?_⟩
  obtain⟨a,rfl,q⟩:=h
  walk_at"l3"
  split
  ·rename_i h1
   split
   ·rename_i h2
    refine⟨a.toNat,by rw[nI (by omega)],?_,?_⟩
    ·have:bl a.toNat<=bl 127:=Et (by omega)
     exact fg this (by decide)
    ·have e:(decide (4<=a)&&decide (a<=127)&&al a.toNat)=al a.toNat:=by simp[h1,h2]
     rw[e]at q;exact q
   ·rename_i h2
    have e:(decide (4<=a)&&decide (a<=127)&&al a.toNat)=false:=by simp[h2]
    rw[e]at q;exact q
  ·rename_i h1
   have e:(decide (4<=a)&&decide (a<=127)&&al a.toNat)=false:=by simp[h1]
   rw[e]at q;exact q
noncomputable abbrev aM4:bg:=λds Q=>∃a b:Nat,ds=[.int a,.int b]/\bl a<=1000/\bl b<=1000/\Q (.int (cl a b:Nat))
theorem aM5(T:Txt K mg t):aM P w K mg base aQ 1 t.Iq t.Ir ["a","b"] (bh (aM4 )):=by
 refine bA T.SQ BV ?_ ?_
 ·intro ds Q h
  obtain⟨a,b,rfl,ha,hb,q⟩:=h<;>rfl
 ·intro aD A outer s H E hr
  refine⟨_,(aA (aU (i:=2) BV.nd rfl (ai rfl) ao)
   (aA (gi eT rfl (js rfl T.gI (ag (aa (mY (bv 1))) aw)) (cy (i:=3) BV.nd rfl (ai rfl))
    (aE (cR (bX (fP (cT hr)) (aa (az Pp (aa (az Po (bv 1) (bv 3))) (aa ao))) (aa ao) (bG _)) (aE (w5 (i:=2) BV.nd rfl (ai rfl) (aa (az t9 (bv 0) (bv 3))) AQ)) cQ)))
   (aE (aV (em 2))))),λds Q h=>?_⟩
  obtain⟨a,b,rfl,ha,hb,q⟩:=h
  refine aB λU hU=>?_
  walk_at"l3"
  refine hU _ ?_
  clear hU U
  refine aB λU hU=>?_
  walk_at"l3"
  simp only[iN]
  refine⟨⟨by omega,by omega⟩,xU (λi δ=>∃o,δ=[some (.int a),some (.int b),some (.int (Mf.P a b i:Nat)),o]) ⟨none,rfl⟩ ?_ ?_⟩
  ·rintro i δ hi ⟨o,rfl⟩
   walk_at"l3"
   refine⟨by omega,?_⟩
   have CF:(nD ((b:Int)/2 ^ ((i:Int)).toNat) 1=1)↔b.testBit i=true:=by
    have h:=ZU b i
    rw[Nf]at h
    rw[<-h,dI]
   split
   ·rename_i hc
    have h:=ZV (a:=a) (CF.mp hc)
    rw[Nf]at h
    exact⟨⟨by omega,by rw[iN];omega⟩,_,h,rfl⟩
   ·rename_i hc
    exact⟨_,by rw[ZW (λz=>hc (CF.mpr z))],rfl⟩
  ·rintro δ ⟨o,rfl⟩
   refine hU _ ?_
   walk_at"l3"
   exact q
noncomputable abbrev aP5:List D->List Str->List D->Prop:=λds ns xs=>∃p:Nat,ds=[.int p]/\p∈gD/\ns=ie "bits"++[("products":Str)]/\xs=[.int p,.int (ae (true,p)),.int ((bl (ae (true,p)):Nat)-1),.lst true (aF (fl (true,p))),.lst true (aF (eE (fl (true,p)))),.int (fst (true,p)),.lst true (oF (fl (true,p)) (eE (fl (true,p))))]
theorem aG8(T:Txt K mg t)(hB:Bm mg base):aM P w K mg base aQ 8 t.Iu t.BZ ["self","bits"] (FJ [t.iJ,t.iK] t.aH aP5):=by
 refine QB T.aI6 T.aG6 Se (λvs H Q E h=>?_) λA outer s H vs Q E hr h=>?_
 ·obtain⟨x,dx,bS,ds,ns,xs,rfl,_,_,r,⟨p,rfl,_⟩,_⟩:=h
  have:=r.length
  simp at this
  simp[this]
 obtain⟨x,dx,bS,ds,ns,xs,rfl,tb,hx,r,⟨p,rfl,hp,rfl,rfl⟩,q⟩:=h
 obtain rfl:bS=[.int p]:=by
  cases r with
  | int r=>cases r;rfl
 have hm:(true,p)∈aG:=eR _ (zL hp)
 have hF:=cU hm
 refine⟨_,eN (pQ (Ad (Ab (iT ((aB3 T).mono (by decide)) hr rfl T.dg8 T.SO.kp T.dg9 .nil aR (bV (pv 1) eU)))) (iP pS) pO)
  (eN (gM (pv 0) (pv 1) rfl)
  (eN (DW (i:=2) Se.nd rfl (ai rfl) (wA OR pL (wA D6 (Eu (pv 1)) pL)))
  (eN (pP (Qt (E:=E0) (i:=1) T.TK ((TY T).mono (by decide)) hr T.SH rfl T.CC rfl rfl rfl rfl (bV (pv 0) (bV (pv 2) (bV (Ql rfl rfl T.aG7 hB) eU)))))
  (iP (gM (pv 0) (iT ((aJ1 T).mono (by decide)) hr rfl T.dg4 T.SJ.kp T.dg5 .nil aR (bV (pZ (pv 0) rfl) (bV (pZ (pv 0) rfl) eU))) rfl))))),?_⟩
 refine⟨_,rfl,H,[.int p],λd=>d=.bl true,af.refl _,.int .nil,⟨p,rfl,by rw[cl0 p hp]⟩,λd v F' H1 A1 hd eI hf he h3 r nd fr=>?_⟩
 subst hd
 cases r
 refine⟨true,rfl,?_⟩
 refine iC ?_
 have cm:=eI.get _ _ hx
 refine⟨.int p,rfl,.ref x,rfl,x,t.aH,dx,_,rfl,cm,T.eX,T.KQ,by decide,?_⟩
 generalize e2:upd H1 x (HO.ins t.aH dx (bz "bits" (.int p) []))=H2
 have dO:H2 x=some (.ins t.aH dx [(("bits":Str),.int p)]):=by rw[<-e2,bL];rfl
 have s2:bI x H H2:=by rw[<-e2];exact(eI.x (x:=x)).trans (bI.upd (C:=x) (dx:=dx) cm rfl)
 have n2:∀p,H2 p=none->H p=none:=λp h=>eI.free (yp cm (by rw[e2];exact h))
 obtain⟨ps,hP⟩:=tb t.iK (by simp)
 obtain⟨more,Lj⟩:=s2.tb _ ps hP
 have bp:bl p<=7:=QK p hp
 have CG:1<=bl p:=QL p hp
 refine⟨.int p,rfl,rfl,p,rfl,rfl,_,_,rfl,rfl,_,_,rfl,rfl,?_,?_⟩
 ·have o1:bl (1:Int).natAbs=1:=by decide
  rw[iN]
  exact⟨by omega,by omega⟩
 have em:(1:Int)*2 ^ (((bl ((p:Int)).natAbs:Nat):Int)-1).toNat=((ae (true,p):Nat):Int):=by
  rw[iN,show(((bl p:Nat):Int)-1)=((bl p-1:Nat):Int) by omega,show(1:Int)=((1:Nat):Int) from rfl,sV,DK];rfl
 show Ag 2 (.int ((1:Int)*2 ^ (((bl ((p:Int)).natAbs:Nat):Int)-1).toNat)) _ _ _
 rw[em]
 refine⟨.ref x,rfl,.int (ae (true,p)),rfl,⟨_,Lj⟩,λf k qn pm je H3 nf y6 hk kf gU hl3=>?_⟩
 refine⟨f,_,_,.int p,y6,rfl,rfl,λoc u iO hu nc oA=>?_⟩
 obtain⟨tm,rfl⟩:∃tm,u=nC p tm:=hu
 have eY:=gU.get _ _ dO
 refine⟨x,dx,f,t.aH,"bits",p,ae (true,p),_,oc,_,k,gm (true,p),fl (true,p),fst (true,p),rfl,yq eY (λz=>by rw[z,nf]at dO;cases dO) nc,by decide,⟨T.eX,T.rz,T.KS,T.vB,T.vA,T.KR,T.yP⟩,QG oA nc hk kf,?_,hF,λH' p1 p2 sx da Lk Au ne y0 rF=>?_⟩
 ·refine Qy (n:=3) ⟨rfl,rfl,rfl,by decide,rfl,rfl,by decide,by decide,rfl⟩ iO (λu1 u2=>rfl) λq f A outer s H E hr=>?_
  refine⟨_,dq (bC (aa (bu (Fp ((T1 T).mono (by decide))) hr rfl T.SK T.Ku.kp T.SM Fo (ag (aa (bu ((aM5 T).mono (by decide)) hr rfl T.dh0 T.SQ.kp T.dh1 aR (ag (bv 0) (ag (bv 1) aw)))) (ag (bv 2) aw)))) (aa ao) (λ_ _=>rfl)),λi j Qd h=>?_⟩
  obtain⟨a,b,rfl,rfl,ha,hb,hq⟩:=h
  walk_at"l3"
  have b1:bl a<=6:=by
   have:bl a<=bl 63:=Et (by omega)
   exact fg this (by decide)
  have b2:bl b<=6:=by
   have:bl b<=bl 63:=Et (by omega)
   exact fg this (by decide)
  have p0:p≠0:=by
   intro z
   rw[z]at CG
   exact absurd CG (by decide)
  refine⟨a,b,rfl,by omega,by omega,cl a b,p,rfl,fg (b91 a b) (by omega),by omega,λz=>p0 z,λ_ x r e l=>⟨by simp[D.pl],.int r,rfl,rfl,r,rfl,?_⟩⟩
  have er:gm (true,p) a b=r:=wM e l
  rw[<-er];exact hq
 ·have gf:H' f=some (.ext (jr _ oc _ f)):=sx.get f _ (λz=>by rw[z]at nf;rw[nf]at dO;cases dO) (by rw[bc oA.symm,bL]) rfl
  have gc:=sx.get _ _ (eK eY nc).symm bL rfl
  refine⟨gf,gc,?_⟩
  have s4:=s2.trans (QF gU nf nc sx)
  have f1:=n2 _ (Bl gU y0)
  have f2:=n2 _ (Bl gU rF)
  have l1:=Lk.rem gf gc
  have l2:=Au.rem gf gc
  have ji:rem H' f (s.heap.objs.size+1) x=some (.ins t.aH dx ((ie "bits").zip (Bj p (ae (true,p)) p1 p2 (fst (true,p))))):=by
   rw[ib (λz=>by rw[z,gf]at da;cases da) (λz=>by rw[z,gc]at da;cases da)];exact da
  generalize rem H' f (s.heap.objs.size+1)=H4 at s4 l1 l2 ji
  refine⟨.ref x,rfl,x,t.aH,dx,_,.ref p1,rfl,ji,T.eX,T.vB,rfl,.ref x,rfl,x,t.aH,dx,_,.ref p2,rfl,ji,T.eX,T.vA,rfl,H4,[.lst false (aF (fl (true,p))),.lst false (aF (eE (fl (true,p))))],λd=>d=.lst true (oF (fl (true,p)) (eE (fl (true,p)))),af.refl _,.shr l1 (kD _) (.shr l2 (kD _) .nil),
   ⟨_,_,rfl,by have:=hF.len;have:=hF.lo;omega,by have:=hF.len;have:=hF.hi;omega,yn _ _,QJ _ _,rfl⟩,λd v F' H5 A' hd j9 hf he h3 r nd fr=>?_⟩
  subst hd
  obtain⟨p3,rfl⟩:∃p3,v=.ref p3:=by cases r;exact⟨_,rfl⟩
  have iM:=j9.get _ _ ji
  have nA:∀{a ws},H4 a=some (.lst ws)->a ∉ A':=λ{a ws} e z=>by rw[fr a z]at e;cases e
  refine⟨.ref x,rfl,x,t.aH,dx,_,rfl,iM,T.eX,T.rA,mn (bK 6) (by decide),?_⟩
  refine q _ (Bj p (ae (true,p)) p1 p2 (fst (true,p))++[.ref p3]) (p1::p2::A') ((s4.trans (j9.x (x:=x))).trans (bI.upd (C:=x) (dx:=dx) iM rfl)) (by rw[bL];rfl) rfl ?_ ?_ ?_
  ·exact .int (.int (.int (.own ((l1.same j9).upd iM (λws z=>by cases z)) rfl (kD _) (.own ((l2.same j9).upd iM (λws z=>by cases z)) rfl (kD _) (.int ((r.qg (by simp[gg,QI]) (af.of λb o e=>by cases e)).qV iM (by simp[gg,QI])))))))
  ·exact kQ.mpr ⟨by simp[ne];exact nA l1,kQ.mpr ⟨nA l2,nd⟩⟩
  ·intro a ha
   rcases cA.mp ha with rfl | ha
   ·exact f1
   ·rcases cA.mp ha with rfl | ha
    ·exact f2
    ·exact s4.free (by rw[ji];simp) (fr a ha)
noncomputable abbrev aM6(cb cp:Addr):bg:=λds Q=>∃m:Bool × Nat,ds=[dk m]/\m∈aG/\Q (fD cb cp m)
theorem aM7(T:Txt K mg t)(hB:Bm mg base):aM P w K mg base aQ 10 t.Iw t.Iy ["_law_told_here"] (uS [t.iJ,t.iK] (bh (aM6 t.aH t.aN))):=by
 refine FG T.SR aL6 ?_ ?_
 ·intro ds Q h
  obtain⟨m,rfl,hm,q⟩:=h<;>rfl
 ·intro aD A outer s H E hT hr
  refine⟨_,(aA (cR (iX (bC (bv 0) (aa ao) (λ_ _=>rfl))) (aE (aV (QC hT T.KP ((aG8 T hB).mono (by decide)) hr rfl T.Le T.aI7 aR (ag (bC (bv 0) (aa ao) (λ_ _=>rfl)) aw)))) cQ)
   (aE (aV (QC hT T.K0 ((aB1 T hB).mono (by decide)) hr rfl T.Lg T.aD7 aR (ag (bC (bv 0) (aa ao) (λ_ _=>rfl)) aw))))),λds Q h=>?_⟩
  obtain⟨m,rfl,hm,q⟩:=h
  unfold dk at *
  refine aB λU hU=>?_
  walk_at"l3"
  obtain⟨b,n⟩:=m
  cases b with
  | true =>
   refine⟨_,rfl,true,rfl,?_⟩
   rw[if_pos rfl]
   refine⟨_,rfl,_,_,⟨n,rfl,u4 hm,rfl,rfl⟩,?_⟩
   rw[cv1];exact q
  | false =>
   refine⟨_,rfl,false,rfl,?_⟩
   rw[if_neg (by decide)]
   refine hU _ ?_
   walk_at"l3"
   refine⟨_,rfl,_,_,⟨n,rfl,bI3 hm,rfl,rfl⟩,?_⟩
   rw[b75];exact q
noncomputable abbrev aP6:bg:=λds Q=>∃(ns:List Int) (k:Int),ds=[.fz (aF ns),.int k]/\0<=k/\Q (.int (ns.getD k.toNat 0))
theorem ka(T:Txt K mg t):aM P w K mg base aQ 1 t.Iz t.IA ["_law_script","_law_k"] (bh (aP6 )):=by
 refine bA T.jG aO1 ?_ ?_
 ·intro ds Q h
  obtain⟨ns,k,rfl,hk,q⟩:=h<;>rfl
 ·intro aD A outer s H E hr
  refine⟨_,(aA (cR (bX ui (bv 1) (aa (di (gR) (by rfl) T.gH gA (ag (bv 0) aw))) (bG _)) (aE (aV (dq (bC (bv 0) (bv 1) (λ_ _=>rfl))))) cQ)
   (aE (aV ao))),λds Q h=>?_⟩
  obtain⟨ns,k,rfl,hk,q⟩:=h
  refine aB λU hU=>?_
  walk_at"l3"
  split
  ·rename_i h
   exact⟨_,lQ hk h,rfl,q⟩
  ·rename_i h
   refine hU _ ?_
   walk_at"l3"
   rw[aY,gJ (by omega)]at q
   exact q
noncomputable def kN(c k:Int):Int:=(c%999983+7*k+1)*(k*k+48271)%1000003
noncomputable abbrev aM8:bg:=λds Q=>∃(c k:Int),ds=[.int c,.int k]/\0<=k/\k<=100000/\Q (.int (kN c k))
theorem Ll(T:Txt K mg t):aM P w K mg base aQ 1 t.IB t.IC ["_law_cell_here","_law_k"] (bh (aM8 )):=by
 refine bA T.B7 aL7 ?_ ?_
 ·intro ds Q h
  obtain⟨c,k,rfl,k0,k1,q⟩:=h<;>rfl
 ·intro aD A outer s H E hr
  refine⟨_,(aE (aV (az cS (aa (az fM (aa (az cH (aa (az cH (aa (az cS (bv 0) (aa ao))) (aa (az fM (aa ao) (bv 1))))) (aa ao))) (aa (az cH (aa (az fM (bv 1) (bv 1))) (aa ao))))) (aa ao)))),λds Q h=>?_⟩
  obtain⟨c,k,rfl,k0,k1,q⟩:=h
  walk_at"l3"
  have c0:=fJ c (show(999983:Int)≠0 by decide)
  have c1:=fX c (show(0:Int)<999983 by decide)
  exact⟨by decide,gY.ok (.inl ⟨by decide,by decide⟩),gY.ok (.inl ⟨by omega,by omega⟩),gY.ok (.inl ⟨by omega,by omega⟩),by decide,q⟩
noncomputable abbrev aB4:bg:=λds Q=>∃(M n e:Nat) (c:Int) (b:Bool),ds=[.int M,.int n,.int e,.int c,.bl b]/\1<=M/\M<=64/\n<=16/\e<=16/\∀T:List (List Nat),T.length=e->RT M n T->Q (.lst true (ay true T))
theorem aB5(T:Txt K mg t):aM P w K mg base aQ 2 t.ID t.IE ["_law_many_here","_law_length","_law_extra","_law_cell_here","_law_sparse"] (bh (aB4 )):=by
 refine bA T.SS yG ?_ ?_
 ·intro ds Q h
  obtain⟨M,n,e,c,b,rfl,hM,du6,hn,he,q⟩:=h<;>rfl
 ·intro aD A outer s H E hr
  refine⟨_,(aA (aU (i:=5) yG.nd rfl (ai rfl) (dP cF))
   (aA (gi eT rfl (js rfl T.gI (ag (bv 2) aw)) (cy (i:=6) yG.nd rfl (aX rfl))
    (aA (Rv (i:=7) yG.nd rfl (ai rfl) [("_law_many_here",0),("_law_cell_here",3),("_law_i",6)] ["_law_at"] rfl (js rfl T.gI (ag (bv 1) aw)) (λ_ _ _ _=>(cy (i:=3) (show(["_law_many_here","_law_cell_here","_law_i","_law_at"]:List Str).Nodup by decide +kernel) rfl (ai (lookup_relabel_local rfl)) (by decide) (aX (lookup_relabel_local rfl)))) (λ_ _ _ _=>du) (λ_ _ _ _=>(az cS (aa (az oh (aa (bu ((Ll T).mono (by decide)) hr rfl T.Kv T.B7.kp T.Kw aR (ag (bv 1) (ag (aa (az cH (aa (az fM (bv 2) (aa ao))) (bv 3))) aw)))) (aa ao))) (bv 0))) rfl ⟨rfl,⟨rfl,⟨rfl,trivial⟩⟩⟩ (λ_=>by repeat' (first | exact trivial | refine⟨.inl rfl,?_⟩ | refine⟨.inr (.inl rfl),?_⟩ | refine⟨.inr (.inr ⟨_,rfl⟩),?_⟩)) (λ_=>⟨⟨rfl,.inl rfl,.inl rfl,_,rfl,rfl⟩,⟨⟨rfl,.inl rfl,.inl rfl,_,rfl,rfl⟩,⟨⟨rfl,.inl rfl,.inl rfl,_,rfl,rfl⟩,trivial⟩⟩⟩) rfl (by decide +kernel))
    (aA (cR (iX (bv 4)) (aE (Rv (i:=7) yG.nd rfl (ai rfl) [("_law_cell_here",3),("_law_i",6)] ["_law_at","_law_x"] rfl (qN rfl T.rE (ag (bv 7) aw)) (λ_ _ _ _=>(i8 (i1:=2) (i2:=3) rfl (show(["_law_cell_here","_law_i","_law_at","_law_x"]:List Str).Nodup by decide +kernel) rfl (ai (lookup_relabel_local rfl)) rfl (ai (lookup_relabel_local rfl)) (by decide) (by decide) (aX (lookup_relabel_local rfl)) (aX (lookup_relabel_local rfl)))) (λ_ _ _ _=>du) (λ_ _ _ _=>(az fM (bv 3) (aa (az cS (aa (az oh (aa (bu ((Ll T).mono (by decide)) hr rfl T.Kv T.B7.kp T.Kw aR (ag (aa (az cH (bv 0) (aa ao))) (ag (aa (az cH (aa (az fM (bv 1) (aa ao))) (bv 2))) aw)))) (aa ao))) (aa ao))))) rfl ⟨rfl,⟨rfl,trivial⟩⟩ (λ_=>by repeat' (first | exact trivial | refine⟨.inl rfl,?_⟩ | refine⟨.inr (.inl rfl),?_⟩ | refine⟨.inr (.inr ⟨_,rfl⟩),?_⟩)) (λ_=>⟨⟨rfl,.inl rfl,.inl rfl,_,rfl,rfl⟩,⟨⟨rfl,.inl rfl,.inl rfl,_,rfl,rfl⟩,trivial⟩⟩) rfl (by decide +kernel))) cQ)
    (aE (lN (i:=5) rfl (by first | exact ai rfl | exact aX (ai rfl)) (em 7))))))
   (aE (aV (em 5))))),λds Q h=>?_⟩
  obtain⟨M,n,e,c,b,rfl,hM,du6,hn,he,q⟩:=h
  have Lm:∀z:Int,z%(M:Int)=(((z%(M:Int)).toNat:Nat):Int):=λz=>by
   have n0:=fJ z (show(M:Int)≠0 by omega)
   omega
  have Ln:∀z:Int,(z%(M:Int)).toNat<M:=λz=>by
   have n1:=fX z (show(0:Int)<(M:Int) by omega)
   omega
  refine aB λU hU=>?_
  walk_at"l3"
  refine⟨by decide,hU _ ?_⟩
  clear hU U
  refine aB λU hU=>?_
  walk_at"l3"
  refine⟨⟨by omega,by omega⟩,xU (λi δ=>∃(G:List (List Nat)) (o1 o2:Option D),δ=[some (.int M),some (.int n),some (.int e),some (.int c),some (.bl b),some (.lst true (ay true G)),o1,o2]/\G.length=i/\RT M n G) ⟨[],_,_,rfl,rfl,λ_ h=>nomatch h⟩ ?_ ?_⟩
  ·rintro i δ hi ⟨G,o1,o2,rfl,hG,hR⟩
   simp only[gN,jM,jL]
   clear hU
   refine aB λU hU=>?_
   walk_at"l3"
   refine⟨⟨by omega,by omega⟩,eD (aL n) (λ(i:Nat)=>D.int (i:Int)) (λk=>D.int (((kN c ((i:Int)*16+(k:Int))/5%(M:Int)).toNat:Nat):Int)) (oJ _ rfl) jc (λk hk=>?_) (.inr λ_ _=>rfl) (by rw[cB,sL];omega) ?_⟩
   ·have hk:=cV.mp hk
    walk_at"l3"
    exact⟨gY.ok (.inl ⟨by omega,by omega⟩),_,_,rfl,by omega,by omega,og (by decide) (by decide),by omega,Lm _⟩
   obtain⟨row,er,rG,rH⟩:∃wd:List Nat,((aL n).map λ(k:Nat)=>D.int (((kN c ((i:Int)*16+(k:Int))/5%(M:Int)).toNat:Nat):Int))=aj wd/\AllLt M wd/\wd.length=n:=by
    refine⟨(aL n).map λ(k:Nat)=>(kN c ((i:Int)*16+(k:Int))/5%(M:Int)).toNat,by rw[bY,bR];rfl,λa ha=>?_,by simp⟩
    obtain⟨k,_,rfl⟩:=bD.mp ha
    exact Ln _
   rw[er]
   refine hU _ ?_
   clear hU
   refine aB λU hU=>?_
   walk_at"l3"
   have fin:∀row:List Nat,AllLt M row->row.length=n->U [some (D.int M),some (D.int n),some (D.int e),some (D.int c),some (D.bl b),some (D.lst true (ay true G)),some (D.int i),some (D.lst true (aj row))]:=by
    clear er rG rH row
    intro row rG rH
    refine hU _ ?_
    walk_at"l3"
    refine⟨⟨_,rfl⟩,by omega,G++[row],_,_,⟨rh true G [row],rfl,rfl⟩,by rw[dm,hG];rfl,hR.app λx hx=>?_⟩
    rw[fv]at hx
    rw[hx];exact⟨rH,rG⟩
   clear hU
   cases b with
   | false=>exact fin row rG rH
   | true =>
    rw[if_pos rfl]
    have e2:∀z:Int,z%2=0\/z%2=1:=λz=>by omega
    refine FQ (aL row.length) (λ(k:Nat)=>D.tup [.int (k:Int),.int ((row.getD k 0:Nat):Int)]) (λk=>D.int ((row.getD k 0*(kN (c+7) ((i:Int)*16+(k:Int))/3%2).toNat:Nat):Int)) (FZ row) (λa b h=>by injection h with h;simp at h;omega) (λk hk=>?_) FR (.inr λ_ _=>rfl) (by rw[cB,sL];omega) ?_
    ·have hk:=cV.mp hk
     walk_at"l3"
     refine⟨gY.ok (.inl ⟨by omega,by omega⟩),_,_,rfl,by omega,by omega,og (by decide) (by decide),by decide,gY.ok (.inr ⟨by omega,by omega⟩),?_⟩
     rw[sE,nI (by omega)]
    dsimp only[jM,jL]
    rw[show((aL row.length).map λ(k:Nat)=>D.int ((row.getD k 0*(kN (c+7) ((i:Int)*16+(k:Int))/3%2).toNat:Nat):Int))=aj ((aL row.length).map λk=>row.getD k 0*(kN (c+7) ((i:Int)*16+(k:Int))/3%2).toNat) by rw[bY,bR];rfl]
    refine fin _ (λa ha=>?_) (by rw[bq,cB,rH])
    obtain⟨k,_,rfl⟩:=bD.mp ha
    have h1:=rG.getD (show 0<M by omega) k
    rcases e2 (kN (c+7) ((i:Int)*16+(k:Int))/3)with h | h
    ·rw[h];show row.getD k 0*0<M;omega
    ·rw[h];show row.getD k 0*1<M;omega
  ·rintro δ ⟨G,o1,o2,rfl,hG,hR⟩
   refine hU _ ?_
   walk_at"l3"
   exact q G hG hR
noncomputable abbrev aS3:bg:=λds Q=>∃T:List (List Nat),ds=[.lst false (ay false T)]/\T.length<=1000/\(∀r∈T,r.length<=1000)/\Q (.int (av T:Nat))
theorem CH(T:Txt K mg t):aM P w K mg base aQ 1 t.IF t.IG ["table"] (bh (aS3 )):=by
 refine bA T.yO aR4 ?_ ?_
 ·intro ds Q h
  obtain⟨G,rfl,hG,hr,q⟩:=h<;>rfl
 ·intro aD A outer s H E hr
  refine⟨_,(aE (aV (cN0 (bX (i6 (cT hr)) (bv 0) (aa (dP cF)) (bG _)) (di (gR) (by rfl) T.gH gA (ag (bC (bv 0) (aa ao) (λ_ _=>rfl)) aw)) ao))),λds Q h=>?_⟩
  obtain⟨G,rfl,hG,hr,q⟩:=h
  walk_at"l3"
  refine⟨by decide,⟨Rc 4 _ _ _,rfl⟩,?_⟩
  rw[show(D.lst true ([]:List D))=D.lst true (ay true []) from rfl,ci1]
  cases G with
  | nil=>rw[if_neg (by simp)];exact q
  | cons r G =>
   rw[if_pos (by simp)]
   refine⟨.lst false (aj r),yx false (T:=r::G) (i:=0) (Nv _),?_⟩
   show Q (D.int ((aj r).length:Nat))
   rw[dX];exact q
noncomputable abbrev aM9:bg:=λds Q=>∃(T:List (List Nat)) (j:Nat),ds=[.lst false (ay false T),.int j]/\T.length<=1000/\(∀r∈T,j<r.length)/\Q (match jz T j with | some i=>.int (i:Nat) | none=>.au)
theorem aN0(T:Txt K mg t):aM P w K mg base aQ 1 t.IH t.II ["rows","place"] (bh (aM9 )):=by
 refine bA T.SU Sf ?_ ?_
 ·intro ds Q h
  obtain⟨G,j,rfl,hG,hr,q⟩:=h<;>rfl
 ·intro aD A outer s H E hr
  refine⟨_,(aA (gi eT rfl (qN rfl T.rE (ag (bv 0) aw)) (i8 (i1:=2) (i2:=3) rfl Sf.nd rfl (ai rfl) rfl (ai rfl))
    (aE (cR (bX (i6 (cT hr)) (bC (bv 3) (bv 1) (λ_ _=>rfl)) (aa ao) (bG _)) (aE (aV (em 2))) cQ)))
   (aE (aV AH))),λds Q h=>?_⟩
  obtain⟨G,j,rfl,hG,hr,q⟩:=h
  refine aB λU hU=>?_
  walk_at"l3"
  refine gh.mk (λi δ=>∃o1 o2,δ=[some (D.lst false (ay false G)),some (D.int j),o1,o2]/\∀k,k<i->(G.getD k []).getD j 0=0) ⟨_,_,rfl,λk hk=>absurd hk (Nat.not_lt_zero k)⟩ ?_ ?_
  ·rintro i d δ hd ⟨o1,o2,rfl,hz⟩
   obtain⟨hi,rfl⟩:=Ri hd
   have hj:=hr _ (dN hi)
   have eg:G.getD i []=G[i]:=by rw[aY,aS hi];rfl
   walk_at"l3"
   refine⟨.int (G[i].getD j 0:Nat),by rw[oI (by omega) (by omega),gy],rfl,?_⟩
   rw[kF]
   by_cases h0:G[i].getD j 0=0
   ·rw[if_neg (by rw[h0];decide)]
    refine⟨_,_,⟨rfl,rfl⟩,λk hk=>?_⟩
    by_cases e:k=i
    ·rw[e,eg];exact h0
    ·exact hz k (by omega)
   ·rw[if_pos (by rw[decide_eq_false (by omega)];rfl)]
    have ef:jz G j=some i:=by
     unfold jz
     rw[Wv]
     refine⟨hi,by simpa using h0,λk hk=>?_⟩
     have:=hz k hk
     rw[aY (l:=G),aS (by omega)]at this
     simpa using this
    rw[ef]at q
    exact q
  ·rintro δ ⟨o1,o2,rfl,hz⟩
   refine hU _ ?_
   walk_at"l3"
   have ef:jz G j=none:=by
    unfold jz
    rw[Ww]
    intro r bo
    obtain⟨i,hi,rfl⟩:=ke bo
    have:=hz i (by rw[qM,kG];exact hi)
    rw[aY (l:=G),aS hi]at this
    simpa using this
   rw[ef]at q
   exact q
noncomputable abbrev T2(K:Frag):bg:=λds Q=>∃(C:Addr) (p a:Nat) (xs:List Nat),ds=[qX C p,.int a,.lst false (aj xs)]/\cw K C/\bf K C "products"/\p∈gD/\a<ae (true,p)/\(∀y∈xs,y<ae (true,p))/\xs.length<=1000/\Q (.lst true (aj (xs.map (gm (true,p) a))))
theorem aB6(T:Txt K mg t):aM P w K mg base aQ 1 t.IJ t.IK ["self","a","row"] (bh (T2 K)):=by
 refine bA T.aE0 Sg ?_ ?_
 ·intro ds Q h
  obtain⟨C,p,a,xs,rfl,hC,hn,hp,ha,hy,hl,q⟩:=h<;>rfl
 ·intro aD A outer s H E hr
  refine⟨_,(aA (aU (i:=3) Sg.nd rfl (aX rfl) (dq (bC (dj (K:=K) (bv 0)) (bv 1) (λ_ _=>rfl))))
   (aE (aV (dA [("by_a",3)] ["x"] rfl (gQ (bv 2)) (λ_ _ _ _=>(cy (i:=1) (show(["by_a","x"]:List Str).Nodup by decide +kernel) rfl (ai (lookup_relabel_local rfl)) (by decide) (aX (lookup_relabel_local rfl)))) (λ_ _ _ _=>du) (λ_ _ _ _=>(dq (bC (bv 0) (bv 1) (λ_ _=>rfl)))) rfl ⟨rfl,trivial⟩ (λ_=>by repeat' (first | exact trivial | refine⟨.inl rfl,?_⟩ | refine⟨.inr (.inl rfl),?_⟩ | refine⟨.inr (.inr ⟨_,rfl⟩),?_⟩)) (λ_=>⟨⟨rfl,.inl rfl,.inl rfl,_,rfl,rfl⟩,trivial⟩) rfl (by decide +kernel))))),λds Q h=>?_⟩
  obtain⟨C,p,a,xs,rfl,hC,hn,hp,ha,hy,hl,q⟩:=h
  refine aB λU hU=>?_
  walk_at"l3"
  refine⟨C,_,_,_,rfl,hC,hn,rfl,_,Bt hp ha,?_⟩
  refine⟨by rw[fK,mZ];rfl,hU _ ?_⟩
  clear hU U
  walk_at"l3"
  refine eD xs (λ(i:Nat)=>D.int (i:Int)) (λx=>D.int ((gm (true,p) a x:Nat):Int)) (qP xs) jc (λx hx=>?_) (.inr λ_ _=>rfl) (by rw[sL];omega) ?_
  ·walk_at"l3"
   exact⟨_,Br hp ha (hy x hx),rfl,rfl⟩
  ·rw[bY,bR]at q
   exact q
noncomputable abbrev T3(K:Frag):bg:=λds Q=>∃(C:Addr) (p a:Nat) (xs:List Nat),ds=[qW C p,.int a,.lst false (aj xs)]/\cw K C/\bf K C "prime"/\0<p/\a<64/\(∀y∈xs,y<64)/\xs.length<=1000/\Q (.lst true (aj (xs.map (gm (false,p) a))))
theorem aw4(T:Txt K mg t):aM P w K mg base aQ 1 t.IL t.IM ["self","a","row"] (bh (T3 K)):=by
 refine bA T.ay3 Sh ?_ ?_
 ·intro ds Q h
  obtain⟨C,p,a,xs,rfl,hC,hn,hp,ha,hy,hl,q⟩:=h<;>rfl
 ·intro aD A outer s H E hr
  refine⟨_,(aA (aU (i:=3) Sh.nd rfl (aX rfl) (dq (dj (K:=K) (bv 0))))
   (aE (aV (dA [("prime",3),("a",1)] ["x"] rfl (gQ (bv 2)) (λ_ _ _ _=>(cy (i:=2) (show(["prime","a","x"]:List Str).Nodup by decide +kernel) rfl (ai (lookup_relabel_local rfl)) (by decide) (aX (lookup_relabel_local rfl)))) (λ_ _ _ _=>du) (λ_ _ _ _=>(az cS (aa (az fM (bv 1) (bv 2))) (bv 0))) rfl ⟨rfl,⟨rfl,trivial⟩⟩ (λ_=>by repeat' (first | exact trivial | refine⟨.inl rfl,?_⟩ | refine⟨.inr (.inl rfl),?_⟩ | refine⟨.inr (.inr ⟨_,rfl⟩),?_⟩)) (λ_=>⟨⟨rfl,.inl rfl,.inl rfl,_,rfl,rfl⟩,⟨⟨rfl,.inl rfl,.inl rfl,_,rfl,rfl⟩,trivial⟩⟩) rfl (by decide +kernel))))),λds Q h=>?_⟩
  obtain⟨C,p,a,xs,rfl,hC,hn,hp,ha,hy,hl,q⟩:=h
  refine aB λU hU=>?_
  walk_at"l3"
  refine⟨C,_,_,.int p,rfl,hC,hn,rfl,rfl,hU _ ?_⟩
  clear hU U
  walk_at"l3"
  refine eD xs (λ(i:Nat)=>D.int (i:Int)) (λx=>D.int ((gm (false,p) a x:Nat):Int)) (qP xs) jc (λx hx=>?_) (.inr λ_ _=>rfl) (by rw[sL];omega) ?_
  ·have h2:=hy x hx
   walk_at"l3"
   refine⟨gY.ok (.inr ⟨by omega,by omega⟩),by omega,?_⟩
   show _=((a*x%p:Nat):Int)
   rw[nH,sE]
  ·rw[bY,bR]at q
   exact q
theorem cc5(T:Txt K mg t){m:Bool × Nat}(hm:m∈aG):∃C ns zs sp,fD t.aH t.aN m=.obj C ns zs/\jf P w K mg base 1 "scaled" C sp/\("scaled":Str) ∉ ns/\∀(xs:List Nat) (a:Nat) (Q:D->Prop),a<ae m->(∀y∈xs,y<ae m)->xs.length<=1000->Q (.lst true (aj (xs.map (gm m a))))->sp [.obj C ns zs,.int a,.lst false (aj xs)] Q:=by
 have hF:=cU hm
 obtain⟨k,n⟩:=m
 cases k with
 | true=>exact⟨_,_,_,T2 K,rfl,⟨T.eX,_,_,_,T.aA9,aB6 T,T.aE1⟩,by decide,λxs a Q ha hy hl q=>⟨_,n,a,xs,rfl,T.eX,T.rA,u4 hm,ha,hy,hl,q⟩⟩
 | false =>
  have oY:n<=64:=hF.hi
  have l2:2<=n:=hF.lo
  exact⟨_,_,_,T3 K,rfl,⟨T.fo,_,_,_,T.av9,aw4 T,T.ay4⟩,by decide,λxs a Q ha hy hl q=>⟨_,n,a,xs,rfl,T.fo,T.oW,by omega,de (show a<n from ha) oY,λy h=>de (show y<n from hy y h) oY,hl,q⟩⟩
noncomputable abbrev T4(K:Frag):bg:=λds Q=>∃(C:Addr) (p a:Nat) (xs ys:List Nat),ds=[qX C p,.lst false (aj xs),.int a,.lst false (aj ys)]/\cw K C/\bf K C "products"/\p∈gD/\a<ae (true,p)/\(∀y∈ys,y<ae (true,p))/\xs.length<=1000/\Q (.lst true (aj (cP (λx y=>bO (true,p) x (gm (true,p) a y)) xs ys)))
theorem aw5(T:Txt K mg t):aM P w K mg base aQ 1 t.IQ t.IS ["self","row","a","other"] (bh (T4 K)):=by
 refine bA T.ay5 Si ?_ ?_
 ·intro ds Q h
  obtain⟨C,p,a,xs,ys,rfl,hC,hn,hp,ha,hy,hl,q⟩:=h<;>rfl
 ·intro aD A outer s H E hr
  refine⟨_,(aA (aU (i:=4) Si.nd rfl (aX rfl) (dq (bC (dj (K:=K) (bv 0)) (bv 2) (λ_ _=>rfl))))
   (aE (aV (dA [("by_a",4)] ["x","y"] rfl (uN rfl T.vH (ag (bv 1) (ag (bv 3) aw))) (λ_ _ _ _=>(i8 (i1:=1) (i2:=2) rfl (show(["by_a","x","y"]:List Str).Nodup by decide +kernel) rfl (ai (lookup_relabel_local rfl)) rfl (ai (lookup_relabel_local rfl)) (by decide) (by decide) (aX (lookup_relabel_local rfl)) (aX (lookup_relabel_local rfl)))) (λ_ _ _ _=>du) (λ_ _ _ _=>(az xh (bv 1) (bC (bv 0) (bv 2) (λ_ _=>rfl)))) rfl ⟨rfl,trivial⟩ (λ_=>by repeat' (first | exact trivial | refine⟨.inl rfl,?_⟩ | refine⟨.inr (.inl rfl),?_⟩ | refine⟨.inr (.inr ⟨_,rfl⟩),?_⟩)) (λ_=>⟨⟨rfl,.inl rfl,.inl rfl,_,rfl,rfl⟩,trivial⟩) rfl (by decide +kernel))))),λds Q h=>?_⟩
  obtain⟨C,p,a,xs,ys,rfl,hC,hn,hp,ha,hy,hl,q⟩:=h
  refine aB λU hU=>?_
  walk_at"l3"
  refine⟨C,_,_,_,rfl,hC,hn,rfl,_,Bt hp ha,?_⟩
  refine⟨by rw[fK,mZ];rfl,hU _ ?_⟩
  clear hU U
  walk_at"l3"
  refine⟨_,_,rfl,rfl,Q7 (λx y=>bO (true,p) x (gm (true,p) a y)) (λx hx y CI=>?_) (by omega) q⟩
  walk_at"l3"
  refine⟨_,Br hp ha (hy y CI),?_⟩
  show nE (x:Int) ((gm (true,p) a y:Nat):Int)=_
  rw[mM];rfl
noncomputable abbrev T5(K:Frag):bg:=λds Q=>∃(C:Addr) (p a:Nat) (xs ys:List Nat),ds=[qW C p,.lst false (aj xs),.int a,.lst false (aj ys)]/\cw K C/\bf K C "prime"/\0<p/\a<64/\(∀y∈ys,y<64)/\xs.length<=1000/\Q (.lst true (aj (cP (λx y=>bO (false,p) x (gm (false,p) a y)) xs ys)))
theorem au6(T:Txt K mg t):aM P w K mg base aQ 1 t.IT t.IU ["self","row","a","other"] (bh (T5 K)):=by
 refine bA T.au9 Sj ?_ ?_
 ·intro ds Q h
  obtain⟨C,p,a,xs,ys,rfl,hC,hn,hp,ha,hy,hl,q⟩:=h<;>rfl
 ·intro aD A outer s H E hr
  refine⟨_,(aA (aU (i:=4) Sj.nd rfl (aX rfl) (dq (dj (K:=K) (bv 0))))
   (aE (aV (dA [("prime",4),("a",2)] ["x","y"] rfl (uN rfl T.vH (ag (bv 1) (ag (bv 3) aw))) (λ_ _ _ _=>(i8 (i1:=2) (i2:=3) rfl (show(["prime","a","x","y"]:List Str).Nodup by decide +kernel) rfl (ai (lookup_relabel_local rfl)) rfl (ai (lookup_relabel_local rfl)) (by decide) (by decide) (aX (lookup_relabel_local rfl)) (aX (lookup_relabel_local rfl)))) (λ_ _ _ _=>du) (λ_ _ _ _=>(az cS (aa (az dQ (bv 2) (aa (az fM (bv 1) (bv 3))))) (bv 0))) rfl ⟨rfl,⟨rfl,trivial⟩⟩ (λ_=>by repeat' (first | exact trivial | refine⟨.inl rfl,?_⟩ | refine⟨.inr (.inl rfl),?_⟩ | refine⟨.inr (.inr ⟨_,rfl⟩),?_⟩)) (λ_=>⟨⟨rfl,.inl rfl,.inl rfl,_,rfl,rfl⟩,⟨⟨rfl,.inl rfl,.inl rfl,_,rfl,rfl⟩,trivial⟩⟩) rfl (by decide +kernel))))),λds Q h=>?_⟩
  obtain⟨C,p,a,xs,ys,rfl,hC,hn,hp,ha,hy,hl,q⟩:=h
  refine aB λU hU=>?_
  walk_at"l3"
  refine⟨C,_,_,.int p,rfl,hC,hn,rfl,rfl,hU _ ?_⟩
  clear hU U
  walk_at"l3"
  refine⟨_,_,rfl,rfl,Q7 (λx y=>bO (false,p) x (gm (false,p) a y)) (λx hx y CI=>?_) (by omega) q⟩
  have h2:=hy y CI
  walk_at"l3"
  refine⟨gY.ok (.inr ⟨by omega,by omega⟩),by omega,?_⟩
  have e:((x:Int)-((a*y%p:Nat):Int))%(p:Int)=((x:Int)-(a:Int)*y)%p:=by
   rw[nH,sE,Int.sub_emod,Int.emod_emod,<- Int.sub_emod]
  show _=(((((x:Int)-((a*y%p:Nat):Int))%(p:Int)).toNat:Nat):Int)
  rw[e,nI (fJ _ (by omega))]
theorem T6(T:Txt K mg t){m:Bool × Nat}(hm:m∈aG):∃C ns zs sp,fD t.aH t.aN m=.obj C ns zs/\jf P w K mg base 1 "lessened" C sp/\("lessened":Str) ∉ ns/\∀(xs ys:List Nat) (a:Nat) (Q:D->Prop),a<ae m->(∀y∈ys,y<ae m)->xs.length<=1000->Q (.lst true (aj (cP (λx y=>bO m x (gm m a y)) xs ys)))->sp [.obj C ns zs,.lst false (aj xs),.int a,.lst false (aj ys)] Q:=by
 have hF:=cU hm
 obtain⟨k,n⟩:=m
 cases k with
 | true=>exact⟨_,_,_,T4 K,rfl,⟨T.eX,_,_,_,T.av8,aw5 T,T.ay6⟩,by decide,λxs ys a Q ha hy hl q=>⟨_,n,a,xs,ys,rfl,T.eX,T.rA,u4 hm,ha,hy,hl,q⟩⟩
 | false =>
  have oY:n<=64:=hF.hi
  have l2:2<=n:=hF.lo
  exact⟨_,_,_,T5 K,rfl,⟨T.fo,_,_,_,T.au5,au6 T,T.av0⟩,by decide,λxs ys a Q ha hy hl q=>⟨_,n,a,xs,ys,rfl,T.fo,T.oW,by omega,de (show a<n from ha) oY,λy h=>de (show y<n from hy y h) oY,hl,q⟩⟩
noncomputable abbrev aT2(cb cp:Addr):bg:=λds Q=>∃(m:Bool × Nat) (T:List (List Nat)) (l:List Nat) (j:Nat),ds=[fD cb cp m,.lst false (ay false T),.lst false (aj l),.int j]/\m∈aG/\T.length<=1000/\AllLt (ae m) l/\(∀r∈T,j<r.length/\r.length<=1000/\AllLt (ae m) r)/\Q (.lst true (ay true (T.map λr=>cP (λx y=>bO m x (gm m (r.getD j 0) y)) r l)))
theorem T7(T:Txt K mg t):aM P w K mg base aQ 2 t.IV t.IW ["field","rows","lead_row","place"] (bh (aT2 t.aH t.aN)):=by
 refine bA T.Kx aS9 ?_ ?_
 ·intro ds Q h
  obtain⟨m,G,l,j,rfl,hm,hG,hl,hr,q⟩:=h<;>rfl
 ·intro aD A outer s H E hr
  refine⟨_,(aE (aV (dA [("lead_row",2),("field",0),("place",3)] ["row"] rfl (gQ (bv 1)) (λ_ _ _ _=>(cy (i:=3) (show(["lead_row","field","place","row"]:List Str).Nodup by decide +kernel) rfl (ai (lookup_relabel_local rfl)) (by decide) (aX (lookup_relabel_local rfl)))) (λ_ _ _ _=>du) (λ_ _ _ _=>(fQ (P:=P) (w:=w) (K:=K) (mg:=mg) (base:=base) (n:=1) (bv 1) (hr.mono (by decide)) (ag (bv 3) (ag (bC (bv 3) (bv 2) (λ_ _=>rfl)) (ag (bv 0) aw))))) rfl ⟨rfl,⟨rfl,⟨rfl,trivial⟩⟩⟩ (λ_=>by repeat' (first | exact trivial | refine⟨.inl rfl,?_⟩ | refine⟨.inr (.inl rfl),?_⟩ | refine⟨.inr (.inr ⟨_,rfl⟩),?_⟩)) (λ_=>⟨⟨rfl,.inl rfl,.inl rfl,_,rfl,rfl⟩,⟨⟨rfl,.inl rfl,.inl rfl,_,rfl,rfl⟩,⟨⟨rfl,.inl rfl,.inl rfl,_,rfl,rfl⟩,trivial⟩⟩⟩) rfl (by decide +kernel)))),λds Q h=>?_⟩
  obtain⟨m,G,l,j,rfl,hm,hG,hl,hr,q⟩:=h
  walk_at"l3"
  refine eD G (λr=>D.lst false (aj r)) (λr=>D.lst true (aj (cP (λx y=>bO m x (gm m (r.getD j 0) y)) r l))) (by rw[dR];rfl) (λa b h=>lZ a b h) (λr bo=>?_) (.inr λr _=>gE _) (by rw[sL];omega) ?_
  ·obtain⟨h1,h2,h3⟩:=hr r bo
   obtain⟨C,ns,zs,sp,e1,e2,e3,e4⟩:=T6 (P:=P) (w:=w) (base:=base) T hm
   walk_at"l3"
   refine⟨C,ns,zs,sp,e1,e2,e3,.int (r.getD j 0:Nat),by rw[oI (by omega) (by omega),gy],e4 _ _ _ _ (h3.getD (by have:=(cU hm).lo;omega) j) hl h2 ⟨rfl,rfl⟩⟩
  ·rw[ay,bR]at q
   exact q
noncomputable abbrev T8(t:eV)(P:Program)(w:World)(K:Frag)(mg:Str->Option Value)(base:Heap):ot:=λds Q Ex=>∃(m:Bool × Nat) (a b:Nat),ds=[fD t.aH t.aN m,.int a,.int b]/\m∈aG/\a<ae m/\b<ae m/\(b=0->Ex t.iq)/\(b≠0->∀r:Nat,r<ae m->gm m r b=a->Q (.int (r:Nat)))
theorem T9(T:Txt K mg t):aM P w K mg base (mO P w) 2 t.B0 t.IY ["self","a","b"] (xV (T8 t P w K mg base)):=by
 refine PR T.aO8 aL8 ?_ ?_
 ·intro ds Q Ex h
  obtain⟨m,a,b,rfl,hm,ha,hb,qx,q⟩:=h<;>rfl
 ·intro aD A outer s H E hr
  refine⟨_,(aA (cR (bX (fP (cT hr)) (bv 2) (aa ao) (bG _)) (aE (PZ T.TQ rfl (by rfl) (ag (aa Pb) aw))) cQ)
   (aA (cR (bX (fP (cT hr)) (bv 1) (aa ao) (bG _)) (aE (aV ao)) cQ)
   (aE (aV (fQ (P:=P) (w:=w) (K:=K) (mg:=mg) (base:=base) (n:=1) (bv 0) (hr.mono (by decide)) (ag (aa (az dQ (bC (dj (K:=K) (bv 0)) (bv 1) (λ_ _=>rfl)) (bC (dj (K:=K) (bv 0)) (bv 2) (λ_ _=>rfl)))) aw)))))),λds Q Ex h=>?_⟩
  obtain⟨m,a,b,rfl,hm,ha,hb,qx,q⟩:=h
  refine aB λU hU=>?_
  walk_at"l3"
  split
  ·rename_i h0
   exact⟨by decide,qx (by omega)⟩
  ·rename_i h0
   have b0:b≠0:=by omega
   refine hU _ ?_
   clear hU U
   refine aB λU hU=>?_
   walk_at"l3"
   split
   ·rename_i h1
    have a0:a=0:=by omega
    subst a0
    exact q b0 0 ha (iF m b (dH m hm))
   ·rename_i h1
    have a0:a≠0:=by omega
    refine hU _ ?_
    clear hU U
    have hF:=cU hm
    obtain⟨r,e,BG,hr2⟩:=QU hm (show 1<=a by omega) ha (show 1<=b by omega) hb
    have qr:=q b0 r BG hr2
    obtain⟨k,n⟩:=m
    cases k with
    | true =>
     walk_at"l3"
     have ll:(eE (fl (true,n))).length=ae (true,n):=(yn _ _).trans hF.len
     have n0:=fJ (lg (true,n) a-lg (true,n) b) (show(ae (true,n):Int)-1≠0 by have:=hF.lo;omega)
     have n1:=fX (lg (true,n) a-lg (true,n) b) (show(0:Int)<(ae (true,n):Int)-1 by have:=hF.lo;omega)
     refine⟨_,_,_,yY K,rfl,⟨T.eX,_,_,_,T.yP,yZ T,T.yN⟩,by decide,_,_,_,_,rfl,T.eX,T.vA,rfl,_,lQ (by omega) (by rw[ll];omega),_,_,_,_,rfl,T.eX,T.vA,rfl,_,lQ (by omega) (by rw[ll];omega),?_⟩
     refine⟨_,_,_,_,ae (true,n),fl (true,n),r,rfl,T.eX,T.vB,T.rz,rfl,rfl,hF.lo,?_,qr⟩
     have hk:((lg (true,n) a-lg (true,n) b)%((ae (true,n):Int)-1)).toNat<(fl (true,n)).length:=by have:=hF.len;omega
     show(fl (true,n))[((lg (true,n) a-lg (true,n) b)%((ae (true,n):Int)-1)).toNat]?=some (r:Int)
     rw[<-e]
     unfold pw
     rw[aY,aS hk];rfl
    | false =>
     walk_at"l3"
     have ll:(eE (fl (false,n))).length=ae (false,n):=(yn _ _).trans hF.len
     have n0:=fJ (lg (false,n) a-lg (false,n) b) (show(ae (false,n):Int)-1≠0 by have:=hF.lo;omega)
     have n1:=fX (lg (false,n) a-lg (false,n) b) (show(0:Int)<(ae (false,n):Int)-1 by have:=hF.lo;omega)
     refine⟨_,_,_,yY K,rfl,⟨T.fo,_,_,_,T.yS,yZ T,T.yN⟩,by decide,_,_,_,_,rfl,T.fo,T.yQ,rfl,_,lQ (by omega) (by rw[ll];omega),_,_,_,_,rfl,T.fo,T.yQ,rfl,_,lQ (by omega) (by rw[ll];omega),?_⟩
     refine⟨_,_,_,_,ae (false,n),fl (false,n),r,rfl,T.fo,T.yR,T.rC,rfl,rfl,hF.lo,?_,qr⟩
     have hk:((lg (false,n) a-lg (false,n) b)%((ae (false,n):Int)-1)).toNat<(fl (false,n)).length:=by have:=hF.len;omega
     show(fl (false,n))[((lg (false,n) a-lg (false,n) b)%((ae (false,n):Int)-1)).toNat]?=some (r:Int)
     rw[<-e]
     unfold pw
     rw[aY,aS hk];rfl
theorem Ua(T:Txt K mg t)(m:Bool × Nat):Bu P w K mg base 2 "over" (if m.1 then t.aH else t.aN) (T8 t P w K mg base):=by
 obtain⟨k,n⟩:=m
 cases k with
 | true=>exact⟨T.eX,_,_,_,T.KW,T9 T,T.SX⟩
 | false=>exact⟨T.fo,_,_,_,T.K4,T9 T,T.SX⟩
noncomputable abbrev aT3(t:eV)(P:Program)(w:World)(K:Frag)(mg:Str->Option Value)(base:Heap):bg:=λds Q=>∃(m:Bool × Nat) (G:List (List Nat)),ds=[fD t.aH t.aN m,.lst false (ay false G)]/\m∈aG/\G.length<=900/\RT (ae m) (av G) G/\av G<=900/\Q (.lst true (ay true (dy m G)))
theorem Ub(T:Txt K mg t):aM P w K mg base aQ 3 t.IZ t.I0 ["field","table"] (bh (aT3 t P w K mg base)):=by
 refine bA T.Ky oU ?_ ?_
 ·intro ds Q h
  obtain⟨m,G,rfl,hm,hG,hR,hw,q⟩:=h<;>rfl
 ·intro aD A outer s H E hr
  refine⟨_,(aA (aU (i:=2) oU.nd rfl (ai rfl) (dP cF))
   (aA (aU (i:=3) oU.nd rfl (ai rfl) (dq (bv 1)))
   (aA (gi eT rfl (js rfl T.gI (ag (aa (bu ((CH T).mono (by decide)) hr rfl T.B8 T.yO.kp T.B9 aR (ag (bv 1) aw))) aw)) (cy (i:=4) oU.nd rfl (ai rfl))
    (EW 3 (aA (aU (i:=5) oU.nd rfl (ai rfl) (bu ((aN0 T).mono (by decide)) hr rfl T.dh8 T.SU.kp T.dh9 aR (ag (bv 3) (ag (bv 4) aw))))
    (aE (cR (bX cD6 (bv 5) (aa AH) (bG _)) (aA (aU (i:=6) oU.nd rfl (ai rfl) (fQ (P:=P) (w:=w) (K:=K) (mg:=mg) (base:=base) (n:=1) (bv 0) (hr.mono (by decide)) (ag (aa (QV (P:=P) (w:=w) (K:=K) (mg:=mg) (base:=base) (n:=2) (bv 0) (hr.mono (by decide)) (ag (aa ao) (ag (bC (bC (bv 3) (bv 5) (λ_ _=>rfl)) (bv 4) (λ_ _=>rfl)) aw)))) (ag (bC (bv 3) (bv 5) (λ_ _=>rfl)) aw))))
     (aA (aU (i:=3) oU.nd rfl (ai rfl) (bu ((T7 T).mono (by decide)) hr rfl T.SV T.Kx.kp T.SW aR (ag (bv 0) (ag (aa (az cH (aa (uQ (bv 3) uC (uD (bv 5)))) (aa (uQ (bv 3) (uD (aa (az cH (bv 5) (aa ao)))) uC)))) (ag (bv 6) (ag (bv 4) aw))))))
     (aE (aU (i:=2) oU.nd rfl (ai rfl) (cu6 (bu ((T7 T).mono (by decide)) hr rfl T.SV T.Kx.kp T.SW aR (ag (bv 0) (ag (bv 2) (ag (bv 6) (ag (bv 4) aw))))) (dP (cq (em 6) cF))))))) cQ)))))
   (aE (aV (em 2)))))),λds Q h=>?_⟩
  obtain⟨m,G,rfl,hm,hG,hR,hw,q⟩:=h
  have eQ:=(cU hm).lo
  refine aB λU hU=>?_
  walk_at"l3"
  refine⟨by decide,hU _ ?_⟩
  clear hU U
  refine aB λU hU=>?_
  walk_at"l3"
  refine hU _ ?_
  clear hU U
  refine aB λU hU=>?_
  walk_at"l3"
  refine⟨G,rfl,by omega,λr bo=>?_,?_⟩
  ·rw[(hR r bo).1];omega
  refine⟨_,rfl,⟨by omega,by omega⟩,?_⟩
  refine xU (λk δ=>∃(o:Bool) (o1 o2 o3:Option D),δ=[some (fD t.aH t.aN m),some (D.lst false (ay false G)),some (D.lst true (ay true (jA m G k).1)),some (D.lst o (ay o (jA m G k).2)),o1,o2,o3]) ⟨false,none,none,none,rfl⟩ ?_ ?_
  ·rintro k δ hk ⟨o,o1,o2,o3,rfl⟩
   have I:=BA hm hR k
   rw[Ga]
   generalize jA m G k=s at I ⊢
   simp only[gN,qq,jM,jL,pH,pG,v7,exists_eq_left',dF,dR]
   clear hU
   have il:=I.l
   refine aB λU hU=>?_
   walk_at"l3"
   refine⟨s.2,k,rfl,by omega,λr bo=>by rw[(I.b r bo).1];omega,?_⟩
   cases e:jz s.2 k with
   | none =>
    rw[show ig m s k=s by unfold ig;rw[e]]at hU
    refine hU _ ?_
    walk_at"l3"
    exact⟨false,_,_,_,⟨rfl,rfl⟩,rfl,rfl,rfl⟩
   | some i =>
    obtain⟨hi,h1,h2⟩:=Bz e
    have er:ig m s k=(gF m s.1 (dY m s.2 i k) k++[dY m s.2 i k],gF m (s.2.take i++s.2.drop (i+1)) (dY m s.2 i k) k):=by unfold ig;rw[e]
    rw[er]at hU
    refine hU _ ?_
    clear hU
    walk_at"l3"
    obtain⟨C,ns,xs,sp,e1,e2,e3,e4⟩:=cc5 (P:=P) (w:=w) (base:=base) T hm
    refine aB λU hU=>?_
    walk_at"l3"
    obtain⟨lw,lr⟩:=I.b _ (dN hi)
    have bk:=lr.getD (show 0<ae m by omega) k
    refine⟨C,ns,xs,sp,e1,e2,e3,_,_,_,_,u6 _ _ m,Ua T m,QW m _ (by decide),.lst false (aj s.2[i]),yx false hi,?_⟩
    dsimp only
    refine⟨.int (s.2[i].getD k 0:Nat),by rw[oI (by omega) (by omega),gy],m,1,s.2[i].getD k 0,by rw[u6];rfl,hm,eQ,bk,λz=>absurd z h1,λ_ f hf hfo=>⟨rfl,.lst false (aj s.2[i]),yx false hi,?_⟩⟩
    have ef:l6 m (s.2[i].getD k 0)=f:=Bw hm hf hfo
    rw[yv]
    refine e4 _ _ _ hf lr (by omega) ⟨by rw[gE,kT],hU _ ?_⟩
    have el:s.2[i].map (gm m f)=dY m s.2 i k:=by unfold dY;rw[h2,ef]
    rw[el]
    have ll:(dY m s.2 i k).length=av G:=by rw[<-el,bq];exact lw
    have la:AllLt (ae m) (dY m s.2 i k):=λx hx=>by
     rw[<-el]at hx
     obtain⟨y,_,rfl⟩:=bD.mp hx
     exact dw hm _ _
    generalize dY m s.2 i k=ld at ll la ⊢
    clear hU
    refine aB λU hU=>?_
    walk_at"l3"
    have Lo:∀r∈s.2.take i++s.2.drop (i+1),r.length=av G/\AllLt (ae m) r:=λr bo=>by
     rcases cj.mp bo with h | h
     ·exact I.b r (sr h)
     ·exact I.b r (pz h)
    have Uc:∀X:List (List Nat),(D.lst true (ay true X)).fr=true:=λX=>by rw[gg,vh];rfl
    rw[P7,show((i:Int)+1)=((i+1:Nat):Int) by omega,AZ,rh,dR]
    refine⟨by rw[iu,jI];omega,m,_,ld,k,rfl,hm,by rw[dm,iu,jI];omega,la,λr bo=>⟨by rw[(Lo r bo).1];exact hk,by rw[(Lo r bo).1];omega,(Lo r bo).2⟩,Uc _,hU _ ?_⟩
    clear hU
    walk_at"l3"
    refine⟨m,s.1,ld,k,rfl,hm,by omega,la,λr bo=>⟨by rw[(I.a r bo).1];exact hk,by rw[(I.a r bo).1];omega,(I.a r bo).2⟩,Uc _,by decide,_,_,rfl,rfl,?_,true,_,_,_,rh true _ [ld],⟨rfl,rfl⟩,rfl,rfl,rfl⟩
    rw[kG,bq]
    show s.1.length+1<=_
    omega
  ·rintro δ ⟨o,o1,o2,o3,rfl⟩
   refine hU _ ?_
   walk_at"l3"
   exact q
noncomputable abbrev aT8:bg:=λds Q=>∃T:List (List Nat),ds=[.lst false (ay false T)]/\T.length<=1000/\Q (.lst true (ay true T))
theorem aT9(T:Txt K mg t):aM P w K mg base aQ 1 t.Ja t.Jb ["table"] (bh (aT8 )):=by
 refine bA T.S1 aT4 ?_ ?_
 ·intro ds Q h
  obtain⟨G,rfl,hG,q⟩:=h<;>rfl
 ·intro aD A outer s H E hr
  refine⟨_,(aE (aV (dA [] ["row"] rfl (gQ (bv 0)) (λ_ _ _ _=>(cy (i:=0) (show(["row"]:List Str).Nodup by decide +kernel) rfl (ai (lookup_relabel_local rfl)) (by decide) (aX (lookup_relabel_local rfl)))) (λ_ _ _ _=>du) (λ_ _ _ _=>(AS (AU) (by rfl) T.yT wO (ag (bv 0) aw))) rfl trivial (λ_=>by repeat' (first | exact trivial | refine⟨.inl rfl,?_⟩ | refine⟨.inr (.inl rfl),?_⟩ | refine⟨.inr (.inr ⟨_,rfl⟩),?_⟩)) (λ_=>trivial) rfl (by decide +kernel)))),λds Q h=>?_⟩
  obtain⟨G,rfl,hG,q⟩:=h
  walk_at"l3"
  refine eD G (λr=>D.lst false (aj r)) (λr=>D.lst true (aj r)) (by rw[dR];rfl) (λa b h=>lZ a b h) (λr bo=>?_) (.inr λr _=>gE r) (by rw[sL];omega) q
  walk_at"l3"
noncomputable abbrev b97:bg:=λds Q=>∃T:List (List Nat),ds=[.lst false (ay false T)]/\T.length<=1000/\(∀r∈T,r.length<=1000/\∃x∈r,x≠0)/\Q (.lst true (aj (T.map aT)))
theorem Ud(T:Txt K mg t):aM P w K mg base aQ 1 t.Jc t.Jd ["rows"] (bh (b97 )):=by
 refine bA T.Kz b76 ?_ ?_
 ·intro ds Q h
  obtain⟨G,rfl,hG,hr,q⟩:=h<;>rfl
 ·intro aD A outer s H E hr
  refine⟨_,(aE (aV (dA [] ["row"] rfl (gQ (bv 0)) (λ_ _ _ _=>(cy (i:=0) (show(["row"]:List Str).Nodup by decide +kernel) rfl (ai (lookup_relabel_local rfl)) (by decide) (aX (lookup_relabel_local rfl)))) (λ_ _ _ _=>du) (by exact λ_ _ _ _=>(dq (bC (aa (dA [] ["place","x"] rfl (qN rfl T.rE (ag (bv 0) aw)) (λ_ _ _ _=>(i8 (i1:=0) (i2:=1) rfl (show(["place","x"]:List Str).Nodup by decide +kernel) rfl (ai (lookup_relabel_local rfl)) rfl (ai (lookup_relabel_local rfl)) (by decide) (by decide) (aX (lookup_relabel_local rfl)) (aX (lookup_relabel_local rfl)))) (λ_ _ _ _=>(E2 (bX (i6 (cT hr)) (bv 1) (aa ao) (bG _)))) (λ_ _ _ _=>(dq (bv 0))) rfl trivial (λ_=>by repeat' (first | exact trivial | refine⟨.inl rfl,?_⟩ | refine⟨.inr (.inl rfl),?_⟩ | refine⟨.inr (.inr ⟨_,rfl⟩),?_⟩)) (λ_=>trivial) rfl (by decide +kernel))) (aa ao) (λ_ _=>rfl)))) rfl trivial (λ_=>by repeat' (first | exact trivial | refine⟨.inl rfl,?_⟩ | refine⟨.inr (.inl rfl),?_⟩ | refine⟨.inr (.inr ⟨_,rfl⟩),?_⟩)) (λ_=>trivial) rfl (by decide +kernel)))),λds Q h=>?_⟩
  obtain⟨G,rfl,hG,hr,q⟩:=h
  walk_at"l3"
  refine eD G (λr=>D.lst false (aj r)) (λr=>D.int (aT r:Nat)) (by rw[dR];rfl) (λa b h=>lZ a b h) (λr bo=>?_) (.inr λr _=>rfl) (by rw[sL];omega) ?_
  ·obtain⟨h1,x,hx,h3⟩:=hr r bo
   walk_at"l3"
   refine FY (aL r.length) (λ(i:Nat)=>D.tup [.int (i:Int),.int ((r.getD i 0:Nat):Int)]) (λ(i:Nat)=>D.int (i:Int)) (λi=>r.getD i 0 != 0) (FZ r) (λa b h=>by injection h with h;simp at h;omega) (λi hi=>?_) (.inr λ_ _ _=>rfl) (by rw[cB,sL];omega) ?_
   ·walk_at"l3"
    refine⟨?_,λ_=>trivial⟩
    by_cases h0:r.getD i 0=0
    ·rw[h0];rfl
    ·rw[decide_eq_false (by omega),bne_iff_ne.mpr h0];rfl
   ·refine⟨.int (aT r:Nat),L3.Fu (k:=0) ?_,rfl,rfl⟩
    rw[bZ,Rj ⟨x,hx,h3⟩];rfl
  ·rw[bY,bR]at q
   exact q
noncomputable abbrev aK9:bg:=λds Q=>∃(T:List (List Nat)) (w:Nat),ds=[.lst false (ay false T),.int w]/\T.length<=1000/\w<=1000/\(∀r∈T,r.length<=1000/\∃x∈r,x≠0)/\Q (.lst true (aj (fS T w)))
theorem Ue(T:Txt K mg t):aM P w K mg base aQ 2 t.Je t.Jf ["rows","width"] (bh (aK9 )):=by
 refine bA T.KA Sk ?_ ?_
 ·intro ds Q h
  obtain⟨G,w,rfl,hG,hw,hr,q⟩:=h<;>rfl
 ·intro aD A outer s H E hr
  refine⟨_,(aA (aU (i:=2) Sk.nd rfl (aX rfl) (bu ((Ud T).mono (by decide)) hr rfl T.S2 T.Kz.kp T.S3 aR (ag (bv 0) aw)))
   (aE (aV (dA [("taken",2)] ["place"] rfl (js rfl T.gI (ag (bv 1) aw)) (λ_ _ _ _=>(cy (i:=1) (show(["taken","place"]:List Str).Nodup by decide +kernel) rfl (ai (lookup_relabel_local rfl)) (by decide) (aX (lookup_relabel_local rfl)))) (λ_ _ _ _=>(E2 (bX cD5 (bv 1) (bv 0) (by with_unfolding_all rfl)))) (λ_ _ _ _=>(dq (bv 1))) rfl ⟨rfl,trivial⟩ (λ_=>by repeat' (first | exact trivial | refine⟨.inl rfl,?_⟩ | refine⟨.inr (.inl rfl),?_⟩ | refine⟨.inr (.inr ⟨_,rfl⟩),?_⟩)) (λ_=>⟨⟨rfl,.inl rfl,.inl rfl,_,rfl,rfl⟩,trivial⟩) rfl (by decide +kernel))))),λds Q h=>?_⟩
  obtain⟨G,w,rfl,hG,hw,hr,q⟩:=h
  refine aB λU hU=>?_
  walk_at"l3"
  refine⟨G,rfl,hG,hr,?_⟩
  refine hU _ ?_
  clear hU U
  walk_at"l3"
  refine⟨⟨by omega,by omega⟩,FY (aL w) (λ(i:Nat)=>D.int (i:Int)) (λ(i:Nat)=>D.int (i:Int)) (λj=>!(G.map aT).contains j) (oJ _ rfl) jc (λj hj=>?_) (.inr λ_ _ _=>rfl) (by rw[cB,sL];omega) ?_⟩
  ·walk_at"l3"
   exact⟨_,rfl,by rw[b65],λ_=>trivial⟩
  ·rw[bY]at q
   exact q
noncomputable abbrev Ug:bg:=λds Q=>∃(d:D) (a b:Nat),ds=[d,.int a,.int b]/\Q (.int (a ^^^ b:Nat))
theorem aE5(T:Txt K mg t):aM P w K mg base aQ 1 t.Jg t.Jh ["self","a","b"] (bh (Ug )):=by
 refine bA T.aG0 aD2 ?_ ?_
 ·intro ds Q h
  obtain⟨d,a,b,rfl,q⟩:=h<;>rfl
 ·intro aD A outer s H E hr
  refine⟨_,(aE (aV (az xh (bv 1) (bv 2)))),λds Q h=>?_⟩
  obtain⟨d,a,b,rfl,q⟩:=h
  walk_at"l3"
  rw[mM];exact q
noncomputable abbrev Uh(K:Frag):bg:=λds Q=>∃(C:Addr) (p:Nat) (a b:Int),ds=[qW C p,.int a,.int b]/\cw K C/\bf K C "prime"/\0<p/\Q (.int ((a-b)%p))
theorem az1(T:Txt K mg t):aM P w K mg base aQ 1 t.Ji t.Jj ["self","a","b"] (bh (Uh K)):=by
 refine bA T.aA2 ay1 ?_ ?_
 ·intro ds Q h
  obtain⟨C,p,a,b,rfl,hC,hn,hp,q⟩:=h<;>rfl
 ·intro aD A outer s H E hr
  refine⟨_,(aE (aV (az cS (aa (az dQ (bv 1) (bv 2))) (dj (K:=K) (bv 0))))),λds Q h=>?_⟩
  obtain⟨C,p,a,b,rfl,hC,hn,hp,q⟩:=h
  walk_at"l3"
  refine⟨C,_,_,.int p,rfl,hC,hn,rfl,?_⟩
  exact⟨by omega,q⟩
theorem Ui(T:Txt K mg t){m:Bool × Nat}(h0:0<m.2):∃C ns xs sp,fD t.aH t.aN m=.obj C ns xs/\jf P w K mg base 1 "minus" C sp/\("minus":Str) ∉ ns/\∀(a b:Nat) (Q:D->Prop),Q (.int (gl m a b))->sp [.obj C ns xs,.int a,.int b] Q:=by
 obtain⟨k,n⟩:=m
 cases k with
 | true=>exact⟨_,_,_,Ug,rfl,⟨T.eX,_,_,_,T.aE2,aE5 T,T.aG1⟩,by decide,λa b Q q=>⟨_,a,b,rfl,q⟩⟩
 | false=>exact⟨_,_,_,Uh K,rfl,⟨T.fo,_,_,_,T.ay9,az1 T,T.aA3⟩,by decide,λa b Q q=>⟨_,n,a,b,rfl,T.fo,T.oW,h0,q⟩⟩
noncomputable abbrev aw6(cb cp:Addr):bg:=λds Q=>∃(m:Bool × Nat) (T:List (List Nat)) (w:Nat),ds=[fD cb cp m,.lst false (ay false T),.int w]/\m∈aG/\T.length<=1000/\w<=1000/\RT (ae m) w T/\(∀r∈T,∃x∈r,x≠0)/\Q (.lst true (ay true (oO m T w)))
theorem aw7(T:Txt K mg t):aM P w K mg base aQ 3 t.Jk t.Jl ["field","rows","width"] (bh (aw6 t.aH t.aN)):=by
 refine bA T.S6 vw ?_ ?_
 ·intro ds Q h
  obtain⟨m,G,wi,rfl,hm,hG,hw,hR,hr,q⟩:=h<;>rfl
 ·intro aD A outer s H E hr
  refine⟨_,(aA (aU (i:=3) vw.nd rfl (ai rfl) (bu ((Ud T).mono (by decide)) hr rfl T.S2 T.Kz.kp T.S3 aR (ag (bv 1) aw)))
   (aA (aU (i:=4) vw.nd rfl (ai rfl) (dP cF))
   (EW 3 (aA (gi eT rfl (AL (bu ((Ue T).mono (by decide)) hr rfl T.S4 T.KA.kp T.S5 aR (ag (bv 1) (ag (bv 2) aw)))) (cy (i:=5) vw.nd rfl (ai rfl))
    (aA (aU (i:=6) vw.nd rfl (ai rfl) (az fM (aa (dP (cq ao cF))) (bv 2)))
    (aA (oo (i:=6) rfl (by first | exact ai rfl | exact aX (ai rfl)) ao (bv 5))
    (aA (gi eT rfl (uN rfl T.vH (ag (bv 3) (ag (bv 1) aw))) (i8 (i1:=7) (i2:=8) rfl vw.nd rfl (ai rfl) rfl (ai rfl))
     (aE (oo (i:=6) rfl (by first | exact ai rfl | exact aX (ai rfl)) (fQ (P:=P) (w:=w) (K:=K) (mg:=mg) (base:=base) (n:=1) (bv 0) (hr.mono (by decide)) (ag (aa ao) (ag (bC (bv 8) (bv 5) (λ_ _=>rfl)) aw))) (bv 7))))
    (aE (lN (i:=4) rfl (by first | exact ai rfl | exact aX (ai rfl)) (em 6)))))))
   (aE (aV (em 4))))))),λds Q h=>?_⟩
  obtain⟨m,G,wi,rfl,hm,hG,hw,hR,hr,q⟩:=h
  have m0:=dH m hm
  have eQ:=(cU hm).lo
  refine aB λU hU=>?_
  walk_at"l3"
  refine⟨G,rfl,hG,λr bo=>⟨by rw[(hR r bo).1];exact hw,hr r bo⟩,hU _ ?_⟩
  clear hU U
  refine aB λU hU=>?_
  walk_at"l3"
  refine⟨by decide,hU _ ?_⟩
  clear hU U
  refine⟨_,rfl,?_⟩
  rw[yv]
  simp only[jM,jL]
  refine aB λU hU=>?_
  walk_at"l3"
  refine⟨G,wi,rfl,hG,hw,λr bo=>⟨by rw[(hR r bo).1];exact hw,hr r bo⟩,?_⟩
  refine⟨_,rfl,?_⟩
  have hfp:∀j∈fS G wi,j<wi:=λj hj=>cV.mp (vO.mp hj).1
  have lfp:(fS G wi).length<=wi:=by
   have:=WB (λj=>!(G.map aT).contains j) (aL wi)
   rw[cB]at this
   exact this
  rw[ou]
  refine gh.mk (λi δ=>∃o1 o2 o3 o4,δ=[some (fD t.aH t.aN m),some (D.lst false (ay false G)),some (D.int wi),some (D.lst false (aj (G.map aT))),some (D.lst true (ay true (((fS G wi).take i).map (iG m G wi)))),o1,o2,o3,o4]) ⟨_,_,_,_,rfl⟩ ?_ ?_
  ·rintro i d δ hd ⟨o1,o2,o3,o4,rfl⟩
   rw[bY,bZ]at hd
   obtain⟨f,hf,rfl⟩:=zJ.mp hd
   have hfw:=hfp f (rX hf)
   clear hd
   refine aB λU hU=>?_
   walk_at"l3"
   have er:aF (bj wi 0)=aj (bj wi 0):=by
    rw[bY,zX];unfold aF;rw[zX];rfl
   rw[gy,er]
   refine⟨by decide,⟨by omega,by omega,by omega⟩,hU _ ?_⟩
   clear hU
   refine aB λU hU=>?_
   walk_at"l3"
   refine⟨_,f,rfl,?_,?_⟩
   ·rw[va (by omega) (by rw[dX,fW];omega)];rfl
   rw[show(aj (bj wi 0)).set f (D.int 1)=aj ((bj wi 0).set f 1) from Q6 _ _ 1]
   refine hU _ ?_
   clear hU
   refine aB λU hU=>?_
   walk_at"l3"
   refine⟨_,_,rfl,rfl,?_⟩
   refine gh.mk (λk δ=>∃o3 o4,δ=[some (fD t.aH t.aN m),some (D.lst false (ay false G)),some (D.int wi),some (D.lst false (aj (G.map aT))),some (D.lst true (ay true (((fS G wi).take i).map (iG m G wi)))),some (D.int f),some (D.lst true (aj ((((G.map aT).zip G).take k).foldl (λx z=>x.set z.1 (bO m 0 (z.2.getD f 0))) ((bj wi 0).set f 1)))),o3,o4]) ⟨_,_,rfl⟩ ?_ ?_
   ·rintro k d δ hd ⟨o3,o4,rfl⟩
    obtain⟨hk,rfl⟩:=ci8 hd
    clear hd
    obtain⟨lw,la⟩:=hR _ (dN hk)
    have xl:=Rl (λz:Nat × List Nat=>z.1) (λz=>bO m 0 (z.2.getD f 0)) (((G.map aT).zip G).take k) ((bj wi 0).set f 1)
    rw[gW,fW]at xl
    obtain⟨C,ns,xs,sp,e1,e2,e3,e4⟩:=Ui (P:=P) (w:=w) (base:=base) T m0
    have hld:aT G[k]<wi:=by
     rw[<-lw]
     obtain⟨x,hx,h0⟩:=hr _ (dN hk)
     exact Nn ⟨x,hx,by simpa using h0⟩
    have ga:=lY hm (a:=0) (b:=G[k].getD f 0) (by omega) (la.getD (by omega) f)
    walk_at"l3"
    refine⟨C,ns,xs,sp,e1,e2,e3,.int (G[k].getD f 0:Nat),by rw[oI (by omega) (by omega),gy],e4 0 (G[k].getD f 0) _ ⟨rfl,_,aT G[k],rfl,?_,_,_,?_,rfl,rfl⟩⟩
    ·rw[va (by omega) (by rw[dX,xl];omega)];rfl
    ·rw[ga.1,Q6,mw,zM]
     have ez:((G.map aT).zip G)[k]?=some (aT G[k],G[k]):=by
      rw[List.zip,pF,bZ,aS hk];rfl
     rw[ez];rfl
   ·rintro δ ⟨o3,o4,rfl⟩
    refine hU _ ?_
    walk_at"l3"
    refine⟨⟨_,rfl⟩,by rw[bq,iu];omega,_,_,_,_,?_,rfl,rfl,rfl,rfl⟩
    rw[show((G.map aT).zip G).take (eC (aj (G.map aT)) (ay false G)).length=(G.map aT).zip G from vU (by unfold eC;rw[DE,jK,dX,kG];exact bK _),mw,hf,fh]
    exact rh true _ [iG m G wi f]
  ·rintro δ ⟨o1,o2,o3,o4,rfl⟩
   refine hU _ ?_
   walk_at"l3"
   rw[sq]
   exact q
noncomputable abbrev aP7(t:eV)(K:Frag):L2.Sp:=λvs H Q _=>∃(F H0:Hp) (x dx C:Addr) (vf vc:V) (m:Bool × Nat) (G:List (List Nat)) (pre:List (Str × V)),vs=[.ref x,vf,vc]/\L3.af F H0/\H0 x=none/\L3.af H0 H/\H x=some (.ins C dx (pre++[]))/\rq pre/\da4 K C /\
 R F H0 [fD t.aH t.aN m] [vf] []/\R F H0 [.lst false (ay false G)] [vc] []/\m∈aG/\RT (ae m) (av G) G/\G.length<=64/\av G<=64 /\
 ∀H' p1 p2 p3 A1 A2 A3,bI x H H'->H' x=some (.ins C dx (pre++nj.zip [vf,.int (av G:Nat),.ref p1,.ref p2,.ref p3,.int ((fS (dy m G) (av G)).length:Nat)]))->R (λ_=>none) H' [.lst true (ay true G)] [.ref p1] A1->R (λ_=>none) H' [.lst true (ay true (oO m (dy m G) (av G)))] [.ref p2] A2->R (λ_=>none) H' [.lst true (aj (fS (dy m G) (av G)))] [.ref p3] A3->(A1++(A2++A3)).Nodup->(∀a∈A1++(A2++A3),H a=none)->Q .au H'
theorem Lp(T:Txt K mg t):aM P w K mg base aQ 4 t.Jm t.Jn ["self","field","checks"] (aP7 t K):=by
 refine T.dj7.ok Sl (λvs H Q E h=>?_) λaD A outer s H vs Q E hr h=>?_
 ·obtain⟨F,H0,x,dx,C,vf,vc,m,G,pre,rfl,_⟩:=h;rfl
 obtain⟨F,H0,x,dx,C,vf,vc,m,G,pre,rfl,e0,gn,s0,hx,hp,hC,rf,rc,hm,hG,hGl,hGw,q⟩:=h
 refine⟨_,eN (DW (i:=3) Sl.nd rfl (ai rfl) (iT ((Ub T).mono (by decide)) hr rfl T.SY T.Ky.kp T.S0 .nil aR (bV (pv 1) (bV (pv 2) eU))))
  (eN (gM (pv 0) (pv 1) rfl)
  (eN (gM (pv 0) (iT ((CH T).mono (by decide)) hr rfl T.B8 T.yO.kp T.B9 .nil aR (bV (pv 2) eU)) rfl)
  (eN (gM (pv 0) (iT ((aT9 T).mono (by decide)) hr rfl T.di9 T.S1.kp T.dj0 .nil aR (bV (pv 2) eU)) rfl)
  (eN (gM (pv 0) (iT ((aw7 T).mono (by decide)) hr rfl T.dj5 T.S6.kp T.dj6 .nil aR (bV (pv 1) (bV (pv 3) (bV (pZ (pv 0) rfl) eU)))) rfl)
  (eN (gM (pv 0) (iT ((Ue T).mono (by decide)) hr rfl T.S4 T.KA.kp T.S5 .nil aR (bV (pv 3) (bV (pZ (pv 0) rfl) eU))) rfl)
  (iP (gM (pv 0) (Ap Ob rfl T.gH gA (bV (pZ (pv 0) rfl) eU)) rfl))))))),?_⟩
 have hn:=cx4 hm hG
 have hk:=Gx hm hG
 obtain⟨_,iR,iL,_⟩:=oN hm hG
 have fR:∀X:List (List Nat),[D.lst true (ay true X)].all D.fr=true:=λX=>by rw[dh,gg,vh];rfl
 have fN:∀X:List Nat,[D.lst true (aj X)].all D.fr=true:=λX=>by rw[dh,gE];rfl
 refine⟨_,rfl,_,rfl,F,[fD t.aH t.aN m,.lst false (ay false G)],λd=>d=.lst true (ay true (dy m G)),e0.trans s0,R.cons (A:=[]) (rf.shared (L3.af.refl _) s0) (rc.shared (L3.af.refl _) s0),⟨m,G,rfl,hm,by omega,hG,by omega,rfl⟩,λd v F1 H1 A1 hd eI y7 Lq Uj r1 Uk Lr=>?_⟩
 subst hd
 obtain⟨p0,rfl⟩:=vt r1
 have cm:=eI.get _ _ hx rfl
 have z1:bI x H H1:=eI.x
 have r1:=r1.qg (fR _) y7
 have vK:∀X:List (List Nat),[D.lst true (ay true X)].map D.sh=[D.lst false (ay false X)]:=λX=>by rw[df,dF,dR];rfl
 have au:∀{F' H':Hp} {d:D} {v:V} {A':List Addr},R F' H' [d] [v] A'->[d].all D.fr=true->R (λ_=>none) H' [d] [v] A':=λr h=>r.qg h (L3.af.of λb o e=>by cases e)
 have mv:∀{F' H' vL:Hp} {ds:List D} {vs:List V} {A':List Addr} {fs fs':List (Str × V)},R F' H' ds vs A'->L3.af H' vL->vL x=some (.ins C dx fs)->ds.all D.fr=true->R F' (upd vL x (.ins C dx fs')) ds vs A':=λr h da hd=>(r.grow (L3.af.refl _) h λa ha=>(r.lists a ha).2).qV da hd
 refine⟨vf,rfl,.ref x,rfl,x,C,dx,_,rfl,cm,hC.cls,hC.field,hp.lt (by decide),?_⟩
 have r2:=mv r1 (L3.af.refl _) cm (fR _) (fs':=bz "field" vf (pre++[]))
 have z2:=z1.trans (bI.upd (C:=x) (dx:=dx) cm rfl (o':=.ins C dx (bz "field" vf (pre++[]))))
 have dO:upd H1 x (.ins C dx (bz "field" vf (pre++[]))) x=some (.ins C dx (pre++([("field",vf)]:List (Str × V)))):=by rw[bL,hp.put _ _ _ (by decide)];rfl
 generalize upd H1 x (.ins C dx (bz "field" vf (pre++[])))=H2 at r2 z2 dO ⊢
 have t2:=bI.of0 gn s0 z2
 refine⟨_,rfl,F,[.lst false (ay false G)],λd=>d=.int (av G:Nat),e0.trans t2,rc.shared (L3.af.refl _) t2,⟨G,rfl,by omega,λr bo=>by rw[(hG r bo).1];omega,rfl⟩,λd v F3 H3 A3 hd gU y6 he3 h33 r3 nd3 D0=>?_⟩
 subst hd
 cases r3
 have eY:=gU.get _ _ dO rfl
 refine⟨.ref x,rfl,x,C,dx,_,rfl,eY,hC.cls,hC.length,hp.lt (by show 1<=6;decide),?_⟩
 have r4:=mv r2 gU eY (fR _) (fs':=bz "length" (.int (av G:Nat)) (pre++([("field",vf)]:List (Str × V))))
 have z4:=(z2.trans (gU.x (x:=x))).trans (bI.upd (C:=x) (dx:=dx) eY rfl (o':=.ins C dx (bz "length" (.int (av G:Nat)) (pre++([("field",vf)]:List (Str × V))))))
 have ji:upd H3 x (.ins C dx (bz "length" (.int (av G:Nat)) (pre++([("field",vf)]:List (Str × V))))) x=some (.ins C dx (pre++([("field",vf),("length",.int (av G:Nat))]:List (Str × V)))):=by rw[bL,hp.put _ _ _ (by decide)];rfl
 generalize upd H3 x (.ins C dx (bz "length" (.int (av G:Nat)) (pre++([("field",vf)]:List (Str × V)))))=H4 at r4 z4 ji ⊢
 have t4:=bI.of0 gn s0 z4
 refine⟨_,rfl,F,[.lst false (ay false G)],λd=>d=.lst true (ay true G),e0.trans t4,rc.shared (L3.af.refl _) t4,⟨G,rfl,by omega,rfl⟩,λd v F5 H5 A5 hd j9 hf5 he5 h35 r5 nd5 wu=>?_⟩
 subst hd
 obtain⟨p1,rfl⟩:=vt r5
 have iM:=j9.get _ _ ji rfl
 refine⟨.ref x,rfl,x,C,dx,_,rfl,iM,hC.cls,hC.da5,hp.lt (by show 2<=6;decide),?_⟩
 have r6:=mv r4 j9 iM (fR _) (fs':=bz "check_rows" (.ref p1) (pre++([("field",vf),("length",.int (av G:Nat))]:List (Str × V))))
 have k6:=mv (au r5 (fR _)) (L3.af.refl _) iM (fR _) (fs':=bz "check_rows" (.ref p1) (pre++([("field",vf),("length",.int (av G:Nat))]:List (Str × V))))
 have z6:=(z4.trans (j9.x (x:=x))).trans (bI.upd (C:=x) (dx:=dx) iM rfl (o':=.ins C dx (bz "check_rows" (.ref p1) (pre++([("field",vf),("length",.int (av G:Nat))]:List (Str × V))))))
 have oX:upd H5 x (.ins C dx (bz "check_rows" (.ref p1) (pre++([("field",vf),("length",.int (av G:Nat))]:List (Str × V))))) x=some (.ins C dx (pre++([("field",vf),("length",.int (av G:Nat)),("check_rows",.ref p1)]:List (Str × V)))):=by rw[bL,hp.put _ _ _ (by decide)];rfl
 generalize upd H5 x (.ins C dx (bz "check_rows" (.ref p1) (pre++([("field",vf),("length",.int (av G:Nat))]:List (Str × V)))))=H6 at r6 k6 z6 oX ⊢
 have n5:∀a∈A5,H a=none:=λa ha=>z4.free (by rw[ji];simp) (wu a ha)
 have t6:=bI.of0 gn s0 z6
 have e6:=e0.trans t6
 refine⟨_,rfl,_,rfl,.ref x,rfl,x,C,dx,_,.int (av G:Nat),rfl,oX,hC.cls,hC.length,(hp.look _ _ (by decide)).trans rfl,L3.bt F H6 A1,[fD t.aH t.aN m,.lst false (ay false (dy m G)),.int (av G:Nat)],λd=>d=.lst true (ay true (oO m (dy m G) (av G))),mP e6,R.cons (A:=[]) (rf.shared (hJ e6) t6) (R.cons (A:=[]) (vK _ ▸ r6.bt e6 A1 λ_ h=>h) (.int .nil)),⟨m,dy m G,av G,rfl,hm,by omega,by omega,iR,hn,rfl⟩,λd v F7 H7 A7 hd nz hf7 he7 h37 r7 nd7 Ul=>?_⟩
 subst hd
 obtain⟨p2,rfl⟩:=vt r7
 have l9:=nz.get _ _ oX rfl
 refine⟨.ref x,rfl,x,C,dx,_,rfl,l9,hC.cls,hC.da6,hp.lt (by show 3<=6;decide),?_⟩
 have r8:=mv r6 nz l9 (fR _) (fs':=bz "word_rows" (.ref p2) (pre++([("field",vf),("length",.int (av G:Nat)),("check_rows",.ref p1)]:List (Str × V))))
 have k8:=mv k6 nz l9 (fR _) (fs':=bz "word_rows" (.ref p2) (pre++([("field",vf),("length",.int (av G:Nat)),("check_rows",.ref p1)]:List (Str × V))))
 have w8:=mv (au r7 (fR _)) (L3.af.refl _) l9 (fR _) (fs':=bz "word_rows" (.ref p2) (pre++([("field",vf),("length",.int (av G:Nat)),("check_rows",.ref p1)]:List (Str × V))))
 have z8:=(z6.trans (nz.x (x:=x))).trans (bI.upd (C:=x) (dx:=dx) l9 rfl (o':=.ins C dx (bz "word_rows" (.ref p2) (pre++([("field",vf),("length",.int (av G:Nat)),("check_rows",.ref p1)]:List (Str × V))))))
 have CJ:upd H7 x (.ins C dx (bz "word_rows" (.ref p2) (pre++([("field",vf),("length",.int (av G:Nat)),("check_rows",.ref p1)]:List (Str × V))))) x=some (.ins C dx (pre++([("field",vf),("length",.int (av G:Nat)),("check_rows",.ref p1),("word_rows",.ref p2)]:List (Str × V)))):=by rw[bL,hp.put _ _ _ (by decide)];rfl
 generalize upd H7 x (.ins C dx (bz "word_rows" (.ref p2) (pre++([("field",vf),("length",.int (av G:Nat)),("check_rows",.ref p1)]:List (Str × V)))))=H8 at r8 k8 w8 z8 CJ ⊢
 have n7:∀a∈A7,H a=none:=λa ha=>z6.free (by rw[oX];simp) (Ul a ha)
 have d57:∀a∈A5,a ∉ A7:=λa ha hb=>by
  obtain⟨⟨ws,e⟩,_⟩:=k6.lists a ha
  rw[Ul a hb]at e;cases e
 have t8:=bI.of0 gn s0 z8
 have e8:=e0.trans t8
 refine⟨_,rfl,.ref x,rfl,x,C,dx,_,.int (av G:Nat),rfl,CJ,hC.cls,hC.length,(hp.look _ _ (by decide)).trans rfl,L3.bt F H8 A1,[.lst false (ay false (dy m G)),.int (av G:Nat)],λd=>d=.lst true (aj (fS (dy m G) (av G))),mP e8,R.cons (A:=[]) (vK _ ▸ r8.bt e8 A1 λ_ h=>h) (.int .nil),⟨dy m G,av G,rfl,by omega,by omega,λr bo=>⟨by rw[(iR r bo).1];omega,hn r bo⟩,rfl⟩,λd v F9 H9 A9 hd CK hf9 he9 h39 r9 nd9 Lu=>?_⟩
 subst hd
 obtain⟨p3,rfl⟩:=vt r9
 have y8:=CK.get _ _ CJ rfl
 refine⟨.ref x,rfl,x,C,dx,_,rfl,y8,hC.cls,hC.Sb,hp.lt (by show 4<=6;decide),?_⟩
 have Um:=mv k8 CK y8 (fR _) (fs':=bz "message_places" (.ref p3) (pre++([("field",vf),("length",.int (av G:Nat)),("check_rows",.ref p1),("word_rows",.ref p2)]:List (Str × V))))
 have Uo:=mv w8 CK y8 (fR _) (fs':=bz "message_places" (.ref p3) (pre++([("field",vf),("length",.int (av G:Nat)),("check_rows",.ref p1),("word_rows",.ref p2)]:List (Str × V))))
 have Lw:=mv (au r9 (fN _)) (L3.af.refl _) y8 (fN _) (fs':=bz "message_places" (.ref p3) (pre++([("field",vf),("length",.int (av G:Nat)),("check_rows",.ref p1),("word_rows",.ref p2)]:List (Str × V))))
 have Up:=(z8.trans (CK.x (x:=x))).trans (bI.upd (C:=x) (dx:=dx) y8 rfl (o':=.ins C dx (bz "message_places" (.ref p3) (pre++([("field",vf),("length",.int (av G:Nat)),("check_rows",.ref p1),("word_rows",.ref p2)]:List (Str × V))))))
 have rJ:upd H9 x (.ins C dx (bz "message_places" (.ref p3) (pre++([("field",vf),("length",.int (av G:Nat)),("check_rows",.ref p1),("word_rows",.ref p2)]:List (Str × V))))) x=some (.ins C dx (pre++([("field",vf),("length",.int (av G:Nat)),("check_rows",.ref p1),("word_rows",.ref p2),("message_places",.ref p3)]:List (Str × V)))):=by rw[bL,hp.put _ _ _ (by decide)];rfl
 generalize upd H9 x (.ins C dx (bz "message_places" (.ref p3) (pre++([("field",vf),("length",.int (av G:Nat)),("check_rows",.ref p1),("word_rows",.ref p2)]:List (Str × V)))))=H10 at Um Uo Lw Up rJ ⊢
 have n9:∀a∈A9,H a=none:=λa ha=>z8.free (by rw[CJ];simp) (Lu a ha)
 have d59:∀a∈A5,a ∉ A9:=λa ha hb=>by
  obtain⟨⟨ws,e⟩,_⟩:=k8.lists a ha
  rw[Lu a hb]at e;cases e
 have d79:∀a∈A7,a ∉ A9:=λa ha hb=>by
  obtain⟨⟨ws,e⟩,_⟩:=w8.lists a ha
  rw[Lu a hb]at e;cases e
 obtain⟨ws,lw,ew⟩:∃ws,ws.length=(fS (dy m G) (av G)).length/\H10 p3=some (.lst ws):=by
  cases Lw with
  | own h _ r _=>exact⟨_,by rw[<-r.length,dX],h⟩
 refine⟨.ref x,rfl,x,C,dx,_,.ref p3,rfl,rJ,hC.cls,hC.Sb,(hp.look _ _ (by decide)).trans rfl,p3,ws,rfl,.inl (bM.of ew),.ref x,rfl,x,C,dx,_,rfl,rJ,hC.cls,hC.size,hp.lt (by show 5<=6;decide),?_⟩
 rw[lw]
 refine q _ p1 p2 p3 A5 A7 A9 (Up.trans (bI.upd (C:=x) (dx:=dx) rJ rfl)) (by rw[bL,hp.put _ _ _ (by decide)];rfl) (mv Um (L3.af.refl _) rJ (fR _)) (mv Uo (L3.af.refl _) rJ (fR _)) (mv Lw (L3.af.refl _) rJ (fN _)) ?_ ?_
 ·exact hV.mpr ⟨nd5,hV.mpr ⟨nd7,nd9,d79⟩,λa ha hb=>(cj.mp hb).elim (d57 a ha) (d59 a ha)⟩
 ·intro a ha
  rcases cj.mp ha with ha | ha
  ·exact n5 a ha
  ·exact(cj.mp ha).elim (n7 a) (n9 a)
noncomputable abbrev Lx(K:Frag):bg:=λds Q=>∃(C:Addr) (ns:List Str) (xs:List D) (n:Nat) (x:D),ds=[.obj C ns xs,x]/\cw K C/\bf K C "many"/\(ns.zip xs).lookup ("many":Str)=some (.int n)/\((∃i,x=.int i/\Q (.bl (decide (0<=i)&&decide (i<n))))\/(x=.au/\Q (.bl false)))
theorem Uq(T:Txt K mg t):aM P w K mg base aQ 1 t.B4 t.Jo ["self","x"] (bh (Lx K)):=by
 refine bA T.aM0 aK3 ?_ ?_
 ·intro ds Q h
  obtain⟨C,ns,xs,n,x,rfl,h1,h2,h3,q⟩:=h<;>rfl
 ·intro aD A outer s H E hr
  refine⟨_,(aE (aV (n6 (aa (xn (by rfl) T.vG (by rfl) T.TN OM (bv 1))) (n6 (aa (EV (aa (xn (by rfl) T.vG (by rfl) T.TM ON (bv 1))))) (sM (ur kA ui (aa ao) (bv 1) (dj (K:=K) (bv 0)))))))),λds Q h=>?_⟩
  obtain⟨C,ns,xs,n,x,rfl,h1,h2,h3,q⟩:=h
  rcases q with⟨i,rfl,q⟩ | ⟨rfl,q⟩
  ·walk_at"l3"
   split
   ·rename_i h0
    refine⟨C,ns,xs,_,rfl,h1,h2,h3,?_⟩
    dsimp only
    rw[decide_eq_true h0,mq]at q
    exact q
   ·rename_i h0
    rw[decide_eq_false h0,rR]at q
    exact q
  ·walk_at"l3"
   exact q
theorem Ly(T:Txt K mg t)(m:Bool × Nat){x:D}{Q:D->Prop}(h:(∃i,x=.int i/\Q (.bl (decide (0<=i)&&decide (i<ae m))))\/(x=.au/\Q (.bl false))):QX P w K mg base 1 t.aH t.aN m "holds" [x] Q:=by
 obtain⟨k,n⟩:=m
 cases k with
 | true=>exact⟨_,_,_,Lx K,rfl,⟨T.eX,_,_,_,T.KU,Uq T,T.S7⟩,by decide,_,_,_,ae (true,n),x,rfl,T.eX,T.rz,rfl,h⟩
 | false=>exact⟨_,_,_,Lx K,rfl,⟨T.fo,_,_,_,T.K3,Uq T,T.S7⟩,by decide,_,_,_,ae (false,n),x,rfl,T.fo,T.rC,rfl,h⟩
noncomputable abbrev aE6(t:eV):bg:=λds Q=>∃(m:Bool × Nat) (G:List (List Nat)),ds=[fD t.aH t.aN m,.lst false (ay false G)]/\m∈aG/\RT (ae m) (av G) G/\1<=G.length/\G.length<=12/\2<=av G/\av G<=12/\Q (.bl true)
theorem aE7(T:Txt K mg t):aM P w K mg base aQ 2 t.Jp t.Jq ["field","table"] (bh (aE6 t)):=by
 refine bA T.S8 Sm ?_ ?_
 ·intro ds Q h
  obtain⟨m,G,rfl,hm,hR,g1,y9,w2,Ur,q⟩:=h<;>rfl
 ·intro aD A outer s H E hr
  refine⟨_,(aA (cR (PW.pt (lJ (bX ui (aa (di (gR) (by rfl) T.gH gA (ag (bv 1) aw))) (aa ao) (bG _)) (nL (bX E4 (aa (di (gR) (by rfl) T.gH gA (ag (bv 1) aw))) (aa ao) (bG _))))) (aE (aV gP)) cQ)
   (aA (aU (i:=2) Sm.nd rfl (aX rfl) (di (gR) (by rfl) T.gH gA (ag (bC (bv 1) (aa ao) (λ_ _=>rfl)) aw)))
   (aA (cR (PW.pt (lJ (bX ui (bv 2) (aa ao) (bG _)) (lJ (bX E4 (bv 2) (aa ao) (bG _)) (nL (iX (aa (di (cG2 rfl) (by rfl) T.TL OL (ag (aa (dA [("width",2)] ["row"] rfl (gQ (bv 1)) (λ_ _ _ _=>(cy (i:=1) (show(["width","row"]:List Str).Nodup by decide +kernel) rfl (ai (lookup_relabel_local rfl)) (by decide) (aX (lookup_relabel_local rfl)))) (λ_ _ _ _=>du) (λ_ _ _ _=>(qj (i6 (cT hr)) (aa (di (gR) (by rfl) T.gH gA (ag (bv 1) aw))) (bv 0) (bG _))) rfl ⟨rfl,trivial⟩ (λ_=>by repeat' (first | exact trivial | refine⟨.inl rfl,?_⟩ | refine⟨.inr (.inl rfl),?_⟩ | refine⟨.inr (.inr ⟨_,rfl⟩),?_⟩)) (λ_=>⟨⟨rfl,.inl rfl,.inl rfl,_,rfl,rfl⟩,trivial⟩) rfl (by decide +kernel))) aw)))))))) (aE (aV gP)) cQ)
   (aE (aV (di (qG rfl) (by rfl) T.rD p8 (ag (aa (dA [("field",0)] ["row"] rfl (gQ (bv 1)) (λ_ _ _ _=>(cy (i:=1) (show(["field","row"]:List Str).Nodup by decide +kernel) rfl (ai (lookup_relabel_local rfl)) (by decide) (aX (lookup_relabel_local rfl)))) (λ_ _ _ _=>du) (by exact λ_ _ _ _=>(di (qG rfl) (by rfl) T.rD p8 (ag (aa (dA [("field",0)] ["x"] rfl (gQ (bv 1)) (λ_ _ _ _=>(cy (i:=1) (show(["field","x"]:List Str).Nodup by decide +kernel) rfl (ai (lookup_relabel_local rfl)) (by decide) (aX (lookup_relabel_local rfl)))) (λ_ _ _ _=>du) (λ_ _ _ _=>(fQ (P:=P) (w:=w) (K:=K) (mg:=mg) (base:=base) (n:=1) (bv 0) (hr.mono (by decide)) (ag (bv 1) aw))) rfl ⟨rfl,trivial⟩ (λ_=>by repeat' (first | exact trivial | refine⟨.inl rfl,?_⟩ | refine⟨.inr (.inl rfl),?_⟩ | refine⟨.inr (.inr ⟨_,rfl⟩),?_⟩)) (λ_=>⟨⟨rfl,.inl rfl,.inl rfl,_,rfl,rfl⟩,trivial⟩) rfl (by decide +kernel))) aw))) rfl ⟨rfl,trivial⟩ (λ_=>by repeat' (first | exact trivial | refine⟨.inl rfl,?_⟩ | refine⟨.inr (.inl rfl),?_⟩ | refine⟨.inr (.inr ⟨_,rfl⟩),?_⟩)) (λ_=>⟨⟨rfl,.inl rfl,.inl rfl,_,rfl,rfl⟩,trivial⟩) rfl (by decide +kernel))) aw))))))),λds Q h=>?_⟩
  obtain⟨m,G,rfl,hm,hR,g1,y9,w2,Ur,q⟩:=h
  obtain⟨g,G',rfl⟩:∃g G',G=g::G':=by
   cases G with
   | nil=>exact absurd g1 (by decide)
   | cons g G'=>exact⟨g,G',rfl⟩
  refine aB λU hU=>?_
  walk_at"l3"
  rw[if_neg (by omega),if_neg (by rw[jl]at y9;omega)]
  refine hU _ ?_
  clear hU U
  refine aB λU hU=>?_
  walk_at"l3"
  refine⟨.lst false (aj g),yx false (T:=g::G') (i:=0) (Nv _),?_⟩
  show U [some (fD t.aH t.aN m),some (.lst false (ay false (g::G'))),some (.int ((aj g).length:Nat))]
  have gl:(aj g).length=av (g::G'):=by rw[dX];rfl
  rw[gl]
  generalize g::G'=G at hR g1 y9 w2 Ur gl hU ⊢
  refine hU _ ?_
  clear hU U
  refine aB λU hU=>?_
  walk_at"l3"
  rw[if_neg (by omega),if_neg (by omega)]
  refine eD G (λr=>D.lst false (aj r)) (λ_=>D.bl false) (by rw[dR];rfl) (λa b h=>lZ a b h) (λr bo=>?_) (.inr λr _=>rfl) (by rw[sL];omega) ?_
  ·have:=(hR r bo).1
   walk_at"l3"
   rw[decide_eq_true (by omega)];rfl
  refine⟨G.map λ_=>false,by unfold kC;rw[bR];rfl,?_⟩
  rw[if_neg (by simp)]
  refine hU _ ?_
  clear hU U
  walk_at"l3"
  refine eD G (λr=>D.lst false (aj r)) (λ_=>D.bl true) (by rw[dR];rfl) (λa b h=>lZ a b h) (λr bo=>?_) (.inr λr _=>rfl) (by rw[sL];omega) ?_
  ·obtain⟨r1,r2⟩:=hR r bo
   walk_at"l3"
   refine eD r (λ(i:Nat)=>D.int (i:Int)) (λ_=>D.bl true) (qP _) jc (λi hi=>?_) (.inr λ_ _=>rfl) (by rw[sL];omega) ?_
   ·have:=r2 i hi
    walk_at"l3"
    refine Ly T m (.inl ⟨_,rfl,?_⟩)
    rw[decide_eq_true (by omega),decide_eq_true (by omega)];rfl
   ·refine⟨r.map λ_=>true,by unfold kC;rw[bR];rfl,?_⟩
    simp
  ·refine⟨G.map λ_=>true,by unfold kC;rw[bR];rfl,?_⟩
   rw[show(G.map λ_=>true).all id=true by simp]
   exact q
noncomputable abbrev ck1(t:eV)(P:Program)(w:World)(K:Frag)(mg:Str->Option Value)(base:Heap):bg:=λds Q=>∃(m:Bool × Nat) (G:List (List Nat)),ds=[fD t.aH t.aN m,.lst false (ay false G)]/\m∈aG/\G.length<=900/\RT (ae m) (av G) G/\av G<=900/\Q (.int (dy m G).length)
theorem cm8(T:Txt K mg t):aM P w K mg base aQ 4 t.Jr t.Js ["field","table"] (bh (ck1 t P w K mg base)):=by
 refine bA T.S9 cm9 ?_ ?_
 ·intro ds Q h
  obtain⟨m,G,rfl,hm,hG,hR,hw,q⟩:=h<;>rfl
 ·intro aD A outer s H E hr
  refine⟨_,(aE (aV (di (gR) (by rfl) T.gH gA (ag (aa (bu ((Ub T).mono (by decide)) hr rfl T.SY T.Ky.kp T.S0 aR (ag (bv 0) (ag (bv 1) aw)))) aw)))),λds Q h=>?_⟩
  obtain⟨m,G,rfl,hm,hG,hR,hw,q⟩:=h
  walk_at"l3"
  refine⟨m,G,rfl,hm,hG,hR,hw,?_⟩
  dsimp only
  rw[kG];exact q
noncomputable abbrev aU0:bg:=λds Q=>∃T:List (List Nat),ds=[.lst false (ay false T)]/\T.length<=1000/\(∀r∈T,r.length=av T)/\av T<=1000/\Q (.lst true (ay true (eG T)))
theorem Us(T:Txt K mg t):aM P w K mg base aQ 2 t.Jt t.Ju ["table"] (bh (aU0 )):=by
 refine bA T.KD aT5 ?_ ?_
 ·intro ds Q h
  obtain⟨G,rfl,hG,hr,hw,q⟩:=h<;>rfl
 ·intro aD A outer s H E hr
  refine⟨_,(aE (aV (dA [("table",0)] ["j"] rfl (js rfl T.gI (ag (aa (bu ((CH T).mono (by decide)) hr rfl T.B8 T.yO.kp T.B9 aR (ag (bv 0) aw))) aw)) (λ_ _ _ _=>(cy (i:=1) (show(["table","j"]:List Str).Nodup by decide +kernel) rfl (aX rfl) (by decide) (ai rfl))) (λ_ _ _ _=>du) (by exact λ_ _ _ _=>(dA [("j",1)] ["row"] rfl (gQ (bv 0)) (λ_ _ _ _=>(cy (i:=1) (show(["j","row"]:List Str).Nodup by decide +kernel) rfl (ai (lookup_relabel_local rfl)) (by decide) (aX (lookup_relabel_local rfl)))) (λ_ _ _ _=>du) (λ_ _ _ _=>(dq (bC (bv 1) (bv 0) (λ_ _=>rfl)))) rfl ⟨rfl,trivial⟩ (λ_=>by repeat' (first | exact trivial | refine⟨.inl rfl,?_⟩ | refine⟨.inr (.inl rfl),?_⟩ | refine⟨.inr (.inr ⟨_,rfl⟩),?_⟩)) (λ_=>⟨⟨rfl,.inl rfl,.inl rfl,_,rfl,rfl⟩,trivial⟩) rfl (by decide +kernel))) rfl ⟨rfl,trivial⟩ (λ_=>by repeat' (first | exact trivial | refine⟨.inl rfl,?_⟩ | refine⟨.inr (.inl rfl),?_⟩ | refine⟨.inr (.inr ⟨_,rfl⟩),?_⟩)) (λ_=>⟨⟨rfl,.inl rfl,.inl rfl,_,rfl,rfl⟩,trivial⟩) rfl (by decide +kernel)))),λds Q h=>?_⟩
  obtain⟨G,rfl,hG,hr,hw,q⟩:=h
  walk_at"l3"
  refine⟨G,rfl,hG,λr bo=>by rw[hr r bo];exact hw,?_⟩
  dsimp only
  refine⟨_,rfl,⟨by omega,by omega⟩,?_⟩
  refine eD (aL (av G)) (λ(i:Nat)=>D.int (i:Int)) (λj=>D.lst true (aj (G.map λr=>r.getD j 0))) (oJ _ rfl) jc (λj hj=>?_) (.inr λj _=>gE _) (by rw[cB,sL];omega) ?_
  ·have hj:=cV.mp hj
   walk_at"l3"
   refine eD G (λr=>D.lst false (aj r)) (λr=>D.int ((r.getD j 0:Nat):Int)) (by rw[dR];rfl) (λa b h=>lZ a b h) (λr bo=>?_) (.inr λr _=>rfl) (by rw[sL];omega) ?_
   ·walk_at"l3"
    have hl:=hr r bo
    exact⟨.int (r.getD j 0:Nat),by rw[oI (by omega) (by omega),gy],rfl,rfl⟩
   ·rw[bY,bR];rfl
  ·unfold eG ay at q
   rw[bR]at q
   exact q
noncomputable abbrev aP8:bg:=λds Q=>∃c:List Nat,ds=[.lst false (aj c)]/\c.length<=1000/\Q (.bl (nul c))
theorem aP9(T:Txt K mg t):aM P w K mg base aQ 1 t.Jv t.Jw ["column"] (bh (aP8 )):=by
 refine bA T.Td aO2 ?_ ?_
 ·intro ds Q h
  obtain⟨c,rfl,hc,q⟩:=h<;>rfl
 ·intro aD A outer s H E hr
  refine⟨_,(aE (aV (di (qG rfl) (by rfl) T.rD p8 (ag (aa (dA [] ["x"] rfl (gQ (bv 0)) (λ_ _ _ _=>(cy (i:=0) (show(["x"]:List Str).Nodup by decide +kernel) rfl (ai (lookup_relabel_local rfl)) (by decide) (aX (lookup_relabel_local rfl)))) (λ_ _ _ _=>du) (λ_ _ _ _=>(qj (fP (cT hr)) (bv 0) (aa ao) (bG _))) rfl trivial (λ_=>by repeat' (first | exact trivial | refine⟨.inl rfl,?_⟩ | refine⟨.inr (.inl rfl),?_⟩ | refine⟨.inr (.inr ⟨_,rfl⟩),?_⟩)) (λ_=>trivial) rfl (by decide +kernel))) aw)))),λds Q h=>?_⟩
  obtain⟨c,rfl,hc,q⟩:=h
  walk_at"l3"
  refine eD c (λ(i:Nat)=>D.int (i:Int)) (λ(x:Nat)=>D.bl (x==0)) (qP _) jc (λx hx=>?_) (.inr λ_ _=>rfl) (by rw[sL];omega) ?_
  ·walk_at"l3"
   congr 1
   exact propext (by omega)
  dsimp only
  refine⟨c.map (·==0),by unfold kC;rw[bR];rfl,?_⟩
  rw[kS]
  exact q
noncomputable abbrev Ut(K:Frag):bg:=λds Q=>∃(C:Addr) (p a b:Nat),ds=[qX C p,.int a,.int b]/\cw K C/\bf K C "products"/\p∈gD/\a<ae (true,p)/\b<ae (true,p)/\Q (.int (gm (true,p) a b:Nat))
theorem aE8(T:Txt K mg t):aM P w K mg base aQ 1 t.Jx t.Jy ["self","a","b"] (bh (Ut K)):=by
 refine bA T.aG2 aD3 ?_ ?_
 ·intro ds Q h
  obtain⟨C,p,a,b,rfl,hC,hn,hp,ha,hb,q⟩:=h<;>rfl
 ·intro aD A outer s H E hr
  refine⟨_,(aE (aV (dq (bC (bC (dj (K:=K) (bv 0)) (bv 1) (λ_ _=>rfl)) (bv 2) (λ_ _=>rfl))))),λds Q h=>?_⟩
  obtain⟨C,p,a,b,rfl,hC,hn,hp,ha,hb,q⟩:=h
  walk_at"l3"
  refine⟨C,_,_,_,rfl,hC,hn,rfl,?_⟩
  exact⟨_,Bt hp ha,_,Br hp ha hb,rfl,q⟩
noncomputable abbrev Uu(K:Frag):bg:=λds Q=>∃(C:Addr) (p:Nat) (a b:Int),ds=[qW C p,.int a,.int b]/\cw K C/\bf K C "prime"/\0<p/\IntMulOk a b/\Q (.int (a*b%p))
theorem az2(T:Txt K mg t):aM P w K mg base aQ 1 t.Jz t.JA ["self","a","b"] (bh (Uu K)):=by
 refine bA T.aA4 ay2 ?_ ?_
 ·intro ds Q h
  obtain⟨C,p,a,b,rfl,hC,hn,hp,hm,q⟩:=h<;>rfl
 ·intro aD A outer s H E hr
  refine⟨_,(aE (aV (az cS (aa (az fM (bv 1) (bv 2))) (dj (K:=K) (bv 0))))),λds Q h=>?_⟩
  obtain⟨C,p,a,b,rfl,hC,hn,hp,hm,q⟩:=h
  walk_at"l3"
  exact⟨hm,C,_,_,.int p,rfl,hC,hn,rfl,by omega,q⟩
theorem cq0(T:Txt K mg t){m:Bool × Nat}(hm:m∈aG):∃C ns xs sp,fD t.aH t.aN m=.obj C ns xs/\jf P w K mg base 1 "times" C sp/\("times":Str) ∉ ns/\∀(a b:Nat) (Q:D->Prop),a<ae m->b<ae m->Q (.int (gm m a b:Nat))->sp [.obj C ns xs,.int a,.int b] Q:=by
 have hF:=cU hm
 obtain⟨k,n⟩:=m
 cases k with
 | true=>exact⟨_,_,_,Ut K,rfl,⟨T.eX,_,_,_,T.aE3,aE8 T,T.aG3⟩,by decide,λa b Q ha hb q=>⟨_,n,a,b,rfl,T.eX,T.rA,u4 hm,ha,hb,q⟩⟩
 | false =>
  have oY:n<=64:=hF.hi
  refine⟨_,_,_,Uu K,rfl,⟨T.fo,_,_,_,T.az0,az2 T,T.aA5⟩,by decide,λa b Q ha hb q=>?_⟩
  have AY:a<n:=ha
  have yg:b<n:=hb
  refine⟨_,n,a,b,rfl,T.fo,T.oW,by omega,gY.ok (.inr ⟨by omega,by omega⟩),?_⟩
  have e:((gm (false,n) a b:Nat):Int)=(a:Int)*b%n:=by
   show((a*b%n:Nat):Int)=_
   rw[nH,sE]
  rw[<-e];exact q
noncomputable abbrev co4(t:eV)(P:Program)(w:World)(K:Frag)(mg:Str->Option Value)(base:Heap):bg:=λds Q=>∃(m:Bool × Nat) (c:List Nat) (os:List (List Nat)),ds=[fD t.aH t.aN m,.lst false (aj c),.lst false (ay false os)]/\m∈aG/\nul c=false/\c.length<=64/\AllLt (ae m) c/\RT (ae m) c.length os/\os.length<=1000/\Q (.lst true (ay true (gG m c os)))
theorem cp8(T:Txt K mg t):aM P w K mg base aQ 3 t.JB t.JC ["field","column","others"] (bh (co4 t P w K mg base)):=by
 refine bA T.Te vx ?_ ?_
 ·intro ds Q h
  obtain⟨m,c,os,rfl,hm,hn,hc,Lz,kM,hol,q⟩:=h<;>rfl
 ·intro aD A outer s H E hr
  refine⟨_,(aA (aU (i:=3) vx.nd rfl (ai rfl) (dq (bC (aa (dA [] ["k","x"] rfl (qN rfl T.rE (ag (bv 1) aw)) (λ_ _ _ _=>(i8 (i1:=0) (i2:=1) rfl (show(["k","x"]:List Str).Nodup by decide +kernel) rfl (ai (lookup_relabel_local rfl)) rfl (ai (lookup_relabel_local rfl)) (by decide) (by decide) (aX (lookup_relabel_local rfl)) (aX (lookup_relabel_local rfl)))) (λ_ _ _ _=>(E2 (bX (i6 (cT hr)) (bv 1) (aa ao) (bG _)))) (λ_ _ _ _=>(dq (bv 0))) rfl trivial (λ_=>by repeat' (first | exact trivial | refine⟨.inl rfl,?_⟩ | refine⟨.inr (.inl rfl),?_⟩ | refine⟨.inr (.inr ⟨_,rfl⟩),?_⟩)) (λ_=>trivial) rfl (by decide +kernel))) (aa ao) (λ_ _=>rfl))))
   (aA (aU (i:=4) vx.nd rfl (ai rfl) (QV (P:=P) (w:=w) (K:=K) (mg:=mg) (base:=base) (n:=2) (bv 0) (hr.mono (by decide)) (ag (aa ao) (ag (bC (bv 1) (bv 3) (λ_ _=>rfl)) aw))))
   (aA (aU (i:=5) vx.nd rfl (ai rfl) (dP cF))
   (aA (gi eT rfl (AL (dq (bv 2))) (cy (i:=6) vx.nd rfl (ai rfl))
    (aA (aU (i:=7) vx.nd rfl (ai rfl) (fQ (P:=P) (w:=w) (K:=K) (mg:=mg) (base:=base) (n:=1) (bv 0) (hr.mono (by decide)) (ag (bv 6) (ag (aa (fQ (P:=P) (w:=w) (K:=K) (mg:=mg) (base:=base) (n:=1) (bv 0) (hr.mono (by decide)) (ag (bC (bv 6) (bv 3) (λ_ _=>rfl)) (ag (bv 4) aw)))) (ag (bv 1) aw)))))
    (aE (lN (i:=5) rfl (by first | exact ai rfl | exact aX (ai rfl)) (az cH (aa (uQ (bv 7) uC (uD (bv 3)))) (aa (uQ (bv 7) (uD (aa (az cH (bv 3) (aa ao)))) uC)))))))
   (aE (aV (em 5))))))),λds Q h=>?_⟩
  obtain⟨m,c,os,rfl,hm,hn,hc,Lz,kM,hol,q⟩:=h
  have eQ:=(cU hm).lo
  obtain⟨pl,pn⟩:=Gr hn
  have cp:=Lz.getD (show 0<ae m by omega) (aT c)
  have cx:∃x∈c,x≠0:=⟨_,fE pl 0,pn⟩
  refine aB λU hU=>?_
  walk_at"l3"
  refine FY (aL c.length) (λ(i:Nat)=>D.tup [.int (i:Int),.int ((c.getD i 0:Nat):Int)]) (λ(i:Nat)=>D.int (i:Int)) (λi=>c.getD i 0 != 0) (FZ c) (λa b h=>by injection h with h;simp at h;omega) (λi hi=>?_) (.inr λ_ _ _=>rfl) (by rw[cB,sL];omega) ?_
  ·walk_at"l3"
   refine⟨?_,λ_=>trivial⟩
   by_cases h0:c.getD i 0=0
   ·rw[h0];rfl
   ·rw[decide_eq_false (by omega),bne_iff_ne.mpr h0];rfl
  dsimp only
  refine⟨.int (aT c:Nat),L3.Fu (k:=0) (by rw[bZ,Rj cx];rfl),rfl,hU _ ?_⟩
  clear hU U
  refine aB λU hU=>?_
  walk_at"l3"
  refine⟨_,_,_,_,u6 _ _ m,Ua T m,QW m _ (by decide),.int (c.getD (aT c) 0:Nat),by rw[oI (by omega) (by omega),gy],m,1,c.getD (aT c) 0,by rw[u6];rfl,hm,eQ,cp,λz=>absurd z pn,λ_ iv Uv Gu=>?_⟩
  have ei:l6 m (c.getD (aT c) 0)=iv:=Bw hm Uv Gu
  refine⟨rfl,hU _ ?_⟩
  clear hU U
  refine aB λU hU=>?_
  walk_at"l3"
  refine⟨by decide,hU _ ?_⟩
  clear hU U
  refine aB λU hU=>?_
  walk_at"l3"
  refine gh.mk (λi δ=>∃o6 o7,δ=[some (fD t.aH t.aN m),some (D.lst false (aj c)),some (D.lst false (ay false os)),some (D.int (aT c)),some (D.int iv),some (D.lst true (ay true (gG m c (os.take i)))),o6,o7]) ⟨_,_,rfl⟩ ?_ ?_
  ·rintro i d δ hd ⟨o6,o7,rfl⟩
   obtain⟨hi,rfl⟩:=cd0 hd
   clear hd hU
   obtain⟨ol,oa⟩:=kM _ (dN hi)
   have op:=oa.getD (show 0<ae m by omega) (aT c)
   obtain⟨C,ns,xs,sp,e1,e2,e3,e4⟩:=T6 (P:=P) (w:=w) (base:=base) T hm
   refine aB λU hU=>?_
   walk_at"l3"
   obtain⟨C1,n1,x1,sp1,g1,g2,g3,g4⟩:=cq0 (P:=P) (w:=w) (base:=base) T hm
   refine⟨C,ns,xs,sp,e1,e2,e3,C1,n1,x1,sp1,g1,g2,g3,.int (os[i].getD (aT c) 0:Nat),by rw[oI (by omega) (by omega),gy],g4 _ iv _ op Uv ⟨rfl,e4 os[i] c (gm m (os[i].getD (aT c) 0) iv) _ (dw hm _ _) Lz (by omega) ⟨rfl,hU _ ?_⟩⟩⟩
   clear hU
   have ep:gG m c (os.take (i+1))=gG m c (os.take i)++[(cP (λx y=>bO m x (gm m (gm m (os[i].getD (aT c) 0) iv) y)) os[i] c).take (aT c)++(cP (λx y=>bO m x (gm m (gm m (os[i].getD (aT c) 0) iv) y)) os[i] c).drop (aT c+1)]:=by
    unfold gG
    rw[mw,aS hi,M6,fh,df,jH,ei]
   rw[ep]
   have ll:(cP (λx y=>bO m x (gm m (gm m (os[i].getD (aT c) 0) iv) y)) os[i] c).length<=64:=by rw[jK];omega
   generalize cP (λx y=>bO m x (gm m (gm m (os[i].getD (aT c) 0) iv) y)) os[i] c=lf at ll ⊢
   have pl2:(gG m c (os.take i)).length<=1000:=by rw[RU,iu];omega
   walk_at"l3"
   rw[P7,show((aT c:Int)+1)=((aT c+1:Nat):Int) by omega,AZ]
   exact⟨⟨_,rfl⟩,by rw[iu,jI];omega,by omega,_,_,rh true _ [lf.take (aT c)++lf.drop (aT c+1)],rfl,rfl⟩
  ·rintro δ ⟨o6,o7,rfl⟩
   refine hU _ ?_
   walk_at"l3"
   rw[sq]
   exact q
noncomputable def fq(o:Bool)(l:List Cs):List D:=l.map λs=>.tup [.lst o (aj s.1),.lst o (ay o s.2)]
theorem Uw(o:Bool)(l:List Cs):(fq o l).map D.sh=fq false l:=by
 unfold fq
 rw[bR]
 refine pB λs _=>?_
 show(D.tup [.lst o (aj s.1),.lst o (ay o s.2)]).sh=_
 rw[lF,df,df,jH,yv,dF,dR]
theorem cn0(l:List Cs):(fq false l).all D.pl=true:=by
 rw[cX]
 intro d hd
 obtain⟨s,_,rfl⟩:=bD.mp hd
 show(D.tup [.lst false (aj s.1),.lst false (ay false s.2)]).pl=true
 rw[kr,dh,dh,fK,fK,m4,oM];rfl
theorem b67(o:Bool)(a b:List Cs):fq o a++fq o b=fq o (a++b):=by unfold fq;rw[fh]
theorem ci5{o:Bool}{l:List Cs}{i:Nat}{d:D}(hd:(fq o l)[i]?=some d):∃hi:i<l.length,d=.tup [.lst o (aj l[i].1),.lst o (ay o l[i].2)]:=by
 unfold fq at hd
 rw[bZ]at hd
 by_cases hi:i<l.length
 ·rw[aS hi]at hd
  exact⟨hi,(cO hd).symm⟩
 ·rw[gJ (by omega)]at hd;cases hd
theorem b81(o:Bool)(l:List Cs):dv 6 (.lst o (fq o l))=true:=by
 show(fq o l).all (dv 5)=true
 rw[cX]
 intro d hd
 obtain⟨s,_,rfl⟩:=bD.mp hd
 show([D.lst o (aj s.1),.lst o (ay o s.2)]).all (dv 4)=true
 rw[dh,dh,u9 3 o s.1,Rc 2 o o s.2];rfl
theorem bU7{m:Bool × Nat}{c:List Nat}{os:List (List Nat)}{N:Nat}(h:∀o∈os,o.length<=N):∀x∈gG m c os,x.length<=N:=λx hx=>by
 obtain⟨o,ho,rfl⟩:=bD.mp hx
 have:=h o ho
 rw[dm,iu,jI,jK]
 omega
theorem LA{W:Nat}:∀{l:List Cs},(∀s∈l,s.2.length<=W)->(dJ l).length<=l.length*W
 | [],_=>kP _
 | s::l,h=>by
  have ih:=LA (λs hs=>h s (fU _ hs))
  have h1:=h s (jj ..)
  show(fm s++dJ l).length<=_
  rw[dm,show(fm s).length=s.2.length by unfold fm;rw[bq,cB],jl,Nat.succ_mul]
  omega
noncomputable def cK5:Option (List Nat)->D
 | some l=>.lst true (aj l)
 | none=>.au
noncomputable abbrev aL0(t:eV)(P:Program)(w:World)(K:Frag)(mg:Str->Option Value)(base:Heap):bg:=λds Q=>∃(m:Bool × Nat) (G:List (List Nat)),ds=[fD t.aH t.aN m,.lst false (ay false G)]/\m∈aG/\G.length<=64/\RT (ae m) (av G) G/\0<av G/\av G<=6/\Q (cK5 (ni m G))
theorem aL1(T:Txt K mg t):aM P w K mg base aQ 4 t.JE t.JF ["field","table"] (bh (aL0 t P w K mg base)):=by
 refine bA T.Tf oV ?_ ?_
 ·intro ds Q h
  obtain⟨m,G,rfl,hm,hG,hR,LB,hw,q⟩:=h<;>rfl
 ·intro aD A outer s H E hr
  refine⟨_,(aA (aU (i:=2) oV.nd rfl (ai rfl) (bu ((CH T).mono (by decide)) hr rfl T.B8 T.yO.kp T.B9 aR (ag (bv 1) aw)))
   (aA (aU (i:=3) oV.nd rfl (ai rfl) (dP (cq (mR (cq (dP cF) (cq (bu ((Us T).mono (by decide)) hr rfl T.Ta T.KD.kp T.Tc aR (ag (bv 1) aw)) cF))) cF)))
   (aA (tO eT (bX (i6 (cT hr)) (bv 3) (aa (dP cF)) (bG _))
    (aA (aU (i:=4) oV.nd rfl (ai rfl) (dP cF))
    (EW 3 (aA (gi eT rfl (AL (dq (bv 3))) (i8 (i1:=5) (i2:=6) rfl oV.nd rfl (ai rfl) rfl (ai rfl))
     (aE (gi eT rfl (qN rfl T.rE (ag (bv 6) aw)) (i8 (i1:=7) (i2:=8) rfl oV.nd rfl (ai rfl) rfl (ai rfl))
      (aA (aU (i:=9) oV.nd rfl (ai rfl) (az cH (bv 5) (aa (dP (cq (az cH (aa (az dQ (bv 2) (aa (di (gR) (by rfl) T.gH gA (ag (bv 6) aw))))) (bv 7)) cF)))))
      (aA (cR (iX (aa (bu ((aP9 T).mono (by decide)) hr rfl T.dk3 T.Td.kp T.dk4 aR (ag (bv 8) aw)))) (aE (aV (em 9))) cQ)
      (aE (lN (i:=4) rfl (by first | exact ai rfl | exact aX (ai rfl)) (mR (cq (em 9) (cq (bu ((cp8 T).mono (by decide)) hr rfl T.dk9 T.Te.kp T.dl0 aR (ag (bv 0) (ag (bv 8) (ag (aa (uQ (bv 6) (uD (aa (az cH (bv 7) (aa ao)))) uC)) aw)))) cF))))))))))
    (aE (aU (i:=3) oV.nd rfl (ai rfl) (em 4)))))))
   (aE (aV AH))))),λds Q h=>?_⟩
  obtain⟨m,G,rfl,hm,hG,hR,LB,hw,q⟩:=h
  have eQ:=(cU hm).lo
  refine aB λU hU=>?_
  walk_at"l3"
  refine⟨G,rfl,by omega,λr bo=>by rw[(hR r bo).1];omega,hU _ ?_⟩
  clear hU U
  refine aB λU hU=>?_
  walk_at"l3"
  refine⟨by decide,G,rfl,by omega,λr bo=>(hR r bo).1,by omega,by decide,by decide,hU _ ?_⟩
  clear hU U
  have Ls:=Lv.start hm LB hR
  refine aB λU hU=>?_
  walk_at"l3"
  refine⟨λn δ=>∃(l:List Cs) (k:Nat) (o4 o5 o6 o7 o8 o9:Option D),δ=[some (fD t.aH t.aN m),some (D.lst false (ay false G)),some (D.int (av G)),some (D.lst true (fq true l)),o4,o5,o6,o7,o8,o9]/\Lv m (jD G) (av G) k l/\k+n=av G+1/\rm m (av G) n l=ni m G/\l.length<=6 ^ k/\∀s∈l,∀r∈s.2,r.length<=64,⟨av G+1,[([],eG G)],0,_,_,_,_,_,_,rfl,Ls,by omega,rfl,bK _,λs hs r bo=>?_⟩,?_⟩
  ·rw[fv.mp hs]at bo
   have:=((RG (by omega) LB hR).2.2 r bo).1
   omega
  rintro n δ ⟨l,k,o4,o5,o6,o7,o8,o9,rfl,L,hk,LC,LD,mf⟩
  walk_at"l3"
  refine⟨by decide,⟨b81 true l,rfl⟩,?_⟩
  by_cases l0:l=[]
  ·subst l0
   rw[show bF (D.lst true (fq true [])) (D.lst true [])=true from rfl,if_neg (by decide)]
   refine hU _ ?_
   walk_at"l3"
   have e0:ni m G=none:=by
    rw[<-LC]
    cases n with
    | zero=>rfl
    | succ n=>rfl
   rw[e0]at q
   exact q
  have d0:bF (D.lst true (fq true l)) (D.lst true [])=false:=by
   cases l with
   | nil=>exact absurd rfl l0
   | cons s l=>rfl
  rw[d0,if_pos (by decide)]
  have za:∀s∈l,jg (av G) s.1/\s.2.length<=6:=λs hs=>by
   have g:=(L.gs s hs).1
   have gl:=g.le
   exact⟨⟨g.inc,λx hx=>by have:=g.off x hx;omega⟩,by omega⟩
  obtain⟨n,rfl⟩:∃n',n=n'+1:=by
   cases n with
   | succ n=>exact⟨n,rfl⟩
   | zero =>
    exfalso
    cases l with
    | nil=>exact l0 rfl
    | cons s l =>
     have h1:=(za s (jj ..)).1.len
     have h2:=(L.gs s (jj ..)).2
     omega
  clear hU
  have k6:6 ^ k*6<=279936:=by
   have:6 ^ (k+1)<=6 ^ 7:=vT (by decide) (by omega)
   rw[mj]at this
   exact this
  have dA0:∀a,(dJ (l.take a)).length<=279936:=λa=>by
   have h1:=LA (W:=6) (l:=l.take a) λs hs=>(za s (sr hs)).2
   have h2:(l.take a).length<=6 ^ k:=by rw[iu];omega
   have:=WC 6 h2
   omega
  refine aB λU hU=>?_
  walk_at"l3"
  refine⟨by decide,hU _ ?_⟩
  clear hU
  refine⟨_,rfl,?_⟩
  rw[dF,Uw]
  simp only[jM,jL]
  refine aB λU hU=>?_
  walk_at"l3"
  refine⟨cn0 l,?_⟩
  rw[Uw]
  refine gh.mk (λa δ=>(∀z∈dJ (l.take a),nh z=false)/\∃o5 o6 o7 o8 o9,δ=[some (fD t.aH t.aN m),some (D.lst false (ay false G)),some (D.int (av G)),some (D.lst false (fq false l)),some (D.lst true (fq true ((dJ (l.take a)).map (iH m (av G))))),o5,o6,o7,o8,o9]) ⟨λz hz=>absurd hz iw,_,_,_,_,_,rfl⟩ ?_ ?_
  ·rintro a d δ hd ⟨oR,o5,o6,o7,o8,o9,rfl⟩
   obtain⟨ha,rfl⟩:=ci5 hd
   clear hd hU
   have hs:=dN ha
   obtain⟨gs,gk⟩:=L.gs _ hs
   obtain⟨hh,LF⟩:=gs.rt
   have g6:=(za _ hs).2
   have et:dJ (l.take (a+1))=dJ (l.take a)++fm l[a]:=by
    unfold dJ
    rw[mw,aS ha,M6,WD,List.flatMap_cons,List.flatMap_nil,fV]
   rw[et]
   have Ux:=dA0 (a+1)
   rw[et,dm]at Ux
   generalize hS:l[a]=s0 at hs gs gk LF g6 et Ux ⊢
   have l1:(fm s0).length=s0.2.length:=by unfold fm;rw[bq,cB]
   walk_at"l3"
   refine gh.mk (λi δ=>(∀z∈(fm s0).take i,nh z=false)/\∃o7 o8 o9,δ=[some (fD t.aH t.aN m),some (D.lst false (ay false G)),some (D.int (av G)),some (D.lst false (fq false l)),some (D.lst true (fq true ((dJ (l.take a)++(fm s0).take i).map (iH m (av G))))),some (D.lst false (aj s0.1)),some (D.lst false (ay false s0.2)),o7,o8,o9]) ⟨λz hz=>absurd hz iw,_,_,_,by rw[List.take_zero,fV]⟩ ?_ ?_
   ·rintro i d δ hd ⟨zb,o7,o8,o9,rfl⟩
    obtain⟨hi,rfl⟩:=Ri hd
    clear hd
    obtain⟨cl,ca⟩:=LF _ (dN hi)
    have gc:s0.2.getD i []=s0.2[i]:=by rw[aY,aS hi];rfl
    have gle:=gs.le
    have ei:(fm s0).take (i+1)=(fm s0).take i++[(s0,i)]:=by
     rw[mw]
     congr 1
     unfold fm
     rw[bZ,kg hi];rfl
    have hh6:hh<=64:=by have:=mf _ hs _ (dN hi);omega
    have il1:=(za _ hs).1.len
    simp only[jv,jM,jL]
    refine aB λU hU=>?_
    walk_at"l3"
    have eb:aj s0.1++[D.int ((av G:Int)-(s0.2.length:Int)+(i:Int))]=aj (jC (av G) (s0,i)):=by
     unfold jC
     rw[bY,bY,fh]
     show _=_++[D.int ((av G-s0.2.length+i:Nat):Int)]
     rw[show(av G:Int)-(s0.2.length:Int)+(i:Int)=((av G-s0.2.length+i:Nat):Int) by omega]
    rw[eb]
    refine⟨by decide,by omega,hU _ ?_⟩
    clear hU
    refine aB λU hU=>?_
    walk_at"l3"
    refine⟨s0.2[i],rfl,by omega,nul s0.2[i],rfl,?_⟩
    cases hz:nul s0.2[i]with
    | true =>
     rw[if_pos rfl]
     have ef:ni m G=some (jC (av G) (s0,i)):=by
      rw[<-LC,rm,if_neg l0]
      have:(dJ l).find? nh=some (s0,i):=by
       refine WA.mpr ⟨by show nul (s0.2.getD i [])=true;rw[gc];exact hz,dJ (l.take a)++(fm s0).take i,(fm s0).drop (i+1)++dJ (l.drop (a+1)),?_,λz LG=>?_⟩
       ·have e1:dJ l=dJ (l.take (a+1))++dJ (l.drop (a+1)):=by
         conv=>lhs;rw[<-Nu (a+1) l]
         unfold dJ
         rw[WD]
        have e2:fm s0=(fm s0).take i++(s0,i)::(fm s0).drop (i+1):=by
         conv=>lhs;rw[<-Nu (i+1) (fm s0),ei,dM]
         rfl
        rw[e1,et]
        conv=>lhs;rw[e2]
        simp only[dM,sC]
       ·have:=(cj.mp LG).elim (oR z) (zb z)
        rw[this];rfl
      rw[this];rfl
     rw[ef]at q
     exact q
    | false =>
     rw[if_neg (by decide)]
     refine hU _ ?_
     clear hU
     walk_at"l3"
     rw[show((i:Int)+1)=((i+1:Nat):Int) by omega,AZ,ei]
     refine⟨⟨_,rfl⟩,m,s0.2[i],s0.2.drop (i+1),rfl,hm,hz,by omega,ca,λr bo=>by rw[cl];exact LF r (pz bo),by rw[jI];omega,by rw[gg,vh];rfl,by decide,?_,λz LG=>?_,_,_,_,?_,rfl,rfl,rfl⟩
     ·unfold fq
      rw[bq,bq,dm,iu]
      omega
     ·rcases cj.mp LG with y | y
      ·exact zb z y
      ·rw[fv.mp y]
       show nul (s0.2.getD i [])=false
       rw[gc];exact hz
     ·rw[<-dM,fh (l₁:=dJ (l.take a)++(fm s0).take i),<- b67]
      congr 1
      show _=[D.tup [.lst true (aj (iH m (av G) (s0,i)).1),.lst true (ay true (iH m (av G) (s0,i)).2)]]
      show _=[D.tup [.lst true (aj (jC (av G) (s0,i))),.lst true (ay true (gG m (s0.2.getD i []) (s0.2.drop (i+1))))]]
      rw[gc]
   ·rintro δ ⟨zb,o7,o8,o9,rfl⟩
    rw[show(fC (ay false s0.2)).length=(fm s0).length by rw[qM,kG,l1],sq]at zb ⊢
    exact⟨λz hz=>(cj.mp hz).elim (oR z) (zb z),_,_,_,_,_,rfl⟩
  ·rintro δ ⟨oR,o5,o6,o7,o8,o9,rfl⟩
   refine hU _ ?_
   clear hU
   rw[show(fq false l).length=l.length by unfold fq;rw[bq],sq]at oR ⊢
   walk_at"l3"
   have hf:(dJ l).find? nh=none:=Np.mpr λz hz=>by rw[oR z hz];decide
   refine⟨n,by omega,_,k+1,_,_,_,_,_,_,⟨rfl,rfl,rfl,rfl,rfl,rfl,rfl⟩,L.next hm (R4 hm hR) oR,by omega,?_,?_,λs hs r bo=>?_⟩
   ·rw[<-LC,rm,if_neg l0,hf]
   ·rw[bq,mj]
    have:=LA (W:=6) λs hs=>(za s hs).2
    exact fg this (WC 6 LD)
   ·obtain⟨z,hz,rfl⟩:=bD.mp hs
    exact bU7 (λo ho=>mf _ (vm.mp hz).1 o (pz ho)) r bo
noncomputable abbrev bz2(t:eV):List D->List Str->List D->Prop:=λds ns xs=>∃(m:Bool × Nat) (G:List (List Nat)) (Fb:List Nat),ds=[fD t.aH t.aN m,.lst false (ay false G)]/\ik m G/\1<=G.length/\G.length<=12/\2<=av G/\av G<=6/\ni m G=some Fb/\ns=(["field","length","check_rows","word_rows","message_places","size","bound"]:List Str)/\xs=l7 t.aH t.aN true m G++[.int (Fb.length:Nat)]
theorem Uy(T:Txt K mg t)(hB:Bm mg base):aM P w K mg base aQ 5 t.JG t.JH ["self","field","table"] (BM [t.iJ,t.iK] t.bJ (bz2 t)):=by
 refine T.dl3.ok aD4 (λvs H Q E h=>?_) λaD A outer s H vs Q E hr h=>?_
 ·obtain⟨F,H0,x,dx,bS,ds,ns,xs,rfl,_,_,_,_,_,r,⟨m,G,Fb,rfl,_⟩,_⟩:=h
  have:=r.length
  simp at this
  simp[this]
 obtain⟨F,H0,x,dx,bS,ds,ns,xs,rfl,tb,e0,gn,s0,hx,r,⟨m,G,Fb,rfl,hc,g1,y9,w2,w6,hF,rfl,rfl⟩,q⟩:=h
 have hm:=hc.hm
 have hG:=hc.rt
 obtain⟨vf,CL,B1,B2,rfl,LH,rf,r2⟩:=R.cL r
 obtain⟨rfl,rfl⟩:=pq.mp LH.symm
 obtain⟨vc,EL,B1,B2,rfl,dA2,rc,r3⟩:=R.cL r2
 obtain⟨rfl,rfl⟩:=pq.mp dA2.symm
 cases r3
 refine⟨_,eN (pQ (Ad (Ab (iT ((aE7 T).mono (by decide)) hr rfl T.dj9 T.S8.kp T.dk0 .nil aR (bV (pv 1) (bV (pv 2) eU))))) (iP pS) pO)
  (eN (pQ (bX (fP (cT hr)) (aa (bu ((cm8 T).mono (by decide)) hr rfl T.dk1 T.S9.kp T.dk2 aR (ag (bv 1) (ag (bv 2) aw)))) (aa (di (gR) (by rfl) T.gH gA (ag (bC (bv 2) (aa ao) (λ_ _=>rfl)) aw))) (bG _)) (iP pS) pO)
  (eN (pP (Gz (E:=E0) T.Ld ((Lp T).mono (by decide)) hr T.KC aR rfl T.vI (bV (pv 0) (bV (pv 1) (bV (pv 2) eU)))))
  (iP (gM (pv 0) (di (gR) (by rfl) T.gH gA (ag (aa (bu ((aL1 T).mono (by decide)) hr rfl T.dl1 T.Tf.kp T.dl2 aR (ag (bv 1) (ag (bv 2) aw)))) aw)) rfl)))),?_⟩
 refine⟨_,rfl,_,rfl,F,[fD t.aH t.aN m,.lst false (ay false G)],λd=>d=.bl true,e0.trans s0,R.cons (A:=[]) (rf.shared (L3.af.refl _) s0) (rc.shared (L3.af.refl _) s0),⟨m,G,rfl,hm,hG,g1,y9,w2,by omega,rfl⟩,λd v F1 H1 A1 hd eI y7 Lq Uj r1 Uk Lr=>?_⟩
 subst hd
 cases r1
 refine⟨true,rfl,?_⟩
 refine iC ?_
 have s1:=s0.trans eI
 have cm:=eI.get _ _ hx rfl
 have nr:(dy m G).length≠av G:=λz=>by
  obtain⟨⟨Hd,I⟩,iR⟩:=hc.red
  have:=I.Gp hm iR
  have h0:=hc.sz
  unfold ij at h0
  omega
 refine⟨⟨H1,F⟩,F,[none,some (fD t.aH t.aN m),some (.lst false (ay false G))],[],λb _=>b=false,aq.self (e0.trans s1) (.dG (A:=[]) (C:=[]) (rf.shared (L3.af.refl _) s1) (.dG (A:=[]) (C:=[]) (rc.shared (L3.af.refl _) s1) .nil)),?_,λb ah F2 H2 hb hf2 fi c2=>?_⟩
 ·walk_at"l3"
  refine⟨m,G,rfl,hm,by omega,hG,by omega,?_⟩
  obtain⟨g,G',rfl⟩:∃g G',G=g::G':=by
   cases G with
   | nil=>exact absurd g1 (by decide)
   | cons g G'=>exact⟨g,G',rfl⟩
  refine⟨.lst false (aj g),yx false (T:=g::G') (i:=0) (Nv _),qL 5 ((dy m (g::G')).length:Nat),?_⟩
  rw[kF,dX]
  exact decide_eq_false λz=>nr (Int.ofNat.inj z)
 subst hb
 refine iC ?_
 have s2:=s1.trans fi
 have dO:=fi.get _ _ cm rfl
 refine⟨.ref x,rfl,vf,rfl,vc,rfl,F,H0,x,dx,t.bJ,vf,vc,m,G,[],rfl,e0,gn,s2,dO,.nil,⟨T.rB,T.Cf,T.Cg,T.Ce,T.Cj,T.KY,T.Ci⟩,rf,rc,hm,hG,by omega,by omega,λH' p1 p2 p3 B1 B2 B3 sx da k1 k2 k3 nd fr=>?_⟩
 have so:=bI.of0 gn s2 sx
 refine⟨⟨H',F⟩,F,[none,some (fD t.aH t.aN m),some (.lst false (ay false G))],[],λd _=>d=.int (Fb.length:Nat),aq.self (e0.trans so) (.dG (A:=[]) (C:=[]) (rf.shared (L3.af.refl _) so) (.dG (A:=[]) (C:=[]) (rc.shared (L3.af.refl _) so) .nil)),?_,λd ah v F3 H3 hd y6 gU c3=>?_⟩
 ·walk_at"l3"
  refine⟨m,G,rfl,hm,by omega,hG,by omega,w6,?_⟩
  rw[hF]
  show(((aj Fb).length:Nat):Int)=_
  rw[dX]
 subst hd
 obtain⟨A3,C3,r3,_,nd3,_⟩:=c3.own
 obtain rfl:v=.int (Fb.length:Nat):=by cases r3;rfl
 have eY:=gU.get _ _ da rfl
 refine⟨.ref x,rfl,x,t.bJ,dx,_,rfl,eY,T.rB,T.Cd,by show 6<1000;decide,?_⟩
 have mv:∀{ds:List D} {vs:List V} {A':List Addr} {fs':List (Str × V)},R (λ_=>none) H' ds vs A'->ds.all D.fr=true->R (λ_=>none) (upd H3 x (.ins t.bJ dx fs')) ds vs A':=λr hd=>(r.grow (L3.af.refl _) gU λa ha=>(r.lists a ha).2).qV eY hd
 have fR:∀X:List (List Nat),[D.lst true (ay true X)].all D.fr=true:=λX=>by rw[dh,gg,vh];rfl
 have fN:∀X:List Nat,[D.lst true (aj X)].all D.fr=true:=λX=>by rw[dh,gE];rfl
 have z:=((((eI.trans fi).x (x:=x)).trans sx).trans (gU.x (x:=x))).trans (bI.upd (C:=x) (dx:=dx) eY rfl (o':=.ins t.bJ dx (bz "bound" (.int (Fb.length:Nat)) ([]++nj.zip [vf,.int (av G:Nat),.ref p1,.ref p2,.ref p3,.int ((ij m G).length:Nat)]))))
 refine q _ [vf,.int (av G:Nat),.ref p1,.ref p2,.ref p3,.int ((ij m G).length:Nat),.int (Fb.length:Nat)] (B1++(B2++(B3++[]))) z (by rw[bL];rfl) rfl ?_ ?_ ?_
 ·have e:=e0.trans s0
  have up:∀{vL:Hp} {ds:List D} {vs:List V} {B:List Addr},R (λ_=>none) vL ds vs B->(∀a∈B,H2 a=none)->R F vL ds vs B:=λr h=>r.keep (L3.af.of λb o e=>by cases e) (fL.same (L3.af.refl _)) gB.nil (λa ha=>e.free ((eI.trans fi).free (h a ha))) (by simp)
  exact R.cons (A:=[]) (rf.shared (L3.af.refl _) (bI.of0 gn s0 z)) (.int (R.cons (up (mv k1 (fR _)) λa ha=>fr a (eR _ ha)) (R.cons (up (mv k2 (fR _)) λa ha=>fr a (cW _ (eR _ ha))) (R.cons (up (mv k3 (fN _)) λa ha=>fr a (cW _ (cW _ ha))) (.int (.int .nil))))))
 ·rw[fV];exact nd
 ·rw[fV]
  intro a ha
  exact(eI.trans fi).free (fr a ha)
noncomputable abbrev aN1:bg:=λds Q=>∃(m:Bool × Nat) (a b:Nat),ds=[dk m,.int a,.int b]/\m∈aG/\a<ae m/\b<ae m/\Q (.int (gm m a b:Nat))
theorem LJ(T:Txt K mg t):aM P w K mg base aQ 1 t.JI t.JJ ["_law_told_here","_law_a","_law_b"] (bh (aN1 )):=by
 refine bA T.Ca vy ?_ ?_
 ·intro ds Q h
  obtain⟨m,a,b,rfl,hm,ha,hb,q⟩:=h<;>rfl
 ·intro aD A outer s H E hr
  refine⟨_,(aA (cR (nZ (iX (bC (bv 0) (aa ao) (λ_ _=>rfl)))) (aE (aV (az cS (aa (az fM (bv 1) (bv 2))) (bC (bv 0) (aa ao) (λ_ _=>rfl))))) cQ)
   (aA (aU (i:=3) vy.nd rfl (ai rfl) ao)
   (aA (tO eT (bX E4 (bv 2) (aa ao) (bG _))
    (aA (cR (bX (fP (cT hr)) (aa (az Pp (bv 2) (aa ao))) (aa ao) (bG _)) (aE (aU (i:=3) vy.nd rfl (ai rfl) (az xh (bv 3) (bv 1)))) cQ)
    (aA (aU (i:=1) vy.nd rfl (ai rfl) (az t9 (bv 1) (aa ao)))
    (aA (cR (bX (fP (cT hr)) (aa (mY (bv 1))) (aa (mY (bC (bv 0) (aa ao) (λ_ _=>rfl)))) (bG _)) (aE (aU (i:=1) vy.nd rfl (ai rfl) (az xh (bv 1) (bC (bv 0) (aa ao) (λ_ _=>rfl))))) cQ)
    (aE (aU (i:=2) vy.nd rfl (ai rfl) (az Po (bv 2) (aa ao))))))))
   (aE (aV (em 3)))))),λds Q h=>?_⟩
  obtain⟨m,a,b,rfl,hm,ha,hb,q⟩:=h
  unfold dk at *
  obtain⟨k,n⟩:=m
  refine aB λU hU=>?_
  walk_at"l3"
  have hF:=cU hm
  cases k with
  | false =>
   refine⟨_,rfl,false,rfl,?_⟩
   have oY:n<=64:=hF.hi
   have l2:2<=n:=hF.lo
   have AY:a<n:=ha
   have yg:b<n:=hb
   rw[if_pos (by decide)]
   refine⟨gY.ok (.inr ⟨by omega,by omega⟩),_,rfl,by omega,?_⟩
   have e:((gm (false,n) a b:Nat):Int)=(a:Int)*b%n:=by
    show((a*b%n:Nat):Int)=_
    rw[nH,sE]
   rw[<-e];exact q
  | true =>
   refine⟨_,rfl,true,rfl,?_⟩
   rw[if_neg (by decide)]
   have hp:=u4 hm
   have bp:=QK n hp
   have CG:=QL n hp
   have p0:n≠0:=λz=>by rw[z,mL]at CG;omega
   have gn:bl a<bl n:=by
    have:=eW.mpr (show a<2 ^ (bl n-1) from ha)
    omega
   have hy0:bl b<bl n:=by
    have:=eW.mpr (show b<2 ^ (bl n-1) from hb)
    omega
   refine hU _ ?_
   clear hU U
   refine aB λU hU=>?_
   walk_at"l3"
   refine hU _ ?_
   clear hU U
   refine aB λU hU=>?_
   walk_at"l3"
   refine⟨λm δ=>∃(x y z:Nat),δ=[some (.tup [.bl true,.int n]),some (.int (x:Nat)),some (.int (y:Nat)),some (.int (z:Nat))]/\z ^^^ md (cl x y) n=gm (true,n) a b/\bl x<bl n/\bl y<bl n/\m=bl y,
    ⟨bl b,a,b,0,rfl,by rw[nF];rfl,gn,hy0,rfl⟩,?_⟩
   rintro m δ ⟨x,y,z,rfl,inv,hx,hy,rfl⟩
   walk_at"l3"
   split
   ·rename_i LK
    have TZ:=g9 (show y≠0 by omega)
    have CI:bl (y/2)=bl y-1:=ZJ y
    have e1:((x:Int)*2 ^ (1:Int).toNat)=((2*x:Nat):Int):=by
     show(x:Int)*(2:Int) ^ 1=_
     omega
    have e2:((y:Int)/2 ^ (1:Int).toNat)=((y/2:Nat):Int):=by
     show(y:Int)/(2:Int) ^ 1=_
     omega
    have a1:nD (y:Int) 1=((y%2:Nat):Int):=by
     rw[show(1:Int)=((1:Nat):Int) from rfl,OH,Nat.and_one_is_mod]
    have tm:=co3 (y:=y) p0 hx
    have tb:=cq6 p0 hx
    clear hU
    refine aB λU hU=>?_
    walk_at"l3"
    have fin:∀z':Nat,z'=z ^^^ (if y%2=1 then x else 0)->U [some (.tup [.bl true,.int n]),some (.int x),some (.int y),some (.int z')]:=by
     intro z' hz
     have dA5:z' ^^^ md (cl (if bl (2*x)=bl n then 2*x ^^^ n else 2*x) (y/2)) n=gm (true,n) a b:=by
      rw[hz,pj,<- tm];exact inv
     refine hU _ ?_
     clear hU
     refine aB λU hU=>?_
     walk_at"l3"
     refine⟨⟨by decide,by simp only[iN];omega⟩,hU _ ?_⟩
     clear hU
     rw[e1]
     refine aB λU hU=>?_
     walk_at"l3"
     have last:∀x':Nat,x'=(if bl (2*x)=bl n then 2*x ^^^ n else 2*x)->U [some (.tup [.bl true,.int n]),some (.int (x':Nat)),some (.int y),some (.int z')]:=by
      intro x' da
      refine hU _ ?_
      walk_at"l3"
      exact⟨by decide,bl (y/2),by omega,x',y/2,z',⟨rfl,e2,rfl⟩,by rw[da];exact dA5,by rw[da];exact tb,by omega,rfl⟩
     refine⟨_,rfl,?_⟩
     show(if(((bl (((2*x:Nat):Int)).natAbs:Nat):Int)=((bl ((n:Int)).natAbs:Nat):Int))then _ else _)
     rw[iN,iN]
     split
     ·rename_i hc
      refine⟨_,rfl,?_⟩
      have g:=last (2*x ^^^ n) (by rw[if_pos (by omega)])
      rw[<-mM]at g
      exact g
     ·rename_i hc
      exact last (2*x) (by rw[if_neg (by omega)])
    rw[a1]
    split
    ·rename_i CF
     have odd:y%2=1:=by omega
     have g:=fin (z ^^^ x) (by rw[if_pos odd])
     rw[<-mM]at g
     exact g
    ·rename_i CF
     exact fin z (by rw[if_neg (by omega),kR])
   ·rename_i LK
    have hy:y=0:=by omega
    subst hy
    rw[Zs,yr (by rw[mL];exact g9 p0),kR]at inv
    subst inv
    refine hU _ ?_
    walk_at"l3"
    exact q
noncomputable def nB(g:Nat->Nat->Nat)(a:Nat):Nat->List Int->Nat->Option (List Int)
 | 0,_,_=>none
 | f+1,l,p=>if g p a=1 then some l else nB g a f (l++[((g p a:Nat):Int)]) (g p a)
noncomputable def Uz(m:Bool × Nat):Bool:=decide (1<=(fst m).toNat)&&decide ((fst m).toNat<ae m)&&((aL ((fst m).toNat-1)).all λi=>match nB (gm m) (i+1) 64 [1] 1 with | none=>false | some l=>decide (l.length≠ae m-1))&&decide (nB (gm m) (fst m).toNat 64 [1] 1=some (fl m))
theorem cC8:aG.all Uz=true:=by decide +kernel
theorem cH8{m:Bool × Nat}(hm:m∈aG):∃s:Nat,1<=s/\s<ae m/\(∀i,i<s-1->∃l,nB (gm m) (i+1) 64 [1] 1=some l/\l.length≠ae m-1)/\nB (gm m) s 64 [1] 1=some (fl m):=by
 have h:=cX.mp cC8 m hm
 simp only[Uz,dZ,cX,decide_eq_true_eq,cV]at h
 refine⟨_,h.1.1.1,h.1.1.2,λi hi=>?_,h.2⟩
 have h3:=h.1.2 i hi
 cases e:nB (gm m) (i+1) 64 [1] 1 with
 | none=>rw[e]at h3;cases h3
 | some l=>rw[e]at h3;exact⟨l,rfl,of_decide_eq_true h3⟩
noncomputable abbrev aL2:bg:=λds Q=>∃m:Bool × Nat,ds=[dk m]/\m∈aG/\Q (.lst true (aF (fl m)))
theorem aL3(T:Txt K mg t):aM P w K mg base aQ 2 t.JK t.JL ["_law_told_here"] (bh (aL2 )):=by
 refine bA T.Th Hs ?_ ?_
 ·intro ds Q h
  obtain⟨m,rfl,hm,q⟩:=h<;>rfl
 ·intro aD A outer s H E hr
  refine⟨_,(aA (gi eT rfl (xb rfl T.gI (ag (aa ao) (ag (aa (bu ((CD T).mono (by decide)) hr rfl T.B5 T.yM.kp T.B6 aR (ag (bv 0) aw))) aw))) (cy (i:=1) Hs.nd rfl (ai rfl))
    (aA (aU (i:=2) Hs.nd rfl (ai rfl) (dP (cq ao cF)))
    (aA (tO eT (bX (i6 (cT hr)) (aa (bu ((LJ T).mono (by decide)) hr rfl T.KG T.Ca.kp T.KH aR (ag (bv 0) (ag (bC (bv 2) (aa (PC (aa ao))) (λ_ _=>rfl)) (ag (bv 1) aw))))) (aa ao) (bG _))
     (aE (lN (i:=2) rfl (by first | exact ai rfl | exact aX (ai rfl)) (bu ((LJ T).mono (by decide)) hr rfl T.KG T.Ca.kp T.KH aR (ag (bv 0) (ag (bC (bv 2) (aa (PC (aa ao))) (λ_ _=>rfl)) (ag (bv 1) aw)))))))
    (aE (cR (bX (fP (cT hr)) (aa (di (gR) (by rfl) T.gH gA (ag (bv 2) aw))) (aa (az dQ (aa (bu ((CD T).mono (by decide)) hr rfl T.B5 T.yM.kp T.B6 aR (ag (bv 0) aw))) (aa ao))) (bG _)) (aE (aV (em 2))) cQ)))))
   (aE (aV (dP (cq ao cF))))),λds Q h=>?_⟩
  obtain⟨m,rfl,hm,q⟩:=h
  have hF:=cU hm
  have eQ:=hF.lo
  have zc:=hF.hi
  have UA:=FT m hm
  obtain⟨st,s1,s2,s3,s4⟩:=cH8 hm
  refine aB λU hU=>?_
  walk_at"l3"
  refine⟨m,rfl,by omega,by omega,1,_,⟨rfl,rfl⟩,⟨by decide,by decide,by omega,by omega⟩,?_⟩
  refine gh.mk (λi δ=>i<=st-1/\∃o1 o2,δ=[some (dk m),o1,o2]) ⟨by omega,none,none,rfl⟩ ?_ ?_
  ·rintro i d δ hd ⟨hi,o1,o2,rfl⟩
   obtain⟨x8,rfl⟩:=cc7 hd
   rw[show(1:Int)+(i:Int)=((i+1:Nat):Int) by omega]
   clear hd
   obtain⟨L,eL,hL⟩:∃L,nB (gm m) (i+1) 64 [1] 1=some L/\((i=st-1/\L=fl m)\/(i<st-1/\L.length≠ae m-1)):=by
    by_cases UB:i=st-1
    ·exact⟨_,by rw[UB,show st-1+1=st by omega];exact s4,.inl ⟨UB,rfl⟩⟩
    ·obtain⟨l,h1,h2⟩:=s3 i (by omega)
     exact⟨l,h1,.inr ⟨by omega,h2⟩⟩
   refine aB λU hU=>?_
   walk_at"l3"
   refine⟨by decide,hU _ ?_⟩
   clear hU
   refine aB λU hU=>?_
   walk_at"l3"
   refine⟨λn δ=>∃(l:List Int) (p:Nat),δ=[some (dk m),some (.int ((i+1:Nat):Int)),some (.lst true (aF (l++[(p:Int)])))]/\p<ae m/\l.length+n=64/\nB (gm m) (i+1) n (l++[(p:Int)]) p=some L,
    ⟨64,[],1,rfl,by omega,rfl,eL⟩,?_⟩
   rintro n δ ⟨l,p,rfl,hp,hl,he⟩
   walk_at"l3"
   have ea:eP (aF (l++[(p:Int)])) (-1)=some (.int (p:Int)):=by rw[b17 (by rw[dm];show 0<l.length+1;omega),dm,jJ,Nat.add_sub_cancel,aY,mh (bK _),DI];rfl
   cases n with
   | zero=>cases he
   | succ n =>
    rw[nB]at he
    refine⟨_,ea,m,p,i+1,rfl,hm,hp,by omega,rfl,rfl,?_⟩
    rw[kF]
    by_cases c:gm m p (i+1)=1
    ·rw[if_pos c]at he
     cases he
     rw[decide_eq_true (by omega),if_neg (by decide)]
     refine hU _ ?_
     walk_at"l3"
     refine⟨m,rfl,by omega,by omega,?_⟩
     dsimp only
     rcases hL with⟨h1,h2⟩ | ⟨h1,h2⟩
     ·have:=hF.len
      rw[h2,if_pos (by omega)]
      exact q
     ·rw[if_neg (by omega)]
      exact⟨by omega,_,_,rfl,rfl⟩
    ·rw[if_neg c]at he
     rw[decide_eq_false (by omega),if_pos (by decide)]
     exact⟨⟨_,rfl⟩,_,ea,m,p,i+1,rfl,hm,hp,by omega,rfl,by rw[dm];show l.length+1<_;omega,n,by omega,l++[(p:Int)],gm m p (i+1),by simp only[aF,fh,df,jH],dw hm _ _,by rw[dm];show l.length+1+n=64;omega,he⟩
  ·rintro δ ⟨hi,_⟩
   simp at hi
   omega
noncomputable abbrev aB7:bg:=λds Q=>∃(m:Bool × Nat) (n e f:Nat),ds=[dk m,.int n,.int e,.int f]/\m∈aG/\n<=64/\e<=64/\f<=64/\Q (.lst true (ay true (ff m f (aL n) e)))
theorem UC(T:Txt K mg t):aM P w K mg base aQ 3 t.JM t.JN ["_law_told_here","_law_length","_law_extra","_law_first"] (bh (aB7 )):=by
 refine bA T.KI BW ?_ ?_
 ·intro ds Q h
  obtain⟨m,n,e,f,rfl,hm,hn,he,hf,q⟩:=h<;>rfl
 ·intro aD A outer s H E hr
  refine⟨_,(aA (aU (i:=4) BW.nd rfl (aX rfl) (bu ((aL3 T).mono (by decide)) hr rfl T.aM1 T.Th.kp T.aM2 aR (ag (bv 0) aw)))
   (aA (aU (i:=5) BW.nd rfl (ai rfl) (dP cF))
   (aA (gi eT rfl (js rfl T.gI (ag (bv 2) aw)) (cy (i:=6) BW.nd rfl (aX rfl))
    (aE (lN (i:=5) rfl (by first | exact ai rfl | exact aX (ai rfl)) (dA [("_law_powers_here",4),("_law_first",3),("_law_i",6)] ["_law_at"] rfl (js rfl T.gI (ag (bv 1) aw)) (λ_ _ _ _=>(cy (i:=3) (show(["_law_powers_here","_law_first","_law_i","_law_at"]:List Str).Nodup by decide +kernel) rfl (ai (lookup_relabel_local rfl)) (by decide) (aX (lookup_relabel_local rfl)))) (λ_ _ _ _=>du) (λ_ _ _ _=>(dq (bC (bv 0) (aa (az cS (aa (az fM (aa (az cH (bv 1) (bv 2))) (bv 3))) (aa (di (gR) (by rfl) T.gH gA (ag (bv 0) aw))))) (λ_ _=>rfl)))) rfl ⟨rfl,⟨rfl,⟨rfl,trivial⟩⟩⟩ (λ_=>by repeat' (first | exact trivial | refine⟨.inl rfl,?_⟩ | refine⟨.inr (.inl rfl),?_⟩ | refine⟨.inr (.inr ⟨_,rfl⟩),?_⟩)) (λ_=>⟨⟨rfl,.inl rfl,.inl rfl,_,rfl,rfl⟩,⟨⟨rfl,.inl rfl,.inl rfl,_,rfl,rfl⟩,⟨⟨rfl,.inl rfl,.inl rfl,_,rfl,rfl⟩,trivial⟩⟩⟩) rfl (by decide +kernel)))))
   (aE (aV (em 5)))))),λds Q h=>?_⟩
  obtain⟨m,n,e,f,rfl,hm,hn,he,hf,q⟩:=h
  have hF:=cU hm
  have eQ:=hF.lo
  have zc:=hF.hi
  have hlen:=hF.len
  refine aB λU hU=>?_
  walk_at"l3"
  refine⟨m,rfl,hm,hU _ ?_⟩
  clear hU U
  refine aB λU hU=>?_
  walk_at"l3"
  refine⟨by decide,hU _ ?_⟩
  clear hU U
  refine aB λU hU=>?_
  walk_at"l3"
  refine⟨⟨by omega,by omega⟩,xU (λi δ=>∃(o1:Option D),δ=[some (dk m),some (.int n),some (.int e),some (.int f),some (.lst true (aF (fl m))),some (.lst true (ay true (ff m f (aL n) i))),o1]) ⟨_,rfl⟩ ?_ ?_⟩
  ·rintro i δ hi ⟨o1,rfl⟩
   simp only[gN,jM,jL]
   clear hU
   walk_at"l3"
   refine⟨⟨_,rfl⟩,⟨by omega,by omega⟩,eD (aL n) (λ(i:Nat)=>D.int (i:Int)) (λ(p:Nat)=>D.int ((eS m (((f:Int)+(i:Int))*(p:Int)):Nat):Int)) (oJ _ rfl) jc (λp hp=>?_) (.inr λ_ _=>rfl) (by rw[cB,sL];omega) ?_⟩
   ·have hp:=cV.mp hp
    have n0:=fJ (((f:Int)+(i:Int))*(p:Int)) (show(ae m:Int)-1≠0 by omega)
    have el:(((fl m).length:Nat):Int)=(ae m:Int)-1:=by omega
    walk_at"l3"
    rw[el]
    refine⟨gY.ok (.inl ⟨by omega,by omega⟩),by omega,_,mF (d:=.int (eS m (((f:Int)+(i:Int))*(p:Int)):Nat)) n0 ?_,rfl,rfl⟩
    unfold aF;rw[bZ,Q5 hm];rfl
   ·refine⟨_,rfl,by rw[kG,(BJ hm f (aL n) i).2];omega,some (D.int i),?_⟩
    rw[show ff m f (aL n) (i+1)=ff m f (aL n) i++[(aL n).map λ(p:Nat)=>eS m (((f:Int)+(i:Int))*(p:Int))] by unfold ff;rw[DF,fh];rfl,<- rh,show((aL n).map λ(p:Nat)=>D.int ((eS m (((f:Int)+(i:Int))*(p:Int)):Nat):Int))=aj ((aL n).map λ(p:Nat)=>eS m (((f:Int)+(i:Int))*(p:Int))) by rw[bY,bR];rfl]
    rfl
  ·rintro δ ⟨o1,rfl⟩
   refine hU _ ?_
   walk_at"l3"
   exact q
noncomputable abbrev aB8:bg:=λds Q=>∃(M n e f:Nat),ds=[.int M,.int n,.int e,.int f]/\2<=n/\n+1<=M/\1<=e/\e+1<=n/\f+2<=M/\Q (.bl true)
theorem aB9(T:Txt K mg t):aM P w K mg base aQ 1 t.JO t.JP ["many","length","extra","first"] (bh (aB8 )):=by
 refine bA T.Tn az6 ?_ ?_
 ·intro ds Q h
  obtain⟨M,n,e,f,rfl,h1,h2,h3,h4,h5,q⟩:=h<;>rfl
 ·intro aD A outer s H E hr
  refine⟨_,(aE (aV (n6 (aa (ur kA kA (aa ao) (bv 1) (aa (az dQ (bv 0) (aa ao))))) (n6 (aa (ur kA kA (aa ao) (bv 2) (aa (az dQ (bv 1) (aa ao))))) (sM (ur kA kA (aa ao) (bv 3) (aa (az dQ (bv 0) (aa ao))))))))),λds Q h=>?_⟩
  obtain⟨M,n,e,f,rfl,h1,h2,h3,h4,h5,q⟩:=h
  walk_at"l3"
  rw[if_pos (by omega),if_pos (by omega),if_pos (by omega),if_pos (by omega),if_pos (by omega),decide_eq_true (by omega)]
  exact q
noncomputable abbrev bG4(t:eV):List D->List Str->List D->Prop:=λds ns xs=>∃(m:Bool × Nat) (n e f:Nat),ds=[fD t.aH t.aN m,.int n,.int e,.int f]/\m∈aG/\2<=n/\n+1<=ae m/\1<=e/\e+1<=n/\f+2<=ae m/\ns=(["extra","first","field","length","check_rows","word_rows","message_places","size"]:List Str)/\xs=[.int e,.int f]++l7 t.aH t.aN true m (ff m f (aL n) e)
theorem aG9(T:Txt K mg t)(hB:Bm mg base):aM P w K mg base aQ 5 t.JQ t.JR ["self","field","length","extra","first"] (BM [t.iJ,t.iK] t.bx (bG4 t)):=by
 refine T.dl8.ok Sn (λvs H Q E h=>?_) λaD A outer s H vs Q E hr h=>?_
 ·obtain⟨F,H0,x,dx,bS,ds,ns,xs,rfl,_,_,_,_,_,r,⟨m,n,e,f,rfl,_⟩,_⟩:=h
  have:=r.length
  simp at this
  simp[this]
 obtain⟨F,H0,x,dx,bS,ds,ns,xs,rfl,tb,e0,gn,s0,hx,r,⟨m,n,e,f,rfl,hm,h1,h2,h3,h4,h5,rfl,rfl⟩,q⟩:=h
 have zc:=(cU hm).hi
 obtain⟨vf,CL,B1,B2,rfl,LH,rf,r2⟩:=R.cL r
 obtain⟨rfl,rfl⟩:=pq.mp LH.symm
 obtain rfl:CL=[.int n,.int e,.int f]:=by
  cases r2 with
  | int r=>cases r with
   | int r=>cases r with
    | int r=>cases r;rfl
 refine⟨_,eN (pQ (nZ (iX (aa (bu ((aB9 T).mono (by decide)) hr rfl T.dl6 T.Tn.kp T.dl7 aR (ag (dj (K:=K) (bv 1)) (ag (bv 2) (ag (bv 3) (ag (bv 4) aw)))))))) (iP pS) pO)
  (eN (gM (pv 0) (pv 3) rfl)
  (eN (gM (pv 0) (pv 4) rfl)
  (eN (b88 (i:=5) Sn.nd rfl (ai rfl) [("field",1),("first",4),("length",2)] ["i"] rfl (js rfl T.gI (ag (bv 3) aw)) (λ_ _ _ _=>(cy (i:=3) (show(["field","first","length","i"]:List Str).Nodup by decide +kernel) rfl (aX rfl) (by decide) (ai rfl))) (λ_ _ _ _=>du) (by exact λ_ _ _ _=>(dA [("field",0),("first",1),("i",3)] ["j"] rfl (js rfl T.gI (ag (bv 2) aw)) (λ_ _ _ _=>(cy (i:=3) (show(["field","first","i","j"]:List Str).Nodup by decide +kernel) rfl (ai (lookup_relabel_local rfl)) (by decide) (aX (lookup_relabel_local rfl)))) (λ_ _ _ _=>du) (λ_ _ _ _=>(fQ (P:=P) (w:=w) (K:=K) (mg:=mg) (base:=base) (n:=1) (bv 0) (hr.mono (by decide)) (ag (aa (az fM (aa (az cH (bv 1) (bv 2))) (bv 3))) aw))) rfl ⟨rfl,⟨rfl,⟨rfl,trivial⟩⟩⟩ (λ_=>by repeat' (first | exact trivial | refine⟨.inl rfl,?_⟩ | refine⟨.inr (.inl rfl),?_⟩ | refine⟨.inr (.inr ⟨_,rfl⟩),?_⟩)) (λ_=>⟨⟨rfl,.inl rfl,.inl rfl,_,rfl,rfl⟩,⟨⟨rfl,.inl rfl,.inl rfl,_,rfl,rfl⟩,⟨⟨rfl,.inl rfl,.inl rfl,_,rfl,rfl⟩,trivial⟩⟩⟩) rfl (by decide +kernel))) rfl ⟨rfl,⟨rfl,⟨rfl,trivial⟩⟩⟩ (λ_=>by repeat' (first | exact trivial | refine⟨.inl rfl,?_⟩ | refine⟨.inr (.inl rfl),?_⟩ | refine⟨.inr (.inr ⟨_,rfl⟩),?_⟩)) (λ_=>⟨⟨rfl,.inl rfl,.inl rfl,_,rfl,rfl⟩,⟨⟨rfl,.inl rfl,.inl rfl,_,rfl,rfl⟩,⟨⟨rfl,.inl rfl,.inl rfl,_,rfl,rfl⟩,trivial⟩⟩⟩) rfl (by decide +kernel))
  (iP (pP (Gz (E:=E0) T.Ld ((Lp T).mono (by decide)) hr T.KC aR rfl T.vI (bV (pv 0) (bV (pv 1) (bV (pv 5) eU))))))))),?_⟩
 refine⟨⟨H,F⟩,F,[none,some (fD t.aH t.aN m),some (.int n),some (.int e),some (.int f),none],[],λb _=>b=false,aq.self (e0.trans s0) (.dG (A:=[]) (C:=[]) (rf.shared (L3.af.refl _) s0) (.dG (A:=[]) (C:=[]) (.int .nil) (.dG (A:=[]) (C:=[]) (.int .nil) (.dG (A:=[]) (C:=[]) (.int .nil) (.au .nil))))),?_,λb ah F1 H1 hb y7 eI c1=>?_⟩
 ·walk_at"l3"
  exact cA2 T m ⟨ae m,n,e,f,rfl,h1,h2,h3,h4,h5,rfl,true,rfl,rfl⟩
 subst hb
 refine iC ?_
 have s1:=s0.trans eI
 have cm:=eI.get _ _ hx rfl
 refine⟨.int e,rfl,.ref x,rfl,x,t.bx,dx,_,rfl,cm,T.vE,T.K9,by decide,?_⟩
 have dO:upd H1 x (.ins t.bx dx (bz "extra" (.int e) [])) x=some (.ins t.bx dx [("extra",.int e)]):=by rw[bL];rfl
 have z2:=(eI.x (x:=x)).trans (bI.upd (C:=x) (dx:=dx) cm rfl (o':=.ins t.bx dx (bz "extra" (.int e) [])))
 generalize upd H1 x (.ins t.bx dx (bz "extra" (.int e) []))=H2 at z2 dO ⊢
 refine⟨.int f,rfl,.ref x,rfl,x,t.bx,dx,_,rfl,dO,T.vE,T.La,by show 1<1000;decide,?_⟩
 have eY:upd H2 x (.ins t.bx dx (bz "first" (.int f) [("extra",.int e)])) x=some (.ins t.bx dx [("extra",.int e),("first",.int f)]):=by rw[bL];rfl
 have z3:=z2.trans (bI.upd (C:=x) (dx:=dx) dO rfl (o':=.ins t.bx dx (bz "first" (.int f) [("extra",.int e)])))
 generalize upd H2 x (.ins t.bx dx (bz "first" (.int f) [("extra",.int e)]))=H3 at z3 eY ⊢
 have s3:=bI.of0 gn s0 z3
 obtain⟨g1,g2⟩:=BJ hm f (aL n) e
 rw[cB]at g1
 have g3:av (ff m f (aL n) e)=n:=rj g1 λz=>by
  rw[z]at g2
  exact absurd g2 (by show ¬ 0=e;omega)
 refine⟨⟨H3,F⟩,F,[none,some (fD t.aH t.aN m),some (.int n),some (.int e),some (.int f),none],[],λd _=>d=.lst true (ay true (ff m f (aL n) e)),aq.self (e0.trans s3) (.dG (A:=[]) (C:=[]) (rf.shared (L3.af.refl _) s3) (.dG (A:=[]) (C:=[]) (.int .nil) (.dG (A:=[]) (C:=[]) (.int .nil) (.dG (A:=[]) (C:=[]) (.int .nil) (.au .nil))))),?_,λd ah v F4 H4 hd hf4 zd c4=>?_⟩
 ·walk_at"l3"
  refine⟨⟨by omega,by omega⟩,eD (aL e) (λ(i:Nat)=>D.int (i:Int)) (λ(i:Nat)=>D.lst true (aj ((aL n).map λ(p:Nat)=>eS m (((f:Int)+(i:Int))*(p:Int))))) (oJ _ (by omega)) jc (λi hi=>?_) (.inr λ_ _=>gE _) (by rw[cB,sL];omega) ?_⟩
  ·have hi:=cV.mp hi
   walk_at"l3"
   refine⟨⟨by omega,by omega⟩,eD (aL n) (λ(i:Nat)=>D.int (i:Int)) (λ(p:Nat)=>D.int ((eS m (((f:Int)+(i:Int))*(p:Int)):Nat):Int)) (oJ _ (by omega)) jc (λp AN=>?_) (.inr λ_ _=>rfl) (by rw[cB,sL];omega) ?_⟩
   ·have:=cV.mp AN
    walk_at"l3"
    obtain⟨C,ns,xs,sp,e1,e2,e3,e4⟩:=bF2 (P:=P) (w:=w) (base:=base) T hm (n:=((f:Int)+(i:Int))*(p:Int)) (Q:=λr=>r=D.int ((eS m (((f:Int)+(i:Int))*(p:Int)):Nat):Int)) rfl
    exact⟨C,ns,xs,sp,e1,e2,e3,gY.ok (.inl ⟨by omega,by omega⟩),e4⟩
   ·rw[bY,bR];rfl
  ·unfold ff ay
   rw[bR];rfl
 subst hd
 obtain⟨A4,C4,r4,_,UD,LL⟩:=c4.own
 have r4:R F4 H4 [.lst true (ay true (ff m f (aL n) e))] [v] A4:=r4
 obtain⟨pc,rfl⟩:=vt r4
 have ji:=zd.get _ _ eY rfl
 have fR:∀X:List (List Nat),[D.lst true (ay true X)].all D.fr=true:=λX=>by rw[dh,gg,vh];rfl
 have vK:∀X:List (List Nat),[D.lst true (ay true X)].map D.sh=[D.lst false (ay false X)]:=λX=>by rw[df,dF,dR];rfl
 have r4:=r4.qg (fR _) hf4
 have LL:∀a∈A4,H3 a=none:=λa ha=>LL a (eR _ ha)
 have UD:=(hV.mp UD).1
 have UE:=s3.trans zd
 have xA:x ∉ A4:=λz=>by rw[LL x z]at eY;cases eY
 have s5:L3.af H0 (L3.bt H0 H4 A4):=hJ UE
 have e5:=e0.trans s5
 have r5:R F (L3.bt H0 H4 A4) [.lst true (ay true (ff m f (aL n) e))] [.ref pc] A4:=Sa r4 λa ha=>by unfold L3.bt;rw[if_pos ha]
 refine⟨.ref x,rfl,vf,rfl,.ref pc,rfl,L3.bt F (L3.bt H0 H4 A4) A4,L3.bt H0 H4 A4,x,dx,t.bx,vf,.ref pc,m,ff m f (aL n) e,[("extra",.int e),("first",.int f)],rfl,mP e5,by rw[nV xA];exact gn,mP UE,ji,.two _ _,⟨T.vE,T.Cv,T.Cw,T.Cu,T.Cz,T.Lb,T.Cy⟩,rf.shared (hJ e5) s5,vK _ ▸ r5.bt e5 A4 λ_ h=>h,hm,by rw[g3];exact g1,by omega,by omega,λH' p1 p2 p3 B1 B2 B3 sx da k1 k2 k3 nd fr=>?_⟩
 have z:=(z3.trans (zd.x (x:=x))).trans sx
 have so:=bI.of0 gn s0 z
 have ee:=e0.trans s3
 refine q H' [.int e,.int f,vf,.int (av (ff m f (aL n) e):Nat),.ref p1,.ref p2,.ref p3,.int ((ij m (ff m f (aL n) e)).length:Nat)] (B1++(B2++(B3++[]))) z da rfl ?_ ?_ ?_
 ·have up:∀{ds:List D} {vs:List V} {B:List Addr},R (λ_=>none) H' ds vs B->(∀a∈B,H4 a=none)->R F H' ds vs B:=λr h=>r.keep (L3.af.of λb o e=>by cases e) (fL.same (L3.af.refl _)) gB.nil (λa ha=>ee.free (zd.free (h a ha))) (by simp)
  exact .int (.int (R.cons (A:=[]) (rf.shared (L3.af.refl _) so) (.int (R.cons (up k1 λa ha=>fr a (eR _ ha)) (R.cons (up k2 λa ha=>fr a (cW _ (eR _ ha))) (R.cons (up k3 λa ha=>fr a (cW _ (cW _ ha))) (.int .nil)))))))
 ·rw[fV];exact nd
 ·rw[fV]
  intro a ha
  exact z3.free (by rw[eY];simp) (zd.free (fr a ha))
noncomputable abbrev UG(t:eV):bg:=λds Q=>∃(m:Bool × Nat) (G:List (List Nat)) (b:Nat),ds=[fG t m G (.yE b)]/\Q (.int (b:Nat))
theorem av5(T:Txt K mg t):aM P w K mg base aQ 1 t.JS t.JT ["self"] (bh (UG t)):=by
 refine bA T.dm0 au8 ?_ ?_
 ·intro ds Q h
  obtain⟨m,G,b,rfl,q⟩:=h<;>rfl
 ·intro aD A outer s H E hr
  refine⟨_,(aE (aV (dq (dj (K:=K) (bv 0))))),λds Q h=>?_⟩
  obtain⟨m,G,b,rfl,q⟩:=h
  walk_at"l3"
  exact⟨_,_,_,_,rfl,T.rB,T.Cd,rfl,rfl,q⟩
noncomputable abbrev aH0(t:eV):bg:=λds Q=>∃(m:Bool × Nat) (n:Nat),ds=[fD t.aH t.aN m,.int n]/\m∈aG/\2<=n/\n<=24/\Q (.lst true (ay true (gS m n)))
theorem aH1(T:Txt K mg t):aM P w K mg base aQ 2 t.JU t.JV ["field","length"] (bh (aH0 t)):=by
 refine bA T.To Sr ?_ ?_
 ·intro ds Q h
  obtain⟨m,n,rfl,hm,h2,ze,q⟩:=h<;>rfl
 ·intro aD A outer s H E hr
  refine⟨_,(aA (aU (i:=2) Sr.nd rfl (aX rfl) (fQ (P:=P) (w:=w) (K:=K) (mg:=mg) (base:=base) (n:=1) (bv 0) (hr.mono (by decide)) (ag (aa ao) (ag (aa ao) aw))))
   (aE (aV (dA [("less_one",2),("length",1)] ["i"] rfl (js rfl T.gI (ag (aa (az dQ (bv 1) (aa ao))) aw)) (λ_ _ _ _=>(cy (i:=2) (show(["less_one","length","i"]:List Str).Nodup by decide +kernel) rfl (ai (lookup_relabel_local rfl)) (by decide) (aX (lookup_relabel_local rfl)))) (λ_ _ _ _=>du) (λ_ _ _ _=>(az cH (aa (az cH (aa (az cH (aa (az fM (aa (dP (cq ao cF))) (bv 2))) (aa (dP (cq ao cF))))) (aa (az fM (aa (dP (cq ao cF))) (aa (az dQ (aa (az dQ (bv 1) (aa ao))) (bv 2))))))) (cy1 (ag (bv 0) aw)))) rfl ⟨rfl,⟨rfl,trivial⟩⟩ (λ_=>by repeat' (first | exact trivial | refine⟨.inl rfl,?_⟩ | refine⟨.inr (.inl rfl),?_⟩ | refine⟨.inr (.inr ⟨_,rfl⟩),?_⟩)) (λ_=>⟨⟨rfl,.inl rfl,.inl rfl,_,rfl,rfl⟩,⟨⟨rfl,.inl rfl,.inl rfl,_,rfl,rfl⟩,trivial⟩⟩) rfl (by decide +kernel))))),λds Q h=>?_⟩
  obtain⟨m,n,rfl,hm,h2,ze,q⟩:=h
  have m0:=dH m hm
  have eQ:=(cU hm).lo
  obtain⟨C,ns,zs,sp,e1,e2,e3,e4⟩:=Ui (P:=P) (w:=w) (base:=base) T m0
  refine aB λU hU=>?_
  walk_at"l3"
  refine⟨C,ns,zs,sp,e1,e2,e3,e4 0 1 _ ?_⟩
  rw[(lY hm (show 0<ae m by omega) (show 1<ae m by omega)).1]
  refine hU _ ?_
  clear hU U e1 e2 e3 e4
  walk_at"l3"
  refine⟨⟨by omega,by omega⟩,eD (aL (n-1)) (λ(i:Nat)=>D.int (i:Int)) (λi=>D.lst true (aj (j5 m n i))) (oJ _ (by omega)) jc (λi hi=>?_) (.inr λ_ _=>gE _) (by rw[cB,sL];omega) ?_⟩
  ·have hi:=cV.mp hi
   walk_at"l3"
   unfold j5
   have zn:∀k:Nat,aF (bj k (0:Int))=aj (bj k 0):=λk=>by unfold aj;rw[zX];rfl
   rw[gy,show((n:Int)-2-(i:Int)).toNat=n-2-i by omega,zn,zn,show [D.int 1]=aj [1] from rfl,show [D.int ((bO m 0 1:Nat):Int)]=aj [bO m 0 1] from rfl,lU,lU,lU,m4,m4,dX,dX]
   simp only[dm,fW,jJ]
   exact⟨by decide,⟨by omega,by omega,by omega⟩,by decide,by omega,by decide,⟨by omega,by omega,by omega⟩,⟨by omega,trivial⟩,by decide,⟨by omega,trivial⟩,trivial⟩
  ·rw[show((aL (n-1)).map λi=>D.lst true (aj (j5 m n i)))=ay true (gS m n) by unfold ay gS;rw[bR];rfl]
   exact q
noncomputable abbrev UH(t:eV):List D->List Str->List D->Prop:=λds ns xs=>∃(m:Bool × Nat) (n:Nat),ds=[fD t.aH t.aN m,.int n]/\m∈aG/\2<=n/\n<=24/\ns=nj/\xs=l7 t.aH t.aN true m (gS m n)
theorem aC0(T:Txt K mg t)(hB:Bm mg base):aM P w K mg base aQ 5 t.JW t.JX ["self","field","length"] (BM [t.iJ,t.iK] t.bU (UH t)):=by
 refine T.dm4.ok az7 (λvs H Q E h=>?_) λaD A outer s H vs Q E hr h=>?_
 ·obtain⟨F,H0,x,dx,bS,ds,ns,xs,rfl,_,_,_,_,_,r,⟨m,n,rfl,_⟩,_⟩:=h
  have:=r.length
  simp at this
  simp[this]
 obtain⟨F,H0,x,dx,bS,ds,ns,xs,rfl,tb,e0,gn,s0,hx,r,⟨m,n,rfl,hm,h2,ze,rfl,rfl⟩,q⟩:=h
 obtain⟨g1,g2,g3⟩:=Sd hm h2
 obtain⟨vf,CL,B1,B2,rfl,hB,rf,r2⟩:=R.cL r
 obtain⟨rfl,rfl⟩:=pq.mp hB.symm
 obtain rfl:CL=[.int n]:=by
  cases r2 with
  | int r=>cases r;rfl
 refine⟨_,eN (pQ (PW.pt (NH (D7 NQ (pv 2) pL (bG _)) (nL (D7 NR (pv 2) pL (bG _))))) (iP pS) pO)
  (iP (pP (Gz (E:=E0) T.Ld ((Lp T).mono (by decide)) hr T.KC aR rfl T.vI (bV (pv 0) (bV (pv 1) (bV (iT ((aH1 T).mono (by decide)) hr rfl T.dm2 T.To.kp T.dm3 .nil aR (bV (pv 1) (bV (pv 2) eU))) eU)))))),?_⟩
 refine⟨.int n,rfl,_,_,rfl,rfl,_,rfl,?_⟩
 rw[decide_eq_false (by omega)]
 refine iC ?_
 refine⟨.int n,rfl,_,_,rfl,rfl,_,rfl,?_⟩
 rw[decide_eq_false (by omega)]
 refine iC ?_
 have e:=e0.trans s0
 refine⟨.ref x,rfl,vf,rfl,vf,rfl,.int n,rfl,F,[fD t.aH t.aN m,.int n],λd=>d=.lst true (ay true (gS m n)),e,R.cons (A:=[]) (rf.shared (L3.af.refl _) s0) (.int .nil),⟨m,n,rfl,hm,h2,ze,rfl⟩,λd v F1 H1 A1 hd eI y7 Lq Uj r1 Uk Lr=>?_⟩
 subst hd
 obtain⟨pc,rfl⟩:=vt r1
 have cm:=eI.get _ _ hx rfl
 have fR:∀X:List (List Nat),[D.lst true (ay true X)].all D.fr=true:=λX=>by rw[dh,gg,vh];rfl
 have vK:∀X:List (List Nat),[D.lst true (ay true X)].map D.sh=[D.lst false (ay false X)]:=λX=>by rw[df,dF,dR];rfl
 have r1:=r1.qg (fR _) y7
 have UI:=s0.trans eI
 have xA:x ∉ A1:=λz=>by rw[Lr x z]at hx;cases hx
 have s2:L3.af H0 (L3.bt H0 H1 A1):=hJ UI
 have e2:=e0.trans s2
 have r2:R F (L3.bt H0 H1 A1) [.lst true (ay true (gS m n))] [.ref pc] A1:=Sa r1 λa ha=>by unfold L3.bt;rw[if_pos ha]
 refine⟨L3.bt F (L3.bt H0 H1 A1) A1,L3.bt H0 H1 A1,x,dx,t.bU,vf,.ref pc,m,gS m n,[],rfl,mP e2,by rw[nV xA];exact gn,mP UI,cm,.nil,⟨T.Cm,T.Co,T.Cp,T.Cn,T.Cr,T.K6,T.Cq⟩,rf.shared (hJ e2) s2,vK _ ▸ r2.bt e2 A1 λ_ h=>h,hm,by rw[g3];exact g1,by omega,by omega,λH' p1 p2 p3 B1 B2 B3 sx da k1 k2 k3 nd fr=>?_⟩
 have z:=(eI.x (x:=x)).trans sx
 have so:=bI.of0 gn s0 z
 refine q H' [vf,.int (av (gS m n):Nat),.ref p1,.ref p2,.ref p3,.int ((ij m (gS m n)).length:Nat)] (B1++(B2++(B3++[]))) z da rfl ?_ ?_ ?_
 ·have up:∀{ds:List D} {vs:List V} {B:List Addr},R (λ_=>none) H' ds vs B->(∀a∈B,H1 a=none)->R F H' ds vs B:=λr h=>r.keep (L3.af.of λb o e=>by cases e) (fL.same (L3.af.refl _)) gB.nil (λa ha=>e.free (eI.free (h a ha))) (by simp)
  exact R.cons (A:=[]) (rf.shared (L3.af.refl _) so) (.int (R.cons (up k1 λa ha=>fr a (eR _ ha)) (R.cons (up k2 λa ha=>fr a (cW _ (eR _ ha))) (R.cons (up k3 λa ha=>fr a (cW _ (cW _ ha))) (.int .nil)))))
 ·rw[fV];exact nd
 ·rw[fV]
  intro a ha
  exact eI.free (fr a ha)
noncomputable abbrev UJ:bg:=λds Q=>∃(m:Bool × Nat) (n:Nat),ds=[dk m,.int n]/\m∈aG/\2<=n/\n<=24/\Q (.lst true (ay true (gS m n)))
theorem aw8(T:Txt K mg t):aM P w K mg base aQ 1 t.JY t.JZ ["_law_told_here","_law_length"] (bh (UJ )):=by
 refine bA T.Tp BX ?_ ?_
 ·intro ds Q h
  obtain⟨m,n,rfl,hm,h2,ze,q⟩:=h<;>rfl
 ·intro aD A outer s H E hr
  refine⟨_,(aA (aU (i:=2) BX.nd rfl (ai rfl) (dP cF))
   (aA (gi eT rfl (js rfl T.gI (ag (aa (az dQ (bv 1) (aa ao))) aw)) (cy (i:=3) BX.nd rfl (ai rfl))
    (aA (aU (i:=4) BX.nd rfl (ai rfl) (az fM (aa (dP (cq ao cF))) (bv 1)))
    (aA (oo (i:=4) rfl (by first | exact ai rfl | exact aX (ai rfl)) ao (bv 3))
    (aA (oo (i:=4) rfl (by first | exact ai rfl | exact aX (ai rfl)) ao (aa (az dQ (bv 1) (aa ao))))
    (aA (cR (nZ (iX (bC (bv 0) (aa ao) (λ_ _=>rfl)))) (aE (oo (i:=4) rfl (by first | exact ai rfl | exact aX (ai rfl)) (az dQ (bC (bv 0) (aa ao) (λ_ _=>rfl)) (aa ao)) (aa (az dQ (bv 1) (aa ao))))) cQ)
    (aE (lN (i:=2) rfl (by first | exact ai rfl | exact aX (ai rfl)) (em 4))))))))
   (aE (aV (em 2))))),λds Q h=>?_⟩
  obtain⟨m,n,rfl,hm,h2,ze,q⟩:=h
  have hF:=cU hm
  have eQ:=hF.lo
  have zc:=hF.hi
  refine aB λU hU=>?_
  walk_at"l3"
  refine⟨by decide,hU _ ?_⟩
  clear hU U
  refine aB λU hU=>?_
  walk_at"l3"
  refine⟨⟨by omega,by omega⟩,?_⟩
  rw[show((n:Int)-1)=((n-1:Nat):Int) by omega]
  refine xU (λi δ=>∃(o1 o2:Option D),δ=[some (dk m),some (.int n),some (.lst true (ay true ((aL i).map (j5 m n)))),o1,o2]) ⟨_,_,rfl⟩ ?_ ?_
  ·rintro i δ hi ⟨o1,o2,rfl⟩
   simp only[gN,jM,jL]
   clear hU
   have up:∀v:Nat,v=bO m 0 1->((bj n 0).set i 1).set (n-1) v=j5 m n i:=λv hv=>by
    have l1:(((bj n 0).set i 1).set (n-1) v).length=n:=by rw[gW,gW,fW]
    refine cl8 l1 (by unfold j5;simp only[dm,fW,jJ];omega) λk hk=>?_
    rw[cw2 hi]
    unfold cf
    rw[aY,List.getElem?_set,List.getElem?_set,gW,fW,rW,if_pos hk]
    by_cases c1:k=i
    ·rw[if_neg (by omega),if_pos c1.symm,if_pos (by omega),if_pos c1];rfl
    ·by_cases c2:k=n-1
     ·rw[if_pos c2.symm,if_pos (by omega),if_neg c1,if_pos c2,hv];rfl
     ·rw[if_neg (λz=>c2 z.symm),if_neg (λz=>c1 z.symm),if_neg c1,if_neg c2];rfl
   refine aB λU hU=>?_
   walk_at"l3"
   refine⟨by decide,⟨by omega,by omega,by omega⟩,hU _ ?_⟩
   clear hU
   rw[gy]
   refine aB λU hU=>?_
   walk_at"l3"
   refine⟨_,i,rfl,va (by omega) (by rw[kE,fW];omega),hU _ ?_⟩
   clear hU
   refine aB λU hU=>?_
   walk_at"l3"
   have ix:∀v:Nat,iA (aj (((bj n 0).set i 1).set (n-1) v)).length ((n:Int)-1)=some (n-1):=λv=>by
    rw[show((n:Int)-1)=((n-1:Nat):Int) by omega]
    exact va (by omega) (by rw[dX,gW,gW,fW];omega)
   rw[show(aF (bj n 0)).set i (D.int 1)=aj ((bj n 0).set i 1) by
    rw[bY];unfold aF;rw[pE,zX,zX];rfl]
   refine⟨_,n-1,rfl,by rw[<-ix 0,dX,dX,gW (i:=n-1)],hU _ ?_⟩
   rw[show(aj ((bj n 0).set i 1)).set (n-1) (D.int 1)=aj (((bj n 0).set i 1).set (n-1) 1) by rw[bY,bY,pE (i:=n-1)];rfl]
   clear hU
   rw[show dk m=D.tup [.bl m.1,.int (m.2:Nat)] from rfl]
   refine aB λU hU=>?_
   walk_at"l3"
   have fin:∀v:Nat,v=bO m 0 1->U [some (D.tup [.bl m.1,.int (m.2:Nat)]),some (D.int n),some (D.lst true (ay true ((aL i).map (j5 m n)))),some (D.int i),some (D.lst true (aj (((bj n 0).set i 1).set (n-1) v)))]:=λv hv=>by
    rw[up v hv]
    refine hU _ ?_
    walk_at"l3"
    refine⟨⟨_,rfl⟩,by rw[bq,cB];omega,_,_,?_,rfl,rfl⟩
    rw[DF,fh]
    exact rh true _ [j5 m n i]
   refine⟨_,rfl,_,rfl,?_⟩
   cases e:m.1 with
   | true =>
    rw[if_neg (by decide)]
    rw[e]at fin
    exact fin 1 (by unfold bO gl;rw[e];rfl)
   | false =>
    have e2:ae m=m.2:=by unfold ae;rw[e];rfl
    rw[if_pos (by decide)]
    refine⟨_,rfl,?_⟩
    dsimp only
    refine⟨_,n-1,rfl,ix 1,?_⟩
    rw[show(aj (((bj n 0).set i 1).set (n-1) 1)).set (n-1) (D.int ((m.2:Nat)-1:Int))=aj (((bj n 0).set i 1).set (n-1) (m.2-1)) by
     rw[bY,bY,pE (i:=n-1),pE (i:=n-1),Dx,show((m.2-1:Nat):Int)=(m.2:Int)-1 by omega]]
    rw[e]at fin
    refine fin (m.2-1) ?_
    unfold bO gl
    rw[e,if_neg (by decide),show(((0:Nat):Int)-((1:Nat):Int))=((m.2:Int)-1)+(m.2:Int)*(-1) by omega,Int.add_mul_emod_self_left,Ni (by omega) (by omega)]
    omega
  ·rintro δ ⟨o1,o2,rfl⟩
   refine hU _ ?_
   walk_at"l3"
   exact q
theorem CM{m:Bool × Nat}(hm:m∈aG){G:List (List Nat)}(hR:RT (ae m) (av G) G)(h:G.length<av G)(hw:av G<=64):ik m G:=by
 refine⟨hm,hR,by omega,hw,?_⟩
 obtain⟨⟨H,I⟩,iR,_⟩:=oN hm hR
 have f:=I.Gp hm iR
 have r:=ci4 hm hR hR λi hi=>by
  rw[aY,aS hi]
  exact dB.of (dN hi)
 unfold ij
 omega
theorem UK{m:Bool × Nat}(hm:m∈aG){G:List (List Nat)}(hR:RT (ae m) (av G) G)(h:G.length<av G):∃Fb,ni m G=some Fb:=by
 cases e:ni m G with
 | some Fb=>exact⟨Fb,rfl⟩
 | none=>exact absurd (cl6 hm (by omega) hR e (aL (av G)) (bT6 (bK _))) (bS7 hm hR (by rw[cB];exact h))
noncomputable abbrev aQ0(t:eV):bg:=λds Q=>∃(m:Bool × Nat) (ns:List Int),ds=[.fz (aF ns),dk m]/\m∈aG/\∀(G:List (List Nat)) (k:Kd) (dst:Int),ik m G->1<=G.length->2<=av G->av G<=15->Q (.tup [fG t m G k,.lst true (ay true G),.int dst])
theorem aQ1(T:Txt K mg t)(hB:Bm mg base):aM P w K mg base aQ 11 t.J0 t.J1 ["_law_script","_law_told_here"] (uS [t.iJ,t.iK] (bh (aQ0 t))):=by
 refine FG T.Tq jh ?_ ?_
 ·intro ds Q h
  obtain⟨m,ns,rfl,hm,q⟩:=h<;>rfl
 ·intro aD A outer s H E hT hr
  refine⟨_,(aA (aU (i:=2) jh.nd rfl (ai rfl) (bu ((CD T).mono (by decide)) hr rfl T.B5 T.yM.kp T.B6 aR (ag (bv 1) aw)))
   (aA (aU (i:=3) jh.nd rfl (ai rfl) (Qz hT ((aM7 T hB).mono (by decide)) hr rfl T.aO6 T.SR.kp T.aO7 aR (ag (bv 1) aw)))
   (aA (aU (i:=4) jh.nd rfl (ai rfl) (bu ((ka T).mono (by decide)) hr rfl T.j7 T.jG.kp T.j8 aR (ag (bv 0) (ag (aa ao) aw))))
   (aA (aU (i:=5) jh.nd rfl (ai rfl) (az cH (aa ao) (aa (az cS (aa (bu ((ka T).mono (by decide)) hr rfl T.j7 T.jG.kp T.j8 aR (ag (bv 0) (ag (aa ao) aw)))) (aa ao)))))
   (aA (aU (i:=6) jh.nd rfl (ai rfl) (az cH (aa ao) (aa (az cS (aa (bu ((ka T).mono (by decide)) hr rfl T.j7 T.jG.kp T.j8 aR (ag (bv 0) (ag (aa ao) aw)))) (aa (di (xm rfl) (by rfl) T.yU wN (ag (aa ao) (ag (aa (az dQ (bv 5) (aa ao))) aw))))))))
   (aA (cR (bX (fP (cT hr)) (aa (az cS (bv 4) (aa ao))) (aa ao) (bG _)) (aA (aU (i:=7) jh.nd rfl (ai rfl) (bu ((aB5 T).mono (by decide)) hr rfl T.aD8 T.SS.kp T.aD9 aR (ag (bv 2) (ag (bv 5) (ag (bv 6) (ag (aa (bu ((ka T).mono (by decide)) hr rfl T.j7 T.jG.kp T.j8 aR (ag (bv 0) (ag (aa ao) aw)))) (ag (aa (qj (fP (cT hr)) (aa (az cS (aa (az oh (bv 4) (aa ao))) (aa ao))) (aa ao) (bG _))) aw)))))))
    (aA (aU (i:=8) jh.nd rfl (ai rfl) (BN hT T.Cc ((Uy T hB).mono (by decide)) hr rfl T.CB T.Tg aR (ag (bv 3) (ag (R7 (dA [] ["_law_row"] rfl (gQ (bv 7)) (λ_ _ _ _=>(cy (i:=0) (show(["_law_row"]:List Str).Nodup by decide +kernel) rfl (ai (lookup_relabel_local rfl)) (by decide) (aX (lookup_relabel_local rfl)))) (λ_ _ _ _=>du) (λ_ _ _ _=>(AS (AU) (by rfl) T.yT wO (ag (bv 0) aw))) rfl trivial (λ_=>by repeat' (first | exact trivial | refine⟨.inl rfl,?_⟩ | refine⟨.inr (.inl rfl),?_⟩ | refine⟨.inr (.inr ⟨_,rfl⟩),?_⟩)) (λ_=>trivial) rfl (by decide +kernel))) aw))))
    (aE (aV (mR (cq (dq (bv 8)) (cq (em 7) (cq (ca3 (P:=P) (w:=w) (K:=K) (mg:=mg) (base:=base) (n:=1) (bv 8) (hr.mono (by decide))) cF)))))))) cQ)
   (aA (cR (PW.pt (lJ (bX (fP (cT hr)) (aa (az cS (bv 4) (aa ao))) (aa ao) (bG _)) (nL (bX (fP (cT hr)) (bv 2) (aa ao) (bG _))))) (aE (aV (mR (cq (BN hT T.K5 ((aC0 T hB).mono (by decide)) hr rfl T.Lh T.dm5 aR (ag (bv 3) (ag (aa (az cH (bv 5) (aa ao))) aw))) (cq (bu ((aw8 T).mono (by decide)) hr rfl T.ay7 T.Tp.kp T.ay8 aR (ag (bv 1) (ag (aa (az cH (bv 5) (aa ao))) aw))) (cq (az cH (bv 5) (aa ao)) cF)))))) cQ)
   (aA (aU (i:=9) jh.nd rfl (ai rfl) (az cS (aa (bu ((ka T).mono (by decide)) hr rfl T.j7 T.jG.kp T.j8 aR (ag (bv 0) (ag (aa ao) aw)))) (aa (az dQ (bv 2) (aa ao)))))
   (aA (cR (bX (fP (cT hr)) (aa (az cS (bv 4) (aa ao))) (aa ao) (bG _)) (aA (aU (i:=5) jh.nd rfl (ai rfl) (di (xm rfl) (by rfl) T.yU wN (ag (bv 5) (ag (aa (az dQ (bv 2) (aa ao))) aw))))
    (aA (aU (i:=6) jh.nd rfl (ai rfl) (di (xm rfl) (by rfl) T.yU wN (ag (bv 6) (ag (aa (az dQ (bv 5) (aa ao))) aw))))
    (aA (aU (i:=7) jh.nd rfl (ai rfl) (bu ((UC T).mono (by decide)) hr rfl T.Ti T.KI.kp T.Tj aR (ag (bv 1) (ag (bv 5) (ag (bv 6) (ag (bv 9) aw))))))
    (aE (aV (mR (cq (BN hT T.Cc ((Uy T hB).mono (by decide)) hr rfl T.CB T.Tg aR (ag (bv 3) (ag (R7 (dA [] ["_law_row"] rfl (gQ (bv 7)) (λ_ _ _ _=>(cy (i:=0) (show(["_law_row"]:List Str).Nodup by decide +kernel) rfl (ai (lookup_relabel_local rfl)) (by decide) (aX (lookup_relabel_local rfl)))) (λ_ _ _ _=>du) (λ_ _ _ _=>(AS (AU) (by rfl) T.yT wO (ag (bv 0) aw))) rfl trivial (λ_=>by repeat' (first | exact trivial | refine⟨.inl rfl,?_⟩ | refine⟨.inr (.inl rfl),?_⟩ | refine⟨.inr (.inr ⟨_,rfl⟩),?_⟩)) (λ_=>trivial) rfl (by decide +kernel))) aw))) (cq (em 7) (cq (az cH (bv 6) (aa ao)) cF))))))))) cQ)
   (aA (aU (i:=5) jh.nd rfl (ai rfl) (az cH (aa ao) (aa (az cS (aa (bu ((ka T).mono (by decide)) hr rfl T.j7 T.jG.kp T.j8 aR (ag (bv 0) (ag (aa ao) aw)))) (aa (di (xm rfl) (by rfl) T.yU wN (ag (aa ao) (ag (aa (az dQ (bv 2) (aa ao))) aw))))))))
   (aA (aU (i:=6) jh.nd rfl (ai rfl) (az cH (aa ao) (aa (az cS (aa (bu ((ka T).mono (by decide)) hr rfl T.j7 T.jG.kp T.j8 aR (ag (bv 0) (ag (aa ao) aw)))) (aa (di (xm rfl) (by rfl) T.yU wN (ag (aa ao) (ag (aa (az dQ (bv 5) (aa ao))) aw))))))))
   (aE (aV (mR (cq (BN hT T.K8 ((aG9 T hB).mono (by decide)) hr rfl T.Li T.dl9 aR (ag (bv 3) (ag (bv 5) (ag (bv 6) (ag (bv 9) aw))))) (cq (bu ((UC T).mono (by decide)) hr rfl T.Ti T.KI.kp T.Tj aR (ag (bv 1) (ag (bv 5) (ag (bv 6) (ag (bv 9) aw))))) (cq (az cH (bv 6) (aa ao)) cF))))))))))))))))),λds Q h=>?_⟩
  obtain⟨m,ns,rfl,hm,q⟩:=h
  have hF:=cU hm
  have eQ:=hF.lo
  have zc:=hF.hi
  have UA:=FT m hm
  refine aB λU hU=>?_
  walk_at"l3"
  refine⟨m,rfl,by omega,by omega,hU _ ?_⟩
  clear hU U
  refine aB λU hU=>?_
  walk_at"l3"
  refine⟨m,rfl,hm,hU _ ?_⟩
  clear hU U
  refine aB λU hU=>?_
  walk_at"l3"
  refine⟨ns,1,rfl,by decide,hU _ ?_⟩
  clear hU U
  generalize ns.getD (eJ 1) 0=kd
  refine aB λU hU=>?_
  walk_at"l3"
  refine⟨ns,2,rfl,by decide,by decide,?_⟩
  obtain⟨n,en,sP,hn6⟩:∃k:Nat,2+ns.getD (eJ 2) 0%5=k/\2<=k/\k<=6:=⟨(2+ns.getD (eJ 2) 0%5).toNat,by omega,by omega,by omega⟩
  rw[en]
  refine hU _ ?_
  clear hU U en
  refine aB λU hU=>?_
  walk_at"l3"
  refine⟨ns,3,rfl,by decide,?_⟩
  dsimp only
  obtain⟨M,eM,M0,M1,M3⟩:∃M:Int,(if(n:Int)-1<3 then(n:Int)-1 else 3)=M/\0<M/\M<=(n:Int)-1/\M<=3:=⟨_,rfl,by split<;>omega,by split<;>omega,by split<;>omega⟩
  rw[eM]
  refine⟨M0,?_⟩
  obtain⟨e,ee,Lq,hen,he3⟩:∃k:Nat,1+ns.getD (eJ 3) 0%M=k/\1<=k/\k+1<=n/\k<=3:=by
   have n0:=fJ (ns.getD (eJ 3) 0) (show M≠0 by omega)
   have n1:=fX (ns.getD (eJ 3) 0) M0
   exact⟨(1+ns.getD (eJ 3) 0%M).toNat,by omega,by omega,by omega,by omega⟩
  rw[ee]
  refine hU _ ?_
  clear hU U ee eM M0 M1 M3 M
  refine aB λU hU=>?_
  walk_at"l3"
  refine⟨by decide,?_⟩
  split
  ·clear hU
   refine aB λU hU=>?_
   walk_at"l3"
   refine⟨ns,4,rfl,by decide,og (by decide) (by decide),by decide,ae m,n,e,_,_,rfl,by omega,by omega,by omega,by omega,λG lG hG=>⟨rfl,hU _ ?_⟩⟩
   clear hU U
   have wG:av G=n:=rj hG λz=>by rw[z]at lG;exact absurd lG (by show ¬ 0=e;omega)
   rw[<-wG]at hG sP hn6 hen
   refine aB λU hU=>?_
   walk_at"l3"
   refine eD G (λr=>D.lst false (aj r)) (λr=>D.lst true (aj r)) (by rw[dR];rfl) (λa b h=>lZ a b h) (λr bo=>?_) (.inr λr _=>gE r) (by rw[sL];omega) ?_
   ·walk_at"l3"
   obtain⟨Fb,eF⟩:=UK hm hG (by omega)
   rw[show((D.lst true (su (λr=>D.lst true (aj r)) G)).sh)=D.lst false (ay false G) from by rw[dF];exact congrArg _ (dR true G)]
   have cG:=CM hm hG (by omega) (by omega)
   refine⟨by rw[fK,oM];rfl,_,_,⟨m,G,Fb,rfl,cG,by omega,by omega,by omega,by omega,eF,rfl,rfl⟩,?_⟩
   rw[fh,BP]
   show U [some (D.fz (aF ns)),some (dk m),some (D.int (ae m)),some (fD t.aH t.aN m),some (D.int kd),some (D.int n),some (D.int e),some (D.lst true (ay true G)),some (fG t m G (.yE Fb.length)),none]
   refine hU _ ?_
   clear hU U
   walk_at"l3"
   exact⟨rfl,_,_,_,UG t,rfl,⟨T.rB,_,_,_,T.dp8,av5 T,T.dm1⟩,by decide,m,G,_,rfl,by decide,q G _ _ cG (by omega) (by omega) (by omega)⟩
  refine hU _ ?_
  clear hU U
  refine aB λU hU=>?_
  walk_at"l3"
  refine⟨by decide,?_⟩
  have rp:∃ns xs,UH t [fD t.aH t.aN m,D.int ((n:Int)+1)] ns xs/\UJ [dk m,D.int ((n:Int)+1)] λd=>0+1+1+1<=16777216/\Q (D.tup [D.obj t.bU ns (su D.sh xs),d,D.int ((n:Int)+1)]):=by
   refine⟨_,_,⟨m,n+1,rfl,hm,by omega,by omega,rfl,rfl⟩,m,n+1,rfl,hm,by omega,by omega,by decide,?_⟩
   obtain⟨r1,r2,r3⟩:=Sd hm (show 2<=n+1 by omega)
   rw[BP]
   exact q (gS m (n+1)) .rep _ (CM hm (by rw[r3];exact r1) (by omega) (by omega)) (by omega) (by omega) (by omega)
  split
  ·exact rp
  split
  ·exact rp
  refine hU _ ?_
  clear hU U rp
  rename_i hk2
  have hM3:3<=ae m:=by omega
  refine aB λU hU=>?_
  walk_at"l3"
  refine⟨ns,4,rfl,by decide,?_⟩
  dsimp only
  obtain⟨f,ef,hf⟩:∃f:Nat,ns.getD (eJ 4) 0%((ae m:Int)-1)=f/\f+2<=ae m:=by
   have n0:=fJ (ns.getD (eJ 4) 0) (show(ae m:Int)-1≠0 by omega)
   have n1:=fX (ns.getD (eJ 4) 0) (show 0<(ae m:Int)-1 by omega)
   exact⟨(ns.getD (eJ 4) 0%((ae m:Int)-1)).toNat,by omega,by omega⟩
  rw[ef]
  refine⟨by omega,hU _ ?_⟩
  clear hU U ef
  refine aB λU hU=>?_
  walk_at"l3"
  refine⟨by decide,?_⟩
  split
  ·clear hU
   refine aB λU hU=>?_
   walk_at"l3"
   obtain⟨n',en,dC5,hnM⟩:∃k:Nat,(if(ae m:Int)-1<n then(ae m:Int)-1 else n)=k/\2<=k/\k<=6/\k+1<=ae m:=⟨(if(ae m:Int)-1<n then(ae m:Int)-1 else n).toNat,by split<;>omega,by split<;>omega,by split<;>omega,by split<;>omega⟩
   rw[en]
   refine hU _ ?_
   clear hU U en
   refine aB λU hU=>?_
   walk_at"l3"
   obtain⟨e',ee,dC7,dC8⟩:∃k:Nat,(if(n':Int)-1<e then(n':Int)-1 else e)=k/\1<=k/\k+1<=n':=⟨(if(n':Int)-1<e then(n':Int)-1 else e).toNat,by split<;>omega,by split<;>omega,by split<;>omega⟩
   rw[ee]
   refine hU _ ?_
   clear hU U ee
   refine aB λU hU=>?_
   walk_at"l3"
   refine⟨m,n',e',f,rfl,hm,by omega,by omega,by omega,hU _ ?_⟩
   clear hU U
   obtain⟨g1,g2⟩:=BJ hm f (aL n') e'
   rw[cB]at g1
   have g3:av (ff m f (aL n') e')=n':=rj g1 λz=>by
    rw[z]at g2
    exact absurd g2 (by show ¬ 0=e';omega)
   have g4:RT (ae m) (av (ff m f (aL n') e')) (ff m f (aL n') e'):=by rw[g3];exact g1
   obtain⟨Fb,eF⟩:=UK hm g4 (by omega)
   have cG:=CM hm g4 (by omega) (by omega)
   generalize ff m f (aL n') e'=G at *
   walk_at"l3"
   refine eD G (λr=>D.lst false (aj r)) (λr=>D.lst true (aj r)) (by rw[dR];rfl) (λa b h=>lZ a b h) (λr bo=>?_) (.inr λr _=>gE r) (by rw[sL];omega) ?_
   ·walk_at"l3"
   rw[show((D.lst true (su (λr=>D.lst true (aj r)) G)).sh)=D.lst false (ay false G) from by rw[dF];exact congrArg _ (dR true G)]
   refine⟨by rw[fK,oM];rfl,_,_,⟨m,G,Fb,rfl,cG,by omega,by omega,by omega,by omega,eF,rfl,rfl⟩,?_⟩
   dsimp only[pH,pG]
   rw[fh,BP]
   exact⟨by decide,q G (.yE Fb.length) _ cG (by omega) (by omega) (by omega)⟩
  refine hU _ ?_
  clear hU U
  refine aB λU hU=>?_
  walk_at"l3"
  refine⟨ns,2,rfl,by decide,?_⟩
  dsimp only
  obtain⟨M,eM,M0,M1,M3⟩:∃M:Int,(if(ae m:Int)-2<14 then(ae m:Int)-2 else 14)=M/\0<M/\M<=(ae m:Int)-2/\M<=14:=⟨_,rfl,by split<;>omega,by split<;>omega,by split<;>omega⟩
  rw[eM]
  refine⟨M0,?_⟩
  obtain⟨n',en,dC5,ec3,hnM⟩:∃k:Nat,2+ns.getD (eJ 2) 0%M=k/\2<=k/\k<=15/\k+1<=ae m:=by
   have n0:=fJ (ns.getD (eJ 2) 0) (show M≠0 by omega)
   have n1:=fX (ns.getD (eJ 2) 0) M0
   exact⟨(2+ns.getD (eJ 2) 0%M).toNat,by omega,by omega,by omega,by omega⟩
  rw[en]
  refine hU _ ?_
  clear hU U en eM M0 M1 M3 M
  refine aB λU hU=>?_
  walk_at"l3"
  refine⟨ns,3,rfl,by decide,?_⟩
  dsimp only
  obtain⟨M,eM,M0,M1⟩:∃M:Int,(if(n':Int)-1<6 then(n':Int)-1 else 6)=M/\0<M/\M<=(n':Int)-1:=⟨_,rfl,by split<;>omega,by split<;>omega⟩
  rw[eM]
  refine⟨M0,?_⟩
  obtain⟨e',ee,dC7,dC8⟩:∃k:Nat,1+ns.getD (eJ 3) 0%M=k/\1<=k/\k+1<=n':=by
   have n0:=fJ (ns.getD (eJ 3) 0) (show M≠0 by omega)
   have n1:=fX (ns.getD (eJ 3) 0) M0
   exact⟨(1+ns.getD (eJ 3) 0%M).toNat,by omega,by omega,by omega⟩
  rw[ee]
  refine hU _ ?_
  clear hU U ee eM M0 M1 M
  walk_at"l3"
  refine⟨_,_,⟨m,n',e',f,rfl,hm,by omega,by omega,by omega,by omega,by omega,rfl,rfl⟩,m,n',e',f,rfl,hm,by omega,by omega,by omega,by decide,?_⟩
  rw[fh,BP]
  obtain⟨g1,g2⟩:=BJ hm f (aL n') e'
  rw[cB]at g1
  have g3:av (ff m f (aL n') e')=n':=rj g1 λz=>by
   rw[z]at g2
   exact absurd g2 (by show ¬ 0=e';omega)
  exact q (ff m f (aL n') e') (.GA e' f) _ (CM hm (by rw[g3];exact g1) (by omega) (by omega)) (by omega) (by omega) (by omega)
noncomputable abbrev aJ7:bg:=λds Q=>∃(ns:List Int) (a s M:Nat),ds=[.fz (aF ns),.int a,.int s,.int M]/\1<=a/\a<=1000/\s<=64/\1<=M/\∀l:List Nat,l.length=s->AllLt M l->Q (.lst true (aj l))
theorem UL(T:Txt K mg t):aM P w K mg base aQ 2 t.J2 t.J3 ["_law_script","_law_at","_law_size","_law_many_here"] (bh (aJ7 )):=by
 refine bA T.KJ aI2 ?_ ?_
 ·intro ds Q h
  obtain⟨ns,a,s,M,rfl,ha,ha2,hs,hM,q⟩:=h<;>rfl
 ·intro aD A outer s H E hr
  refine⟨_,(aE (aV (dA [("_law_many_here",3),("_law_script",0),("_law_at",1)] ["_law_j"] rfl (js rfl T.gI (ag (bv 2) aw)) (λ_ _ _ _=>(cy (i:=3) (show(["_law_many_here","_law_script","_law_at","_law_j"]:List Str).Nodup by decide +kernel) rfl (ai (lookup_relabel_local rfl)) (by decide) (aX (lookup_relabel_local rfl)))) (λ_ _ _ _=>du) (λ_ _ _ _=>(az cS (aa (az cH (aa (bu ((ka T).mono (by decide)) hr rfl T.j7 T.jG.kp T.j8 aR (ag (bv 1) (ag (aa (az cH (bv 2) (bv 3))) aw)))) (aa (bu ((Ll T).mono (by decide)) hr rfl T.Kv T.B7.kp T.Kw aR (ag (aa (bu ((ka T).mono (by decide)) hr rfl T.j7 T.jG.kp T.j8 aR (ag (bv 1) (ag (aa (az dQ (bv 2) (aa ao))) aw)))) (ag (bv 3) aw)))))) (bv 0))) rfl ⟨rfl,⟨rfl,⟨rfl,trivial⟩⟩⟩ (λ_=>by repeat' (first | exact trivial | refine⟨.inl rfl,?_⟩ | refine⟨.inr (.inl rfl),?_⟩ | refine⟨.inr (.inr ⟨_,rfl⟩),?_⟩)) (λ_=>⟨⟨rfl,.inl rfl,.inl rfl,_,rfl,rfl⟩,⟨⟨rfl,.inl rfl,.inl rfl,_,rfl,rfl⟩,⟨⟨rfl,.inl rfl,.inl rfl,_,rfl,rfl⟩,trivial⟩⟩⟩) rfl (by decide +kernel)))),λds Q h=>?_⟩
  obtain⟨ns,a,s,M,rfl,ha,ha2,hs,hM,q⟩:=h
  have Lm:∀z:Int,z%(M:Int)=(((z%(M:Int)).toNat:Nat):Int):=λz=>by
   have n0:=fJ z (show(M:Int)≠0 by omega)
   omega
  have Ln:∀z:Int,(z%(M:Int)).toNat<M:=λz=>by
   have n1:=fX z (show(0:Int)<(M:Int) by omega)
   omega
  walk_at"l3"
  refine⟨⟨by omega,by omega⟩,eD (aL s) (λ(i:Nat)=>D.int (i:Int)) (λk=>D.int ((((ns.getD (((a:Int)+(k:Int)).toNat) 0+kN (ns.getD ((a:Int)-1).toNat 0) (k:Int))%(M:Int)).toNat:Nat):Int)) (oJ _ rfl) jc (λk hk=>?_) (.inr λ_ _=>rfl) (by rw[cB,sL];omega) ?_⟩
  ·have hk:=cV.mp hk
   walk_at"l3"
   refine⟨ns,_,rfl,by omega,ns,_,rfl,by omega,_,_,rfl,by omega,by omega,?_⟩
   dsimp only
   exact⟨rfl,by omega,Lm _⟩
  ·obtain⟨row,er,rG,rH⟩:∃wd:List Nat,((aL s).map λ(k:Nat)=>D.int ((((ns.getD (((a:Int)+(k:Int)).toNat) 0+kN (ns.getD ((a:Int)-1).toNat 0) (k:Int))%(M:Int)).toNat:Nat):Int))=aj wd/\AllLt M wd/\wd.length=s:=by
    refine⟨(aL s).map λ(k:Nat)=>((ns.getD (((a:Int)+(k:Int)).toNat) 0+kN (ns.getD ((a:Int)-1).toNat 0) (k:Int))%(M:Int)).toNat,by rw[bY,bR];rfl,λa ha=>?_,by simp⟩
    obtain⟨k,_,rfl⟩:=bD.mp ha
    exact Ln _
   rw[er]
   exact q _ rH rG
noncomputable abbrev aQ2:bg:=λds Q=>∃(m:Bool × Nat) (a b:Nat),ds=[dk m,.int a,.int b]/\0<m.2/\Q (.int (gp m a b:Nat))
theorem aQ3(T:Txt K mg t):aM P w K mg base aQ 1 t.J4 t.J5 ["_law_told_here","_law_a","_law_b"] (bh (aQ2 )):=by
 refine bA T.Tt aO3 ?_ ?_
 ·intro ds Q h
  obtain⟨m,a,b,rfl,h0,q⟩:=h<;>rfl
 ·intro aD A outer s H E hr
  refine⟨_,(aA (cR (iX (bC (bv 0) (aa ao) (λ_ _=>rfl))) (aE (aV (az xh (bv 1) (bv 2)))) cQ)
   (aE (aV (az cS (aa (az cH (bv 1) (bv 2))) (bC (bv 0) (aa ao) (λ_ _=>rfl)))))),λds Q h=>?_⟩
  obtain⟨m,a,b,rfl,h0,q⟩:=h
  unfold dk at *
  obtain⟨k,n⟩:=m
  refine aB λU hU=>?_
  walk_at"l3"
  cases k with
  | true =>
   refine⟨_,rfl,true,rfl,?_⟩
   rw[if_pos rfl,mM]
   exact q
  | false =>
   refine⟨_,rfl,false,rfl,?_⟩
   rw[if_neg (by decide)]
   refine hU _ ?_
   walk_at"l3"
   refine⟨_,rfl,?_⟩
   refine⟨by omega,?_⟩
   have e:((gp (false,n) a b:Nat):Int)=((a:Int)+b)%n:=by
    show(((a+b)%n:Nat):Int)=_
    rw[nH,DD]
   rw[<-e];exact q
noncomputable abbrev aQ4:bg:=λds Q=>∃(m:Bool × Nat) (G:List (List Nat)) (c:List Nat),ds=[dk m,.lst false (ay false G),.lst false (aj c)]/\m∈aG/\RT (ae m) c.length G/\AllLt (ae m) c/\c.length<=64/\G.length<=64/\Q (.lst true (aj (G.map λr=>gd m r c)))
theorem aQ5(T:Txt K mg t):aM P w K mg base aQ 2 t.J6 t.J7 ["_law_told_here","_law_table","_law_word"] (bh (aQ4 )):=by
 refine bA T.Tu vz ?_ ?_
 ·intro ds Q h
  obtain⟨m,G,c,rfl,hm,hR,hc,fk,hG,q⟩:=h<;>rfl
 ·intro aD A outer s H E hr
  refine⟨_,(aA (aU (i:=3) vz.nd rfl (ai rfl) (dP cF))
   (aA (gi eT rfl (AL (dq (bv 1))) (cy (i:=4) vz.nd rfl (ai rfl))
    (aA (aU (i:=5) vz.nd rfl (ai rfl) ao)
    (aA (gi eT rfl (uN rfl T.vH (ag (bv 4) (ag (bv 2) aw))) (i8 (i1:=6) (i2:=7) rfl vz.nd rfl (ai rfl) rfl (ai rfl))
     (aE (aU (i:=5) vz.nd rfl (ai rfl) (bu ((aQ3 T).mono (by decide)) hr rfl T.aR9 T.Tt.kp T.aS0 aR (ag (bv 0) (ag (bv 5) (ag (aa (bu ((LJ T).mono (by decide)) hr rfl T.KG T.Ca.kp T.KH aR (ag (bv 0) (ag (bv 6) (ag (bv 7) aw))))) aw)))))))
    (aE (lN (i:=3) rfl (by first | exact ai rfl | exact aX (ai rfl)) (em 5))))))
   (aE (aV (em 3))))),λds Q h=>?_⟩
  obtain⟨m,G,c,rfl,hm,hR,hc,fk,hG,q⟩:=h
  have m0:=dH m hm
  refine aB λU hU=>?_
  walk_at"l3"
  refine⟨by decide,hU _ ?_⟩
  clear hU U
  refine aB λU hU=>?_
  walk_at"l3"
  refine gh.mk (λi δ=>∃o1 o2 o3 o4,δ=[some (dk m),some (D.lst false (ay false G)),some (D.lst false (aj c)),some (D.lst true (aj ((G.take i).map λr=>gd m r c))),o1,o2,o3,o4]) ⟨_,_,_,_,rfl⟩ ?_ ?_
  ·rintro i d δ hd ⟨o1,o2,o3,o4,rfl⟩
   obtain⟨hi,rfl⟩:∃hi:i<G.length,d=.lst false (aj G[i]):=by
    unfold ay at hd
    rw[bZ]at hd
    by_cases hi:i<G.length
    ·rw[aS hi]at hd;exact⟨hi,(cO hd).symm⟩
    ·rw[gJ (by omega)]at hd;cases hd
   have ri:=hR _ (dN hi)
   clear hd hU
   refine aB λU hU=>?_
   walk_at"l3"
   refine hU _ ?_
   clear hU
   refine aB λU hU=>?_
   walk_at"l3"
   refine⟨_,_,rfl,rfl,?_⟩
   refine gh.mk (λj δ=>∃o3 o4,δ=[some (dk m),some (D.lst false (ay false G)),some (D.lst false (aj c)),some (D.lst true (aj ((G.take i).map λr=>gd m r c))),some (D.lst false (aj G[i])),some (D.int ((((cP (gm m) G[i] c).take j).foldl (gp m) 0:Nat):Int)),o3,o4]) ⟨_,_,rfl⟩ ?_ ?_
   ·rintro j d δ hd ⟨o3,o4,rfl⟩
    obtain⟨h1,h2,rfl⟩:=cj3 hd
    clear hd
    walk_at"l3"
    refine⟨m,_,_,rfl,hm,ri.2 _ (dN _),hc _ (dN _),m,_,_,rfl,m0,rfl,_,_,?_,rfl,rfl⟩
    rw[mw,zM,pF,aS h2,aS h1];rfl
   ·rintro δ ⟨o3,o4,rfl⟩
    refine hU _ ?_
    clear hU
    walk_at"l3"
    rw[b71,vU (l:=cP (gm m) G[i] c) (by rw[jK];omega)]
    refine⟨⟨_,rfl⟩,by rw[bq,iu];omega,_,_,_,_,?_,rfl,rfl,rfl,rfl⟩
    rw[mw,aS hi,fh]
    exact lU _ [gd m G[i] c]
  ·rintro δ ⟨o1,o2,o3,o4,rfl⟩
   refine hU _ ?_
   walk_at"l3"
   rw[vU (l:=G) (bK _)]
   exact q
noncomputable abbrev aH2:bg:=λds Q=>∃(o:Bool) (xs:List D),ds=[.lst false xs,.int (xs.length:Nat)]/\Q .au
theorem UM(T:Txt K mg t):aM P w K mg base aQ 1 t.J8 t.J9 ["signs","length"] (bh (aH2 )):=by
 refine bA T.KL aF9 ?_ ?_
 ·intro ds Q h
  obtain⟨o,xs,rfl,q⟩:=h<;>rfl
 ·intro aD A outer s H E hr
  refine⟨_,(aE (cR (bX (i6 (cT hr)) (aa (di (gR) (by rfl) T.gH gA (ag (bv 0) aw))) (bv 1) (bG _)) (aE Pd) cQ)),λds Q h=>?_⟩
  obtain⟨o,xs,rfl,q⟩:=h
  walk_at"l3"
  rw[if_neg (by decide)]
  exact q
noncomputable abbrev aE9(t:eV):bg:=λds Q=>∃(m:Bool × Nat) (l:List Nat),ds=[fD t.aH t.aN m,.lst false (aj l)]/\m∈aG/\AllLt (ae m) l/\l.length<=64/\Q .au
theorem UN(T:Txt K mg t):aM P w K mg base aQ 2 t.Ka t.Kb ["field","signs"] (bh (aE9 t)):=by
 refine bA T.KN Ss ?_ ?_
 ·intro ds Q h
  obtain⟨m,l,rfl,hm,hl,LD,q⟩:=h<;>rfl
 ·intro aD A outer s H E hr
  refine⟨_,(aE (gi eT rfl (qN rfl T.rE (ag (bv 1) aw)) (i8 (i1:=2) (i2:=3) rfl Ss.nd rfl (ai rfl) rfl (ai rfl))
    (aE (cR (nZ (iX (aa (fQ (P:=P) (w:=w) (K:=K) (mg:=mg) (base:=base) (n:=1) (bv 0) (hr.mono (by decide)) (ag (bv 3) aw))))) (aE Pd) cQ)))),λds Q h=>?_⟩
  obtain⟨m,l,rfl,hm,hl,LD,q⟩:=h
  walk_at"l3"
  refine gh.mk (λj δ=>∃o1 o2,δ=[some (fD t.aH t.aN m),some (D.lst false (aj l)),o1,o2]) ⟨_,_,rfl⟩ ?_ ?_
  ·rintro j d δ hd ⟨o1,o2,rfl⟩
   obtain⟨h1,rfl⟩:=b60 hd
   have:=hl _ (dN h1)
   walk_at"l3"
   refine Ly T m (.inl ⟨_,rfl,?_⟩)
   rw[decide_eq_true (by omega),decide_eq_true (by omega)]
   exact⟨true,rfl,by rw[if_neg (by decide)];exact⟨_,_,rfl,rfl⟩⟩
  ·rintro δ ⟨o1,o2,rfl⟩
   exact q
noncomputable abbrev UO(K:Frag):bg:=λds Q=>∃(C:Addr) (p:Nat) (xs ys:List Nat),ds=[qX C p,.lst false (aj xs),.lst false (aj ys)]/\cw K C/\bf K C "products"/\p∈gD/\xs.length=ys.length/\xs.length<=64/\(∀x∈xs,x<ae (true,p))/\(∀y∈ys,y<ae (true,p))/\Q (.int ((cP (gm (true,p)) xs ys).foldl (· ^^^ ·) 0:Nat))
theorem aJ8(T:Txt K mg t):aM P w K mg base aQ 1 t.Ke t.Kf ["self","xs","ys"] (bh (UO K)):=by
 refine bA T.aK4 yH ?_ ?_
 ·intro ds Q h
  obtain⟨C,p,xs,ys,rfl,hC,hn,hp,hl,mf,hx,hy,q⟩:=h<;>rfl
 ·intro aD A outer s H E hr
  refine⟨_,(aA (aU (i:=3) yH.nd rfl (ai rfl) (dq (dj (K:=K) (bv 0))))
   (aA (aU (i:=4) yH.nd rfl (ai rfl) ao)
   (aA (gi eT rfl (uN rfl T.vH (ag (bv 1) (ag (bv 2) aw))) (i8 (i1:=5) (i2:=6) rfl yH.nd rfl (ai rfl) rfl (ai rfl))
    (aE (w5 (i:=4) yH.nd rfl (ai rfl) (bC (bC (bv 3) (bv 5) (λ_ _=>rfl)) (bv 6) (λ_ _=>rfl)) AQ)))
   (aE (aV (em 4)))))),λds Q h=>?_⟩
  obtain⟨C,p,xs,ys,rfl,hC,hn,hp,hl,mf,hx,hy,q⟩:=h
  refine aB λU hU=>?_
  walk_at"l3"
  refine⟨C,_,_,_,rfl,hC,hn,rfl,by rw[fK,bX3];rfl,hU _ ?_⟩
  clear hU U
  refine aB λU hU=>?_
  walk_at"l3"
  refine hU _ ?_
  clear hU U
  refine aB λU hU=>?_
  walk_at"l3"
  refine⟨_,_,rfl,rfl,?_⟩
  refine gh.mk (λi δ=>∃o1 o2,δ=[some (qX C p),some (.lst false (aj xs)),some (.lst false (aj ys)),some (.lst false (m9 (fl (true,p)) (eE (fl (true,p))))),some (.int (((cP (gm (true,p)) xs ys).take i).foldl (· ^^^ ·) 0:Nat)),o1,o2]) ⟨none,none,rfl⟩ ?_ ?_
  ·rintro i d δ hd ⟨o1,o2,rfl⟩
   obtain⟨hi,hj,rfl⟩:∃(hi:i<xs.length) (hj:i<ys.length),d=.tup [.int (xs[i]:Nat),.int (ys[i]:Nat)]:=by
    unfold eC at hd
    rw[bY,bY,DB]at hd
    by_cases hi:i<xs.length
    ·have hj:i<ys.length:=by omega
     rw[pF,aS hi,aS hj]at hd
     exact⟨hi,hj,(cO hd).symm⟩
    ·rw[gJ (by simp;omega)]at hd;cases hd
   have cm:=hx xs[i] (dN _)
   have LK:=hy ys[i] (dN _)
   walk_at"l3"
   refine⟨_,Bt hp cm,_,Br hp cm LK,_,_,?_,rfl,rfl⟩
   rw[mM,List.take_succ,zM,pF,aS hi,aS hj];rfl
  ·rintro δ ⟨o1,o2,rfl⟩
   refine hU _ ?_
   walk_at"l3"
   have e:(eC (aj xs) (aj ys)).length=xs.length:=by unfold eC;rw[jK,dX,dX];omega
   rw[e,vU (by rw[jK];omega)]
   exact q
noncomputable abbrev UP(K:Frag):bg:=λds Q=>∃(C:Addr) (p:Nat) (xs ys:List Int),ds=[qW C p,.lst false (aF xs),.lst false (aF ys)]/\cw K C/\bf K C "prime"/\0<p/\xs.length=ys.length/\xs.length<=64/\(∀x∈xs,0<=x/\x<64)/\(∀y∈ys,0<=y/\y<64)/\Q (.int ((cP (· * ·) xs ys).sum%p))
theorem aF0(T:Txt K mg t):aM P w K mg base aQ 1 t.Kg t.Kh ["self","xs","ys"] (bh (UP K)):=by
 refine bA T.aG4 aD5 ?_ ?_
 ·intro ds Q h
  obtain⟨C,p,xs,ys,rfl,hC,hn,hp,hl,mf,hx,hy,q⟩:=h<;>rfl
 ·intro aD A outer s H E hr
  refine⟨_,(aE (aV (az cS (aa (di (cG4 rfl) (by rfl) T.dq8 ZP (ag (aa (dA [] ["x","y"] rfl (uN rfl T.vH (ag (bv 1) (ag (bv 2) aw))) (λ_ _ _ _=>(i8 (i1:=0) (i2:=1) rfl (show(["x","y"]:List Str).Nodup by decide +kernel) rfl (ai (lookup_relabel_local rfl)) rfl (ai (lookup_relabel_local rfl)) (by decide) (by decide) (aX (lookup_relabel_local rfl)) (aX (lookup_relabel_local rfl)))) (λ_ _ _ _=>du) (λ_ _ _ _=>(az fM (bv 0) (bv 1))) rfl trivial (λ_=>by repeat' (first | exact trivial | refine⟨.inl rfl,?_⟩ | refine⟨.inr (.inl rfl),?_⟩ | refine⟨.inr (.inr ⟨_,rfl⟩),?_⟩)) (λ_=>trivial) rfl (by decide +kernel))) aw))) (dj (K:=K) (bv 0))))),λds Q h=>?_⟩
  obtain⟨C,p,xs,ys,rfl,hC,hn,hp,hl,mf,hx,hy,q⟩:=h
  walk_at"l3"
  refine⟨_,_,rfl,rfl,?_⟩
  refine FQ (xs.zip ys) (λz=>D.tup [.int z.1,.int z.2]) (λz=>D.int (z.1*z.2)) (QT xs ys) (λa b h=>by injection h with h;simp at h;exact Prod.ext h.1 h.2) (λz hz=>?_) FR (.inr λ_ _=>rfl) (by rw[DE,sL];omega) ?_
  ·have z1:=hx z.1 (rV hz).1
   have z2:=hy z.2 (rV hz).2
   walk_at"l3"
   exact gY.ok (.inr ⟨by omega,by omega⟩)
  ·refine⟨(xs.zip ys).map λz=>z.1*z.2,?_,?_⟩
   ·unfold aF;rw[bR];rfl
   ·walk_at"l3"
    refine⟨C,_,_,.int p,rfl,hC,hn,rfl,?_⟩
    refine⟨by omega,?_⟩
    rw[List.map_zip_eq_zipWith]
    exact q
theorem UQ(T:Txt K mg t){m:Bool × Nat}(hm:m∈aG):∃C ns zs sp,fD t.aH t.aN m=.obj C ns zs/\jf P w K mg base 1 "dot" C sp/\("dot":Str) ∉ ns/\∀(xs ys:List Nat) (Q:D->Prop),xs.length=ys.length->xs.length<=64->(∀x∈xs,x<ae m)->(∀y∈ys,y<ae m)->Q (.int (gd m xs ys:Nat))->sp [.obj C ns zs,.lst false (aj xs),.lst false (aj ys)] Q:=by
 have hF:=cU hm
 obtain⟨k,n⟩:=m
 cases k with
 | true=>exact⟨_,_,_,UO K,rfl,⟨T.eX,_,_,_,T.aI8,aJ8 T,T.aK5⟩,by decide,λxs ys Q hl mf hx hy q=>⟨_,n,xs,ys,rfl,T.eX,T.rA,u4 hm,hl,mf,hx,hy,q⟩⟩
 | false =>
  have oY:n<=64:=hF.hi
  have l2:2<=n:=hF.lo
  have cx:∀l:List Nat,(∀x∈l,x<ae (false,n))->∀z∈l.map (λ(n:Nat)=>(n:Int)),0<=z/\z<64:=λl h z hz=>by
   obtain⟨x,hx,rfl⟩:=bD.mp hz
   have:x<n:=h x hx
   omega
  refine⟨_,_,_,UP K,rfl,⟨T.fo,_,_,_,T.aE4,aF0 T,T.aG5⟩,by decide,λxs ys Q hl mf hx hy q=>⟨_,n,xs.map (λ(n:Nat)=>(n:Int)),ys.map (λ(n:Nat)=>(n:Int)),rfl,T.fo,T.oW,by omega,by rw[bq,bq];exact hl,by rw[bq];exact mf,cx xs hx,cx ys hy,?_⟩⟩
  have e:((gd (false,n) xs ys:Nat):Int)=(cP (· * ·) (xs.map λ(n:Nat)=>(n:Int)) (ys.map λ(n:Nat)=>(n:Int))).sum%n:=by
   unfold gd
   rw[QY (by omega) _ _ (by omega),Nl,QZ,Q0,nH]
  rw[<-e];exact q
noncomputable abbrev aQ6(t:eV):bg:=λds Q=>∃(m:Bool × Nat) (G:List (List Nat)) (c:List Nat),ds=[fD t.aH t.aN m,.lst false (ay false G),.lst false (aj c)]/\m∈aG/\RT (ae m) c.length G/\AllLt (ae m) c/\c.length<=64/\G.length<=64/\Q (.lst true (aj (G.map λr=>gd m r c)))
theorem UR(T:Txt K mg t):aM P w K mg base aQ 2 t.Ki t.Kj ["field","table","column"] (bh (aQ6 t)):=by
 refine bA T.KO aO4 ?_ ?_
 ·intro ds Q h
  obtain⟨m,G,c,rfl,hm,hR,hc,fk,hG,q⟩:=h<;>rfl
 ·intro aD A outer s H E hr
  refine⟨_,(aE (aV (dA [("column",2),("field",0)] ["row"] rfl (gQ (bv 1)) (λ_ _ _ _=>(cy (i:=2) (show(["column","field","row"]:List Str).Nodup by decide +kernel) rfl (ai (lookup_relabel_local rfl)) (by decide) (aX (lookup_relabel_local rfl)))) (λ_ _ _ _=>du) (λ_ _ _ _=>(fQ (P:=P) (w:=w) (K:=K) (mg:=mg) (base:=base) (n:=1) (bv 1) (hr.mono (by decide)) (ag (bv 2) (ag (bv 0) aw)))) rfl ⟨rfl,⟨rfl,trivial⟩⟩ (λ_=>by repeat' (first | exact trivial | refine⟨.inl rfl,?_⟩ | refine⟨.inr (.inl rfl),?_⟩ | refine⟨.inr (.inr ⟨_,rfl⟩),?_⟩)) (λ_=>⟨⟨rfl,.inl rfl,.inl rfl,_,rfl,rfl⟩,⟨⟨rfl,.inl rfl,.inl rfl,_,rfl,rfl⟩,trivial⟩⟩) rfl (by decide +kernel)))),λds Q h=>?_⟩
  obtain⟨m,G,c,rfl,hm,hR,hc,fk,hG,q⟩:=h
  have eQ:=(cU hm).lo
  obtain⟨C,ns,xs,sp,e1,e2,e3,e4⟩:=UQ (P:=P) (w:=w) (base:=base) T hm
  walk_at"l3"
  refine eD G (λr=>D.lst false (aj r)) (λr=>D.int ((gd m r c:Nat):Int)) (by rw[dR];rfl) (λa b h=>lZ a b h) (λr bo=>?_) (.inr λr _=>rfl) (by rw[sL];omega) ?_
  ·walk_at"l3"
   exact⟨C,ns,xs,sp,e1,e2,e3,e4 _ _ _ (hR r bo).1 (by rw[(hR r bo).1];exact fk) (hR r bo).2 hc rfl⟩
  ·rw[bY,bR]at q
   exact q
noncomputable abbrev aJ9(t:eV):bg:=λds Q=>∃(m:Bool × Nat) (G:List (List Nat)) (k:Kd) (l:List Nat),ds=[fG t m G k,.lst false (aj l)]/\ik m G/\l.length=av G/\AllLt (ae m) l/\Q (.lst true (aj (G.map λr=>gd m r l)))
theorem US(T:Txt K mg t):aM P w K mg base aQ 3 t.yJ t.Kk ["self","word"] (bh (aJ9 t)):=by
 refine bA T.dn8 aI3 ?_ ?_
 ·intro ds Q h
  obtain⟨m,G,k,l,rfl,hc,hl,al,q⟩:=h<;>rfl
 ·intro aD A outer s H E hr
  refine⟨_,(aA (AJ (aa (bu ((UM T).mono (by decide)) hr rfl T.Tv T.KL.kp T.Tw aR (ag (bv 1) (ag (dj (K:=K) (bv 0)) aw)))))
   (aA (AJ (aa (bu ((UN T).mono (by decide)) hr rfl T.Tx T.KN.kp T.Tz aR (ag (dj (K:=K) (bv 0)) (ag (bv 1) aw)))))
   (aE (aV (bu ((UR T).mono (by decide)) hr rfl T.TB T.KO.kp T.TC aR (ag (dj (K:=K) (bv 0)) (ag (dj (K:=K) (bv 0)) (ag (bv 1) aw)))))))),λds Q h=>?_⟩
  obtain⟨m,G,k,l,rfl,hc,hl,al,q⟩:=h
  have hw:=hc.BQ
  refine aB λU hU=>?_
  walk_at"l3"
  refine yW T m G k ⟨true,aj l,by rw[dX,hl];rfl,rfl,hU _ ?_⟩
  clear hU U
  refine aB λU hU=>?_
  walk_at"l3"
  refine vJ T m G k ⟨m,l,by rw[q5],hc.hm,al,by omega,by rw[FU];rfl,hU _ ?_⟩
  clear hU U
  walk_at"l3"
  exact vJ T m G k (TR T m G k ⟨m,G,l,by rw[q5,dF,dR],hc.hm,by rw[hl];exact hc.rt,al,by omega,hc.len,by rw[gE,kT],q⟩)
noncomputable def sgn(M:Nat):Option Nat->Bool
 | none=>false
 | some a=>decide (a<M)
noncomputable abbrev aK0(t:eV):bg:=λds Q=>∃(m:Bool × Nat) (G:List (List Nat)) (k:Kd) (y:List (Option Nat)),ds=[fG t m G k,.lst false (jE y)]/\ik m G/\y.length<=100/\((y.length≠av G/\Q (.bl false))\/(y.length=av G/\none∈y/\Q (.bl false))\/∃c:List Nat,y=c.map some/\c.length=av G/\AllLt (ae m) c/\Q (.bl (G.all λr=>gd m r c==0)))
theorem CN(T:Txt K mg t):aM P w K mg base aQ 3 t.yK t.Kl ["self","word"] (bh (aK0 t)):=by
 refine bA T.dn9 aI4 ?_ ?_
 ·intro ds Q h
  obtain⟨m,G,k,y,rfl,hc,hy,q⟩:=h<;>rfl
 ·intro aD A outer s H E hr
  refine⟨_,(aA (cR (PW.pt (lJ (bX (i6 (cT hr)) (aa (di (gR) (by rfl) T.gH gA (ag (bv 1) aw))) (dj (K:=K) (bv 0)) (bG _)) (nL (nZ (iX (aa (di (qG rfl) (by rfl) T.rD p8 (ag (aa (dA [("self",0)] ["sign"] rfl (gQ (bv 1)) (λ_ _ _ _=>(cy (i:=1) (show(["self","sign"]:List Str).Nodup by decide +kernel) rfl (ai (lookup_relabel_local rfl)) (by decide) (aX (lookup_relabel_local rfl)))) (λ_ _ _ _=>du) (λ_ _ _ _=>(fQ (P:=P) (w:=w) (K:=K) (mg:=mg) (base:=base) (n:=1) (dj (K:=K) (bv 0)) (hr.mono (by decide)) (ag (bv 1) aw))) rfl ⟨rfl,trivial⟩ (λ_=>by repeat' (first | exact trivial | refine⟨.inl rfl,?_⟩ | refine⟨.inr (.inl rfl),?_⟩ | refine⟨.inr (.inr ⟨_,rfl⟩),?_⟩)) (λ_=>⟨⟨rfl,.inl rfl,.inl rfl,_,rfl,rfl⟩,trivial⟩) rfl (by decide +kernel))) aw)))))))) (aE (aV gP)) cQ)
   (aE (aV (di (qG rfl) (by rfl) T.rD p8 (ag (aa (dA [] ["x"] rfl (gQ (aa (bu ((UR T).mono (by decide)) hr rfl T.TB T.KO.kp T.TC aR (ag (dj (K:=K) (bv 0)) (ag (dj (K:=K) (bv 0)) (ag (bv 1) aw)))))) (λ_ _ _ _=>(cy (i:=0) (show(["x"]:List Str).Nodup by decide +kernel) rfl (ai (lookup_relabel_local rfl)) (by decide) (aX (lookup_relabel_local rfl)))) (λ_ _ _ _=>du) (λ_ _ _ _=>(qj (fP (cT hr)) (bv 0) (aa ao) (bG _))) rfl trivial (λ_=>by repeat' (first | exact trivial | refine⟨.inl rfl,?_⟩ | refine⟨.inr (.inl rfl),?_⟩ | refine⟨.inr (.inr ⟨_,rfl⟩),?_⟩)) (λ_=>trivial) rfl (by decide +kernel))) aw))))),λds Q h=>?_⟩
  obtain⟨m,G,k,y,rfl,hc,hy,q⟩:=h
  have hw:=hc.BQ
  have hl:=hc.len
  have yl:=b83 y
  refine aB λU hU=>?_
  walk_at"l3"
  refine yW T m G k ?_
  rw[yl,kF]
  refine⟨rfl,?_⟩
  rcases q with⟨h1,q⟩ | h
  ·rw[decide_eq_false (by omega),if_pos (by decide)];exact q
  have h0:y.length=av G:=by
   rcases h with⟨h,_⟩ | ⟨c,rfl,h,_⟩
   ·exact h
   ·rw[bq,h]
  rw[decide_eq_true (by omega),if_neg (by decide)]
  refine eD y vo (λa=>D.bl (sgn (ae m) a)) (R6 y) cm5 (λa ha=>?_) (.inr λ_ _=>rfl) (by rw[sL];omega) ?_
  ·walk_at"l3"
   rw[cB4,R5]
   refine vJ T m G k ?_
   refine Ly T m ?_
   cases a with
   | none=>exact .inr ⟨rfl,rfl,rfl⟩
   | some a =>
    refine .inl ⟨_,rfl,rfl,?_⟩
    rw[decide_eq_true (show(0:Int)<=(a:Int) by omega),mq]
    show D.bl _=D.bl (decide (a<ae m))
    congr 1
    exact decide_eq_decide.mpr ⟨λh=>by omega,λh=>by omega⟩
  refine⟨y.map (sgn (ae m)),by unfold kC;rw[bR];rfl,?_⟩
  rcases h with⟨_,hn,q⟩ | ⟨c,rfl,lc,ac,q⟩
  ·rw[show(y.map (sgn (ae m))).all id=false by
    rw[List.all_eq_false]
    exact⟨_,zL hn,ir⟩,if_pos (by decide)]
   exact q
  rw[show((c.map some).map (sgn (ae m))).all id=true by
   rw[cX]
   intro x hx
   rw[bR]at hx
   obtain⟨a,ha,rfl⟩:=bD.mp hx
   exact decide_eq_true (ac a ha),if_neg (by decide)]
  refine hU _ ?_
  clear hU U
  have ec:jE (c.map some)=aj c:=by unfold jE;rw[bR,bY];rfl
  rw[ec]
  walk_at"l3"
  refine vJ T m G k (TR T m G k ⟨m,G,c,by rw[q5,dF,dR],hc.hm,by rw[lc];exact hc.rt,ac,by omega,hl,by rw[gE,kT],_,rfl,?_⟩)
  refine eD (G.map λr=>gd m r c) (λ(i:Nat)=>D.int (i:Int)) (λi=>D.bl (i==0)) (qP _) jc (λi hi=>?_) (.inr λ_ _=>rfl) (by rw[bq,sL];omega) ?_
  ·walk_at"l3"
   rw[show decide ((i:Int)=0)=(i==0) by
    by_cases z:i=0
    ·rw[z];rfl
    ·rw[decide_eq_false (by omega),beq_false_of_ne z]]
  ·refine⟨(G.map λr=>gd m r c).map (·==0),by unfold kC;rw[bR (g:=D.bl)];rfl,?_⟩
   rw[show((G.map λr=>gd m r c).map (·==0)).all id=G.all λr=>gd m r c==0 by rw[bR,kS];rfl]
   exact q
noncomputable abbrev aU1(t:eV):bg:=λds Q=>∃(m:Bool × Nat) (xs:List Nat) (G:List (List Nat)),ds=[fD t.aH t.aN m,.lst false (aj xs),.lst false (ay false G)]/\m∈aG/\AllLt (ae m) xs/\G.length=xs.length/\xs.length<=64/\RT (ae m) (av G) G/\av G<=64/\Q (.lst true (aj (vj m xs G (av G))))
theorem aU2(T:Txt K mg t):aM P w K mg base aQ 3 t.Km t.Kn ["field","row","table"] (bh (aU1 t)):=by
 refine bA T.TH aT6 ?_ ?_
 ·intro ds Q h
  obtain⟨m,xs,G,rfl,hm,hx,hG,xi,hR,hw,q⟩:=h<;>rfl
 ·intro aD A outer s H E hr
  refine⟨_,(aE (aV (dA [("row",1),("field",0)] ["column"] rfl (gQ (aa (bu ((Us T).mono (by decide)) hr rfl T.Ta T.KD.kp T.Tc aR (ag (bv 2) aw)))) (λ_ _ _ _=>(cy (i:=2) (show(["row","field","column"]:List Str).Nodup by decide +kernel) rfl (ai (lookup_relabel_local rfl)) (by decide) (aX (lookup_relabel_local rfl)))) (λ_ _ _ _=>du) (λ_ _ _ _=>(fQ (P:=P) (w:=w) (K:=K) (mg:=mg) (base:=base) (n:=1) (bv 1) (hr.mono (by decide)) (ag (bv 0) (ag (bv 2) aw)))) rfl ⟨rfl,⟨rfl,trivial⟩⟩ (λ_=>by repeat' (first | exact trivial | refine⟨.inl rfl,?_⟩ | refine⟨.inr (.inl rfl),?_⟩ | refine⟨.inr (.inr ⟨_,rfl⟩),?_⟩)) (λ_=>⟨⟨rfl,.inl rfl,.inl rfl,_,rfl,rfl⟩,⟨⟨rfl,.inl rfl,.inl rfl,_,rfl,rfl⟩,trivial⟩⟩) rfl (by decide +kernel)))),λds Q h=>?_⟩
  obtain⟨m,xs,G,rfl,hm,hx,hG,xi,hR,hw,q⟩:=h
  have eQ:=(cU hm).lo
  obtain⟨C,ns,zs,sp,e1,e2,e3,e4⟩:=UQ (P:=P) (w:=w) (base:=base) T hm
  walk_at"l3"
  refine⟨G,rfl,by omega,λr bo=>(hR r bo).1,by omega,?_⟩
  dsimp only
  refine⟨_,rfl,?_⟩
  refine eD (eG G) (λr=>D.lst false (aj r)) (λr=>D.int ((gd m xs r:Nat):Int)) (dR true _) (λa b h=>lZ a b h) (λr bo=>?_) (.inr λr _=>rfl) (by unfold eG;rw[bq,cB,sL];omega) ?_
  ·walk_at"l3"
   unfold eG at bo
   obtain⟨j,hj,rfl⟩:=bD.mp bo
   exact⟨C,ns,zs,sp,e1,e2,e3,e4 _ _ _ (by rw[bq,hG]) xi hx (λy hy=>by
    obtain⟨r,bo,rfl⟩:=bD.mp hy
    exact(hR r bo).2.getD (by omega) j) rfl⟩
  ·unfold vj at q
   rw[bY,bR]at q
   unfold eG
   rw[bR]
   exact q
noncomputable abbrev aK1(t:eV):bg:=λds Q=>∃(m:Bool × Nat) (G:List (List Nat)) (k:Kd) (l:List Nat),ds=[fG t m G k,.lst false (aj l)]/\ik m G/\l.length=(ij m G).length/\AllLt (ae m) l/\Q (.lst true (aj (nk m G l)))
theorem aK2(T:Txt K mg t):aM P w K mg base aQ 4 t.yL t.Ko ["self","message"] (bh (aK1 t)):=by
 refine bA T.do2 aI5 ?_ ?_
 ·intro ds Q h
  obtain⟨m,G,k,l,rfl,hc,hl,al,q⟩:=h<;>rfl
 ·intro aD A outer s H E hr
  refine⟨_,(aA (AJ (aa (bu ((UM T).mono (by decide)) hr rfl T.Tv T.KL.kp T.Tw aR (ag (bv 1) (ag (dj (K:=K) (bv 0)) aw)))))
   (aA (AJ (aa (bu ((UN T).mono (by decide)) hr rfl T.Tx T.KN.kp T.Tz aR (ag (dj (K:=K) (bv 0)) (ag (bv 1) aw)))))
   (aE (aV (bu ((aU2 T).mono (by decide)) hr rfl T.do0 T.TH.kp T.do1 aR (ag (dj (K:=K) (bv 0)) (ag (bv 1) (ag (dj (K:=K) (bv 0)) aw)))))))),λds Q h=>?_⟩
  obtain⟨m,G,k,l,rfl,hc,hl,al,q⟩:=h
  have hw:=hc.BQ
  have hf:=hc.BI
  refine aB λU hU=>?_
  walk_at"l3"
  refine TU T m G k ⟨true,aj l,by rw[dX,hl];rfl,rfl,hU _ ?_⟩
  clear hU U
  refine aB λU hU=>?_
  walk_at"l3"
  refine vJ T m G k ⟨m,l,by rw[q5],hc.hm,al,by omega,by rw[FU];rfl,hU _ ?_⟩
  clear hU U
  walk_at"l3"
  refine vJ T m G k (cr1 T m G k ⟨m,l,oS m G,by rw[q5,dF,dR],hc.hm,al,by rw[BR];exact hl.symm,by omega,by rw[hc.wide];exact hc.rows,by rw[hc.wide];omega,by rw[gE,kT],?_⟩)
  rw[hc.wide]
  exact q
noncomputable abbrev aN2:bg:=λds Q=>∃i:Int,ds=[.int i]/\Q (.bl true)
theorem aN3(T:Txt K mg t):aM P w K mg base aQ 1 t.Kp t.Kq ["_law_x"] (bh (aN2 )):=by
 refine bA T.TJ aL9 ?_ ?_
 ·intro ds Q h
  obtain⟨i,rfl,q⟩:=h<;>rfl
 ·intro aD A outer s H E hr
  refine⟨_,(aE (aV (n6 (aa (xn (by rfl) T.vG (by rfl) T.TN OM (bv 0))) (sM (EV (aa (xn (by rfl) T.vG (by rfl) T.TM ON (bv 0)))))))),λds Q h=>?_⟩
  obtain⟨i,rfl,q⟩:=h
  walk_at"l3"
  exact q
theorem cD2(T:Txt K mg t)(m:Bool × Nat)(G:List (List Nat))(k:Kd){Q:Bool->Prop}(q:Q true):∃C ns xs r,fG t m G k=.obj C ns xs/\q0 K C/\kitOne K (.ref C) (.ref t.cz)=some r/\Q r:=by
 cases k with
 | yE b=>exact⟨_,_,_,true,rfl,T.dp6,T.dp7,q⟩
 | rep=>exact⟨_,_,_,true,rfl,T.dq4,T.dq5,q⟩
 | GA e f=>exact⟨_,_,_,true,rfl,T.dq6,T.dq7,q⟩
theorem cB9(T:Txt K mg t)(hB:Bm mg base):aM P w K mg base aQ 12 t.Kr t.Ks ["_law_script"] (uS [t.iJ,t.iK] (bh (PJ ))):=by
 refine FG T.do6 jF ?_ ?_
 ·intro ds Q h
  obtain⟨ns,rfl,hl,q⟩:=h<;>rfl
 ·intro aD A outer s H E hT hr
  refine⟨_,(aA (aU (i:=1) jF.nd rfl (ai rfl) (bu ((aP2 T).mono (by decide)) hr rfl T.aR5 T.SA.kp T.aR6 aR (ag (aa (bu ((ka T).mono (by decide)) hr rfl T.j7 T.jG.kp T.j8 aR (ag (bv 0) (ag (aa ao) aw)))) aw)))
   (aA (aU (i:=2) jF.nd rfl (ai rfl) (bu ((CD T).mono (by decide)) hr rfl T.B5 T.yM.kp T.B6 aR (ag (bv 1) aw)))
   (aA (aU (i:=3) jF.nd rfl (ai rfl) (Qz hT ((aQ1 T hB).mono (by decide)) hr rfl T.aR7 T.Tq.kp T.aR8 aR (ag (bv 0) (ag (bv 1) aw))))
   (aA (aU (i:=4) jF.nd rfl (ai rfl) (dq (bC (bv 3) (aa ao) (λ_ _=>rfl))))
   (aA (cR (nZ (iX (aa (cw3 (by rfl) T.vG (by rfl) T.vI (bv 4))))) (aE (aV gP)) cQ)
   (aA (aU (i:=5) jF.nd rfl (ai rfl) (bu ((ka T).mono (by decide)) hr rfl T.j7 T.jG.kp T.j8 aR (ag (bv 0) (ag (aa ao) aw))))
   (aA (aU (i:=6) jF.nd rfl (ai rfl) (bu ((UL T).mono (by decide)) hr rfl T.Tr T.KJ.kp T.Ts aR (ag (bv 0) (ag (aa ao) (ag (dj (K:=K) (bv 4)) (ag (bv 2) aw))))))
   (aA (cR (bX (fP (cT hr)) (aa (az cS (bv 5) (aa ao))) (aa ao) (bG _)) (aA (aU (i:=6) jF.nd rfl (ai rfl) (fQ (P:=P) (w:=w) (K:=K) (mg:=mg) (base:=base) (n:=4) (bv 4) (hr.mono (by decide)) (ag (aa (bu ((UL T).mono (by decide)) hr rfl T.Tr T.KJ.kp T.Ts aR (ag (bv 0) (ag (aa ao) (ag (dj (K:=K) (bv 4)) (ag (bv 2) aw)))))) aw)))
    (aE (cR (bX (fP (cT hr)) (aa (az cS (aa (az oh (bv 5) (aa ao))) (aa ao))) (aa ao) (bG _)) (aA (aU (i:=7) jF.nd rfl (ai rfl) (az cS (aa (az oh (bv 5) (aa ao))) (dj (K:=K) (bv 4))))
     (aE (oo (i:=6) rfl (by first | exact ai rfl | exact aX (ai rfl)) (az cS (aa (az cH (bC (bv 6) (bv 7) (λ_ _=>rfl)) (aa ao))) (bv 2)) (bv 7)))) cQ))) cQ)
   (aA (aU (i:=8) jF.nd rfl (ai rfl) (AS (AU) (by rfl) T.yT wO (ag (bv 6) aw)))
   (aA (aU (i:=9) jF.nd rfl (ai rfl) (bu ((aQ5 T).mono (by decide)) hr rfl T.aS1 T.Tu.kp T.aS2 aR (ag (bv 1) (ag (bC (bv 3) (aa ao) (λ_ _=>rfl)) (ag (bv 6) aw)))))
   (aA (aU (i:=10) jF.nd rfl (ai rfl) (fQ (P:=P) (w:=w) (K:=K) (mg:=mg) (base:=base) (n:=3) (bv 4) (hr.mono (by decide)) (ag (bv 8) aw)))
   (aA (cR (PW.pt (lJ (nZ (iX (aa (xn (by rfl) T.vG (by rfl) T.yT wO (bv 10))))) (lJ (nZ (iX (aa (di (qG rfl) (by rfl) T.rD p8 (ag (aa (dA [] ["_law_x"] rfl (gQ (bv 10)) (λ_ _ _ _=>(cy (i:=0) (show(["_law_x"]:List Str).Nodup by decide +kernel) rfl (ai (lookup_relabel_local rfl)) (by decide) (aX (lookup_relabel_local rfl)))) (λ_ _ _ _=>du) (λ_ _ _ _=>(bu ((aN3 T).mono (by decide)) hr rfl T.aO9 T.TJ.kp T.aP0 aR (ag (bv 0) aw))) rfl trivial (λ_=>by repeat' (first | exact trivial | refine⟨.inl rfl,?_⟩ | refine⟨.inr (.inl rfl),?_⟩ | refine⟨.inr (.inr ⟨_,rfl⟩),?_⟩)) (λ_=>trivial) rfl (by decide +kernel))) aw))))) (nL (bX (i6 (cT hr)) (bv 10) (bv 9) (bG _)))))) (aE (aV gP)) cQ)
   (aA (aU (i:=11) jF.nd rfl (ai rfl) (fQ (P:=P) (w:=w) (K:=K) (mg:=mg) (base:=base) (n:=3) (bv 4) (hr.mono (by decide)) (ag (bv 8) aw)))
   (aA (cR (PW.pt (lJ (PW.pt (cI2 (bX Bv (bv 11) (aa gP) (bG _)) (W6 (bX Bv (bv 11) (aa gP) (bG _))))) (lJ (bX (i6 (cT hr)) (bv 11) (aa (EV (aa (di (cx5 rfl) (by rfl) T.TL OL (ag (bv 9) aw))))) (bG _)) (nL (bX (i6 (cT hr)) (bv 8) (bv 6) (bG _)))))) (aE (aV gP)) cQ)
   (aA (cR (PW.pt (lJ (bX Bv (aa (fQ (P:=P) (w:=w) (K:=K) (mg:=mg) (base:=base) (n:=3) (bv 4) (hr.mono (by decide)) (ag (aa (uQ (bv 6) (uD (aa ao)) uC)) aw))) (aa gP) (bG _)) (nL (bX Bv (aa (fQ (P:=P) (w:=w) (K:=K) (mg:=mg) (base:=base) (n:=3) (bv 4) (hr.mono (by decide)) (ag (aa (az cH (bv 6) (aa (dP (cq ao cF))))) aw))) (aa gP) (bG _))))) (aE (aV gP)) cQ)
   (aA (oo (i:=6) rfl (by first | exact ai rfl | exact aX (ai rfl)) AH (aa (az cS (aa (bu ((ka T).mono (by decide)) hr rfl T.j7 T.jG.kp T.j8 aR (ag (bv 0) (ag (aa ao) aw)))) (dj (K:=K) (bv 4)))))
   (aE (aV (n6 (aa (qj cE7 (aa (fQ (P:=P) (w:=w) (K:=K) (mg:=mg) (base:=base) (n:=3) (bv 4) (hr.mono (by decide)) (ag (bv 6) aw))) (aa gP) (bG _))) (sM (qj (fP (cT hr)) (aa (fQ (P:=P) (w:=w) (K:=K) (mg:=mg) (base:=base) (n:=3) (bv 4) (hr.mono (by decide)) (ag (bv 8) aw))) (bv 9) (bG _)))))))))))))))))))))),λds Q h=>?_⟩
  obtain⟨ns,rfl,hl,q⟩:=h
  refine aB λU hU=>?_
  walk_at"l3"
  refine⟨ns,0,rfl,by decide,_,rfl,rfl,hU _ ?_⟩
  clear hU U
  generalize hmm:oG (ns.getD (eJ 0) 0)=m
  have hm:m∈aG:=by rw[<-hmm];exact cc4 _
  have hF:=cU hm
  have eQ:=hF.lo
  have zc:=hF.hi
  have UA:=FT m hm
  refine aB λU hU=>?_
  walk_at"l3"
  refine⟨m,rfl,by omega,by omega,hU _ ?_⟩
  clear hU U
  refine aB λU hU=>?_
  walk_at"l3"
  refine⟨m,ns,rfl,hm,λG k dst hc g1 w2 w15=>hU _ ?_⟩
  clear hU U
  have hw:=hc.BQ
  have hf:=hc.BI
  have hz:=hc.sz
  refine aB λU hU=>?_
  walk_at"l3"
  refine⟨_,rfl,cu2 ..,hU _ ?_⟩
  clear hU U
  refine aB λU hU=>?_
  walk_at"l3"
  refine cD2 T m G k ?_
  rw[if_neg (by decide)]
  refine hU _ ?_
  clear hU U
  refine aB λU hU=>?_
  walk_at"l3"
  refine⟨ns,5,rfl,by decide,hU _ ?_⟩
  clear hU U
  generalize ns.getD (eJ 5) 0=kd
  refine aB λU hU=>?_
  walk_at"l3"
  refine yW T m G k ⟨ns,7,av G,ae m,rfl,by decide,by decide,by omega,by omega,λc lc ac=>⟨rfl,hU _ ?_⟩⟩
  clear hU U
  refine aB λU hU=>?_
  walk_at"l3"
  have fin:∀(c:List Nat) (o7:Option D),c.length=av G->AllLt (ae m) c->U [some (D.fz (aF ns)),some (dk m),some (D.int (ae m)),some (D.tup [fG t m G k,D.lst true (ay true G),D.int dst]),some (fG t m G k),some (D.int kd),some (D.lst true (aj c)),o7,none,none,none,none]:=by
   clear lc ac c
   intro c o7 lc ac
   refine hU _ ?_
   clear hU U
   have hgl:=hc.len
   refine aB λU hU=>?_
   walk_at"l3"
   refine hU _ ?_
   clear hU U
   refine aB λU hU=>?_
   walk_at"l3"
   refine⟨_,rfl,m,G,c,by rw[dF,dR],hm,by rw[lc];exact hc.rt,ac,by omega,hc.len,by rw[gE,kT],hU _ ?_⟩
   clear hU U
   refine aB λU hU=>?_
   walk_at"l3"
   refine yX T T.Ck T.Ct T.CA (US T) T.TF (by decide) ⟨m,G,k,c,rfl,hc,lc,ac,gE _,hU _ ?_⟩
   clear hU U
   obtain⟨S,eS⟩:∃S,(G.map λr=>gd m r c)=S:=⟨_,rfl⟩
   rw[eS]
   have lS:S.length=G.length:=by rw[<-eS,bq]
   refine aB λU hU=>?_
   walk_at"l3"
   refine eD S (λ(i:Nat)=>D.int (i:Int)) (λ_=>D.bl true) (qP _) jc (λi hi=>?_) (.inr λ_ _=>rfl) (by rw[sL];omega) ?_
   ·walk_at"l3"
    exact⟨_,rfl,rfl⟩
   refine⟨S.map λ_=>true,by unfold kC;rw[bR];rfl,?_⟩
   rw[show(S.map λ_=>true).all id=true by simp,if_neg (by decide)]
   dsimp only[pH,pG]
   have dS:bF (D.lst true (aj S)) (D.lst true (aj S))=true:=(yu true true S S).trans (decide_eq_true rfl)
   refine⟨⟨u9 5 true S,u9 5 true S⟩,?_⟩
   rw[dS,if_neg (by decide)]
   refine hU _ ?_
   clear hU U
   have ec:jE (c.map some)=aj c:=by unfold jE;rw[bR,bY];rfl
   refine aB λU hU=>?_
   walk_at"l3"
   refine yX T T.vC T.vD T.vF (CN T) T.Cb (by decide) ⟨m,G,k,c.map some,by rw[ec],hc,by rw[bq];omega,.inr (.inr ⟨c,rfl,lc,ac,rfl,hU _ ?_⟩)⟩
   clear hU U
   rw[show(G.all λr=>gd m r c==0)=!(S.map λ(n:Nat)=>(n:Int)).any (λx=>x != 0) by
    rw[<-eS,bR,Nm,List.not_any_eq_all_not]
    congr 1
    funext r
    show _=!(((gd m r c:Nat):Int) != 0)
    rw[bne,Bool.not_not]
    by_cases z:gd m r c=0
    ·rw[z];rfl
    ·rw[beq_false_of_ne z,beq_false_of_ne (show((gd m r c:Nat):Int)≠0 by omega)]]
   generalize eb:(S.map λ(n:Nat)=>(n:Int)).any (λx=>x != 0)=b
   refine aB λU hU=>?_
   walk_at"l3"
   have nN:∀X:Prop,X->∃UT,aj S=aF UT/\if(!bF (D.bl !b) (D.bl !UT.any λx=>x != 0))=true then Q (D.bl false)else if(!decide True)=true then Q (D.bl false)else X:=λX hX=>⟨_,bZ6 S,by rw[eb,show bF (D.bl !b) (D.bl !b)=true by cases b<;>rfl,if_neg (by decide),if_neg (by decide)];exact hX⟩
   suffices h:U [some (D.fz (aF ns)),some (dk m),some (D.int (ae m)),some (D.tup [fG t m G k,D.lst true (ay true G),D.int dst]),some (fG t m G k),some (D.int kd),some (D.lst true (aj c)),o7,some (D.lst true (aj c)),some (D.lst true (aj S)),some (D.lst true (aj S)),some (D.bl !b)] by
    have g:=nN _ h
    cases b with
    | false=>rw[if_neg (by decide)];exact g
    | true=>rw[if_pos (by decide),if_neg (by decide)];exact g
   refine hU _ ?_
   clear hU U nN
   refine aB λU hU=>?_
   walk_at"l3"
   have yo:∀z:List Nat,aj z=jE (z.map some):=λz=>by unfold jE;rw[bR,bY];rfl
   refine yX T T.vC T.vD T.vF (CN T) T.Cb (by decide) ⟨m,G,k,(c.drop 1).map some,by rw[<-yo,show fj c (some 1) none=c.drop 1 from AZ c 1],hc,by rw[bq,jI];omega,.inl ⟨by rw[bq,jI];omega,rfl,?_⟩⟩
   dsimp only
   rw[if_neg (by decide)]
   obtain⟨C,CO,sY,k9,e1,e2,e3,e4⟩:=TV (P:=P) (w:=w) (base:=base) T m G k T.vC T.vD T.vF (CN T) T.Cb (by decide)
   refine⟨C,CO,sY,k9,e1,e2,e3,by decide,by omega,e4 _ _ ⟨m,G,k,(c++[0]).map some,?_,hc,by rw[bq,dm,jJ];omega,.inl ⟨by rw[bq,dm,jJ];omega,rfl,?_⟩⟩⟩
   ·rw[<-yo,show aj c++[D.int 0]=aj (c++[0]) from lU c [0],ou]
   dsimp only
   rw[if_neg (by decide)]
   refine hU _ ?_
   clear hU U e1 e2 e3 e4 C CO sY k9
   refine aB λU hU=>?_
   walk_at"l3"
   refine⟨ns,4,rfl,by decide,yW T m G k ?_⟩
   dsimp only
   obtain⟨a,ea,ha⟩:∃a:Nat,ns.getD (eJ 4) 0%(av G:Int)=a/\a<av G:=by
    have n0:=fJ (ns.getD (eJ 4) 0) (show(av G:Int)≠0 by omega)
    have n1:=fX (ns.getD (eJ 4) 0) (show 0<(av G:Int) by omega)
    exact⟨_,(nI n0).symm,by omega⟩
   rw[ea]
   refine⟨by omega,_,a,rfl,va (by omega) (by rw[dX,gy];omega),?_⟩
   rw[show(aj c).set a D.au=jE ((c.map some).set a none) by rw[yo];unfold jE;rw[pE];rfl]
   refine hU _ ?_
   clear hU U
   walk_at"l3"
   refine yX T T.vC T.vD T.vF (CN T) T.Cb (by decide) ⟨m,G,k,(c.map some).set a none,by rw[R6],hc,by rw[gW,bq];omega,.inr (.inl ⟨by rw[gW,bq,lc],List.mem_iff_getElem.mpr ⟨a,by rw[gW,bq];omega,List.getElem_set_self ..⟩,rfl,?_⟩)⟩
   dsimp only
   rw[if_pos (by decide)]
   refine yX T T.Ck T.Ct T.CA (US T) T.TF (by decide) ⟨m,G,k,c,rfl,hc,lc,ac,gE _,u9 5 true _,?_⟩
   rw[eS,dS]
   exact q
  clear hU
  refine⟨by decide,?_⟩
  split
  ·refine aB λU hU=>?_
   walk_at"l3"
   obtain⟨C,CO,sY,k9,e1,e2,e3,e4⟩:=TV (P:=P) (w:=w) (base:=base) T m G k T.KZ T.K7 T.Lc (aK2 T) T.do3 (by decide)
   refine⟨C,CO,sY,k9,e1,e2,e3,TU T m G k ⟨ns,7,(ij m G).length,ae m,rfl,by decide,by decide,by omega,by omega,λl ll al=>⟨rfl,e4 _ _ ⟨m,G,k,l,by rw[yv],hc,ll,al,by rw[gE,kT],hU _ ?_⟩⟩⟩⟩
   clear hU
   have wl:=ck2 m G l
   have wa:=hc.wlt ll
   walk_at"l3"
   refine⟨og (by decide) (by decide),by decide,?_⟩
   split
   ·refine⟨og (by decide) (by decide),yW T m G k ?_⟩
    obtain⟨a,ea,ha⟩:∃a:Nat,kd/4%(av G:Int)=a/\a<av G:=by
     have n0:=fJ (kd/4) (show(av G:Int)≠0 by omega)
     have n1:=fX (kd/4) (show 0<(av G:Int) by omega)
     exact⟨_,(nI n0).symm,by omega⟩
    walk_at"l3"
    rw[ea]
    have n0:=fJ ((((nk m G l).getD a 0:Nat):Int)+1) (show(ae m:Int)≠0 by omega)
    have n1:=fX ((((nk m G l).getD a 0:Nat):Int)+1) (show 0<(ae m:Int) by omega)
    refine⟨by omega,_,oI (by omega) (by rw[gy];omega),?_⟩
    dsimp only
    refine⟨by omega,_,a,rfl,va (by omega) (by rw[dX,gy];omega),?_⟩
    rw[gy,show(aj (nk m G l)).set a (D.int ((((nk m G l).getD a 0:Nat)+1:Int)%(ae m:Int)))=aj ((nk m G l).set a ((((nk m G l).getD a 0:Nat)+1:Int)%(ae m:Int)).toNat) by
     rw[bY,bY,pE,nI n0]]
    refine fin _ _ (by rw[gW];exact wl) λx hx=>?_
    rcases DC hx with h | h
    ·exact wa x h
    ·rw[h];omega
   ·exact fin _ _ wl wa
  ·exact fin c _ lc ac
end
set_option maxHeartbeats 0 in
theorem all_mk{l:PySem.W.OpenLaw}{w:World}{K:Frag}{h:Heap}{mg:Str->Option Value}{fa:Addr}{ts:List Addr}(X:K.In h)(G:h.Ns mainGlobals mg)(hfa:mg "law"=some (.ref fa))
  {od8 an8:Option Addr} {sl8:Array (Option Value)} {oc8 kV8 dc8 pm8 ct8:Value} {f8:Addr}
  {zf iJ:Addr} {aC2:Option Addr} {aC3:Array (Option Value)} {UU:Array Value} {aC4:Value}
  {dG3 dG4:Option Addr} {dG5:Array (Option Value)} {dG6 dG7 dG8 dG9 dH0:Value} {zh:Addr}
  {zi iK:Addr} {aH3:Option Addr} {aH4:Array (Option Value)} {UW:Array Value} {aH5:Value}
  {dH4 UX:Option Addr} {dH5:Array (Option Value)} {dH6 UY UZ U0 LM U1:Value} {zj:Addr}
  {LN:Addr} {dH7 dH8:Value} {dH9:Option Addr} {dI0:Array (Option Value)} {dI1:Nat}
  {dI2 U2:Option Addr} {dI3:Array (Option Value)} {dI4 U3 U4 U5 LO U6:Value} {LP:Addr}
  {f0 f1 f2 f3 f4 f5 f6 f7 f9 LQ LR mV LS LU LV LW LX LY LZ CP CQ CS tW L4 vM L5 L6 L7 L8 CT CU L9 zk vN Ma Mb Mc Md CV CW Me Mg CY Mh Mi Mj Ml CZ C2 C5 Mm C6 Mn Mo Mp Mq Mr Ms Mt C7 C8 Mu rK rL Mv rM Mw:Addr} {fd0 fd1 fd2 fd3 fd4 fd5 fd6 fd7 fd9 dJ4 dJ5 dJ6 dJ7 dJ8 dJ9 dK0 dK1 dK2 dK3 dK4 dK5 dK6 dK7 dK8 dK9 dL0 dL1 dL2 dL3 dL4 dL5 dL6 dL7 dL8 dL9 dM0 dM1 dM2 dM3 dM4 dM5 dM6 dM7 dM8 dM9 dN0 dN1 dN2 dN3 dN4 dN5 dN6 dN7 dN8 dN9 dO0 dO1 dO2 dO3 dO4 dO5 dO6 dO7 dO8 dO9 dP2 dP3:FuncData}
  {aH iq bJ cz j6 aN bU bx:Addr}
  (Le:nsIn K mainGlobals "BitField"=some (some (.ref aH)))
  (Lf:nsIn K mainGlobals "ByNought"=some (some (.ref iq)))
  (CB:nsIn K mainGlobals "CheckCode"=some (some (.ref bJ)))
  (vI:nsIn K mainGlobals "Code"=some (some (.ref cz)))
  (CC:nsIn K mainGlobals "Field"=some (some (.ref j6)))
  (Lg:nsIn K mainGlobals "PrimeField"=some (some (.ref aN)))
  (Lh:nsIn K mainGlobals "RepeatCode"=some (some (.ref bU)))
  (Li:nsIn K mainGlobals "RootCode"=some (some (.ref bx)))
  (a0:nsIn K mainGlobals "_law_told"=some (some (.ref f0)))
  (a1:nsIn K mainGlobals "_law_many"=some (some (.ref f1)))
  (a2:nsIn K mainGlobals "powers_of"=some (some (.ref f2)))
  (a3:nsIn K mainGlobals "step_powers"=some (some (.ref f3)))
  (a4:nsIn K mainGlobals "logs_of"=some (some (.ref f4)))
  (a5:findIn K (.ref j6) "step_power"=some (some (.ref f5)))
  (U7:isFn K (.ref f5)=true)
  (a6:findIn K (.ref j6) "__init__"=some (some (.ref f6)))
  (mf6:isFn K (.ref f6)=true)
  (a7:nsIn K mainGlobals "makes_prime_field"=some (some (.ref f7)))
  (a8:findIn K (.ref aN) "__init__"=some (some (.ref f8)))
  (mf8:isFn K (.ref f8)=true)
  (a9:nsIn K mainGlobals "product_rows"=some (some (.ref f9)))
  (a10:nsIn K mainGlobals "bits_divided"=some (some (.ref LQ)))
  (a11:nsIn K mainGlobals "stands_alone"=some (some (.ref LR)))
  (a12:nsIn K mainGlobals "makes_bit_field"=some (some (.ref mV)))
  (a13:nsIn K mainGlobals "bits_times"=some (some (.ref LS)))
  (a14:findIn K (.ref aH) "__init__"=some (some (.ref zh)))
  (dQ0:isFn K (.ref zh)=true)
  (a15:nsIn K mainGlobals "_law_field"=some (some (.ref LU)))
  (a16:nsIn K mainGlobals "_law_cell"=some (some (.ref LV)))
  (a17:nsIn K mainGlobals "_law_mixed"=some (some (.ref LW)))
  (a18:nsIn K mainGlobals "_law_free_table"=some (some (.ref LX)))
  (a19:nsIn K mainGlobals "width_of"=some (some (.ref LY)))
  (a20:nsIn K mainGlobals "first_with"=some (some (.ref LZ)))
  (a21:findIn K (.ref aH) "scaled"=some (some (.ref CP)))
  (dQ8:isFn K (.ref CP)=true)
  (a22:findIn K (.ref aN) "scaled"=some (some (.ref CQ)))
  (dR0:isFn K (.ref CQ)=true)
  (a23:findIn K (.ref aH) "lessened"=some (some (.ref CS)))
  (dR4:isFn K (.ref CS)=true)
  (a24:findIn K (.ref aN) "lessened"=some (some (.ref tW)))
  (dR6:isFn K (.ref tW)=true)
  (a25:nsIn K mainGlobals "cleared"=some (some (.ref L4)))
  (a26:findIn K (.ref j6) "over"=some (some (.ref vM)))
  (U8:isFn K (.ref vM)=true)
  (a27:nsIn K mainGlobals "reduced"=some (some (.ref L5)))
  (a28:nsIn K mainGlobals "copied"=some (some (.ref L6)))
  (a29:nsIn K mainGlobals "leads"=some (some (.ref L7)))
  (a30:nsIn K mainGlobals "free_places"=some (some (.ref L8)))
  (a31:findIn K (.ref aH) "minus"=some (some (.ref CT)))
  (dS3:isFn K (.ref CT)=true)
  (a32:findIn K (.ref aN) "minus"=some (some (.ref CU)))
  (dS5:isFn K (.ref CU)=true)
  (a33:nsIn K mainGlobals "kernel_of_reduced"=some (some (.ref L9)))
  (a34:findIn K (.ref cz) "__init__"=some (some (.ref zk)))
  (ec9:isFn K (.ref zk)=true)
  (a35:findIn K (.ref j6) "holds"=some (some (.ref vN)))
  (U9:isFn K (.ref vN)=true)
  (a36:nsIn K mainGlobals "is_small_table"=some (some (.ref Ma)))
  (a37:nsIn K mainGlobals "rank"=some (some (.ref Mb)))
  (a38:nsIn K mainGlobals "turned"=some (some (.ref Mc)))
  (a39:nsIn K mainGlobals "is_nought"=some (some (.ref Md)))
  (a40:findIn K (.ref aH) "times"=some (some (.ref CV)))
  (dT2:isFn K (.ref CV)=true)
  (a41:findIn K (.ref aN) "times"=some (some (.ref CW)))
  (dT4:isFn K (.ref CW)=true)
  (a42:nsIn K mainGlobals "past"=some (some (.ref Me)))
  (a43:nsIn K mainGlobals "first_bound"=some (some (.ref Mg)))
  (a44:findIn K (.ref bJ) "__init__"=some (some (.ref CY)))
  (dT8:isFn K (.ref CY)=true)
  (a45:nsIn K mainGlobals "_law_times"=some (some (.ref Mh)))
  (a46:nsIn K mainGlobals "_law_powers"=some (some (.ref Mi)))
  (a47:nsIn K mainGlobals "_law_root_table"=some (some (.ref Mj)))
  (a48:nsIn K mainGlobals "makes_root_code"=some (some (.ref Ml)))
  (a49:findIn K (.ref bx) "__init__"=some (some (.ref zj)))
  (dU4:isFn K (.ref zj)=true)
  (a50:findIn K (.ref bJ) "distance"=some (some (.ref CZ)))
  (dU6:isFn K (.ref CZ)=true)
  (a51:findIn K (.ref bU) "distance"=some (some (.ref C2)))
  (dU8:isFn K (.ref C2)=true)
  (a52:findIn K (.ref bx) "distance"=some (some (.ref C5)))
  (dV0:isFn K (.ref C5)=true)
  (a53:nsIn K mainGlobals "repeat_checks"=some (some (.ref Mm)))
  (a54:findIn K (.ref bU) "__init__"=some (some (.ref C6)))
  (dV3:isFn K (.ref C6)=true)
  (a55:nsIn K mainGlobals "_law_repeat_table"=some (some (.ref Mn)))
  (a56:nsIn K mainGlobals "_law_code"=some (some (.ref Mo)))
  (a57:nsIn K mainGlobals "_law_message"=some (some (.ref Mp)))
  (a58:nsIn K mainGlobals "_law_plus"=some (some (.ref Mq)))
  (a59:nsIn K mainGlobals "_law_sums"=some (some (.ref Mr)))
  (a60:nsIn K mainGlobals "refuse_length"=some (some (.ref Ms)))
  (a61:nsIn K mainGlobals "refuse_no_sign"=some (some (.ref Mt)))
  (a62:findIn K (.ref aH) "dot"=some (some (.ref C7)))
  (dW2:isFn K (.ref C7)=true)
  (a63:findIn K (.ref aN) "dot"=some (some (.ref C8)))
  (dW4:isFn K (.ref C8)=true)
  (a64:nsIn K mainGlobals "by_column"=some (some (.ref Mu)))
  (a65:findIn K (.ref cz) "checked"=some (some (.ref rK)))
  (Mx:isFn K (.ref rK)=true)
  (a66:findIn K (.ref cz) "is_word"=some (some (.ref rL)))
  (Mz:isFn K (.ref rL)=true)
  (a67:nsIn K mainGlobals "row_by"=some (some (.ref Mv)))
  (a68:findIn K (.ref cz) "written"=some (some (.ref rM)))
  (MA:isFn K (.ref rM)=true)
  (a69:nsIn K mainGlobals "_law_whole"=some (some (.ref Mw)))
  (Va:nsIn K mainGlobals "law"=some (some (.ref LP)))
  (zo:specialIn K (.builtin "object.__class__") "__get__"=some (some (.builtin "getset_descriptor.__get__")))
  (zr:PySem.W.takesIn K (.builtin "object.__class__")=some true)
  (Vb:plainGet K aH vQ=true)
  (Vc:hasDictIn K aH=true)
  (Vd:plainOver K aH=true)
  (Ve:findIn K (.ref aH) "__setattr__"=some (some (.builtin "object.__setattr__")))
  (KP:makesIn K aH=true)
  (aS4:keepIn K (.ref aH)=true)
  (aS5:findIn K (.ref aH) "__class__"=some (some (.builtin "object.__class__")))
  (aS6:mroIn K aH (.type "object")=some true)
  (aH6:typeIn K (.ref cz)=some (.type "type"))
  (aH7:subIn K (.ref aH) (.ref cz)=some false)
  (KQ:findIn K (.ref aH) "bits"=some none)
  (vA:findIn K (.ref aH) "logs"=some none)
  (rz:findIn K (.ref aH) "many"=some none)
  (vB:findIn K (.ref aH) "powers"=some none)
  (rA:findIn K (.ref aH) "products"=some none)
  (KR:findIn K (.ref aH) "step"=some none)
  (KS:findIn K (.ref aH) "wide"=some none)
  (KU:findIn K (.ref aH) "holds"=some (some (.ref vN)))
  (KW:findIn K (.ref aH) "over"=some (some (.ref vM)))
  (yP:findIn K (.ref aH) "step_power"=some (some (.ref f5)))
  (Vf:plainGet K bJ vQ=true)
  (Vg:hasDictIn K bJ=true)
  (Vh:plainOver K bJ=true)
  (Vi:findIn K (.ref bJ) "__setattr__"=some (some (.builtin "object.__setattr__")))
  (Cc:makesIn K bJ=true)
  (dX3:keepIn K (.ref bJ)=true)
  (dX4:findIn K (.ref bJ) "__class__"=some (some (.builtin "object.__class__")))
  (dX5:mroIn K bJ (.type "object")=some true)
  (dX6:typeIn K (.ref cz)=some (.type "type"))
  (dX7:subIn K (.ref bJ) (.ref cz)=some true)
  (Cd:findIn K (.ref bJ) "bound"=some none)
  (Ce:findIn K (.ref bJ) "check_rows"=some none)
  (Cf:findIn K (.ref bJ) "field"=some none)
  (Cg:findIn K (.ref bJ) "length"=some none)
  (KY:findIn K (.ref bJ) "message_places"=some none)
  (Ci:findIn K (.ref bJ) "size"=some none)
  (Cj:findIn K (.ref bJ) "word_rows"=some none)
  (Ck:findIn K (.ref bJ) "checked"=some (some (.ref rK)))
  (vC:findIn K (.ref bJ) "is_word"=some (some (.ref rL)))
  (KZ:findIn K (.ref bJ) "written"=some (some (.ref rM)))
  (Vj:plainGet K aN vQ=true)
  (Vk:hasDictIn K aN=true)
  (Vl:plainOver K aN=true)
  (Vm:findIn K (.ref aN) "__setattr__"=some (some (.builtin "object.__setattr__")))
  (K0:makesIn K aN=true)
  (aN4:keepIn K (.ref aN)=true)
  (aN5:findIn K (.ref aN) "__class__"=some (some (.builtin "object.__class__")))
  (aN6:mroIn K aN (.type "object")=some true)
  (aC5:typeIn K (.ref cz)=some (.type "type"))
  (aC6:subIn K (.ref aN) (.ref cz)=some false)
  (yQ:findIn K (.ref aN) "logs"=some none)
  (rC:findIn K (.ref aN) "many"=some none)
  (yR:findIn K (.ref aN) "powers"=some none)
  (oW:findIn K (.ref aN) "prime"=some none)
  (K1:findIn K (.ref aN) "step"=some none)
  (K2:findIn K (.ref aN) "wide"=some none)
  (K3:findIn K (.ref aN) "holds"=some (some (.ref vN)))
  (K4:findIn K (.ref aN) "over"=some (some (.ref vM)))
  (yS:findIn K (.ref aN) "step_power"=some (some (.ref f5)))
  (Vn:plainGet K bU vQ=true)
  (Vo:hasDictIn K bU=true)
  (Vp:plainOver K bU=true)
  (Vq:findIn K (.ref bU) "__setattr__"=some (some (.builtin "object.__setattr__")))
  (K5:makesIn K bU=true)
  (dY3:keepIn K (.ref bU)=true)
  (dY4:findIn K (.ref bU) "__class__"=some (some (.builtin "object.__class__")))
  (dY5:mroIn K bU (.type "object")=some true)
  (dY6:typeIn K (.ref cz)=some (.type "type"))
  (dY7:subIn K (.ref bU) (.ref cz)=some true)
  (Cn:findIn K (.ref bU) "check_rows"=some none)
  (Co:findIn K (.ref bU) "field"=some none)
  (Cp:findIn K (.ref bU) "length"=some none)
  (K6:findIn K (.ref bU) "message_places"=some none)
  (Cq:findIn K (.ref bU) "size"=some none)
  (Cr:findIn K (.ref bU) "word_rows"=some none)
  (Ct:findIn K (.ref bU) "checked"=some (some (.ref rK)))
  (vD:findIn K (.ref bU) "is_word"=some (some (.ref rL)))
  (K7:findIn K (.ref bU) "written"=some (some (.ref rM)))
  (Vr:plainGet K bx vQ=true)
  (Vs:hasDictIn K bx=true)
  (Vt:plainOver K bx=true)
  (Vu:findIn K (.ref bx) "__setattr__"=some (some (.builtin "object.__setattr__")))
  (K8:makesIn K bx=true)
  (dY8:keepIn K (.ref bx)=true)
  (dY9:findIn K (.ref bx) "__class__"=some (some (.builtin "object.__class__")))
  (dZ0:mroIn K bx (.type "object")=some true)
  (dZ1:typeIn K (.ref cz)=some (.type "type"))
  (dZ2:subIn K (.ref bx) (.ref cz)=some true)
  (Cu:findIn K (.ref bx) "check_rows"=some none)
  (K9:findIn K (.ref bx) "extra"=some none)
  (Cv:findIn K (.ref bx) "field"=some none)
  (La:findIn K (.ref bx) "first"=some none)
  (Cw:findIn K (.ref bx) "length"=some none)
  (Lb:findIn K (.ref bx) "message_places"=some none)
  (Cy:findIn K (.ref bx) "size"=some none)
  (Cz:findIn K (.ref bx) "word_rows"=some none)
  (CA:findIn K (.ref bx) "checked"=some (some (.ref rK)))
  (vF:findIn K (.ref bx) "is_word"=some (some (.ref rL)))
  (Lc:findIn K (.ref bx) "written"=some (some (.ref rM)))
  (dZ3:specialIn K (.ref cz) "__getattribute__"=some (some (.builtin "type.__getattribute__")))
  (dZ4:PySem.W.readsIn K cz (.type "type")=true)
  (dZ5:PySem.W.findCls K (.ref cz) (.type "type") "__init__"=some (.val (.ref zk)))
  (aN7:specialIn K (.ref j6) "__getattribute__"=some (some (.builtin "type.__getattribute__")))
  (aN8:PySem.W.readsIn K j6 (.type "type")=true)
  (aN9:PySem.W.findCls K (.ref j6) (.type "type") "__init__"=some (.val (.ref f6)))
  (dZ9:nsIn K mainGlobals "all"=some none)
  (d00:nsIn K mainGlobals "any"=some none)
  (d01:nsIn K mainGlobals "bool"=some none)
  (d02:nsIn K mainGlobals "enumerate"=some none)
  (d03:nsIn K mainGlobals "int"=some none)
  (d04:nsIn K mainGlobals "isinstance"=some none)
  (d05:nsIn K mainGlobals "len"=some none)
  (d06:nsIn K mainGlobals "list"=some none)
  (d07:nsIn K mainGlobals "min"=some none)
  (d08:nsIn K mainGlobals "range"=some none)
  (d09:nsIn K mainGlobals "sum"=some none)
  (d11:nsIn K mainGlobals "zip"=some none)
  (aU9:typeIn K (.ref iq)=some (.type "type"))
  (aQ7:findIn K (.ref iq) "__getattribute__"=some (some (.builtin "BaseException.__getattribute__")))
  (aQ8:findIn K (.ref iq) "__getattr__"=some none)
  (aQ9:findIn K (.ref iq) "__class__"=some (some (.builtin "object.__class__")))
  (aR0:specialIn K (.builtin "object.__class__") "__get__"=some (some (.builtin "getset_descriptor.__get__")))
  (aR1:PySem.W.takesIn K (.builtin "object.__class__")=some true)
  (aR2:mroIn K iq (.type "object")=some true)
  (aR3:mroIn K iq (.type "BaseException")=some true)
  (F0:ax K "_law_told" "_law_told" at2 f0 fd0)
  (F1:ax K "_law_many" "_law_many" GC f1 fd1)
  (F2:ax K "powers_of" "powers_of" GD f2 fd2)
  (F3:ax K "step_powers" "step_powers" GF f3 fd3)
  (F4:ax K "logs_of" "logs_of" GG f4 fd4)
  (F5:ax K "step_power" "Field.step_power" GI f5 fd5)
  (F6:ax K "__init__" "Field.__init__" GJ f6 fd6)
  (F7:ax K "makes_prime_field" "makes_prime_field" GK f7 fd7)
  (F9:ax K "product_rows" "product_rows" GL f9 fd9)
  (Vv:ax K "bits_divided" "bits_divided" GN LQ dJ4)
  (Vw:ax K "stands_alone" "stands_alone" GO LR dJ5)
  (Vx:ax K "makes_bit_field" "makes_bit_field" GQ mV dJ6)
  (Vy:ax K "bits_times" "bits_times" GR LS dJ7)
  (Vz:ax K "_law_field" "_law_field" GS LU dJ8)
  (VA:ax K "_law_cell" "_law_cell" GU LV dJ9)
  (VB:ax K "_law_mixed" "_law_mixed" GV LW dK0)
  (VC:ax K "_law_free_table" "_law_free_table" GW LX dK1)
  (VD:ax K "width_of" "width_of" GX LY dK2)
  (VE:ax K "first_with" "first_with" GY LZ dK3)
  (MB:ax K "scaled" "BitField.scaled" GZ CP dK4)
  (MC:ax K "scaled" "PrimeField.scaled" G0 CQ dK5)
  (MD:ax K "lessened" "BitField.lessened" G1 CS dK6)
  (ME:ax K "lessened" "PrimeField.lessened" G2 tW dK7)
  (VF:ax K "cleared" "cleared" G3 L4 dK8)
  (C9:ax K "over" "Field.over" G4 vM dK9)
  (VG:ax K "reduced" "reduced" G5 L5 dL0)
  (VH:ax K "copied" "copied" G6 L6 dL1)
  (VI:ax K "leads" "leads" G7 L7 dL2)
  (VJ:ax K "free_places" "free_places" G8 L8 dL3)
  (MF:ax K "minus" "BitField.minus" G9 CT dL4)
  (MG:ax K "minus" "PrimeField.minus" Ha CU dL5)
  (VL:ax K "kernel_of_reduced" "kernel_of_reduced" Hb L9 dL6)
  (MH:ax K "__init__" "Code.__init__" Hc zk dL7)
  (Dc:ax K "holds" "Field.holds" He vN dL8)
  (VM:ax K "is_small_table" "is_small_table" Hf Ma dL9)
  (VN:ax K "rank" "rank" Hg Mb dM0)
  (VO:ax K "turned" "turned" Hh Mc dM1)
  (VP:ax K "is_nought" "is_nought" Hi Md dM2)
  (MI:ax K "times" "BitField.times" Hj CV dM3)
  (MJ:ax K "times" "PrimeField.times" Hk CW dM4)
  (VQ:ax K "past" "past" Hl Me dM5)
  (VR:ax K "first_bound" "first_bound" Hm Mg dM6)
  (VS:ax K "__init__" "CheckCode.__init__" Ho CY dM7)
  (VT:ax K "_law_times" "_law_times" Hq Mh dM8)
  (VU:ax K "_law_powers" "_law_powers" Hr Mi dM9)
  (VV:ax K "_law_root_table" "_law_root_table" Ht Mj dN0)
  (VW:ax K "makes_root_code" "makes_root_code" Hu Ml dN1)
  (MK:ax K "distance" "CheckCode.distance" Hv CZ dN2)
  (ML:ax K "distance" "RepeatCode.distance" So C2 dN3)
  (MM:ax K "distance" "RootCode.distance" Sq C5 dN4)
  (VX:ax K "repeat_checks" "repeat_checks" Hw Mm dN5)
  (VY:ax K "__init__" "RepeatCode.__init__" Hx C6 dN6)
  (VZ:ax K "_law_repeat_table" "_law_repeat_table" Hy Mn dN7)
  (V0:ax K "_law_code" "_law_code" Hz Mo dN8)
  (V1:ax K "_law_message" "_law_message" HA Mp dN9)
  (V2:ax K "_law_plus" "_law_plus" HB Mq dO0)
  (V3:ax K "_law_sums" "_law_sums" HC Mr dO1)
  (V4:ax K "refuse_length" "refuse_length" HD Ms dO2)
  (V5:ax K "refuse_no_sign" "refuse_no_sign" HE Mt dO3)
  (MN:ax K "dot" "BitField.dot" HF C7 dO4)
  (MP:ax K "dot" "PrimeField.dot" HG C8 dO5)
  (V6:ax K "by_column" "by_column" HH Mu dO6)
  (zt:ax K "checked" "Code.checked" HI rK dO7)
  (zu:ax K "is_word" "Code.is_word" HJ rL dO8)
  (V7:ax K "row_by" "row_by" HK Mv dO9)
  (zw:ax K "written" "Code.written" HL rM dP2)
  (V8:ax K "_law_whole" "_law_whole" HM Mw dP3)
  (l8:K.lookup f8=some ⟨oc8,od8,.func (fnOf "__init__" "PrimeField.__init__" (iB nq) (fw nq) (aK nq) .none kV8 dc8 pm8 an8 (.ref zf) ct8),sl8⟩)
  (c8:codeIn K (.ref zf) "PrimeField.__init__"=true)
  (k8:keepIn K (.ref f8)=true)
  (aU3:K.lookup zf=some ⟨aC4,aC2,.fields UU,aC3⟩)
  (aU4:UU[11]?=some (.ref iJ))
  (aC7:codeHdIn K zf iJ=true)
  (l14:K.lookup zh=some ⟨dG6,dG3,.func (fnOf "__init__" "BitField.__init__" (iB nt) (fw nt) (aK nt) .none dG7 dG8 dG9 dG4 (.ref zi) dH0),dG5⟩)
  (c14:codeIn K (.ref zi) "BitField.__init__"=true)
  (k14:keepIn K (.ref zh)=true)
  (aU6:K.lookup zi=some ⟨aH5,aH3,.fields UW,aH4⟩)
  (aU7:UW[11]?=some (.ref iK))
  (aH8:codeHdIn K zi iK=true)
  (l49:K.lookup zj=some ⟨dH6,dH4,.func (fnOf "__init__" "RootCode.__init__" (iB nu) (fw nu) (aK nu) (.ref LN) UY UZ U0 UX LM U1),dH5⟩)
  (d25:K.lookup LN=some ⟨dH7,dH9,.seq #[dH8] dI1,dI0⟩)
  (c49:codeIn K LM "RootCode.__init__"=true)
  (k49:keepIn K (.ref zj)=true)
  (l70:K.lookup LP=some ⟨dI4,dI2,.func (fnOf "law" "law" (iB nv) (fw nv) (aK nv) .none U3 U4 U5 U2 LO U6),dI3⟩)
  (c70:codeIn K LO "law"=true)
  (k70:keepIn K (.ref LP)=true)
  (aH9:(cN aH==cN cz)=false)
  (aI0:(clsIn K cz).isSome=true)
  (d33:(cN bJ==cN cz)=false)
  (d34:(clsIn K cz).isSome=true)
  (aC8:(cN aN==cN cz)=false)
  (aC9:(clsIn K cz).isSome=true)
  (d37:(cN bU==cN cz)=false)
  (d38:(clsIn K cz).isSome=true)
  (d39:(cN bx==cN cz)=false)
  (d40:(clsIn K cz).isSome=true)
  (aS7:(clsIn K iq).isSome=true)
  (aS8:PySem.W.excIn K iq [.type "ValueError",.type "Exception",.type "BaseException",.type "object"] "ValueError.__new__"=true)
  (nl:K.all (λp=>Ff p.2)=true)
  (sub:∀P∈[iJ,iK],P∈ts) :
  ∃fd:FuncData,(∀(s:Shared) (v:Value),BindsTo s fd ⟨[v],[]⟩ [("_law_script",v)])/\∀base:Heap,K.In base->base.Ns mainGlobals mg->Bm mg base->aM l.prog w K mg base aQ 12 fa fd ["_law_script"] (Ba ts K):=by
 have e:=hfa.symm.trans (mg_of X G Va)
 cases e
 have F8:=Aw (st:=nq) l8 c8 k8
 have b8:=F8.binds (ps:=["self","prime"]) λ_ _ _ _ _ _=>eH (λ_ _=>rfl)
 have V9:=Aw (st:=nt) l14 c14 k14
 have b14:=V9.binds (ps:=["self","bits"]) λ_ _ _ _ _ _=>eH (λ_ _=>rfl)
 have F49:=cn8 (st:=nu) l49 c49 k49
 have b49:=cy3 (ps:=["self","field","length","extra","first"]) (fd:=fnOf "__init__" "RootCode.__init__" (iB nu) (fw nu) (aK nu) (.ref LN) UY UZ U0 UX LM U1) rfl d25 rfl (RJ (λ_ _ _ _ _=>⟨_,rfl,rfl⟩))
 have Wa:=Aw (st:=nv) l70 c70 k70
 have b70:=Wa.binds (ps:=["_law_script"]) λ_ _ _ _ _ _=>gu (λ_=>rfl)
 have T:Txt K mg ⟨f0,_,f1,_,f2,_,f3,_,f4,_,f5,_,f6,_,f7,_,f8,_,f9,_,LQ,_,LR,_,mV,_,LS,_,zh,_,LU,_,LV,_,LW,_,LX,_,LY,_,LZ,_,CP,_,CQ,_,CS,_,tW,_,L4,_,vM,_,L5,_,L6,_,L7,_,L8,_,CT,_,CU,_,L9,_,zk,_,vN,_,Ma,_,Mb,_,Mc,_,Md,_,CV,_,CW,_,Me,_,Mg,_,CY,_,Mh,_,Mi,_,Mj,_,Ml,_,zj,_,CZ,_,C2,_,C5,_,Mm,_,C6,_,Mn,_,Mo,_,Mp,_,Mq,_,Mr,_,Ms,_,Mt,_,C7,_,C8,_,Mu,_,rK,_,rL,_,Mv,_,rM,_,Mw,_,fa,_,zf,iJ,zi,iK,aH,iq,bJ,cz,j6,aN,bU,bx⟩:=⟨F0,mg_of X G a0,F0.binds λ_ _ _ _ _ _=>gu λ_=>rfl,F1,mg_of X G a1,F1.binds λ_ _ _ _ _ _=>gu λ_=>rfl,F2,mg_of X G a2,F2.binds λ_ _ _ _ _ _=>eH λ_ _=>rfl,F3,mg_of X G a3,F3.binds λ_ _ _ _ _ _=>eH λ_ _=>rfl,F4,mg_of X G a4,F4.binds λ_ _ _ _ _ _=>gu λ_=>rfl,F5,F5.binds λ_ _ _ _ _ _=>eH λ_ _=>rfl,F6,F6.binds λ_ _ _ _ _ _=>fF λ_ _ _=>rfl,F7,mg_of X G a7,F7.binds λ_ _ _ _ _ _=>gu λ_=>rfl,F8,b8,F9,mg_of X G a9,F9.binds λ_ _ _ _ _ _=>eH λ_ _=>rfl,Vv,mg_of X G a10,Vv.binds λ_ _ _ _ _ _=>eH λ_ _=>rfl,Vw,mg_of X G a11,Vw.binds λ_ _ _ _ _ _=>gu λ_=>rfl,Vx,mg_of X G a12,Vx.binds λ_ _ _ _ _ _=>gu λ_=>rfl,Vy,mg_of X G a13,Vy.binds λ_ _ _ _ _ _=>eH λ_ _=>rfl,V9,b14,Vz,mg_of X G a15,Vz.binds λ_ _ _ _ _ _=>gu λ_=>rfl,VA,mg_of X G a16,VA.binds λ_ _ _ _ _ _=>eH λ_ _=>rfl,VB,mg_of X G a17,VB.binds λ_ _ _ _ _ _=>eH λ_ _=>rfl,VC,mg_of X G a18,VC.binds λ_ _ _ _ _ _=>RJ λ_ _ _ _ _=>rfl,VD,mg_of X G a19,VD.binds λ_ _ _ _ _ _=>gu λ_=>rfl,VE,mg_of X G a20,VE.binds λ_ _ _ _ _ _=>eH λ_ _=>rfl,MB,MB.binds λ_ _ _ _ _ _=>fF λ_ _ _=>rfl,MC,MC.binds λ_ _ _ _ _ _=>fF λ_ _ _=>rfl,MD,MD.binds λ_ _ _ _ _ _=>rl λ_ _ _ _=>rfl,ME,ME.binds λ_ _ _ _ _ _=>rl λ_ _ _ _=>rfl,VF,mg_of X G a25,VF.binds λ_ _ _ _ _ _=>rl λ_ _ _ _=>rfl,C9,C9.binds λ_ _ _ _ _ _=>fF λ_ _ _=>rfl,VG,mg_of X G a27,VG.binds λ_ _ _ _ _ _=>eH λ_ _=>rfl,VH,mg_of X G a28,VH.binds λ_ _ _ _ _ _=>gu λ_=>rfl,VI,mg_of X G a29,VI.binds λ_ _ _ _ _ _=>gu λ_=>rfl,VJ,mg_of X G a30,VJ.binds λ_ _ _ _ _ _=>eH λ_ _=>rfl,MF,MF.binds λ_ _ _ _ _ _=>fF λ_ _ _=>rfl,MG,MG.binds λ_ _ _ _ _ _=>fF λ_ _ _=>rfl,VL,mg_of X G a33,VL.binds λ_ _ _ _ _ _=>fF λ_ _ _=>rfl,MH,MH.binds λ_ _ _ _ _ _=>fF λ_ _ _=>rfl,Dc,Dc.binds λ_ _ _ _ _ _=>eH λ_ _=>rfl,VM,mg_of X G a36,VM.binds λ_ _ _ _ _ _=>eH λ_ _=>rfl,VN,mg_of X G a37,VN.binds λ_ _ _ _ _ _=>eH λ_ _=>rfl,VO,mg_of X G a38,VO.binds λ_ _ _ _ _ _=>gu λ_=>rfl,VP,mg_of X G a39,VP.binds λ_ _ _ _ _ _=>gu λ_=>rfl,MI,MI.binds λ_ _ _ _ _ _=>fF λ_ _ _=>rfl,MJ,MJ.binds λ_ _ _ _ _ _=>fF λ_ _ _=>rfl,VQ,mg_of X G a42,VQ.binds λ_ _ _ _ _ _=>fF λ_ _ _=>rfl,VR,mg_of X G a43,VR.binds λ_ _ _ _ _ _=>eH λ_ _=>rfl,VS,VS.binds λ_ _ _ _ _ _=>fF λ_ _ _=>rfl,VT,mg_of X G a45,VT.binds λ_ _ _ _ _ _=>fF λ_ _ _=>rfl,VU,mg_of X G a46,VU.binds λ_ _ _ _ _ _=>gu λ_=>rfl,VV,mg_of X G a47,VV.binds λ_ _ _ _ _ _=>rl λ_ _ _ _=>rfl,VW,mg_of X G a48,VW.binds λ_ _ _ _ _ _=>rl λ_ _ _ _=>rfl,F49,b49,MK,MK.binds λ_ _ _ _ _ _=>gu λ_=>rfl,ML,ML.binds λ_ _ _ _ _ _=>gu λ_=>rfl,MM,MM.binds λ_ _ _ _ _ _=>gu λ_=>rfl,VX,mg_of X G a53,VX.binds λ_ _ _ _ _ _=>eH λ_ _=>rfl,VY,VY.binds λ_ _ _ _ _ _=>fF λ_ _ _=>rfl,VZ,mg_of X G a55,VZ.binds λ_ _ _ _ _ _=>eH λ_ _=>rfl,V0,mg_of X G a56,V0.binds λ_ _ _ _ _ _=>eH λ_ _=>rfl,V1,mg_of X G a57,V1.binds λ_ _ _ _ _ _=>rl λ_ _ _ _=>rfl,V2,mg_of X G a58,V2.binds λ_ _ _ _ _ _=>fF λ_ _ _=>rfl,V3,mg_of X G a59,V3.binds λ_ _ _ _ _ _=>fF λ_ _ _=>rfl,V4,mg_of X G a60,V4.binds λ_ _ _ _ _ _=>eH λ_ _=>rfl,V5,mg_of X G a61,V5.binds λ_ _ _ _ _ _=>eH λ_ _=>rfl,MN,MN.binds λ_ _ _ _ _ _=>fF λ_ _ _=>rfl,MP,MP.binds λ_ _ _ _ _ _=>fF λ_ _ _=>rfl,V6,mg_of X G a64,V6.binds λ_ _ _ _ _ _=>fF λ_ _ _=>rfl,zt,zt.binds λ_ _ _ _ _ _=>eH λ_ _=>rfl,zu,zu.binds λ_ _ _ _ _ _=>eH λ_ _=>rfl,V7,mg_of X G a67,V7.binds λ_ _ _ _ _ _=>fF λ_ _ _=>rfl,zw,zw.binds λ_ _ _ _ _ _=>eH λ_ _=>rfl,V8,mg_of X G a69,V8.binds λ_ _ _ _ _ _=>gu λ_=>rfl,Wa,mg_of X G Va,b70,rfl,aC7,rfl,aH8,⟨Vb,Vc,Vd,Ve⟩,⟨KP,a14,dQ0,aS4⟩,⟨⟨Vb,Vc,Vd,Ve⟩,aS5,zo,zr,aS6⟩,xW aH9 aI0 aH6 aH7,KQ,vA,rz,vB,rA,KR,KS,⟨a62,dW2,MN.kp⟩,⟨KU,U9,Dc.kp⟩,⟨a23,dR4,MD.kp⟩,⟨a31,dS3,MF.kp⟩,⟨KW,U8,C9.kp⟩,⟨a21,dQ8,MB.kp⟩,⟨yP,U7,F5.kp⟩,⟨a40,dT2,MI.kp⟩,⟨Vf,Vg,Vh,Vi⟩,⟨Cc,a44,dT8,dX3⟩,⟨⟨Vf,Vg,Vh,Vi⟩,dX4,zo,zr,dX5⟩,xW d33 d34 dX6 dX7,Cd,Ce,Cf,Cg,KY,Ci,Cj,⟨Ck,Mx,zt.kp⟩,⟨a50,dU6,MK.kp⟩,⟨vC,Mz,zu.kp⟩,⟨KZ,MA,zw.kp⟩,⟨Vj,Vk,Vl,Vm⟩,⟨K0,a8,mf8,aN4⟩,⟨⟨Vj,Vk,Vl,Vm⟩,aN5,zo,zr,aN6⟩,xW aC8 aC9 aC5 aC6,yQ,rC,yR,oW,K1,K2,⟨a63,dW4,MP.kp⟩,⟨K3,U9,Dc.kp⟩,⟨a24,dR6,ME.kp⟩,⟨a32,dS5,MG.kp⟩,⟨K4,U8,C9.kp⟩,⟨a22,dR0,MC.kp⟩,⟨yS,U7,F5.kp⟩,⟨a41,dT4,MJ.kp⟩,⟨Vn,Vo,Vp,Vq⟩,⟨K5,a54,dV3,dY3⟩,⟨⟨Vn,Vo,Vp,Vq⟩,dY4,zo,zr,dY5⟩,xW d37 d38 dY6 dY7,Cn,Co,Cp,K6,Cq,Cr,⟨Ct,Mx,zt.kp⟩,⟨a51,dU8,ML.kp⟩,⟨vD,Mz,zu.kp⟩,⟨K7,MA,zw.kp⟩,⟨Vr,Vs,Vt,Vu⟩,⟨K8,a49,dU4,dY8⟩,⟨⟨Vr,Vs,Vt,Vu⟩,dY9,zo,zr,dZ0⟩,xW d39 d40 dZ1 dZ2,Cu,K9,Cv,La,Cw,Lb,Cy,Cz,⟨CA,Mx,zt.kp⟩,⟨a52,dV0,MM.kp⟩,⟨vF,Mz,zu.kp⟩,⟨Lc,MA,zw.kp⟩,⟨dZ3,dZ4,dZ5,MH.kp⟩,⟨aN7,aN8,aN9,F6.kp⟩,mg_none_of X G dZ9,mg_none_of X G d00,mg_none_of X G d01,mg_none_of X G d02,mg_none_of X G d03,mg_none_of X G d04,mg_none_of X G d05,mg_none_of X G d06,mg_none_of X G d07,mg_none_of X G d08,mg_none_of X G d09,mg_none_of X G d11,mg_of X G Le,mg_of X G Lf,mg_of X G CB,mg_of X G vI,mg_of X G CC,mg_of X G Lg,mg_of X G Lh,mg_of X G Li,cx3 (mg_of X G Lf) aS8,⟨aS7,aQ7,aQ8,aQ9,aR0,aR1,aR2,aR3⟩⟩
 exact⟨fnOf "law" "law" (iB nv) (fw nv) (aK nv) .none U3 U4 U5 U2 LO U6,λs v=>.of_eq rfl,λbase _ _ hB=>(cB9 T hB).imp λvs H Q E h=>let z:=b79 nl h;⟨λP hP=>z.1 P (sub P hP),z.2⟩⟩
theorem aD0{K:Frag}{h:Heap}{c f k P:Addr}{od an:Option Addr}{sl:Array (Option Value)}{oc kV dc pm ct kt:Value}{ko:Option Addr}{ks:Array (Option Value)}{kf:Array Value}(X:K.In h)(a:nsIn K mainGlobals "PrimeField"=some (some (.ref c)))(b:findIn K (.ref c) "__init__"=some (some (.ref f)))
  (l:K.lookup f=some ⟨oc,od,.func (fnOf "__init__" "PrimeField.__init__" (iB nq) (fw nq) (aK nq) .none kV dc pm an (.ref k) ct),sl⟩) (lk:K.lookup k=some ⟨kt,ko,.fields kf,ks⟩) (lp:kf[11]?=some (.ref P)) (n:K.lookup P=none) (e:codeHdIn K k P=true):K.lookup P=none/\∃c,CodeHd h c P:=⟨n,k,PySem.W.codeHd_of_K X e⟩
theorem aI1{K:Frag}{h:Heap}{c f k P:Addr}{od an:Option Addr}{sl:Array (Option Value)}{oc kV dc pm ct kt:Value}{ko:Option Addr}{ks:Array (Option Value)}{kf:Array Value}(X:K.In h)(a:nsIn K mainGlobals "BitField"=some (some (.ref c)))(b:findIn K (.ref c) "__init__"=some (some (.ref f)))
  (l:K.lookup f=some ⟨oc,od,.func (fnOf "__init__" "BitField.__init__" (iB nt) (fw nt) (aK nt) .none kV dc pm an (.ref k) ct),sl⟩) (lk:K.lookup k=some ⟨kt,ko,.fields kf,ks⟩) (lp:kf[11]?=some (.ref P)) (n:K.lookup P=none) (e:codeHdIn K k P=true):K.lookup P=none/\∃c,CodeHd h c P:=⟨n,k,PySem.W.codeHd_of_K X e⟩
theorem walk{l:PySem.W.OpenLaw}{q:Program}{loose:List Str}{XP:(Str->Option Value)->Heap->Prop}{YP:World->Heap->Prop}{d:DefRec}{K:Params->Frag}{ts:List Addr}(hn:l.most=some 63)(wH:d.params.defaults=[])
  (hY:∀(w:World) (h:Heap),YP w h->(K w.params).In h/\∀P∈ts,h.get? P=some (PySem.W.tabObj #[]))
  (hC:∀(w:World) (h:Heap),(K w.params).In h->∀P∈ts,(K w.params).lookup P=none/\∃c,CodeHd h c P)
  (F:∀(w:World) (mg:Str->Option Value) (fa:Addr) (h:Heap),(K w.params).In h->h.Ns mainGlobals mg->mg d.name=some (.ref fa) ->
   ∃fd:FuncData,(∀(s:Shared) (u:Value),BindsTo s fd ⟨[u],[]⟩ [("_law_script",u)])/\∀base:Heap,(K w.params).In base->base.Ns mainGlobals mg->Bm mg base->aM l.prog w (K w.params) mg base aQ 12 fa fd ["_law_script"] (Ba ts (K w.params))) :
  PySem.W.WalkO q loose XP YP l.row.toRowW d [] (λf vs=>PySem.call f vs) :=
 L2.cV9 (n:=63) (k:=12) (x:="_law_script") (CX:=λ_=>aQ) (sp:=λw=>Ba ts (K w.params)) hn (by decide) wH ⟨rfl,by decide,by decide⟩ hY hC F (λ_ _ a ns hl hO hS=>⟨a,ns,rfl,hO,hS,hl,λ_=>rfl⟩) λ_ _ _ _ _ z=>z
end HK36
namespace PySem.W.Fast
theorem tw9587245902764528672:True:=⟨⟩
theorem tw2386034931255309344:True:=⟨⟩
theorem tw12988472775055781952:True:=⟨⟩
theorem tw6211632286232993856:True:=⟨⟩
theorem tw14478028364237500512:True:=⟨⟩
theorem tw11558878835202836576:True:=⟨⟩
theorem tw14279963111948267648:True:=⟨⟩
theorem tw15044443432810771584:True:=⟨⟩
theorem tw12105814311785416864:True:=⟨⟩
theorem tw9308807640013621440:True:=⟨⟩
theorem tw10706658674369041696:True:=⟨⟩
theorem tw7251849116901725504:True:=⟨⟩
theorem tw9756406236778306912:True:=⟨⟩
theorem tw3067250186666361280:True:=⟨⟩
theorem tw5012504789840928256:True:=⟨⟩
theorem tw11676802184359096864:True:=⟨⟩
theorem tw4420166131085663776:True:=⟨⟩
theorem tw13095340932675227200:True:=⟨⟩
theorem tw8814429415155224128:True:=⟨⟩
theorem tw17013400120733005376:True:=⟨⟩
theorem tw6710484332457279072:True:=⟨⟩
theorem tw11998508857785960032:True:=⟨⟩
theorem tw1826508914711847520:True:=⟨⟩
theorem tw18140171192493615808:True:=⟨⟩
theorem tw2205951300501040832:True:=⟨⟩
theorem tw18339287809037275904:True:=⟨⟩
theorem tw4359151017732502272:True:=⟨⟩
theorem tw17774191687289281312:True:=⟨⟩
theorem tw11370868087059799936:True:=⟨⟩
theorem tw6810617627359143872:True:=⟨⟩
theorem tw1164649073898769409:True:=⟨⟩
theorem tw5885808970357535745:True:=⟨⟩
theorem tw7496723823758118945:True:=⟨⟩
theorem tw7609231583145936929:True:=⟨⟩
theorem tw4524357106028523585:True:=⟨⟩
theorem tw12736804468525218881:True:=⟨⟩
theorem tw14708324244439440481:True:=⟨⟩
theorem tw15024184918544849057:True:=⟨⟩
theorem tw10267630193786709185:True:=⟨⟩
theorem tw8901365587218314465:True:=⟨⟩
theorem tw9647349606315028705:True:=⟨⟩
theorem tw13624152714897781985:True:=⟨⟩
theorem tw16940343156164851937:True:=⟨⟩
theorem tw479953212535285025:True:=⟨⟩
theorem tw13181434447475536161:True:=⟨⟩
theorem tw16099270382358732193:True:=⟨⟩
theorem tw15661314134199069089:True:=⟨⟩
theorem tw17164497439980055969:True:=⟨⟩
theorem tw4923071155802015233:True:=⟨⟩
theorem tw16119968205459906049:True:=⟨⟩
theorem tw4209115409427504673:True:=⟨⟩
theorem tw6464694678916590113:True:=⟨⟩
theorem tw11867893515446074945:True:=⟨⟩
theorem tw16610822375402885697:True:=⟨⟩
theorem tw4347025405647184449:True:=⟨⟩
theorem tw14544442446665738817:True:=⟨⟩
theorem tw9907200397177296481:True:=⟨⟩
theorem tw14778437711606776513:True:=⟨⟩
theorem tw17869892305585204961:True:=⟨⟩
theorem tw12000323736826834785:True:=⟨⟩
theorem tw17483761549332053857:True:=⟨⟩
theorem tw5797630994076891009:True:=⟨⟩
theorem tw10581011841822164929:True:=⟨⟩
theorem tw9556709509947402177:True:=⟨⟩
theorem tw363961941673844705:True:=⟨⟩
theorem tw18163739331711151073:True:=⟨⟩
theorem tw3067055145665517537:True:=⟨⟩
theorem tw15186311151807422433:True:=⟨⟩
theorem tw15803297493763274754:True:=⟨⟩
theorem tw16888733122281326594:True:=⟨⟩
theorem tw12994592328208177250:True:=⟨⟩
theorem tw5936669207153516706:True:=⟨⟩
theorem tw1107407732590505122:True:=⟨⟩
theorem tw10585621269956358402:True:=⟨⟩
theorem tw915220705395893602:True:=⟨⟩
theorem tw15987467043348147554:True:=⟨⟩
theorem tw3560863863444241794:True:=⟨⟩
theorem tw4338514871051646434:True:=⟨⟩
theorem tw4254602952295037410:True:=⟨⟩
theorem tw9649581592846680642:True:=⟨⟩
theorem tw3250777898668034754:True:=⟨⟩
theorem tw4668483580550638274:True:=⟨⟩
theorem tw4699769150757408482:True:=⟨⟩
theorem tw17529011821294583554:True:=⟨⟩
theorem tw17524782897910364994:True:=⟨⟩
theorem tw357706117173622626:True:=⟨⟩
theorem tw6469810588902438754:True:=⟨⟩
theorem tw18337393245915558818:True:=⟨⟩
theorem tw5041627751985748962:True:=⟨⟩
theorem tw13910717755438038019:True:=⟨⟩
theorem tw5464041254732828707:True:=⟨⟩
theorem tw6518309552296510499:True:=⟨⟩
theorem tw15470899770731924547:True:=⟨⟩
theorem tw15289414043897580643:True:=⟨⟩
theorem tw6896436594963343491:True:=⟨⟩
theorem tw17937409918932390115:True:=⟨⟩
theorem tw6789177594063265027:True:=⟨⟩
theorem tw13127926097014744355:True:=⟨⟩
theorem tw13491757484629464387:True:=⟨⟩
theorem tw15147126820579623235:True:=⟨⟩
theorem tw3067991942953419203:True:=⟨⟩
theorem tw14789062324986437059:True:=⟨⟩
theorem tw2373446830030495203:True:=⟨⟩
theorem tw7333218593102100995:True:=⟨⟩
theorem tw5476480326332200483:True:=⟨⟩
theorem tw3367105537328134691:True:=⟨⟩
theorem tw869950655533028035:True:=⟨⟩
theorem tw7954241943140113091:True:=⟨⟩
theorem tw17397149224285429443:True:=⟨⟩
theorem tw17263812219091706563:True:=⟨⟩
theorem tw15314276988086094563:True:=⟨⟩
theorem tw13087042052672268035:True:=⟨⟩
theorem tw449875021582727939:True:=⟨⟩
theorem tw10890687300928843555:True:=⟨⟩
theorem tw4861383580642769699:True:=⟨⟩
theorem tw10106166417786602339:True:=⟨⟩
theorem tw13907818684387428259:True:=⟨⟩
theorem tw18357350020813683683:True:=⟨⟩
theorem tw4083462725215137796:True:=⟨⟩
theorem tw8609594147384013828:True:=⟨⟩
theorem tw1261430696977706020:True:=⟨⟩
theorem tw13770570031452245028:True:=⟨⟩
theorem tw7855061793866286148:True:=⟨⟩
theorem tw16254418413460873284:True:=⟨⟩
theorem tw17718478493913785476:True:=⟨⟩
theorem tw13274935816705903812:True:=⟨⟩
theorem tw14642465031483317444:True:=⟨⟩
theorem tw13938960661567089892:True:=⟨⟩
theorem tw3728953263034691876:True:=⟨⟩
theorem tw18036229170878569796:True:=⟨⟩
theorem tw2991272060864458084:True:=⟨⟩
theorem tw10730005915850178948:True:=⟨⟩
theorem tw13147286740897898916:True:=⟨⟩
theorem tw12873730761409189316:True:=⟨⟩
theorem tw5811807865226083812:True:=⟨⟩
theorem tw1093158088681112100:True:=⟨⟩
theorem tw15123754327144107588:True:=⟨⟩
theorem tw9645932409124269668:True:=⟨⟩
theorem tw8340572942029949572:True:=⟨⟩
theorem tw7758852921981109924:True:=⟨⟩
theorem tw11986949834854231716:True:=⟨⟩
theorem tw5947662016722172580:True:=⟨⟩
theorem tw836215605983607460:True:=⟨⟩
theorem tw15487414702176456388:True:=⟨⟩
theorem tw17428776207495939780:True:=⟨⟩
theorem tw16041908430084061924:True:=⟨⟩
theorem tw7921750587888520932:True:=⟨⟩
theorem tw3004464158146702084:True:=⟨⟩
theorem tw16477826234608058116:True:=⟨⟩
theorem tw3881611542092664612:True:=⟨⟩
theorem tw5943382239947565860:True:=⟨⟩
theorem tw16441141534788246340:True:=⟨⟩
theorem tw580703281509473124:True:=⟨⟩
theorem tw11242858065185513380:True:=⟨⟩
theorem tw2751097304743399332:True:=⟨⟩
theorem tw8806274326136657925:True:=⟨⟩
theorem tw3476228544097189925:True:=⟨⟩
theorem tw4648364305813253157:True:=⟨⟩
theorem tw10449251732974623813:True:=⟨⟩
theorem tw7904383172785056869:True:=⟨⟩
theorem tw13622763481794219141:True:=⟨⟩
theorem tw2823336555463163045:True:=⟨⟩
theorem tw8202896019849214117:True:=⟨⟩
theorem tw776987053117340837:True:=⟨⟩
theorem tw2889047868658446565:True:=⟨⟩
theorem tw11856792138756149509:True:=⟨⟩
theorem tw8741536439811934501:True:=⟨⟩
theorem tw7704399840990703909:True:=⟨⟩
theorem tw6524415284632575269:True:=⟨⟩
theorem tw16585956235623576901:True:=⟨⟩
theorem tw2091808548193765797:True:=⟨⟩
theorem tw12312184444029885861:True:=⟨⟩
theorem tw10635682882379178405:True:=⟨⟩
theorem tw2123368776450501:True:=⟨⟩
theorem tw1574509704892370373:True:=⟨⟩
theorem tw14575035695931366885:True:=⟨⟩
theorem tw14838581128512997893:True:=⟨⟩
theorem tw17127433562297510405:True:=⟨⟩
theorem tw10781731972781691429:True:=⟨⟩
theorem tw11013725979325257253:True:=⟨⟩
theorem tw17719572190051384965:True:=⟨⟩
theorem tw8550039878066040485:True:=⟨⟩
theorem tw2028246159670859461:True:=⟨⟩
theorem tw10629784194406086341:True:=⟨⟩
theorem tw15639490618604880613:True:=⟨⟩
theorem tw15870981324413407973:True:=⟨⟩
theorem tw785018321227762405:True:=⟨⟩
theorem tw16945568923740723973:True:=⟨⟩
theorem tw8725419543895856997:True:=⟨⟩
theorem tw10284167061501802373:True:=⟨⟩
theorem tw5387761269366583237:True:=⟨⟩
theorem tw584892783169248262:True:=⟨⟩
theorem tw13254534316026967078:True:=⟨⟩
theorem tw12189550371813621830:True:=⟨⟩
theorem tw9388775657883166790:True:=⟨⟩
theorem tw7803923753821514854:True:=⟨⟩
theorem tw913944750822734950:True:=⟨⟩
theorem tw5033657705152222374:True:=⟨⟩
theorem tw6742641159607949478:True:=⟨⟩
theorem tw12088150646625591462:True:=⟨⟩
theorem tw15265589379176297638:True:=⟨⟩
theorem tw12466357607191993542:True:=⟨⟩
theorem tw17505412051500583142:True:=⟨⟩
theorem tw2661491109107720422:True:=⟨⟩
theorem tw17632975994381963526:True:=⟨⟩
theorem tw9924242732542832902:True:=⟨⟩
theorem tw8671261152484112678:True:=⟨⟩
theorem tw8057019199671342406:True:=⟨⟩
theorem tw15257833365422678374:True:=⟨⟩
theorem tw909846446746542470:True:=⟨⟩
theorem tw12873087028916795782:True:=⟨⟩
theorem tw14614818748812613030:True:=⟨⟩
theorem tw2838495093633363398:True:=⟨⟩
theorem tw5163169734822123974:True:=⟨⟩
theorem tw15575412860367072710:True:=⟨⟩
theorem tw8879547798525674982:True:=⟨⟩
theorem tw12615129480051446246:True:=⟨⟩
theorem tw7905683774306786822:True:=⟨⟩
theorem tw5915799928726640198:True:=⟨⟩
theorem tw16044110813135308390:True:=⟨⟩
theorem tw15093906707139594854:True:=⟨⟩
theorem tw9105879653627377254:True:=⟨⟩
theorem tw8882333930618802790:True:=⟨⟩
theorem tw15118957836571054726:True:=⟨⟩
theorem tw6834842898846076614:True:=⟨⟩
theorem tw4320544830109885158:True:=⟨⟩
theorem tw15008020490435085030:True:=⟨⟩
theorem tw17531452382700229382:True:=⟨⟩
theorem tw68421188719513446:True:=⟨⟩
theorem tw6825083452299329382:True:=⟨⟩
theorem tw3603476083108399974:True:=⟨⟩
theorem tw2173630028203518854:True:=⟨⟩
theorem tw11902470757936520102:True:=⟨⟩
theorem tw16207897828715356070:True:=⟨⟩
theorem tw11128626280058753990:True:=⟨⟩
theorem tw430849791479465926:True:=⟨⟩
theorem tw12142136214220785606:True:=⟨⟩
theorem tw14233170967026270150:True:=⟨⟩
theorem tw9601887296515300326:True:=⟨⟩
theorem tw3875988101670667303:True:=⟨⟩
theorem tw6122577259399594055:True:=⟨⟩
theorem tw7391026595984898151:True:=⟨⟩
theorem tw7309625464321806471:True:=⟨⟩
theorem tw10870934374240268487:True:=⟨⟩
theorem tw782165278953520327:True:=⟨⟩
theorem tw4199443551903008967:True:=⟨⟩
theorem tw15854589081493925095:True:=⟨⟩
theorem tw7086718236579562791:True:=⟨⟩
theorem tw7878983423337077031:True:=⟨⟩
theorem tw16008937551272664359:True:=⟨⟩
theorem tw12118799863296202055:True:=⟨⟩
theorem tw15413127910336821575:True:=⟨⟩
theorem tw17394283949487859047:True:=⟨⟩
theorem tw13519472955112503687:True:=⟨⟩
theorem tw10726655901354407335:True:=⟨⟩
theorem tw12844605334996933031:True:=⟨⟩
theorem tw2052227284081857991:True:=⟨⟩
theorem tw12401572189855446503:True:=⟨⟩
theorem tw16145275137745147399:True:=⟨⟩
theorem tw2220709145217670695:True:=⟨⟩
theorem tw1607772130269280807:True:=⟨⟩
theorem tw4666990535814457991:True:=⟨⟩
theorem tw12169977646045424295:True:=⟨⟩
theorem tw4103598825482905287:True:=⟨⟩
theorem tw1049461273364290279:True:=⟨⟩
theorem tw13887330900946377511:True:=⟨⟩
theorem tw15971863389841078119:True:=⟨⟩
theorem tw3163372121757617031:True:=⟨⟩
theorem tw2965238089784725383:True:=⟨⟩
theorem tw224273474258833287:True:=⟨⟩
theorem tw3518229447016558471:True:=⟨⟩
theorem tw8549753233396479879:True:=⟨⟩
theorem tw15850097158256124807:True:=⟨⟩
theorem tw11781605398779130791:True:=⟨⟩
theorem tw18160292181025733640:True:=⟨⟩
theorem tw8335837869136581704:True:=⟨⟩
theorem tw6737576048426296392:True:=⟨⟩
theorem tw11632384308537502792:True:=⟨⟩
theorem tw11872046133152256104:True:=⟨⟩
theorem tw14547910535875564648:True:=⟨⟩
theorem tw11906848081182759016:True:=⟨⟩
theorem tw7022246304957786216:True:=⟨⟩
theorem tw10026070609827557480:True:=⟨⟩
theorem tw15910109803693325448:True:=⟨⟩
theorem tw15653254621569762472:True:=⟨⟩
theorem tw2666971397797299400:True:=⟨⟩
theorem tw16531966657457028296:True:=⟨⟩
theorem tw11504014060137952520:True:=⟨⟩
theorem tw10538411752362961160:True:=⟨⟩
theorem tw17034296035181796680:True:=⟨⟩
theorem tw16572782447667988808:True:=⟨⟩
theorem tw13101752116145772904:True:=⟨⟩
theorem tw3749765264786708840:True:=⟨⟩
theorem tw3284823797752426888:True:=⟨⟩
theorem tw10842916743426331048:True:=⟨⟩
theorem tw2310123250536973800:True:=⟨⟩
theorem tw16134163327364480488:True:=⟨⟩
theorem tw510924823085992424:True:=⟨⟩
theorem tw2705295580345912808:True:=⟨⟩
theorem tw1262795824696417768:True:=⟨⟩
theorem tw8000603801261128232:True:=⟨⟩
theorem tw5629425011935759912:True:=⟨⟩
theorem tw7653928585584791080:True:=⟨⟩
theorem tw9756924337907298856:True:=⟨⟩
theorem tw943069137350234728:True:=⟨⟩
theorem tw13433489062028287592:True:=⟨⟩
theorem tw10295059468315072136:True:=⟨⟩
theorem tw15774735442126822024:True:=⟨⟩
theorem tw2238169585953658536:True:=⟨⟩
theorem tw4593928612163843816:True:=⟨⟩
theorem tw12847587771466896136:True:=⟨⟩
theorem tw8866521795594794792:True:=⟨⟩
theorem tw1810615979668657960:True:=⟨⟩
theorem tw16755362853872556840:True:=⟨⟩
theorem tw10642906356789844872:True:=⟨⟩
theorem tw2662450079988669320:True:=⟨⟩
theorem tw16470734019227962344:True:=⟨⟩
theorem tw8118273594378283049:True:=⟨⟩
theorem tw112285310767692841:True:=⟨⟩
theorem tw3231634551297136713:True:=⟨⟩
theorem tw5868481663496862921:True:=⟨⟩
theorem tw11984335515656264969:True:=⟨⟩
theorem tw14159770059998972169:True:=⟨⟩
theorem tw12551099296743748873:True:=⟨⟩
theorem tw5566737369192172841:True:=⟨⟩
theorem tw9225034033481240969:True:=⟨⟩
theorem tw5491592731768679817:True:=⟨⟩
theorem tw2799163921533506025:True:=⟨⟩
theorem tw9277629486962028009:True:=⟨⟩
theorem tw3810239257917812233:True:=⟨⟩
theorem tw14756193973125672457:True:=⟨⟩
theorem tw9255392013406023209:True:=⟨⟩
theorem tw9458148062968575529:True:=⟨⟩
theorem tw1251070936352845417:True:=⟨⟩
theorem tw3431195719341668969:True:=⟨⟩
theorem tw10986903616670417545:True:=⟨⟩
theorem tw11145929947225384585:True:=⟨⟩
theorem tw7160327795075805833:True:=⟨⟩
theorem tw10618590286129183465:True:=⟨⟩
theorem tw632230871420625641:True:=⟨⟩
theorem tw5201580861846045449:True:=⟨⟩
theorem tw13233791765004245769:True:=⟨⟩
theorem tw790870580043423561:True:=⟨⟩
theorem tw3155855659558275977:True:=⟨⟩
theorem tw17769482389618732937:True:=⟨⟩
theorem tw9028069939167857641:True:=⟨⟩
theorem tw11259016170957969385:True:=⟨⟩
theorem tw5617353101609715689:True:=⟨⟩
theorem tw3510029979216333801:True:=⟨⟩
theorem tw14101509843281477609:True:=⟨⟩
theorem tw4632081983710989322:True:=⟨⟩
theorem tw15088137058139272202:True:=⟨⟩
theorem tw17637889872151094378:True:=⟨⟩
theorem tw6641387968906222730:True:=⟨⟩
theorem tw3374994918625545386:True:=⟨⟩
theorem tw4935909376136010954:True:=⟨⟩
theorem tw921045914196864266:True:=⟨⟩
theorem tw400526911236601098:True:=⟨⟩
theorem tw17014320338921632042:True:=⟨⟩
theorem tw9022398976891353610:True:=⟨⟩
theorem tw1967939614398981674:True:=⟨⟩
theorem tw6001073543916148298:True:=⟨⟩
theorem tw1473149393695370858:True:=⟨⟩
theorem tw95979869939437226:True:=⟨⟩
theorem tw12736421248169198314:True:=⟨⟩
theorem tw15176429194262338282:True:=⟨⟩
theorem tw2196259312322280170:True:=⟨⟩
theorem tw16559192258152543018:True:=⟨⟩
theorem tw13337429092654711658:True:=⟨⟩
theorem tw16878763965009675114:True:=⟨⟩
theorem tw12796985869306327946:True:=⟨⟩
theorem tw7848448019031113674:True:=⟨⟩
theorem tw5648613104616899562:True:=⟨⟩
theorem tw2111065033793834986:True:=⟨⟩
theorem tw9159978187395776490:True:=⟨⟩
theorem tw15741735811618599947:True:=⟨⟩
theorem tw418590630919543851:True:=⟨⟩
theorem tw2967594796956218411:True:=⟨⟩
theorem tw4579611337336893515:True:=⟨⟩
theorem tw12949897045662862443:True:=⟨⟩
theorem tw2620972859452887147:True:=⟨⟩
theorem tw59884709404193899:True:=⟨⟩
theorem tw17442201107254526059:True:=⟨⟩
theorem tw13944930922800863339:True:=⟨⟩
theorem tw10006266291535677643:True:=⟨⟩
theorem tw12814055319919691979:True:=⟨⟩
theorem tw9613723565854397643:True:=⟨⟩
theorem tw11335203804504471755:True:=⟨⟩
theorem tw3958397096269708491:True:=⟨⟩
theorem tw17667658241301857515:True:=⟨⟩
theorem tw17532228694843440427:True:=⟨⟩
theorem tw17881944806165206347:True:=⟨⟩
theorem tw10053336704937164139:True:=⟨⟩
theorem tw2486569830781086091:True:=⟨⟩
theorem tw6574516633348547019:True:=⟨⟩
theorem tw9685426009456168395:True:=⟨⟩
theorem tw8476988153702688235:True:=⟨⟩
theorem tw1133128535229412907:True:=⟨⟩
theorem tw2771522784879160907:True:=⟨⟩
theorem tw8559632389286539883:True:=⟨⟩
theorem tw10916657729771521643:True:=⟨⟩
theorem tw10213801046267464395:True:=⟨⟩
theorem tw13414751484162172651:True:=⟨⟩
theorem tw6930922309994317579:True:=⟨⟩
theorem tw16043191931148773131:True:=⟨⟩
theorem tw2003959694561109867:True:=⟨⟩
theorem tw4689854250323503979:True:=⟨⟩
theorem tw6818462824164940683:True:=⟨⟩
theorem tw10015464627544443819:True:=⟨⟩
theorem tw6260403600150886315:True:=⟨⟩
theorem tw15936089497604290475:True:=⟨⟩
theorem tw12352088005781408747:True:=⟨⟩
theorem tw3347799783956581452:True:=⟨⟩
theorem tw8974606386255400044:True:=⟨⟩
theorem tw14722499709439579244:True:=⟨⟩
theorem tw6945392232614938732:True:=⟨⟩
theorem tw6112159791687407756:True:=⟨⟩
theorem tw5255881008884894924:True:=⟨⟩
theorem tw2348874300266036460:True:=⟨⟩
theorem tw16477728165901196524:True:=⟨⟩
theorem tw3853984223472343340:True:=⟨⟩
theorem tw9460808973737893260:True:=⟨⟩
theorem tw15801314090354997676:True:=⟨⟩
theorem tw12441508304260183564:True:=⟨⟩
theorem tw11535612106816065100:True:=⟨⟩
theorem tw251843238756538988:True:=⟨⟩
theorem tw8497569825137960588:True:=⟨⟩
theorem tw7378717714120261260:True:=⟨⟩
theorem tw146182742966108844:True:=⟨⟩
theorem tw239077094886104780:True:=⟨⟩
theorem tw3803504720377376460:True:=⟨⟩
theorem tw1659113205300627180:True:=⟨⟩
theorem tw6342831794637532908:True:=⟨⟩
theorem tw2579260507389390636:True:=⟨⟩
theorem tw12218050034383652716:True:=⟨⟩
theorem tw12181156688141781900:True:=⟨⟩
theorem tw1664349661947129772:True:=⟨⟩
theorem tw12037568242482610092:True:=⟨⟩
theorem tw16452621369941556204:True:=⟨⟩
theorem tw13224291627861680141:True:=⟨⟩
theorem tw1307485416640610445:True:=⟨⟩
theorem tw5808514046508010637:True:=⟨⟩
theorem tw3108190943928798381:True:=⟨⟩
theorem tw999317610459491501:True:=⟨⟩
theorem tw8497799064182187213:True:=⟨⟩
theorem tw16459845964149879021:True:=⟨⟩
theorem tw2506249202477241613:True:=⟨⟩
theorem tw3453707541583699277:True:=⟨⟩
theorem tw12122589477053020493:True:=⟨⟩
theorem tw14680200897581328749:True:=⟨⟩
theorem tw4136971797176421773:True:=⟨⟩
theorem tw16078525010739221901:True:=⟨⟩
theorem tw12858822821717239181:True:=⟨⟩
theorem tw985687760619612589:True:=⟨⟩
theorem tw3463960966173402637:True:=⟨⟩
theorem tw11717692016568939021:True:=⟨⟩
theorem tw8318604585271774765:True:=⟨⟩
theorem tw7862400983606532685:True:=⟨⟩
theorem tw9596706229393247853:True:=⟨⟩
theorem tw17588264522495957645:True:=⟨⟩
theorem tw14504638152251390637:True:=⟨⟩
theorem tw7100426555817020077:True:=⟨⟩
theorem tw8781574538216461997:True:=⟨⟩
theorem tw11570005241168330413:True:=⟨⟩
theorem tw11097709908377217837:True:=⟨⟩
theorem tw13134188467239236397:True:=⟨⟩
theorem tw5663392948844085101:True:=⟨⟩
theorem tw2038116536667279277:True:=⟨⟩
theorem tw12598893564234241965:True:=⟨⟩
theorem tw1858692663982183341:True:=⟨⟩
theorem tw14644758076149786541:True:=⟨⟩
theorem tw16735643602848252909:True:=⟨⟩
theorem tw1113278598387690477:True:=⟨⟩
theorem tw5515406789242615789:True:=⟨⟩
theorem tw14993584457144230926:True:=⟨⟩
theorem tw923155750195796110:True:=⟨⟩
theorem tw915229706045036686:True:=⟨⟩
theorem tw8644758694314927374:True:=⟨⟩
theorem tw4640428334142777646:True:=⟨⟩
theorem tw14090046071092837678:True:=⟨⟩
theorem tw7231945568709836078:True:=⟨⟩
theorem tw16462940605737337198:True:=⟨⟩
theorem tw7900399952470233454:True:=⟨⟩
theorem tw6829189057465874830:True:=⟨⟩
theorem tw17868148551370332590:True:=⟨⟩
theorem tw5930599215213092302:True:=⟨⟩
theorem tw17246061789271643598:True:=⟨⟩
theorem tw7526191588538938830:True:=⟨⟩
theorem tw5639070215461802478:True:=⟨⟩
theorem tw1498972368624005646:True:=⟨⟩
theorem tw17763413883786066446:True:=⟨⟩
theorem tw2770479679101961806:True:=⟨⟩
theorem tw8218743683641892430:True:=⟨⟩
theorem tw4323240105505903278:True:=⟨⟩
theorem tw10486653962962320078:True:=⟨⟩
theorem tw7302840742280672014:True:=⟨⟩
theorem tw15896466233271341870:True:=⟨⟩
theorem tw13153361421911761774:True:=⟨⟩
theorem tw2668782208426752910:True:=⟨⟩
theorem tw3010482621018504078:True:=⟨⟩
theorem tw13675218981435947950:True:=⟨⟩
theorem tw4937632034290698222:True:=⟨⟩
theorem tw9718225809689550830:True:=⟨⟩
theorem tw7767336021933017070:True:=⟨⟩
theorem tw4237745551282533358:True:=⟨⟩
theorem tw10230477894784831503:True:=⟨⟩
theorem tw7140824816397113359:True:=⟨⟩
theorem tw16547505522658208783:True:=⟨⟩
theorem tw1047902138906567727:True:=⟨⟩
theorem tw2067660972525233231:True:=⟨⟩
theorem tw17341629490469328015:True:=⟨⟩
theorem tw6633414074137109711:True:=⟨⟩
theorem tw12165011461094275279:True:=⟨⟩
theorem tw7705163657948799215:True:=⟨⟩
theorem tw11740024444938627311:True:=⟨⟩
theorem tw13715669174565262575:True:=⟨⟩
theorem tw9344876384775555375:True:=⟨⟩
theorem tw6256575270943450447:True:=⟨⟩
theorem tw3534232056005625199:True:=⟨⟩
theorem tw12834725760475833711:True:=⟨⟩
theorem tw11979104590823575919:True:=⟨⟩
theorem tw1670004241543301583:True:=⟨⟩
theorem tw3562358341276810703:True:=⟨⟩
theorem tw14815739905548016079:True:=⟨⟩
theorem tw473007536119809519:True:=⟨⟩
theorem tw8524179069459058255:True:=⟨⟩
theorem tw16983299296240007791:True:=⟨⟩
theorem tw6763512036055660175:True:=⟨⟩
theorem tw16376113521786193583:True:=⟨⟩
theorem tw4976167360494156463:True:=⟨⟩
theorem tw1184083369829556911:True:=⟨⟩
theorem tw11919564966351894191:True:=⟨⟩
theorem tw15599061224250524367:True:=⟨⟩
theorem tw10325999345202589423:True:=⟨⟩
theorem tw15564457056039235375:True:=⟨⟩
theorem tw17091496484097343311:True:=⟨⟩
theorem tw14756297180553347951:True:=⟨⟩
theorem tw17710134001479531375:True:=⟨⟩
theorem tw13751631270683732847:True:=⟨⟩
theorem tw12103813898485743503:True:=⟨⟩
theorem tw7461410330612124591:True:=⟨⟩
theorem tw8306476465897083855:True:=⟨⟩
theorem tw17139193961064964047:True:=⟨⟩
theorem tw12245638411394955215:True:=⟨⟩
theorem tw15336091407193903087:True:=⟨⟩
theorem tw14233807817423239151:True:=⟨⟩
theorem tw15619035135131025391:True:=⟨⟩
theorem tw17999297168161571856:True:=⟨⟩
theorem tw16966694231267039280:True:=⟨⟩
theorem tw17045025534601813072:True:=⟨⟩
theorem tw16455109923049502800:True:=⟨⟩
theorem tw5537724026524380272:True:=⟨⟩
theorem tw15678733456415062160:True:=⟨⟩
theorem tw17608221491697786032:True:=⟨⟩
theorem tw5596670424987859152:True:=⟨⟩
theorem tw13050905030345073872:True:=⟨⟩
theorem tw7217434970298546416:True:=⟨⟩
theorem tw11198840922645195024:True:=⟨⟩
theorem tw1765634743377538352:True:=⟨⟩
theorem tw10017563805307921712:True:=⟨⟩
theorem tw14888731016206721360:True:=⟨⟩
theorem tw13269988637908360560:True:=⟨⟩
theorem tw13492065115770782096:True:=⟨⟩
theorem tw10149477700297600400:True:=⟨⟩
theorem tw13049860559977464208:True:=⟨⟩
theorem tw7484771052468666800:True:=⟨⟩
theorem tw16380660282928871888:True:=⟨⟩
theorem tw13326553188419388880:True:=⟨⟩
theorem tw4549701211892030960:True:=⟨⟩
theorem tw7574670486659154448:True:=⟨⟩
theorem tw14513013085697995280:True:=⟨⟩
theorem tw9727532843798159952:True:=⟨⟩
theorem tw11940371818472176208:True:=⟨⟩
theorem tw3704446039250875056:True:=⟨⟩
theorem tw12450627983404688048:True:=⟨⟩
theorem tw1232499358419719888:True:=⟨⟩
theorem tw1299965481940311760:True:=⟨⟩
theorem tw10266935142306513648:True:=⟨⟩
theorem tw130000434223506160:True:=⟨⟩
theorem tw14269136291367230352:True:=⟨⟩
theorem tw12742014445872237456:True:=⟨⟩
theorem tw14726463574511095728:True:=⟨⟩
theorem tw17247192322374774736:True:=⟨⟩
theorem tw7015940065934148721:True:=⟨⟩
theorem tw3814914719766164593:True:=⟨⟩
theorem tw12056640861497715889:True:=⟨⟩
theorem tw3980365897331789073:True:=⟨⟩
theorem tw8314800164082575633:True:=⟨⟩
theorem tw17709868694782051729:True:=⟨⟩
theorem tw8293953000906424753:True:=⟨⟩
theorem tw3559147986079282609:True:=⟨⟩
theorem tw10758123720830235089:True:=⟨⟩
theorem tw10244724787488221681:True:=⟨⟩
theorem tw8954960044547273201:True:=⟨⟩
theorem tw7780698093534555665:True:=⟨⟩
theorem tw224163682317184657:True:=⟨⟩
theorem tw14840866201516878513:True:=⟨⟩
theorem tw13580668602482146993:True:=⟨⟩
theorem tw2090965492713430737:True:=⟨⟩
theorem tw6538143841572267729:True:=⟨⟩
theorem tw15635085242874992369:True:=⟨⟩
theorem tw13132171126770834161:True:=⟨⟩
theorem tw16422049000008333073:True:=⟨⟩
theorem tw763861158551301937:True:=⟨⟩
theorem tw11002033794536182673:True:=⟨⟩
theorem tw1338134171645420433:True:=⟨⟩
theorem tw4119491192175536113:True:=⟨⟩
theorem tw15545817923633110001:True:=⟨⟩
theorem tw2086233646585020401:True:=⟨⟩
theorem tw8947266821267549202:True:=⟨⟩
theorem tw7998102878060152914:True:=⟨⟩
theorem tw10744646292219442258:True:=⟨⟩
theorem tw16630329236128839762:True:=⟨⟩
theorem tw6605254690562432082:True:=⟨⟩
theorem tw14209548914971828306:True:=⟨⟩
theorem tw6082446677730104466:True:=⟨⟩
theorem tw11126335579297941714:True:=⟨⟩
theorem tw10326723398183962834:True:=⟨⟩
theorem tw1587299571507160274:True:=⟨⟩
theorem tw2166615375591745778:True:=⟨⟩
theorem tw8698713685684159762:True:=⟨⟩
theorem tw16620560062499704082:True:=⟨⟩
theorem tw8542038193838746962:True:=⟨⟩
theorem tw14038860888411667794:True:=⟨⟩
theorem tw13198138737076031858:True:=⟨⟩
theorem tw98449472899929458:True:=⟨⟩
theorem tw12739138955895906738:True:=⟨⟩
theorem tw5240481752210323890:True:=⟨⟩
theorem tw5360637903646377394:True:=⟨⟩
theorem tw9845087185795630514:True:=⟨⟩
theorem tw1168796965695861202:True:=⟨⟩
theorem tw3916261408631677394:True:=⟨⟩
theorem tw2001871858678588882:True:=⟨⟩
theorem tw7911301602907781586:True:=⟨⟩
theorem tw9941481903176587826:True:=⟨⟩
theorem tw15239685286828142130:True:=⟨⟩
theorem tw10687595587809010290:True:=⟨⟩
theorem tw7988757140613265042:True:=⟨⟩
theorem tw2451492761335134866:True:=⟨⟩
theorem tw5145699830551230130:True:=⟨⟩
theorem tw7335393006811494130:True:=⟨⟩
theorem tw1662796553125626738:True:=⟨⟩
theorem tw7065715527007023986:True:=⟨⟩
theorem tw16935213034262820722:True:=⟨⟩
theorem tw15663678410323767218:True:=⟨⟩
theorem tw9069605685968395186:True:=⟨⟩
theorem tw14365340988473557970:True:=⟨⟩
theorem tw1196709964578546642:True:=⟨⟩
theorem tw4447367476002359282:True:=⟨⟩
theorem tw9824576992235320306:True:=⟨⟩
theorem tw14838209060770905139:True:=⟨⟩
theorem tw7398617139001507987:True:=⟨⟩
theorem tw10406117018299638995:True:=⟨⟩
theorem tw6002925989189555443:True:=⟨⟩
theorem tw15728982920502755571:True:=⟨⟩
theorem tw15335935568956190995:True:=⟨⟩
theorem tw2447708900338816339:True:=⟨⟩
theorem tw2806515734265045363:True:=⟨⟩
theorem tw12656468033298999699:True:=⟨⟩
theorem tw9873602697175379347:True:=⟨⟩
theorem tw9009709472007337395:True:=⟨⟩
theorem tw2097726683840041395:True:=⟨⟩
theorem tw5917985396266843635:True:=⟨⟩
theorem tw3181064431975751155:True:=⟨⟩
theorem tw16043274951224038931:True:=⟨⟩
theorem tw18221126521661699699:True:=⟨⟩
theorem tw11476391402733863635:True:=⟨⟩
theorem tw13681625931514911507:True:=⟨⟩
theorem tw13762064660295556883:True:=⟨⟩
theorem tw5895559835615866707:True:=⟨⟩
theorem tw1550704131304011603:True:=⟨⟩
theorem tw11880151240715409267:True:=⟨⟩
theorem tw17995970112141960051:True:=⟨⟩
theorem tw11893212368199214995:True:=⟨⟩
theorem tw14338310697268864947:True:=⟨⟩
theorem tw2050941482221729779:True:=⟨⟩
theorem tw5631775554126643187:True:=⟨⟩
theorem tw6989624089249792052:True:=⟨⟩
theorem tw8573082032833437780:True:=⟨⟩
theorem tw15001796274495989844:True:=⟨⟩
theorem tw3860563661973276820:True:=⟨⟩
theorem tw1171337004659109012:True:=⟨⟩
theorem tw4652944622212838612:True:=⟨⟩
theorem tw15238687670487032052:True:=⟨⟩
theorem tw2345703344326954228:True:=⟨⟩
theorem tw14133365215475890420:True:=⟨⟩
theorem tw5312008550210225428:True:=⟨⟩
theorem tw6933995603555461428:True:=⟨⟩
theorem tw17825693574408642900:True:=⟨⟩
theorem tw17423112081318967796:True:=⟨⟩
theorem tw17903513493263313428:True:=⟨⟩
theorem tw16042064392088724020:True:=⟨⟩
theorem tw17327514124399260212:True:=⟨⟩
theorem tw13223528453635787316:True:=⟨⟩
theorem tw5639032372384023124:True:=⟨⟩
theorem tw17915339779956311668:True:=⟨⟩
theorem tw15708310676110077556:True:=⟨⟩
theorem tw4218772432046495412:True:=⟨⟩
theorem tw3264730224754951892:True:=⟨⟩
theorem tw6646967247980760820:True:=⟨⟩
theorem tw10486327165079258900:True:=⟨⟩
theorem tw11770330150952801140:True:=⟨⟩
theorem tw10816157606435237748:True:=⟨⟩
theorem tw17362491288827509620:True:=⟨⟩
theorem tw630377780139861908:True:=⟨⟩
theorem tw1217313697843095444:True:=⟨⟩
theorem tw3889453321339745172:True:=⟨⟩
theorem tw1336276122863041492:True:=⟨⟩
theorem tw10205452528238787572:True:=⟨⟩
theorem tw15408158174134426709:True:=⟨⟩
theorem tw16988769617055673493:True:=⟨⟩
theorem tw14584964809236127925:True:=⟨⟩
theorem tw9073026727212028117:True:=⟨⟩
theorem tw16768825236975139029:True:=⟨⟩
theorem tw4704614946543384789:True:=⟨⟩
theorem tw17767005795511601397:True:=⟨⟩
theorem tw4583592981773182197:True:=⟨⟩
theorem tw8549557735514075381:True:=⟨⟩
theorem tw9358487743974943029:True:=⟨⟩
theorem tw3660227408924132757:True:=⟨⟩
theorem tw1360446605214244309:True:=⟨⟩
theorem tw8999010596559389173:True:=⟨⟩
theorem tw13568851876107918869:True:=⟨⟩
theorem tw1993930615797286453:True:=⟨⟩
theorem tw15001578467226453589:True:=⟨⟩
theorem tw883028048842217173:True:=⟨⟩
theorem tw2042812771900159701:True:=⟨⟩
theorem tw11996694012963242869:True:=⟨⟩
theorem tw15704471640882351061:True:=⟨⟩
theorem tw18185495264232875989:True:=⟨⟩
theorem tw4783725888629277685:True:=⟨⟩
theorem tw17106031793038978102:True:=⟨⟩
theorem tw14768574488007840918:True:=⟨⟩
theorem tw12973800899536628886:True:=⟨⟩
theorem tw6850085358100409494:True:=⟨⟩
theorem tw10855766797091442870:True:=⟨⟩
theorem tw7410982982500707574:True:=⟨⟩
theorem tw1767016829996424438:True:=⟨⟩
theorem tw16427094041170117974:True:=⟨⟩
theorem tw17876502953316648278:True:=⟨⟩
theorem tw5018156051832625494:True:=⟨⟩
theorem tw10398572094743503190:True:=⟨⟩
theorem tw50302670709095830:True:=⟨⟩
theorem tw17854898307913506230:True:=⟨⟩
theorem tw17047778435738756534:True:=⟨⟩
theorem tw3486501903864104438:True:=⟨⟩
theorem tw12620873639184724470:True:=⟨⟩
theorem tw13518918588380813878:True:=⟨⟩
theorem tw3105223895639314998:True:=⟨⟩
theorem tw15423305558519644758:True:=⟨⟩
theorem tw17851249484459720278:True:=⟨⟩
theorem tw12380456179950054998:True:=⟨⟩
theorem tw11253111922101067382:True:=⟨⟩
theorem tw17312681080360331894:True:=⟨⟩
theorem tw15882907351530861174:True:=⟨⟩
theorem tw16601548466381151926:True:=⟨⟩
theorem tw9822385395653545718:True:=⟨⟩
theorem tw6178589220615376630:True:=⟨⟩
theorem tw17180034112131587830:True:=⟨⟩
theorem tw10755242053360949014:True:=⟨⟩
theorem tw11373458981564143382:True:=⟨⟩
theorem tw12888910505534468918:True:=⟨⟩
theorem tw14538599102785687382:True:=⟨⟩
theorem tw16775048244702548822:True:=⟨⟩
theorem tw4504601268159202230:True:=⟨⟩
theorem tw17069139463969468374:True:=⟨⟩
theorem tw15087462376342621174:True:=⟨⟩
theorem tw11725816617309132790:True:=⟨⟩
theorem tw5130961232315672566:True:=⟨⟩
theorem tw8950359256324544535:True:=⟨⟩
theorem tw14055011702273479735:True:=⟨⟩
theorem tw2699165756076017751:True:=⟨⟩
theorem tw12295629756820797559:True:=⟨⟩
theorem tw2076382031637159095:True:=⟨⟩
theorem tw8397336748872670423:True:=⟨⟩
theorem tw11369195262091790647:True:=⟨⟩
theorem tw16418146381656985911:True:=⟨⟩
theorem tw15847301165633974583:True:=⟨⟩
theorem tw14678856927811424567:True:=⟨⟩
theorem tw15571256523836498295:True:=⟨⟩
theorem tw9496950886163386775:True:=⟨⟩
theorem tw6771689187591580055:True:=⟨⟩
theorem tw15925025513195441623:True:=⟨⟩
theorem tw3801409164484232663:True:=⟨⟩
theorem tw12537918544125174263:True:=⟨⟩
theorem tw11910305086280165879:True:=⟨⟩
theorem tw14873040147898812951:True:=⟨⟩
theorem tw4940570394273812023:True:=⟨⟩
theorem tw370676477312423479:True:=⟨⟩
theorem tw7263474817208874583:True:=⟨⟩
theorem tw16250937002786505335:True:=⟨⟩
theorem tw17706040910144678583:True:=⟨⟩
theorem tw12624603098886322871:True:=⟨⟩
theorem tw7870861736601893591:True:=⟨⟩
theorem tw2572319526075212535:True:=⟨⟩
theorem tw8297598021360667383:True:=⟨⟩
theorem tw15951415748874674967:True:=⟨⟩
theorem tw13333989202622066455:True:=⟨⟩
theorem tw4260231146559096631:True:=⟨⟩
theorem tw1147382522893113175:True:=⟨⟩
theorem tw15505012255244439415:True:=⟨⟩
theorem tw15736072214880065463:True:=⟨⟩
theorem tw17997308914499903415:True:=⟨⟩
theorem tw9478068286008966103:True:=⟨⟩
theorem tw10826711781661727703:True:=⟨⟩
theorem tw8033272568407022583:True:=⟨⟩
theorem tw17137506240606171127:True:=⟨⟩
theorem tw1881006908698697784:True:=⟨⟩
theorem tw5755054532501578808:True:=⟨⟩
theorem tw1783588582360624184:True:=⟨⟩
theorem tw12649420042325892184:True:=⟨⟩
theorem tw9641571637529816152:True:=⟨⟩
theorem tw17122364750280064088:True:=⟨⟩
theorem tw5029958303603465336:True:=⟨⟩
theorem tw12651849035614922936:True:=⟨⟩
theorem tw13887636661215015160:True:=⟨⟩
theorem tw5476886721416118520:True:=⟨⟩
theorem tw15695215379797247256:True:=⟨⟩
theorem tw5466888496240658712:True:=⟨⟩
theorem tw398233935612651800:True:=⟨⟩
theorem tw1294781481460799800:True:=⟨⟩
theorem tw10435743809417320760:True:=⟨⟩
theorem tw11053635898108303704:True:=⟨⟩
theorem tw9280259594301261176:True:=⟨⟩
theorem tw12502774532769073528:True:=⟨⟩
theorem tw8213085874231335320:True:=⟨⟩
theorem tw2546740683675997688:True:=⟨⟩
theorem tw1302543369152861720:True:=⟨⟩
theorem tw8371563882277972504:True:=⟨⟩
theorem tw3440463503641015896:True:=⟨⟩
theorem tw12977937974381591160:True:=⟨⟩
theorem tw10428529018977646200:True:=⟨⟩
theorem tw372516167717968568:True:=⟨⟩
theorem tw14340973141940866776:True:=⟨⟩
theorem tw13029543697433137912:True:=⟨⟩
theorem tw3525865342591513336:True:=⟨⟩
theorem tw7462345539275830072:True:=⟨⟩
theorem tw1785214021595189144:True:=⟨⟩
theorem tw12920744666112646040:True:=⟨⟩
theorem tw15715527478369812376:True:=⟨⟩
theorem tw18101529030680598456:True:=⟨⟩
theorem tw5684701301999147033:True:=⟨⟩
theorem tw1528646596139214873:True:=⟨⟩
theorem tw3762815993037916217:True:=⟨⟩
theorem tw15254752647144686649:True:=⟨⟩
theorem tw1550090224566817881:True:=⟨⟩
theorem tw2796210301262976153:True:=⟨⟩
theorem tw6509049668079588601:True:=⟨⟩
theorem tw8589984655188908313:True:=⟨⟩
theorem tw14237901811683028249:True:=⟨⟩
theorem tw14433437562470888729:True:=⟨⟩
theorem tw10609203315575728441:True:=⟨⟩
theorem tw7084759635209991481:True:=⟨⟩
theorem tw5305102650654546233:True:=⟨⟩
theorem tw11866593506861612345:True:=⟨⟩
theorem tw17465238956627624281:True:=⟨⟩
theorem tw257528278033995097:True:=⟨⟩
theorem tw5791110170963599705:True:=⟨⟩
theorem tw14570493029251054937:True:=⟨⟩
theorem tw9208020335207308665:True:=⟨⟩
theorem tw5955296251448354169:True:=⟨⟩
theorem tw18025012044505462233:True:=⟨⟩
theorem tw14956301848137130489:True:=⟨⟩
theorem tw9764473951028488825:True:=⟨⟩
theorem tw9886015037432677049:True:=⟨⟩
theorem tw2960854411014655673:True:=⟨⟩
theorem tw2473997355739718361:True:=⟨⟩
theorem tw3553979008895000313:True:=⟨⟩
theorem tw18330454835819770617:True:=⟨⟩
theorem tw1375327829379681049:True:=⟨⟩
theorem tw5943212261428809497:True:=⟨⟩
theorem tw10014961422293128985:True:=⟨⟩
theorem tw16038848742210201433:True:=⟨⟩
theorem tw7336659003407987545:True:=⟨⟩
theorem tw17227633265800169401:True:=⟨⟩
theorem tw10976917134745645049:True:=⟨⟩
theorem tw13914023274455889946:True:=⟨⟩
theorem tw13080740447825600570:True:=⟨⟩
theorem tw13857033748345982042:True:=⟨⟩
theorem tw16213542042778554490:True:=⟨⟩
theorem tw12250620927947052186:True:=⟨⟩
theorem tw10012608290426351770:True:=⟨⟩
theorem tw11723729431722548442:True:=⟨⟩
theorem tw12754996813112416538:True:=⟨⟩
theorem tw14923441666080610618:True:=⟨⟩
theorem tw13427971409383995706:True:=⟨⟩
theorem tw741069009568873786:True:=⟨⟩
theorem tw8671644178176229690:True:=⟨⟩
theorem tw8858140337223917914:True:=⟨⟩
theorem tw16888778031168135578:True:=⟨⟩
theorem tw8404041656318304666:True:=⟨⟩
theorem tw766738408450942362:True:=⟨⟩
theorem tw1246653387426609658:True:=⟨⟩
theorem tw6426245383123662330:True:=⟨⟩
theorem tw17580289079720953402:True:=⟨⟩
theorem tw10473811015606075994:True:=⟨⟩
theorem tw8813415605953455706:True:=⟨⟩
theorem tw12219160835379628666:True:=⟨⟩
theorem tw16272741821977431738:True:=⟨⟩
theorem tw14169055421917351610:True:=⟨⟩
theorem tw12797381162119649978:True:=⟨⟩
theorem tw862852585836502714:True:=⟨⟩
theorem tw11491501761727939290:True:=⟨⟩
theorem tw11023261127441215226:True:=⟨⟩
theorem tw17685743948317629306:True:=⟨⟩
theorem tw18363543876800591738:True:=⟨⟩
theorem tw9785955007714714490:True:=⟨⟩
theorem tw14312597372985575386:True:=⟨⟩
theorem tw5260857757852564442:True:=⟨⟩
theorem tw11024262012744049658:True:=⟨⟩
theorem tw2178084995835737082:True:=⟨⟩
theorem tw14989987679128714234:True:=⟨⟩
theorem tw13156463071530334267:True:=⟨⟩
theorem tw8985851268650045563:True:=⟨⟩
theorem tw13923919003010831483:True:=⟨⟩
theorem tw15665901837564256379:True:=⟨⟩
theorem tw4354725094782673019:True:=⟨⟩
theorem tw16764032156305178747:True:=⟨⟩
theorem tw11714198336832064667:True:=⟨⟩
theorem tw2469956827015116987:True:=⟨⟩
theorem tw6885692626897480923:True:=⟨⟩
theorem tw7755751568664110363:True:=⟨⟩
theorem tw138202974344952091:True:=⟨⟩
theorem tw1895851418166309179:True:=⟨⟩
theorem tw17984336738353185115:True:=⟨⟩
theorem tw15194388812777629019:True:=⟨⟩
theorem tw6936255350785560923:True:=⟨⟩
theorem tw12024905867314307451:True:=⟨⟩
theorem tw8900937734086356347:True:=⟨⟩
theorem tw2645502784384432507:True:=⟨⟩
theorem tw16187573963072293275:True:=⟨⟩
theorem tw5657819467063741851:True:=⟨⟩
theorem tw2728292097620407739:True:=⟨⟩
theorem tw10053711662525749723:True:=⟨⟩
theorem tw8510801245089226235:True:=⟨⟩
theorem tw5488113527092572667:True:=⟨⟩
theorem tw2087838833007163:True:=⟨⟩
theorem tw10603212372327851579:True:=⟨⟩
theorem tw5612549586789067323:True:=⟨⟩
theorem tw9776355818002090651:True:=⟨⟩
theorem tw2754716941207224987:True:=⟨⟩
theorem tw15451887849724833435:True:=⟨⟩
theorem tw12697462496775124667:True:=⟨⟩
theorem tw864894912533918395:True:=⟨⟩
theorem tw12125287539517347547:True:=⟨⟩
theorem tw9890306928074621723:True:=⟨⟩
theorem tw13747975549834444571:True:=⟨⟩
theorem tw1660251702933738267:True:=⟨⟩
theorem tw2056530207640183579:True:=⟨⟩
theorem tw939819406314939195:True:=⟨⟩
theorem tw12032131574615491387:True:=⟨⟩
theorem tw16491073033377270619:True:=⟨⟩
theorem tw2279477596089903963:True:=⟨⟩
theorem tw10991740993127362427:True:=⟨⟩
theorem tw9268816660916221883:True:=⟨⟩
theorem tw13976359484118605787:True:=⟨⟩
theorem tw9655704788800715771:True:=⟨⟩
theorem tw14185995411300269051:True:=⟨⟩
theorem tw1469709738666840059:True:=⟨⟩
theorem tw17323648987890821180:True:=⟨⟩
theorem tw13668235968196993084:True:=⟨⟩
theorem tw2518024986757610588:True:=⟨⟩
theorem tw11328472402022286428:True:=⟨⟩
theorem tw5130986087938214012:True:=⟨⟩
theorem tw6765621895828319452:True:=⟨⟩
theorem tw11795556080537696476:True:=⟨⟩
theorem tw902846031457999100:True:=⟨⟩
theorem tw6250934673332716828:True:=⟨⟩
theorem tw15762093473809177916:True:=⟨⟩
theorem tw15818502789069535548:True:=⟨⟩
theorem tw764609422361850204:True:=⟨⟩
theorem tw17613126200649955740:True:=⟨⟩
theorem tw18332959231597755804:True:=⟨⟩
theorem tw7472049784940985756:True:=⟨⟩
theorem tw15482014125010323932:True:=⟨⟩
theorem tw6465939355466392028:True:=⟨⟩
theorem tw12428499644955338236:True:=⟨⟩
theorem tw6022387092619865628:True:=⟨⟩
theorem tw10037465639661328924:True:=⟨⟩
theorem tw382194386648788508:True:=⟨⟩
theorem tw13939295188760933948:True:=⟨⟩
theorem tw11725178175289149020:True:=⟨⟩
theorem tw17713398671695927900:True:=⟨⟩
theorem tw13150765992872205980:True:=⟨⟩
theorem tw4829281790794670780:True:=⟨⟩
theorem tw12356254616578551484:True:=⟨⟩
theorem tw3186853743180517116:True:=⟨⟩
theorem tw6956340231772635932:True:=⟨⟩
theorem tw1840574114412947292:True:=⟨⟩
theorem tw18039734141484179324:True:=⟨⟩
theorem tw7182609936308911068:True:=⟨⟩
theorem tw10471358406816321500:True:=⟨⟩
theorem tw5228077772457103356:True:=⟨⟩
theorem tw3496241176631467037:True:=⟨⟩
theorem tw11933543923782135901:True:=⟨⟩
theorem tw9820606471043102813:True:=⟨⟩
theorem tw17259112068116637789:True:=⟨⟩
theorem tw17951940599585558653:True:=⟨⟩
theorem tw16226835756896488605:True:=⟨⟩
theorem tw401983694259859677:True:=⟨⟩
theorem tw16906014559333645533:True:=⟨⟩
theorem tw14196543315248471357:True:=⟨⟩
theorem tw13379612070635811165:True:=⟨⟩
theorem tw10675274002393104829:True:=⟨⟩
theorem tw10909547521323627005:True:=⟨⟩
theorem tw11198858224819154493:True:=⟨⟩
theorem tw9207923021641713245:True:=⟨⟩
theorem tw5631376045092765277:True:=⟨⟩
theorem tw14465155273398156893:True:=⟨⟩
theorem tw1967168284404529789:True:=⟨⟩
theorem tw351253105654735581:True:=⟨⟩
theorem tw11425249494375131933:True:=⟨⟩
theorem tw14276283820430075709:True:=⟨⟩
theorem tw18077081319160035133:True:=⟨⟩
theorem tw17009400693340390205:True:=⟨⟩
theorem tw12767774346679512925:True:=⟨⟩
theorem tw15975205318444254077:True:=⟨⟩
theorem tw16395605894757868445:True:=⟨⟩
theorem tw10795519432138414013:True:=⟨⟩
theorem tw10823841096352263133:True:=⟨⟩
theorem tw4802457202672614397:True:=⟨⟩
theorem tw5060872844816355358:True:=⟨⟩
theorem tw16854359450483766302:True:=⟨⟩
theorem tw12404710504155862078:True:=⟨⟩
theorem tw5766361842633922622:True:=⟨⟩
theorem tw9538490197446294590:True:=⟨⟩
theorem tw15216988719373964446:True:=⟨⟩
theorem tw14792183482380867774:True:=⟨⟩
theorem tw3418788497500368062:True:=⟨⟩
theorem tw17994369186405489886:True:=⟨⟩
theorem tw1567132303074410750:True:=⟨⟩
theorem tw2275107412381454590:True:=⟨⟩
theorem tw12389696008052271390:True:=⟨⟩
theorem tw5652227893828680990:True:=⟨⟩
theorem tw11824262593080144190:True:=⟨⟩
theorem tw9284193843175189822:True:=⟨⟩
theorem tw1045790535474345310:True:=⟨⟩
theorem tw12635609191534164318:True:=⟨⟩
theorem tw7749789244882617726:True:=⟨⟩
theorem tw6527008188506517886:True:=⟨⟩
theorem tw4169754054477277566:True:=⟨⟩
theorem tw9454296555808362910:True:=⟨⟩
theorem tw3346035731533254078:True:=⟨⟩
theorem tw3349798316172576222:True:=⟨⟩
theorem tw6786056265660830174:True:=⟨⟩
theorem tw3969560731923318270:True:=⟨⟩
theorem tw16397471698038707710:True:=⟨⟩
theorem tw7881779266579428894:True:=⟨⟩
theorem tw12584105966126286398:True:=⟨⟩
theorem tw18106432371689943646:True:=⟨⟩
theorem tw1236815845223333470:True:=⟨⟩
theorem tw17105403482658572926:True:=⟨⟩
theorem tw15192066106557043358:True:=⟨⟩
theorem tw1752743023387466430:True:=⟨⟩
theorem tw7585786932106013438:True:=⟨⟩
theorem tw3962277817175292734:True:=⟨⟩
theorem tw6033520929254999934:True:=⟨⟩
theorem tw3359414166189961086:True:=⟨⟩
theorem tw9096574842424638366:True:=⟨⟩
theorem tw4140524501431030750:True:=⟨⟩
theorem tw10297634183587462142:True:=⟨⟩
theorem tw12919421384642059327:True:=⟨⟩
theorem tw11986824704644739135:True:=⟨⟩
theorem tw1117986937016525919:True:=⟨⟩
theorem tw14446589850045800575:True:=⟨⟩
theorem tw10448270508230253727:True:=⟨⟩
theorem tw5313500316222780607:True:=⟨⟩
theorem tw14979075415769806111:True:=⟨⟩
theorem tw13509822560483681599:True:=⟨⟩
theorem tw12612296696730253631:True:=⟨⟩
theorem tw1013242367024005503:True:=⟨⟩
theorem tw16320844514668040575:True:=⟨⟩
theorem tw7360374449178187167:True:=⟨⟩
theorem tw9036758592786291103:True:=⟨⟩
theorem tw478132010651033023:True:=⟨⟩
theorem tw4240250329917034975:True:=⟨⟩
theorem tw16134501675865821695:True:=⟨⟩
theorem tw15915189628551325215:True:=⟨⟩
theorem tw6965005015298187839:True:=⟨⟩
theorem tw10784390988803206751:True:=⟨⟩
theorem tw14017936208704403071:True:=⟨⟩
theorem tw1669839882358204063:True:=⟨⟩
theorem tw6375546108713542367:True:=⟨⟩
theorem tw1019422187572403999:True:=⟨⟩
theorem tw1097713730900139807:True:=⟨⟩
theorem tw11548315493712572223:True:=⟨⟩
theorem tw12738770794317084479:True:=⟨⟩
theorem tw7750648485803476831:True:=⟨⟩
theorem tw4612329326506278751:True:=⟨⟩
theorem tw13729069747467111295:True:=⟨⟩
theorem tw5908929943080659839:True:=⟨⟩
theorem tw8279357826631416735:True:=⟨⟩
theorem tw15940755939170263039:True:=⟨⟩
theorem tw6322198312660885503:True:=⟨⟩
theorem tw5419324358661729721:True:=⟨⟩
end PySem.W.Fast
open PySem PySem.W PyProof.Rows
set_option maxRecDepth 100000 in
set_option maxHeartbeats 0 in
theorem PySem.Challenge.cw_mendfield_k36_words_checked_holds : PySem.Challenge.rw_mendfield_k36_words_checked.Holds := by
 w_on;o_law;k_head;(case hw=>w_witness2)
 k_fill
 refine HK36.walk (l:=PySem.Challenge.rw_mendfield_k36_words_checked) rfl rfl (λw h Y=>⟨PySem.W.km_in_of Y,PySem.W.km_tabs_of Y⟩) ?C ?F
 case C =>
  intro w h hX
  repeat' (first | exact List.forall_mem_nil _ | refine List.forall_mem_cons.mpr ⟨?_,?_⟩)
  all_goals first | (refine' HK36.aD0 hX ?a ?b ?l ?lk ?lp ?n ?e;(case a=>k_is);(case b=>k_is);(case l=>k_is);(case lk=>k_is);(case lp=>first | rfl | with_unfolding_all rfl);(case n=>kernel_rfl);(case e=>kernel_rfl)) | (refine' HK36.aI1 hX ?a ?b ?l ?lk ?lp ?n ?e;(case a=>k_is);(case b=>k_is);(case l=>k_is);(case lk=>k_is);(case lp=>first | rfl | with_unfolding_all rfl);(case n=>kernel_rfl);(case e=>kernel_rfl))
 case F =>
  intro w mg fa h KX G wI
  apply HK36.all_mk KX G wI
  iterate 232 (k_is)
  iterate 67 (apply L2.Aw<;>k_is)
  iterate 4 (k_is)
  (first | rfl | with_unfolding_all rfl)
  (kernel_rfl)
  iterate 4 (k_is)
  (first | rfl | with_unfolding_all rfl)
  (kernel_rfl)
  iterate 7 (k_is)
  iterate 11 (first | k_is | rfl | decide)
  (k_exc)
  (first | k_is | rfl | decide)
  (decide)
