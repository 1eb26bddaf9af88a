import PyProof.Rows.All
import Wide.All
import OpenK.AllK
import Wide.FinOn
import Lean
import PyProof.EqAt
import PyProof.EqKinds
import PyProof.TupleCall
import PyProof.NeKinds
import PyProof.Rows.Range3
import PyProof.FitsBits
import PyProof.StationsW
import PyProof.NsDelKeeps
import PyProof.Rows.CatchOwn
import KE.KTryMore
import PyProof.ExcArgsOwn
import PyProof.ExcAttrAll.ValueError
import OpenK.KOwn
import PyProof.ZipIter
import PyProof.WalksEnum
import PyProof.EnumMake
import KE.KIntText
import PyProof.Conv_int
import PyProof.StrWalks
import PyProof.StrLawsFirst
import KE.KLam
import KE.KNestM
import KE.KRevIter
import PyProof.ListRange
import PyProof.Rows.SortWalk
import PyProof.Rows.SetFrom
import PyProof.FactsAll.set
import PyProof.Rows.SeqMore
import PyProof.FString
import PySem.Challenge.RW_mendfield_k33_code_by_roots
open Array renaming append_assoc→oN,length_toList→qZ,getElem?_eq_some_iff→JC,toList_append→TV
open Bool renaming and_eq_true→dz,false_ne_true→ig,and_true→lW,or_true→l9,true_and→nu,false_eq_true→nv,eq_iff_iff→rm,false_and→u0,or_false→u9,not_false→y8,not_true→y9,true_or→za,false_or→zb
open Classical renaming byContradiction→TH
open Decidable renaming byContradiction→T6
open False renaming elim→eC
open ForInStep renaming yield→Cq
open Int renaming natAbs_natCast→gj,emod_nonneg→iY,toNat_natCast→jN,emod_lt_of_pos→lY,natCast_emod→ny,toNat→rp,toNat_of_nonneg→vn,natCast_add→yV,natCast_mul→zc,emod_eq_of_lt→CH,natCast_nonneg→Jw,zero_add→JP,fdiv_eq_ediv_of_nonneg→Tw
open List renaming range→aJ,getElem?_eq_getElem→aT,getD_eq_getElem?_getD→aU,replicate→aX,mem_cons→bR,length_map→bY,getElem?_map→cP,mem_append→cS,length_range→de,all_eq_true→du,size_toArray→dy,mem_map→dA,mem_range→dH,mem_append_right→dM,map_cons→dN,all_cons→dO,mem_append_left→eB,map_map→eH,append_assoc→eP,length_cons→eX,lookup_cons→eY,getElem_mem→fh,mem_cons_of_mem→fM,append_nil→fO,zipWith→gi,not_mem_nil→ij,length_append→iX,getElem?_eq_some_iff→jr,nodup_cons→js,length_replicate→jM,mem_singleton→jP,map_append→jQ,getElem?_eq_none→jR,mem_cons_self→kj,lookup→kl,getElem_of_mem→kq,getElem?_range→kr,length_take→lH,map_nil→lM,cons.inj→lU,perm_append_comm→lV,set_cons_zero→lZ,set_cons_succ→l8,range'→nz,mem_filter→oM,getElem?_set_ne→oO,length_set→oR,replicate_succ→oS,nil_append→oU,take_add_one→oX,all_map→oY,mem_of_getElem?→q9,flatten_cons→rj,all_nil→rn,getElem?_replicate→u6,length_drop→u7,foldl_cons→va,take_length→ve,mem_replicate→vg,map_congr_left→vh,cons_append→vi,getElem_map→vo,getElem?_cons_zero→vq,getElem?_cons_succ→vt,filterMap_cons→yE,getElem?_set_self→yF,of_mem_zip→yG,getElem?_append_right→yI,append_eq_nil_iff→yP,mem_of_mem_drop→yQ,mem_of_mem_take→yR,getElem?_mapIdx→yT,length_nil→y6,cons.injEq→y7,length→Cg,getElem?_append_left→Ci,append_inj→Cv,getElem?_take→Cz,map→CA,map_zipWith→CB,mem_or_eq_of_mem_set→CC,mem_map_of_mem→CF,ext_getElem→CG,length_zipWith→CJ,contains_iff_mem→CK,getElem?_zipWith→CL,pairwise_iff_getElem→CN,length_range'→CO,map_replicate→CQ,Sublist.refl→JG,set_set→JH,filter_eq_self→JI,take_of_length_le→JJ,map_drop→JL,map_take→JM,ext_getElem?→JN,drop_eq_nil_of_le→JO,drop_eq_getElem_cons→JR,length_zip→JS,foldl_append→JT,range_succ→JU,getElem_range→JW,length_filter_le→JX,mem_filterMap→Tv,length_singleton→Tx,set_eq_of_length_le→TM,eq_nil_iff_forall_not_mem→TN,filter_append→TQ,range_succ_eq_map→TR,mem_of_find?_eq_some→TU,zip_cons_cons→TX,reverse_append→TY,sublist_cons_self→TZ,findIdx_lt_length_of_exists→T1,findIdx?_eq_some_iff_getElem→T3,findIdx?_eq_none_iff→T4,countP_eq_length_filter→T5,range_eq_range'→T7
open Nat renaming le_refl→bG,lt_of_lt_of_le→cq,ne_of_lt→eA,le_trans→eO,lt_irrefl→gh,shiftLeft_eq→jO,xor_zero→kn,mul_comm→lK,testBit_xor→lN,lt_of_le_of_lt→lQ,zero_le→nr,zero_xor→nt,pow_succ→oV,xor_assoc→oW,mul_assoc→rk,two_pow_pos→vb,not_lt→vj,mul_mod→vk,mod_lt→vm,succ.inj→vp,le_of_lt→yD,add_comm→yK,pow_le_pow_right→yL,eq_of_testBit_eq→yM,testBit_zero→yN,xor_self→yO,min_eq_left→yS,mod_eq_of_lt→yU,sub_self→yW,le_of_succ_le→yX,le_of_eq→Ce,lt_succ_self→Cf,log2_lt→Cm,testBit_lt_two_pow→Cn,testBit_succ→Co,strongRecOn→Cp,min_self→Cw,mod_add_mod→CD,zero_add→CI,one_shiftLeft→CP,ne_of_gt→Jv,le_of_not_lt→Jy,xor_comm→Jz,testBit_and→JA,sub_zero→JF,add_assoc→JK,mod_mod→JQ,lt_or_ge→JV,testBit_eq_decide_div_mod_eq→Tz,shiftLeft_xor_distrib→TB,mul_lt_mul_right→TC,testBit_shiftLeft→TF,shiftRight_eq_div_pow→TK
open Ne renaming symm→dU
open Option renaming some.inj→cX,getD_none→rh,getD_some→vd,some.injEq→vv,isSome_iff_exists→yH,map_some→yY,map_none→yZ,map_eq_some_iff→Cy,bind_some→TL
open Or renaming inl→ay,inr→cA
open PyProof renaming Rows.callWith_type1→q0
open PySem renaming Heap.lt_size→bF,Value.ref→cj,Str.ofString→cH,Heap.get?_push_of_some→eG,PassesOwn.never→fi,Heap.get?_push_size→gU,Str.empty→km,Builtin.bitAnd→nk,Builtin.bitXor→nq,Value.int→oJ,Value.none→oK,Heap.get?_update_other→oQ,Heap.size_push→u5,Obj.mapSeq→yJ,Value.bool→Cd,Heap.get?_update_self→Cj,SeqAt.EqAt→Ck,Obj.data_mapFields→Cr,Value.builtin→Cs,Value.type.inj→Ct,Builtin.Str.strSliceIndices→Cu,NameKind.cell→CM,Builtin.List.listTooLong→Jx,Obj.isFreed_of_fields→JB,Heap.MadeExcOf→JE,Calls.Name_function_global→Tu
open Sum renaming inl→qX,inr→qY
open True renaming intro→q8
set_option Elab.async false
set_option linter.all false
set_option maxRecDepth 100000
local macro_rules | `(tactic| omega)=>`(tactic| lia)
namespace L2
open PySem PySem.Spec PyProof.Rows
noncomputable abbrev Key:=Sum Int Str
noncomputable def JY:Key->Value->Bool
 | .inl k,v=>Value.isInt k v
 | .inr x,v=>Value.isStrOf x v
noncomputable def T8(w:World):Key->Int
 | .inl k=>hashInt k
 | .inr x=>hashStr w x
theorem mf:∀{k:Key} {v:Value},JY k v=true->(∃i t,k=qX i/\v=oJ i t)\/(∃x t,k=qY x/\v=Value.str x t)
 | .inl i,v,h=>by
  obtain⟨t,e⟩:=Value.isInt_shape (k:=i) (v:=v) h
  exact .inl ⟨i,t,rfl,e⟩
 | .inr x,v,h=>by
  obtain⟨t,e⟩:=Value.isStrOf_shape (x:=x) (v:=v) h
  exact .inr ⟨x,t,rfl,e⟩
theorem T9(a b:Int):decide ((qX a:Key)=qX b)=(a==b):=by
 by_cases e:a=b
 ·subst e;simp
 ·have h:¬ (qX a:Key)=qX b:=λq=>e (Sum.inl.inj q)
  rw[decide_eq_false h]
  exact(beq_eq_false_iff_ne.mpr e).symm
theorem Ua(a b:Str):decide ((qY a:Key)=qY b)=decide (a=b):=by
 by_cases e:a=b
 ·subst e;simp
 ·have h:¬ (qY a:Key)=qY b:=λq=>e (Sum.inr.inj q)
  rw[decide_eq_false h,decide_eq_false e]
theorem Ub(a:Int)(b:Str):decide ((qX a:Key)=qY b)=false:=decide_eq_false (λq=>nomatch q)
theorem Uc(a:Str)(b:Int):decide ((qY a:Key)=qX b)=false:=decide_eq_false (λq=>nomatch q)
noncomputable def JZ(prog:Program)(w:World):PySem.KeyKind prog w Key where
 is:=JY
 hash:=T8 w
 inj:=λv a b ha hb=>by
  rcases mf ha with⟨i,t,rfl,rfl⟩ | ⟨x,t,rfl,rfl⟩
  ·rcases mf hb with⟨j,u,rfl,e⟩ | ⟨y,u,rfl,e⟩
   ·injection e with e1 _;rw[e1]
   ·exact nomatch e
  ·rcases mf hb with⟨j,u,rfl,e⟩ | ⟨y,u,rfl,e⟩
   ·exact nomatch e
   ·injection e with e1 _;rw[e1]
 byValue:=λk v h=>by
  rcases mf h with⟨i,t,rfl,rfl⟩ | ⟨x,t,rfl,rfl⟩<;>rfl
 pyHash:=λhv h=>by
  rcases mf hv with⟨i,t,rfl,rfl⟩ | ⟨x,t,rfl,rfl⟩
  ·exact wpAny_pyHash_int h
  ·exact wpAny_pyHash_str h
 eqBool:=λhu hv h=>by
  rcases mf hu with⟨i,t,rfl,rfl⟩ | ⟨x,t,rfl,rfl⟩
  ·rcases mf hv with⟨j,u,rfl,rfl⟩ | ⟨y,u,rfl,rfl⟩
   ·rw[T9]at h;exact wpAny_eqBool_int h
   ·rw[Ub]at h;exact SeqAt.EqAt.int_str i t y u _ _ _ _ h
  ·rcases mf hv with⟨j,u,rfl,rfl⟩ | ⟨y,u,rfl,rfl⟩
   ·rw[Uc]at h;exact SeqAt.EqAt.str_int x t j u _ _ _ _ h
   ·rw[Ua]at h;exact wpAny_eqBool_str h
 «strs»:=λk x t v h=>by
  rcases mf h with⟨i,u,rfl,e⟩ | ⟨y,u,rfl,e⟩
  ·exact nomatch e
  ·injection e with e1 _
   subst e1
   cases v<;>rfl
end L2
namespace L2
open PySem PySem.Spec PyProof.Rows
inductive V where
 | ao | bl (b:Bool) | int (i:Int) | str (x:Str) | zd (b:Array UInt8) | oZ (b:UInt64) | ref (a:Addr) | ty (n:String)
 deriving DecidableEq
noncomputable def RelV:V->Value->Prop
 | .ao,u=>u=oK
 | .bl b,u=>u=Cd b
 | .int i,u=>∃t,u=oJ i t
 | .str x,u=>∃t,u=Value.str x t
 | .zd b,u=>∃t,u=Value.bytes b t
 | .oZ b,u=>∃t,u=Value.float b t
 | .ref a,u=>u=cj a
 | .ty n,u=>u=Value.type n
noncomputable abbrev Vals:List V->List Value->Prop:=Paired RelV
theorem Vals.length{xs:List V}{us:List Value}(r:Vals xs us):xs.length=us.length:=Paired.length r
theorem Vals.get:∀{xs:List V} {us:List Value} {i:Nat} {x:V},Vals xs us->xs[i]?=some x->∃u,us[i]?=some u/\RelV x u
 | _,_,_,_,.nil,e=>by simp at e
 | _,_,0,_,.cons r _,e=>by simp at e;subst e;exact⟨_,rfl,r⟩
 | _,_,i+1,x,.cons _ t,e=>by
  obtain⟨u,h1,h2⟩:=Vals.get (i:=i) (x:=x) t (by simpa using e)
  exact⟨u,by simpa using h1,h2⟩
theorem Vals.set{x:V}{u:Value}(r:RelV x u):∀{xs:List V} {us:List Value} (i:Nat),Vals xs us->Vals (xs.set i x) (us.set i u)
 | _,_,_,.nil=>.nil
 | _,_,0,.cons _ t=>.cons r t
 | _,_,i+1,.cons q t=>.cons q (Vals.set r i t)
theorem Vals.append:∀{xs ys:List V} {us ws:List Value},Vals xs us->Vals ys ws->Vals (xs++ys) (us++ws)
 | _,_,_,_,.nil,s=>s
 | _,_,_,_,.cons r t,s=>.cons r (Vals.append t s)
theorem Vals.take:∀{xs:List V} {us:List Value} (n:Nat),Vals xs us->Vals (xs.take n) (us.take n)
 | _,_,0,_=>.nil
 | _,_,_+1,.nil=>.nil
 | _,_,n+1,.cons r t=>.cons r (Vals.take n t)
theorem Vals.drop:∀{xs:List V} {us:List Value} (n:Nat),Vals xs us->Vals (xs.drop n) (us.drop n)
 | _,_,0,r=>r
 | _,_,_+1,.nil=>.nil
 | _,_,n+1,.cons _ t=>Vals.drop n t
noncomputable def ku:Option V->Option Value->Prop
 | some v,some u=>RelV v u
 | none,none=>True
 | _,_=>False
noncomputable def KV{κ:Type}:List (κ × V)->List (κ × Value)->Prop:=Paired λ(p:κ × V) (q:κ × Value)=>p.1=q.1/\RelV p.2 q.2
noncomputable def kV:Key->V
 | .inl i=>.int i
 | .inr x=>.str x
inductive HO where
 | lst (xs:List V)
 | tup (xs:List V)
 | dK (df:List (Key × V)) | dT (df:List (List Key × V))
 | set (S:Int->Bool) (n:Nat)
 | ins (C dx:Addr) (fs:List (Str × V))
 | own (x:Addr)
 | xd (fs:List (Str × V))
 | met (f x:Addr)
 | vw (lo hi:Int)
 | br (o:Obj) (u:HO)
 | cY (ps:Array Value)
 | ext (φ:Heap->Prop)
noncomputable abbrev Hp:=Addr->Option HO
noncomputable def upd(H:Hp)(a:Addr)(o:HO):Hp:=λb=>if b=a then some o else H b
theorem bA{H:Hp}{a:Addr}{o:HO}:upd H a o a=some o:=by unfold upd;rw[if_pos rfl]
theorem aO{H:Hp}{a b:Addr}{o:HO}(h:b≠a):upd H a o b=H b:=by unfold upd;rw[if_neg h]
theorem cT{H:Hp}{a b:Addr}{o:HO}(h:H a=some o)(h':H b=none):a≠b:=by
 intro e;subst e;rw[h]at h';cases h'
section
variable(P:Program)(w:World)
noncomputable def dk(H:Hp)(h:Heap)(a:Addr):HO->Prop
 | .lst xs=>xs.length<=sizeLine/\∃(its:List Value) (n:Nat),Vals xs its/\h.get? a=some { cls:=.type "list",data:=.seq its.toArray n }
 | .tup xs=>xs.length<=sizeLine/\∃its:List Value,Vals xs its/\IsTup h a its.toArray
 | .dK df=>df.length<=sizeLine/\(a==sysModules)=false/\∃vs,KV df vs/\h.DictOf (JZ P w) a vs
 | .dT df=>df.length<=sizeLine/\(a==sysModules)=false/\∃xs:List (List Key × Addr × Value),
   Paired (λ(p:List Key × V) (q:List Key × Addr × Value)=>p.1=q.1/\H q.2.1=some (.tup (p.1.map kV))/\RelV p.2 q.2.2) df xs /\
   ∃o es ep,h.get? a=some o/\o.ExactDict/\o.data=.dict es ep/\es.toList=xs.map (entryOfKey (tupleKind (JZ P w)))/\(xs.map (·.1)).Nodup
 | .set S n=>h.SetOf (intKind P w) a S n
 | .ins C dx fs=>H dx=some (.own a)/\fs.length<=1000/\dx≠a/\h.get? a=some (PySem.W.instObj C dx) /\
   ∃mA,h.Ns1 dx mA/\(∀f,ku (fs.lookup f) (mA f))/\PySem.Within mA (fs.map (·.1))
 | .own _=>∃o,h.get? a=some o
 | .xd fs=>∃mA,h.Ns1 a mA/\∀f,ku (fs.lookup f) (mA f)
 | .vw lo hi=>∃t u v,h.get? a=some { cls:=.type "range",data:=.fields #[.int lo t,.int hi u,.int 1 v] }
 | .br o u=>h.get? a=some o/\dk H h a u
 | .cY ps=>h.get? a=some { cls:=.none,data:=.fields ps }/\TriplesOk ps.toList/\∀pos cv,codeAmong pos ps.toList=some cv->∃c φ,cv=.ref c/\H c=some (.ext φ)/\∀h',φ h'->∃q,h'.CodeRec (.ref c) q
 | .met f x=>h.get? a=some (PySem.W.methodObj (.ref f) (.ref x))
 | .ext φ=>φ h/\(∃o,h.get? a=some o)/\∀h1 h2:Heap,φ h1->(∀b o,(b=a\/H b=some (.own a))->h1.get? b=some o->h2.get? b=some o)->φ h2
noncomputable def cu(H:Hp)(h:Heap):Prop:=∀a o,H a=some o->dk P w H h a o
end
section
variable{P:Program}{w:World}{H H':Hp}{h h':Heap}{a:Addr}{o:HO}
theorem dk.lt(x:dk P w H h a o):a<h.objs.size:=by
 cases o with
 | lst xs=>obtain⟨_,_,_,_,e⟩:=x;exact bF e
 | tup xs=>obtain⟨_,_,_,p⟩:=x;exact p.lt
 | dK df=>obtain⟨_,_,_,_,o,_,_,e,_⟩:=x;exact bF e
 | dT df=>obtain⟨_,_,_,_,o,_,_,e,_⟩:=x;exact bF e
 | set S n=>obtain⟨o,_,_,_,e,_⟩:=x;exact bF e
 | ins C dx fs=>obtain⟨_,_,_,e,_⟩:=x;exact bF e
 | own y=>obtain⟨_,e⟩:=x;exact bF e
 | xd fs=>obtain⟨_,⟨_,_,_,e,_⟩,_⟩:=x;exact bF e
 | vw lo hi=>obtain⟨_,_,_,e⟩:=x;exact bF e
 | br ob u=>obtain⟨e,_⟩:=x;exact bF e
 | cY ps=>exact bF (show h.get? a=some _ from x.1)
 | met f y=>exact bF (show h.get? a=some _ from x)
 | ext φ=>obtain⟨_,⟨_,e⟩,_⟩:=x;exact bF e
theorem Paired.CS{α β:Type}{F G:α->β->Prop}:∀{l₁:List α} {l₂:List β},Paired F l₁ l₂->(∀a b,F a b->G a b)->Paired G l₁ l₂
 | _,_,.nil,_=>.nil
 | _,_,.cons r t,f=>.cons (f _ _ r) (Paired.CS t f)
theorem dk.ik(x:dk P w H h a o)(k:∀b u,(b=a\/H b=some (.own a))->h.get? b=some u->h'.get? b=some u)
  (ho:∀b,H b=some (.own a)->H' b=some (.own a)) (ht:∀b xs,H b=some (.tup xs)->H' b=some (.tup xs)) (hx:∀b φ,H b=some (.ext φ)->H' b=some (.ext φ)):dk P w H' h' a o:=by
 induction o with
 | lst xs=>obtain⟨z,its,n,r,e⟩:=x;exact⟨z,its,n,r,k _ _ (.inl rfl) e⟩
 | tup xs=>obtain⟨z,its,r,ob,e,c⟩:=x;exact⟨z,its,r,ob,k _ _ (.inl rfl) e,c⟩
 | dK df=>obtain⟨z,y,vs,r,ob,es,ep,e,c⟩:=x;exact⟨z,y,vs,r,ob,es,ep,k _ _ (.inl rfl) e,c⟩
 | dT df =>
  obtain⟨z,y,xs,r,ob,es,ep,e,c⟩:=x
  exact⟨z,y,xs,Paired.CS r λp q z=>⟨z.1,ht _ _ z.2.1,z.2.2⟩,ob,es,ep,k _ _ (.inl rfl) e,c⟩
 | set S n=>obtain⟨ob,es,ep,t,e,c⟩:=x;exact⟨ob,es,ep,t,k _ _ (.inl rfl) e,c⟩
 | ins C dx fs =>
  obtain⟨d,z,ne,e,mA,⟨od,es,ep,e2,c⟩,r⟩:=x
  exact⟨ho _ d,z,ne,k _ _ (.inl rfl) e,mA,⟨od,es,ep,k _ _ (.inr d) e2,c⟩,r⟩
 | own y=>obtain⟨ob,e⟩:=x;exact⟨ob,k _ _ (.inl rfl) e⟩
 | xd fs=>obtain⟨mA,⟨od,es,ep,e,c⟩,r⟩:=x;exact⟨mA,⟨od,es,ep,k _ _ (.inl rfl) e,c⟩,r⟩
 | vw lo hi=>obtain⟨t,u,v,e⟩:=x;exact⟨t,u,v,k _ _ (.inl rfl) e⟩
 | br ob u ih=>obtain⟨e,q⟩:=x;exact⟨k _ _ (.inl rfl) e,ih q⟩
 | cY ps =>
  obtain⟨e,t,c⟩:=x
  refine⟨k a _ (.inl rfl) e,t,λpos cv q=>?_⟩
  obtain⟨d,φ,e1,e2,e3⟩:=c pos cv q
  exact⟨d,φ,e1,hx _ _ e2,e3⟩
 | met f y =>
  have e:h.get? a=some (PySem.W.methodObj (.ref f) (.ref y)):=x
  show h'.get? a=some (PySem.W.methodObj (.ref f) (.ref y))
  exact k a _ (.inl rfl) e
 | ext φ=>obtain⟨p,⟨o,e⟩,st⟩:=x;exact⟨st _ _ p λb o hb q=>k _ _ hb q,⟨o,k _ _ (.inl rfl) e⟩,λh1 h2 p1 kk=>st h1 h2 p1 λb o hb q=>kk b o (hb.imp id (ho b)) q⟩
theorem cu.lt(x:cu P w H h)(e:H a=some o):a<h.objs.size:=(x a o e).lt
theorem cu.fresh(x:cu P w H h)(e:h.objs.size<=a):H a=none:=by
 cases q:H a with
 | none=>rfl
 | some u=>exact absurd (cq (x.lt q) e) (gh _)
theorem cu.kept(x:cu P w H h)(k:∀b u,h.get? b=some u->h'.get? b=some u):cu P w H h':=λa o e =>
 (x a o e).ik (λb u _ q=>k b u q) (λ_ q=>q) (λ_ _ q=>q) λ_ _ q=>q
theorem cu.laid(x:cu P w H h)(k:∀b u,h.get? b=some u->h'.get? b=some u)(hp:h.objs.size<=a)(new:dk P w (upd H a o) h' a o):cu P w (upd H a o) h':=λb u e=>by
 have hn:=x.fresh hp
 by_cases hb:b=a
 ·subst hb;rw[bA]at e;cases e;exact new
 ·rw[aO hb]at e
  exact(x b u e).ik (λc v _ q=>k c v q) (λc q=>by rw[aO (cT q hn)];exact q) (λc xs q=>by rw[aO (cT q hn)];exact q) λc xs q=>by rw[aO (cT q hn)];exact q
end
noncomputable def Rd(H:Hp)(a:Addr)(u:HO):Prop:=H a=some u\/∃o,H a=some (.br o u)
theorem Rd.ok{P:Program}{w:World}{H:Hp}{h:Heap}{a:Addr}{u:HO}(r:Rd H a u)(x:cu P w H h):dk P w H h a u:=by
 rcases r with r | ⟨o,r⟩
 ·exact x a u r
 ·obtain⟨_,q⟩:=x a _ r
  exact q
noncomputable def ze:Option HO->Prop
 | some (.lst _)=>True
 | some (.dK _)=>True
 | some (.dT _)=>True
 | some (.set _ _)=>True
 | some (.ins _ _ _)=>True
 | _=>False
section
variable{P:Program}{w:World}{H:Hp}{h h':Heap}{x e:Addr}{o':HO}
theorem cu.write(ok:cu P w H h)(mu:ze (H x))(he:e=x\/H e=some (.own x))(k:∀b u,b≠e->h.get? b=some u->h'.get? b=some u)(rq:∃u,h'.get? e=some u)
  (new:dk P w (upd H x o') h' x o'):cu P w (upd H x o') h':=λb u q=>by
 have J0:∀c y,H c=some (.own y)->c≠x:=λc y r z=>by subst z;rw[r]at mu;exact mu
 have Ud:∀c xs,H c=some (.tup xs)->c≠x:=λc xs r z=>by subst z;rw[r]at mu;exact mu
 by_cases hb:b=x
 ·subst hb;rw[bA]at q;cases q;exact new
 ·rw[aO hb]at q
  by_cases o8:b=e
  ·have q':H b=some (.own x):=by
    rcases he with z | z
    ·exact absurd (o8.trans z) hb
    ·rw[o8];exact z
   rw[q]at q';cases q'
   obtain⟨v,hv⟩:=rq
   exact⟨v,by rw[o8];exact hv⟩
  ·refine(ok b u q).ik (λc v hc r=>k c v ?_ r) (λc r=>by rw[aO (J0 c b r)];exact r) (λc xs r=>by rw[aO (Ud c xs r)];exact r) λc φ r=>by rw[aO (λz=>by rw[z]at r;rw[r]at mu;exact mu)];exact r
   rcases hc with rfl | hc
   ·exact o8
   ·rintro rfl
    rcases he with z | z
    ·exact J0 c b hc z
    ·rw[hc]at z;cases z;exact hb rfl
end
structure Un(fs ex:List Addr)(H H':Hp)(h h':Heap):Prop where
 keep:∀b o,h.get? b=some o->H b=none->b ∉ fs->b ∉ ex->h'.get? b=some o
 slot:∀b o,h.get? b=some o->H b=none->b∈fs->b ∉ ex->∃sl,h'.get? b=some { o with slots:=sl }
 free:∀b o,h.get? b=some o->H b=none->b ∉ ex->H' b=none
 there:∀b o,h.get? b=some o->b ∉ ex->∃o',h'.get? b=some o'
 gW:∀b xs,H b=some (.tup xs)->H' b=some (.tup xs)
 gk:∀b o u,H b=some (.br o u)->H' b=some (.br o u)
 fA:∀b ps,H b=some (.cY ps)->∃more,H' b=some (.cY (ps++more))
section
variable{fs fs' ex ex':List Addr}{H H1 H2:Hp}{h h1 h2 h':Heap}{a x e:Addr}{o:HO}
theorem Un.any(u:Un fs ex H H1 h h1){b:Addr}{ob:Obj}(q:h.get? b=some ob)(n:H b=none)(hx:b ∉ ex):∃sl,h1.get? b=some { ob with slots:=sl }:=by
 by_cases hb:b∈fs
 ·exact u.slot b ob q n hb hx
 ·exact⟨ob.slots,u.keep b ob q n hb hx⟩
theorem Un.kept(k:∀b u,h.get? b=some u->h'.get? b=some u):Un fs ex H H h h' :=
 ⟨λb ob q _ _ _=>k b ob q,λb ob q _ _ _=>⟨ob.slots,k b ob q⟩,λ_ _ _ n _=>n,λb ob q _=>⟨ob,k b ob q⟩,λ_ _ q=>q,λ_ _ _ q=>q,λ_ ps q=>⟨#[],by rw[q];simp⟩⟩
theorem Un.refl:Un fs ex H H h h:=Un.kept λ_ _ q=>q
theorem Un.laid(k:∀b u,h.get? b=some u->h'.get? b=some u)(hp:h.objs.size<=a)(hn:H a=none):Un fs ex H (upd H a o) h h' where
 keep:=λb u q _ _ _=>k b u q
 slot:=λb u q _ _ _=>⟨u.slots,k b u q⟩
 free:=λb u q n _=>by rw[aO (eA (cq (bF q) hp))];exact n
 there:=λb u q _=>⟨u,k b u q⟩
 gW:=λb xs q=>by rw[aO (cT q hn)];exact q
 gk:=λb u xs q=>by rw[aO (cT q hn)];exact q
 fA:=λb ps q=>⟨#[],by rw[aO (cT q hn),q];simp⟩
theorem Un.write(mu:ze (H x))(he:e=x\/H e=some (.own x))(k:∀b u,b≠e->h.get? b=some u->h'.get? b=some u)(rq:∃u,h'.get? e=some u):Un fs ex H (upd H x o) h h':=by
 have hx:∀b,H b=none->b≠x:=λb n z=>by subst z;rw[n]at mu;exact mu
 have hb:∀b,H b=none->b≠e:=λb n z=>by
  subst z
  rcases he with r | r
  ·exact hx b n r
  ·rw[n]at r;cases r
 have hm:∀b u,H b=some u->¬ ze (some u)->b≠x:=λb u q nm z=>by subst z;rw[q]at mu;exact nm mu
 refine⟨λb u q n _ _=>k b u (hb b n) q,λb u q n _ _=>⟨u.slots,k b u (hb b n) q⟩,λb u q n _=>by rw[aO (hx b n)];exact n,λb u q _=>?_,
  λb xs q=>by rw[aO (hm b _ q λz=>z)];exact q,λb u xs q=>by rw[aO (hm b _ q λz=>z)];exact q,λb ps q=>⟨#[],by rw[aO (hm b _ q λz=>z),q];simp⟩⟩
 by_cases o8:b=e
 ·subst o8;exact rq
 ·exact⟨u,k b u o8 q⟩
end
noncomputable def zf(h:Heap)(H:Hp):List Addr:=(aJ h.objs.size).filter λa=>(H a).isSome
noncomputable def ky(h:Heap)(H:Hp):Heap:=PySem.W.hideAll h (zf h H)
theorem Ue(h:Heap)(H:Hp):(ky h H).objs.size=h.objs.size:=PySem.W.hideAll_size _ _
theorem Ug{h:Heap}{H:Hp}{b:Addr}{o:Obj}(e:h.get? b=some o)(n:H b=none):(ky h H).get? b=some o :=
 PySem.W.hideAll_get _ e λhm=>by
  have q:(H b).isSome=true:=(oM.mp hm).2
  rw[n]at q;simp at q
theorem Uh{h:Heap}{H:Hp}{b:Addr}{o:Obj}(e:(ky h H).get? b=some o):h.get? b=some o/\H b=none:=by
 have e':h.get? b=some o:=PySem.W.of_hideAll (zf h H) e
 refine⟨e',?_⟩
 cases q:H b with
 | none=>rfl
 | some x =>
  have hm:b∈zf h H:=oM.mpr ⟨dH.mpr (bF e'),by simp[q]⟩
  have z:(ky h H).get? b=none:=PySem.W.hideAll_none (zf h H) hm
  rw[z]at e;cases e
end L2
namespace L2
open PySem PySem.Spec PyProof.Rows
structure Mod(K:PySem.W.Frag)(mg:Str->Option Value)(base:Heap):Prop where
 kz:K.In base
 glob:base.Ns mainGlobals mg
 blt:∃mb,base.Ns builtinsNs mb/\∀x:Str,x≠"__name__"->mb x=bootBuiltins x
 nolimit:base.NoLimit
structure Cx where
 prog:Program
 w:World
 K:PySem.W.Frag
 mg:Str->Option Value
 base:Heap
 A:Around
 N:List Str
 b8:Shared
 iZ:Hp
 env:Env
 outer:List Env
 stack:List Env
 ex:List Addr
 fn:Str->Bool
 calm:Bool
 pn:List (Addr × Obj)
 xe:Value->Shared->Prop
noncomputable def dh(l:List Env):List Addr:=l.filterMap (·.frame)
noncomputable abbrev Cx.fs(X:Cx):List Addr:=dh X.outer
noncomputable def mh(sc:Scope)(x:Str):Prop:=sc.names.lookup x=some .local\/sc.names.lookup x=some .cell\/sc.names.lookup x=some .free
noncomputable def Loc(sc:Scope)(x:Str):Prop:=sc.names.lookup x=some .local\/sc.names.lookup x=some .cell
noncomputable def Ui(env:Env)(h:Heap)(m:Str->Option Value)(x:Str)(u:Value):Prop :=
 (env.kindOf x=some .local/\m x=some u)\/((env.kindOf x=some .cell\/env.kindOf x=some .free)/\∃c,env.cells.lookup x=some c/\h.IsCell c (some u))
structure Cx.Ok(X:Cx):Prop where
 mod:Mod X.K X.mg X.base
 kind:X.env.scope.kind=.function
 glob:X.env.globals=mainGlobals
 blt:X.env.builtins=builtinsNs
 above:X.b8.heap.objs.size<=X.env.locals
 inj:∀x y c,X.env.cells.lookup x=some c->X.env.cells.lookup y=some c->x=y
 has:∀x,(X.env.kindOf x=some .cell\/X.env.kindOf x=some .free)->∃c,X.env.cells.lookup x=some c
 mi:∀x c,X.fn x=true->X.env.cells.lookup x=some c->X.b8.heap.objs.size<=c
 hd:X.calm=true->X.A.handled=none
 frames:X.A.frames=some X.stack
 o9:X.stack=X.outer\/(X.stack=X.env::X.outer/\X.env.frame=some X.env.locals)
 pd:∀b∈X.ex,b≠X.env.locals/\∀x c,X.env.cells.lookup x=some c->c≠b
 bs:∀b o,X.base.get? b=some o->X.b8.heap.get? b=some o/\X.iZ b=none
 iq:X.base.objs.size<=X.b8.heap.objs.size
 nB:∀b o,X.base.get? b=some o->b ∉ X.ex
 nC:∀b∈X.ex,b ∉ X.fs
 fj:X.b8.heap.FunFrames X.base X.outer
 ir:∀b∈X.fs,X.iZ b=none
structure Inv(X:Cx)(pins:List (Addr × Obj))(σ:List (Option V))(H:Hp)(s:Shared):Prop where
 ok:X.Ok
 os:s.os=X.b8.os
 bare:AllBare s.gens
 base:Un X.fs X.ex X.iZ H X.b8.heap s.heap
 loc:∃m,s.heap.Ns X.env.locals m/\∀(i:Nat) (x:Str) (v:V),X.N[i]?=some x->σ[i]?=some (some v)->mh X.env.scope x->∃u,RelV v u/\Ui X.env s.heap m x u
 cell:∀x c,X.env.cells.lookup x=some c->∃v,s.heap.IsCell c v
 free:H X.env.locals=none
 eZ:∀x c,X.env.cells.lookup x=some c->H c=none
 pin:∀p∈X.pn++pins,s.heap.get? p.1=some p.2/\H p.1=none/\p.1≠X.env.locals/\p.1 ∉ X.fs/\∀v,p.2.data≠.cell v
 az:cu X.prog X.w H s.heap
 len:σ.length=X.N.length
section
variable{X:Cx}{pins:List (Addr × Obj)}{σ:List (Option V)}{H H':Hp}{s:Shared}{h':Heap}
theorem Cx.Ok.Uj(ok:X.Ok){b:Addr}{o:Obj}(e:X.base.get? b=some o):b ∉ X.fs:=λhb=>by
 have:=(ok.fj.mem hb).1
 rw[e]at this;cases this
theorem Inv.bs(I:Inv X pins σ H s):∀b o,X.base.get? b=some o->s.heap.get? b=some o/\H b=none:=λb o e =>
 ⟨I.base.keep b o (I.ok.bs b o e).1 (I.ok.bs b o e).2 (I.ok.Uj e) (I.ok.nB b o e),I.base.free b o (I.ok.bs b o e).1 (I.ok.bs b o e).2 (I.ok.nB b o e)⟩
theorem Inv.bk(I:Inv X pins σ H s):∀b o,X.base.get? b=some o->s.heap.get? b=some o:=λb o e=>(I.bs b o e).1
theorem Inv.mod(I:Inv X pins σ H s):Mod X.K X.mg X.base:=I.ok.mod
theorem Inv.ck(I:Inv X pins σ H s):X.K.In s.heap:=I.ok.mod.kz.keeps I.bk
theorem Inv.lt(I:Inv X pins σ H s):X.env.locals<s.heap.objs.size:=let⟨_,hn,_⟩:=I.loc;hn.lt
theorem Inv.sz(I:Inv X pins σ H s):X.b8.heap.objs.size<=s.heap.objs.size:=eO I.ok.above (yD I.lt)
theorem Inv.J1(I:Inv X pins σ H s){a:Addr}(h:s.heap.objs.size<=a):a ∉ X.fs:=λhb=>by
 obtain⟨_,o,ho,_⟩:=I.ok.fj.mem hb
 exact absurd (cq (bF ho) (eO I.sz h)) (gh _)
theorem Inv.jt(I:Inv X pins σ H s):∀x c,X.env.cells.lookup x=some c->c≠X.env.locals:=λx c e z=>by
 obtain⟨v,o,ho,hd⟩:=I.cell x c e
 obtain⟨m,⟨o',es,ep,jS,vx,_⟩,_⟩:=I.loc
 rw[z,jS]at ho;cases ho;rw[vx]at hd;cases hd
theorem Inv.fj(I:Inv X pins σ H s):s.heap.FunFrames X.base X.outer:=by
 have all:∀(l:List Env),(∀b∈dh l,b∈X.fs)->X.b8.heap.FunFrames X.base l->s.heap.FunFrames X.base l:=by
  intro l
  induction l with
  | nil=>intro _ _;trivial
  | cons env r ih =>
   intro hs hl
   obtain⟨hk,⟨L,o,hf,hn,ho,hd⟩,hr⟩:=hl
   have hL:L∈X.fs:=hs L (by unfold dh;rw[yE,hf];exact kj)
   obtain⟨sl,e⟩:=I.base.slot L o ho (I.ok.ir L hL) hL λz=>I.ok.nC L z hL
   exact⟨hk,⟨L,_,hf,hn,e,hd⟩,ih (λb hb=>hs b (by unfold dh;rw[yE,hf];exact fM _ hb)) hr⟩
 exact all X.outer (λ_ hb=>hb) I.ok.fj
theorem Inv.stack(I:Inv X pins σ H s):s.heap.FunFrames X.base X.stack:=by
 rcases I.ok.o9 with e | ⟨e,hf⟩
 ·rw[e];exact I.fj
 ·rw[e]
  obtain⟨m,hn,_⟩:=I.loc
  refine .cons (by rw[I.ok.kind];decide) hf hn ?_ I.fj
  exact Heap.get?_none_of_le (eO I.ok.iq I.ok.above)
theorem Inv.vy(I:Inv X pins σ H s):∀b∈dh X.stack,b∈X.env.locals::X.fs:=λb hb=>by
 rcases I.ok.o9 with e | ⟨e,hf⟩
 ·rw[e]at hb;exact fM _ hb
 ·rw[e]at hb
  unfold dh at hb
  rw[yE,hf]at hb
  exact hb
theorem Inv.zh(I:Inv X pins σ H s):∀b∈dh X.stack,H b=none:=λb hb=>by
 rcases bR.mp (I.vy b hb)with e | hb
 ·rw[e];exact I.free
 ·obtain⟨_,o,ho,_⟩:=I.ok.fj.mem hb
  exact I.base.free b o ho (I.ok.ir b hb) λz=>I.ok.nC b z hb
theorem Inv.step{g':Array GenState}{t':Nat}{d':Drawn}{ch:List Addr}(I:Inv X pins σ H s)
  (kA:∀b∈ch,(b∈X.ex\/X.b8.heap.objs.size<=b)/\b≠X.env.locals/\(∀x c,X.env.cells.lookup x=some c->c≠b)/\∀p∈X.pn++pins,p.1≠b)
  (keep:∀b o,b≠X.env.locals->b ∉ X.fs->b ∉ ch->s.heap.get? b=some o->H b=none->h'.get? b=some o)
  (slot:∀b o,b≠X.env.locals->b∈X.fs->b ∉ ch->s.heap.get? b=some o->H b=none->∃sl,h'.get? b=some { o with slots:=sl }) (free:∀b o,b ∉ ch->s.heap.get? b=some o->H b=none->H' b=none)
  (there:∀b o,b ∉ ch->s.heap.get? b=some o->∃o',h'.get? b=some o')
  (gW:∀b xs,H b=some (.tup xs)->H' b=some (.tup xs)) (gk:∀b o u,H b=some (.br o u)->H' b=some (.br o u)) (fA:∀b ps,H b=some (.cY ps)->∃more,H' b=some (.cY (ps++more)))
  (ns:∀m,s.heap.Ns X.env.locals m->h'.Ns X.env.locals m) (az:cu X.prog X.w H' h') (hg:AllBare g') :
  Inv X pins σ H' { s with heap:=h',gens:=g',drawn:=d',toks:=t' }:=by
 have rz:∀b o,X.b8.heap.get? b=some o->b≠X.env.locals:=λb o e=>eA (cq (bF e) I.ok.above)
 have rA:∀b o,X.b8.heap.get? b=some o->b ∉ X.ex->b ∉ ch:=λb o e hx hb=>by
  rcases(kA b hb).1 with z | z
  ·exact hx z
  ·exact absurd (cq (bF e) z) (gh _)
 have cellK:∀x c,X.env.cells.lookup x=some c->∀v,s.heap.IsCell c v->h'.IsCell c v:=λx c e v ⟨o,ho,hd⟩=>by
  have vz:c ∉ ch:=λz=>(kA c z).2.2.1 x c e rfl
  by_cases hc:c∈X.fs
  ·obtain⟨sl,q⟩:=slot c o (I.jt x c e) hc vz ho (I.eZ x c e)
   exact⟨_,q,hd⟩
  ·exact⟨o,keep c o (I.jt x c e) hc vz ho (I.eZ x c e),hd⟩
 refine⟨I.ok,I.os,hg,⟨λb o e n hb hx=>?_,λb o e n hb hx=>?_,λb o e n hx=>?_,λb o e hx=>?_,λb xs e=>gW b xs (I.base.gW b xs e),λb o xs e=>gk b o xs (I.base.gk b o xs e),λb ps e=>?_⟩,?_,λx c e=>?_,?_,λx c e=>?_,λp hp=>?_,az,I.len⟩
 ·exact keep b o (rz b o e) hb (rA b o e hx) (I.base.keep b o e n hb hx) (I.base.free b o e n hx)
 ·obtain⟨sl,e1⟩:=I.base.slot b o e n hb hx
  obtain⟨vA,e2⟩:=slot b _ (rz b o e) hb (rA b o e hx) e1 (I.base.free b o e n hx)
  exact⟨vA,e2⟩
 ·obtain⟨o',e1⟩:=I.base.there b o e hx
  exact free b o' (rA b o e hx) e1 (I.base.free b o e n hx)
 ·obtain⟨o',e1⟩:=I.base.there b o e hx
  exact there b o' (rA b o e hx) e1
 ·obtain⟨m1,e1⟩:=I.base.fA b ps e
  obtain⟨m2,e2⟩:=fA b _ e1
  exact⟨m1++m2,by rw[e2,oN]⟩
 ·obtain⟨m,hn,hl⟩:=I.loc
  refine⟨m,ns m hn,λi x v e1 e2 e3=>?_⟩
  obtain⟨u,r,l⟩:=hl i x v e1 e2 e3
  refine⟨u,r,?_⟩
  rcases l with l | ⟨k,c,e,z⟩
  ·exact .inl l
  ·exact .inr ⟨k,c,e,cellK x c e _ z⟩
 ·obtain⟨v,z⟩:=I.cell x c e
  exact⟨v,cellK x c e v z⟩
 ·obtain⟨m,⟨o,_,_,ho,_⟩,_⟩:=I.loc
  exact free _ o (λz=>(kA _ z).2.1 rfl) ho I.free
 ·obtain⟨v,o,ho,hd⟩:=I.cell x c e
  exact free c o (λz=>(kA c z).2.2.1 x c e rfl) ho (I.eZ x c e)
 ·obtain⟨e,n,ne,nf,d⟩:=I.pin p hp
  have vz:p.1 ∉ ch:=λz=>(kA p.1 z).2.2.2 p hp rfl
  exact⟨keep p.1 p.2 ne nf vz e n,free p.1 p.2 vz e n,ne,nf,d⟩
theorem Inv.un{t':Nat}(I:Inv X pins σ H s)(u:Un X.fs [] H H' s.heap h')(az:cu X.prog X.w H' h'):Inv X pins σ H' { s with heap:=h',toks:=t' }:=by
 obtain⟨m,⟨o,es,ep,ho,r⟩,_⟩:=id I.loc
 obtain⟨sl,hL⟩:=u.any ho I.free (by simp)
 exact I.step (g':=s.gens) (d':=s.drawn) (ch:=[]) (λ_ z=>nomatch z) (λb o _ hb _ e n=>u.keep b o e n hb (by simp)) (λb o _ hb _ e n=>u.slot b o e n hb (by simp)) (λb o _ e n=>u.free b o e n (by simp)) (λb o _ e=>u.there b o e (by simp)) u.gW u.gk u.fA (λm' hm=>by
  obtain⟨o',CT,CU,jS,r'⟩:=hm
  rw[ho]at jS;cases jS
  exact⟨_,CT,CU,hL,r'⟩) az I.bare
theorem Inv.call{g':Array GenState}{t':Nat}{d':Drawn}{ch:List Addr}(I:Inv X pins σ H s)(u:Un (dh X.stack) ch H H' s.heap h')(az:cu X.prog X.w H' h')(hg:AllBare g')
  (kA:∀b∈ch,(b∈X.ex\/X.b8.heap.objs.size<=b)/\b≠X.env.locals/\(∀x c,X.env.cells.lookup x=some c->c≠b)/\∀p∈X.pn++pins,p.1≠b) :
  Inv X pins σ H' { s with heap:=h',gens:=g',drawn:=d',toks:=t' }:=by
 obtain⟨m,⟨o,es,ep,ho,r⟩,_⟩:=id I.loc
 obtain⟨sl,hL⟩:=u.any ho I.free λz=>(kA _ z).2.1 rfl
 exact I.step (ch:=ch) kA (λb o hL hb hc e n=>u.keep b o e n (λz=>(bR.mp (I.vy b z)).elim hL hb) hc) (λb o _ _ hc e n=>u.any e n hc) (λb o hc e n=>u.free b o e n hc) (λb o hc e=>u.there b o e hc) u.gW u.gk u.fA (λm' hm=>by
  obtain⟨o',CT,CU,jS,r'⟩:=hm
  rw[ho]at jS;cases jS
  exact⟨_,CT,CU,hL,r'⟩) az hg
theorem Inv.turned{t':Nat}{it:Addr}(I:Inv X pins σ H s)(k:∀b o,b≠it->s.heap.get? b=some o->h'.get? b=some o)(hn:H it=none)(hL:it≠X.env.locals)
  (h1:it∈X.ex\/X.b8.heap.objs.size<=it) (h2:∀x c,X.env.cells.lookup x=some c->c≠it) (h3:∀p∈X.pn++pins,p.1≠it):Inv X pins σ H { s with heap:=h',toks:=t' }:=by
 have nD:∀b u,H b=some u->b≠it:=λb u e z=>by rw[z,hn]at e;cases e
 refine I.step (g':=s.gens) (d':=s.drawn) (ch:=[it]) (λb hb=>?_) (λb o _ _ hc e _=>k b o (λz=>hc (by simp[z])) e) (λb o _ _ hc e _=>⟨o.slots,k b o (λz=>hc (by simp[z])) e⟩) (λ_ _ _ _ n=>n)
  (λb o hc e=>⟨o,k b o (λz=>hc (by simp[z])) e⟩) (λ_ _ e=>e) (λ_ _ _ e=>e) (λb ps e=>⟨#[],by rw[e];simp⟩) (λm hm=>?_) (λb u e=>?_) I.bare
 ·have e:b=it:=by simpa using hb
  subst e
  exact⟨h1,hL,h2,h3⟩
 ·obtain⟨o,es,ep,ho,r⟩:=hm
  exact⟨o,es,ep,k _ o (dU hL) ho,r⟩
 ·refine(I.az b u e).ik (λc v hc q=>k c v ?_ q) (λ_ q=>q) (λ_ _ q=>q) λ_ _ q=>q
  rcases hc with z | z
  ·rw[z];exact nD b u e
  ·exact nD c _ z
theorem Inv.tok(I:Inv X pins σ H s)(t:Nat):Inv X pins σ H { s with toks:=t }:=I.un (h':=s.heap) (t':=t) Un.refl I.az
theorem Inv.kept{t':Nat}(I:Inv X pins σ H s)(k:∀b u,s.heap.get? b=some u->h'.get? b=some u):Inv X pins σ H { s with heap:=h',toks:=t' }:=I.un (Un.kept k) (I.az.kept k)
theorem Inv.laid{a:Addr}{o:HO}{t':Nat}(I:Inv X pins σ H s)(k:∀b u,s.heap.get? b=some u->h'.get? b=some u)(hp:s.heap.objs.size<=a)(new:dk X.prog X.w (upd H a o) h' a o) :
  Inv X pins σ (upd H a o) { s with heap:=h',toks:=t' }:=I.un (Un.laid k hp (I.az.fresh hp)) (I.az.laid k hp new)
theorem Inv.write{x e:Addr}{o:HO}{t':Nat}(I:Inv X pins σ H s)(mu:ze (H x))(he:e=x\/H e=some (.own x))(k:∀b u,b≠e->s.heap.get? b=some u->h'.get? b=some u)(rq:∃u,h'.get? e=some u)
  (new:dk X.prog X.w (upd H x o) h' x o):Inv X pins σ (upd H x o) { s with heap:=h',toks:=t' }:=I.un (Un.write mu he k rq) (I.az.write mu he k rq new)
theorem Inv.weak{aw:List (Option V)}(I:Inv X pins σ H s)(hl:aw.length=σ.length)(w:∀(i:Nat) v,aw[i]?=some (some v)->σ[i]?=some (some v)):Inv X pins aw H s :=
 ⟨I.ok,I.os,I.bare,I.base,let⟨m,hn,CV⟩:=I.loc;⟨m,hn,λi x v e1 e2 e3=>CV i x v e1 (w i v e2) e3⟩,I.cell,I.free,I.eZ,I.pin,I.az,hl.trans I.len⟩
theorem Inv.J2{rB:List (Addr × Obj)}(I:Inv X pins σ H s)(h:∀p∈rB,s.heap.get? p.1=some p.2/\H p.1=none/\p.1≠X.env.locals/\p.1 ∉ X.fs/\∀v,p.2.data≠.cell v):Inv X rB σ H s :=
 ⟨I.ok,I.os,I.bare,I.base,I.loc,I.cell,I.free,I.eZ,λp hp=>(cS.mp hp).elim (λz=>I.pin p (eB _ z)) (h p),I.az,I.len⟩
theorem CW{N:List Str}(hN:N.Nodup){i j:Nat}{x:Str}(a:N[i]?=some x)(b:N[j]?=some x):i=j:=by
 obtain⟨h1,e1⟩:=jr.mp a
 obtain⟨h2,e2⟩:=jr.mp b
 exact(List.getElem_inj hN).mp (e1.trans e2.symm)
theorem Uk{M:Model}{A:Around}{E:Value->Shared->Prop}{i:Nat}{x:Str}{v:V}{u:Value}{Q:Unit->Shared->Prop}(I:Inv X pins σ H s)(hN:X.N.Nodup)(hi:X.N[i]?=some x)(hx:Loc X.env.scope x)(r:RelV v u)
  (h:∀s',Inv X pins (σ.set i (some v)) H s'->(∃a,Heap.SameBut a s.heap s'.heap/\(a=X.env.locals\/X.env.cells.lookup x=some a))->Q () s') (hf:X.fn x=true\/X.env.scope.names.lookup x=some .local:=by first | exact .inl rfl | exact .inr rfl | assumption):wpAny M A (storeName X.env x u) Q E s:=by
 obtain⟨m,hn,hl⟩:=id I.loc
 have Ul:(X.env.scope.kind==.class||(X.env.scope.kind==.module&&X.env.locals != X.env.globals))=false:=by rw[I.ok.kind];rfl
 have J3:i<σ.length:=by rw[I.len];exact(jr.mp hi).1
 have jt:=I.jt
 have tracked:∀{a:Addr} {h':Heap},(∃o,s.heap.get? a=some o/\H a=none)->Heap.SameBut a s.heap h'->cu X.prog X.w H h':=λ{a h'} ha hs b ob e=>by
  obtain⟨_,_,J4⟩:=ha
  refine(I.az b ob e).ik (λc w' hc q=>(hs.2 c ?_).trans q) (λ_ q=>q) (λ_ _ q=>q) λ_ _ q=>q
  rintro rfl
  rcases hc with rfl | hc
  ·rw[J4]at e;cases e
  ·rw[J4]at hc;cases hc
 rcases hx with hk | hk
 ·refine wpAny_storeName_local hk hn (λh' pf hs=>?_) Ul
  obtain⟨oL,_,_,J5,_⟩:=id hn
  refine h _ ⟨I.ok,I.os,I.bare,⟨λb o e n hb hx=>?_,λb o e n hb hx=>?_,I.base.free,λb o e hx=>?_,I.base.gW,I.base.gk,I.base.fA⟩,⟨_,pf,λj y v' e1 e2 e3=>?_⟩,λy c e=>?_,I.free,I.eZ,λp hp=>?_,tracked ⟨oL,J5,I.free⟩ hs,by simpa using I.len⟩ ⟨_,hs,.inl rfl⟩
  ·exact(hs.2 b (eA (cq (bF e) I.ok.above))).trans (I.base.keep b o e n hb hx)
  ·obtain⟨sl,e1⟩:=I.base.slot b o e n hb hx
   exact⟨sl,(hs.2 b (eA (cq (bF e) I.ok.above))).trans e1⟩
  ·obtain⟨o',e1⟩:=I.base.there b o e hx
   exact⟨o',(hs.2 b (eA (cq (bF e) I.ok.above))).trans e1⟩
  ·by_cases hj:j=i
   ·subst hj
    rw[hi]at e1;cases e1
    rw[yF J3]at e2
    cases e2
    exact⟨u,r,.inl ⟨hk,by simp⟩⟩
   ·rw[oO (dU hj)]at e2
    obtain⟨u',r',q⟩:=hl j y v' e1 e2 e3
    refine⟨u',r',?_⟩
    rcases q with⟨k,e⟩ | ⟨k,c,e,z⟩
    ·refine .inl ⟨k,?_⟩
     have:y≠x:=λe=>hj (CW hN e1 (e ▸ hi))
     simp[this,e]
    ·exact .inr ⟨k,c,e,z.sameBut hs (jt y c e)⟩
  ·obtain⟨w',z⟩:=I.cell y c e
   exact⟨w',z.sameBut hs (jt y c e)⟩
  ·obtain⟨e,n,ne,nf,d⟩:=I.pin p hp
   exact⟨(hs.2 p.1 ne).trans e,n,ne,nf,d⟩
 ·have vB:X.fn x=true:=by
   rcases hf with z | z
   ·exact z
   ·rw[z]at hk;cases hk
  obtain⟨c,hc⟩:=I.ok.has x (.inl hk)
  obtain⟨w',z⟩:=I.cell x c hc
  refine wpAny_storeName_cell I.ok.kind hk hc z (λh' vC hs=>?_)
  obtain⟨oc,iu,Um⟩:=id z
  refine h { s with heap:=h' } ⟨I.ok,I.os,I.bare,⟨λb o e n hb hx=>?_,λb o e n hb hx=>?_,I.base.free,λb o e hx=>?_,I.base.gW,I.base.gk,I.base.fA⟩,⟨m,hn.sameBut hs (dU (jt x c hc)),λj y v' e1 e2 e3=>?_⟩,λy c' e=>?_,I.free,I.eZ,λp hp=>?_,tracked ⟨oc,iu,I.eZ x c hc⟩ hs,by simpa using I.len⟩ ⟨c,hs,.inr hc⟩
  ·exact(hs.2 b (eA (cq (bF e) (I.ok.mi x c vB hc)))).trans (I.base.keep b o e n hb hx)
  ·obtain⟨sl,e1⟩:=I.base.slot b o e n hb hx
   exact⟨sl,(hs.2 b (eA (cq (bF e) (I.ok.mi x c vB hc)))).trans e1⟩
  ·obtain⟨o',e1⟩:=I.base.there b o e hx
   exact⟨o',(hs.2 b (eA (cq (bF e) (I.ok.mi x c vB hc)))).trans e1⟩
  ·by_cases hj:j=i
   ·subst hj
    rw[hi]at e1;cases e1
    rw[yF J3]at e2
    cases e2
    exact⟨u,r,.inr ⟨.inl hk,c,hc,vC⟩⟩
   ·rw[oO (dU hj)]at e2
    obtain⟨u',r',q⟩:=hl j y v' e1 e2 e3
    refine⟨u',r',?_⟩
    rcases q with q | ⟨k,c',e,z'⟩
    ·exact .inl q
    ·refine .inr ⟨k,c',e,z'.sameBut hs ?_⟩
     rintro rfl
     exact hj (CW hN e1 (I.ok.inj _ _ _ e hc ▸ hi))
  ·by_cases J6:c'=c
   ·subst J6;exact⟨_,vC⟩
   ·obtain⟨w2,z2⟩:=I.cell y c' e
    exact⟨w2,z2.sameBut hs J6⟩
  ·obtain⟨e,n,ne,nf,d⟩:=I.pin p hp
   refine⟨(hs.2 p.1 ?_).trans e,n,ne,nf,d⟩
   intro q
   rw[q,iu]at e
   have q':oc=p.2:=cX e
   exact d w' (by rw[<-q'];exact Um)
theorem zi{M:Model}{A:Around}{E:Value->Shared->Prop}{i:Nat}{x:Str}{v:V}{u:Value}{Q:Unit->Shared->Prop}(I:Inv X pins σ H s)(hN:X.N.Nodup)(hi:X.N[i]?=some x)(hx:Loc X.env.scope x)(r:RelV v u)
  (h:∀s',Inv X pins (σ.set i (some v)) H s'->Q () s') (hf:X.fn x=true\/X.env.scope.names.lookup x=some .local:=by first | exact .inl rfl | exact .inr rfl | assumption):wpAny M A (storeName X.env x u) Q E s :=
 Uk I hN hi hx r (λs' I' _=>h s' I') hf
theorem Inv.J7{s':Shared}{ch:List Addr}(I:Inv X pins σ H s)(ho:s'.os=s.os)(u:Un (dh X.stack) ch H H' s.heap s'.heap)(az:cu X.prog X.w H' s'.heap)(hg:AllBare s'.gens)
  (kA:∀b∈ch,(b∈X.ex\/X.b8.heap.objs.size<=b)/\b≠X.env.locals/\(∀x c,X.env.cells.lookup x=some c->c≠b)/\∀p∈X.pn++pins,p.1≠b):Inv X pins σ H' s':=by
 obtain⟨h',g',d',t',o'⟩:=s'
 have e:o'=s.os:=ho
 subst e
 exact I.call (g':=g') (t':=t') (d':=d') u az hg kA
end
noncomputable abbrev XK:=Value->Option Addr->Hp->Prop
noncomputable abbrev St:=List (Option V)
noncomputable abbrev VK:=V->Hp->Prop
noncomputable abbrev TE:=St->Hp->VK->Prop
noncomputable abbrev TT:=St->Hp->(Bool->Hp->Prop)->Prop
noncomputable abbrev TA:=St->Hp->(List V->Hp->Prop)->Prop
structure Ends where
 nx:St->Hp->Prop
 rt:VK
 bk:St->Hp->Prop:=λ_ _=>False
 ct:St->Hp->Prop:=λ_ _=>False
noncomputable abbrev TS:=Ends->St->Hp->Prop
noncomputable def EP(X:Cx)(pins:List (Addr × Obj))(σ:St)(Q:VK)(u:Value)(s':Shared):Prop:=∃v H',Inv X pins σ H' s'/\RelV v u/\Q v H'
noncomputable def TP(X:Cx)(pins:List (Addr × Obj))(σ:St)(Q:Bool->Hp->Prop)(b:Bool)(s':Shared):Prop:=∃H',Inv X pins σ H' s'/\Q b H'
noncomputable def AP(X:Cx)(pins:List (Addr × Obj))(σ:St)(Q:List V->Hp->Prop)(us:List Value)(s':Shared):Prop:=∃vs H',Inv X pins σ H' s'/\Vals vs us/\Q vs H'
noncomputable def SP(X:Cx)(pins:List (Addr × Obj))(D:Ends)(f:Flow)(s':Shared):Prop :=
 match f with
 | .next=>∃aw H',Inv X pins aw H' s'/\D.nx aw H'
 | .brk=>∃aw H',Inv X pins aw H' s'/\D.bk aw H'
 | .cont=>∃aw H',Inv X pins aw H' s'/\D.ct aw H'
 | .ret u=>∃v aw H',Inv X pins aw H' s'/\RelV v u/\D.rt v H'
noncomputable def PE(X:Cx)(e:Expr)(t:TE):Prop :=
 ∀(pins:List (Addr × Obj)) (s:Shared) (σ:St) (H:Hp) (Q:VK),Inv X pins σ H s->t σ H Q->wpAny (model X.prog X.w) X.A (eval e X.env) (EP X pins σ Q) X.xe s
noncomputable def PT(X:Cx)(e:Expr)(t:TT):Prop :=
 ∀(pins:List (Addr × Obj)) (s:Shared) (σ:St) (H:Hp) (Q:Bool->Hp->Prop),Inv X pins σ H s->t σ H Q->wpAny (model X.prog X.w) X.A (isTrue e X.env (eval e X.env)) (TP X pins σ Q) X.xe s
noncomputable def PW(X:Cx)(e:Expr)(t:TT):Prop :=
 ∀(whole:Sem Value) (pins:List (Addr × Obj)) (s:Shared) (σ:St) (H:Hp) (Q:Bool->Hp->Prop),Inv X pins σ H s->t σ H Q->wpAny (model X.prog X.w) X.A (isTrue e X.env whole) (TP X pins σ Q) X.xe s
theorem PW.pt{X:Cx}{e:Expr}{t:TT}(h:PW X e t):PT X e t:=h _
noncomputable def PA(X:Cx)(es:List Expr)(t:TA):Prop :=
 ∀(pos:Pos) (pins:List (Addr × Obj)) (s:Shared) (σ:St) (H:Hp) (Q:List V->Hp->Prop),Inv X pins σ H s->t σ H Q->wpAny (model X.prog X.w) X.A (spliced (backTo pos (starEach es X.env))) (AP X pins σ Q) X.xe s
noncomputable def PS(X:Cx)(st:Stmt)(t:TS):Prop :=
 ∀(pins:List (Addr × Obj)) (s:Shared) (σ:St) (H:Hp) (D:Ends),Inv X pins σ H s->t D σ H->wpAny (model X.prog X.w) X.A (exec st X.env) (SP X pins D) X.xe s
noncomputable def PSs(X:Cx)(st:List Stmt)(t:TS):Prop :=
 ∀(pins:List (Addr × Obj)) (s:Shared) (σ:St) (H:Hp) (D:Ends),Inv X pins σ H s->t D σ H->wpAny (model X.prog X.w) X.A (execs st X.env) (SP X pins D) X.xe s
theorem aM{α:Type}{t:Sem α}{Q Q':α->Shared->Prop}{M:Model}{A:Around}{E:Value->Shared->Prop}{s:Shared}(h:wpAny M A t Q E s)(hQ:∀a s,Q a s->Q' a s):wpAny M A t Q' E s:=wpAny_mono h hQ λ_ _ x=>x
end L2
namespace L2
open PySem PySem.Spec PyProof.Rows
section
variable{X:Cx}
noncomputable def J8(i:Nat):TE:=λσ H Q=>∃v,σ[i]?=some (some v)/\Q v H
noncomputable def tC(v:V):TE:=λ_ H Q=>Q v H
theorem rC{i:Nat}{x:Str}{pos:Pos}(hN:X.N[i]?=some x)(hv:mh X.env.scope x)(hd:(x==("__debug__":Str))=false:=by decide)(cm:(x==("__classdict__":Str))=false:=by decide):PE X (.Name x pos) (J8 i):=by
 intro pins s σ H Q I h
 obtain⟨v,e,h⟩:=h
 obtain⟨m,hn,hl⟩:=I.loc
 obtain⟨u,r,l⟩:=hl i x v hN e hv
 have fin:EP X pins σ Q u s:=⟨v,H,I,r,h⟩
 rcases l with⟨hk,hm⟩ | ⟨hk,c,hc,zj⟩
 ·exact wpAny_Name (wpAny_loadName_local I.ok.kind hk hn hm fin) hd
 ·rcases hk with hk | hk
  ·exact wpAny_Name (wpAny_loadName_cell I.ok.kind hk hc zj fin) hd
  ·exact wpAny_Name (wpAny_loadName_free I.ok.kind hk hc zj fin cm) hd
theorem vD{i j pos}:PE X (.Constant (.int i) j pos) (tC (.int i)):=λ_ _ _ H _ I h=>wpAny_Constant_int ⟨.int i,H,I.tok _,⟨_,rfl⟩,h⟩
theorem Uo{b j pos}:PE X (.Constant (.bool b) j pos) (tC (.bl b)):=λ_ _ _ H _ I h=>Constant_bool ⟨.bl b,H,I,rfl,h⟩
theorem Up{j pos}:PE X (.Constant .none j pos) (tC .ao):=λ_ _ _ H _ I h=>Constant_none ⟨.ao,H,I,rfl,h⟩
theorem J9{x j pos}:PE X (.Constant (.str x) j pos) (tC (.str x)):=λ_ _ _ H _ I h=>Calls.Constant_str ⟨.str x,H,I.tok _,⟨_,rfl⟩,h⟩
noncomputable def Gl(X:Cx)(x:Str):Prop:=X.env.kindOf x=some .globalImplicit
theorem ph{E:Value->Shared->Prop}{pins:List (Addr × Obj)}{s:Shared}{σ:St}{H:Hp}{x:Str}{u:Value}{pos:Pos}{Q:Value->Shared->Prop}(I:Inv X pins σ H s)(hg:Gl X x)(hm:X.mg x=some u)(h:Q u s)
  (hd:(x==("__debug__":Str))=false:=by decide):wpAny (model X.prog X.w) X.A (eval (.Name x pos) X.env) Q E s :=
 Tu I.ok.kind hg (Calls.loadGlobal_global (by rw[I.ok.glob];exact I.mod.glob.keeps I.bk) hm h) hd
theorem mj{E:Value->Shared->Prop}{pins:List (Addr × Obj)}{s:Shared}{σ:St}{H:Hp}{x:Str}{u:Value}{pos:Pos}{Q:Value->Shared->Prop}(I:Inv X pins σ H s)(hg:Gl X x)(hm:X.mg x=none)(hv:bootBuiltins x=some u)(h:Q u s)
  (hn:x≠"__name__":=by decide) (hd:(x==("__debug__":Str))=false:=by decide):wpAny (model X.prog X.w) X.A (eval (.Name x pos) X.env) Q E s:=by
 obtain⟨mb,h1,h2⟩:=I.mod.blt
 exact Tu I.ok.kind hg (Calls.loadGlobal_builtin (by rw[I.ok.glob];exact I.mod.glob.keeps I.bk) hm (by rw[I.ok.blt];exact h1.keeps I.bk) ((h2 x hn).trans hv) h) hd
theorem Uq{x:Str}{v:V}{u:Value}{pos:Pos}(hg:Gl X x)(hm:X.mg x=some u)(r:RelV v u)(hd:(x==("__debug__":Str))=false:=by decide):PE X (.Name x pos) (tC v) :=
 λ_ _ _ H _ I h=>ph I hg hm ⟨v,H,I,r,h⟩ hd
theorem Ur{x:Str}{v:V}{u:Value}{pos:Pos}(hg:Gl X x)(hm:X.mg x=none)(hv:bootBuiltins x=some u)(r:RelV v u)(hn:x≠"__name__":=by decide)(hd:(x==("__debug__":Str))=false:=by decide):PE X (.Name x pos) (tC v) :=
 λ_ _ _ H _ I h=>mj I hg hm hv ⟨v,H,I,r,h⟩ hn hd
variable{a b:Expr}{ta tb:TE}{pos:Pos}
noncomputable def tB(t:TE):TT:=λσ H Q=>t σ H λx H1=>∃c,x=.bl c/\Q c H1
theorem CY{e:Expr}{t:TE}(h:PE X e t)(he:∀whole,isTrue e X.env whole=(do let v<-whole;standAt e.pos;holding [v] (truthy v)):=by intro _;rfl):PT X e (tB t):=by
 intro pins s σ H Q I hw
 refine isTrue_plain (aM (h pins s σ H _ I hw) λv s1 ⟨x,H1,I1,r1,q1⟩=>?_) (he _)
 obtain⟨d,rfl,q⟩:=q1
 cases r1
 exact wpAny_truthy_bool ⟨H1,I1,q⟩
variable{tA zk:TT}{rest:List Expr}
noncomputable def Us(t u:TT):TT:=λσ H Q=>t σ H λc H1=>if c=true then u σ H1 Q else Q false H1
noncomputable def Ut(t u:TT):TT:=λσ H Q=>t σ H λc H1=>if c=true then Q true H1 else u σ H1 Q
noncomputable def Uu(t:TT):TT:=λσ H Q=>t σ H λc H1=>Q (!c) H1
theorem Ka(ha:PT X a tA):PW X (.BoolOp .And [a] pos) tA:=by
 intro wh pins s σ H Q I h
 refine isTrue_and (aM (ha pins s σ H Q I h) λc s1 e=>?_)
 cases c with
 | true=>exact isTrue_and_nil e
 | false=>exact e
theorem zo(ha:PT X a tA):PW X (.BoolOp .Or [a] pos) tA:=by
 intro wh pins s σ H Q I h
 refine isTrue_or (aM (ha pins s σ H Q I h) λc s1 e=>?_)
 cases c with
 | false=>exact isTrue_or_nil e
 | true=>exact e
theorem Uv(ha:PT X a tA)(hb:PW X (.BoolOp .And (b::rest) pos) zk):PW X (.BoolOp .And (a::b::rest) pos) (Us tA zk):=by
 intro wh pins s σ H Q I h
 refine isTrue_and (aM (ha pins s σ H _ I h) λc s1 ⟨H1,I1,q1⟩=>?_)
 cases c with
 | true=>exact hb wh pins s1 σ H1 Q I1 q1
 | false=>exact⟨H1,I1,q1⟩
theorem Uw(ha:PT X a tA)(hb:PW X (.BoolOp .Or (b::rest) pos) zk):PW X (.BoolOp .Or (a::b::rest) pos) (Ut tA zk):=by
 intro wh pins s σ H Q I h
 refine isTrue_or (aM (ha pins s σ H _ I h) λc s1 ⟨H1,I1,q1⟩=>?_)
 cases c with
 | true=>exact⟨H1,I1,q1⟩
 | false=>exact hb wh pins s1 σ H1 Q I1 q1
theorem CZ(ha:PT X a tA):PT X (.UnaryOp .Not a pos) (Uu tA):=by
 intro pins s σ H Q I h
 exact isTrue_not (ha pins s σ H (λc H1=>Q (!c) H1) I h)
noncomputable def Ux(ta tb:TE):TE:=λσ H Q=>ta σ H λx H1=>∃c,x=.bl c/\if c=true then tb σ H1 Q else Q (.bl false) H1
noncomputable def Uy(ta:TE):TE:=λσ H Q=>ta σ H λx H1=>∃c,x=.bl c/\Q (.bl (!c)) H1
theorem vE{op}{t:TE}(h:PE X a t):PE X (.BoolOp op [a] pos) t:=λpins s σ H Q I hw=>BoolOp_one (h pins s σ H Q I hw)
theorem Uz(ha:PE X a ta)(hb:PE X (.BoolOp .And (b::rest) pos) tb):PE X (.BoolOp .And (a::b::rest) pos) (Ux ta tb):=by
 intro pins s σ H Q I h
 refine BoolOp_and (aM (ha pins s σ H _ I h) λv s1 ⟨x,H1,I1,r1,q1⟩=>?_)
 obtain⟨c,rfl,q1⟩:=q1
 cases r1
 refine wpAny_truthy_bool ?_
 cases c with
 | true=>exact hb pins s1 σ H1 Q I1 q1
 | false=>exact⟨.bl false,H1,I1,rfl,q1⟩
theorem UA(ha:PE X a ta):PE X (.UnaryOp .Not a pos) (Uy ta):=by
 intro pins s σ H Q I h
 refine UnaryOp_ (aM (ha pins s σ H _ I h) λv s1 ⟨x,H1,I1,r1,q1⟩=>?_)
 obtain⟨c,rfl,q1⟩:=q1
 cases r1
 exact not_of (wpAny_truthy_bool ⟨.bl (!c),H1,I1,rfl,q1⟩)
noncomputable def UB(t:TT)(ta tb:TE):TE:=λσ H Q=>t σ H λc H1=>if c=true then ta σ H1 Q else tb σ H1 Q
theorem UC{c:Expr}(hc:PT X c tA)(ha:PE X a ta)(hb:PE X b tb):PE X (.IfExp c a b pos) (UB tA ta tb):=by
 intro pins s σ H Q I h
 refine wpAny_IfExp (aM (hc pins s σ H _ I h) λd s1 ⟨H1,I1,q1⟩=>?_)
 cases d with
 | true=>exact ha pins s1 σ H1 Q I1 q1
 | false=>exact hb pins s1 σ H1 Q I1 q1
end
end L2
namespace L2
open PySem PySem.Spec PyProof.Rows
noncomputable def bH(K:PySem.W.Frag)(H:Hp)(a:Addr)(xs:List V):Prop :=
 Rd H a (.lst xs) \/
  ∃(o:Obj) (its:Array Value) (n:Nat),K.lookup a=some o/\o.cls=.type "list"/\o.dict=none/\o.data=.seq its n/\its.size<=sizeLine/\Vals xs its.toList
noncomputable def gn(K:PySem.W.Frag)(H:Hp)(a:Addr)(xs:List V):Prop :=
 Rd H a (.tup xs) \/
  ∃(o:Obj) (its:Array Value) (n:Nat),K.lookup a=some o/\o.cls=.type "tuple"/\o.data=.seq its n/\its.size<=sizeLine/\Vals xs its.toList
noncomputable def UD:Value->Option V
 | .none=>some .ao
 | .bool b=>some (.bl b)
 | .int i _=>some (.int i)
 | .str x _=>some (.str x)
 | .bytes b _=>some (.zd b)
 | .float b _=>some (.oZ b)
 | .ref a=>some (.ref a)
 | .type n=>some (.ty n)
 | _=>none
theorem RelV.abs{x:V}{u:Value}(r:RelV x u):UD u=some x:=by
 cases x with
 | ao=>cases r;rfl
 | bl _=>cases r;rfl
 | int _=>obtain⟨t,rfl⟩:=r;rfl
 | str _=>obtain⟨t,rfl⟩:=r;rfl
 | zd _=>obtain⟨t,rfl⟩:=r;rfl
 | oZ _=>obtain⟨t,rfl⟩:=r;rfl
 | ref _=>cases r;rfl
 | ty _=>cases r;rfl
theorem RelV.inj{x y:V}{u:Value}(r:RelV x u)(q:RelV y u):x=y:=cX (r.abs.symm.trans q.abs)
theorem Vals.inj:∀{xs ys:List V} {us:List Value},Vals xs us->Vals ys us->xs=ys
 | _,_,_,.nil,.nil=>rfl
 | _,_,_,.cons r t,.cons r' t'=>by rw[r.inj r',Vals.inj t t']
section
variable{X:Cx}{pins:List (Addr × Obj)}{σ:St}{H:Hp}{s:Shared}{a:Addr}{xs ys:List V}
theorem bH.of{K:PySem.W.Frag}(h:H a=some (.lst xs)):bH K H a xs:=.inl (.inl h)
theorem gn.of{K:PySem.W.Frag}(h:H a=some (.tup xs)):gn K H a xs:=.inl (.inl h)
theorem Inv.list(I:Inv X pins σ H s)(h:bH X.K H a xs):∃its:List Value,Vals xs its/\PlainL s.heap a its.toArray/\xs.length<=sizeLine:=by
 rcases h with h | ⟨o,its,n,hk,hc,hd,hs,hz,r⟩
 ·obtain⟨z,its,n,r,e⟩:=h.ok I.az
  exact⟨its,r,⟨_,n,e,rfl,rfl,rfl⟩,z⟩
 ·refine⟨its.toList,r,⟨o,n,I.ck a o hk,hc,hd,by simpa using hs⟩,?_⟩
  have e:=r.length
  simp only[qZ]at e
  omega
theorem Inv.tuple(I:Inv X pins σ H s)(h:gn X.K H a xs):∃its:List Value,Vals xs its/\IsTup s.heap a its.toArray/\xs.length<=sizeLine:=by
 rcases h with h | ⟨o,its,n,hk,hc,hs,hz,r⟩
 ·obtain⟨z,its,r,p⟩:=h.ok I.az
  exact⟨its,r,p,z⟩
 ·refine⟨its.toList,r,⟨o,I.ck a o hk,hc,n,by simpa using hs⟩,?_⟩
  have e:=r.length
  simp only[qZ]at e
  omega
theorem Inv.zr(I:Inv X pins σ H s)(h:bH X.K H a xs)(h':bH X.K H a ys):xs=ys:=by
 obtain⟨its,r,⟨o,n,e,_,_,d⟩,_⟩:=I.list h
 obtain⟨its',r',⟨o',n',e',_,_,d'⟩,_⟩:=I.list h'
 rw[e]at e';cases e'
 rw[d]at d'
 injection d' with d1 _
 have:its=its':=by simpa using congrArg Array.toList d1
 subst this
 exact r.inj r'
end
noncomputable abbrev Cx.ju(X:Cx)(E:Value->Shared->Prop):Cx:={ X with xe:=E }
noncomputable abbrev Cx.fk(X:Cx):Cx:=X.ju λ_ _=>False
theorem Cx.Ok.ju{X:Cx}(ok:X.Ok)(E:Value->Shared->Prop):(X.ju E).Ok :=
 ⟨ok.mod,ok.kind,ok.glob,ok.blt,ok.above,ok.inj,ok.has,ok.mi,ok.hd,ok.frames,ok.o9,ok.pd,ok.bs,ok.iq,ok.nB,ok.nC,ok.fj,ok.ir⟩
theorem Cx.Ok.kB{X:Cx}{E:Value->Shared->Prop}(ok:(X.ju E).Ok):X.Ok :=
 ⟨ok.mod,ok.kind,ok.glob,ok.blt,ok.above,ok.inj,ok.has,ok.mi,ok.hd,ok.frames,ok.o9,ok.pd,ok.bs,ok.iq,ok.nB,ok.nC,ok.fj,ok.ir⟩
section
variable{X:Cx}{pins:List (Addr × Obj)}{σ:St}{H:Hp}{s:Shared}{E:Value->Shared->Prop}
theorem Inv.ju(I:Inv X pins σ H s)(E:Value->Shared->Prop):Inv (X.ju E) pins σ H s:=⟨I.ok.ju E,I.os,I.bare,I.base,I.loc,I.cell,I.free,I.eZ,I.pin,I.az,I.len⟩
theorem Inv.kB(I:Inv (X.ju E) pins σ H s):Inv X pins σ H s:=⟨I.ok.kB,I.os,I.bare,I.base,I.loc,I.cell,I.free,I.eZ,I.pin,I.az,I.len⟩
theorem SP.kB{D:Ends}{f:Flow}{s':Shared}(h:SP (X.ju E) pins D f s'):SP X pins D f s':=by
 cases f with
 | next=>obtain⟨aw,H',I,q⟩:=h;exact⟨aw,H',I.kB,q⟩
 | brk=>obtain⟨aw,H',I,q⟩:=h;exact⟨aw,H',I.kB,q⟩
 | cont=>obtain⟨aw,H',I,q⟩:=h;exact⟨aw,H',I.kB,q⟩
 | ret u=>obtain⟨v,aw,H',I,r,q⟩:=h;exact⟨v,aw,H',I.kB,r,q⟩
theorem PE.fk{e:Expr}{t:TE}(h:PE X.fk e t):PE X e t:=λpins s σ H Q I hw =>
 wpAny_mono (h pins s σ H Q (I.ju _) hw) (λ_ _ ⟨v,H',I',r,q⟩=>⟨v,H',I'.kB,r,q⟩) λ_ _ z=>eC z
theorem PSs.fk{st:List Stmt}{t:TS}(h:PSs X.fk st t):PSs X st t:=λpins s σ H D I hw =>
 wpAny_mono (h pins s σ H D (I.ju _) hw) (λ_ _ q=>q.kB) λ_ _ z=>eC z
end
section
variable{X:Cx}{st:Stmt}{rest:List Stmt}{t u:TS}{e:Expr}{te:TE}{pos:Pos}
noncomputable def UE:TS:=λD σ H=>D.nx σ H
noncomputable def UG(t u:TS):TS:=λD σ H=>t { D with nx:=u D } σ H
theorem vF:PSs X [] UE:=λ_ _ σ H _ I h=>wpAny_execs_nil ⟨σ,H,I,h⟩
theorem eQ(h1:PS X st t)(h2:PSs X rest u):PSs X (st::rest) (UG t u):=by
 intro pins s σ H D I h
 refine wpAny_execs_cons (aM (h1 pins s σ H { D with nx:=u D } I h) λf s1 q=>?_)
 cases f with
 | next =>
  obtain⟨aw,H',I',q⟩:=q
  exact h2 pins s1 aw H' D I' q
 | ret v=>exact q
 | brk=>exact q
 | cont=>exact q
theorem mm(h1:PS X st t):PSs X [st] t:=by
 intro pins s σ H D I h
 refine wpAny_execs_cons (aM (h1 pins s σ H D I h) λf s1 q=>?_)
 cases f with
 | next=>exact wpAny_execs_nil q
 | ret v=>exact q
 | brk=>exact q
 | cont=>exact q
theorem Inv.quiet{pins:List (Addr × Obj)}{σ:St}{H:Hp}{s:Shared}(I:Inv X pins σ H s):interactive X.env=false:=by simp[interactive,I.ok.kind]
noncomputable def UH(te:TE):TS:=λD σ H=>te σ H λ_ H1=>D.nx σ H1
theorem zt(he:PE X e te)(hs:swapsWith e none pos.line X.env=pure false:=by rfl):PS X (.Expr e pos) (UH te):=by
 intro pins s σ H D I h
 exact wpAny_Expr_any (aM (he pins s σ H _ I h) λv s1 ⟨x,H1,I1,r1,q1⟩=>⟨σ,H1,I1,q1⟩) I.quiet hs
noncomputable def UI(te:TE):TS:=λD σ H=>te σ H D.rt
theorem UJ(he:PE X e te):PS X (.Return (some e) pos) (UI te):=by
 intro pins s σ H D I h
 exact wpAny_Return_some (aM (he pins s σ H _ I h) λv s1 ⟨x,H1,I1,r1,q1⟩=>⟨x,σ,H1,I1,r1,q1⟩)
noncomputable def UK(c:TT)(t u:TS):TS:=λD σ H=>c σ H λb H1=>if b=true then t D σ H1 else u D σ H1
theorem zu{c:Expr}{a b:List Stmt}{tc:TT}(hc:PT X c tc)(ha:PSs X a t)(hb:PSs X b u):PS X (.If c a b pos) (UK tc t u):=by
 intro pins s σ H D I h
 refine wpAny_If (aM (hc pins s σ H _ I h) λd s1 ⟨H1,I1,q1⟩=>?_)
 cases d with
 | true=>exact ha pins s1 σ H1 D I1 q1
 | false=>exact hb pins s1 σ H1 D I1 q1
noncomputable def Kb:TS:=λ_ _ _=>False
theorem C2:PS X st Kb:=λ_ _ _ _ _ _ h=>h.elim
theorem UL{nE:List Stmt}:PSs X nE Kb:=λ_ _ _ _ _ _ h=>h.elim
end
noncomputable abbrev TG:=V->St->Hp->(St->Hp->Prop)->Prop
noncomputable abbrev pj:=List V->St->Hp->(St->Hp->Prop)->Prop
noncomputable def PG(X:Cx)(target:Expr)(t:TG):Prop :=
 ∀(pins:List (Addr × Obj)) (s:Shared) (σ:St) (H:Hp) (v:V) (u:Value) (Q:St->Hp->Prop),Inv X pins σ H s->RelV v u->t v σ H Q ->
  wpAny (model X.prog X.w) X.A (assign target X.env u) (λ_ s'=>∃aw H',Inv X pins aw H' s'/\Q aw H') X.xe s
noncomputable def zw(X:Cx)(ts:List Expr)(t:pj):Prop :=
 ∀(pins:List (Addr × Obj)) (s:Shared) (σ:St) (H:Hp) (vs:List V) (us:List Value) (Q:St->Hp->Prop),Inv X pins σ H s->Vals vs us->t vs σ H Q ->
  wpAny (model X.prog X.w) X.A (assignInOrder ((assignEach ts X.env).map (·.2)) us) (λ_ s'=>∃aw H',Inv X pins aw H' s'/\Q aw H') X.xe s
noncomputable abbrev C3:=V->V->V->Hp->(Hp->Prop)->Prop
noncomputable def Ke(X:Cx)(t:C3):Prop :=
 ∀(pins:List (Addr × Obj)) (s:Shared) (σ:St) (H:Hp) (o i v:V) (ov iv u:Value) (Q:Hp->Prop),Inv X pins σ H s->RelV o ov->RelV i iv->RelV v u->t o i v H Q ->
  wpAny (model X.prog X.w) X.A (setItem ov iv u) (λ_ s'=>∃H',Inv X pins σ H' s'/\Q H') X.xe s
noncomputable abbrev C5:=V->V->Hp->VK->Prop
noncomputable def UM(X:Cx)(op:Operator)(t:C5):Prop :=
 ∀(pins:List (Addr × Obj)) (s:Shared) (σ:St) (H:Hp) (x y:V) (v u:Value) (Q:VK),Inv X pins σ H s->RelV x v->RelV y u->t x y H Q ->
  wpAny (model X.prog X.w) X.A (inplaceOp op v u) (EP X pins σ Q) X.xe s
section
variable{X:Cx}{pos:Pos}
noncomputable def zx(i:Nat):TG:=λv σ H Q=>Q (σ.set i (some v)) H
theorem zy{i:Nat}{x:Str}(hN:X.N.Nodup)(hi:X.N[i]?=some x)(hx:Loc X.env.scope x)(hf:X.fn x=true\/X.env.scope.names.lookup x=some .local:=by first | exact .inl rfl | exact .inr rfl | assumption):PG X (.Name x pos) (zx i):=by
 intro pins s σ H v u Q I r h
 exact wpAny_assign_Name (zi I hN hi hx r (λs' I'=>⟨_,H,I',h⟩) hf)
noncomputable def UN:pj:=λvs σ H Q=>vs=[]/\Q σ H
noncomputable def UO(t:TG)(u:pj):pj:=λvs σ H Q=>∃v r,vs=v::r/\t v σ H λaw H'=>u r aw H' Q
theorem UP:zw X [] UN:=by
 intro pins s σ H vs us Q I r h
 obtain⟨e,h⟩:=h
 subst e
 cases r
 exact assignInOrder_nil ⟨σ,H,I,h⟩
theorem Kf{e:Expr}{es:List Expr}{t:TG}{u:pj}(h1:PG X e t)(h2:zw X es u)
  (hs:(assignEach (e::es) X.env).map (·.2)=assign e X.env::(assignEach es X.env).map (·.2):=by rfl):zw X (e::es) (UO t u):=by
 intro pins s σ H vs us Q I r h
 obtain⟨v,vr,e1,h⟩:=h
 subst e1
 cases r with
 | cons r rr =>
  rw[hs]
  refine assignInOrder_cons (aM (h1 pins s σ H _ _ _ I r h) λ_ s1 ⟨fP,H1,I1,q1⟩=>?_)
  exact h2 pins s1 fP H1 _ _ Q I1 rr q1
noncomputable def UQ(K:PySem.W.Frag)(n:Nat)(t:pj):TG:=λv σ H Q=>∃a xs,v=.ref a/\gn K H a xs/\xs.length=n/\t xs σ H Q
theorem UR{es:List Expr}{k:Nat}{t:pj}{n:Nat}(hc:X.calm=true)(h:zw X es t)
  (hn:(assignEach es X.env).length=n:=by rfl) (bS:(assignEach es X.env).findIdx? (·.1)=none:=by rfl):PG X (.Tuple es k pos) (UQ X.K n t):=by
 intro pins s σ H v u Q I r hw
 obtain⟨a,xs,e1,hq,hl,hw⟩:=hw
 subst e1
 cases r
 obtain⟨its,rv,ht,hz⟩:=I.tuple hq
 refine assign_Tuple_tuple (I.ok.hd hc) ht (by simp[hn,<- hl,rv.length]) bS λh' hx=>?_
 have I1:Inv X pins σ H { s with heap:=h' }:=I.kept (t':=s.toks) λb o e=>hx b o (eA (bF e)) e
 exact h pins _ σ H xs _ Q I1 (by simpa using rv) hw
noncomputable def US(to ti:TE)(t:C3):TG:=λv σ H Q=>to σ H λo H1=>ti σ H1 λi H2=>t o i v H2 λH3=>Q σ H3
theorem UT{o i:Expr}{to ti:TE}{t:C3}(ho:PE X o to)(hi:PE X i ti)(hs:Ke X t)
  (ha:∀v,assign (.Subscript o i pos) X.env v=(do
   let ov<-holding [v] (eval o X.env)
   let iv<-holding [v,ov] (eval i X.env)
   standAt pos
   holding [v,ov,iv] (setItem ov iv v)
   release [v,ov,iv] []):=by intro _;rfl):PG X (.Subscript o i pos) (US to ti t):=by
 intro pins s σ H v u Q I r h
 rw[ha]
 refine wpAny_bind (wpAny_holding (aM (ho pins s σ H _ I h) λov s1 ⟨x,H1,I1,r1,q1⟩=>?_))
 refine wpAny_bind (wpAny_holding (aM (hi pins s1 σ H1 _ I1 q1) λiv s2 ⟨y,H2,I2,r2,q2⟩=>?_))
 refine wpAny_bind (wpAny_standAt (wpAny_bind (wpAny_holding (aM (hs pins s2 σ H2 x y v ov iv u _ I2 r1 r2 r q2) λ_ s3 ⟨H3,I3,q3⟩=>?_))))
 exact wpAny_release ⟨σ,H3,I3,q3⟩
noncomputable def C6(te:TE)(g:TG):TS:=λD σ H=>te σ H λx H1=>g x σ H1 D.nx
theorem UU{tg e:Expr}{te:TE}{g:TG}(he:PE X e te)(hg:PG X tg g)(hs:swapsWithSole [tg] e pos.line X.env=pure false:=by rfl)(hw:swappedStores [tg] e X.env=pure none:=by rfl)
  (h1:(assignEach [tg] X.env).map (·.2)=[assign tg X.env]:=by rfl):PS X (.Assign [tg] e pos) (C6 te g):=by
 intro pins s σ H D I h
 refine wpAny_Assign_stores (aM (he pins s σ H _ I h) λv s1 ⟨x,H1,I1,r1,q1⟩=>?_) hs hw
 rw[h1]
 exact aM (hg pins s1 σ H1 x v _ I1 r1 q1) λ_ s2 q=>q
theorem C7{i:Nat}{x:Str}{e:Expr}{te:TE}{pos':Pos}(hN:X.N.Nodup)(hi:X.N[i]?=some x)(hx:Loc X.env.scope x)(he:PE X e te)(hs:swapsWith e (some (.Name x pos')) pos.line X.env=pure false:=by rfl)(hf:X.fn x=true\/X.env.scope.names.lookup x=some .local:=by first | exact .inl rfl | exact .inr rfl | assumption) :
  PS X (.Assign [.Name x pos'] e pos) (C6 te (zx i)):=by
 intro pins s σ H D I h
 refine wpAny_Assign_Name (aM (he pins s σ H _ I h) λv s1 ⟨y,H1,I1,r1,q1⟩=>?_) hs
 exact zi I1 hN hi hx r1 (λs2 I2=>⟨_,H1,I2,q1⟩) hf
noncomputable def UW(i:Nat)(te:TE)(ti:C5):TS:=λD σ H=>∃x,σ[i]?=some (some x)/\te σ H λy H1=>ti x y H1 λz H2=>D.nx (σ.set i (some z)) H2
theorem UX{i:Nat}{x:Str}{e:Expr}{te:TE}{op:Operator}{ti:C5}{pos':Pos}(hN:X.N.Nodup)(hi:X.N[i]?=some x)(hx:Loc X.env.scope x)(he:PE X e te)(ho:UM X op ti)(hf:X.fn x=true\/X.env.scope.names.lookup x=some .local:=by first | exact .inl rfl | exact .inr rfl | assumption) :
  PS X (.AugAssign (.Name x pos') op e pos) (UW i te ti):=by
 intro pins s σ H D I h
 obtain⟨v,e1,h⟩:=h
 obtain⟨m,hn,hl⟩:=I.loc
 have UY:mh X.env.scope x:=by rcases hx with k | k;exact .inl k;exact .inr (.inl k)
 obtain⟨u,r,l⟩:=hl i x v hi e1 UY
 refine wpAny_AugAssign_Name ?_
 have go:wpAny (model X.prog X.w) X.A (eval e X.env) (λw i3=>wpAny (model X.prog X.w) X.A (inplaceOp op u w) (λr UZ=>wpAny (model X.prog X.w) X.A (storeName X.env x r) (λ_=>SP X pins D .next) X.xe UZ) X.xe i3) X.xe s:=by
  refine aM (he pins s σ H _ I h) λw s1 ⟨y,H1,I1,r1,q1⟩=>?_
  refine aM (ho pins s1 σ H1 v y u w _ I1 r r1 q1) λz s2 ⟨zv,H2,I2,r2,q2⟩=>?_
  exact zi I2 hN hi hx r2 (λs3 I3=>⟨_,H2,I3,q2⟩) hf
 rcases l with⟨hk,hm⟩ | ⟨hk,c,hc,zj⟩
 ·exact wpAny_loadName_local I.ok.kind hk hn hm go
 ·rcases hk with hk | hk
  ·exact wpAny_loadName_cell I.ok.kind hk hc zj go
  ·rcases hx with k | k
   ·have:X.env.scope.names.lookup x=some .free:=hk
    rw[k]at this;cases this
   ·have:X.env.scope.names.lookup x=some .free:=hk
    rw[k]at this;cases this
end
section
variable{X:Cx}{pos:Pos}
noncomputable def U0(c:TT)(tb:TS):TS:=λD σ H=>∃W:Nat->St->Hp->Prop,(∃m,W m σ H)/\∀m σ H,W m σ H ->
 c σ H λb H1=>if b=true then ∃N:St->Hp->Prop,(∀aw H',N aw H'->∃m',m'<m/\W m' aw H')/\tb { D with nx:=N,ct:=N,bk:=D.nx } σ H1 else D.nx σ H1
theorem U1{c:Expr}{body:List Stmt}{tc:TT}{tb:TS}(hp:PassesOwn (model X.prog X.w) X.A X.env X.xe)(hc:PT X c tc)(hb:PSs X body tb):PS X (.While c body [] pos) (U0 tc tb):=by
 intro pins s σ H D I h
 obtain⟨W,⟨m0,w0⟩,turn⟩:=h
 refine wpAny_While (codeAny_whileLoop (λn s'=>∃aw H',Inv X pins aw H' s'/\W n aw H') ?_ m0 ⟨σ,H,I,w0⟩)
 rintro n s1 ⟨fP,H1,I1,w1⟩
 refine wpAny_passesOwn hp (aM (hc pins s1 fP H1 _ I1 (turn n fP H1 w1)) λb s2 ⟨H2,I2,q2⟩=>?_)
 cases b with
 | true =>
  obtain⟨N,hN,q2⟩:=q2
  rw[if_pos rfl]
  refine wpAny_passesOwn hp (aM (hb pins s2 fP H2 _ I2 q2) λf s3 q3=>?_)
  cases f with
  | next =>
   obtain⟨jT,H3,I3,n3⟩:=q3
   obtain⟨m',hm,w3⟩:=hN jT H3 n3
   exact⟨m',hm,jT,H3,I3,w3⟩
  | cont =>
   obtain⟨jT,H3,I3,n3⟩:=q3
   obtain⟨m',hm,w3⟩:=hN jT H3 n3
   exact⟨m',hm,jT,H3,I3,w3⟩
  | brk=>exact q3
  | ret v=>exact q3
 | false =>
  rw[if_neg ig]
  exact wpAny_execs_nil ⟨fP,H2,I2,q2⟩
end
structure It where
 go:Nat->Hp->Prop
 jv:Nat->Hp->V->Hp->Prop
 stop:Nat->Hp->Prop
noncomputable def iw(X:Cx)(pins:List (Addr × Obj))(H:Hp)(b:Addr):Prop :=
 H b=none/\b≠X.env.locals/\b ∉ X.fs/\(b∈X.ex\/X.b8.heap.objs.size<=b)/\(∀x c,X.env.cells.lookup x=some c->c≠b)/\∀p∈X.pn++pins,p.1≠b
theorem Inv.zA{X:Cx}{pins:List (Addr × Obj)}{σ:St}{H H':Hp}{s:Shared}{b:Addr}(I:Inv X pins σ H s)(hb:s.heap.objs.size<=b)(hn:H' b=none):iw X pins H' b:=by
 refine⟨hn,Jv (cq I.lt hb),I.J1 hb,.inr (eO I.sz hb),λx c e z=>?_,λp hp z=>?_⟩
 ·obtain⟨v,q⟩:=I.cell x c e
  exact absurd (cq q.lt (by rw[z];exact hb)) (gh _)
 ·exact absurd (cq (bF (I.pin p hp).1) (by rw[z];exact hb)) (gh _)
structure Turn(P:Program)(w:World)(K:PySem.W.Frag)(tg:Expr)(J:It)(fp:List Addr)(it:Addr)(tn:Nat->Heap->Prop):Prop where
 mem:it∈fp
 obj:∀i h,tn i h->∀b∈fp,∃o,h.get? b=some o/\∀v,o.data≠.cell v
 keep:∀i h h',tn i h->(∀b∈fp,∀o,h.get? b=some o->h'.get? b=some o)->tn i h'
 item:∀(X:Cx),X.prog=P->X.w=w->X.K=K->X.calm=true->∀(i:Nat) (pins:List (Addr × Obj)) (s:Shared) (σ:St) (H:Hp) (E:Value->Shared->Prop),Inv X pins σ H s->(∀b∈fp,iw X pins H b)->tn i s.heap->J.go i H ->
  wpAny (model P w) X.A (pyNext (.ref it)) (λr s1=>∃u,r=some u /\
   wpAny (model P w) X.A (letOwnedTupleGo tg (.ref it) u) (λ_ s2=>∃x H',Inv X pins σ H' s2/\RelV x u/\J.jv i H x H'/\tn (i+1) s2.heap/\∀b∈fp,H' b=none) E s1) E s
 done:∀(X:Cx),X.prog=P->X.w=w->X.K=K->X.calm=true->∀(i:Nat) (pins:List (Addr × Obj)) (s:Shared) (σ:St) (H:Hp) (E:Value->Shared->Prop),Inv X pins σ H s->(∀b∈fp,iw X pins H b)->tn i s.heap->J.stop i H ->
  wpAny (model P w) X.A (pyNext (.ref it)) (λr s1=>r=none/\Inv X pins σ H s1) E s
 self:∀(A:Around) (i:Nat) (s:Shared) (Q:Value->Shared->Prop) (E:Value->Shared->Prop),tn i s.heap->Q (.ref it) s->wpAny (model P w) A (pyIter (.ref it)) Q E s
noncomputable abbrev TI:=St->Hp->(It->Hp->Prop)->Prop
noncomputable def Kg(X:Cx)(pins:List (Addr × Obj))(σ:St)(tg:Expr)(R:It->Hp->Prop)(C8:Value)(s2:Shared):Prop :=
 ∃(it:Addr) (fp:List Addr) (tn:Nat->Heap->Prop) (J:It) (H':Hp),C8=.ref it/\Inv X pins σ H' s2/\Turn X.prog X.w X.K tg J fp it tn/\tn 0 s2.heap/\(∀b∈fp,iw X pins H' b)/\R J H'
noncomputable def PI(X:Cx)(tg iter:Expr)(wi:TI):Prop :=
 ∀(pins:List (Addr × Obj)) (s:Shared) (σ:St) (H:Hp) (R:It->Hp->Prop),Inv X pins σ H s->wi σ H R ->
  wpAny (model X.prog X.w) X.A (eval iter X.env) (λv s1=>wpAny (model X.prog X.w) X.A (pyIter v) (Kg X pins σ tg R) X.xe s1) X.xe s
theorem Kh{M:Model}{A:Around}{E:Value->Shared->Prop}{s:Shared}{tg:Expr}{it:Addr}{u:Value}{o:Obj}{n:String}{vs:Array Value}{Q:Unit->Shared->Prop}(ho:s.heap.get? it=some o)(hc:o.cls=.type n)(hd:o.data=.fields vs)
  (hn:["enumerate","zip","dict_itemiterator","dict_reverseitemiterator","odict_iterator","itertools.zip_longest","itertools.pairwise"].contains n=false) (hQ:Q () s):wpAny M A (letOwnedTupleGo tg (.ref it) u) Q E s:=by
 unfold letOwnedTupleGo
 cases tg<;>first
  | exact wpAny_pure hQ
  | (cases u<;>first
    | exact wpAny_pure hQ
    | (refine wpAny_bind (wpAny_load ho ?_)
       rw[hc,hd]
       show wpAny M A (if(["enumerate","zip","dict_itemiterator","dict_reverseitemiterator","odict_iterator","itertools.zip_longest","itertools.pairwise"].contains n&&vs[0]?==some (rawInt _))=true then _ else _) Q E s
       rw[if_neg (by intro h;rw[hn,u0]at h;cases h)]
       exact wpAny_pure hQ))
noncomputable def C9(K:PySem.W.Frag)(a:Addr):It :=
 ⟨λi H=>∃xs x,bH K H a xs/\xs[i]?=some x,λi H x H'=>H'=H/\∀xs,bH K H a xs->xs[i]?=some x,λi H=>∃xs,bH K H a xs/\xs.length<=i⟩
noncomputable def vG(lo:Int)(n:Nat):It:=⟨λi _=>i<n,λi H x H'=>H'=H/\x=.int (lo+i),λi _=>n<=i⟩
theorem U2{P:Program}{w:World}{K:PySem.W.Frag}{tg:Expr}(a it:Addr):Turn P w K tg (C9 K a) [it] it (λi h=>h.IsListIter it a i) where
 mem:=by simp
 obj:=λi h st b hb=>by
  have e:b=it:=by simpa using hb
  subst e
  obtain⟨o,e,c,d⟩:=st
  exact⟨o,e,λv z=>by rw[d]at z;cases z⟩
 keep:=λi h h' st k=>st.at λo e=>k it (by simp) o e
 item:=by
  intro X hP hw hK hc i pins s σ H E I hf st hg
  subst hP hw hK
  obtain⟨xs,x,hq,hx⟩:=hg
  obtain⟨its,rv,p,hz⟩:=I.list hq
  obtain⟨u,hu,ru⟩:=rv.get hx
  obtain⟨f0,f1,f2,f3,f4,f5⟩:=hf it (by simp)
  refine wpAny_pyNext_list_item st p.isList (x:=u) (by simpa using hu) λh' nF sb=>?_
  have I1:Inv X pins σ H { s with heap:=h' }:=I.turned (t':=s.toks) (λb o hb e=>(sb.2 b hb).trans e) f0 f1 f3 f4 f5
  obtain⟨o,e,c,d⟩:=id nF
  exact⟨u,rfl,Kh (s:={ s with heap:=h' }) e c d (by decide) ⟨x,H,I1,ru,⟨rfl,λys hy=>by rw[I.zr hy hq];exact hx⟩,nF,λb hb=>(hf b hb).1⟩⟩
 done:=by
  intro X hP hw hK hc i pins s σ H E I hf st hg
  subst hP hw hK
  obtain⟨xs,hq,hx⟩:=hg
  obtain⟨its,rv,p,hz⟩:=I.list hq
  obtain⟨f0,f1,f2,f3,f4,f5⟩:=hf it (by simp)
  have hl:=rv.length
  exact wpAny_pyNext_list_end (I.ok.hd hc) st p.isList (by simp;omega) λh' eb=>⟨rfl,I.turned (t':=s.toks) (λb o hb e=>eb b o hb e) f0 f1 f3 f4 f5⟩
 self:=λ_ _ _ _ _ st h=>wpAny_pyIter_listiter st h
theorem U3{P:Program}{w:World}{K:PySem.W.Frag}{tg:Expr}(it:Addr)(lo:Int)(n:Nat):Turn P w K tg (vG lo n) [it] it (λi h=>IsRangeIter h it (lo+(i:Nat)*1) ((n:Int)-(i:Nat)) 1) where
 mem:=by simp
 obj:=λi h st b hb=>by
  have e:b=it:=by simpa using hb
  subst e
  exact⟨_,st,λv z=>by
   have z':Data.fields _=Data.cell v:=z
   cases z'⟩
 keep:=λi h h' st k=>k it (by simp) _ st
 item:=by
  intro X hP hw hK hc i pins s σ H E I hf st hg
  subst hP hw hK
  obtain⟨f0,f1,f2,f3,f4,f5⟩:=hf it (by simp)
  have W:=Walks.range (prog:=X.prog) (w:=X.w) (I.ok.hd hc) it lo 1 n
  refine W.item i s _ _ hg st λv h' tk hv nF kk=>?_
  obtain⟨t,rfl⟩:=hv
  have I1:Inv X pins σ H { s with heap:=h',toks:=tk }:=I.turned (λb o hb e=>kk b o (by simpa using hb) e) f0 f1 f3 f4 f5
  refine⟨_,rfl,Kh (s:={ s with heap:=h',toks:=tk }) (n:="range_iterator") nF rfl rfl (by decide) ⟨.int (lo+i),H,I1,⟨t,?_⟩,⟨rfl,rfl⟩,nF,λb hb=>(hf b hb).1⟩⟩
  rw[Int.mul_one]
 done:=by
  intro X hP hw hK hc i pins s σ H E I hf st hg
  subst hP hw hK
  obtain⟨f0,f1,f2,f3,f4,f5⟩:=hf it (by simp)
  exact wpAny_pyNext_range_end (I.ok.hd hc) st (by have:n<=i:=hg;omega) λh' eb=>⟨rfl,I.turned (t':=s.toks) (λb o hb e=>eb b o hb e) f0 f1 f3 f4 f5⟩
 self:=λ_ _ _ _ _ st h=>wpAny_pyIter_rangeiter st h
end L2
namespace L2
open PySem PySem.Spec PyProof.Rows
section
variable{X:Cx}{tg:Expr}
noncomputable def U4(K:PySem.W.Frag)(tl:TE):TI:=λσ H R=>tl σ H λx H1=>∃a,x=.ref a/\(∃xs,bH K H1 a xs)/\R (C9 K a) H1
theorem Ki{l:Expr}{tl:TE}(hl:PE X l tl):PI X tg l (U4 X.K tl):=by
 intro pins s σ H R I h
 refine aM (hl pins s σ H _ I h) λv s1 ⟨x,H1,I1,r1,q1⟩=>?_
 obtain⟨a,e,⟨xs,hq⟩,q⟩:=q1
 subst e
 cases r1
 obtain⟨its,rv,p,hz⟩:=I1.list hq
 refine wpAny_pyIter_list p.isList ?_
 refine⟨s1.heap.objs.size,[s1.heap.objs.size],_,_,H1,rfl,I1.kept (t':=s1.toks) λb o e=>eG _ e,U2 a _,⟨_,gU _ rfl,rfl,rfl⟩,λb hb=>?_,q⟩
 have e:b=s1.heap.objs.size:=by simpa using hb
 subst e
 exact I1.zA (bG _) (I1.az.fresh (bG _))
theorem Kj{pins:List (Addr × Obj)}{σ:St}{H:Hp}{s:Shared}{R:It->Hp->Prop}{E:Value->Shared->Prop}{lo hi:Int}{t u v:Tok}{tk:Nat}(I:Inv X pins σ H s)(h1:-(2 ^ 62)<=lo)(h2:lo<2 ^ 62)(h3:-(2 ^ 62)<=hi)(h4:hi<2 ^ 62)
  (q:R (vG lo (hi-lo).toNat) H):wpAny (model X.prog X.w) X.A (pyIter (.ref s.heap.objs.size)) (Kg X pins σ tg R) E { s with heap:=s.heap.push { cls:=.type "range",data:=.fields #[.int lo t,.int hi u,.int 1 v] },toks:=tk }:=by
 refine wpAny_pyIter_range (IsRange.new ..) (small_one h1 h2 h3 h4) ?_
 have I1:Inv X pins σ H { s with heap:=s.heap.push { cls:=.type "range",data:=.fields #[.int lo t,.int hi u,.int 1 v] },toks:=tk }:=I.kept λb o e=>eG _ e
 refine⟨(s.heap.push { cls:=.type "range",data:=.fields #[.int lo t,.int hi u,.int 1 v] }).objs.size,[(s.heap.push { cls:=.type "range",data:=.fields #[.int lo t,.int hi u,.int 1 v] }).objs.size],_,_,H,rfl,
  I1.kept (t':=tk) λb o e=>eG _ e,U3 _ lo (hi-lo).toNat,?_,λb hb=>?_,q⟩
 ·have e1:lo+((0:Nat):Int)*1=lo:=by simp
  have e2:(((hi-lo).toNat:Nat):Int)-((0:Nat):Int)=Builtin.Range.rangeSize lo hi 1:=by rw[rangeSize_one];split<;>omega
  show IsRangeIter _ _ (lo+((0:Nat):Int)*1) ((((hi-lo).toNat:Nat):Int)-((0:Nat):Int)) 1
  rw[e1,e2]
  exact gU _ rfl
 ·have e:b=(s.heap.push { cls:=.type "range",data:=.fields #[.int lo t,.int hi u,.int 1 v] }).objs.size:=by simpa using hb
  subst e
  exact I1.zA (bG _) (I1.az.fresh (bG _))
noncomputable def U5(ta:TA):TI:=λσ H R=>ta σ H λvs H1=>∃j:Int,vs=[.int j]/\-(2 ^ 62)<=j/\j<2 ^ 62/\R (vG 0 j.toNat) H1
noncomputable def U6(ta:TA):TI:=λσ H R=>ta σ H λvs H1=>∃i j:Int,vs=[.int i,.int j]/\(-(2 ^ 62)<=i/\i<2 ^ 62/\-(2 ^ 62)<=j/\j<2 ^ 62)/\R (vG i (j-i).toNat) H1
theorem U7{a:Expr}{ta:TA}{p pos:Pos}(hg:Gl X "range")(hm:X.mg "range"=none)(ha:PA X [a] ta)(hs:starEach [a] X.env=[(false,eval a X.env)]:=by rfl):PI X tg (.Call (.Name "range" p) [a] [] pos) (U5 ta):=by
 intro pins s σ H R I h
 refine Call_ (mj I hg hm boot_range (q0 (aM (ha pos pins s σ H _ I h) λus s1 ⟨vs,H1,I1,r1,q1⟩=>?_) hs rfl))
 obtain⟨j,e,q1,q2,q⟩:=q1
 subst e
 cases r1 with
 | cons r rr =>
  cases rr
  obtain⟨t,rfl⟩:=r
  exact call_range_1 (Kj I1 (by omega) (by omega) q1 q2 (by simpa using q))
theorem U8{a b:Expr}{ta:TA}{p pos:Pos}(hg:Gl X "range")(hm:X.mg "range"=none)(ha:PA X [a,b] ta)(hs:starEach [a,b] X.env=[(false,eval a X.env),(false,eval b X.env)]:=by rfl)(dW:starEach [b] X.env=[(false,eval b X.env)]:=by rfl) :
  PI X tg (.Call (.Name "range" p) [a,b] [] pos) (U6 ta):=by
 intro pins s σ H R I h
 refine Call_ (mj I hg hm boot_range (q0 (aM (ha pos pins s σ H _ I h) λus s1 ⟨vs,H1,I1,r1,q1⟩=>?_) (by rw[hs,dW]) (by rw[dW];rfl)))
 obtain⟨i,j,e,⟨q1,q2,q3,q4⟩,q⟩:=q1
 subst e
 cases r1 with
 | cons r rr =>
  cases rr with
  | cons r' rr =>
   cases rr
   obtain⟨t,rfl⟩:=r
   obtain⟨t',rfl⟩:=r'
   exact call_range_2 (Kj I1 q1 q2 q3 q4 q)
noncomputable def U9(wi:TI)(g:TG)(tb:TS):TS:=λD σ H=>wi σ H λJ H1=>∃W:Nat->Nat->St->Hp->Prop,(∃m,W 0 m σ H1)/\∀i m σ H,W i m σ H ->
 (J.stop i H/\D.nx σ H)\/(J.go i H/\∃N:St->Hp->Prop,(∀aw H',N aw H'->∃m',m'<m/\W (i+1) m' aw H')/\∀x H',J.jv i H x H'->g x σ H' λi4 H2=>tb { D with nx:=N,ct:=N,bk:=D.nx } i4 H2)
noncomputable def vH(fp:List Addr)(h:Heap):List (Addr × Obj):=fp.filterMap λb=>(h.get? b).map λo=>(b,o)
theorem zB{fp:List Addr}{h:Heap}{b:Addr}{o:Obj}(hb:b∈fp)(e:h.get? b=some o):(b,o)∈vH fp h:=Tv.mpr ⟨b,hb,by rw[e];rfl⟩
theorem Va{fp:List Addr}{h:Heap}{p:Addr × Obj}(hp:p∈vH fp h):p.1∈fp/\h.get? p.1=some p.2:=by
 obtain⟨b,hb,e⟩:=Tv.mp hp
 cases q:h.get? b with
 | none=>rw[q]at e;cases e
 | some o =>
  rw[q]at e
  have e':(b,o)=p:=cX e
  subst e'
  exact⟨hb,q⟩
theorem Inv.pinned{pins:List (Addr × Obj)}{σ:St}{H:Hp}{s:Shared}{fp:List Addr}(I:Inv X pins σ H s)(hf:∀b∈fp,iw X pins H b)(ho:∀b∈fp,∃o,s.heap.get? b=some o/\∀v,o.data≠.cell v):Inv X (pins++vH fp s.heap) σ H s :=
 I.J2 λp hp=>(cS.mp hp).elim (λz=>I.pin p (dM _ z)) λz=>by
  obtain⟨hb,e⟩:=Va z
  obtain⟨f0,f1,f2,_⟩:=hf p.1 hb
  obtain⟨o,e',d⟩:=ho p.1 hb
  rw[e]at e';cases e'
  exact⟨e,f0,f1,f2,d⟩
theorem Inv.vI{pins pl:List (Addr × Obj)}{σ:St}{H:Hp}{s:Shared}(I:Inv X (pins++pl) σ H s):Inv X pins σ H s:=I.J2 λp hp=>I.pin p (dM _ (eB _ hp))
theorem Vb{iter:Expr}{body:List Stmt}{wi:TI}{g:TG}{tb:TS}{pos:Pos}(hp:PassesOwn (model X.prog X.w) X.A X.env X.xe)(hc:X.calm=true)(hi:PI X tg iter wi)(hg:PG X tg g)(hb:PSs X body tb)
  (hs:∀x,foldedSetIterable iter X.env x=pure x:=by intro _;rfl):PS X (.For tg iter body [] pos) (U9 wi g tb):=by
 intro pins s σ H D I h
 refine wpAny_For (aM (hi pins s σ H _ I h) λv s1 h1=>aM h1 λC8 s2 h2=>?_) hs
 obtain⟨it,fp,tn,J,H2,e,I2,T,nG,f2,W,⟨m0,w0⟩,turn⟩:=h2
 subst e
 have Dc:∀{H':Hp},(∀b∈fp,H' b=none)->∀b∈fp,iw X pins H' b:=λhn b hb=>⟨hn b hb,(f2 b hb).2⟩
 refine codeAny_forLoop_any (λn s'=>∃i aw H',Inv X pins aw H' s'/\tn i s'.heap/\(∀b∈fp,H' b=none)/\W i n aw H') ?_ m0 ⟨0,σ,H2,I2,nG,λb hb=>(f2 b hb).1,w0⟩
 rintro n s3 ⟨i,jT,H3,I3,vJ,De,w3⟩
 rcases turn i n jT H3 w3 with⟨stop,qn⟩ | ⟨go,N,hN,step⟩
 ·refine wpAny_passesOwn hp (aM (T.done X rfl rfl rfl hc i pins s3 jT H3 X.xe I3 (Dc De) vJ stop) λr s4 ⟨hr,I4⟩=>?_)
  subst hr
  exact wpAny_execs_nil ⟨jT,H3,I4,qn⟩
 ·refine wpAny_passesOwn hp (aM (T.item X rfl rfl rfl hc i pins s3 jT H3 X.xe I3 (Dc De) vJ go) λr s4 ⟨u,hr,h4⟩=>?_)
  subst hr
  refine wpAny_passesOwn hp (aM h4 λ_ s5 ⟨x,H5,I5,r5,y5,pk,vK⟩=>?_)
  have Df:=I5.pinned (Dc vK) (T.obj _ _ pk)
  refine wpAny_passesOwn hp (aM (hg _ s5 jT H5 x u _ Df r5 (step x H5 y5)) λ_ s6 ⟨zC,H6,I6,q6⟩=>?_)
  refine wpAny_passesOwn hp (aM (hb _ s6 zC H6 _ I6 q6) λf s7 q7=>?_)
  have again:∀{jU:St} {H7:Hp},Inv X (pins++vH fp s5.heap) jU H7 s7->N jU H7->∃m,m<n/\∃i aw H',Inv X pins aw H' s7/\tn i s7.heap/\(∀b∈fp,H' b=none)/\W i m aw H':=λ{jU H7} I7 n7=>by
   obtain⟨m',hm,w7⟩:=hN jU H7 n7
   refine⟨m',hm,i+1,jU,H7,I7.vI,T.keep _ _ _ pk λb hb o e=>(I7.pin (b,o) (dM _ (dM _ (zB hb e)))).1,λb hb=>?_,w7⟩
   obtain⟨o,e,d⟩:=T.obj _ _ pk b hb
   exact(I7.pin (b,o) (dM _ (dM _ (zB hb e)))).2.1
  cases f with
  | next=>obtain⟨jU,H7,I7,n7⟩:=q7;exact again I7 n7
  | cont=>obtain⟨jU,H7,I7,n7⟩:=q7;exact again I7 n7
  | brk=>obtain⟨jU,H7,I7,q7⟩:=q7;exact⟨jU,H7,I7.vI,q7⟩
  | ret v=>obtain⟨x7,jU,H7,I7,r7,q7⟩:=q7;exact⟨x7,jU,H7,I7.vI,r7,q7⟩
end
end L2
namespace L2
open PySem PySem.Spec PyProof.Rows
noncomputable abbrev R2:=V->V->Hp->VK->Prop
noncomputable def cn(X:Cx)(f:Value->Value->Sem Value)(r:R2):Prop :=
 ∀(pins:List (Addr × Obj)) (s:Shared) (σ:St) (H:Hp) (x y:V) (v u:Value) (Q:VK),Inv X pins σ H s->RelV x v->RelV y u->r x y H Q ->
  wpAny (model X.prog X.w) X.A (f v u) (EP X pins σ Q) X.xe s
noncomputable def Dg(X:Cx)(f:Value->Sem Value)(r:V->Hp->VK->Prop):Prop :=
 ∀(pins:List (Addr × Obj)) (s:Shared) (σ:St) (H:Hp) (x:V) (v:Value) (Q:VK),Inv X pins σ H s->RelV x v->r x H Q ->
  wpAny (model X.prog X.w) X.A (f v) (EP X pins σ Q) X.xe s
noncomputable def fQ(X:Cx)(f:Value)(r:List V->Hp->VK->Prop):Prop :=
 ∀(pins:List (Addr × Obj)) (s:Shared) (σ:St) (H:Hp) (xs:List V) (us:List Value) (Q:VK),Inv X pins σ H s->Vals xs us->r xs H Q ->
  wpAny (model X.prog X.w) X.A (call f us) (EP X pins σ Q) X.xe s
noncomputable def vL(r:R2)(ta tb:TE):TE:=λσ H Q=>ta σ H λx H1=>tb σ H1 λy H2=>r x y H2 Q
noncomputable def Vc(r:V->Hp->VK->Prop)(ta:TE):TE:=λσ H Q=>ta σ H λx H1=>r x H1 Q
noncomputable def rI(C:Int->Int->Prop)(g:Int->Int->V):R2:=λx y H Q=>∃i j,x=.int i/\y=.int j/\C i j/\Q (g i j) H
noncomputable def ix(g:Int->Int->V):R2:=λx y H Q=>∃i j,x=.int i/\y=.int j/\Q (g i j) H
noncomputable def rU(g:Int->V):V->Hp->VK->Prop:=λx H Q=>∃i,x=.int i/\Q (g i) H
section
variable{X:Cx}{a b c:Expr}{ta tb tc:TE}{pos:Pos}
theorem Dh(ha:PE X a ta)(hb:PE X b tb){pins:List (Addr × Obj)}{s:Shared}{σ:St}{H:Hp}{R:V->V->Hp->Prop}(I:Inv X pins σ H s)
  (h:ta σ H λx H1=>tb σ H1 λy H2=>R x y H2) {Q:Value->Shared->Prop} {f:Value->Value->Sem Value}
  (hf:∀v u s2 x y H2,Inv X pins σ H2 s2->RelV x v->RelV y u->R x y H2->wpAny (model X.prog X.w) X.A (f v u) Q X.xe s2) :
  wpAny (model X.prog X.w) X.A (eval a X.env) (λv bw=>wpAny (model X.prog X.w) X.A (eval b X.env) (λu i3=>wpAny (model X.prog X.w) X.A (f v u) Q X.xe i3) X.xe bw) X.xe s:=by
 refine aM (ha pins s σ H _ I h) λv s1 ⟨x,H1,I1,r1,q1⟩=>?_
 refine aM (hb pins s1 σ H1 _ I1 q1) λu s2 ⟨y,H2,I2,r2,q2⟩=>?_
 exact hf v u s2 x y H2 I2 r1 r2 q2
theorem vM{op:Operator}{r:R2}(ho:cn X (binaryOp op) r)(ha:PE X a ta)(hb:PE X b tb):PE X (.BinOp a op b pos) (vL r ta tb):=by
 intro pins s σ H Q I h
 exact wpAny_BinOp (Dh ha hb I h λv u s2 x y H2 I2 rx ry q=>ho pins s2 σ H2 x y v u Q I2 rx ry q)
theorem Vd{op:UnaryOp}{r:V->Hp->VK->Prop}(ho:Dg X (unaryOp op) r)(ha:PE X a ta):PE X (.UnaryOp op a pos) (Vc r ta):=by
 intro pins s σ H Q I h
 exact UnaryOp_ (aM (ha pins s σ H _ I h) λv s1 ⟨x,H1,I1,r1,q1⟩=>ho pins s1 σ H1 x v Q I1 r1 q1)
theorem vN{f:Value->Value->Sem Value}{C:Int->Int->Prop}{g:Int->Int->Int}
  (rule:∀(i j:Int) (t u:Tok) (s:Shared) (Q:Value->Shared->Prop) (E:Value->Shared->Prop),C i j->Q (.int (g i j) s.toks) { s with toks:=s.toks+1 }->wpAny (model X.prog X.w) X.A (f (.int i t) (.int j u)) Q E s) :
  cn X f (rI C λi j=>.int (g i j)):=by
 intro pins s σ H x y v u Q I rx ry h
 obtain⟨i,j,rfl,rfl,hc,q⟩:=h
 obtain⟨t,rfl⟩:=rx
 obtain⟨t',rfl⟩:=ry
 exact rule i j t t' s _ _ hc ⟨.int (g i j),H,I.tok _,⟨_,rfl⟩,q⟩
theorem pq{f:Value->Value->Sem Value}{g:Int->Int->Int}
  (rule:∀(i j:Int) (t u:Tok) (s:Shared) (Q:Value->Shared->Prop) (E:Value->Shared->Prop),Q (.int (g i j) s.toks) { s with toks:=s.toks+1 }->wpAny (model X.prog X.w) X.A (f (.int i t) (.int j u)) Q E s) :
  cn X f (ix λi j=>.int (g i j)):=by
 intro pins s σ H x y v u Q I rx ry h
 obtain⟨i,j,rfl,rfl,q⟩:=h
 obtain⟨t,rfl⟩:=rx
 obtain⟨t',rfl⟩:=ry
 exact rule i j t t' s _ _ ⟨.int (g i j),H,I.tok _,⟨_,rfl⟩,q⟩
theorem zD{f:Value->Value->Sem Value}{g:Int->Int->Bool}
  (rule:∀(i j:Int) (t u:Tok) (s:Shared) (Q:Value->Shared->Prop) (E:Value->Shared->Prop),Q (.bool (g i j)) s->wpAny (model X.prog X.w) X.A (f (.int i t) (.int j u)) Q E s) :
  cn X f (ix λi j=>.bl (g i j)):=by
 intro pins s σ H x y v u Q I rx ry h
 obtain⟨i,j,rfl,rfl,q⟩:=h
 obtain⟨t,rfl⟩:=rx
 obtain⟨t',rfl⟩:=ry
 exact rule i j t t' s _ _ ⟨.bl (g i j),H,I,rfl,q⟩
noncomputable def kC(i j:Int):Prop:=(-(2 ^ 64)<i/\i<2 ^ 64)\/(-(2 ^ 64)<j/\j<2 ^ 64)
theorem kC.ok{i j:Int}(h:kC i j):IntMulOk i j:=by
 rcases h with⟨h1,h2⟩ | ⟨h1,h2⟩
 ·exact .of_left (intBits_le_64 h1 h2)
 ·exact .of_right (intBits_le_64 h1 h2)
theorem Ve(k:Nat):(0:Int)<=2 ^ k:=by
 rw[two_pow_cast]
 exact Jw _
theorem Vf:cn X (binaryOp .Add) (ix λi j=>.int (i+j)):=pq λ_ _ _ _ _ _ _ q=>add_int q
theorem Di:cn X (binaryOp .Sub) (ix λi j=>.int (i-j)):=pq λ_ _ _ _ _ _ _ q=>sub_int q
theorem Vg:cn X (binaryOp .Mod) (rI (λ_ j=>0<j) λi j=>.int (i%j)):=vN λi j _ _ _ _ _ hc q=>by
 have h1:(0:Int)<j:=hc
 exact mod_int' (by omega) (by rw[Int.fmod_eq_emod_of_nonneg i (by omega)];exact q)
theorem Vh:cn X (binaryOp .RShift) (rI (λ_ j=>0<=j) λi j=>.int (i/2 ^ j.toNat)):=vN λi j _ _ _ _ _ hc q =>
 rshift_int hc (by rw[Tw i (Ve _)];exact q)
theorem Vi:cn X (binaryOp .BitAnd) (ix λi j=>.int (nk i j)):=pq λ_ _ _ _ _ _ _ q=>and_int q
theorem Vj:cn X (binaryOp .BitXor) (ix λi j=>.int (nq i j)):=pq λ_ _ _ _ _ _ _ q=>xor_int q
theorem Vk:cn X (inplaceOp .Add) (ix λi j=>.int (i+j)):=pq λ_ _ _ _ _ _ _ q=>iadd_int q
theorem Vl:cn X (inplaceOp .Sub) (ix λi j=>.int (i-j)):=pq λ_ _ _ _ _ _ _ q=>isub_int q
theorem Vm:cn X (inplaceOp .BitXor) (ix λi j=>.int (nq i j)):=pq λ_ _ _ _ _ _ _ q=>ixor_int q
theorem Vn{f:Value->Sem Value}{g:Int->Int}
  (rule:∀(i:Int) (t:Tok) (s:Shared) (Q:Value->Shared->Prop) (E:Value->Shared->Prop),Q (.int (g i) s.toks) { s with toks:=s.toks+1 }->wpAny (model X.prog X.w) X.A (f (.int i t)) Q E s) :
  Dg X f (rU λi=>.int (g i)):=by
 intro pins s σ H x v Q I rx h
 obtain⟨i,rfl,q⟩:=h
 obtain⟨t,rfl⟩:=rx
 exact rule i t s _ _ ⟨.int (g i),H,I.tok _,⟨_,rfl⟩,q⟩
theorem Vo:Dg X (unaryOp .USub) (rU λi=>.int (-i)):=Vn λ_ _ _ _ _ q=>neg_int q
end
section
variable{X:Cx}{a b c:Expr}{ta tb tc:TE}{pos:Pos}
theorem Vp{pins:List (Addr × Obj)}{σ:St}{H:Hp}{s:Shared}{Q:VK}{k k':Bool}(I:Inv X pins σ H s)(q:Q (.bl k) H)(e:k=k'):EP X pins σ Q (.bool k') s:=by
 subst e
 exact⟨.bl k,H,I,rfl,q⟩
theorem Vq:cn X (compareOp .Lt) (ix λi j=>.bl (decide (i<j))):=zD λ_ _ _ _ _ _ _ q=>lt_int q
theorem Vr:cn X (compareOp .LtE) (ix λi j=>.bl (decide (i<=j))):=zD λ_ _ _ _ _ _ _ q=>le_int q
theorem Vs:cn X (compareOp .Gt) (ix λi j=>.bl (decide (j<i))):=zD λ_ _ _ _ _ _ _ q=>gt_int q
theorem Vt:cn X (compareOp .GtE) (ix λi j=>.bl (decide (j<=i))):=zD λ_ _ _ _ _ _ _ q=>ge_int q
theorem Vu:cn X (compareOp .IsNot) (λx y H Q=>y=.ao/\Q (.bl (!decide (x=.ao))) H):=by
 intro pins s σ H x y v u Q I rx ry h
 obtain⟨rfl,q⟩:=h
 cases ry
 refine isnot_none_gen (Vp I q ?_)
 cases x<;>first
  | (cases rx;rfl)
  | (obtain⟨t,rfl⟩:=rx;rfl)
theorem cn.or{f:Value->Value->Sem Value}{r r':R2}(h:cn X f r)(h':cn X f r'):cn X f (λx y H Q=>r x y H Q\/r' x y H Q):=by
 intro pins s σ H x y v u Q I rx ry q
 rcases q with q | q
 ·exact h pins s σ H x y v u Q I rx ry q
 ·exact h' pins s σ H x y v u Q I rx ry q
theorem bJ(b:Expr){op:CmpOp}(h:op≠.In:=by decide)(h2:op≠.NotIn:=by decide):behindInMarks op b=false:=by
 have e1:(op==CmpOp.In)=false:=by cases op<;>first | rfl | exact absurd rfl h
 have e2:(op==CmpOp.NotIn)=false:=by cases op<;>first | rfl | exact absurd rfl h2
 cases b<;>simp[behindInMarks,e1,e2]
theorem Vv{op:CmpOp}{r:R2}(ho:cn X (compareOp op) r)(ha:PE X a ta)(hb:PE X b tb)(hm:behindInMarks op b=false):PE X (.Compare a [op] [b] pos) (vL r ta tb):=by
 intro pins s σ H Q I h
 exact wpAny_Compare1 (Dh ha hb I h λv u s2 x y H2 I2 rx ry q=>ho pins s2 σ H2 x y v u Q I2 rx ry q) hm
noncomputable def Kk(t:TE):TT:=λσ H Q=>t σ H λx H'=>∃k,x=.bl k/\Q k H'
theorem Vw{op:CmpOp}{r:R2}(ho:cn X (compareOp op) r)(ha:PE X a ta)(hb:PE X b tb)(hm:behindInMarks op b=false):PT X (.Compare a [op] [b] pos) (Kk (vL r ta tb)):=by
 intro pins s σ H Q I h
 refine wpAny_isTrue_Compare1 (aM (ha pins s σ H _ I h) λv s1 ⟨x,H1,I1,r1,q1⟩=>aM (hb pins s1 σ H1 _ I1 q1) λu s2 ⟨y,H2,I2,r2,q2⟩ =>
  aM (ho pins s2 σ H2 x y v u _ I2 r1 r2 q2) λc s3 ⟨z,H3,I3,r3,k,e,q3⟩=>?_) hm
 subst e
 cases r3
 exact wpAny_truthy_bool ⟨H3,I3,q3⟩
noncomputable def Kl(r r':R2)(ta tb tc:TE):TE:=λσ H Q=>ta σ H λx H1=>tb σ H1 λy H2=>r x y H2 λz H3=>∃k,z=.bl k /\
 (if k=true then tc σ H3 λw' H4=>r' y w' H4 Q else Q (.bl false) H3)
theorem Vx{op pz:CmpOp}{r r':R2}(ho:cn X (compareOp op) r)(jS:cn X (compareOp pz) r')(ha:PE X a ta)(hb:PE X b tb)(hc:PE X c tc)
  (hm:lastMarks [op,pz] [b,c]=false:=by with_unfolding_all rfl):PE X (.Compare a [op,pz] [b,c] pos) (Kl r r' ta tb tc):=by
 intro pins s σ H Q I h
 refine Compare_chain (aM (ha pins s σ H _ I h) λv s1 ⟨x,H1,I1,r1,q1⟩=>chain_link (aM (hb pins s1 σ H1 _ I1 q1) λu s2 ⟨y,H2,I2,r2,q2⟩ =>
  aM (ho pins s2 σ H2 x y v u _ I2 r1 r2 q2) λd s3 ⟨z,H3,I3,r3,k,e,q3⟩=>?_)) hm
 subst e
 cases r3
 refine wpAny_truthy_bool ?_
 cases k with
 | false=>exact ite_ff ⟨.bl false,H3,I3,rfl,q3⟩
 | true=>exact ite_tt (chain_last (aM (hc pins s3 σ H3 _ I3 q3) λw' s4 ⟨z',H4,I4,r4,q4⟩=>jS pins s4 σ H4 y z' u w' Q I4 r2 r4 q4))
theorem pB:(sizeLine:Nat)<2 ^ 63:=by rw[sizeLine_eq];decide
theorem Vy:cn X (binaryOp .Add) (λx y H Q=>∃i j,x=.str i/\y=.str j/\i.length+j.length<=sizeLine/\Q (.str (i++j)) H):=by
 intro pins s σ H x y v u Q I rx ry h
 obtain⟨i,j,rfl,rfl,hz,q⟩:=h
 obtain⟨t,rfl⟩:=rx
 obtain⟨t',rfl⟩:=ry
 exact add_str (λt' tk=>⟨.str (i++j),H,I.tok _,⟨_,rfl⟩,q⟩) hz
theorem zE{x:V}{us:List Value}(r:Vals [x] us):∃u,us=[u]/\RelV x u:=by
 cases r with
 | cons r1 r2=>cases r2;exact⟨_,rfl,r1⟩
theorem Vz{x y:V}{us:List Value}(r:Vals [x,y] us):∃u w',us=[u,w']/\RelV x u/\RelV y w':=by
 cases r with
 | cons r1 r2 =>
  cases r2 with
  | cons r3 r4=>cases r4;exact⟨_,_,rfl,r1,r3⟩
theorem VA(hc:X.calm=true):fQ X (.builtin "min") (λxs H Q=>∃i j,xs=[.int i,.int j]/\Q (.int (if j<i then j else i)) H):=by
 intro pins s σ H xs us Q I r h
 obtain⟨i,j,rfl,q⟩:=h
 obtain⟨u,w',rfl,⟨t,rfl⟩,⟨t',rfl⟩⟩:=Vz r
 refine min_two_ints (I.ok.hd hc) λh' tk k=>⟨_,H,I.kept k,?_,q⟩
 by_cases hj:j<i
 ·rw[if_pos hj,if_pos hj];exact⟨_,rfl⟩
 ·rw[if_neg hj,if_neg hj];exact⟨_,rfl⟩
theorem VB:fQ X (.type "str") (λxs H Q=>∃i,xs=[.int i]/\i.natAbs.log2<1920/\Q (.str (toString i)) H):=by
 intro pins s σ H xs us Q I r h
 obtain⟨i,rfl,hz,q⟩:=h
 obtain⟨u,rfl,t,rfl⟩:=zE r
 exact PySem.P.str_of_int hz ⟨.str _,H,I.tok _,⟨_,rfl⟩,q⟩
end
end L2
namespace L2
open PySem PySem.Spec PyProof.Rows
structure pE(h:Heap)(x dx C:Addr)(mA:Str->Option Value):Prop where
 obj:h.get? x=some (PySem.W.instObj C dx)
 ns:h.Ns1 dx mA
 ne:dx≠x
theorem VC{h:Heap}{dx:Addr}{mA:Str->Option Value}(n:h.Ns1 dx mA):∃od,h.get? dx=some od/\∀name,PySem.W.lookIn name od=some (mA name):=by
 obtain⟨o,es,ep,ho,hd,hk,_,hm⟩:=n
 refine⟨o,ho,λname=>?_⟩
 have e:=hm name
 unfold nsFind findBy at e
 rw[<-Array.find?_toList]at e
 unfold PySem.W.lookIn
 rw[hd]
 dsimp only
 split
 ·rename_i y q
  rw[q]at e
  exact congrArg some e
 ·rename_i q
  rw[q]at e
  have a:es.toList.any (·.refKey)=false:=by
   rw[List.any_eq_false]
   intro y hy
   obtain⟨z,t,VD⟩:=hk y (Array.mem_toList_iff.mp hy)
   simp[DictEntry.refKey,VD]
  have a':¬ es.toList.any (·.refKey)=true:=by rw[a];exact ig
  rw[if_neg a']
  exact congrArg some e
theorem pE.look{h:Heap}{x dx C:Addr}{mA:Str->Option Value}(I:pE h x dx C mA):∃od,PySem.W.InstAt h x (PySem.W.instObj C dx) C (some od)/\∀name,PySem.W.lookIn name od=some (mA name) :=
 let⟨od,ho,hl⟩:=VC I.ns
 ⟨od,⟨I.obj,rfl,rfl,ho⟩,hl⟩
section
variable{prog:Program}{w:World}{A:Around}{E:Value->Shared->Prop}{s:Shared}{K:PySem.W.Frag}{x dx C f:Addr}{mA:Str->Option Value}{name:Str}{v:Value}
theorem VE{expr:Bool}{Q:Value->Shared->Prop}(X:K.In s.heap)(I:pE s.heap x dx C mA)(hg:PySem.W.plainGet K C name=true)(hh:PySem.W.hasDictIn K C=true)
  (ha:PySem.W.findIn K (.ref C) name=some none) (hv:mA name=some v) (VF:PySem.W.handedIn v=true) (h:Q v { s with toks:=s.toks+1 }) :
  wpAny (model prog w) A (getAttr (.ref x) name expr) Q E s:=by
 obtain⟨od,J,hl⟩:=I.look
 exact PySem.W.get_value X J (PySem.W.plainGet_of hg).1 (PySem.W.findObj_own hh ha rfl (by rw[hl,hv])) VF h
theorem VG{pl:Sem Bool}{Q:Value × List Value->Shared->Prop}(X:K.In s.heap)(I:pE s.heap x dx C mA)(hg:PySem.W.plainGet K C name=true)
  (hf:PySem.W.findIn K (.ref C) name=some (some (.ref f))) (ht:PySem.W.isFn K (.ref f)=true) (hv:mA name=none) (h:Q (.ref f,[.ref x]) s) :
  wpAny (model prog w) A (getMethod (.ref x) name pl) Q E s:=by
 obtain⟨od,J,hl⟩:=I.look
 exact PySem.W.method_fn X J (PySem.W.plainGet_of hg).1 (PySem.W.plainGet_of hg).2 hf (beq_iff_eq.mp ht) (by show(PySem.W.lookIn name od).map (·.isSome)=some false;rw[hl,hv];rfl) h
theorem VH{ns:List Str}{Q:Unit->Shared->Prop}(X:K.In s.heap)(I:pE s.heap x dx C mA)
  (hs:PySem.W.findIn K (.ref C) "__setattr__"=some (some (.builtin "object.__setattr__"))) (hp:PySem.W.plainOver K C=true) (ht:PySem.W.takerIn K C name=some none) (hh:PySem.W.hasDictIn K C=true)
  (hw:PySem.Within mA ns) (kD:ns.length<=sizeLine)
  (h:∀h',pE h' x dx C (λy=>if y=name then some v else mA y)->Heap.SameBut dx s.heap h'->Q () { s with heap:=h',toks:=s.toks+2 }) :
  wpAny (model prog w) A (setAttr (.ref x) name v) Q E s:=by
 obtain⟨od,J,hl⟩:=I.look
 refine PySem.W.set_plain X J hs (PySem.W.osa_open (s:={ s with toks:=s.toks+1 }) (r:=none) X J hp ht λb=>?_)
 obtain⟨cd,hc,vx⟩:=PySem.W.any_some hh
 have hx:s.heap.get? x=some ⟨.ref C,some dx,.plain,#[]⟩:=I.obj
 refine wpAny_bind (wpAny_pure (wpAny_bind (wpAny_bind (wpAny_loadPart hx (wpAny_bind (PySem.W.Looks.here (s:={ s with toks:=s.toks+1 }) (PySem.W.looks_clsIn X hc) ?_))))))
 rw[vx]
 refine wpAny_pure (a:=some dx) (wpAny_bind (wpAny_pure (wpAny_bind ?_)))
 refine wpAny_nsSet1 (s:={ s with toks:=s.toks+1 }) I.ns λh' zF dW=>?_
 obtain⟨oD,esD,epD,VI,VJ,mn⟩:=zF.count (PySem.Within.cons name v hw)
 refine wpAny_bind (wpAny_lookBehind VI (by rw[VJ];exact pastItsLine_dict (eO mn (by rw[eX];omega))) ?_)
 exact wpAny_pure (h _ ⟨(dW.2 _ (dU I.ne)).trans I.obj,zF,I.ne⟩ dW)
theorem Km{R:Result->Shared->Prop}{vs:List Value}{kw:List (Str × Value)}(X:K.In s.heap)(hm:PySem.W.makesIn K C=true)
  (hi:PySem.W.findIn K (.ref C) "__init__"=some (some (.ref f))) (hf:PySem.W.typeIn K (.ref f)=some (.type "function"))
  (h:codeAny (model prog w) (A.under (.builtin "type.__call__" ⟨.ref C::vs,kw⟩)) (.call (.ref f) ⟨.ref (s.heap.objs.size+1)::vs,kw⟩) (PySem.W.InitBack (s.heap.objs.size+1) R)
   { s with heap:=(s.heap.push PySem.W.emptyDict).push (PySem.W.instObj C s.heap.objs.size) }) :
  codeAny (model prog w) A (.call (.ref C) ⟨vs,kw⟩) R s:=by
 obtain⟨hh,g,d,t,os⟩:=s
 exact PySem.W.make_core (PySem.W.makes_of X hm) (PySem.W.looks_findIn X hi) (λself=>PySem.W.bind_fn X self hf) (.inl rfl) h
end
noncomputable def bt(f:Str)(v:V):List (Str × V)->List (Str × V)
 | []=>[(f,v)]
 | (g,x)::r=>if g=f then(g,v)::r else(g,x)::bt f v r
theorem Kn(f g:Str)(v:V):∀fs:List (Str × V),(bt f v fs).lookup g=if g=f then some v else fs.lookup g
 | []=>by
  show kl g [(f,v)]=_
  by_cases h:g=f
  ·have hb:(g==f)=true:=beq_iff_eq.mpr h
   simp only[kl,hb,if_pos h]
  ·have hb:(g==f)=false:=beq_eq_false_iff_ne.mpr h
   simp only[kl,hb,if_neg h]
 | (k,x)::r=>by
  have ih:=Kn f g v r
  rw[show bt f v ((k,x)::r)=(if k=f then(k,v)::r else(k,x)::bt f v r) from rfl]
  by_cases hk:k=f
  ·rw[if_pos hk]
   by_cases h:g=k
   ·have hb:(g==k)=true:=beq_iff_eq.mpr h
    simp only[kl,hb,if_pos (h.trans hk)]
   ·have hb:(g==k)=false:=beq_eq_false_iff_ne.mpr h
    simp only[kl,hb,if_neg (λe:g=f=>h (e.trans hk.symm))]
  ·rw[if_neg hk]
   by_cases h:g=k
   ·have hb:(g==k)=true:=beq_iff_eq.mpr h
    simp only[kl,hb,if_neg (λe:g=f=>hk (h.symm.trans e))]
   ·have hb:(g==k)=false:=beq_eq_false_iff_ne.mpr h
    simp only[kl,hb]
    exact ih
theorem Dj(f:Str)(v:V):∀fs:List (Str × V),f∈(bt f v fs).map (·.1)/\∀g,g∈fs.map (·.1)->g∈(bt f v fs).map (·.1)
 | []=>⟨by simp[bt],λg h=>by simp at h⟩
 | (k,x)::r=>by
  obtain⟨i1,i2⟩:=Dj f v r
  rw[show bt f v ((k,x)::r)=(if k=f then(k,v)::r else(k,x)::bt f v r) from rfl]
  by_cases hk:k=f
  ·rw[if_pos hk]
   subst hk
   exact⟨by simp,λg h=>by simpa using h⟩
  ·rw[if_neg hk]
   refine⟨?_,λg h=>?_⟩
   ·rw[dN]
    exact fM _ i1
   ·rw[dN]at h ⊢
    rcases bR.mp h with e | e
    ·exact bR.mpr (.inl e)
    ·exact fM _ (i2 g e)
theorem Ko(f:Str)(v:V):∀fs:List (Str × V),(bt f v fs).length<=fs.length+1
 | []=>by simp[bt]
 | (k,x)::r=>by
  have ih:=Ko f v r
  rw[show bt f v ((k,x)::r)=(if k=f then(k,v)::r else(k,x)::bt f v r) from rfl]
  by_cases hk:k=f
  ·rw[if_pos hk,eX,eX];omega
  ·rw[if_neg hk,eX,eX];omega
theorem ku.some_of{v:V}{o:Option Value}(r:ku (some v) o):∃u,o=some u/\RelV v u:=by
 cases o with
 | none=>exact(show False from r).elim
 | some u=>exact⟨u,rfl,r⟩
theorem ku.none_of{o:Option Value}(r:ku none o):o=none:=by
 cases o with
 | none=>rfl
 | some u=>exact(show False from r).elim
theorem VL{v:V}{u:Value}(r:RelV v u):PySem.W.handedIn u=true:=by
 cases v with
 | ao=>cases(show u=oK from r);rfl
 | bl b=>cases(show u=Cd b from r);rfl
 | int i=>obtain⟨t,e⟩:=(show ∃t,u=oJ i t from r);cases e;rfl
 | str x=>obtain⟨t,e⟩:=(show ∃t,u=Value.str x t from r);cases e;rfl
 | zd b=>obtain⟨t,e⟩:=(show ∃t,u=Value.bytes b t from r);cases e;rfl
 | oZ b=>obtain⟨t,e⟩:=(show ∃t,u=Value.float b t from r);cases e;rfl
 | ref a=>cases(show u=cj a from r);rfl
 | ty n=>cases(show u=Value.type n from r);rfl
section
variable{P:Program}{w:World}{H H':Hp}{h h':Heap}{a C dx:Addr}{fs fs':List (Str × V)}
theorem zG(az:cu P w H h)(e:H a=some (.ins C dx fs)):∃mA,pE h a dx C mA/\(∀f,ku (fs.lookup f) (mA f))/\PySem.Within mA (fs.map (·.1))/\fs.length<=1000/\H dx=some (.own a):=by
 obtain⟨d,z,ne,ob,mA,n,r,q⟩:=(show dk P w H h a (.ins C dx fs) from az a _ e)
 exact⟨mA,⟨ob,n,ne⟩,r,q,z,d⟩
end
structure cB(K:PySem.W.Frag)(C:Addr):Prop where
 pg:PySem.W.plainGet K C km=true
 hd:PySem.W.hasDictIn K C=true
 po:PySem.W.plainOver K C=true
 sa:PySem.W.findIn K (.ref C) "__setattr__"=some (some (.builtin "object.__setattr__"))
theorem cB.get{K:PySem.W.Frag}{C:Addr}(c:cB K C)(f:Str):PySem.W.plainGet K C f=true:=c.pg
noncomputable def bj(K:PySem.W.Frag)(C:Addr)(f:Str):Prop:=PySem.W.findIn K (.ref C) f=some none
theorem bj.VM{K:PySem.W.Frag}{C:Addr}{f:Str}(n:bj K C f):PySem.W.takerIn K C f=some none:=by
 unfold PySem.W.takerIn
 rw[show PySem.W.findIn K (.ref C) f=some none from n]
 rfl
structure Meth(K:PySem.W.Frag)(C:Addr)(m:Str)(f:Addr):Prop where
 at_:PySem.W.findIn K (.ref C) m=some (some (.ref f))
 fn:PySem.W.isFn K (.ref f)=true
 kp:PySem.W.keepIn K (.ref f)=true
section
variable{X:Cx}{pins:List (Addr × Obj)}{σ:St}{H:Hp}{s:Shared}{a C dx:Addr}{fs:List (Str × V)}{f:Str}{v:V}{A:Around}{E:Value->Shared->Prop}
theorem VN{b:Bool}{Q:Value->Shared->Prop}(I:Inv X pins σ H s)(e:H a=some (.ins C dx fs))(c:cB X.K C)(n:bj X.K C f)(l:fs.lookup f=some v)
  (h:∀u s',Inv X pins σ H s'->RelV v u->Q u s'):wpAny (model X.prog X.w) A (getAttr (.ref a) f b) Q E s:=by
 obtain⟨mA,O,r,_,_,_⟩:=zG I.az e
 obtain⟨u,hu,ru⟩:=ku.some_of (v:=v) (o:=mA f) (by rw[<-l];exact r f)
 exact VE I.ck O (c.get f) c.hd n hu (VL ru) (h u _ (I.tok _) ru)
theorem zH{m:Str}{g:Addr}{pl:Sem Bool}{Q:Value × List Value->Shared->Prop}(I:Inv X pins σ H s)(e:H a=some (.ins C dx fs))(c:cB X.K C)(k:Meth X.K C m g)(l:fs.lookup m=none)
  (h:Q (.ref g,[.ref a]) s):wpAny (model X.prog X.w) A (getMethod (.ref a) m pl) Q E s:=by
 obtain⟨mA,O,r,_,_,_⟩:=zG I.az e
 have hn:mA m=none:=ku.none_of (by rw[<-l];exact r m)
 exact VG I.ck O (c.get m) k.at_ k.fn hn h
theorem VO{y:V}{u:Value}{Q:Unit->Shared->Prop}(I:Inv X pins σ H s)(e:H a=some (.ins C dx fs))(c:cB X.K C)(n:bj X.K C f)(hl:fs.length<1000)(ry:RelV y u)
  (h:∀s',Inv X pins σ (upd H a (.ins C dx (bt f y fs))) s'->Q () s'):wpAny (model X.prog X.w) A (setAttr (.ref a) f u) Q E s:=by
 obtain⟨mA,O,r,wi,_,ho⟩:=zG I.az e
 have hz:(fs.map (·.1)).length<=sizeLine:=by rw[bY,sizeLine_eq];omega
 refine VH I.ck O c.sa c.po n.VM c.hd wi hz λh' O' sb=>h _ ?_
 have hd:∃o,h'.get? dx=some o:=let⟨o,_,_,e',_⟩:=O'.ns;⟨o,e'⟩
 refine I.write (x:=a) (e:=dx) (by rw[e];exact q8) (.inr ho) (λb q hb z=>(sb.2 b hb).trans z) hd ?_
 refine⟨by rw[aO O.ne];exact ho,?_,O.ne,O'.obj,_,O'.ns,λg=>?_,λg hg=>?_⟩
 ·have:=Ko f y fs;omega
 ·show ku ((bt f y fs).lookup g) (if g=f then some u else mA g)
  rw[Kn]
  by_cases q:g=f
  ·rw[if_pos q,if_pos q];exact ry
  ·rw[if_neg q,if_neg q];exact r g
 ·by_cases q:g=f
  ·rw[q];exact(Dj f y fs).1
  ·refine(Dj f y fs).2 g (wi g λz=>hg ?_)
   show(if g=f then some u else mA g)=none
   rw[if_neg q];exact z
theorem Inv.made(I:Inv X pins σ H s):Inv X pins σ (upd (upd H s.heap.objs.size (.own (s.heap.objs.size+1))) (s.heap.objs.size+1) (.ins C s.heap.objs.size []))
  { s with heap:=(s.heap.push PySem.W.emptyDict).push (PySem.W.instObj C s.heap.objs.size) }:=by
 have e1:(s.heap.push PySem.W.emptyDict).get? s.heap.objs.size=some PySem.W.emptyDict:=gU s.heap rfl
 have e2:((s.heap.push PySem.W.emptyDict).push (PySem.W.instObj C s.heap.objs.size)).get? (s.heap.objs.size+1)=some (PySem.W.instObj C s.heap.objs.size):=by
  have:=gU (s.heap.push PySem.W.emptyDict) (o:=PySem.W.instObj C s.heap.objs.size) rfl
  rwa [u5]at this
 have e3:(s.heap.push PySem.W.emptyDict).Ns s.heap.objs.size (λ_=>none):=⟨PySem.W.emptyDict,#[],_,e1,rfl,(λe he=>absurd he (by simp)),λ_=>rfl⟩
 have I1:=I.laid (a:=s.heap.objs.size) (o:=.own (s.heap.objs.size+1)) (h':=s.heap.push PySem.W.emptyDict) (t':=s.toks) (λb u q=>eG _ q) (bG _) ⟨_,e1⟩
 refine I1.laid (a:=s.heap.objs.size+1) (o:=.ins C s.heap.objs.size []) (t':=s.toks) (λb u q=>eG _ q) (Ce (u5 _ _)) ?_
 have ne:s.heap.objs.size≠s.heap.objs.size+1:=eA (Cf _)
 refine⟨by rw[aO ne,bA],nr _,ne,e2,λ_=>none,(Heap.Ns1.of_empty e3).at λo q=>eG _ q,λ_=>q8,λy hy=>absurd rfl hy⟩
theorem VP{prog:Program}{w:World}{env:Env}{e:Expr}{f:Str}{pos:Pos}{s:Shared}{Q:Value->Shared->Prop}(hb:attributeBase e f env (eval e env)=eval e env)
  (h:wpAny (model prog w) A (eval e env) (λo bw=>wpAny (model prog w) A (getAttr o f true) Q E bw) E s):wpAny (model prog w) A (eval (.Attribute e f pos) env) Q E s :=
 Attribute_any_ h (by rw[arm_eval_Attribute,hb])
end
noncomputable def VQ(K:PySem.W.Frag)(ta:TE)(f:Str):TE:=λσ H Q=>ta σ H λx H1=>∃a C dx fs v,x=.ref a/\H1 a=some (.ins C dx fs)/\cB K C/\bj K C f/\fs.lookup f=some v/\Q v H1
noncomputable def VR(K:PySem.W.Frag)(ta tv:TE)(f:Str):TS:=λD σ H=>tv σ H λy H1=>ta σ H1 λx H2=>∃a C dx fs,x=.ref a/\H2 a=some (.ins C dx fs)/\cB K C/\bj K C f/\fs.length<1000 /\
 D.nx σ (upd H2 a (.ins C dx (bt f y fs)))
section
variable{X:Cx}{o e value:Expr}{f:Str}{pos pos' pF:Pos}{ta tv:TE}
theorem pG(he:PE X e ta)(hb:attributeBase e f X.env (eval e X.env)=eval e X.env):PE X (.Attribute e f pos) (VQ X.K ta f):=by
 intro pins s σ H Q I h
 refine VP hb (aM (he pins s σ H _ I h) λu s1 ⟨x,H1,I1,rx,a,C,dx,fs,v,ex,ea,c,n,l,q⟩=>?_)
 subst ex
 obtain rfl:u=cj a:=rx
 exact VN I1 ea c n l λu' s2 I2 ru=>⟨v,H1,I2,ru,q⟩
theorem gq(ha:PE X o ta)(hv:PE X value tv)(hs:swapsWith value (some (.Attribute o f pos')) pos.line X.env=pure false):PS X (.Assign [.Attribute o f pos'] value pos) (VR X.K ta tv f):=by
 intro pins s σ H D I h
 refine plainObj_wpAny_Assign_Attribute (aM (hv pins s σ H _ I h) λu s1 ⟨y,H1,I1,ry,q⟩=>aM (ha pins s1 σ H1 _ I1 q) λov s2 ⟨x,H2,I2,rx,a,C,dx,fs,ex,ea,c,n,l,q2⟩=>?_) hs
 subst ex
 obtain rfl:ov=cj a:=rx
 exact VO I2 ea c n l ry λs3 I3=>⟨σ,_,I3,q2⟩
end
section
variable{X:Cx}{pins:List (Addr × Obj)}{σ:St}{H:Hp}{s:Shared}{A:Around}{E:Value->Shared->Prop}{Q:Value->Shared->Prop}{c:Value}{b:Bool}
inductive gr(K:PySem.W.Frag)(H:Hp):V->Value->Prop where
 | ao:gr K H .ao (.type "NoneType")
 | bl (x:Bool):gr K H (.bl x) (.type "bool")
 | int (i:Int):gr K H (.int i) (.type "int")
 | str (x:Str):gr K H (.str x) (.type "str")
 | oZ (x:UInt64):gr K H (.oZ x) (.type "float")
 | lst {a:Addr} {xs:List V} (e:H a=some (.lst xs)):gr K H (.ref a) (.type "list")
 | br {a:Addr} {o:Obj} {xs:List V} (e:H a=some (.br o (.lst xs))):gr K H (.ref a) (.type "list")
 | tup {a:Addr} {xs:List V} (e:H a=some (.tup xs)):gr K H (.ref a) (.type "tuple")
 | dK {a:Addr} {df:List (Key × V)} (e:H a=some (.dK df)):gr K H (.ref a) (.type "dict")
 | dT {a:Addr} {df:List (List Key × V)} (e:H a=some (.dT df)):gr K H (.ref a) (.type "dict")
 | ins {a C dx:Addr} {fs:List (Str × V)} (e:H a=some (.ins C dx fs)) (cl:cB K C) (ha:PySem.W.findIn K (.ref C) "__class__"=some (some (.builtin "object.__class__")))
   (hn:PySem.W.specialIn K (.builtin "object.__class__") "__get__"=some (some (.builtin "getset_descriptor.__get__"))) (Kp:PySem.W.takesIn K (.builtin "object.__class__")=some true)
   (hm:PySem.W.mroIn K C (.type "object")=some true):gr K H (.ref a) (.ref C)
theorem Kq{x:V}{u t:Value}(I:Inv X pins σ H s)(rx:RelV x u)(ty:gr X.K H x t)(e:PySem.W.kitOne X.K t c=some b)(h:∀tk,Q (.bool b) { s with toks:=tk }) :
  wpAny (model X.prog X.w) A (call (.builtin "isinstance") [u,c]) Q E s:=by
 cases ty with
 | ao=>cases(show u=oK from rx);exact PySem.W.kia_one PySem.W.kitx_none I.ck q8 e (λz=>nomatch z) h
 | bl y=>cases(show u=Cd y from rx);exact PySem.W.kia_one PySem.W.kitx_bool I.ck q8 e (λz=>nomatch z) h
 | int i=>obtain⟨t,q⟩:=(show ∃t,u=oJ i t from rx);cases q;exact PySem.W.kia_one PySem.W.kitx_int I.ck q8 e (λz=>nomatch z) h
 | str y=>obtain⟨t,q⟩:=(show ∃t,u=Value.str y t from rx);cases q;exact PySem.W.kia_one PySem.W.kitx_str I.ck q8 e (λz=>nomatch z) h
 | oZ y=>obtain⟨t,q⟩:=(show ∃t,u=Value.float y t from rx);cases q;exact PySem.W.kia_one PySem.W.kitx_float I.ck q8 e (λz=>nomatch z) h
 | @lst a xs ea =>
  cases(show u=cj a from rx)
  obtain⟨_,_,n,_,h1⟩:=(show dk X.prog X.w H s.heap a (.lst xs) from I.az a _ ea)
  exact PySem.W.kia_one PySem.W.kitx_list I.ck ⟨_,h1,rfl⟩ e (λz=>nomatch z) h
 | @br a ob xs ea =>
  cases(show u=cj a from rx)
  obtain⟨_,_,_,n,_,h1⟩:=(show dk X.prog X.w H s.heap a (.br ob (.lst xs)) from I.az a _ ea)
  exact PySem.W.kia_one PySem.W.kitx_list I.ck ⟨_,h1,rfl⟩ e (λz=>nomatch z) h
 | @tup a xs ea =>
  cases(show u=cj a from rx)
  obtain⟨_,_,_,p⟩:=(show dk X.prog X.w H s.heap a (.tup xs) from I.az a _ ea)
  obtain⟨o,h1,h2,_⟩:=p
  exact PySem.W.kia_one PySem.W.kitx_tuple I.ck ⟨o,h1,h2⟩ e (λz=>nomatch z) h
 | @dK a df ea =>
  cases(show u=cj a from rx)
  obtain⟨_,_,vs,_,p⟩:=(show dk X.prog X.w H s.heap a (.dK df) from I.az a _ ea)
  obtain⟨o,es,ep,h1,h2,_⟩:=p
  exact PySem.W.kia_one PySem.W.kitx_dict I.ck ⟨o,h1,h2.1⟩ e (λz=>nomatch z) h
 | @dT a df ea =>
  cases(show u=cj a from rx)
  obtain⟨_,_,xs,_,o,es,ep,h1,h2,_⟩:=(show dk X.prog X.w H s.heap a (.dT df) from I.az a _ ea)
  exact PySem.W.kia_one PySem.W.kitx_dict I.ck ⟨o,h1,h2.1⟩ e (λz=>nomatch z) h
 | @ins a C dx fs ea cl ha hn Kp hm =>
  cases(show u=cj a from rx)
  obtain⟨mA,O,_⟩:=zG I.az ea
  obtain⟨od,J,_⟩:=O.look
  exact PySem.W.kia_one (PySem.W.kitx_own (cl.get _) cl.hd ha hn Kp hm) I.ck J e (λz=>nomatch z) h
end
end L2
namespace L2
open PySem PySem.Spec PyProof.Rows
structure bI(k:Nat)(A:Around):Prop where
 hd:A.handled=none
 dp:A.depth+3*k+5<recursionLimit
 un:A.units+16*k+200<cLine
theorem bI.mono{j k:Nat}{A:Around}(r:bI k A)(h:j<=k):bI j A:=⟨r.hd,by have:=r.dp;omega,by have:=r.un;omega⟩
theorem bI.deeper{k:Nat}{A:Around}(r:bI (k+1) A)(env:Env):bI k (A.deeper env) :=
 ⟨r.hd,by have:=r.dp;show A.depth+1+3*k+5<_;omega,by have:=r.un;show A.units+3+16*k+200<_;omega⟩
theorem VS{A:Around}{C:Addr}{us:List Value}{kw:List (Str × Value)}:(A.under (.builtin "type.__call__" ⟨.ref C::us,kw⟩)).depth=A.depth+1:=by
 first | rfl | simp[Around.under,Code.weight,Code.isCreation,Code.isGuard,Code.isCaller,Code.frames,Code.isFrame,guardIds]
theorem VT{A:Around}{C:Addr}{us:List Value}{kw:List (Str × Value)}:(A.under (.builtin "type.__call__" ⟨.ref C::us,kw⟩)).units=A.units+1:=by
 first | rfl | simp[Around.under,Code.cUnits,Code.frames,Code.isFrame]
theorem bI.make{k:Nat}{A:Around}(r:bI (k+1) A)(C:Addr)(us:List Value)(kw:List (Str × Value)):bI k (A.under (.builtin "type.__call__" ⟨.ref C::us,kw⟩)) :=
 ⟨r.hd,by have:=r.dp;rw[VS];omega,by have:=r.un;rw[VT];omega⟩
theorem bI.depth{k:Nat}{A:Around}(r:bI k A):A.depth<recursionLimit:=by have:=r.dp;omega
noncomputable def VU:TA:=λ_ H Q=>Q [] H
noncomputable def VV(ta:TE)(tr:TA):TA:=λσ H Q=>ta σ H λx H1=>tr σ H1 λxs H2=>Q (x::xs) H2
section
variable{X:Cx}{e:Expr}{es:List Expr}{te:TE}{t:TA}{pos:Pos}
theorem eR:PA X [] VU:=λ_ _ _ _ H Q I h=>Calls.spliced_nil ⟨[],H,I,.nil,h⟩
theorem cC(ha:PE X e te)(hr:PA X es t)(hs:starEach (e::es) X.env=(false,eval e X.env)::starEach es X.env:=by rfl):PA X (e::es) (VV te t):=by
 intro pos pins s σ H Q I h
 rw[hs]
 show wpAny _ _ (spliced ((false,eval e X.env)::backTo pos (starEach es X.env))) _ _ s
 refine Calls.spliced_cons (aM (ha pins s σ H _ I h) λu s1 ⟨x,H1,I1,r1,q1⟩=>?_)
 exact aM (hr pos pins s1 σ H1 _ I1 q1) λus s2 ⟨xs,H2,I2,r2,q2⟩=>⟨x::xs,H2,I2,.cons r1 r2,q2⟩
noncomputable def VW(t:TA):TE:=λσ H Q=>t σ H λxs H1=>xs.length<=sizeLine/\∀p,H1 p=none->Q (.ref p) (upd H1 p (.tup xs))
noncomputable def VX(t:TA):TE:=λσ H Q=>t σ H λxs H1=>xs.length<=sizeLine/\∀p,H1 p=none->Q (.ref p) (upd H1 p (.lst xs))
theorem VY{x1}(h:PA X es t):PE X (.Tuple es x1 pos) (VW t):=by
 intro pins s σ H Q I hq
 refine wpAny_Tuple_spliced (aM (h pos pins s σ H _ I hq) λus s1 ⟨xs,H1,I1,r,z,q⟩=>⟨by rw[<-r.length];exact z,?_⟩)
 have hf:H1 s1.heap.objs.size=none:=I1.az.fresh (bG _)
 refine⟨.ref s1.heap.objs.size,upd H1 s1.heap.objs.size (.tup xs),I1.laid (t':=s1.toks) (λb u e=>eG _ e) (bG _) ?_,rfl,q _ hf⟩
 exact⟨z,us,r,⟨_,gU _ rfl,rfl,_,rfl⟩⟩
theorem VZ(h:PA X es t):PE X (.List es pos) (VX t):=by
 intro pins s σ H Q I hq
 refine wpAny_List_spliced (aM (h pos pins s σ H _ I hq) λus s1 ⟨xs,H1,I1,r,z,q⟩=>⟨by rw[<-r.length];exact z,?_⟩)
 have hf:H1 s1.heap.objs.size=none:=I1.az.fresh (bG _)
 refine⟨.ref s1.heap.objs.size,upd H1 s1.heap.objs.size (.lst xs),I1.laid (t':=s1.toks) (λb u e=>eG _ e) (bG _) ?_,rfl,q _ hf⟩
 exact⟨z,us,0,r,gU _ rfl⟩
end
noncomputable abbrev Sp:=List V->Hp->VK->XK->Prop
noncomputable abbrev dB:=List Env->Hp->Shared->XK->Value->Shared->Prop
structure iy(P:Program)(w:World)(K:PySem.W.Frag)(mg:Str->Option Value)(base:Heap)(A:Around)(outer:List Env)(s:Shared)(H:Hp):Prop where
 frames:A.frames=some outer
 mod:Mod K mg base
 bs:∀b o,base.get? b=some o->s.heap.get? b=some o/\H b=none
 iq:base.objs.size<=s.heap.objs.size
 fj:s.heap.FunFrames base outer
 ir:∀b∈dh outer,H b=none
 az:cu P w H s.heap
 bare:AllBare s.gens
noncomputable def CE(outer:List Env)(P:Program)(w:World)(H:Hp)(s:Shared)(Q:VK)(u:Value)(s':Shared):Prop :=
 ∃v H',s'.os=s.os/\AllBare s'.gens/\Un (dh outer) [] H H' s.heap s'.heap/\cu P w H' s'.heap/\RelV v u/\Q v H'
noncomputable def CR(CX:dB)(outer:List Env)(P:Program)(w:World)(H:Hp)(s:Shared)(Q:VK)(E:XK)(r:Result)(s':Shared):Prop :=
 match r with
 | .ok (.ret u)=>CE outer P w H s Q u s'
 | .ok _=>False
 | .error e=>CX outer H s E e s'
structure aL(P:Program)(w:World)(K:PySem.W.Frag)(mg:Str->Option Value)(base:Heap)(CX:dB)(k:Nat)(f:Addr)(fd:FuncData)(ps:List Str)(sp:Sp):Prop where
 len:∀vs H Q E,sp vs H Q E->vs.length=ps.length
 run:∀(A:Around) (outer:List Env) (s:Shared) (H:Hp) (args:Args) (us:List Value) (vs:List V) (Q:VK) (E:XK),bI k A->iy P w K mg base A outer s H->BindsTo s fd args (ps.zip us)->Vals vs us->sp vs H Q E ->
  codeAny (model P w) A (.call (.ref f) args) (CR CX outer P w H s Q E) s
theorem aL.mono{P:Program}{w:World}{K:PySem.W.Frag}{mg:Str->Option Value}{base:Heap}{CX:dB}{j k:Nat}{f:Addr}{fd:FuncData}{ps:List Str}{sp:Sp}(F:aL P w K mg base CX j f fd ps sp)(h:j<=k) :
  aL P w K mg base CX k f fd ps sp:=⟨F.len,λA outer s H args us vs Q E hr=>F.run A outer s H args us vs Q E (hr.mono h)⟩
theorem aL.imp{P:Program}{w:World}{K:PySem.W.Frag}{mg:Str->Option Value}{base:Heap}{CX:dB}{k:Nat}{f:Addr}{fd:FuncData}{ps:List Str}{sp Kr:Sp}(F:aL P w K mg base CX k f fd ps sp)
  (h:∀vs H Q E,Kr vs H Q E->sp vs H Q E):aL P w K mg base CX k f fd ps Kr :=
 ⟨λvs H Q E q=>F.len vs H Q E (h _ _ _ _ q),λA outer s H args us vs Q E hr he hb hv hs=>F.run A outer s H args us vs Q E hr he hb hv (h _ _ _ _ hs)⟩
theorem iy.make{P:Program}{w:World}{K:PySem.W.Frag}{mg:Str->Option Value}{base:Heap}{A:Around}{outer:List Env}{s:Shared}{H:Hp}(e:iy P w K mg base A outer s H)(C:Addr)(us:List Value)(kw:List (Str × Value)) :
  iy P w K mg base (A.under (.builtin "type.__call__" ⟨.ref C::us,kw⟩)) outer s H:=⟨by first | exact e.frames | (simpa[Around.under,Code.envs,Code.isFrame,pushEnvs]using e.frames),e.mod,e.bs,e.iq,e.fj,e.ir,e.az,e.bare⟩
section
variable{X:Cx}{pins:List (Addr × Obj)}{σ:St}{H:Hp}{s s':Shared}
theorem Inv.rD(I:Inv X pins σ H s):iy X.prog X.w X.K X.mg X.base X.A X.stack s H :=
 ⟨I.ok.frames,I.ok.mod,I.bs,eO I.ok.iq I.sz,I.stack,I.zh,I.az,I.bare⟩
theorem Inv.after{Q:VK}{u:Value}(I:Inv X pins σ H s)(h:CE X.stack X.prog X.w H s Q u s'):EP X pins σ Q u s':=by
 obtain⟨v,H',os,bare,un,az,r,q⟩:=h
 obtain⟨hh,g,d,t,V0⟩:=s'
 obtain rfl:V0=s.os:=os
 exact⟨v,H',I.call (h':=hh) (g':=g) (d':=d) (t':=t) (ch:=[]) un az bare (λb z=>absurd z (by simp)),r,q⟩
end
noncomputable def V1(sp:Sp)(dX:List V)(E:XK)(t:TA):TE:=λσ H Q=>t σ H λvs H1=>sp (vs++dX) H1 Q E
noncomputable def V2(C:Addr)(m:Str)(sp:Sp)(dX:List V)(E:XK)(ta:TE)(t:TA):TE:=λσ H Q=>ta σ H λx H1=>∃a dx fs,x=.ref a/\H1 a=some (.ins C dx fs)/\fs.lookup m=none /\
 t σ H1 λvs H2=>sp (x::(vs++dX)) H2 Q E
noncomputable def V3(C:Addr)(sp:Sp)(dX:List V)(E:XK)(t:TA):TE:=λσ H Q=>t σ H λvs H1=>∀x dx,H1 x=none->H1 dx=none->dx≠x ->
 sp (.ref x::(vs++dX)) (upd (upd H1 dx (.own x)) x (.ins C dx [])) (λv H2=>v=.ao/\Q (.ref x) H2) E
noncomputable def Binds(K:PySem.W.Frag)(fd:FuncData)(ps:List Str)(ds:List Value):Prop :=
 ∀(s:Shared) (us:List Value),K.In s.heap->(us++ds).length=ps.length->BindsTo s fd ⟨us,[]⟩ (ps.zip (us++ds))
theorem Binds.all{K:PySem.W.Frag}{fd:FuncData}{ps:List Str}(h:∀us:List Value,us.length=ps.length->bindArgs fd ⟨us,[]⟩=pure (ps.zip us)):Binds K fd ps []:=λs us _ hl=>by
 rw[fO]at hl ⊢
 exact .of_eq (h us hl)
noncomputable def i5(CX:dB)(X:Cx)(E:XK):Prop:=∀(pins:List (Addr × Obj)) (σ:St) (H:Hp) (s:Shared) (e:Value) (s':Shared),Inv X pins σ H s->CX X.stack H s E e s'->X.xe e s'
section
variable{X:Cx}{CX:dB}{k:Nat}{f C:Addr}{fd:FuncData}{ps:List Str}{sp:Sp}{dX:List V}{ds:List Value}{E:XK}{x m:Str}{p pos apos:Pos}{e o:Expr}{es:List Expr}{ta:TE}{t:TA}
theorem rE{pins:List (Addr × Obj)}{σ:St}{H:Hp}{s:Shared}{Q:VK}{us:List Value}{vs:List V}(F:aL X.prog X.w X.K X.mg X.base CX k f fd ps sp)(hr:bI k X.A)(hb:Binds X.K fd ps ds)(hd:Vals dX ds)(hx:i5 CX X E)
  (I:Inv X pins σ H s) (r:Vals vs us) (h:sp (vs++dX) H Q E):wpAny (model X.prog X.w) X.A (call (.ref f) us) (EP X pins σ Q) X.xe s:=by
 have r2:Vals (vs++dX) (us++ds):=r.append hd
 have hl:(us++ds).length=ps.length:=by rw[<-r2.length];exact F.len _ _ _ _ h
 refine wpAny_call (codeAny_mono (F.run X.A X.stack s H ⟨us,[]⟩ (us++ds) (vs++dX) Q E hr I.rD (hb s us I.ck hl) r2 h) λr s' hq=>?_)
 cases r with
 | error e=>exact hx pins σ H s e s' I hq
 | ok fl =>
  cases fl with
  | ret u=>exact I.after hq
  | next=>exact eC hq
  | brk=>exact eC hq
  | cont=>exact eC hq
theorem jw(F:aL X.prog X.w X.K X.mg X.base CX k f fd ps sp)(hr:bI k X.A)(hg:Gl X x)(hm:X.mg x=some (.ref f))(hk:PySem.W.keepIn X.K (.ref f)=true)(hb:Binds X.K fd ps ds)(hd:Vals dX ds)(hx:i5 CX X E)
  (ha:PA X (e::es) t) (cE:(x==("__debug__":Str))=false:=by decide) (he:starEach (e::es) X.env=(false,eval e X.env)::starEach es X.env:=by rfl) (bg:(backTo pos (starEach es X.env)).any (·.1)=false:=by rfl) :
  PE X (.Call (.Name x p) (e::es) [] pos) (V1 sp dX E t):=by
 intro pins s σ H Q I h
 refine wpAny_Call_Name_kw (ph I hg hm ?_ cE)
 refine PySem.W.callWith_K (h₀:=X.base) I.ok.mod.kz hk (aM (ha pos pins s σ H _ I h) λus s1 ⟨vs,H1,I1,r,q⟩=>⟨I1.ck,?_⟩) he bg
 exact rE F hr hb hd hx I1 r q
theorem V4{pl:Sem Bool}(he:PE X o ta)(c:cB X.K C)(hm:Meth X.K C m f)(F:aL X.prog X.w X.K X.mg X.base CX k f fd ps sp)(hr:bI k X.A)(hb:Binds X.K fd ps ds)(hd:Vals dX ds)(hx:i5 CX X E)(ha:PA X (e::es) t)
  (bS:starEach (e::es) X.env=(false,eval e X.env)::starEach es X.env:=by rfl) (bg:(backTo pos (starEach es X.env)).any (·.1)=false:=by rfl)
  (ht:eval (.Call (.Attribute o m apos) (e::es) [] pos) X.env=(do
   let ov<-eval o X.env
   standAt apos.atName
   let (f,first)<-holding [ov] (getMethod ov m pl)
   callWith pos f first (backTo pos (starEach (e::es) X.env)) (backToKw pos (keywordEach [] X.env))):=by rfl) :
  PE X (.Call (.Attribute o m apos) (e::es) [] pos) (V2 C m sp dX E ta t):=by
 intro pins s σ H Q I h
 refine PySem.W.methodCall_KW (pl:=pl) (aM (he pins s σ H _ I h) λu s1 ⟨x,H1,I1,rx,a,dx,fs,ex,ea,l,q⟩=>?_) ht
 subst ex
 obtain rfl:u=cj a:=rx
 refine zH I1 ea c hm l ?_
 refine PySem.W.callWith_K (first:=[.ref a]) (h₀:=X.base) I.ok.mod.kz hm.kp (aM (ha pos pins s1 σ H1 _ I1 q) λus s2 ⟨vs,H2,I2,r,q2⟩=>⟨I2.ck,?_⟩) bS bg
 exact rE (us:=.ref a::us) (vs:=.ref a::vs) F hr hb hd hx I2 (.cons rfl r) q2
structure Mk(K:PySem.W.Frag)(C f:Addr):Prop where
 makes:PySem.W.makesIn K C=true
 init:PySem.W.findIn K (.ref C) "__init__"=some (some (.ref f))
 fn:PySem.W.isFn K (.ref f)=true
 kp:PySem.W.keepIn K (.ref C)=true
theorem V5{pins:List (Addr × Obj)}{σ:St}{H:Hp}{s:Shared}{Q:VK}{us:List Value}{vs:List V}(M:Mk X.K C f)(F:aL X.prog X.w X.K X.mg X.base CX k f fd ps sp)(hr:bI (k+1) X.A)(hb:Binds X.K fd ps ds)(hd:Vals dX ds)
  (hx:i5 CX X E) (I:Inv X pins σ H s) (r:Vals vs us)
  (h:∀x dx,H x=none->H dx=none->dx≠x->sp (.ref x::(vs++dX)) (upd (upd H dx (.own x)) x (.ins C dx [])) (λv H2=>v=.ao/\Q (.ref x) H2) E) :
  wpAny (model X.prog X.w) X.A (call (.ref C) us) (EP X pins σ Q) X.xe s:=by
 have hq:=h (s.heap.objs.size+1) s.heap.objs.size (I.az.fresh (Nat.le_succ _)) (I.az.fresh (bG _)) (eA (Cf _))
 have I2:=Inv.made (C:=C) I
 have r2:Vals (V.ref (s.heap.objs.size+1)::(vs++dX)) (cj (s.heap.objs.size+1)::(us++ds)):=.cons rfl (r.append hd)
 have hl:(cj (s.heap.objs.size+1)::us++ds).length=ps.length:=by
  have e:=r2.length
  rw[F.len _ _ _ _ hq]at e
  exact e.symm
 refine wpAny_call (Km (f:=f) I.ck M.makes M.init (beq_iff_eq.mp M.fn) (codeAny_mono (F.run _ X.stack _ _ ⟨cj (s.heap.objs.size+1)::us,[]⟩ (cj (s.heap.objs.size+1)::(us++ds)) _ _ E (hr.make C us [])
  (I2.rD.make C us []) (hb _ (cj (s.heap.objs.size+1)::us) I2.ck hl) r2 hq) λr s' gX=>?_))
 cases r with
 | error e=>exact hx pins σ _ _ e s' I2 gX
 | ok fl =>
  cases fl with
  | ret u =>
   obtain⟨v,H',I3,rv,ev,q3⟩:=I2.after gX
   subst ev
   exact⟨rv,⟨V.ref (s.heap.objs.size+1),H',I3,rfl,q3⟩⟩
  | next=>exact eC gX
  | brk=>exact eC gX
  | cont=>exact eC gX
theorem Dk(M:Mk X.K C f)(F:aL X.prog X.w X.K X.mg X.base CX k f fd ps sp)(hr:bI (k+1) X.A)(hg:Gl X x)(hm:X.mg x=some (.ref C))(hb:Binds X.K fd ps ds)(hd:Vals dX ds)(hx:i5 CX X E)
  (ha:PA X (e::es) t) (cE:(x==("__debug__":Str))=false:=by decide) (he:starEach (e::es) X.env=(false,eval e X.env)::starEach es X.env:=by rfl) (bg:(backTo pos (starEach es X.env)).any (·.1)=false:=by rfl) :
  PE X (.Call (.Name x p) (e::es) [] pos) (V3 C sp dX E t):=by
 intro pins s σ H Q I h
 refine wpAny_Call_Name_kw (ph I hg hm ?_ cE)
 refine PySem.W.callWith_K (h₀:=X.base) I.ok.mod.kz M.kp (aM (ha pos pins s σ H _ I h) λus s1 ⟨vs,H1,I1,r,q⟩=>⟨I1.ck,?_⟩) he bg
 exact V5 M F hr hb hd hx I1 r q
end
section
variable{X:Cx}{CX:dB}{k:Nat}{f C:Addr}{fd:FuncData}{ps ks:List Str}{sp:Sp}{E:XK}{x m:Str}{p pos apos dC7:Pos}{e o:Expr}{es:List Expr}{kws:List Keyword}{te ta:TE}{t tk:TA}{nm:Option Str}
variable{g:List Value->List Value->List Value}{gV:List V->List V->List V}
end
structure aY(N P:List Str)(sc:Scope):Prop where
 kind:sc.kind=.function
 co:sc.isCoroutine=false
 gen:sc.isGenerator=false
 nd:N.Nodup
 pre:N.take P.length=P
 par:∀x∈P,sc.names.lookup x=some .local\/sc.names.lookup x=some .cell
 V6:∀y∈sc.names,y.2≠.free
theorem Ks{kindOf:Str->Option NameKind}{x:Str}:∀{binds:List (Str × Value)} {m:Str->Option Value},(∀v,(x,v) ∉ binds)->bindL kindOf binds m x=m x
 | [],_,_=>rfl
 | (n,v)::r,m,h=>by
  unfold bindL
  rw[Ks λw hw=>h w (fM _ hw)]
  split
  ·have:x≠n:=by rintro rfl;exact h v kj
   simp[this]
  ·rfl
theorem Kt{kindOf:Str->Option NameKind}{x:Str}:∀{binds:List (Str × Value)} {m:Str->Option Value},(∀v,(x,v) ∉ binds)->bindC kindOf binds m x=m x
 | [],_,_=>rfl
 | (n,v)::r,m,h=>by
  unfold bindC
  rw[Kt λw hw=>h w (fM _ hw)]
  split
  ·rfl
  ·have:x≠n:=by rintro rfl;exact h v kj
   simp[this]
theorem Ku{kindOf:Str->Option NameKind}{x:Str}{v:Value}:∀{P:List Str} {vs:List Value} {i:Nat} {m:Str->Option Value},P.Nodup->P[i]?=some x->vs[i]?=some v->kindOf x=some .local ->
  bindL kindOf (P.zip vs) m x=some v
 | [],_,_,_,_,h,_,_=>by simp at h
 | _::_,[],_,_,_,_,h,_=>by simp at h
 | p::P,w::vs,0,m,nd,h1,h2,hk=>by
  simp at h1 h2;subst h1;subst h2
  show bindL kindOf ((p,w)::P.zip vs) m p=_
  unfold bindL
  rw[Ks λv hv=>(js.mp nd).1 (yG hv).1,if_pos hk]
  simp
 | p::P,w::vs,i+1,m,nd,h1,h2,hk=>by
  show bindL kindOf ((p,w)::P.zip vs) m x=_
  unfold bindL
  exact Ku (i:=i) (js.mp nd).2 (by simpa using h1) (by simpa using h2) hk
theorem Kv{kindOf:Str->Option NameKind}{x:Str}{v:Value}:∀{P:List Str} {vs:List Value} {i:Nat} {m:Str->Option Value},P.Nodup->P[i]?=some x->vs[i]?=some v->kindOf x≠some .local ->
  bindC kindOf (P.zip vs) m x=some v
 | [],_,_,_,_,h,_,_=>by simp at h
 | _::_,[],_,_,_,_,h,_=>by simp at h
 | p::P,w::vs,0,m,nd,h1,h2,hk=>by
  simp at h1 h2;subst h1;subst h2
  show bindC kindOf ((p,w)::P.zip vs) m p=_
  unfold bindC
  rw[Kt λv hv=>(js.mp nd).1 (yG hv).1,if_neg hk]
  simp
 | p::P,w::vs,i+1,m,nd,h1,h2,hk=>by
  show bindC kindOf ((p,w)::P.zip vs) m x=_
  unfold bindC
  exact Kv (i:=i) (js.mp nd).2 (by simpa using h1) (by simpa using h2) hk
noncomputable def start(N:List Str)(vs:List V):St:=vs.map some++aX (N.length-vs.length) none
noncomputable def fS(CX:dB)(P:Program)(w:World)(K:PySem.W.Frag)(mg:Str->Option Value)(base:Heap)(N:List Str)(qual:Str)(scope:Scope)(f:Addr)(cd:Value)(A:Around)(outer:List Env)(s:Shared)(H:Hp)(E:XK):Cx where
 prog:=P
 w:=w
 K:=K
 mg:=mg
 base:=base
 A:=A.deeper (envOfC qual scope s.heap.objs.size f cd)
 N:=N
 b8:=s
 iZ:=H
 env:=envOfC qual scope s.heap.objs.size f cd
 outer:=outer
 stack:=envOfC qual scope s.heap.objs.size f cd::outer
 ex:=[]
 calm:=true
 fn:=λ_=>true
 pn:=[]
 xe:=λe s'=>wpAny (model P w) (A.deeper (envOfC qual scope s.heap.objs.size f cd)) (leaving (envOfC qual scope s.heap.objs.size f cd) e) (λ_ pH=>CX outer H s E e pH) (λe' pH=>CX outer H s E e' pH) s'
theorem Kw{sc:Scope}{n:Nat}{x:Str}(h:sc.names.lookup x=some .cell):∃c,(cellsFrom n sc.names []).lookup x=some c:=by
 have q:=PySem.W.cellsFrom_some sc.names n [] (.inl h)
 exact yH.mp q
theorem V7{CX:dB}{P:Program}{w:World}{K:PySem.W.Frag}{mg:Str->Option Value}{base:Heap}{N ps:List Str}{qual:Str}{scope:Scope}{f:Addr}{cd:Value}{A:Around}{outer:List Env}{s s1:Shared}{H:Hp}{E:XK}{us:List Value}{vs:List V}
  (S:aY N ps scope) (hd:A.handled=none) (e0:iy P w K mg base A outer s H) (hl:vs.length=ps.length) (r:Vals vs us)
  (x:InCallC s s.heap.objs.size (bindL (envOfC qual scope s.heap.objs.size f cd).kindOf (ps.zip us) λ_=>none) (cellsFrom (s.heap.objs.size+1) scope.names []) (bindC (envOfC qual scope s.heap.objs.size f cd).kindOf (ps.zip us) λ_=>none) s1) :
  Inv (fS CX P w K mg base N qual scope f cd A outer s H E) [] (start N vs) H s1:=by
 have bg:ps.length<=N.length:=by have:=congrArg Cg S.pre;rw[lH]at this;omega
 obtain⟨h1,tk,rfl,hk⟩:=x.done
 have vO:∀b:Addr,b ∉ (fS CX P w K mg base N qual scope f cd A outer s H E).ex:=λb z=>absurd (show b∈([]:List Addr) from z) (by simp)
 refine⟨⟨e0.mod,S.kind,rfl,rfl,bG _,λy z c h1 h2=>?_,λy hy=>?_,λy c _ h=>?_,λ_=>hd,Around.frames_deeper e0.frames,.inr ⟨rfl,rfl⟩,λb z=>absurd z (vO b),e0.bs,e0.iq,λb _ _=>vO b,λb z=>absurd z (vO b),e0.fj,e0.ir⟩,
  rfl,e0.bare,Un.kept hk,⟨_,x.toInCall.ns,λi y v h1 h2 h3=>?_⟩,λy c h=>⟨_,x.cell y c h⟩,e0.az.fresh (bG _),λy c h=>?_,λp hp=>absurd (show p∈([]:List (Addr × Obj)) from hp) (by simp),e0.az.kept hk,?_⟩
 ·exact name_of_addr x.apart (PySem.mem_of_lookup h1) (PySem.mem_of_lookup h2)
 ·have hy:scope.names.lookup y=some .cell\/scope.names.lookup y=some .free:=hy
  rcases hy with hy | hy
  ·exact Kw hy
  ·exact absurd rfl (S.V6 _ (PySem.mem_of_lookup hy))
 ·exact yD (x.above y c (PySem.mem_of_lookup h))
 ·have hi:i<vs.length:=by
   unfold start at h2
   by_cases hi:i<vs.length
   ·exact hi
   ·rw[yI (by simpa using hi)]at h2
    rw[u6]at h2
    split at h2<;>cases h2
  have ha:vs[i]?=some v:=by
   unfold start at h2
   rw[Ci (by simpa using hi),cP]at h2
   cases e:vs[i]? with
   | none=>rw[e]at h2;cases h2
   | some a=>rw[e]at h2;cases h2;rfl
  obtain⟨u,hu,rv⟩:=r.get ha
  have hp:ps[i]?=some y:=by
   rw[<-S.pre,List.getElem?_take_of_lt (by omega)];exact h1
  have Kx:ps.Nodup:=by rw[<-S.pre];exact S.nd.sublist (List.take_sublist _ _)
  refine⟨u,rv,?_⟩
  rcases S.par y (q9 hp)with k | k
  ·exact .inl ⟨k,Ku Kx hp hu k⟩
  ·obtain⟨c,e⟩:=Kw (n:=s.heap.objs.size+1) k
   refine .inr ⟨.inl k,c,e,?_⟩
   have q:=x.cell y c e
   rw[Kv Kx hp hu (by show scope.names.lookup y≠_;rw[k];decide)]at q
   exact q
 ·exact e0.az.fresh (yD (x.above y c (PySem.mem_of_lookup h)))
 ·unfold start
  show _=N.length
  rw[iX,bY,jM]
  omega
theorem vP{CX:dB}{P:Program}{w:World}{K:PySem.W.Frag}{mg:Str->Option Value}{base:Heap}{k:Nat}{f:Addr}{name qual:Str}{params:Arguments}{body:List Stmt}{scope:Scope}{dV kV doc pm ax ct oc:Value}{an od:Option Addr}
  {fU:Array (Option Value)} {N ps:List Str} {sp:Sp} (lk:K.lookup f=some ⟨oc,od,.func (PySem.W.fnOf name qual params body scope dV kV doc pm an ax ct),fU⟩) (cm:PySem.W.codeIn K ax qual=true) (S:aY N ps scope)
  (len:∀vs H Q E,sp vs H Q E->vs.length=ps.length)
  (fm:∀(A:Around) (outer:List Env) (s:Shared) (H:Hp) (vs:List V) (Q:VK) (E:XK),bI k (A.deeper (envOfC qual scope s.heap.objs.size f ax))->sp vs H Q E ->
   ∃t,PSs (fS CX P w K mg base N qual scope f ax A outer s H E) body t/\t { nx:=λ_ H'=>Q .ao H',rt:=Q } (start N vs) H) :
  aL P w K mg base CX (k+1) f (PySem.W.fnOf name qual params body scope dV kV doc pm an ax ct) ps sp:=by
 refine⟨len,λA outer s H args us vs Q E hr e0 hb r gu=>?_⟩
 have hl:=len _ _ _ _ gu
 have KX:K.In s.heap:=e0.mod.kz.keeps λb o e=>(e0.bs b o e).1
 have lim:s.heap.NoLimit:=e0.mod.nolimit.keeps λb o e=>(e0.bs b o e).1
 have gv:∀y∈ps.zip us,scope.names.lookup y.1=some .local\/(scope.names.lookup y.1=some .cell/\((cellsFrom (s.heap.objs.size+1) scope.names []).lookup y.1).isSome=true):=λ⟨n,v⟩ hy=>by
  rcases S.par n (yG hy).1 with q | q
  ·exact .inl q
  ·exact .inr ⟨q,PySem.W.cellsFrom_some _ _ _ (.inl q)⟩
 refine codeAny_call_function hr.depth (KX _ _ lk) rfl S.co S.gen rfl (PySem.W.codeRec_of KX cm) (hb _ _ _ _ ?_)
 refine wpAny_newFunctionEnv_cells S.kind gv λenv he s1 x=>?_
 subst he
 refine⟨lim.keeps x.toInCall.keep,codeAny_func ?_⟩
 obtain⟨t,ht,hq⟩:=fm A outer s H vs Q E (hr.deeper _) gu
 have I:Inv (fS CX P w K mg base N qual scope f ax A outer s H E) [] (start N vs) H s1:=V7 S hr.hd e0 hl r x
 refine wpAny_mono (ht [] s1 (start N vs) H _ I hq) (λfl s' hs=>?_) λe s' hs=>hs
 have fin:∀{aw:St} {H':Hp} {v:V} {u:Value},Inv (fS CX P w K mg base N qual scope f ax A outer s H E) [] aw H' s'->RelV v u->Q v H'->CE outer P w H s Q u s' :=
  λ{aw H' v u} J rv q=>⟨v,H',J.os,J.bare,J.base,J.az,rv,q⟩
 cases fl with
 | ret u =>
  obtain⟨v,aw,H',J,rv,q⟩:=hs
  exact fin J rv q
 | next =>
  obtain⟨aw,H',J,q⟩:=hs
  exact fin (v:=V.ao) (u:=oK) J rfl q
 | brk =>
  obtain⟨_,_,_,q⟩:=hs
  exact eC q
 | cont =>
  obtain⟨_,_,_,q⟩:=hs
  exact eC q
end L2
namespace L2
open PySem PySem.Spec PyProof.Rows
section
variable{X:Cx}{x:Str}{p pos:Pos}{e:Expr}{es:List Expr}{t:TA}{id T:String}{r:List V->Hp->VK->Prop}
noncomputable def Dm(r:List V->Hp->VK->Prop)(t:TA):TE:=λσ H Q=>t σ H λvs H1=>r vs H1 Q
theorem zI(hc:fQ X (.builtin id) r)(hg:Gl X x)(hm:X.mg x=none)(hv:bootBuiltins x=some (.builtin id))(ha:PA X (e::es) t)(hn:x≠"__name__":=by decide)(cE:(x==("__debug__":Str))=false:=by decide)
  (he:starEach (e::es) X.env=(false,eval e X.env)::starEach es X.env:=by rfl) (bg:(backTo pos (starEach es X.env)).any (·.1)=false:=by rfl):PE X (.Call (.Name x p) (e::es) [] pos) (Dm r t):=by
 intro pins s σ H Q I h
 refine wpAny_Call_Name_kw (mj I hg hm hv ?_ hn cE)
 exact PyProof.Rows.callWith_builtin1 (aM (ha pos pins s σ H _ I h) λus s1 ⟨vs,H1,I1,r1,q1⟩=>hc pins s1 σ H1 vs us Q I1 r1 q1) he bg
theorem V8(hc:fQ X (.type T) r)(hg:Gl X x)(hm:X.mg x=none)(hv:bootBuiltins x=some (.type T))(ha:PA X (e::es) t)(hn:x≠"__name__":=by decide)(cE:(x==("__debug__":Str))=false:=by decide)
  (he:starEach (e::es) X.env=(false,eval e X.env)::starEach es X.env:=by rfl) (bg:(backTo pos (starEach es X.env)).any (·.1)=false:=by rfl):PE X (.Call (.Name x p) (e::es) [] pos) (Dm r t):=by
 intro pins s σ H Q I h
 refine wpAny_Call_Name_kw (mj I hg hm hv ?_ hn cE)
 exact q0 (aM (ha pos pins s σ H _ I h) λus s1 ⟨vs,H1,I1,r1,q1⟩=>hc pins s1 σ H1 vs us Q I1 r1 q1) he bg
end
end L2
namespace HT
open PySem PyProof.Rows
section
open PySem.SeqAt
open PySem.AutoSeq1 (wpAny_loadPart')
open PySem.MeetsSeq PySem.MeetsSeq2 PySem.MeetsSeq3
end
section
variable{prog:Program}{w:World}{A:Around}{E:Value->Shared->Prop}{s:Shared}
noncomputable def cM(n d:Nat):Option Int->Nat
 | none=>d
 | some v=>if v<0 then(v+(n:Int)).toNat else min v.toNat n
theorem Dn(n d k:Nat):cM n d (some (k:Int))=min k n:=by
 show(if(k:Int)<0 then((k:Int)+(n:Int)).toNat else min (k:Int).toNat n)=min k n
 rw[if_neg (by omega),jN]
end
end HT
namespace L2
open PySem PySem.Spec PyProof.Rows
noncomputable abbrev TO:=St->Hp->(Option Int->Hp->Prop)->Prop
noncomputable def PO(X:Cx)(e:Option Expr)(t:TO):Prop :=
 ∀(pins:List (Addr × Obj)) (s:Shared) (σ:St) (H:Hp) (Q:Option Int->Hp->Prop),Inv X pins σ H s->t σ H Q ->
  wpAny (model X.prog X.w) X.A (evalPart e X.env) (λu s'=>∃o H',Inv X pins σ H' s'/\IsPart u o/\Q o H') X.xe s
noncomputable def V9:TO:=λ_ H Q=>Q none H
noncomputable def Wa(t:TE):TO:=λσ H Q=>t σ H λx H1=>∃i,x=.int i/\Q (some i) H1
section
variable{X:Cx}{e:Expr}{te:TE}{lo hi:Option Expr}{tl th:TO}{pos p2:Pos}
theorem Wb:PO X none V9:=by
 intro pins s σ H Q I h
 rw[evalPart_none]
 exact wpAny_pure ⟨none,H,I,.none,h⟩
theorem Wc(h:PE X e te):PO X (some e) (Wa te):=by
 intro pins s σ H Q I hw
 rw[evalPart_some]
 refine aM (h pins s σ H _ I hw) λu s1 ⟨x,H1,I1,r1,q1⟩=>?_
 obtain⟨i,rfl,q⟩:=q1
 obtain⟨t,rfl⟩:=r1
 exact⟨some i,H1,I1,.int i t,q⟩
noncomputable def pI(X:Cx)(r:V->Option Int->Option Int->Hp->VK->Prop):Prop :=
 ∀(pins:List (Addr × Obj)) (s:Shared) (σ:St) (H:Hp) (x:V) (v vl vu:Value) (lo hi:Option Int) (sl:Addr) (Q:VK),Inv X pins σ H s->RelV x v->s.heap.IsSliceOf sl vl vu .none->IsPart vl lo->IsPart vu hi->r x lo hi H Q ->
  ∃T id,typeLookup (.type T) "__getitem__"=pure (some (.builtin id))/\s.TypeIs v T/\wpAny (model X.prog X.w) X.A (getItem v (.ref sl)) (EP X pins σ Q) X.xe s
theorem pI.or{r r':V->Option Int->Option Int->Hp->VK->Prop}(h:pI X r)(h':pI X r'):pI X (λx lo hi H Q=>r x lo hi H Q\/r' x lo hi H Q):=by
 intro pins s σ H x v vl vu lo hi sl Q I rx hs pl pu q
 rcases q with q | q
 ·exact h pins s σ H x v vl vu lo hi sl Q I rx hs pl pu q
 ·exact h' pins s σ H x v vl vu lo hi sl Q I rx hs pl pu q
noncomputable def We(r:V->Option Int->Option Int->Hp->VK->Prop)(te:TE)(tl th:TO):TE:=λσ H Q=>te σ H λx H1=>tl σ H1 λl H2=>th σ H2 λu H3=>r x l u H3 Q
theorem Wf{r:V->Option Int->Option Int->Hp->VK->Prop}(hr:pI X r)(he:PE X e te)(hl:PO X lo tl)(hu:PO X hi th):PE X (.Subscript e (.Slice lo hi none p2) pos) (We r te tl th):=by
 intro pins s σ H Q I h
 refine Subscript_ (aM (he pins s σ H _ I h) λv s1 ⟨x,H1,I1,r1,q1⟩=>?_)
 refine wpAny_Slice (aM (hl pins s1 σ H1 _ I1 q1) λvl s2 ⟨l,H2,I2,pl,q2⟩=>aM (hu pins s2 σ H2 _ I2 q2) λvu s3 ⟨u,H3,I3,pu,q3⟩=>?_)
 rw[evalPart_none]
 refine wpAny_pure ?_
 have I4:Inv X pins σ H3 { s3 with heap:=s3.heap.push { cls:=.type "slice",data:=.fields #[vl,vu,.none] } }:=I3.kept (t':=s3.toks) λb ob q=>eG _ q
 obtain⟨T,id,hT,ht,hg⟩:=hr pins { s3 with heap:=s3.heap.push { cls:=.type "slice",data:=.fields #[vl,vu,.none] } } σ H3 x v vl vu l u s3.heap.objs.size Q I4 r1 (Heap.IsSliceOf.new ..) pl pu q3
 show wpAny (model X.prog X.w) X.A (subscriptTail e (.Slice lo hi none p2) v (.ref s3.heap.objs.size)) (EP X pins σ Q) X.xe { s3 with heap:=s3.heap.push { cls:=.type "slice",data:=.fields #[vl,vu,.none] } }
 exact tail_any (ops:=[.ref s3.heap.objs.size,v]) ht hT hg (by with_unfolding_all rfl)
noncomputable def rF(xs:List V)(lo hi:Option Int):List V:=(xs.drop (HT.cM xs.length 0 lo)).take (HT.cM xs.length xs.length hi-HT.cM xs.length 0 lo)
theorem Wg(xs:List V)(lo hi:Option Int):(rF xs lo hi).length<=xs.length:=by
 unfold rF
 rw[lH,u7]
 omega
end
end L2
namespace L2
open PySem PySem.Spec PyProof.Rows
noncomputable def iz(n:Nat)(i:Int):Option Nat:=if 0<=i then(if i<n then some i.toNat else none)else if -(n:Int)<=i then some (i+n).toNat else none
noncomputable def dD{α:Type}(xs:List α)(i:Int):Option α:=(iz xs.length i).bind λj=>xs[j]?
theorem Ky{n:Nat}{i:Int}{j:Nat}(h:iz n i=some j):seqIndex? i n=some j/\j<n/\-(n:Int)<=i/\i<n:=by
 unfold iz at h
 by_cases h0:0<=i
 ·rw[if_pos h0]at h
  by_cases h1:i<n
  ·rw[if_pos h1]at h
   have e:i.toNat=j:=cX h
   exact⟨by rw[seqIndex_of h0 h1,e],by omega,by omega,h1⟩
  ·rw[if_neg h1]at h;cases h
 ·rw[if_neg h0]at h
  by_cases h1:-(n:Int)<=i
  ·rw[if_pos h1]at h
   have e:(i+n).toNat=j:=cX h
   exact⟨by rw[seqIndex_neg (by omega) h1,e],by omega,h1,by omega⟩
  ·rw[if_neg h1]at h;cases h
theorem kE{α:Type}{xs:List α}{i:Int}{v:α}(h:dD xs i=some v):∃j,seqIndex? i xs.length=some j/\xs[j]?=some v/\j<xs.length/\-(xs.length:Int)<=i/\i<xs.length:=by
 unfold dD at h
 cases e:iz xs.length i with
 | none=>rw[e]at h;cases h
 | some j =>
  rw[e]at h
  obtain⟨h1,h2,h3,h4⟩:=Ky e
  exact⟨j,h1,h,h2,h3,h4⟩
noncomputable def Kz(b:Expr):Prop:=∀o i,subscripted b false o i=operate [o,i] (getItem o i)
noncomputable def mq(X:Cx)(r:R2):Prop :=
 ∀(value slice:Expr) (pins:List (Addr × Obj)) (s:Shared) (σ:St) (H:Hp) (x y:V) (v u:Value) (Q:VK),Inv X pins σ H s->RelV x v->RelV y u->r x y H Q ->
  subscripted slice false v u=operate [v,u] (getItem v u)->wpAny (model X.prog X.w) X.A (subscriptTail value slice v u) (EP X pins σ Q) X.xe s
noncomputable def vQ(X:Cx)(id:String)(r:V->List V->Hp->VK->Prop):Prop :=
 ∀(pins:List (Addr × Obj)) (s:Shared) (σ:St) (H:Hp) (x:V) (xs:List V) (v:Value) (us:List Value) (Q:VK),Inv X pins σ H s->RelV x v->Vals xs us->r x xs H Q ->
  wpAny (model X.prog X.w) X.A (call (.builtin id) (v::us)) (EP X pins σ Q) X.xe s
section
variable{X:Cx}{a b:Expr}{ta tb:TE}{pos:Pos}
theorem mq.or{r r':R2}(h:mq X r)(h':mq X r'):mq X (λx y H Q=>r x y H Q\/r' x y H Q):=by
 intro value slice pins s σ H x y v u Q I rx ry q hs
 rcases q with q | q
 ·exact h value slice pins s σ H x y v u Q I rx ry q hs
 ·exact h' value slice pins s σ H x y v u Q I rx ry q hs
theorem Wh{r:R2}(hr:mq X r)(ha:PE X a ta)(hb:PE X b tb)(hs:Kz b):PE X (.Subscript a b pos) (vL r ta tb):=by
 intro pins s σ H Q I h
 exact Subscript_ (Dh ha hb I h λv u s2 x y H2 I2 rx ry q=>hr a b pins s2 σ H2 x y v u Q I2 rx ry q (hs _ _))
noncomputable def KA(K:PySem.W.Frag):R2:=λx y H Q=>∃p xs i v,x=.ref p/\y=.int i/\bH K H p xs/\dD xs i=some v/\Q v H
noncomputable def KC(K:PySem.W.Frag):R2:=λx y H Q=>∃p xs i v,x=.ref p/\y=.int i/\gn K H p xs/\dD xs i=some v/\Q v H
noncomputable def KD:R2:=λx y H Q=>∃z i c,x=.str z/\y=.int i/\z.length<=sizeLine/\dD z.cps.toList i=some c/\Q (.str ⟨#[c]⟩) H
theorem Wi:mq X (KA X.K):=by
 intro value slice pins s σ H x y v u Q I rx ry h hs
 obtain⟨p,xs,i,z,rfl,rfl,hq,he,q⟩:=h
 cases rx
 obtain⟨t,rfl⟩:=ry
 obtain⟨its,r,pl,hz⟩:=I.list hq
 obtain⟨j,h1,h2,h3,h4,h5⟩:=kE he
 obtain⟨w,ew,fo⟩:=r.get h2
 have hl:=r.length
 have hn:=pB
 have fin:EP X pins σ Q w s:=⟨z,H,I,fo,q⟩
 by_cases h0:0<=i
 ·have hj:i.toNat=j:=by
   rw[seqIndex_of h0 h5]at h1
   exact cX h1
  exact item_listR pl.isList h0 (by omega) (by rw[hj];simpa using ew) fin hs
 ·have hj:(i+(its.toArray.size:Int)).toNat=j:=by
   rw[seqIndex_neg (by omega) h4]at h1
   rw[dy,<- hl]
   exact cX h1
  exact subscriptTail_builtinR (x:=w) pl.isList.typeIs slot_list_getitem.lookup
   (wpAny_getItem_list_neg (Q:=λr s'=>r=w/\EP X pins σ Q r s') pl.isList (by omega) (by rw[dy]<;>omega) (by omega) (by rw[hj];simpa using ew) ⟨rfl,fin⟩) hs
theorem Wj:mq X (KC X.K):=by
 intro value slice pins s σ H x y v u Q I rx ry h hs
 obtain⟨p,xs,i,z,rfl,rfl,hq,he,q⟩:=h
 cases rx
 obtain⟨t,rfl⟩:=ry
 obtain⟨its,r,pl,hz⟩:=I.tuple hq
 obtain⟨j,h1,h2,h3,h4,h5⟩:=kE he
 obtain⟨w,ew,fo⟩:=r.get h2
 have hl:=r.length
 have hn:=pB
 have fin:EP X pins σ Q w s:=⟨z,H,I,fo,q⟩
 exact subscriptTail_builtinR (x:=w) pl.typeIs slot_tuple_getitem.lookup
  (getItem_tuple (j:=j) (Q:=λr s'=>r=w/\EP X pins σ Q r s') pl (by omega) (by omega) (by rw[dy,<- hl];exact h1) (by simpa using ew) ⟨rfl,fin⟩) hs
theorem Wk:mq X KD:=by
 intro value slice pins s σ H x y v u Q I rx ry h hs
 obtain⟨z,i,c,rfl,rfl,hz,he,q⟩:=h
 obtain⟨t,rfl⟩:=rx
 obtain⟨t',rfl⟩:=ry
 obtain⟨j,h1,h2,h3,h4,h5⟩:=kE he
 have hl:z.cps.toList.length=z.length:=by simp[Str.length]
 rw[hl]at h1 h4 h5
 have hn:=pB
 exact tail_any (typeIs_str s z t) slot_str_getitem.lookup (getItem_str (c:=c) (by
  have e1:decide (i < -(2 ^ 63:Int))=false:=decide_eq_false (by omega)
  have e2:decide (i ≥ 2 ^ 63)=false:=decide_eq_false (by omega)
  rw[e1,e2,u9]) (by rw[h1];simpa using h2) ⟨.str ⟨#[c]⟩,H,I.tok _,⟨_,rfl⟩,q⟩) hs
noncomputable def Wl(K:PySem.W.Frag):R2:=λx y H Q=>KA K x y H Q\/KC K x y H Q\/KD x y H Q
theorem Wm:mq X (Wl X.K):=Wi.or (Wj.or Wk)
theorem Wn(its:List Value)(n j:Nat)(u:Value):yJ (·.setIfInBounds j u) { cls:=.type "list",data:=.seq its.toArray n }={ cls:=.type "list",data:=.seq (its.set j u).toArray n }:=by
 simp[yJ]
theorem Inv.lst{pins:List (Addr × Obj)}{σ:St}{H:Hp}{s:Shared}{p:Addr}{xs:List V}(I:Inv X pins σ H s)(h:H p=some (.lst xs)) :
  ∃(its:List Value) (n:Nat),Vals xs its/\s.heap.get? p=some { cls:=.type "list",data:=.seq its.toArray n }/\xs.length<=sizeLine:=by
 obtain⟨z,its,n,r,e⟩:=I.az p _ h
 exact⟨its,n,r,e,z⟩
theorem Inv.Wo{pins:List (Addr × Obj)}{σ:St}{H:Hp}{s:Shared}{p:Addr}{xs ys:List V}{its its':List Value}{n n':Nat}{f:Obj->Obj}(I:Inv X pins σ H s)(h:H p=some (.lst xs))
  (ho:s.heap.get? p=some { cls:=.type "list",data:=.seq its.toArray n }) (hf:f { cls:=.type "list",data:=.seq its.toArray n }={ cls:=.type "list",data:=.seq its'.toArray n' }) (r:Vals ys its') (hz:ys.length<=sizeLine) (t:Nat) :
  Inv X pins σ (upd H p (.lst ys)) { s with heap:=s.heap.update p f,toks:=t }:=by
 have e:(s.heap.update p f).get? p=some { cls:=.type "list",data:=.seq its'.toArray n' }:=by
  rw[Cj f ho (by rw[hf]<;>rfl),hf]
 refine I.write (x:=p) (e:=p) (by rw[h];trivial) (.inl rfl) (λb u hb q=>(oQ _ _ (dU hb)).trans q) ⟨_,e⟩ ?_
 exact⟨hz,its',n',r,e⟩
noncomputable def Wq:V->V->V->Hp->(Hp->Prop)->Prop:=λo i v H Q=>∃p xs k j,o=.ref p/\i=.int k/\H p=some (.lst xs)/\iz xs.length k=some j/\Q (upd H p (.lst (xs.set j v)))
theorem Wr:Ke X Wq:=by
 intro pins s σ H o i v ov iv u Q I ro ri rv h
 obtain⟨p,xs,k,j,rfl,rfl,hp,hj,q⟩:=h
 cases ro
 obtain⟨t,rfl⟩:=ri
 obtain⟨its,n,r,ho,hz⟩:=I.lst hp
 obtain⟨h1,h2,h3,h4⟩:=Ky hj
 have hl:=r.length
 have hn:=pB
 have I':Inv X pins σ (upd H p (.lst (xs.set j v))) { s with heap:=s.heap.update p (yJ (·.setIfInBounds j u)) } :=
  I.Wo hp ho (Wn its n j u) (r.set rv j) (by rw[oR];exact hz) s.toks
 by_cases h0:0<=k
 ·have hk:k.toNat=j:=by
   rw[seqIndex_of h0 h4]at h1
   exact cX h1
  exact PySem.W.ki_setAt ho h0 (by omega) (by rw[dy,<- hl];exact h4) (by rw[hk];exact⟨_,I',q⟩)
 ·have hk:(k+(its.toArray.size:Int)).toNat=j:=by
   rw[seqIndex_neg (by omega) h3]at h1
   rw[dy,<- hl]
   exact cX h1
  exact PySem.W.ki_setBack ho (by omega) (by rw[dy,<- hl];exact h3) (by omega) (by rw[hk];exact⟨_,I',q⟩)
theorem Dq(lo hi:Option Int)(n:Nat):(sliceBounds lo hi none n).1=((HT.cM n 0 lo:Nat):Int)/\(sliceBounds lo hi none n).2.1=((HT.cM n n hi:Nat):Int)/\(sliceBounds lo hi none n).2.2=1:=by
 refine⟨?_,?_,rfl⟩
 ·cases lo with
  | none=>simp[sliceBounds,HT.cM]
  | some i =>
   simp only[sliceBounds,HT.cM,rh,show(1:Int)>0 by decide,if_true]
   by_cases h:i<0
   ·simp only[h,if_true]<;>omega
   ·simp only[h,if_false]<;>omega
 ·cases hi with
  | none=>simp[sliceBounds,HT.cM]
  | some i =>
   simp only[sliceBounds,HT.cM,rh,show(1:Int)>0 by decide,if_true]
   by_cases h:i<0
   ·simp only[h,if_true]<;>omega
   ·simp only[h,if_false]<;>omega
theorem Ws(its:List Value)(lo hi:Option Int):slicePick its.toArray lo hi none=((its.drop (HT.cM its.length 0 lo)).take (HT.cM its.length its.length hi-HT.cM its.length 0 lo)).toArray:=by
 obtain⟨h1,h2,h3⟩:=Dq lo hi its.toArray.size
 unfold slicePick
 rw[h1,h2,h3]
 simp only[sliceRange_one,pick_run,dy]<;>rfl
noncomputable def Wt(K:PySem.W.Frag):V->Option Int->Option Int->Hp->VK->Prop:=λx lo hi H Q=>∃a xs,x=.ref a/\bH K H a xs/\∀p,H p=none->Q (.ref p) (upd H p (.lst (rF xs lo hi)))
theorem Wu:pI X (Wt X.K):=by
 intro pins s σ H x v vl vu lo hi sl Q I rx hs pl pu h
 obtain⟨a,xs,rfl,hx,q⟩:=h
 cases rx
 obtain⟨its,r,ht,hz⟩:=I.list hx
 have hlen:=r.length
 refine⟨"list",_,slot_list_getitem.lookup,ht.isList.typeIs,?_⟩
 refine wpAny_getItem_list_slice ht.isList hs pl pu .none (by simp) ?_ (by rw[dy]<;>omega)
 rw[Ws,<- hlen]
 refine⟨.ref s.heap.objs.size,_,I.laid (t':=s.toks) (o:=.lst (rF xs lo hi)) (λb ob q=>eG _ q) (bG _) ?_,rfl,q _ (I.az.fresh (bG _))⟩
 exact⟨eO (Wg xs lo hi) hz,_,0,(r.drop (HT.cM xs.length 0 lo)).take (HT.cM xs.length xs.length hi-HT.cM xs.length 0 lo),gU _ rfl⟩
noncomputable def mr:V->Bool
 | .ao=>true
 | .bl _=>true
 | .int _=>true
 | .str _=>true
 | _=>false
noncomputable def kF:V->V->Bool
 | .ao,.ao=>true
 | .bl a,.bl b=>a==b
 | .bl a,.int b=>(if a then 1 else 0)==b
 | .int a,.bl b=>a==(if b then 1 else 0)
 | .int a,.int b=>a==b
 | .str a,.str b=>a==b
 | _,_=>false
theorem Wv{A:Around}{s:Shared}{y x:V}{u v:Value}(ry:RelV y u)(rx:RelV x v)(fy:mr y=true)(fx:mr x=true):Ck A s u v (kF y x):=by
 cases y with
 | ao =>
  cases ry
  cases x with
  | ao=>cases rx;exact SeqAt.EqAt.same _
  | bl b=>cases rx;exact SeqAt.EqAt.none_bool b
  | int b=>obtain⟨t,rfl⟩:=rx;exact SeqAt.EqAt.none_int b t
  | str b=>obtain⟨t,rfl⟩:=rx;exact SeqAt.EqAt.none_str b t
  | _=>exact absurd (show false=true from fx) ig
 | bl a =>
  cases ry
  cases x with
  | ao=>cases rx;exact SeqAt.EqAt.bool_none a
  | bl b=>cases rx;exact SeqAt.EqAt.bool_bool a b
  | int b=>obtain⟨t,rfl⟩:=rx;exact SeqAt.EqAt.bool_int a b t
  | str b=>obtain⟨t,rfl⟩:=rx;exact SeqAt.EqAt.bool_str a b t
  | _=>exact absurd (show false=true from fx) ig
 | int a =>
  obtain⟨t',rfl⟩:=ry
  cases x with
  | ao=>cases rx;exact SeqAt.EqAt.int_none a t'
  | bl b=>cases rx;exact SeqAt.EqAt.int_bool a t' b
  | int b=>obtain⟨t,rfl⟩:=rx;exact SeqAt.EqAt.int_int a t' b t
  | str b=>obtain⟨t,rfl⟩:=rx;exact SeqAt.EqAt.int_str a t' b t
  | _=>exact absurd (show false=true from fx) ig
 | str a =>
  obtain⟨t',rfl⟩:=ry
  cases x with
  | ao=>cases rx;exact SeqAt.EqAt.str_none a t'
  | bl b=>cases rx;exact SeqAt.EqAt.str_bool a t' b
  | int b=>obtain⟨t,rfl⟩:=rx;exact SeqAt.EqAt.str_int a t' b t
  | str b=>obtain⟨t,rfl⟩:=rx;exact SeqAt.EqAt.str_str a t' b t
  | _=>exact absurd (show false=true from fx) ig
 | _=>exact absurd (show false=true from fy) ig
noncomputable def mw(x:V)(u:Value):Bool:=match u with
 | .none=>kF .ao x
 | .bool b=>kF (.bl b) x
 | .int i _=>kF (.int i) x
 | .str z _=>kF (.str z) x
 | _=>false
theorem KG{x y:V}{u:Value}(r:RelV y u)(f:mr y=true):mw x u=kF y x:=by
 cases y with
 | ao=>cases r;rfl
 | bl b=>cases r;rfl
 | int i=>obtain⟨t,rfl⟩:=r;rfl
 | str z=>obtain⟨t,rfl⟩:=r;rfl
 | _=>exact absurd (show false=true from f) ig
theorem Dr{x:V}:∀{xs:List V} {us:List Value},Vals xs us->xs.all mr=true->us.any (mw x)=xs.any λy=>kF y x
 | _,_,.nil,_=>rfl
 | y::xs,u::us,.cons r t,f=>by
  rw[dO,dz]at f
  rw[List.any_cons,List.any_cons,KG r f.1,Dr t f.2]
theorem Ds{A:Around}{s:Shared}{x:V}{v:Value}(rx:RelV x v)(fx:mr x=true):∀{xs:List V} {us:List Value},Vals xs us->xs.all mr=true->∀u∈us,Ck A s u v (mw x u)
 | _,_,.nil,_=>λu hu=>by cases hu
 | y::xs,u::us,.cons r t,f=>λu' hu=>by
  rw[dO,dz]at f
  rcases bR.mp hu with rfl | hu
  ·rw[KG r f.1];exact Wv r rx f.1 fx
  ·exact Ds rx fx t f.2 u' hu
noncomputable def zJ(x:V)(xs:List V):Bool:=xs.any λy=>kF y x
noncomputable def Ww(K:PySem.W.Frag)(neg:Bool):R2:=λx y H Q=>∃p xs,y=.ref p/\(bH K H p xs\/gn K H p xs)/\mr x=true/\xs.all mr=true/\Q (.bl (if neg then !zJ x xs else zJ x xs)) H
theorem Wx:cn X (compareOp .NotIn) (Ww X.K true):=by
 intro pins s σ H x y v u Q I rx ry h
 obtain⟨p,xs,rfl,hq,fx,fs,q⟩:=h
 cases ry
 rcases hq with hq | hq
 ·obtain⟨its,r,pl,hz⟩:=I.list hq
  refine SeqAt.notIn_listAt (mw x) pl.isList (λw hw=>Ds rx fx r fs w (by simpa using hw)) ⟨.bl _,H,I,rfl,?_⟩
  rw[show its.toArray.any (mw x)=its.any (mw x) by simp,Dr r fs]
  exact q
 ·obtain⟨its,r,pl,hz⟩:=I.tuple hq
  refine SeqAt.notIn_tupleAt (mw x) pl (λw hw=>Ds rx fx r fs w (by simpa using hw)) ⟨.bl _,H,I,rfl,?_⟩
  rw[show its.toArray.any (mw x)=its.any (mw x) by simp,Dr r fs]
  exact q
theorem KH:fQ X (.builtin "len") (λxs H Q=>∃p ys,xs=[.ref p]/\(bH X.K H p ys\/gn X.K H p ys)/\Q (.int ys.length) H):=by
 intro pins s σ H xs us Q I r h
 obtain⟨p,ys,rfl,hq,q⟩:=h
 obtain⟨u,rfl,rx⟩:=zE r
 cases rx
 have hn:=pB
 rcases hq with hq | hq
 ·obtain⟨its,r',pl,hz⟩:=I.list hq
  have hlen:=r'.length
  exact Calls.call_len_list pl.isList (by simp only[dy]<;>omega) ⟨.int ys.length,H,I.tok _,⟨s.toks+1,by rw[dy,hlen]⟩,q⟩
 ·obtain⟨its,r',pl,hz⟩:=I.tuple hq
  have hlen:=r'.length
  exact len_tuple pl (by simp only[dy]<;>omega) ⟨.int ys.length,H,I.tok _,⟨s.toks+1,by rw[dy,hlen]⟩,q⟩
theorem Wy:fQ X (.builtin "len") (λxs H Q=>∃z,xs=[.str z]/\z.length<=sizeLine/\Q (.int z.length) H):=by
 intro pins s σ H xs us Q I r h
 obtain⟨z,rfl,hz,q⟩:=h
 obtain⟨u,rfl,t,rfl⟩:=zE r
 have hn:=pB
 exact len_str (by omega) ⟨.int z.length,H,I.tok _,⟨_,rfl⟩,q⟩
theorem fQ.or{f:Value}{r r':List V->Hp->VK->Prop}(h:fQ X f r)(h':fQ X f r'):fQ X f (λxs H Q=>r xs H Q\/r' xs H Q):=by
 intro pins s σ H xs us Q I rs q
 rcases q with q | q
 ·exact h pins s σ H xs us Q I rs q
 ·exact h' pins s σ H xs us Q I rs q
theorem Wz:fQ X (.type "list") (λxs H Q=>∃p ys,xs=[.ref p]/\(bH X.K H p ys\/gn X.K H p ys)/\∀l,H l=none->Q (.ref l) (upd H l (.lst ys))):=by
 intro pins s σ H xs us Q I r h
 obtain⟨p,ys,rfl,hq,q⟩:=h
 obtain⟨u,rfl,rx⟩:=zE r
 cases rx
 have fin:∀(its:List Value),Vals ys its->ys.length<=sizeLine->∀(h':Heap) (c':Nat),(∀b o',s.heap.get? b=some o'->h'.get? b=some o') ->
   h'.get? s.heap.objs.size=some { cls:=.type "list",dict:=none,data:=.seq its.toArray c',slots:=#[] }->EP X pins σ Q (.ref s.heap.objs.size) { s with heap:=h' }:=λits r' hz h' c' kp e =>
  ⟨.ref s.heap.objs.size,_,I.laid (t':=s.toks) kp (bG _) (show dk X.prog X.w _ h' _ (.lst ys) from⟨hz,its,c',r',e⟩),rfl,q _ (I.az.fresh (bG _))⟩
 rcases hq with hq | hq
 ·obtain⟨its,r',pl,hz⟩:=I.list hq
  have hlen:=r'.length
  obtain⟨o,ho,hc,n,hd⟩:=pl.isList
  exact call_list_seq p (.inl rfl) ho hc hd (λh' c' kp e=>fin its r' hz h' c' kp e) (by simp only[dy]<;>omega)
 ·obtain⟨its,r',pl,hz⟩:=I.tuple hq
  have hlen:=r'.length
  obtain⟨o,ho,hc,n,hd⟩:=pl
  exact call_list_seq p (.inr rfl) ho hc hd (λh' c' kp e=>fin its r' hz h' c' kp e) (by simp only[dy]<;>omega)
noncomputable def Dt(K:PySem.W.Frag)(T:String)(x:V)(H:Hp):Prop:=match x with
 | .str _=>T="str"
 | .int _=>T="int"
 | .ref p=>(T="list"/\∃xs,bH K H p xs)\/(T="tuple"/\∃o,K.lookup p=some o/\o.cls=.type "tuple"/\o.dict=none) \/
   (T="dict"/\((∃df,H p=some (.dK df))\/∃df,H p=some (.dT df)))\/(T="set"/\∃S n,H p=some (.set S n))
 | _=>False
theorem KI{pins:List (Addr × Obj)}{σ:St}{H:Hp}{s:Shared}{T:String}{x:V}{v:Value}(I:Inv X pins σ H s)(r:RelV x v)(ty:Dt X.K T x H) :
  s.TypeIs v T/\∀a,v=.ref a->∃ob,s.heap.get? a=some ob/\ob.dict=none:=by
 cases x with
 | str z =>
  obtain⟨t,rfl⟩:=r
  cases(show T="str" from ty)
  exact⟨typeIs_str s z t,λ_ e=>nomatch e⟩
 | int i =>
  obtain⟨t,rfl⟩:=r
  cases(show T="int" from ty)
  exact⟨typeIs_int s i t,λ_ e=>nomatch e⟩
 | ref p =>
  cases r
  rcases ty with⟨rfl,xs,hq⟩ | ⟨rfl,o,hk,hc,hd⟩ | ⟨rfl,hk⟩ | ⟨rfl,S,n,hk⟩
  ·obtain⟨its,_,pl,_⟩:=I.list hq
   refine⟨pl.isList.typeIs,λa e=>?_⟩
   cases e
   obtain⟨o,n,e,c,hd,_⟩:=pl
   exact⟨o,e,hd⟩
  ·refine⟨⟨o,I.ck p o hk,hc⟩,λa e=>?_⟩
   cases e
   exact⟨o,I.ck _ o hk,hd⟩
  ·have z:∃o,s.heap.get? p=some o/\o.ExactDict:=by
    rcases hk with⟨df,hk⟩ | ⟨df,hk⟩
    ·obtain⟨_,_,_,_,o,_,_,e,ex,_⟩:=I.az p _ hk
     exact⟨o,e,ex⟩
    ·obtain⟨_,_,_,_,o,_,_,e,ex,_⟩:=I.az p _ hk
     exact⟨o,e,ex⟩
   obtain⟨o,e,ex⟩:=z
   refine⟨⟨o,e,ex.1⟩,λa e2=>?_⟩
   cases e2
   exact⟨o,e,ex.2.1⟩
  ·obtain⟨o,_,_,_,e,ex,_⟩:=I.az p _ hk
   refine⟨⟨o,e,ex.1⟩,λa e2=>?_⟩
   cases e2
   exact⟨o,e,ex.2.1⟩
 | _=>exact eC ty
noncomputable def KJ(K:PySem.W.Frag)(T:String)(r:V->List V->Hp->VK->Prop)(to:TE):TE:=λσ H Q=>to σ H λx H1=>Dt K T x H1/\r x [] H1 Q
noncomputable def WA(K:PySem.W.Frag)(T:String)(r:V->List V->Hp->VK->Prop)(to:TE)(t:TA):TE:=λσ H Q=>to σ H λx H1=>Dt K T x H1/\t σ H1 λxs H2=>r x xs H2 Q
variable{o e:Expr}{es:List Expr}{to:TE}{t:TA}{name:Str}{apos bK:Pos}{T id:String}{r:V->List V->Hp->VK->Prop}
theorem WB(pa:PlainAttrs T)(slot:Slot T name id)(Du:typeOf (.builtin id)=pure (.type "method_descriptor"))(hm:vQ X id r)(ho:PE X o to)
  (jV:attributeBase o name X.env (eval o X.env)=eval o X.env:=by rfl) (jW:(apos.endLine==bK.line)=true:=by rfl):PE X (.Call (.Attribute o name apos) [] [] bK) (KJ X.K T r to):=by
 intro pins s σ H Q I h
 refine wpAny_Call_method0_late jV jW (aM (ho pins s σ H _ I h) λv s1 ⟨x,H1,I1,r1,ty,q1⟩=>?_)
 obtain⟨h1,h2⟩:=KI I1 r1 ty
 exact⟨T,id,pa,slot,Du,h1,h2,Calls.callWith_builtin rfl (PySem.evalArgs_none (hm pins s1 σ H1 x [] v [] Q I1 r1 .nil q1))⟩
theorem KL(pa:PlainAttrs T)(slot:Slot T name id)(Du:typeOf (.builtin id)=pure (.type "method_descriptor"))(hm:vQ X id r)(ho:PE X o to)(ha:PA X (e::es) t)
  (jV:attributeBase o name X.env (eval o X.env)=eval o X.env:=by rfl)
  (vR:((backTo bK (starEach (e::es) X.env)).all (λx=>!x.1)&&(backToKw bK (keywordEach [] X.env)).all (λx=>x.1.isSome)
   && decide ((e::es).length+([]:List Keyword).length+(if([]:List Keyword).isEmpty then 0 else 1)<30))=true:=by rfl)
  (jW:(apos.endLine==bK.line)=true:=by rfl) (hs:starEach (e::es) X.env=(false,eval e X.env)::starEach es X.env:=by rfl) (vS:(backTo bK (starEach es X.env)).any (·.1)=false:=by rfl) :
  PE X (.Call (.Attribute o name apos) (e::es) [] bK) (WA X.K T r to t):=by
 intro pins s σ H Q I h
 refine wpAny_Call_method_late jV vR jW rfl (aM (ho pins s σ H _ I h) λv s1 ⟨x,H1,I1,r1,ty,q1⟩=>?_)
 obtain⟨h1,h2⟩:=KI I1 r1 ty
 refine⟨T,id,pa,slot,Du,h1,h2,?_⟩
 have hA:=ha bK pins s1 σ H1 _ I1 q1
 rw[hs]at hA ⊢
 refine Calls.callWith_builtin (by show(false||(backTo bK (starEach es X.env)).any (·.1))=false;rw[vS]<;>rfl) (Calls.evalArgs_plain ?_)
 exact aM hA λus s2 ⟨vs,H2,I2,r2,q2⟩=>hm pins s2 σ H2 x vs v us Q I2 r1 r2 q2
/- xs.append(e),list.index on a dC9 tuple .. are vQ facts of 06m -/
end
end L2
namespace L2
open PySem PySem.Spec PyProof.Rows
noncomputable def WC(X:Cx)(id:String)(r:V->List V->Hp->VK->Prop):Prop :=
 ∀(pins:List (Addr × Obj)) (s:Shared) (σ:St) (H:Hp) (x:V) (xs:List V) (v:Value) (us:List Value) (Q:VK),Inv X pins σ H s->RelV x v->Vals xs us->r x xs H Q ->
  wpAny (model X.prog X.w) X.A (call (.builtin id) (v::us)) (EP X pins σ Q) X.xe s
theorem Vals.one:∀{x:V} {us:List Value},Vals [x] us->∃u,us=[u]/\RelV x u
 | _,_,h=>by cases h with | cons r h=>cases h;exact⟨_,rfl,r⟩
theorem Vals.two:∀{x y:V} {us:List Value},Vals [x,y] us->∃u v,us=[u,v]/\RelV x u/\RelV y v
 | _,_,_,h=>by cases h with | cons r h=>cases h with | cons q h=>cases h;exact⟨_,_,rfl,r,q⟩
theorem Vals.rep{xs:List V}{us:List Value}(h:Vals xs us):∀k:Nat,Vals (aX k xs).flatten (aX k us).flatten
 | 0=>.nil
 | k+1=>by
  rw[oS,oS,rj,rj]
  exact Vals.append h (Vals.rep h k)
theorem KN(its:List Value):∀(k:Nat) (acc:List Value),
  List.foldl (λx1 x2=>x1++x2) acc.toArray (aX k its.toArray)=(acc++(aX k its).flatten).toArray
 | 0,acc=>by simp
 | k+1,acc=>by
  have e:acc.toArray++its.toArray=(acc++its).toArray:=by simp
  have e2:(acc++its)++(aX k its).flatten=acc++(aX (k+1) its).flatten:=by
   rw[oS,rj,eP]
  rw[<-e2,<- KN its k (acc++its),<- e,oS,va]
section
variable{X:Cx}{pins:List (Addr × Obj)}{σ:St}{H:Hp}{s:Shared}{l b:Addr}{xs ys zs:List V}
theorem Inv.WD{its its':List Value}{n:Nat}{f:Array Value->Array Value}{t':Nat}(I:Inv X pins σ H s)(hH:H l=some (.lst xs))
  (e:s.heap.get? l=some { cls:=.type "list",data:=.seq its.toArray n }) (hf:f its.toArray=its'.toArray) (hv:Vals ys its') (hz:ys.length<=sizeLine) :
  Inv X pins σ (upd H l (.lst ys)) { s with heap:=s.heap.update l (yJ f),toks:=t' }:=by
 have q:=PySem.IsL.update e f
 rw[hf]at q
 refine I.write (x:=l) (e:=l) (by rw[hH];exact trivial) (.inl rfl) (λb' u hb hu=>(oQ s.heap (yJ f) (dU hb)).trans hu) ⟨_,q⟩ ?_
 exact⟨hz,its',_,hv,q⟩
theorem Inv.KO{its:List Value}{t':Nat}(I:Inv X pins σ H s)(hv:Vals ys its)(hz:ys.length<=sizeLine) :
  Inv X pins σ (upd H s.heap.objs.size (.lst ys)) { s with heap:=s.heap.push { cls:=.type "list",data:=.seq its.toArray },toks:=t' } :=
 I.laid (λ_ _ q=>eG _ q) (bG _) ⟨hz,its,0,hv,gU _ rfl⟩
theorem Inv.fresh(I:Inv X pins σ H s):H s.heap.objs.size=none:=I.az.fresh (bG _)
theorem Inv.zK(I:Inv X pins σ H s)(hH:H l=some (.lst xs)):xs.length<=sizeLine/\∃(its:List Value) (n:Nat),Vals xs its/\xs.length=its.length/\s.heap.get? l=some { cls:=.type "list",data:=.seq its.toArray n }:=by
 obtain⟨z,its,n,r,e⟩:=I.az l _ hH
 exact⟨z,its,n,r,r.length,e⟩
theorem WE{n:Nat}(h:n<=sizeLine):Jx n=false:=by
 unfold Jx
 exact decide_eq_false (by omega)
end
section
variable{X:Cx}
noncomputable def WG:V->List V->Hp->VK->Prop:=λx vs H Q=>∃l xs y,x=.ref l/\vs=[y]/\H l=some (.lst xs)/\xs.length<sizeLine/\Q .ao (upd H l (.lst (xs++[y])))
theorem KP:WC X "list.append" WG:=by
 intro pins s σ H x vs v us Q I rx rv h
 obtain⟨l,xs,y,rfl,rfl,hH,hz,q⟩:=h
 cases rx
 obtain⟨u,rfl,ru⟩:=rv.one
 obtain⟨z,its,n,r,hl,e⟩:=I.zK hH
 refine call_meets F.slot_list_append ⟨_,e,rfl⟩ F.entry_list_append (F.args_list_append_2 _ _) (PySem.list_append l its.toArray n u (by rw[dy];omega)) ⟨e,?_⟩
 refine⟨.ao,_,I.WD (its':=its++[u]) hH e (by simp) (r.append (.cons ru .nil)) ?_,rfl,q⟩
 rw[iX,Tx]
 omega
noncomputable def WH:R2:=λx y H Q=>∃l b xs zs,x=.ref l/\y=.ref b/\H l=some (.lst xs)/\H b=some (.lst zs)/\xs.length+zs.length<=sizeLine/\∀p,H p=none->Q (.ref p) (upd H p (.lst (xs++zs)))
theorem KQ:cn X (binaryOp .Add) WH:=by
 intro pins s σ H x y v u Q I rx ry h
 obtain⟨l,b,xs,zs,rfl,rfl,hH,hB,hz,q⟩:=h
 cases rx
 cases ry
 obtain⟨z,its,n,r,hl,e⟩:=I.zK hH
 obtain⟨z2,KR,n2,r2,zL,e2⟩:=I.zK hB
 refine PySem.P.add_list e e2 ?_ (by rw[dy,dy];omega)
 have ea:its.toArray++KR.toArray=(its++KR).toArray:=by simp
 rw[ea]
 exact⟨.ref _,_,I.KO (t':=s.toks) (r.append r2) (by rw[iX];omega),rfl,q _ I.fresh⟩
noncomputable def WI:R2:=λx y H Q=>∃l k xs,x=.ref l/\y=.int k/\H l=some (.lst xs)/\-(2 ^ 63)<=k/\k<2 ^ 63/\xs.length*k.toNat<=sizeLine /\
 ∀p,H p=none->Q (.ref p) (upd H p (.lst (aX k.toNat xs).flatten))
theorem WJ{α:Type}(xs:List α)(k:Nat):(aX k xs).flatten.length=k*xs.length:=by
 induction k with
 | zero=>simp
 | succ k ih=>rw[oS,rj,iX,ih,Nat.succ_mul,yK]
theorem WK:cn X (binaryOp .Mult) WI:=by
 intro pins s σ H x y v u Q I rx ry h
 obtain⟨l,k,xs,rfl,rfl,hH,h1,h2,hz,q⟩:=h
 cases rx
 obtain⟨t,rfl⟩:=ry
 obtain⟨z,its,n,r,hl,e⟩:=I.zK hH
 have hlen:its.toArray.size*k.toNat<=sizeLine:=by rw[dy,<- hl];exact hz
 have WL:¬ its.toArray.size*k.toNat>(2 ^ 63-1)/8:=by
  have:(sizeLine:Nat)<=(2 ^ 63-1)/8:=by decide
  omega
 have WM:¬ (!Builtin.List.listFitsIndex k)=true:=by
  rw[fitsIndex_both h1 h2]
  exact ig
 have WN:¬ Jx (its.toArray.size*k.toNat)=true:=by
  rw[WE hlen]
  exact ig
 have WO:List.foldl (λx1 x2=>x1++x2) #[] (aX (if its.toArray.isEmpty=true then 0 else k.toNat) its.toArray)=(aX k.toNat its).flatten.toArray:=by
  have f0:∀m:Nat,List.foldl (λx1 x2=>x1++x2) #[] (aX m its.toArray)=(aX m its).flatten.toArray:=λm=>by
   have:=KN its m []
   rw[oU]at this
   exact this
  rw[f0]
  cases its with
  | nil=>simp
  | cons a r'=>rw[if_neg (by simp)]
 refine wpAny_binaryOp_repeat_ref (T:="list") (U:="int") (by decide) ⟨_,e,rfl⟩ (λs'=>typeIs_int s' k t) noFill_list_mul F.fills_int_mul F.slot_int_rmul repeat_list F.slot_int_index.lookup
  (call_meets F.slot_int_rmul (typeIs_int s k t) F.entry_int_rmul (F.args_int_rmul_2 _ _) (int___rmul___int_list k t l its.toArray n)
   ⟨e,rfl,⟨_,e,rfl⟩,call_meets F.slot_list_mul ⟨_,e,rfl⟩ F.entry_list_mul (F.args_list_mul_2 _ _) (AutoListH.list___mul___list_int_3 l its.toArray n k t WM WL WN) ⟨e,?_⟩⟩)
 rw[WO]
 exact⟨.ref _,_,I.KO (t':=s.toks) (r.rep k.toNat) (by rw[WJ,lK];exact hz),rfl,q _ I.fresh⟩
end
section
variable{prog:Program}{w:World}{A:Around}{E:Value->Shared->Prop}{s:Shared}
end
section
variable{X:Cx}
end
end L2
namespace Att
open PySem PySem.W PySem.Calls PyProof.Rows
theorem WQ{P:Params}{h:Heap}:∀(ns:List Int) (vs:List Value),WellAll P h vs (ns.map WData.int)->IntsAre vs ns:=by
 intro ns
 induction ns with
 | nil =>
  intro vs w
  rw[lM]at w
  cases w
  exact .nil
 | cons n ns ih =>
  intro vs w
  rw[dN]at w
  cases w with
  | cons a b =>
   cases a
   exact .cons _ _ (ih _ b)
theorem WR{l:OpenLaw}{n:Nat}(hn:l.most=some n){P:Params}{h:Heap}{args:List WData}{vals:List Value}
  (zM:l.row.toRowW.claim.pre args=true) (Dv:WellAll P h vals args) :
  ∃a vs ns,vals=[cj a]/\args=[WData.list (ns.map WData.int)]/\h.get? a=some { cls:=.type "list",data:=.seq vs.toArray }/\IntsAre vs ns/\ns.length<=n:=by
 have vT:WShape.hasAll [] args [.list .int]=true:=(pre_splitW zM).1
 have hc:l.pre.holds [] { args:=args }=true:=(pre_splitW zM).2
 obtain⟨d,r,rfl,h1,h2⟩:=hasAllW_cons vT
 obtain rfl:=hasAllW_nil h2
 obtain⟨xs,rfl,h3⟩:=hasW_list h1
 obtain⟨ns,rfl⟩:=items_int h3
 have hlen:ns.length<=n:=by
  unfold OpenLaw.pre at hc
  have h4:(WTm.not (.lt (.lit (.int (n:Int))) (.len (.arg 0)))).holds [] { args:=[.list (ns.map .int)] }=true:=by
   have h4:=(holds_andW hc).1
   rw[hn]at h4
   exact h4
  have h5:=condW_of h4 (w_not (w_lt w_lit (w_len_list (w_arg rfl))))
  rw[bY]at h5
  refine Jy λq=>?_
  have q':(n:Int)<((ns.length:Nat):Int):=by omega
  first
   | (rw[decide_eq_true q']at h5;exact absurd h5 (by decide))
   | (simp at h5;omega)
 cases Dv with
 | cons w1 w2 =>
  cases w2
  cases w1 with
  | list ho WS=>exact⟨_,_,ns,rfl,rfl,ho,WQ ns _ WS,hlen⟩
theorem WT(l:OpenLaw)(args:List WData):l.row.toRowW.claim.post args (.bool true) args=true :=
 postW_of (r:=l.row.toRowW) (X:=(true==true))
  (show WShape.has [] (.bool true) .bool=true by first | rfl | decide | simp[WShape.has,WShape.arms,WShape.armsAll])
  (show(WTm.eq .res (.lit (.bool true))).value [] { args:=args,res:=some (.bool true),after:=args }=some (.bool (true==true)) from w_eq_bool (w_res rfl) w_lit) rfl
theorem WU{l:OpenLaw}{n:Nat}{q:Program}{loose:List Str}{XP:(Str->Option Value)->Heap->Prop}{YP:World->Heap->Prop}{d:DefRec}
  (hn:l.most=some n) (vU:d.params.defaults=[])
  (call:∀(w:World) (b8 bw:Shared) (mg mb:Str->Option Value) (fa:Addr) (o:Obj) (pm cd doc:Value) (a:Addr) (vs:List Value) (ns:List Int),
   Ground q loose [] XP w b8 mg mb bw.heap->YP w bw.heap ->
   bw.heap.get? fa=some o->o.data=.func (docDef d.name d.params d.body d.scope pm cd doc)->bw.heap.CodeRec cd d.name->mg d.name=some (.ref fa) ->
   bw.heap.get? a=some { cls:=.type "list",data:=.seq vs.toArray }->IntsAre vs ns->ns.length<=n->bw.gens=#[] ->
   codeAny (model l.prog w) callerA (.call (.ref fa) ⟨[.ref a],[]⟩) (λr s'=>r=.ok (.ret (.bool true))/\OldK bw.heap s'.heap/\s'.os=bw.os/\AllBare s'.gens) bw) :
  WalkO q loose XP YP l.row.toRowW d [] (λf vs=>PySem.call f vs):=by
 intro w b8 bw mg mb G Y fa o pm cd doc dV kV ho hd cm hD vV hg args vals as zM dD0 hrd Dv fq
 obtain rfl:dV=.none:=Dflts.none hD vU
 obtain rfl:kV=.none:=Dflts.noKw hD
 obtain⟨a,vs,ns,rfl,rfl,Dw,hints,hlen⟩:=WR hn zM Dv
 refine enter_call (codeAny_mono (call w b8 bw mg mb fa o pm cd doc a vs ns G Y ho (fd_plain hd) cm vV Dw hints hlen hg) λr s' hq=>?_)
 obtain⟨rfl,h2,h3,h4⟩:=hq
 exact⟨.inl ⟨.bool true,.bool true,[],rfl,λ_=>rfl,.bool true,WT l _,λ_=>⟨List.Pairwise.nil,λ_ hm=>(nomatch hm)⟩⟩,h2,h3,h4⟩
section
variable{prog:Program}{w:World}{A:Around}{E:Value->Shared->Prop}{s:Shared}{K:Frag}
end
end Att
namespace L2
open PySem PySem.Spec PyProof.Rows
theorem KS:∀{vs:List Value} {ns:List Int},IntsAre vs ns->Vals (ns.map V.int) vs
 | _,_,.nil=>.nil
 | _,_,.cons n t h=>.cons ⟨t,rfl⟩ (KS h)
end L2
namespace L2
open PySem PySem.Spec PyProof.Rows
end L2
/- THE dD3 dD4 (shape;LID,My.* are dD6):
   My.ft: a structure of KU addresses dD7 dD8 dD9 names (classes,dE0);My.Txt K t: a structure (Prop) of KU equations over K;
   My.dE1:{K} {implicit addresses ..} (e1:nsIn K mainGlobals "law"=some (some (.ref f))) (e2:K.lookup f=some ⟨oc,od,.func (fnOf "law" "law" params body scope dV kV doc pm an ax ct),sl⟩) (e3:codeIn K ax "law"=true) ..:∃t,My.Txt K t
(KU tactic k_is has no namespace: write k_is) -/
namespace L2
open PySem PySem.Spec PyProof.Rows
noncomputable def dY(s:Stmt)(j:Nat):Stmt:=match s with
 | .ClassDef _ _ _ body _ _ _ _ _ _ _=>body.getD j (.Pass ⟨0,0,0,0⟩)
 | _=>.Pass ⟨0,0,0,0⟩
noncomputable def gw(s:Stmt):Arguments:=match s with
 | .FunctionDef _ a _ _ _ _ _ _ _ _=>a
 | _=>{ posonlyargs:=[],args:=[],vararg:=none,kwonlyargs:=[],kw_defaults:=[],kwarg:=none,defaults:=[] }
noncomputable def eD(s:Stmt):List Stmt:=match s with
 | .FunctionDef _ _ b _ _ _ _ _ _ _=>b
 | _=>[]
noncomputable def aK(s:Stmt):Scope:=match s with
 | .FunctionDef _ _ _ _ _ _ sc _ _ _=>sc
 | _=>{ kind:=.function,names:=[],isGenerator:=false,isCoroutine:=false }
noncomputable abbrev aS:dB:=λ_ _ _ _ _ _=>False
noncomputable abbrev E0:XK:=λ_ _ _=>False
theorem dP{X:Cx}:i5 aS X E0:=λ_ _ _ _ _ _ _ h=>h.elim
structure aZ(K:PySem.W.Frag)(x qual:Str)(st:Stmt)(f:Addr)(fd:FuncData):Prop where
 ex:∃(oc:Value) (od:Option Addr) (kV doc pm:Value) (an:Option Addr) (ax ct:Value) (fU:Array (Option Value)),
  fd=PySem.W.fnOf x qual (gw st) (eD st) (aK st) .none kV doc pm an ax ct/\K.lookup f=some ⟨oc,od,.func fd,fU⟩/\PySem.W.codeIn K ax qual=true
 kp:PySem.W.keepIn K (.ref f)=true
section
variable{P:Program}{w:World}{K:PySem.W.Frag}{mg:Str->Option Value}{base:Heap}
theorem aZ.ok{x qual:Str}{st:Stmt}{f:Addr}{fd:FuncData}{N ps:List Str}{k:Nat}{sp:Sp}(F:aZ K x qual st f fd)(S:aY N ps (aK st))(len:∀vs H Q E,sp vs H Q E->vs.length=ps.length)
  (fm:∀(ax:Value) (A:Around) (outer:List Env) (s:Shared) (H:Hp) (vs:List V) (Q:VK) (E:XK),bI k (A.deeper (envOfC qual (aK st) s.heap.objs.size f ax))->sp vs H Q E ->
   ∃t,PSs (fS aS P w K mg base N qual (aK st) f ax A outer s H E).fk (eD st) t/\t { nx:=λ_ H'=>Q .ao H',rt:=Q } (start N vs) H):aL P w K mg base aS (k+1) f fd ps sp:=by
 obtain⟨oc,od,kV,doc,pm,an,ax,ct,fU,rfl,lk,cm⟩:=F.ex
 refine vP lk cm S len λA outer s H vs Q E hr gu=>?_
 obtain⟨t,h,q⟩:=fm ax A outer s H vs Q E hr gu
 exact⟨t,h.fk,q⟩
theorem aZ.binds{x qual:Str}{st:Stmt}{f:Addr}{fd:FuncData}{ps:List Str}(F:aZ K x qual st f fd)
  (h:∀(kV doc pm:Value) (an:Option Addr) (ax ct:Value) (us:List Value),us.length=ps.length->bindArgs (PySem.W.fnOf x qual (gw st) (eD st) (aK st) .none kV doc pm an ax ct) ⟨us,[]⟩=pure (ps.zip us)):Binds K fd ps []:=by
 obtain⟨oc,od,kV,doc,pm,an,ax,ct,fU,rfl,lk,cm⟩:=F.ex
 exact .all (h kV doc pm an ax ct)
theorem zN{x qual:Str}{st:Stmt}{f:Addr}{oc:Value}{od an:Option Addr}{fU:Array (Option Value)}{kV doc pm ax ct:Value}(l:K.lookup f=some ⟨oc,od,.func (PySem.W.fnOf x qual (gw st) (eD st) (aK st) .none kV doc pm an ax ct),fU⟩)
  (c:PySem.W.codeIn K ax qual=true) (k:PySem.W.keepIn K (.ref f)=true):aZ K x qual st f (PySem.W.fnOf x qual (gw st) (eD st) (aK st) .none kV doc pm an ax ct):=⟨⟨oc,od,kV,doc,pm,an,ax,ct,fU,rfl,l,c⟩,k⟩
end
section
variable{X:Cx}
theorem pv(i:Nat){x:Str}{pos:Pos}(hN:X.N[i]?=some x:=by rfl)(hv:mh X.env.scope x:=by first | exact ay rfl | exact cA (ay rfl) | exact cA (cA rfl))(hd:(x==("__debug__":Str))=false:=by decide)
  (cm:(x==("__classdict__":Str))=false:=by decide):PE X (.Name x pos) (J8 i):=rC hN hv hd cm
end
theorem jX{A B:Prop}(h:B):if false=true then A else B:=by
 rw[if_neg ig]
 exact h
theorem nH{A B:Prop}(h:A):if true=true then A else B:=by
 rw[if_pos rfl]
 exact h
end L2
namespace Mf
noncomputable def bl(n:Nat):Nat:=if n=0 then 0 else n.log2+1
theorem dZ{n m:Nat}:bl n<=m↔n<2 ^ m:=by
 unfold bl
 by_cases h:n=0
 ·simp[h,vb]
 ·rw[if_neg h]
  rw[<-Cm h]
  omega
theorem Dx{n m:Nat}:m<bl n↔2 ^ m<=n:=by
 have:=@dZ n m
 omega
theorem iA(n:Nat):n<2 ^ bl n:=dZ.mp (bG _)
theorem KW{n:Nat}(h:n≠0):2 ^ (bl n-1)<=n:=by
 have:0<bl n:=by unfold bl;rw[if_neg h];omega
 exact Dx.mp (by omega)
theorem gx{n:Nat}(h:n≠0):0<bl n:=by
 unfold bl;rw[if_neg h];omega
theorem mx:bl 0=0:=rfl
theorem rG{n:Nat}(h:n≠0):n.testBit (bl n-1)=true:=by
 have h1:=KW h
 have h2:=iA n
 have hp:=gx h
 have e:bl n=(bl n-1)+1:=by omega
 rw[e,oV]at h2
 rw[Tz]
 have:n/2 ^ (bl n-1)=1:=by
  apply Nat.div_eq_of_lt_le
  ·omega
  ·omega
 rw[this];rfl
theorem WV{x n:Nat}(h:∀i,n<=i->x.testBit i=false):x<2 ^ n:=by
 apply Nat.lt_pow_two_of_testBit
 intro i hi
 exact h i hi
theorem KY{x y n:Nat}(hx:x<2 ^ (n+1))(hy:y<2 ^ (n+1))(tx:x.testBit n=true)(ty:y.testBit n=true):x ^^^ y<2 ^ n:=by
 apply WV
 intro i hi
 rw[lN]
 by_cases e:i=n
 ·rw[e,tx,ty];rfl
 ·have iB:n+1<=i:=by omega
  have p:2 ^ (n+1)<=2 ^ i:=yL (by decide) iB
  rw[Cn (cq hx p),Cn (cq hy p)]
  rfl
theorem KZ(x y z:Nat):(x ^^^ y) ^^^ (z ^^^ y)=x ^^^ z:=by
 apply yM;intro i;simp only[lN]
 cases x.testBit i<;>cases y.testBit i<;>cases z.testBit i<;>rfl
theorem K0(x y z t:Nat):(x ^^^ y) ^^^ (z ^^^ t)=(x ^^^ z) ^^^ (y ^^^ t):=by
 apply yM;intro i;simp only[lN]
 cases x.testBit i<;>cases y.testBit i<;>cases z.testBit i<;>cases t.testBit i<;>rfl
noncomputable def P(a b:Nat):Nat->Nat
 | 0=>0
 | k+1=>P a b k ^^^ (if b.testBit k then a <<< k else 0)
noncomputable def cl(a b:Nat):Nat:=P a b (bl b)
theorem K1{a b k:Nat}(h:b<2 ^ k):∀j,P a b (k+j)=P a b k
 | 0=>rfl
 | j+1=>by
  show P a b (k+j) ^^^ (if b.testBit (k+j)then a <<< (k+j)else 0)=_
  rw[K1 h j]
  have p:2 ^ k<=2 ^ (k+j):=yL (by decide) (by omega)
  rw[Cn (cq h p)]
  simp
theorem rH{a b k:Nat}(h:b<2 ^ k):P a b k=cl a b:=by
 have h1:=dZ.mpr h
 have e:k=bl b+(k-bl b):=by omega
 rw[e,K1 (iA b)]
 rfl
theorem K2(a a' b:Nat):∀k,P (a ^^^ a') b k=P a b k ^^^ P a' b k
 | 0=>(kn 0).symm
 | k+1=>by
  show P (a ^^^ a') b k ^^^ _=(P a b k ^^^ _) ^^^ (P a' b k ^^^ _)
  rw[K2 a a' b k]
  by_cases t:b.testBit k=true
  ·rw[if_pos t,if_pos t,if_pos t,TB]
   ac_rfl
  ·rw[if_neg t,if_neg t,if_neg t]
   simp
theorem K3(a b b':Nat):∀k,P a (b ^^^ b') k=P a b k ^^^ P a b' k
 | 0=>(kn 0).symm
 | k+1=>by
  show P a (b ^^^ b') k ^^^ _=(P a b k ^^^ _) ^^^ (P a b' k ^^^ _)
  rw[K3 a b b' k,lN]
  cases b.testBit k<;>cases b'.testBit k<;>simp
  ·ac_rfl
  ·ac_rfl
  ·exact(KZ _ _ _).symm
theorem nI(a a' b:Nat):cl (a ^^^ a') b=cl a b ^^^ cl a' b:=K2 a a' b _
theorem rJ{x y n:Nat}(hx:x<2 ^ n)(hy:y<2 ^ n):x ^^^ y<2 ^ n:=Nat.xor_lt_two_pow hx hy
theorem WW(a b b':Nat):cl a (b ^^^ b')=cl a b ^^^ cl a b':=by
 let k:=bl b+bl b'
 have h1:b<2 ^ k:=dZ.mp (by omega)
 have h2:b'<2 ^ k:=dZ.mp (by omega)
 rw[<-rH (rJ h1 h2),<- rH h1,<- rH h2,K3]
theorem WX(a:Nat):cl a 0=0:=rfl
theorem K4(b:Nat):∀k,P 0 b k=0
 | 0=>rfl
 | k+1=>by
  show P 0 b k ^^^ _=0
  rw[K4 b k];simp
theorem nJ(b:Nat):cl 0 b=0:=K4 b _
theorem WY(b k:Nat):(b/2).testBit k=b.testBit (k+1):=by
 rw[Co]
theorem K5(a b:Nat):∀k,P a b (k+1)=(if b%2=1 then a else 0) ^^^ P (2*a) (b/2) k
 | 0=>by
  show 0 ^^^ _=_ ^^^ 0
  rw[nt,kn,yN]
  simp
 | k+1=>by
  show P a b (k+1) ^^^ _=_ ^^^ (P (2*a) (b/2) k ^^^ _)
  rw[K5 a b k,WY,oW]
  have e:a <<< (k+1)=(2*a) <<< k:=by
   rw[jO,jO,oV]
   rw[lK 2 a,rk,lK 2]
  rw[e]
theorem K6{b k:Nat}(h:b<2 ^ (k+1)):b/2<2 ^ k:=by
 rw[oV]at h;omega
theorem K7(a b:Nat):cl a b=(if b%2=1 then a else 0) ^^^ cl (2*a) (b/2):=by
 have h:b<2 ^ (bl b+1):=Nat.lt_trans (iA b) (by rw[oV];have:=vb (bl b);omega)
 rw[<-rH h,K5,rH (K6 h)]
theorem K8(a b:Nat):∀k,P (2*a) b k=2*P a b k
 | 0=>rfl
 | k+1=>by
  show P (2*a) b k ^^^ _=2*(P a b k ^^^ _)
  rw[K8 a b k]
  have d:∀x y:Nat,2*(x ^^^ y)=2*x ^^^ 2*y:=by
   intro x y
   have h:=@TB 1 x y
   rw[jO,jO,jO,Nat.pow_one]at h
   rw[lK 2 (x ^^^ y),lK 2 x,lK 2 y]
   exact h
  rw[d]
  by_cases t:b.testBit k=true
  ·rw[if_pos t,if_pos t,jO,jO,rk]
  ·rw[if_neg t,if_neg t]
theorem Dy(a b:Nat):cl (2*a) b=2*cl a b:=K8 a b _
theorem vW(a c t:Nat)(ht:t<2):cl a (2*c+t)=2*cl a c ^^^ (if t=1 then a else 0):=by
 rw[K7,Dy,Jz]
 have e1:(2*c+t)/2=c:=by omega
 have e2:(2*c+t)%2=t:=by omega
 rw[e1,e2]
theorem WZ(a c:Nat):cl a (2*c)=2*cl a c:=by
 have h:=vW a c 0 (by decide)
 simpa using h
theorem K9(c t:Nat)(ht:t<2):2*c ^^^ t=2*c+t:=by
 apply yM
 intro i
 cases i with
 | zero =>
  rw[lN,yN,yN,yN]
  have:t=0\/t=1:=by omega
  rcases this with h | h<;>subst h<;>simp<;>omega
 | succ i =>
  rw[lN,Co,Co,Co]
  have e1:2*c/2=c:=by omega
  have e2:t/2=0:=by omega
  have e3:(2*c+t)/2=c:=by omega
  rw[e1,e2,e3];simp
theorem Dz:∀b:Nat,cl 1 b=b:=by
 intro b
 induction b using Cp with
 | ind b ih =>
  by_cases h:b=0
  ·subst h;rfl
  ·have e:b=2*(b/2)+b%2:=by omega
   rw[e,vW 1 (b/2) (b%2) (by omega),ih (b/2) (by omega)]
   have:b%2=0\/b%2=1:=by omega
   rcases this with h | h
   ·rw[h];simp
   ·rw[h];rw[if_pos rfl];exact K9 _ _ (by decide)
theorem vX:∀b a:Nat,cl a b=cl b a:=by
 intro b
 induction b using Cp with
 | ind b ih =>
  intro a
  by_cases h:b=0
  ·subst h;rw[nJ];rfl
  ·have e:b=2*(b/2)+b%2:=by omega
   have lt:b%2<2:=by omega
   have e':cl b a=cl (2*(b/2) ^^^ b%2) a:=by rw[K9 _ _ lt,<- e]
   rw[e',nI,Dy,<- ih (b/2) (by omega) a]
   have W0:cl a b=cl a (2*(b/2)+b%2):=by rw[<-e]
   rw[W0,vW _ _ _ lt]
   have:b%2=0\/b%2=1:=by omega
   rcases this with h | h
   ·rw[h,nJ];rfl
   ·rw[h,Dz];rfl
theorem DA{a m:Nat}(h:a<2 ^ m)(b:Nat):∀k,P a b (k+1)<2 ^ (m+k)
 | 0=>by
  show 0 ^^^ _<_
  rw[nt,Nat.add_zero]
  by_cases t:b.testBit 0=true
  ·rw[if_pos t];simpa using h
  ·rw[if_neg t];exact vb m
 | k+1=>by
  show P a b (k+1) ^^^ _<_
  have i:=DA h b k
  have p:2 ^ (m+k)<=2 ^ (m+(k+1)):=yL (by decide) (by omega)
  apply rJ (cq i p)
  by_cases t:b.testBit (k+1)=true
  ·rw[if_pos t,jO,Nat.pow_add 2 m]
   exact(TC (vb _)).mpr h
  ·rw[if_neg t];exact vb _
theorem W2{a b m n:Nat}(h:a<2 ^ m)(h':b<2 ^ (n+1)):cl a b<2 ^ (m+n):=by
 rw[<-rH h'];exact DA h b n
theorem W3{a b:Nat}(ha:a≠0)(hb:b≠0):2 ^ (bl a-1+(bl b-1))<=cl a b:=by
 have e:bl b=(bl b-1)+1:=by have:=gx hb;omega
 have ta:=rG ha
 have tb:=rG hb
 apply Nat.ge_two_pow_of_testBit
 unfold cl
 rw[e]
 show(P a b (bl b-1) ^^^ _).testBit _=true
 have e2:bl b-1+1-1=bl b-1:=by omega
 rw[e2,lN,if_pos tb]
 have f:(P a b (bl b-1)).testBit (bl a-1+(bl b-1))=false:=by
  cases q:bl b-1 with
  | zero=>show Nat.testBit 0 _=false;exact Nat.zero_testBit _
  | succ k =>
   apply Cn
   have l:=DA (iA a) b k
   have p:=gx ha
   have e3:bl a-1+(k+1)=bl a+k:=by omega
   rw[e3];exact l
 rw[f,TF]
 have e4:bl a-1+(bl b-1)-(bl b-1)=bl a-1:=by omega
 rw[e4,ta]
 simp
theorem La{a b:Nat}(ha:a≠0)(hb:b≠0):bl (cl a b)=bl a+bl b-1:=by
 have p1:=gx ha
 have p2:=gx hb
 have h1:bl (cl a b)<=bl a+(bl b-1):=dZ.mpr (W2 (iA a) (by
  have e:bl b-1+1=bl b:=by omega
  rw[e];exact iA b))
 have h2:=Dx.mpr (W3 ha hb)
 omega
theorem Lb(s b:Nat):cl (2 ^ s) b=b <<< s:=by
 induction s with
 | zero=>rw[Nat.pow_zero,Dz];rfl
 | succ s ih =>
  rw[oV,lK,Dy,ih,jO,jO,oV]
  rw[<-rk,lK 2,rk,lK 2,<- rk,rk]
theorem W4{a q b r s:Nat}(h:a=cl q b ^^^ r):a=cl (q ^^^ 2 ^ s) b ^^^ (r ^^^ b <<< s):=by
 rw[nI,Lb,h,KZ]
theorem Lc{b r:Nat}(hb:b≠0)(h:bl b<=bl r):bl (r ^^^ b <<< (bl r-bl b))<bl r:=by
 have p:=gx hb
 have hr:r≠0:=by
  intro z;rw[z,mx]at h;omega
 have:r ^^^ b <<< (bl r-bl b)<2 ^ (bl r-1):=by
  apply KY
  ·have e:bl r-1+1=bl r:=by omega
   rw[e];exact iA r
  ·have e:bl r-1+1=bl b+(bl r-bl b):=by omega
   rw[e,jO,Nat.pow_add]
   exact(TC (vb _)).mpr (iA b)
  ·exact rG hr
  ·rw[TF]
   have e:bl r-1-(bl r-bl b)=bl b-1:=by omega
   rw[e,rG hb]
   simp;omega
 have:=dZ.mpr this
 omega
theorem W5{x y z:Nat}(h:x ^^^ y=z):x=z ^^^ y:=by
 rw[<-h,oW,yO,kn]
theorem DB{x y:Nat}(h:x ^^^ y=0):x=y:=by
 have:=W5 h
 rwa [nt]at this
theorem W6{b q r q' r':Nat}(h:cl q b ^^^ r=cl q' b ^^^ r')(hr:bl r<bl b)(bU:bl r'<bl b):q=q'/\r=r':=by
 have hb:b≠0:=by intro z;rw[z,mx]at hr;omega
 have e:cl (q ^^^ q') b=r ^^^ r':=by
  rw[nI]
  have z:(cl q b ^^^ r) ^^^ (cl q' b ^^^ r')=0:=by rw[h,yO]
  rw[K0]at z
  exact DB z
 have lt:bl (r ^^^ r')<bl b:=by
  have h1:r<2 ^ (bl b-1):=dZ.mp (by omega)
  have h2:r'<2 ^ (bl b-1):=dZ.mp (by omega)
  have:=dZ.mpr (rJ h1 h2)
  have:=gx hb
  omega
 have z:q ^^^ q'=0:=by
  apply TH
  intro hq
  have h1:=La hq hb
  have h2:=gx hq
  rw[e]at h1
  omega
 have zq:=DB z
 subst zq
 rw[z,nJ]at e
 exact⟨rfl,DB e.symm⟩
end Mf
namespace Mf
open PySem PySem.Builtin.Int
theorem W7(x y:Nat):(x ^^^ y)+2*(x &&& y)=x+y:=by
 induction x using Cp generalizing y with
 | ind x ih =>
  by_cases h:x=0
  ·subst h;simp
  ·have h1:=ih (x/2) (by omega) (y/2)
   have e1:(x ^^^ y)/2=x/2 ^^^ y/2:=Nat.xor_div_two
   have e2:(x &&& y)/2=x/2 &&& y/2:=Nat.and_div_two
   have t:∀n:Nat,n%2=if n.testBit 0=true then 1 else 0:=by
    intro n
    rw[yN]
    by_cases h:n%2=1
    ·simp[h]
    ·simp[h];omega
   have m1:(x ^^^ y)%2=(x%2+y%2)%2:=by
    rw[t (x ^^^ y),t x,t y,lN]
    cases x.testBit 0<;>cases y.testBit 0<;>rfl
   have m2:(x &&& y)%2=x%2*(y%2):=by
    rw[t (x &&& y),t x,t y,JA]
    cases x.testBit 0<;>cases y.testBit 0<;>rfl
   have d1:=Nat.div_add_mod (x ^^^ y) 2
   have d2:=Nat.div_add_mod (x &&& y) 2
   rw[e1]at d1
   rw[e2]at d2
   have hx:x%2=0\/x%2=1:=by omega
   have hy:y%2=0\/y%2=1:=by omega
   rcases hx with hx | hx<;>rcases hy with hy | hy<;>rw[hx,hy]at m1 m2<;>omega
theorem Ld{x y:Int}(hx:0<=x)(hy:0<=y):nk x y=((x.toNat &&& y.toNat:Nat):Int):=by
 unfold nk
 rw[decide_eq_true hx,decide_eq_true hy]
theorem W8{x y:Int}(hx:0<=x)(hy:0<=y):Builtin.bitOr x y=((x.toNat ||| y.toNat:Nat):Int):=by
 unfold Builtin.bitOr nk Builtin.bitNot
 rw[decide_eq_false (by omega),decide_eq_false (by omega)]
 show-(-((((- (-x-1)-1).toNat ||| (-(-y-1)-1).toNat:Nat):Int))-1)-1=_
 have e1:(- (-x-1)-1).toNat=x.toNat:=by omega
 have e2:(- (-y-1)-1).toNat=y.toNat:=by omega
 rw[e1,e2]
 omega
theorem W9(x y:Nat):(x ||| y)=(x ^^^ y)+(x &&& y):=by
 have d:(x ^^^ y) &&& (x &&& y)=0:=by
  apply yM;intro i
  simp only[lN,JA,Nat.zero_testBit]
  cases x.testBit i<;>cases y.testBit i<;>rfl
 have e:(x ||| y)=(x ^^^ y) ^^^ (x &&& y):=by
  apply yM;intro i
  simp only[lN,JA,Nat.testBit_or]
  cases x.testBit i<;>cases y.testBit i<;>rfl
 have h:=W7 (x ^^^ y) (x &&& y)
 rw[d]at h
 rw[e];omega
theorem Xa{x y:Int}(hx:0<=x)(hy:0<=y):nq x y=((x.toNat ^^^ y.toNat:Nat):Int):=by
 unfold nq
 rw[W8 hx hy,Ld hx hy,W9]
 omega
theorem my(x y:Nat):nq (x:Int) (y:Int)=((x ^^^ y:Nat):Int):=by
 rw[Xa (by omega) (by omega)];rfl
theorem Le(x y:Nat):nk (x:Int) (y:Int)=((x &&& y:Nat):Int):=by
 rw[Ld (by omega) (by omega)];rfl
theorem rK(x k:Nat):(x:Int)*2 ^ ((k:Int)).toNat=((x <<< k:Nat):Int):=by
 rw[jO]
 simp
theorem Xb(x k:Nat):(x:Int)/2 ^ ((k:Int)).toNat=((x >>> k:Nat):Int):=by
 rw[TK]
 simp
theorem Xc(x k:Nat):((x >>> k) &&& 1=1)↔x.testBit k=true:=by
 rw[Tz,TK]
 have:(x/2 ^ k) &&& 1=(x/2 ^ k)%2:=Nat.and_two_pow_sub_one_eq_mod _ 1
 rw[this]
 simp
end Mf
namespace Mf
end Mf
namespace Mf
theorem Lf(a b:Nat):∀c,cl (cl a b) c=cl a (cl b c):=by
 intro c
 induction c using Cp with
 | ind c ih =>
  by_cases h:c=0
  ·subst h;rfl
  ·have e:c=2*(c/2)+c%2:=by omega
   have lt:c%2<2:=by omega
   have i:=ih (c/2) (by omega)
   rw[e,vW _ _ _ lt,vW _ _ _ lt,i,WW,WZ]
   have:c%2=0\/c%2=1:=by omega
   rcases this with h | h
   ·rw[h];rfl
   ·rw[h];rfl
noncomputable def rL:Nat->Nat->Nat->Nat
 | 0,a,_=>a
 | n+1,a,b=>if bl a<bl b then a else rL n (a ^^^ b <<< (bl a-bl b)) b
noncomputable def md(a b:Nat):Nat:=rL (bl a+1) a b
theorem Lg{b:Nat}(hb:b≠0):∀n a,bl a<n->(∃q,a=cl q b ^^^ rL n a b)/\bl (rL n a b)<bl b
 | 0,_,h=>absurd h (by omega)
 | n+1,a,h=>by
  unfold rL
  by_cases l:bl a<bl b
  ·rw[if_pos l]
   exact⟨⟨0,by rw[nJ,nt]⟩,l⟩
  ·rw[if_neg l]
   have less:=Lc hb (show bl b<=bl a by omega)
   obtain⟨⟨q,e⟩,l2⟩:=Lg hb n (a ^^^ b <<< (bl a-bl b)) (by omega)
   refine⟨⟨q ^^^ 2 ^ (bl a-bl b),?_⟩,l2⟩
   rw[nI,Lb]
   have e2:a=(a ^^^ b <<< (bl a-bl b)) ^^^ b <<< (bl a-bl b):=by rw[oW,yO,kn]
   rw[e]at e2
   refine e2.trans ?_
   generalize rL n _ b=r
   rw[oW,Jz r,<- oW]
theorem vY{b:Nat}(hb:b≠0)(a:Nat):(∃q,a=cl q b ^^^ md a b)/\bl (md a b)<bl b:=Lg hb _ a (by omega)
theorem vZ{a b q r:Nat}(h:a=cl q b ^^^ r)(hr:bl r<bl b):md a b=r:=by
 have hb:b≠0:=by intro z;rw[z,mx]at hr;omega
 obtain⟨⟨q',e⟩,l⟩:=vY hb a
 exact(W6 (e.symm.trans h) l hr).2
theorem Xd(q:Nat){b:Nat}(hb:b≠0):md (cl q b) b=0 :=
 vZ (q:=q) (by rw[kn]) (by rw[mx];exact gx hb)
end Mf
namespace Mf
theorem Xe(y:Nat):bl (y/2)=bl y-1:=by
 by_cases h:y=0
 ·subst h;rfl
 ·have p:=gx h
  have h1:bl (y/2)<=bl y-1:=dZ.mpr (K6 (by
   have e:bl y-1+1=bl y:=by omega
   rw[e];exact iA y))
  have h2:bl y<=bl (y/2)+1:=dZ.mpr (by
   have:=iA (y/2)
   rw[oV];omega)
  omega
theorem Xf(x:Nat):bl (2*x)<=bl x+1:=dZ.mpr (by
 have:=iA x
 rw[oV];omega)
theorem DC{x y:Nat}(h:x<=y):bl x<=bl y:=dZ.mpr (lQ h (iA y))
end Mf
namespace Mf
noncomputable def al(a:Nat):Bool:=decide (2<=a)&&(aJ (2 ^ ((bl a-1)/2+1)-2)).all λi=>md a (2+i) != 0
theorem Xg{a:Nat}(h:a<2):al a=false:=by
 unfold al;rw[decide_eq_false (by omega)];rfl
theorem Xh{a:Nat}(h:2<=a)(k:∀i,i<2 ^ ((bl a-1)/2+1)-2->md a (2+i)≠0):al a=true:=by
 unfold al
 rw[decide_eq_true h,nu,du]
 intro i hi
 have:=k i (dH.mp hi)
 simpa using this
theorem Xi{a i:Nat}(k:i<2 ^ ((bl a-1)/2+1)-2)(z:md a (2+i)=0):al a=false:=by
 unfold al
 rw[Bool.and_eq_false_iff]
 right
 rw[List.all_eq_false]
 exact⟨i,dH.mpr k,by simp[z]⟩
theorem Xj{a:Nat}(h:2<=a){b:Nat}(hb:b<2 ^ ((bl a-1)/2+1)):b<a/\2*bl b<=bl a+1:=by
 have h2:2<=bl a:=by
  have:=Dx.mpr (show 2 ^ 1<=a by omega)
  omega
 have l:=dZ.mpr hb
 refine⟨cq hb (eO (yL (by decide) ?_) (KW (by omega))),by omega⟩
 omega
end Mf
namespace L2
open PySem PySem.Spec PyProof.Rows Mf
theorem gy:bootBuiltins "len"=some (.builtin "len"):=by decide +kernel
theorem Lh:bootBuiltins "isinstance"=some (.builtin "isinstance"):=by decide +kernel
theorem Li:bootBuiltins "min"=some (.builtin "min"):=by decide +kernel
theorem DD:bootBuiltins "all"=some (.builtin "all"):=by decide +kernel
theorem v3:bootBuiltins "str"=some (.type "str"):=by decide +kernel
theorem v7:bootBuiltins "list"=some (.type "list"):=by decide +kernel
theorem Xk:bootBuiltins "range"=some (.type "range"):=by decide +kernel
theorem Xl:bootBuiltins "ValueError"=some (.type "ValueError"):=by decide +kernel
section
variable{X:Cx}{a b o:Expr}{ta tb to:TE}{pos apos bK:Pos}
theorem Lj(i:Int):Builtin.Int.intBits i=bl i.natAbs:=by
 unfold Builtin.Int.intBits bl
 by_cases h:i=0
 ·subst h;rfl
 ·have h':¬ i.natAbs=0:=by omega
  rw[if_neg h',if_neg (by simpa using h)]
noncomputable def Lk:V->List V->Hp->VK->Prop:=λx vs H Q=>∃i,x=.int i/\vs=[]/\Q (.int (bl i.natAbs:Nat)) H
theorem Xm:vQ X "int.bit_length" Lk:=by
 intro pins s σ H x xs v us Q I rx rs h
 obtain⟨i,rfl,rfl,q⟩:=h
 obtain⟨t,rfl⟩:=rx
 cases rs
 refine call_int_bit_length ?_
 rw[Lj]
 exact⟨.int _,H,I.tok _,⟨_,rfl⟩,q⟩
theorem DE(ho:PE X o to)(jV:attributeBase o "bit_length" X.env (eval o X.env)=eval o X.env:=by rfl)(jW:(apos.endLine==bK.line)=true:=by rfl) :
  PE X (.Call (.Attribute o "bit_length" apos) [] [] bK) (KJ X.K "int" Lk to) :=
 WB PySem.F.plainAttrs_int PySem.F.slot_int_bit_length PySem.F.type_int_bit_length Xm ho jV jW
noncomputable def Ll(i j:Int):Prop:=0<=j/\((bl i.natAbs:Nat):Int)+j<=134217728
theorem Lm:cn X (binaryOp .LShift) (rI Ll λi j=>.int (i*2 ^ j.toNat)):=vN λi j _ _ _ _ _ hc q =>
 lshift_int hc.1 (by rw[Lj];exact Int.le_trans hc.2 (by decide)) q
theorem Ln{x:Str}{n:String}(hg:Gl X x)(hm:X.mg x=none)(hv:bootBuiltins x=some (.type n))(hn:x≠"__name__":=by decide)(hd:(x==("__debug__":Str))=false:=by decide):PE X (.Name x pos) (tC (.ty n)) :=
 Ur hg hm hv rfl hn hd
noncomputable def Xn(K:PySem.W.Frag):List V->Hp->VK->Prop:=λxs H Q=>∃x n t b,xs=[x,.ty n]/\gr K H x t/\PySem.W.kitOne K t (.type n)=some b/\Q (.bl b) H
theorem Xo:fQ X (.builtin "isinstance") (Xn X.K):=by
 intro pins s σ H xs us Q I r h
 obtain⟨x,n,t,b,rfl,ty,e,q⟩:=h
 obtain⟨u,v,rfl,ru,rv⟩:=r.two
 cases(show v=Value.type n from rv)
 exact Kq I ru ty e λtk=>⟨.bl b,H,I.tok _,rfl,q⟩
end
theorem Xp(b i:Nat):decide (V.int (nk ((b:Int)/2 ^ ((0:Int)+(i:Int)).toNat) 1)=V.int 1)=b.testBit i:=by
 have e:((0:Int)+(i:Int)).toNat=((i:Int)).toNat:=by omega
 rw[e,Xb,show(1:Int)=((1:Nat):Int) from rfl,Le,rm,decide_eq_true_iff,<- Xc]
 constructor
 ·intro h;injection h with h;omega
 ·intro h;rw[h]
theorem Xq{a b i:Nat}(h:b.testBit i=true):nq ((P a b i:Nat):Int) ((a:Int)*2 ^ ((0:Int)+(i:Int)).toNat)=((P a b (i+1):Nat):Int):=by
 have e:((0:Int)+(i:Int)).toNat=((i:Int)).toNat:=by omega
 rw[e,rK,my]
 show _=((P a b i ^^^ (if b.testBit i then a <<< i else 0):Nat):Int)
 rw[if_pos h]
theorem Xr{a b i:Nat}(h:¬ b.testBit i=true):P a b (i+1)=P a b i:=by
 show P a b i ^^^ (if b.testBit i then a <<< i else 0)=_
 rw[if_neg h,kn]
theorem dI{i j:Int}:decide (V.int i=V.int j)=true↔i=j:=by
 rw[decide_eq_true_iff]
 exact⟨λh=>by injection h,λh=>by rw[h]⟩
end L2
namespace L2
open PySem PySem.Spec PyProof.Rows
section
variable{X:Cx}
end
end L2
namespace L2
open PySem PySem.Spec PyProof.Rows
noncomputable def zO(X:Cx)(scope:Scope)(N:List Str)(cl:List (Str × Addr))(C:Addr)(s:Shared)(H:Hp)(fp:List Addr):Cx where
 prog:=X.prog
 w:=X.w
 K:=X.K
 mg:=X.mg
 base:=X.base
 A:=X.A
 N:=N
 b8:=s
 iZ:=H
 env:=compEnvC scope cl C X.env
 outer:=X.stack
 stack:=X.stack
 ex:=fp
 fn:=λ_=>false
 calm:=X.calm
 pn:=[]
 xe:=λ_ _=>False
noncomputable def kG(X:Cx)(scope:Scope)(cl:List (Str × Addr)):List (Str × Nat)->Prop
 | []=>True
 | (y,i)::r=>(X.N[i]?=some y/\(X.env.scope.names.lookup y=some .cell\/X.env.scope.names.lookup y=some .free)/\((relabel scope X.env).names.lookup y=some .cell\/(relabel scope X.env).names.lookup y=some .free)/\∃c,cl.lookup y=some c/\X.env.cells.lookup y=some c)/\kG X scope cl r
theorem kG.at{X:Cx}{scope:Scope}{cl:List (Str × Addr)}:∀{av:List (Str × Nat)},kG X scope cl av->∀p∈av,X.N[p.2]?=some p.1/\(X.env.scope.names.lookup p.1=some .cell\/X.env.scope.names.lookup p.1=some .free)/\((relabel scope X.env).names.lookup p.1=some .cell\/(relabel scope X.env).names.lookup p.1=some .free)/\∃c,cl.lookup p.1=some c/\X.env.cells.lookup p.1=some c
 | [],_,p,hp=>absurd hp (by simp)
 | (y,i)::r,h,p,hp=>by
  rcases bR.mp hp with e | e
  ·subst e;exact h.1
  ·exact kG.at h.2 p e
noncomputable def kH(Y:Cx)(ifs:List Expr)(t:TT):Prop :=
 ∀(pins:List (Addr × Obj)) (s:Shared) (σ:St) (H:Hp) (Q:Bool->Hp->Prop),Inv Y pins σ H s->t σ H Q ->
  wpAny (model Y.prog Y.w) Y.A (forIn ifs true λc r=>if r=true then do let ok<-isTrue c Y.env (eval c Y.env);pure (Cq ok)else pure (Cq r)) (TP Y pins σ Q) Y.xe s
noncomputable def Xs:TT:=λ_ H Q=>Q true H
theorem Xt{Y:Cx}:kH Y [] Xs:=λ_ _ _ H _ I h=>wpAny_tests_nil ⟨H,I,h⟩
theorem Xu{Y:Cx}{c:Expr}{t:TT}(h:PT Y c t):kH Y [c] t:=λpins s σ H Q I q=>wpAny_tests_one (h pins s σ H Q I q)
section
variable{X:Cx}{elt iter:Expr}{x:Str}{px pos:Pos}{ifs:List Expr}{scope:Scope}{cl:List (Str × Addr)}{av:List (Str × Nat)}{wi:TI}{tt:TT}{te:TE}
end
section
variable{prog:Program}{w:World}{A:Around}{R:Result->Shared->Prop}{s:Shared}
theorem Xv{elt target iter:Expr}{ifs:List Expr}{scope:Scope}{pos:Pos}{it acc:Value}{env:Env}(Iv:Nat->Shared->Prop)
  (turn:∀n s,Iv n s->wpAny (model prog w) A (pyNext it) (λr s1=>match r with
   | none=>R (.ok .next) s1
   | some v=>wpAny (model prog w) A (letOwnedTupleGo target it v) (λ_ t1=>wpAny (model prog w) A (assign target env v) (λ_ s2 =>
     wpAny (model prog w) A (forIn ifs true λc r=>if r=true then do let ok<-isTrue c env (eval c env);pure (Cq ok)else pure (Cq r)) (λok s3 =>
      if ok=true then wpAny (model prog w) A (eval elt env) (λy s4=>wpAny (model prog w) A (call (.builtin "list.append") [acc,y]) (λ_ s5=>∃m,m<n/\Iv m s5) (λ_ _=>False) s4) (λ_ _=>False) s3
      else ∃m,m<n/\Iv m s3) (λ_ _=>False) s2) (λ_ _=>False) t1) (λ_ _=>False) s1) (λ_ _=>False) s)
  (n:Nat) (h:Iv n s):codeAny (model prog w) A (.compLoop (.ListComp elt [⟨target,iter,ifs,0⟩] scope pos) 0 it acc env) R s:=by
 refine codeAny_loop rfl Iv (λn s hI=>?_) n h
 change wpAny _ A (Sem.onRaise (compTurn (.ListComp elt [⟨target,iter,ifs,0⟩] scope pos) 0 it acc env) λx=>do noteFrame x env;theTreesLotGoes x) _ _ s
 refine wpAny_noted (wpAny_mono (E:=λ_ _=>False) ?_ (λ_ _ q=>q) λ_ _ z=>z.elim)
 rw[compTurn_list]
 refine wpAny_bind (wpAny_standAt (wpAny_bind (aM (turn n s hI) λr s1 h1=>?_)))
 cases r with
 | none=>exact wpAny_pure h1
 | some v =>
  refine wpAny_bind (aM h1 λ_ t1 k1=>wpAny_bind (aM k1 λ_ s2 h2=>wpAny_bind (aM h2 λok s3 h3=>?_)))
  cases ok with
  | false=>exact wpAny_pure ⟨rfl,h3⟩
  | true=>exact wpAny_bind (wpAny_bind (aM h3 λy s4 h4=>wpAny_bind (aM h4 λ_ s5 h5=>wpAny_pure (wpAny_pure ⟨rfl,h5⟩))))
end
section
variable{X:Cx}{elt iter:Expr}{x:Str}{px pos:Pos}{ifs:List Expr}{scope:Scope}{cl:List (Str × Addr)}{av:List (Str × Nat)}{wi:TI}{tt:TT}{te:TE}
end
end L2
namespace L2
open PySem PySem.Spec PyProof.Rows
section
variable{X:Cx}
theorem Xw{bs:List Bool}{us:List Value}(r:Vals (bs.map V.bl) us):bs.length=us.length/\∀(i:Nat) (v:Value),us[i]?=some v->∃b,bs[i]?=some b/\v=.bool b:=by
 have l:=r.length
 rw[bY]at l
 refine⟨l,λi v e=>?_⟩
 have hi:i<us.length:=(jr.mp e).1
 have hb:i<bs.length:=by omega
 obtain⟨u,e2,q⟩:=r.get (i:=i) (x:=V.bl bs[i]) (by rw[cP,aT hb];rfl)
 rw[e]at e2
 cases e2
 exact⟨bs[i],aT hb,q⟩
theorem Xx{s:Shared}{h':Heap}{o:Obj}(hk:∀b x,b ∉ [s.heap.objs.size]->(s.heap.push o).get? b=some x->h'.get? b=some x)(b:Addr)(x:Obj)(e:s.heap.get? b=some x):h'.get? b=some x :=
 hk b x (λhm=>gh _ (by have:=bF e;rw[jP.mp hm]at this;exact this)) (eG _ e)
theorem Xy(bs:List Bool):((aJ bs.length).all λi=>(bs[i]?).getD true)=bs.all id:=by
 rw[rm,du,du]
 constructor
 ·intro h b hb
  obtain⟨i,hi,rfl⟩:=kq hb
  have:=h i (dH.mpr hi)
  rwa [aT hi]at this
 ·intro h i hi
  have iB:=dH.mp hi
  rw[aT iB]
  exact h _ (fh iB)
theorem Xz(hc:X.calm=true):fQ X (.builtin "all") (λxs H Q=>∃(p:Addr) (bs:List Bool),xs=[.ref p]/\bH X.K H p (bs.map V.bl)/\Q (.bl (bs.all id)) H):=by
 intro pins s σ H xs us Q I r h
 obtain⟨p,bs,rfl,hS,q⟩:=h
 obtain⟨u,rfl,ru⟩:=r.one
 cases ru
 obtain⟨its,rv,pl,hz⟩:=I.list hS
 obtain⟨hlen,XA⟩:=Xw rv
 have hl:=pl.isList
 have fV:p<s.heap.objs.size:=by obtain⟨_,e,_⟩:=hl;exact bF e
 refine call_all_walk (wpAny_pyIter_list hl ?_)
 refine⟨s.heap.objs.size,[s.heap.objs.size,p],[s.heap.objs.size],its.toArray.size,_,_,λi=>(bs[i]?).getD true,rfl,Walks.list (A:=X.A.in1) (I.ok.hd hc) _ p (eA fV) its.toArray,
  ⟨⟨_,gU _ rfl,rfl,rfl⟩,hl.push _⟩,λi v s' Q' E' hP hQ=>?_,λh' tk hk=>?_⟩
 ·obtain⟨b,e,rfl⟩:=XA i v (by simpa using hP)
  simp only[e,vd]at hQ
  exact wpAny_truthy_bool hQ
 ·have e:((aJ its.toArray.size).all λi=>(bs[i]?).getD true)=bs.all id:=by
   rw[dy,<- hlen];exact Xy bs
  rw[e]
  exact⟨.bl _,H,I.kept (h':=h') (t':=tk) (Xx hk),rfl,q⟩
end
noncomputable def kI(X:Cx):List (Str × Addr)->Prop
 | []=>True
 | (y,c)::r=>X.env.cells.lookup y=some c/\kI X r
theorem kI.all{X:Cx}:∀{cl:List (Str × Addr)},kI X cl->∀y c,cl.lookup y=some c->X.env.cells.lookup y=some c
 | [],_,y,c,h=>by simp at h
 | (z,d)::r,h,y,c,e=>by
  rw[eY]at e
  cases q:y==z with
  | true =>
   rw[q]at e
   cases e
   rw[eq_of_beq q]
   exact h.1
  | false =>
   rw[q]at e
   exact kI.all h.2 y c e
noncomputable def kJ(cl:List (Str × Addr)):List (Str × NameKind)->Prop
 | []=>True
 | (y,k)::r=>(k=.local\/k=.globalImplicit\/∃c,cl.lookup y=some c)/\kJ cl r
theorem kJ.all{cl:List (Str × Addr)}:∀{ns:List (Str × NameKind)},kJ cl ns->∀y,(ns.lookup y=some .cell\/ns.lookup y=some .free)->∃c,cl.lookup y=some c
 | [],_,y,h=>by simp at h
 | (z,k)::r,h,y,e=>by
  rw[eY]at e
  cases q:y==z with
  | true =>
   rw[q]at e
   rw[eq_of_beq q]
   rcases h.1 with g | g | g
   ·rw[g]at e;rcases e with e | e<;>cases e
   ·rw[g]at e;rcases e with e | e<;>cases e
   ·exact g
  | false =>
   rw[q]at e
   exact kJ.all h.2 y e
section
variable{X:Cx}{elt iter:Expr}{x:Str}{px pos:Pos}{ifs:List Expr}{scope:Scope}{cl:List (Str × Addr)}{wi:TI}{tt:TT}{te:TE}
end
end L2
namespace L2
open PySem PySem.Spec PyProof.Rows Mf
end L2
namespace L2
end L2
namespace L2
open PySem PySem.Spec PyProof.Rows
noncomputable def gz(av:List (Str × Nat))(n:Nat)(σ:L2.St):St:=(av.map λp=>(σ[p.2]?).getD none)++aX n none
noncomputable def Lo(J:It)(av:List (Str × Nat))(n:Nat)(g:TG)(tt:TT)(te:TE)(σ:L2.St)(H1:Hp)(Q:VK):Prop:=∀D,H1 D=none->∃W:Nat->Nat->List V->Hp->Prop,(∃m,W 0 m [] (upd H1 D (.lst []))) /\
 ∀i m acc H2,W i m acc H2->H2 D=some (.lst acc)/\((J.stop i H2/\Q (.ref D) H2)\/(J.go i H2/\∀x H3,J.jv i H2 x H3->H3 D=some (.lst acc)/\g x (gz av n σ) H3 λfP H4 =>
  (fP.length=(gz av n σ).length/\∀j,j<av.length->fP[j]?=(gz av n σ)[j]?)/\tt fP H4 λb H5=>H5 D=some (.lst acc) /\
  if b=true then te fP H5 λy H6=>H6 D=some (.lst acc)/\acc.length<sizeLine/\∃m',m'<m/\W (i+1) m' (acc++[y]) (upd H6 D (.lst (acc++[y])))else ∃m',m'<m/\W (i+1) m' acc H5))
noncomputable def zP(wi:TI)(av:List (Str × Nat))(n:Nat)(g:TG)(tt:TT)(te:TE):TE:=λσ H Q=>wi σ H λJ H1=>Lo J av n g tt te σ H1 Q
section
variable{X:Cx}{elt iter tg:Expr}{pos:Pos}{ifs:List Expr}{scope:Scope}{cl:List (Str × Addr)}{wi:TI}{tt:TT}{te:TE}{g:TG}
end
end L2
namespace L2
open PySem PySem.Spec PyProof.Rows
section
variable{X:Cx}{tg:Expr}
end
end L2
namespace L2
open PySem PySem.Spec PyProof.Rows
noncomputable def DF(h:Heap)(a T:Addr)(cls fl:Value):Prop :=
 ∃oe vs oT ts,h.get? a=some oe/\oe.cls=cls/\oe.dict=none/\oe.data=.fields vs/\vs[1]?=some (.ref T)/\T≠a/\h.get? T=some oT/\oT.data=.fields ts/\ts[3]?=some fl
noncomputable abbrev gA(h:Heap)(a T:Addr)(cls:Value):Prop:=DF h a T cls .none
theorem XB(o:Obj)(f:Array Value->Array Value):(o.mapFields f).dict=o.dict:=by
 obtain⟨c,d,dt,sl⟩:=o
 cases dt<;>rfl
section
variable{M:Model}{A:Around}{E:Value->Shared->Prop}{s:Shared}{base:Heap}{env:Env}{outer:List Env}{L a T:Addr}{cls:Value}{oe:Obj}{vs:Array Value}{Q:Unit->Shared->Prop}
structure Ent(fs:List Addr)(h h':Heap)(a T:Addr)(oe:Obj)(L:Addr):Prop where
 new:h.get? T=none
 ne:T≠a
 keep:∀b o,b≠a->b ∉ fs->h.get? b=some o->h'.get? b=some o
 slot:∀b o,b≠a->h.get? b=some o->∃sl,h'.get? b=some { o with slots:=sl }
 exc:h'.get? a=some (oe.mapFields λz=>z.setIfInBounds 1 (.ref T))
 ent:∃oT ts,h'.get? T=some oT/\oT.data=.fields ts/\ts[3]?=some (rawInt L)
theorem Lp{head:Value}{XC:Bool}(dE:A.frames=some (env::outer))(hl:s.heap.FunFrames base (env::outer))(hf:env.frame=some L)(he:s.heap.get? a=some oe)(hd:oe.data=.fields vs)(kD:1<vs.size)
  (na:a ∉ (env::outer).filterMap (·.frame)) (k:∀h' T',Ent ((env::outer).filterMap (·.frame)) s.heap h' a T' oe L->Q () { s with heap:=h' }) :
  wpAny M A (do let x<-frameOf env;let pl<-entryPlaceOf L XC;let b<-EntryCells.newEntry head x .none (rawInt L) .none pl;setField (.ref a) 1 b) Q E s:=by
 refine wpAny_bind (wpAny_frameOf_fun dE hl hf λg1 so=>wpAny_bind (wpAny_entryPlaceOf λpl ip=>?_))
 unfold EntryCells.newEntry newFields
 have e1:g1.get? a=some oe:=(so.2.1 a na).trans he
 refine wpAny_bind (wpAny_newObj_type ?_ (ip.sizeOk5 _ _ _ _ _))
 generalize Lq:({ cls:=.type "traceback",dict:=none,data:=.fields ([head,cj L,.none,rawInt L,.none]++(if pl.isEmpty then aX 6 oK else pl)).toArray }:Obj)=te
 have e2:(g1.push te).get? a=some oe:=eG te e1
 have XD:te.data=.fields ([head,cj L,.none,rawInt L,.none]++(if pl.isEmpty then aX 6 oK else pl)).toArray:=by rw[<-Lq]
 have nf:te.isFreed=false:=by rw[<-Lq];rfl
 refine wpAny_setField e2 hd kD ?_
 have d3:=Cr hd λz=>z.setIfInBounds 1 (cj g1.objs.size)
 have nT:g1.objs.size≠a:=Jv (bF e1)
 refine k _ g1.objs.size ⟨?_,nT,λb o hb hz q=>?_,λb o hb q=>?_,Cj _ e2 (JB d3),⟨te,_,?_,XD,?_⟩⟩
 ·cases q:s.heap.get? g1.objs.size with
  | none=>rfl
  | some o=>obtain⟨sl,z⟩:=so.2.2 _ _ q;exact absurd (bF z) (gh _)
 ·rw[oQ _ _ (dU hb)]
  exact eG te ((so.2.1 b hz).trans q)
 ·obtain⟨sl,z⟩:=so.2.2 b o q
  refine⟨sl,?_⟩
  rw[oQ _ _ (dU hb)]
  exact eG te z
 ·rw[oQ _ _ (dU nT)]
  exact gU g1 nf
 ·first | (simp;done) | (rcases ip with rfl | ⟨_,_,_,_,_,_,_,rfl⟩<;>simp)
structure Lr(fs Z:List Addr)(h h':Heap)(a T:Addr)(cls:Value):Prop where
 new:h.get? T=none
 keep:∀b o,b ∉ Z->b ∉ fs->h.get? b=some o->h'.get? b=some o
 slot:∀b o,b ∉ Z->h.get? b=some o->∃sl,h'.get? b=some { o with slots:=sl }
 nK:gA h' a T cls
theorem DG{fl:Value}(tr:DF s.heap a T cls fl)(k:∀h',(∀b o,b≠T->s.heap.get? b=some o->h'.get? b=some o)->gA h' a T cls->Q () { s with heap:=h' }):wpAny M A (setFlight (.ref a) none) Q E s:=by
 obtain⟨oe,vs,oT,ts,h1,h2,h3,h4,h5,h6,h7,h8,h9⟩:=tr
 have sz:3<ts.size:=(JC.mp h9).1
 unfold setFlight
 refine wpAny_bind (wpAny_field h1 h4 h5 ?_)
 rw[if_pos (by simp)]
 refine wpAny_setField h7 h8 sz (k _ (λb o hb q=>(oQ _ _ (dU hb)).trans q) ?_)
 have d:=Cr h8 λz=>z.setIfInBounds 3 ((none:Option Addr).elim oK λf=>rawInt f)
 exact⟨oe,vs,_,_,(oQ _ _ h6).trans h1,h2,h3,h4,h5,h6,Cj _ h7 (JB d),d,by simp[sz]⟩
theorem Ent.fin{fs:List Addr}{h h':Heap}{a T L:Addr}{oe:Obj}{vs:Array Value}(e:Ent fs h h' a T oe L)(hd:oe.data=.fields vs)(kD:1<vs.size)(XE:oe.dict=none):DF h' a T oe.cls (rawInt L):=by
 obtain⟨oT,ts,e1,e2,e3⟩:=e.ent
 exact⟨_,_,oT,ts,e.exc,Obj.cls_mapFields _ _,by rw[XB];exact XE,Cr hd _,by simp[kD],e.ne,e1,e2,e3⟩
theorem Ls(dE:A.frames=some (env::outer))(hl:s.heap.FunFrames base (env::outer))(hf:env.frame=some L)(na:a ∉ (env::outer).filterMap (·.frame))(tr:gA s.heap a T cls)
  (k:∀h' T',Lr ((env::outer).filterMap (·.frame)) [a,T] s.heap h' a T' cls->Q () { s with heap:=h' }):wpAny M A (noteFrame (.ref a) env) (λ_ i3=>wpAny M A (setFlight (.ref a) none) Q E i3) E s:=by
 obtain⟨oe,vs,oT,ts,h1,h2,h3,h4,h5,h6,h7,h8,h9⟩:=tr
 have s1:1<vs.size:=(JC.mp h5).1
 have s3:3<ts.size:=(JC.mp h9).1
 unfold noteFrame
 simp only[hf]
 refine wpAny_bind (wpAny_field h1 h4 h5 ?_)
 rw[if_pos (by simp)]
 refine wpAny_bind (wpAny_field h7 h8 h9 ?_)
 rw[if_neg (by simp[rawInt])]
 refine wpAny_bind (wpAny_setField h7 h8 s3 ?_)
 generalize hg:s.heap.update T (Obj.mapFields λz=>z.setIfInBounds 3 oK)=g
 have pJ:∀b,b≠T->g.get? b=s.heap.get? b:=λb hb=>by rw[<-hg];exact oQ _ _ (dU hb)
 have bT:∀b o,s.heap.get? b=some o->(∀ws,o.data≠.fields ws)->b≠T:=λb o q hn z=>by subst z;rw[h7]at q;cases q;exact hn ts h8
 have gT:∃XF,g.get? T=some XF:=⟨_,by rw[<-hg];exact Cj _ h7 (JB (Cr h8 _))⟩
 refine Lp (s:={ s with heap:=g }) dE (hl.of_keeps λb o q hn=>⟨o,(pJ b (bT b o q hn)).trans q,rfl⟩) hf ((pJ a (dU h6)).trans h1) h4 s1 na λh' T' en=>?_
 have XG:T'≠T:=λz=>by subst z;obtain⟨o,q⟩:=gT;rw[en.new]at q;cases q
 refine DG (s:={ s with heap:=h' }) (h2 ▸ en.fin h4 s1 h3) λDH kp DI=>?_
 refine k DH T' ⟨(pJ T' XG).symm.trans en.new,λb o hz hb q=>?_,λb o hz q=>?_,DI⟩
 ·have z1:b≠a:=λz=>hz (by simp[z])
  have z2:b≠T:=λz=>hz (by simp[z])
  have z3:b≠T':=λz=>by have:=en.new;rw[<-z,pJ b z2,q]at this;cases this
  exact kp b o z3 (en.keep b o z1 hb ((pJ b z2).trans q))
 ·have z1:b≠a:=λz=>hz (by simp[z])
  have z2:b≠T:=λz=>hz (by simp[z])
  have z3:b≠T':=λz=>by have:=en.new;rw[<-z,pJ b z2,q]at this;cases this
  obtain⟨sl,r⟩:=en.slot b o z1 ((pJ b z2).trans q)
  exact⟨sl,kp b _ z3 r⟩
theorem XH{h1:Heap}{args:List Value}(dE:A.frames=some (env::outer))(hl:s.heap.FunFrames base (env::outer))(hf:env.frame=some L)(hx:JE s.heap h1 a cls args)
  (k:∀h' T',Lr ((env::outer).filterMap (·.frame)) [] s.heap h' a T' cls->Q () { s with heap:=h' }):wpAny M A (noteFrame (.ref a) env) (λ_ i3=>wpAny M A (setFlight (.ref a) none) Q E i3) E { s with heap:=h1 }:=by
 obtain⟨t,e1,_,_⟩:=hx.there
 have na:a ∉ (env::outer).filterMap (·.frame):=λhb=>by obtain⟨_,o,ho,_⟩:=hl.mem hb;rw[hx.new]at ho;cases ho
 unfold noteFrame
 simp only[hf]
 refine wpAny_bind (wpAny_field (s:={ s with heap:=h1 }) e1 rfl (x:=.none) (by rfl) ?_)
 rw[if_neg (by decide)]
 refine Lp (s:={ s with heap:=h1 }) dE (hl.of_keeps λb o q _=>⟨o,hx.keeps b o q,rfl⟩) hf e1 rfl (by simp) na λh' T' en=>?_
 refine DG (s:={ s with heap:=h' }) (en.fin rfl (by simp) rfl) λDH kp DI=>?_
 have ba:∀b o,s.heap.get? b=some o->b≠a:=λb o q z=>by rw[z,hx.new]at q;cases q
 have bT:∀b o,s.heap.get? b=some o->b≠T':=λb o q z=>by have:=hx.keeps b o q;rw[z,en.new]at this;cases this
 refine k DH T' ⟨?_,λb o _ hb q=>kp b o (bT b o q) (en.keep b o (ba b o q) hb (hx.keeps b o q)),λb o _ q=>?_,DI⟩
 ·cases q:s.heap.get? T' with
  | none=>rfl
  | some o=>exact absurd rfl (bT T' o q)
 ·obtain⟨sl,r⟩:=en.slot b o (ba b o q) (hx.keeps b o q)
  exact⟨sl,kp b _ (bT b o q) r⟩
end
end L2
namespace L2
open PySem PySem.Spec PyProof.Rows
theorem dk.there{P:Program}{w:World}{H:Hp}{h:Heap}{a:Addr}{o:HO}(x:dk P w H h a o):∃u,h.get? a=some u:=by
 cases o with
 | lst xs=>obtain⟨_,_,_,_,e⟩:=x;exact⟨_,e⟩
 | tup xs=>obtain⟨_,_,_,o,e,_⟩:=x;exact⟨o,e⟩
 | dK df=>obtain⟨_,_,_,_,o,_,_,e,_⟩:=x;exact⟨_,e⟩
 | dT df=>obtain⟨_,_,_,_,o,_,_,e,_⟩:=x;exact⟨_,e⟩
 | set S n=>obtain⟨o,_,_,_,e,_⟩:=x;exact⟨_,e⟩
 | ins C dx fs=>obtain⟨_,_,_,e,_⟩:=x;exact⟨_,e⟩
 | own y=>exact x
 | xd fs=>obtain⟨_,⟨_,_,_,e,_⟩,_⟩:=x;exact⟨_,e⟩
 | vw lo hi=>obtain⟨_,_,_,e⟩:=x;exact⟨_,e⟩
 | br ob u=>obtain⟨e,_⟩:=x;exact⟨_,e⟩
 | cY ps=>exact⟨_,show h.get? a=some _ from x.1⟩
 | met f y=>exact⟨_,show h.get? a=some _ from x⟩
 | ext φ=>obtain⟨_,e,_⟩:=x;exact e
theorem cu.none{P:Program}{w:World}{H:Hp}{h:Heap}{a:Addr}(x:cu P w H h)(e:h.get? a=.none):H a=.none:=by
 cases q:H a with
 | none=>rfl
 | some u=>obtain⟨o,z⟩:=(x a u q).there;rw[e]at z;cases z
structure Apart(X:Cx)(pins:List (Addr × Obj))(H:Hp)(b:Addr):Prop where
 old:X.b8.heap.get? b=none
 free:H b=none
 loc:b≠X.env.locals
 cell:∀x c,X.env.cells.lookup x=some c->c≠b
 pin:∀p∈X.pn++pins,p.1≠b
 fr:b ∉ dh X.stack
section
variable{X:Cx}{pins:List (Addr × Obj)}{σ:St}{H H':Hp}{s:Shared}{a T b:Addr}{cls:Value}{M:Model}{Q:Unit->Shared->Prop}{E:Value->Shared->Prop}{h':Heap}
theorem XI(I:Inv X pins σ H s)(hb:b∈dh X.stack):∃o,s.heap.get? b=some o/\∀vs,o.data≠.fields vs:=(I.stack.mem hb).2
theorem Inv.old(I:Inv X pins σ H s)(hex:X.ex=[])(e:s.heap.get? b=none):X.b8.heap.get? b=none:=by
 cases q:X.b8.heap.get? b with
 | none=>rfl
 | some o=>obtain⟨o',z⟩:=I.base.there b o q (by rw[hex];simp);rw[e]at z;cases z
theorem Inv.apart(I:Inv X pins σ H s)(hex:X.ex=[])(e:s.heap.get? b=none)(n:H' b=none):Apart X pins H' b where
 old:=I.old hex e
 free:=n
 loc:=λz=>by obtain⟨m,⟨o,_,_,ho,_⟩,_⟩:=I.loc;rw[z,ho]at e;cases e
 cell:=λx c hc z=>by obtain⟨v,o,ho,_⟩:=I.cell x c hc;rw[z,e]at ho;cases ho
 pin:=λp hp z=>by have:=(I.pin p hp).1;rw[z,e]at this;cases this
 fr:=λhb=>by obtain⟨o,ho,_⟩:=XI I hb;rw[e]at ho;cases ho
theorem Lu(I:Inv X pins σ H s)(bS:X.stack=X.env::X.outer)(hex:X.ex=[])(hf:X.env.frame=some X.env.locals)(Z:List Addr)(hZ:∀b∈Z,X.b8.heap.get? b=none/\H b=none)
  (keep:∀b o,b ∉ Z->b ∉ dh X.stack->s.heap.get? b=some o->h'.get? b=some o) (slots:∀b o,b ∉ Z->s.heap.get? b=some o->∃sl,h'.get? b=some { o with slots:=sl }) :
  Un (dh X.outer) [] X.iZ H X.b8.heap h'/\cu X.prog X.w H h':=by
 have pK:∀b o,X.b8.heap.get? b=some o->b ∉ Z:=λb o e z=>by rw[(hZ b z).1]at e;cases e
 have sub:∀b,b∈dh X.stack->b=X.env.locals\/b∈dh X.outer:=λb hb=>by
  rw[bS]at hb
  unfold dh at hb
  rw[yE,hf]at hb
  exact bR.mp hb
 have sup:∀b,b∈dh X.outer->b∈dh X.stack:=λb hb=>by
  rw[bS]
  unfold dh
  rw[yE,hf]
  exact fM _ hb
 have rz:∀b o,X.b8.heap.get? b=some o->b≠X.env.locals:=λb o e=>eA (cq (bF e) I.ok.above)
 have nx:∀b:Addr,b ∉ X.ex:=λb=>by rw[hex];simp
 refine⟨⟨λb o e n hb _=>?_,λb o e n hb _=>?_,λb o e n _=>I.base.free b o e n (nx b),λb o e _=>?_,I.base.gW,I.base.gk,I.base.fA⟩,λb ob e=>?_⟩
 ·exact keep b o (pK b o e) (λz=>(sub b z).elim (rz b o e) hb) (I.base.keep b o e n hb (nx b))
 ·obtain⟨sl,e1⟩:=I.base.slot b o e n hb (nx b)
  exact(slots b _ (pK b o e) e1).imp λsl h=>h
 ·obtain⟨o',e1⟩:=I.base.there b o e (nx b)
  exact(slots b o' (pK b o e) e1).elim λsl q=>⟨_,q⟩
 ·refine(I.az b ob e).ik (λc u hc q=>keep c u (λz=>?_) (λz=>?_) q) (λ_ q=>q) (λ_ _ q=>q) λ_ _ q=>q
  ·have n:=(hZ c z).2
   rcases hc with rfl | hc
   ·rw[n]at e;cases e
   ·rw[n]at hc;cases hc
  ·have n:=I.zh c z
   rcases hc with rfl | hc
   ·rw[n]at e;cases e
   ·rw[n]at hc;cases hc
structure Lv(X:Cx)(H:Hp)(h':Heap)(a T:Addr)(cls:Value):Prop where
 un:Un (dh X.outer) [] X.iZ H X.b8.heap h'
 az:cu X.prog X.w H h'
 nK:gA h' a T cls
 a0:X.b8.heap.get? a=none
 a1:H a=none
 t0:X.b8.heap.get? T=none
 t1:H T=none
theorem Lw(I:Inv X pins σ H s)(bS:X.stack=X.env::X.outer)(hex:X.ex=[])(hf:X.env.frame=some X.env.locals)(tr:gA s.heap a T cls)(pa:Apart X pins H a)(pT:Apart X pins H T)
  (hQ:∀h' T',Lv X H h' a T' cls->Q () { s with heap:=h' }):wpAny M X.A (leaving X.env (.ref a)) Q E s:=by
 have hZ:∀b∈[a,T],X.b8.heap.get? b=none/\H b=none:=λb hb=>by
  rcases bR.mp hb with rfl | hb
  ·exact⟨pa.old,pa.free⟩
  ·rw[jP.mp hb];exact⟨pT.old,pT.free⟩
 have na:a ∉ (X.env::X.outer).filterMap (·.frame):=by have:=pa.fr;rw[bS]at this;exact this
 refine wpAny_bind (Ls (base:=X.base) (by rw[I.ok.frames,bS]) (bS ▸ I.stack) hf na tr λh' T' st=>?_)
 have kp:∀b o,b ∉ [a,T]->b ∉ dh X.stack->s.heap.get? b=some o->h'.get? b=some o:=λb o hz hb q=>st.keep b o hz (by rw[bS]at hb;exact hb) q
 obtain⟨un,az⟩:=Lu (h':=h') I bS hex hf [a,T] hZ kp st.slot
 exact hQ h' T' ⟨un,az,st.nK,pa.old,pa.free,I.old hex st.new,I.az.none st.new⟩
theorem Lx{h1:Heap}{args:List Value}(I:Inv X pins σ H s)(bS:X.stack=X.env::X.outer)(hex:X.ex=[])(hf:X.env.frame=some X.env.locals)(hx:JE s.heap h1 a cls args)
  (hQ:∀h' T',Lv X H h' a T' cls->Q () { s with heap:=h' }):wpAny M X.A (leaving X.env (.ref a)) Q E { s with heap:=h1 }:=by
 refine wpAny_bind (XH (base:=X.base) (by rw[I.ok.frames,bS]) (bS ▸ I.stack) hf hx λh' T' st=>?_)
 have kp:∀b o,b ∉ ([]:List Addr)->b ∉ dh X.stack->s.heap.get? b=some o->h'.get? b=some o:=λb o hz hb q=>st.keep b o hz (by rw[bS]at hb;exact hb) q
 obtain⟨un,az⟩:=Lu (h':=h') I bS hex hf [] (λb hb=>absurd hb (by simp)) kp st.slot
 exact hQ h' T' ⟨un,az,st.nK,I.old hex hx.new,I.az.none hx.new,I.old hex st.new,I.az.none st.new⟩
end
noncomputable def gY(P:Program)(w:World):dB:=λouter H s E e s'=>∃a T cls H',e=.ref a/\s'.os=s.os/\AllBare s'.gens/\Un (dh outer) [] H H' s.heap s'.heap/\cu P w H' s'.heap/\gA s'.heap a T cls /\
 s.heap.get? a=none/\H' a=none/\s.heap.get? T=none/\H' T=none/\E cls none H'
section
variable{X:Cx}{pins:List (Addr × Obj)}{σ:St}{H H':Hp}{s:Shared}{a T b:Addr}{cls:Value}{M:Model}{Q:Unit->Shared->Prop}{E:Value->Shared->Prop}{h':Heap}
theorem Inv.Ly(I:Inv X pins σ H s)(hex:X.ex=[])(Z:List Addr)(hZ:∀b∈Z,Apart X pins H b)
  (keep:∀b o,b ∉ Z->b ∉ dh X.stack->s.heap.get? b=some o->h'.get? b=some o) (slots:∀b o,b ∉ Z->s.heap.get? b=some o->∃sl,h'.get? b=some { o with slots:=sl }) (g':Array GenState) (t':Nat) (d':Drawn) (hg:AllBare g') :
  Inv X pins σ H { s with heap:=h',gens:=g',toks:=t',drawn:=d' }:=by
 have nx:∀b:Addr,b ∉ X.ex:=λb=>by rw[hex];simp
 have any:=slots
 have pK:∀b o,X.b8.heap.get? b=some o->b ∉ Z:=λb o e z=>by rw[(hZ b z).old]at e;cases e
 have rz:∀b o,X.b8.heap.get? b=some o->b≠X.env.locals:=λb o e=>eA (cq (bF e) I.ok.above)
 have cz:∀x c,X.env.cells.lookup x=some c->c ∉ Z:=λx c e z=>(hZ c z).cell x c e rfl
 have cellK:∀x c,X.env.cells.lookup x=some c->∀v,s.heap.IsCell c v->h'.IsCell c v:=λx c e v zz=>by
  obtain⟨o,ho,hd⟩:=zz
  obtain⟨sl,q⟩:=any c o (cz x c e) ho
  exact⟨_,q,hd⟩
 have Lz:∀b,b ∉ X.fs->b≠X.env.locals->b ∉ dh X.stack:=λb h1 h2 h3=>(bR.mp (I.vy b h3)).elim h2 h1
 refine⟨I.ok,I.os,hg,⟨λb o e n hb hx=>?_,λb o e n hb hx=>?_,I.base.free,λb o e hx=>?_,I.base.gW,I.base.gk,I.base.fA⟩,?_,λx c e=>?_,I.free,I.eZ,λp hp=>?_,λb ob e=>?_,I.len⟩
 ·exact keep b o (pK b o e) (Lz b hb (rz b o e)) (I.base.keep b o e n hb hx)
 ·obtain⟨sl,e1⟩:=I.base.slot b o e n hb hx
  obtain⟨vA,e2⟩:=any b _ (pK b o e) e1
  exact⟨vA,e2⟩
 ·obtain⟨o',e1⟩:=I.base.there b o e hx
  obtain⟨sl,e2⟩:=any b o' (pK b o e) e1
  exact⟨_,e2⟩
 ·obtain⟨m,hn,hl⟩:=I.loc
  obtain⟨o,es,ep,ho,hd,r⟩:=id hn
  obtain⟨sl,q⟩:=slots _ o (λz=>(hZ _ z).loc rfl) ho
  refine⟨m,⟨_,es,ep,q,hd,r⟩,λi x v e1 e2 e3=>?_⟩
  obtain⟨u,r,l⟩:=hl i x v e1 e2 e3
  refine⟨u,r,?_⟩
  rcases l with l | ⟨k,c,e,z⟩
  ·exact .inl l
  ·exact .inr ⟨k,c,e,cellK x c e _ z⟩
 ·obtain⟨v,z⟩:=I.cell x c e
  exact⟨v,cellK x c e v z⟩
 ·obtain⟨e,n,ne,nf,d⟩:=I.pin p hp
  exact⟨keep p.1 p.2 (λz=>(hZ _ z).pin p hp rfl) (Lz _ nf ne) e,n,ne,nf,d⟩
 ·refine(I.az b ob e).ik (λc u hc q=>keep c u (λz=>?_) (λz=>?_) q) (λ_ q=>q) (λ_ _ q=>q) λ_ _ q=>q
  ·have n:=(hZ c z).free
   rcases hc with rfl | hc
   ·rw[n]at e;cases e
   ·rw[n]at hc;cases hc
  ·have n:=I.zh c z
   rcases hc with rfl | hc
   ·rw[n]at e;cases e
   ·rw[n]at hc;cases hc
theorem XJ(pa:Apart X pins H a)(pT:Apart X pins H T):∀b∈[a,T],Apart X pins H b:=λb hb=>by
 rcases bR.mp hb with rfl | hb
 ·exact pa
 ·rw[jP.mp hb];exact pT
theorem XM(I:Inv X pins σ H s)(bS:X.stack=X.env::X.outer)(hex:X.ex=[])(hf:X.env.frame=some X.env.locals)(tr:gA s.heap a T cls)(pa:Apart X pins H a)(pT:Apart X pins H T)
  (hQ:∀h' T',Inv X pins σ H { s with heap:=h' }->gA h' a T' cls->Apart X pins H T'->Q () { s with heap:=h' }) :
  wpAny M X.A (noteFrame (.ref a) X.env) (λ_ i3=>wpAny M X.A (setFlight (.ref a) none) Q E i3) E s:=by
 have na:a ∉ (X.env::X.outer).filterMap (·.frame):=by have:=pa.fr;rw[bS]at this;exact this
 refine Ls (base:=X.base) (by rw[I.ok.frames,bS]) (bS ▸ I.stack) hf na tr λh' T' st=>?_
 exact hQ h' T' (I.Ly hex [a,T] (XJ pa pT) (λb o hz hb q=>st.keep b o hz (by rw[bS]at hb;exact hb) q) st.slot s.gens s.toks s.drawn I.bare) st.nK (I.apart hex st.new (I.az.none st.new))
theorem XN{A:Around}(I:Inv X pins σ H s)(hex:X.ex=[])(tr:gA s.heap a T cls)(pT:Apart X pins H T)
  (hQ:∀h',Inv X pins σ H { s with heap:=h' }->gA h' a T cls->Q () { s with heap:=h' }):wpAny M A (setFlight (.ref a) none) Q E s:=by
 refine DG tr λh' kp DJ=>hQ h' (I.Ly hex [T] (λb hb=>by rw[jP.mp hb];exact pT) (λb o hz _ q=>kp b o (by simpa using hz) q) (λb o hz q=>⟨o.slots,kp b o (by simpa using hz) q⟩) s.gens s.toks s.drawn I.bare) DJ
theorem XO{A:Around}{i:Nat}{n:Str}{pos:Pos}(I:Inv X pins σ H s)(hN:X.N.Nodup)(hi:X.N[i]?=some n)(hl:X.env.kindOf n=some .local)
  (hQ:∀s',Inv X pins (σ.set i none) H s'->Q () s'):wpAny M A (do bindName X.env n .none;unbindBehindTheSuite X.env n pos) Q E s:=by
 obtain⟨m,hn,XQ⟩:=id I.loc
 have jt:=I.jt
 refine PySem.wpAny_nameGoes_keeps hl hn (by rw[I.ok.kind];rfl) λh' v pf hs=>hQ _ ?_
 obtain⟨oL,_,_,J5,_⟩:=id hn
 refine⟨I.ok,I.os,I.bare,⟨λb o e n' hb hx=>?_,λb o e n' hb hx=>?_,I.base.free,λb o e hx=>?_,I.base.gW,I.base.gk,I.base.fA⟩,⟨_,pf,λj y w e1 e2 e3=>?_⟩,λy c e=>?_,I.free,I.eZ,λp hp=>?_,λb ob e=>?_,by simpa using I.len⟩
 ·exact(hs.2 b (eA (cq (bF e) I.ok.above))).trans (I.base.keep b o e n' hb hx)
 ·obtain⟨sl,e1⟩:=I.base.slot b o e n' hb hx
  exact⟨sl,(hs.2 b (eA (cq (bF e) I.ok.above))).trans e1⟩
 ·obtain⟨o',e1⟩:=I.base.there b o e hx
  exact⟨o',(hs.2 b (eA (cq (bF e) I.ok.above))).trans e1⟩
 ·by_cases hj:j=i
  ·subst hj
   rw[List.getElem?_set_self']at e2
   cases q:σ[j]?<;>rw[q]at e2<;>cases e2
  ·rw[oO (dU hj)]at e2
   obtain⟨u',r',q⟩:=XQ j y w e1 e2 e3
   refine⟨u',r',?_⟩
   rcases q with⟨k,e⟩ | ⟨k,c,e,z⟩
   ·refine .inl ⟨k,?_⟩
    have:y≠n:=λe=>hj (CW hN e1 (e ▸ hi))
    simp[this,e]
   ·exact .inr ⟨k,c,e,z.sameBut hs (jt y c e)⟩
 ·obtain⟨w',z⟩:=I.cell y c e
  exact⟨w',z.sameBut hs (jt y c e)⟩
 ·obtain⟨e,n',ne,nf,d⟩:=I.pin p hp
  exact⟨(hs.2 p.1 ne).trans e,n',ne,nf,d⟩
 ·refine(I.az b ob e).ik (λc w' hc q=>(hs.2 c ?_).trans q) (λ_ q=>q) (λ_ _ q=>q) λ_ _ q=>q
  rintro rfl
  rcases hc with rfl | hc
  ·rw[I.free]at e;cases e
  ·rw[I.free]at hc;cases hc
end
end L2
namespace L2
open PySem PySem.W PySem.Spec PySem.Calls PyProof.Rows
section
variable{prog:Program}{w:World}{A:Around}{E:Value->Shared->Prop}{s:Shared}{K:Frag}{x D:Addr}{ox:Obj}{nL:Option Obj}
theorem XR{tk:Tok}{Q:Fin->Shared->Prop}(X:K.In s.heap)(I:PySem.W.InstAt s.heap x ox D nL)(hf:findObj K D nL "__class__"=some (.bind (.builtin "getset_descriptor.__get__") (.builtin "object.__class__")))(hm:mroIn K D (.type "object")=some true)
  (hq:Q (.done (.ret (.ref D))) s):wpAny (model prog w) A (Builtin.«object.__getattribute__» ⟨[.ref x,.str "__class__" tk],[]⟩) Q E s:=by
 have cg:=λ(R:Result->Shared->Prop) (hR:R (.ok (.ret (.ref D))) s) (A:Around)=>PySem.W.class_get (prog:=prog) (w:=w) (A:=A) (R:=R) (tp:=.ref D) X I hm hR
 obtain⟨hh,g,d,t,os⟩:=s
 have L0:=I.type (M:=model prog w)
 have L1:=looks_find (M:=model prog w) X I hf
 unfold Builtin.«object.__getattribute__»
 repeat (any_goals (first | assumption | refine wpAny_bind (L0.at ?_) | refine wpAny_bind (L1.at ?_) | wp_step))
 exact cg _ (wpAny_pure hq) _
theorem XS{M:Model}{LA:Value}{Q:Unit->Shared->Prop}(X:K.In s.heap)(I:PySem.W.InstAt s.heap x ox D nL)(hb:mroIn K D (.type "BaseException")=some true)(hq:Q () s) :
  wpAny M A (checkBuiltinCall "BaseException.__getattribute__" ⟨[.ref x,LA],[]⟩) Q E s:=by
 obtain⟨hh,g,d,t,os⟩:=s
 have L0:=I.type (M:=M)
 have L1:=looks_mroIn (M:=M) X hb
 have hk:builtinKind "BaseException.__getattribute__"=some .slot:=by decide +kernel
 have XT:splitId "BaseException.__getattribute__"=some ("BaseException","__getattribute__"):=by decide +kernel
 have ha:=F.args_bexc_ga (.ref x) LA
 simp only[checkBuiltinCall,hk,XT]
 refine wpAny_bind ?_
 ·unfold isInstance
  repeat (first | refine wpAny_bind (L0.at ?_) | refine wpAny_bind (L1.at ?_) | refine L1.at ?_ | wp_step)
  exact hq
theorem XU{tk:Tok}{R:Result->Shared->Prop}(X:K.In s.heap)(I:PySem.W.InstAt s.heap x ox D nL)(hf:findObj K D nL "__class__"=some (.bind (.builtin "getset_descriptor.__get__") (.builtin "object.__class__")))(hm:mroIn K D (.type "object")=some true)(hb:mroIn K D (.type "BaseException")=some true)
  (hq:R (.ok (.ret (.ref D))) s):codeAny (model prog w) A (.call (.builtin "BaseException.__getattribute__") ⟨[.ref x,.str "__class__" tk],[]⟩) R s :=
 codeAny_call_builtin (by decide +kernel) F.entry_bexc_ga (XS X I hb (XR X I hf hm hq))
end
end L2
namespace L2
open PySem PySem.W PySem.Spec PySem.Calls PyProof.Rows
section
variable{prog:Program}{w:World}{A:Around}{E:Value->Shared->Prop}{s:Shared}{K:Frag}{x D:Addr}{ox:Obj}{nL:Option Obj}
theorem XW{Q:Option Value->Shared->Prop}(X:K.In s.heap)(I:PySem.W.InstAt s.heap x ox D nL)(XX:findIn K (.ref D) "__getattribute__"=some (some (.builtin "BaseException.__getattribute__")))(XY:findIn K (.ref D) "__getattr__"=some none)
  (hf:findObj K D nL "__class__"=some (.bind (.builtin "getset_descriptor.__get__") (.builtin "object.__class__"))) (hm:mroIn K D (.type "object")=some true) (hb:mroIn K D (.type "BaseException")=some true)
  (h:Q (some (.ref D)) { s with toks:=s.toks+1 }):wpAny (model prog w) A (getAttr? (.ref x) "__class__") Q E s:=by
 have xc:=λ(R:Result->Shared->Prop) (tk:Tok) (hR:R (.ok (.ret (.ref D))) { s with toks:=s.toks+1 }) (A:Around)=>XU (prog:=prog) (w:=w) (A:=A) (R:=R) (tk:=tk) (s:={ s with toks:=s.toks+1 }) X I hf hm hb hR
 obtain⟨hh,g,d,t,os⟩:=s
 have L0:=I.type (M:=model prog w)
 have L1:=looks_findIn (M:=model prog w) X XX
 have L2:=looks_findIn (M:=model prog w) X XY
 have f3:=(F.excAttr_ValueError).ga.bind (.ref x)
 have cZ:(Cs "BaseException.__getattribute__"==Cs "object.__getattribute__")=false:=by decide +kernel
 have bW:(onTheHeap (cj D)&&Cs "BaseException.__getattribute__"==Cs "object.__getattribute__")=false:=by rw[cZ];rfl
 unfold getAttr? getAttrBy? getAttrBy
 refine wpAny_bind (wpAny_mkText (wpAny_bind (wpAny_attempt (wpAny_holding (wpAny_bind (L0.at (wpAny_bind (L1.at ?_))))))))
 dsimp only
 rw[bW]
 simp only[nv,if_false]
 unfold getAttrByItsOwn
 repeat (any_goals (first | assumption | refine wpAny_bind (L0.at ?_) | refine wpAny_bind (L2.at ?_) | wp_step))
 refine xc _ t ?_ _
 show wpAny _ _ (handedOut (.ref D)) _ _ _
 exact handed_on rfl (wpAny_pure h)
structure rM(K:Frag)(C:Addr):Prop where
 cls:(clsIn K C).isSome=true
 ga:findIn K (.ref C) "__getattribute__"=some (some (.builtin "BaseException.__getattribute__"))
 gt:findIn K (.ref C) "__getattr__"=some none
 ca:findIn K (.ref C) "__class__"=some (some (.builtin "object.__class__"))
 hn:specialIn K (.builtin "object.__class__") "__get__"=some (some (.builtin "getset_descriptor.__get__"))
 tk:takesIn K (.builtin "object.__class__")=some true
 mo:mroIn K C (.type "object")=some true
 mb:mroIn K C (.type "BaseException")=some true
noncomputable def kK(a C:Addr)(h:Heap):Prop:=∃o,h.get? a=some o/\o.cls=.ref C/\notCls o=true/\o.dict=none
theorem XZ{K:Frag}{C:Addr}{name:Str}{a g:Value}(hc:(clsIn K C).isSome=true)(ha:findIn K (.ref C) name=some (some a))(hg:specialIn K a "__get__"=some (some g))(ht:takesIn K a=some true):findObj K C none name=some (.bind g a):=by
 obtain⟨cd,hc⟩:=yH.mp hc
 unfold findObj
 rw[hc,TL,ha,TL]
 simp[hg,ht]
theorem LB{a C:Addr}{h:Heap}(p:kK a C h):∃ox,PySem.W.InstAt h a ox C none:=by
 obtain⟨o,h1,h2,h3,h4⟩:=p
 exact⟨o,h1,h2,h3,by rw[h4];trivial⟩
theorem X0{a C:Addr}(c:rM K C):KitX K (.ref a) (.ref C) (kK a C) where
 ty:=λ_ _ _ p=>let⟨_,I⟩:=LB p;I.type
 it:=λ_ _ X _=>by
  obtain⟨v9,mn⟩:=yH.mp c.cls
  unfold clsIn at mn
  split at mn
  ·rename_i c' d' X1 vA ho
   intro A' Q' E' s' k q
   unfold isType loadHead
   exact wpAny_bind (wpAny_loadPart (k _ _ (X _ _ ho)) (wpAny_pure q))
  ·cases mn
 ne:=λh tp dd its n sl X X2=>by
  obtain⟨v9,mn⟩:=yH.mp c.cls
  refine Bool.eq_false_iff.mpr λq=>?_
  have e:C=tp:=Value.ref.inj (beq_iff_eq.mp q)
  subst e
  unfold clsIn at mn
  split at mn
  ·rename_i c' d' X1 vA ho
   have z:=(X _ _ ho).symm.trans X2
   cases z
  ·cases mn
 ca:=λX p k=>let⟨_,I⟩:=LB p;XW X I c.ga c.gt (XZ c.cls c.ca c.hn c.tk) c.mo c.mb k
end
end L2
namespace L2
open PySem PySem.Spec PyProof.Rows
section
variable{X:Cx}{pins:List (Addr × Obj)}{σ:St}{H:Hp}{s:Shared}{h':Heap}{its:List Addr}{T:Addr}{o:HO}{t':Nat}
theorem Inv.zQ(I:Inv X pins σ H s)(k:∀b o,b ∉ its->s.heap.get? b=some o->h'.get? b=some o)(hf:∀b∈its,iw X pins H b):Inv X pins σ H { s with heap:=h',toks:=t' }:=by
 have nD:∀b u,H b=some u->b ∉ its:=λb u e z=>by have:=(hf b z).1;rw[this]at e;cases e
 refine I.step (g':=s.gens) (d':=s.drawn) (ch:=its) (λb hb=>?_) (λb o _ _ hc e _=>k b o hc e) (λb o _ _ hc e _=>⟨o.slots,k b o hc e⟩) (λ_ _ _ _ n=>n)
  (λb o hc e=>⟨o,k b o hc e⟩) (λ_ _ e=>e) (λ_ _ _ e=>e) (λb ps e=>⟨#[],by rw[e];simp⟩) (λm hm=>?_) (λb u e=>?_) I.bare
 ·obtain⟨_,h1,_,h2,h3,h4⟩:=hf b hb
  exact⟨h2,h1,h3,h4⟩
 ·obtain⟨o,es,ep,ho,r⟩:=hm
  exact⟨o,es,ep,k _ o (λz=>(hf _ z).2.1 rfl) ho,r⟩
 ·refine(I.az b u e).ik (λc v hc q=>k c v ?_ q) (λ_ q=>q) (λ_ _ q=>q) λ_ _ q=>q
  rcases hc with z | z
  ·rw[z];exact nD b u e
  ·exact nD c _ z
theorem Inv.LC(I:Inv X pins σ H s)(k:∀b o,b ∉ its->s.heap.get? b=some o->h'.get? b=some o)(hf:∀b∈its,iw X pins H b)(hT:s.heap.objs.size<=T)(new:dk X.prog X.w (upd H T o) h' T o) :
  Inv X pins σ (upd H T o) { s with heap:=h',toks:=t' }:=by
 have nD:∀b u,H b=some u->b ∉ its:=λb u e z=>by have:=(hf b z).1;rw[this]at e;cases e
 have fT:H T=none:=I.az.fresh hT
 have neT:∀b u,H b=some u->b≠T:=λb u e z=>by rw[z,fT]at e;cases e
 have X3:∀b u,s.heap.get? b=some u->b≠T:=λb u e z=>absurd (cq (bF e) hT) (by rw[z];exact gh _)
 refine I.step (g':=s.gens) (d':=s.drawn) (ch:=its) (λb hb=>?_) (λb o _ _ hc e _=>k b o hc e) (λb o _ _ hc e _=>⟨o.slots,k b o hc e⟩) (λb u _ e n=>by rw[aO (X3 b u e)];exact n)
  (λb o hc e=>⟨o,k b o hc e⟩) (λb _ e=>by rw[aO (neT b _ e)];exact e) (λb _ _ e=>by rw[aO (neT b _ e)];exact e) (λb ps e=>⟨#[],by rw[aO (neT b _ e),e];simp⟩) (λm hm=>?_) (λb u e=>?_) I.bare
 ·obtain⟨_,h1,_,h2,h3,h4⟩:=hf b hb
  exact⟨h2,h1,h3,h4⟩
 ·obtain⟨o,es,ep,ho,r⟩:=hm
  exact⟨o,es,ep,k _ o (λz=>(hf _ z).2.1 rfl) ho,r⟩
 ·by_cases hb:b=T
  ·subst hb;rw[bA]at e;cases e;exact new
  ·rw[aO hb]at e
   refine(I.az b u e).ik (λc v hc q=>k c v ?_ q) (λc q=>by rw[aO (neT c _ q)];exact q) (λc _ q=>by rw[aO (neT c _ q)];exact q) λc _ q=>by rw[aO (neT c _ q)];exact q
   rcases hc with z | z
   ·rw[z];exact nD b u e
   ·exact nD c _ z
noncomputable def DK(K:PySem.W.Frag)(a b:Addr):It :=
 ⟨λi H=>∃xs ys x y,bH K H a xs/\bH K H b ys/\xs[i]?=some x/\ys[i]?=some y,
  λi H v H'=>∃T x y,v=.ref T/\H T=none/\H'=upd H T (.tup [x,y])/\(∀xs,bH K H a xs->xs[i]?=some x)/\∀ys,bH K H b ys->ys[i]?=some y,
  λi H=>∃xs ys,bH K H a xs/\bH K H b ys/\(xs.length<=i\/ys.length<=i)⟩
theorem nN{K:PySem.W.Frag}{a c:Addr}{xs:List V}(hk:X.K=K)(I:Inv X pins σ H s)(h:bH K H a xs)(hf:iw X pins H c)(ho:∃o,s.heap.get? c=some o/\o.cls≠.type "list"):a≠c:=by
 subst hk
 obtain⟨its,rv,p,hz⟩:=I.list h
 obtain⟨o,e,d⟩:=ho
 obtain⟨o',e',c',_⟩:=p.isList
 intro z
 subst z
 rw[e]at e';cases e'
 exact d c'
theorem X4{P:Program}{w:World}{K:PySem.W.Frag}{elts:List Expr}{k:Nat}{pos:Pos}(a b z TI TO i1 i2:Addr)(D5:[z,TI,TO,i1,i2].Nodup) :
  Turn P w K (.Tuple elts k pos) (DK K a b) [z,TI,TO,i1,i2] z (λi h=>IsZip h z TI TO .none/\IsPair h TI (.ref i1) (.ref i2)/\(∃u v,IsPair h TO u v)/\h.IsListIter i1 a i/\h.IsListIter i2 b i):=by
 have ap:∀(X:Cx) (pins:List (Addr × Obj)) (s:Shared) (σ:St) (H:Hp) (i:Nat) (xs ys:List V),X.K=K->Inv X pins σ H s->(∀b∈[z,TI,TO,i1,i2],iw X pins H b)->IsZip s.heap z TI TO .none->(∃u v,IsPair s.heap TO u v)->s.heap.IsListIter i1 a i->s.heap.IsListIter i2 b i ->
   bH K H a xs->bH K H b ys->ZipApart z TI TO i1 i2 a b:=by
  intro X pins s σ H i xs ys hK I hf hz iC h1 h2 hx hy
  simp only[js,bR,not_or,ij,not_false_eq_true,and_true]at D5
  obtain⟨⟨d1,d2,d3,d4⟩,⟨d5,d6,d7⟩,⟨d8,d9⟩,X5,_⟩:=D5
  have oz:∃o,s.heap.get? z=some o/\o.cls≠.type "list":=⟨_,hz,by intro q;exact absurd (Ct q) (by decide)⟩
  have LD:∃o,s.heap.get? TO=some o/\o.cls≠.type "list":=by obtain⟨u,v,e⟩:=iC;exact⟨_,e,by intro q;exact absurd (Ct q) (by decide)⟩
  have o1:∃o,s.heap.get? i1=some o/\o.cls≠.type "list":=by obtain⟨o,e,c,d⟩:=h1;exact⟨_,e,by rw[c];intro q;exact absurd (Ct q) (by decide)⟩
  have o2:∃o,s.heap.get? i2=some o/\o.cls≠.type "list":=by obtain⟨o,e,c,d⟩:=h2;exact⟨_,e,by rw[c];intro q;exact absurd (Ct q) (by decide)⟩
  exact⟨dU d1,dU d2,dU d3,dU d4,d5,d6,d7,d8,d9,X5,
   nN hK I hx (hf z (by simp)) oz,nN hK I hx (hf TO (by simp)) LD,nN hK I hx (hf i1 (by simp)) o1,nN hK I hx (hf i2 (by simp)) o2,
   nN hK I hy (hf z (by simp)) oz,nN hK I hy (hf TO (by simp)) LD,nN hK I hy (hf i1 (by simp)) o1,nN hK I hy (hf i2 (by simp)) o2⟩
 refine⟨by simp,λi h st c hc=>?_,λi h h' st kk=>?_,?_,?_,λ_ _ _ _ _ st h=>wpAny_pyIter_zip st.1 h⟩
 ·obtain⟨hz,jY,⟨u,v,iC⟩,⟨o1,e1,c1,d1⟩,⟨o2,e2,c2,d2⟩⟩:=st
  simp only[bR,ij,or_false]at hc
  rcases hc with rfl | rfl | rfl | rfl | rfl
  ·exact⟨_,hz,λv q=>by cases q⟩
  ·exact⟨_,jY,λv q=>by cases q⟩
  ·exact⟨_,iC,λv q=>by cases q⟩
  ·exact⟨_,e1,λv q=>by rw[d1]at q;cases q⟩
  ·exact⟨_,e2,λv q=>by rw[d2]at q;cases q⟩
 ·obtain⟨hz,jY,⟨u,v,iC⟩,h1,h2⟩:=st
  exact⟨kk _ (by simp) _ hz,kk _ (by simp) _ jY,⟨u,v,kk _ (by simp) _ iC⟩,h1.at λo e=>kk _ (by simp) o e,h2.at λo e=>kk _ (by simp) o e⟩
 ·intro X hP hw hK hc i pins s σ H E I hf st hg
  obtain⟨xs,ys,x,y,hx,hy,ex,ey⟩:=hg
  obtain⟨hz,jY,⟨u,v,iC⟩,h1,h2⟩:=st
  have D:=ap X pins s σ H i xs ys hK I hf hz ⟨u,v,iC⟩ h1 h2 hx hy
  subst hP hw hK
  obtain⟨as,ra,pa,_⟩:=I.list hx
  obtain⟨bs,rb,pb,_⟩:=I.list hy
  obtain⟨ux,DL,rx⟩:=ra.get ex
  obtain⟨uy,X6,ry⟩:=rb.get ey
  refine wpAny_pyNext_zip_item D hz jY iC h1 h2 pa.isList pb.isList (x:=ux) (y:=uy) (by simpa using DL) (by simpa using X6) λh' z' X7 iD gZ T' sz kk=>?_
  have fT:H s.heap.objs.size=none:=I.az.fresh (bG _)
  have I1:Inv X pins σ (upd H s.heap.objs.size (.tup [x,y])) { s with heap:=h',toks:=s.toks }:=I.LC (its:=[z,TO,i1,i2]) (λc o hc e=>kk c o (λq=>hc (by simp[q])) (λq=>hc (by simp[q])) (λq=>hc (by simp[q])) (λq=>hc (by simp[q])) e)
   (λc hc=>hf c (by simp only[bR,ij,or_false]at hc ⊢;rcases hc with rfl | rfl | rfl | rfl<;>simp)) (bG _) ⟨by show 2<=sizeLine;decide,[ux,uy],.cons rx (.cons ry .nil),⟨_,T',rfl,_,rfl⟩⟩
  have nT:∀c∈[z,TI,TO,i1,i2],c≠s.heap.objs.size:=λc hc q=>by
   have:∃o,s.heap.get? c=some o:=by
    simp only[bR,ij,or_false]at hc
    rcases hc with rfl | rfl | rfl | rfl | rfl
    ·exact⟨_,hz⟩
    ·exact⟨_,jY⟩
    ·exact⟨_,iC⟩
    ·obtain⟨o,e,_⟩:=h1;exact⟨o,e⟩
    ·obtain⟨o,e,_⟩:=h2;exact⟨o,e⟩
   obtain⟨o,e⟩:=this
   exact absurd (bF e) (by rw[q];exact gh _)
  refine⟨_,rfl,wpAny_letOwnedTupleGo_zip z' λDM DN sb=>?_⟩
  have DO:∀c∈[z],iw X pins (upd H s.heap.objs.size (.tup [x,y])) c:=λc hc=>by
   have e:c=z:=by simpa using hc
   subst e
   obtain⟨f0,fr⟩:=hf c (by simp)
   exact⟨by rw[aO (nT c (by simp))];exact f0,fr⟩
  have I2:=Inv.zQ (h':=DM) (its:=[z]) (t':=s.toks) I1 (λc o hc e=>sb.extBut _ _ (λq=>hc (by simp[q])) e) DO
  refine⟨.ref s.heap.objs.size,_,I2,rfl,⟨_,x,y,rfl,fT,rfl,λX8 cU=>by rw[I.zr cU hx];exact ex,λLF X9=>by rw[I.zr X9 hy];exact ey⟩,⟨DN,sb.extBut _ _ D.TIz (kk _ _ D.TIz D.TITO D.TIi1 D.TIi2 jY),⟨ux,uy,sb.extBut _ _ D.TOz X7⟩,iD.extBut sb.extBut D.i1z,gZ.extBut sb.extBut D.i2z⟩,λc hc=>?_⟩
  rw[aO (nT c hc)]
  exact(hf c hc).1
 ·intro X hP hw hK hc i pins s σ H E I hf st hg
  obtain⟨xs,ys,hx,hy,hl⟩:=hg
  obtain⟨hz,jY,⟨u,v,iC⟩,h1,h2⟩:=st
  have D:=ap X pins s σ H i xs ys hK I hf hz ⟨u,v,iC⟩ h1 h2 hx hy
  subst hP hw hK
  obtain⟨as,ra,pa,_⟩:=I.list hx
  obtain⟨bs,rb,pb,_⟩:=I.list hy
  have la:=ra.length
  have lb:=rb.length
  refine wpAny_pyNext_zip_end (I.ok.hd hc) D hz jY iC h1 h2 pa.isList pb.isList (hl.imp (λq=>by simp;omega) λq=>by simp;omega) λh' kk=>⟨rfl,?_⟩
  exact I.zQ (its:=[z,TO,i1,i2]) (t':=s.toks) (λc o hc e=>kk c o (λq=>hc (by simp[q])) (λq=>hc (by simp[q])) (λq=>hc (by simp[q])) (λq=>hc (by simp[q])) e)
   (λc hc=>hf c (by simp only[bR,ij,or_false]at hc ⊢;rcases hc with rfl | rfl | rfl | rfl<;>simp))
noncomputable def DP(K:PySem.W.Frag)(a:Addr):It :=
 ⟨λi H=>∃xs x,bH K H a xs/\xs[i]?=some x,
  λi H v H'=>∃T x,v=.ref T/\H T=none/\H'=upd H T (.tup [.int i,x])/\∀xs,bH K H a xs->xs[i]?=some x,
  λi H=>∃xs,bH K H a xs/\xs.length<=i⟩
theorem Ya{P:Program}{w:World}{K:PySem.W.Frag}{elts:List Expr}{k:Nat}{pos:Pos}(a z it:Addr)(iE:z≠it) :
  Turn P w K (.Tuple elts k pos) (DP K a) [z,it] z (λi h=>(∃old,IsEnum h z it i old)/\h.IsListIter it a i):=by
 refine⟨by simp,λi h st c hc=>?_,λi h h' st kk=>?_,?_,?_,λ_ _ _ _ _ st h=>by obtain⟨⟨old,e⟩,_⟩:=st;exact wpAny_pyIter_enum e h⟩
 ·obtain⟨⟨old,hz⟩,⟨o1,e1,c1,d1⟩⟩:=st
  simp only[bR,ij,or_false]at hc
  rcases hc with rfl | rfl
  ·exact⟨_,hz,λv q=>by cases q⟩
  ·exact⟨_,e1,λv q=>by rw[d1]at q;cases q⟩
 ·obtain⟨⟨old,hz⟩,h1⟩:=st
  exact⟨⟨old,kk _ (by simp) _ hz⟩,h1.at λo e=>kk _ (by simp) o e⟩
 ·intro X hP hw hK hc i pins s σ H E I hf st hg
  subst hP hw hK
  obtain⟨xs,x,hx,ex⟩:=hg
  obtain⟨⟨old,hz⟩,h1⟩:=st
  obtain⟨as,ra,pa,_⟩:=I.list hx
  obtain⟨ux,DL,rx⟩:=ra.get ex
  refine wpAny_pyNext_enum_item hz h1 pa.isList (x:=ux) (by simpa using DL) iE λh' z' iD T' sz kk=>?_
  have fT:H s.heap.objs.size=none:=I.az.fresh (bG _)
  have I1:Inv X pins σ (upd H s.heap.objs.size (.tup [.int i,x])) { s with heap:=h',toks:=s.toks+1 }:=I.LC (its:=[z,it]) (λc o hc e=>kk c o (λq=>hc (by simp[q])) (λq=>hc (by simp[q])) e)
   (λc hc=>hf c hc) (bG _) ⟨by show 2<=sizeLine;decide,[.int i s.toks,ux],.cons ⟨_,rfl⟩ (.cons rx .nil),⟨_,T',rfl,_,rfl⟩⟩
  have nT:∀c∈[z,it],c≠s.heap.objs.size:=λc hc q=>by
   have:∃o,s.heap.get? c=some o:=by
    simp only[bR,ij,or_false]at hc
    rcases hc with rfl | rfl
    ·exact⟨_,hz⟩
    ·obtain⟨o,e,_⟩:=h1;exact⟨o,e⟩
   obtain⟨o,e⟩:=this
   exact absurd (bF e) (by rw[q];exact gh _)
  refine⟨_,rfl,wpAny_letOwnedTupleGo_enum z' λDM DN sb=>?_⟩
  have DO:∀c∈[z],iw X pins (upd H s.heap.objs.size (.tup [.int i,x])) c:=λc hc=>by
   have e:c=z:=by simpa using hc
   subst e
   obtain⟨f0,fr⟩:=hf c (by simp)
   exact⟨by rw[aO (nT c (by simp))];exact f0,fr⟩
  have I2:=Inv.zQ (h':=DM) (its:=[z]) (t':=s.toks+1) I1 (λc o hc e=>sb.extBut _ _ (λq=>hc (by simp[q])) e) DO
  refine⟨.ref s.heap.objs.size,_,I2,rfl,⟨_,x,rfl,fT,rfl,λX8 cU=>by rw[I.zr cU hx];exact ex⟩,⟨⟨ux,by simpa using DN⟩,iD.extBut sb.extBut (dU iE)⟩,λc hc=>?_⟩
  rw[aO (nT c hc)]
  exact(hf c hc).1
 ·intro X hP hw hK hc i pins s σ H E I hf st hg
  subst hP hw hK
  obtain⟨xs,hx,hl⟩:=hg
  obtain⟨⟨old,hz⟩,h1⟩:=st
  obtain⟨as,ra,pa,_⟩:=I.list hx
  have la:=ra.length
  refine wpAny_pyNext_enum_end (I.ok.hd hc) hz h1 pa.isList (by simp;omega) λh' kk=>⟨rfl,?_⟩
  exact I.zQ (its:=[it]) (t':=s.toks) (λc o hc e=>kk c o (λq=>hc (by simp[q])) e) (λc hc=>hf c (by simp at hc ⊢;simp[hc]))
end
section
variable{X:Cx}{a b:Expr}{ta:TA}{p pos pF:Pos}{elts:List Expr}{x1:Nat}
noncomputable def Yb(K:PySem.W.Frag)(ta:TA):TI:=λσ H R=>ta σ H λvs H1=>∃a b,vs=[.ref a,.ref b]/\(∃xs,bH K H1 a xs)/\(∃ys,bH K H1 b ys)/\R (DK K a b) H1
theorem Yc:bootBuiltins "zip"=some (.type "zip"):=by decide +kernel
theorem Yd(hg:Gl X "zip")(hm:X.mg "zip"=none)(ha:PA X [a,b] ta)(hs:starEach [a,b] X.env=[(false,eval a X.env),(false,eval b X.env)]:=by rfl)(dW:starEach [b] X.env=[(false,eval b X.env)]:=by rfl) :
  PI X (.Tuple elts x1 pF) (.Call (.Name "zip" p) [a,b] [] pos) (Yb X.K ta):=by
 intro pins s σ H R I h
 refine Call_ (mj I hg hm Yc (q0 (aM (ha pos pins s σ H _ I h) λus s1 zq=>?_) (by rw[hs,dW]) (by rw[dW];rfl)))
 obtain⟨vs,H1,I1,r1,q1⟩:=zq
 obtain⟨a,b,e,⟨xs,hx⟩,⟨ys,hy⟩,q⟩:=q1
 subst e
 cases r1 with
 | cons r rr =>
  cases rr with
  | cons r2 rr =>
   cases rr
   cases r
   cases r2
   obtain⟨as,ra,pa,_⟩:=I1.list hx
   obtain⟨bs,rb,pb,_⟩:=I1.list hy
   refine call_zip_2 pa.isList pb.isList λh' hz jY iC h1 h2 sz kk=>wpAny_pyIter_zip hz ?_
   refine⟨_,[s1.heap.objs.size+4,s1.heap.objs.size+2,s1.heap.objs.size+3,s1.heap.objs.size,s1.heap.objs.size+1],_,_,H1,rfl,I1.kept (t':=s1.toks) kk,X4 a b _ _ _ _ _ (by simp),⟨hz,jY,⟨_,_,iC⟩,h1,h2⟩,λc hc=>?_,q⟩
   have hle:s1.heap.objs.size<=c:=by
    simp only[bR,ij,or_false]at hc
    rcases hc with rfl | rfl | rfl | rfl | rfl<;>omega
   exact I1.zA hle (I1.az.fresh hle)
noncomputable def Ye(K:PySem.W.Frag)(ta:TA):TI:=λσ H R=>ta σ H λvs H1=>∃a,vs=[.ref a]/\(∃xs,bH K H1 a xs)/\R (DP K a) H1
theorem Yf:bootBuiltins "enumerate"=some (.type "enumerate"):=by decide +kernel
theorem Yg(hg:Gl X "enumerate")(hm:X.mg "enumerate"=none)(ha:PA X [a] ta)(hs:starEach [a] X.env=[(false,eval a X.env)]:=by rfl) :
  PI X (.Tuple elts x1 pF) (.Call (.Name "enumerate" p) [a] [] pos) (Ye X.K ta):=by
 intro pins s σ H R I h
 refine Call_ (mj I hg hm Yf (q0 (aM (ha pos pins s σ H _ I h) λus s1 zq=>?_) hs rfl))
 obtain⟨vs,H1,I1,r1,q1⟩:=zq
 obtain⟨a,e,⟨xs,hx⟩,q⟩:=q1
 subst e
 cases r1 with
 | cons r rr =>
  cases rr
  cases r
  obtain⟨as,ra,pa,_⟩:=I1.list hx
  refine call_enumerate_list pa.isList λh' hz h1 sz kk=>wpAny_pyIter_enum hz ?_
  refine⟨_,[s1.heap.objs.size+1,s1.heap.objs.size],_,_,H1,rfl,I1.kept (t':=s1.toks) kk,Ya a (s1.heap.objs.size+1) s1.heap.objs.size (Nat.succ_ne_self _),⟨⟨_,hz⟩,h1⟩,λc hc=>?_,q⟩
  have hle:s1.heap.objs.size<=c:=by
   simp only[bR,ij,or_false]at hc
   rcases hc with rfl | rfl<;>omega
  exact I1.zA hle (I1.az.fresh hle)
end
end L2
namespace L2
open PySem PySem.Spec PyProof.Rows PySem.W PySem.Calls
section
variable{X:Cx}
noncomputable def rN{α:Type}(xs:List α)(lo hi:Option Int):List α:=(xs.drop (HT.cM xs.length 0 lo)).take (HT.cM xs.length xs.length hi-HT.cM xs.length 0 lo)
theorem Yh(x:Str)(lo hi:Option Int):Txt.slice x lo hi=⟨(rN x.cps.toList lo hi).toArray⟩:=by
 have hx:x.length=x.cps.size:=rfl
 have e:(Cu lo hi 1 x.length).filterMap (x.cps[·]?)=rN x.cps.toList lo hi:=by
  obtain⟨h1,h2,h3⟩:=Dq lo hi x.length
  have e0:Cu lo hi 1 x.length=sliceRange (sliceBounds lo hi none x.length).1 (sliceBounds lo hi none x.length).2.1 1:=by
   cases lo<;>cases hi<;>rfl
  rw[e0,h1,h2]
  simp only[sliceRange_one,pick_run]
  unfold rN
  rw[hx,qZ]
 unfold Txt.slice
 split
 ·rename_i h
  have hl:(Cu lo hi 1 x.length).length=x.length:=by
   rw[dz]at h;exact eq_of_beq h.2
  have hs:(rN x.cps.toList lo hi)=x.cps.toList:=by
   have e2:HT.cM x.cps.toList.length x.cps.toList.length hi-HT.cM x.cps.toList.length 0 lo=x.length:=by
    obtain⟨h1,h2,h3⟩:=Dq lo hi x.length
    have e0:Cu lo hi 1 x.length=sliceRange (sliceBounds lo hi none x.length).1 (sliceBounds lo hi none x.length).2.1 1:=by
     cases lo<;>cases hi<;>rfl
    rw[e0,h1,h2]at hl
    simp only[sliceRange_one,bY,de]at hl
    rw[qZ,<- hx]
    omega
   unfold rN
   have le:HT.cM x.cps.toList.length x.cps.toList.length hi<=x.cps.toList.length:=by
    cases hi with
    | none=>simp[HT.cM]
    | some i=>simp only[HT.cM];split<;>omega
   have Yi:HT.cM x.cps.toList.length 0 lo<=x.cps.toList.length:=by
    cases lo with
    | none=>simp[HT.cM]
    | some i=>simp only[HT.cM];split<;>omega
   rw[qZ,<- hx]at e2 le Yi ⊢
   have z:HT.cM x.length 0 lo=0:=by omega
   have z2:HT.cM x.length x.length hi=x.length:=by omega
   rw[z,z2,List.drop_zero,JF,hx,<- qZ,ve]
  rw[hs]
 ·rw[e]
theorem Yj:pI X (λx lo hi H Q=>∃z,x=.str z/\z.length<=sizeLine/\Q (.str ⟨(rN z.cps.toList lo hi).toArray⟩) H):=by
 intro pins s σ H x v vl vu lo hi sl Q I rx hs pl pu h
 obtain⟨z,rfl,hz,q⟩:=h
 obtain⟨t,rfl⟩:=rx
 refine⟨"str",_,F.slot_str_getitem.lookup,typeIs_str _ _ _,?_⟩
 have fin:∀(l u:Option (Int × Tok)),l.map (·.1)=lo->u.map (·.1)=hi->partValue l=vl->partValue u=vu->wpAny (model X.prog X.w) X.A (getItem (.str z t) (.ref sl)) (EP X pins σ Q) X.xe s:=by
  intro l u h1 h2 h3 h4
  obtain⟨o,e1,e2,e3⟩:=hs
  refine wpAny_getItem_str_slice (l:=l) (u:=u) (st:=none) ⟨o,e1,e2,by rw[e3,h3,h4];rfl⟩ rfl ?_
  have e:Txt.slice z lo hi=(if(((none:Option (Int × Tok)).map (·.1)).getD 1==1&&(slicePicked z l u none).length==z.length)=true then z else⟨((slicePicked z l u none).filterMap (z.cps[·]?)).toArray⟩):=by
   unfold Txt.slice slicePicked;rw[h1,h2];rfl
  refine post_val_or_str ⟨?_,λt' k=>?_⟩
  ·rw[<-e];exact eO (Txt.slice_le z _ _) hz
  ·rw[<-e,Yh];exact⟨.str _,H,I.tok _,⟨_,rfl⟩,q⟩
 cases pl with
 | none =>
  cases pu with
  | none=>exact fin none none rfl rfl rfl rfl
  | int j tj=>exact fin none (some (j,tj)) rfl rfl rfl rfl
 | int i ti =>
  cases pu with
  | none=>exact fin (some (i,ti)) none rfl rfl rfl rfl
  | int j tj=>exact fin (some (i,ti)) (some (j,tj)) rfl rfl rfl rfl
end
end L2
namespace L3
open PySem L2
noncomputable def iF:HO->Bool
 | .cY _=>false
 | _=>true
structure af(H H':Hp):Prop where
 get:∀b o,H b=some o->(h:iF o=true:=by rfl)->H' b=some o
 tb:∀b ps,H b=some (.cY ps)->∃more,H' b=some (.cY (ps++more))
noncomputable instance {H H':Hp}:CoeFun (af H H') λ_=>∀b o,H b=some o->(h:iF o=true:=by rfl)->H' b=some o:=⟨λs=>@af.get _ _ s⟩
theorem DQ{o:HO}(h:iF o=false):∃ps,o=.cY ps:=by
 cases o with
 | cY ps=>exact⟨ps,rfl⟩
 | _=>cases h
theorem af.of{H H':Hp}(h:∀b o,H b=some o->H' b=some o):af H H':=⟨λb o e _=>h b o e,λb ps e=>⟨#[],by rw[h b _ e];simp⟩⟩
theorem af.refl(H:Hp):af H H:=.of λ_ _ h=>h
theorem af.trans{H H1 H2:Hp}(a:af H H1)(b:af H1 H2):af H H2 :=
 ⟨λc o h n=>b.get c o (a.get c o h n) n,λc ps h=>by
  obtain⟨m1,e1⟩:=a.tb c ps h
  obtain⟨m2,e2⟩:=b.tb c _ e1
  exact⟨m1++m2,by rw[e2,oN]⟩⟩
theorem af.any{H H':Hp}(e:af H H'){l:Addr}{o:HO}(h:H l=some o):∃o',H' l=some o':=by
 cases n:iF o with
 | true=>exact⟨o,e.get l o h n⟩
 | false =>
  obtain⟨ps,rfl⟩:=DQ n
  obtain⟨m,q⟩:=e.tb l ps h
  exact⟨_,q⟩
theorem af.free{H H':Hp}(e:af H H'){l:Addr}(h:H' l=Option.none):H l=Option.none:=by
 cases q:H l with
 | none=>rfl
 | some o =>
  obtain⟨o',z⟩:=e.any q
  rw[z]at h
  cases h
inductive rO where
 | ext (φ:Addr->Heap->Prop)
 | lam (of oc:Obj) (c k:Addr)
noncomputable instance:Coe (Addr->Heap->Prop) rO:=⟨.ext⟩
noncomputable def DR(H:Hp)(k:Addr):Prop:=∃ψ,H k=some (.ext ψ)/\∀h,ψ h->∃q,h.CodeRec (.ref k) q
noncomputable def i6(of oc:Obj)(c p:Addr):Heap->Prop:=λh=>h.get? p=some of/\h.get? c=some oc
structure jx(H:Hp)(p:Addr)(of oc:Obj)(c k:Addr):Prop where
 fn:H p=some (.ext (i6 of oc c p))
 cell:H c=some (.own p)
 DS:DR H k
noncomputable def pL(H:Hp)(p:Addr):rO->Prop
 | .ext φ=>H p=some (.ext (φ p))
 | .lam of oc c k=>jx H p of oc c k
theorem pL.mono{H H':Hp}{p:Addr}:∀{z:rO},pL H p z->(∀a o,H a=some o->(∀ws,o≠.lst ws)->iF o=true->H' a=some o)->pL H' p z
 | .ext φ,x,k=>k _ _ x (λws q=>by cases q) rfl
 | .lam of oc c k',x,k=>⟨k _ _ x.fn (λws q=>by cases q) rfl,k _ _ x.cell (λws q=>by cases q) rfl,let⟨ψ,e,h⟩:=x.DS;⟨ψ,k _ _ e (λws q=>by cases q) rfl,h⟩⟩
inductive D where
 | ao | bl (b:Bool) | int (i:Int) | str (x:Str)
 | lst (o:Bool) (xs:List D)
 | tup (xs:List D)
 | obj (C:Addr) (ns:List Str) (xs:List D)
 | fz (xs:List D)
 | bu (z:rO)
 deriving Inhabited
noncomputable def D.pl:D->Bool
 | .lst o xs=>!o&&wa xs
 | .tup xs=>wa xs
 | _=>true
where wa:List D->Bool
 | []=>true
 | d::ds=>d.pl&&wa ds
noncomputable def D.fr:D->Bool
 | .lst o xs=>o&&wb xs
 | .tup xs=>wb xs
 | .obj _ _ _=>false
 | .fz _=>false
 | _=>true
where wb:List D->Bool
 | []=>true
 | d::ds=>d.fr&&wb ds
noncomputable def D.sh:D->D
 | .lst _ xs=>.lst false (wc xs)
 | .tup xs=>.tup (wc xs)
 | d=>d
where wc:List D->List D
 | []=>[]
 | d::ds=>d.sh::wc ds
theorem LG(ds:List D):D.pl.wa ds=ds.all D.pl:=by induction ds with | nil=>rfl | cons d ds ih=>simp[D.pl.wa,ih]
theorem LH(ds:List D):D.fr.wb ds=ds.all D.fr:=by induction ds with | nil=>rfl | cons d ds ih=>simp[D.fr.wb,ih]
theorem LJ(ds:List D):D.sh.wc ds=ds.map D.sh:=by induction ds with | nil=>rfl | cons d ds ih=>simp[D.sh.wc,ih]
theorem iG(o:Bool)(xs:List D):(D.lst o xs).pl=(!o&&xs.all D.pl):=by simp[D.pl,LG]
theorem kL(xs:List D):(D.tup xs).pl=xs.all D.pl:=by simp[D.pl,LG]
theorem fB(o:Bool)(xs:List D):(D.lst o xs).fr=(o&&xs.all D.fr):=by simp[D.fr,LH]
theorem pM(xs:List D):(D.tup xs).fr=xs.all D.fr:=by simp[D.fr,LH]
theorem eT(o:Bool)(xs:List D):(D.lst o xs).sh=.lst false (xs.map D.sh):=by simp[D.sh,LJ]
theorem mB(xs:List D):(D.tup xs).sh=.tup (xs.map D.sh):=by simp[D.sh,LJ]
inductive R(F H:Hp):List D->List V->List Addr->Prop
 | nil:R F H [] [] []
 | ao {ds vs B}:R F H ds vs B->R F H (.ao::ds) (.ao::vs) B
 | bl {b ds vs B}:R F H ds vs B->R F H (.bl b::ds) (.bl b::vs) B
 | int {i ds vs B}:R F H ds vs B->R F H (.int i::ds) (.int i::vs) B
 | str {x ds vs B}:R F H ds vs B->R F H (.str x::ds) (.str x::vs) B
 | shr {p ws xs ds vs B}:F p=some (.lst ws)->R F H xs ws []->R F H ds vs B->R F H (.lst false xs::ds) (.ref p::vs) B
 | own {p ws xs A ds vs B}:H p=some (.lst ws)->F p=none->R F H xs ws A->R F H ds vs B->R F H (.lst true xs::ds) (.ref p::vs) (p::(A++B))
 | tup {p ws xs A ds vs B}:H p=some (.tup ws)->R F H xs ws A->R F H ds vs B->R F H (.tup xs::ds) (.ref p::vs) (A++B)
 | obj {p C dx ns ws xs ds vs B}:H p=some (.ins C dx (ns.zip ws))->ns.length=ws.length->R F H xs ws []->R F H ds vs B->R F H (.obj C ns xs::ds) (.ref p::vs) B
 | fz {p o ws xs ds vs B}:F p=some (.br o (.lst ws))->R F H xs ws []->R F H ds vs B->R F H (.fz xs::ds) (.ref p::vs) B
 | bu {p z ds vs B}:pL H p z->R F H ds vs B->R F H (.bu z::ds) (.ref p::vs) B
inductive S(F H:Hp):List D->List V->Prop
 | nil:S F H [] []
 | ao {ds vs}:S F H ds vs->S F H (.ao::ds) (.ao::vs)
 | bl {b ds vs}:S F H ds vs->S F H (.bl b::ds) (.bl b::vs)
 | int {i ds vs}:S F H ds vs->S F H (.int i::ds) (.int i::vs)
 | str {x ds vs}:S F H ds vs->S F H (.str x::ds) (.str x::vs)
 | shr {p ws xs ds vs}:F p=some (.lst ws)->R F H xs ws []->S F H ds vs->S F H (.lst false xs::ds) (.ref p::vs)
 | own {p ws xs ds vs}:H p=some (.lst ws)->S F H xs ws->S F H ds vs->S F H (.lst true xs::ds) (.ref p::vs)
 | tup {p ws xs ds vs}:H p=some (.tup ws)->S F H xs ws->S F H ds vs->S F H (.tup xs::ds) (.ref p::vs)
 | obj {p C dx ns ws xs ds vs}:H p=some (.ins C dx (ns.zip ws))->ns.length=ws.length->R F H xs ws []->S F H ds vs->S F H (.obj C ns xs::ds) (.ref p::vs)
 | fz {p o ws xs ds vs}:F p=some (.br o (.lst ws))->R F H xs ws []->S F H ds vs->S F H (.fz xs::ds) (.ref p::vs)
 | bu {p z ds vs}:pL H p z->S F H ds vs->S F H (.bu z::ds) (.ref p::vs)
section
variable{F F' H H':Hp}{d:D}{ds es:List D}{v:V}{vs ws:List V}{A B:List Addr}
theorem R.length(r:R F H ds vs A):ds.length=vs.length:=by
 induction r<;>simp_all
theorem S.length(r:S F H ds vs):ds.length=vs.length:=by
 induction r<;>simp_all
theorem R.jZ{vs:List V}{A:List Addr}(r:R F H [] vs A):vs=[]/\A=[]:=by cases r;exact⟨rfl,rfl⟩
noncomputable def Rv(F H:Hp)(ds:List D)(v:V)(vs:List V)(B:List Addr):D->Prop
 | .lst true xs=>∃p ws A B',v=.ref p/\H p=some (.lst ws)/\F p=none/\R F H xs ws A/\R F H ds vs B'/\B=p::(A++B')
 | .tup xs=>∃p ws A B',v=.ref p/\H p=some (.tup ws)/\R F H xs ws A/\R F H ds vs B'/\B=A++B'
 | _=>R F H ds vs B
theorem R.rv{d:D}{ds:List D}{v:V}{vs:List V}{B:List Addr}(r:R F H (d::ds) (v::vs) B):Rv F H ds v vs B d:=by
 cases r with
 | ao q=>exact q
 | bl q=>exact q
 | int q=>exact q
 | str q=>exact q
 | shr _ _ q=>exact q
 | own h f x q=>exact⟨_,_,_,_,rfl,h,f,x,q,rfl⟩
 | tup h x q=>exact⟨_,_,_,_,rfl,h,x,q,rfl⟩
 | obj _ _ _ q=>exact q
 | fz _ _ q=>exact q
 | bu _ q=>exact q
theorem R.cons(r:R F H [d] [v] A)(q:R F H ds vs B):R F H (d::ds) (v::vs) (A++B):=by
 cases r with
 | ao r=>rw[r.jZ.2];exact .ao q
 | bl r=>rw[r.jZ.2];exact .bl q
 | int r=>rw[r.jZ.2];exact .int q
 | str r=>rw[r.jZ.2];exact .str q
 | shr h x r=>rw[r.jZ.2];exact .shr h x q
 | own h f x r=>rw[r.jZ.2,fO];exact R.own h f x q
 | tup h x r=>rw[r.jZ.2,fO];exact R.tup h x q
 | obj h l x r=>rw[r.jZ.2];exact .obj h l x q
 | fz h x r=>rw[r.jZ.2];exact .fz h x q
 | bu h r=>rw[r.jZ.2];exact .bu h q
theorem R.cQ(r:R F H (d::ds) vs A):∃v bV A1 A2,vs=v::bV/\A=A1++A2/\R F H [d] [v] A1/\R F H ds bV A2:=by
 cases r with
 | ao r=>exact⟨_,_,[],_,rfl,rfl,.ao .nil,r⟩
 | bl r=>exact⟨_,_,[],_,rfl,rfl,.bl .nil,r⟩
 | int r=>exact⟨_,_,[],_,rfl,rfl,.int .nil,r⟩
 | str r=>exact⟨_,_,[],_,rfl,rfl,.str .nil,r⟩
 | shr h x r=>exact⟨_,_,[],_,rfl,rfl,.shr h x .nil,r⟩
 | @own p _ _ A1 _ _ B1 h f x r=>exact⟨_,_,p::A1,B1,rfl,rfl,by simpa using R.own h f x .nil,r⟩
 | @tup p _ _ A1 _ _ B1 h x r=>exact⟨_,_,A1,B1,rfl,rfl,by simpa using R.tup h x .nil,r⟩
 | obj h l x r=>exact⟨_,_,[],_,rfl,rfl,.obj h l x .nil,r⟩
 | fz h x r=>exact⟨_,_,[],_,rfl,rfl,.fz h x .nil,r⟩
 | bu h r=>exact⟨_,_,[],_,rfl,rfl,.bu h .nil,r⟩
theorem S.cons(r:S F H [d] [v])(q:S F H ds vs):S F H (d::ds) (v::vs):=by
 cases r with
 | ao r=>exact .ao q
 | bl r=>exact .bl q
 | int r=>exact .int q
 | str r=>exact .str q
 | shr h x r=>exact .shr h x q
 | own h x r=>exact .own h x q
 | tup h x r=>exact .tup h x q
 | obj h l x r=>exact .obj h l x q
 | fz h x r=>exact .fz h x q
 | bu h r=>exact .bu h q
theorem S.cQ(r:S F H (d::ds) vs):∃v bV,vs=v::bV/\S F H [d] [v]/\S F H ds bV:=by
 cases r with
 | ao r=>exact⟨_,_,rfl,.ao .nil,r⟩
 | bl r=>exact⟨_,_,rfl,.bl .nil,r⟩
 | int r=>exact⟨_,_,rfl,.int .nil,r⟩
 | str r=>exact⟨_,_,rfl,.str .nil,r⟩
 | shr h x r=>exact⟨_,_,rfl,.shr h x .nil,r⟩
 | own h x r=>exact⟨_,_,rfl,.own h x .nil,r⟩
 | tup h x r=>exact⟨_,_,rfl,.tup h x .nil,r⟩
 | obj h l x r=>exact⟨_,_,rfl,.obj h l x .nil,r⟩
 | fz h x r=>exact⟨_,_,rfl,.fz h x .nil,r⟩
 | bu h r=>exact⟨_,_,rfl,.bu h .nil,r⟩
theorem R.append:∀{ds:List D} {vs:List V} {A:List Addr},R F H ds vs A->R F H es ws B->R F H (ds++es) (vs++ws) (A++B)
 | [],_,_,r,q=>by cases r;exact q
 | d::ds,_,_,r,q=>by
  obtain⟨v,bV,A1,A2,rfl,rfl,h1,h2⟩:=r.cQ
  simpa using h1.cons (R.append h2 q)
theorem S.append:∀{ds:List D} {vs:List V},S F H ds vs->S F H es ws->S F H (ds++es) (vs++ws)
 | [],_,r,q=>by cases r;exact q
 | d::ds,_,r,q=>by
  obtain⟨v,bV,rfl,h1,h2⟩:=r.cQ
  exact h1.cons (S.append h2 q)
theorem R.split:∀{ds:List D} {vs:List V} {A:List Addr},R F H (ds++es) vs A->∃v1 v2 A1 A2,vs=v1++v2/\A=A1++A2/\R F H ds v1 A1/\R F H es v2 A2
 | [],vs,A,r=>⟨[],vs,[],A,rfl,rfl,.nil,r⟩
 | d::ds,_,_,r=>by
  obtain⟨v,bV,A1,A2,rfl,rfl,h1,h2⟩:=R.cQ (ds:=ds++es) r
  obtain⟨v1,v2,B1,B2,rfl,rfl,h3,h4⟩:=R.split (ds:=ds) h2
  exact⟨v::v1,v2,A1++B1,B2,rfl,by simp,h1.cons h3,h4⟩
theorem R.get:∀{ds:List D} {vs:List V} {A:List Addr} {i:Nat},R F H ds vs A->ds[i]?=some d->∃v A1,vs[i]?=some v/\R F H [d] [v] A1/\A1 ⊆ A
 | [],_,_,_,_,e=>by simp at e
 | d'::ds,_,_,i,r,e=>by
  obtain⟨v,bV,A1,A2,rfl,rfl,h1,h2⟩:=r.cQ
  cases i with
  | zero=>simp at e;subst e;exact⟨v,A1,rfl,h1,by simp⟩
  | succ i =>
   obtain⟨w,B1,e2,q,sb⟩:=R.get (ds:=ds) (i:=i) h2 (by simpa using e)
   exact⟨w,B1,by simpa using e2,q,λx hx=>dM _ (sb hx)⟩
theorem S.get:∀{ds:List D} {vs:List V} {i:Nat},S F H ds vs->ds[i]?=some d->∃v,vs[i]?=some v/\S F H [d] [v]
 | [],_,_,_,e=>by simp at e
 | d'::ds,_,i,r,e=>by
  obtain⟨v,bV,rfl,h1,h2⟩:=r.cQ
  cases i with
  | zero=>simp at e;subst e;exact⟨v,rfl,h1⟩
  | succ i =>
   obtain⟨w,e2,q⟩:=S.get (ds:=ds) (i:=i) h2 (by simpa using e)
   exact⟨w,by simpa using e2,q⟩
theorem S.get':∀{ds:List D} {vs:List V} {i:Nat},S F H ds vs->vs[i]?=some v->∃d,ds[i]?=some d/\S F H [d] [v]
 | [],_,_,r,e=>by cases r;simp at e
 | d'::ds,_,i,r,e=>by
  obtain⟨v,bV,rfl,h1,h2⟩:=r.cQ
  cases i with
  | zero=>simp at e;subst e;exact⟨d',rfl,h1⟩
  | succ i =>
   obtain⟨w,e2,q⟩:=S.get' (ds:=ds) (i:=i) h2 (by simpa using e)
   exact⟨w,by simpa using e2,q⟩
theorem S.take:∀{ds:List D} {vs:List V} (n:Nat),S F H ds vs->S F H (ds.take n) (vs.take n)
 | _,_,0,r=>by simpa using S.nil
 | [],_,n+1,r=>by cases r;exact .nil
 | d::ds,_,n+1,r=>by
  obtain⟨v,bV,rfl,h1,h2⟩:=r.cQ
  exact h1.cons (S.take n h2)
theorem S.drop:∀{ds:List D} {vs:List V} (n:Nat),S F H ds vs->S F H (ds.drop n) (vs.drop n)
 | _,_,0,r=>by simpa using r
 | [],_,n+1,r=>by cases r;exact .nil
 | d::ds,_,n+1,r=>by
  obtain⟨v,bV,rfl,h1,h2⟩:=r.cQ
  exact S.drop n h2
theorem g5{p:Addr}{o:HO}(h:Rd F p o)(s:af F F')(n:iF o=true:=by rfl):Rd F' p o:=by
 rcases h with h | ⟨u,h⟩
 ·exact .inl (s.get _ _ h n)
 ·exact .inr ⟨u,s _ _ h⟩
theorem R.s(r:R F H ds vs A):S F H ds vs:=by
 induction r with
 | nil=>exact .nil
 | ao _ ih=>exact .ao ih
 | bl _ ih=>exact .bl ih
 | int _ ih=>exact .int ih
 | str _ ih=>exact .str ih
 | shr h x _ _ ih=>exact .shr h x ih
 | own h f _ _ i1 i2=>exact .own h i1 i2
 | tup h _ _ i1 i2=>exact .tup h i1 i2
 | obj h l x _ _ ih=>exact .obj h l x ih
 | fz h x _ _ ih=>exact .fz h x ih
 | bu h _ ih=>exact .bu h ih
structure fC(W:List Addr)(H H':Hp):Prop where
 get:∀a o,H a=some o->a ∉ W->(h:iF o=true:=by rfl)->H' a=some o
noncomputable instance {W:List Addr} {H H':Hp}:CoeFun (fC W H H') λ_=>∀a o,H a=some o->a ∉ W->(h:iF o=true:=by rfl)->H' a=some o:=⟨λs=>@fC.get _ _ _ s⟩
noncomputable def gB(W:List Addr)(H:Hp):Prop:=∀a∈W,∃ws,H a=some (.lst ws)
theorem R.keep{W:List Addr}(hf:af F F')(hb:fC W H H')(hl:gB W H)(r:R F H ds vs A)(hn:∀a∈A,F' a=none)(hd:∀a∈A,a ∉ W):R F' H' ds vs A:=by
 induction r with
 | nil=>exact .nil
 | ao _ ih=>exact .ao (ih hn hd)
 | bl _ ih=>exact .bl (ih hn hd)
 | int _ ih=>exact .int (ih hn hd)
 | str _ ih=>exact .str (ih hn hd)
 | shr h x _ i1 ih=>exact .shr (hf _ _ h) (i1 (by simp) (by simp)) (ih hn hd)
 | own h f _ _ i1 i2 =>
  refine .own (hb _ _ h (hd _ (by simp))) (hn _ (by simp)) (i1 (λa ha=>hn a ?_) λa ha=>hd a ?_) (i2 (λa ha=>hn a ?_) λa ha=>hd a ?_)<;>simp[ha]
 | @tup p ws _ _ _ _ _ h _ _ i1 i2 =>
  refine .tup (hb _ _ h λz=>?_) (i1 (λa ha=>hn a ?_) λa ha=>hd a ?_) (i2 (λa ha=>hn a ?_) λa ha=>hd a ?_)<;>try simp[ha]
  obtain⟨q,e⟩:=hl _ z
  rw[h]at e;cases e
 | obj h l x _ i1 ih =>
  refine .obj (hb _ _ h λz=>?_) l (i1 (by simp) (by simp)) (ih hn hd)
  obtain⟨q,e⟩:=hl _ z
  rw[h]at e;cases e
 | fz h x _ i1 ih=>exact .fz (hf _ _ h) (i1 (by simp) (by simp)) (ih hn hd)
 | bu h _ ih =>
  exact .bu (h.mono λa o e n t=>hb.get a o e (λz=>by
   obtain⟨q,e'⟩:=hl _ z
   rw[e]at e';cases e';exact n _ rfl) t) (ih hn hd)
theorem fC.same(h:af H H'):fC [] H H':=⟨λa o e _ n=>h.get a o e n⟩
theorem gB.nil:gB [] H:=λa h=>absurd h (by simp)
theorem R.grow(hf:af F F')(hb:af H H')(r:R F H ds vs A)(hn:∀a∈A,F' a=none):R F' H' ds vs A :=
 r.keep hf (fC.same hb) gB.nil hn (by simp)
theorem R.shared(hf:af F F')(hb:af H H')(r:R F H ds vs []):R F' H' ds vs []:=r.grow hf hb (by simp)
theorem S.mono(hf:af F F')(hb:af H H')(r:S F H ds vs):S F' H' ds vs:=by
 induction r with
 | nil=>exact .nil
 | ao _ ih=>exact .ao ih
 | bl _ ih=>exact .bl ih
 | int _ ih=>exact .int ih
 | str _ ih=>exact .str ih
 | shr h x _ ih=>exact .shr (hf _ _ h) (x.shared hf hb) ih
 | own h _ _ i1 i2=>exact .own (hb _ _ h) i1 i2
 | tup h _ _ i1 i2=>exact .tup (hb _ _ h) i1 i2
 | obj h l x _ ih=>exact .obj (hb _ _ h) l (x.shared hf hb) ih
 | fz h x _ ih=>exact .fz (hf _ _ h) (x.shared hf hb) ih
 | bu h _ ih=>exact .bu (h.mono λa o e _ t=>hb.get a o e t) ih
theorem S.r(s:S F H ds vs)(p:ds.all D.pl=true):R F H ds vs []:=by
 induction s with
 | nil=>exact .nil
 | ao _ ih=>exact .ao (ih (by simpa[D.pl]using p))
 | bl _ ih=>exact .bl (ih (by simpa[D.pl]using p))
 | int _ ih=>exact .int (ih (by simpa[D.pl]using p))
 | str _ ih=>exact .str (ih (by simpa[D.pl]using p))
 | shr h x _ ih=>exact .shr h x (ih (by simp[iG]at p;simpa using p.2))
 | own h _ _ i1 i2=>simp[iG]at p
 | tup h _ _ i1 i2 =>
  rw[dO,kL,dz]at p
  simpa using R.tup h (i1 p.1) (i2 p.2)
 | obj h l x _ ih=>exact .obj h l x (ih (by simpa[D.pl]using p))
 | fz h x _ ih=>exact .fz h x (ih (by simpa[D.pl]using p))
 | bu h _ ih=>exact .bu h (ih (by simpa[D.pl]using p))
theorem R.pl(r:R F H ds vs []):ds.all D.pl=true:=by
 generalize e:([]:List Addr)=A at r
 induction r with
 | nil=>rfl
 | ao _ ih=>simp[D.pl];simpa using ih e
 | bl _ ih=>simp[D.pl];simpa using ih e
 | int _ ih=>simp[D.pl];simpa using ih e
 | str _ ih=>simp[D.pl];simpa using ih e
 | shr h x _ i1 ih=>simp only[dO,iG,i1 rfl,ih e];rfl
 | own h f _ _ i1 i2=>cases e
 | tup h _ _ i1 i2 =>
  obtain⟨e1,e2⟩:=yP.mp e.symm
  simp only[dO,kL,i1 e1.symm,i2 e2.symm];rfl
 | obj h l x _ i1 ih=>simp[D.pl];simpa using ih e
 | fz h x _ i1 ih=>simp[D.pl];simpa using ih e
 | bu h _ ih=>simp[D.pl];simpa using ih e
theorem D.zR:∀{d:D},d.pl=true->d.sh=d
 | .ao,_=>rfl
 | .bl _,_=>rfl
 | .int _,_=>rfl
 | .str _,_=>rfl
 | .obj _ _ _,_=>rfl
 | .fz _,_=>rfl
 | .bu _,_=>rfl
 | .lst o xs,h=>by
  rw[iG,dz]at h
  have:∀(l:List D),(∀x∈l,x∈xs)->l.all D.pl=true->l.map D.sh=l:=by
   intro l hl hp
   induction l with
   | nil=>rfl
   | cons x l ih =>
    simp only[dO,dz]at hp
    have hx:x∈xs:=hl x (by simp)
    rw[dN,D.zR hp.1,ih (λy hy=>hl y (by simp[hy])) hp.2]
  rw[eT,this xs (λ_ h=>h) h.2]
  cases o<;>simp_all
 | .tup xs,h=>by
  rw[kL]at h
  have:∀(l:List D),(∀x∈l,x∈xs)->l.all D.pl=true->l.map D.sh=l:=by
   intro l hl hp
   induction l with
   | nil=>rfl
   | cons x l ih =>
    simp only[dO,dz]at hp
    have hx:x∈xs:=hl x (by simp)
    rw[dN,D.zR hp.1,ih (λy hy=>hl y (by simp[hy])) hp.2]
  rw[mB,this xs (λ_ h=>h) h]
termination_by d=>sizeOf d
theorem kM{l:List D}(h:l.all D.pl=true):l.map D.sh=l:=by
 induction l with
 | nil=>rfl
 | cons x l ih =>
  simp only[dO,dz]at h
  rw[dN,D.zR h.1,ih h.2]
theorem S.frozen(e:af F H)(s:S F H ds vs):R H H (ds.map D.sh) vs []:=by
 induction s with
 | nil=>exact .nil
 | ao _ ih=>exact .ao ih
 | bl _ ih=>exact .bl ih
 | int _ ih=>exact .int ih
 | str _ ih=>exact .str ih
 | shr h x _ ih =>
  rw[dN,eT,kM x.pl]
  exact .shr (e _ _ h) (x.shared e (af.refl _)) ih
 | own h _ _ i1 i2=>rw[dN,eT];exact .shr h i1 i2
 | tup h _ _ i1 i2=>rw[dN,mB];simpa using R.tup h i1 i2
 | obj h l x _ ih=>exact .obj h l (x.shared e (af.refl _)) ih
 | fz h x _ ih=>exact .fz (e _ _ h) (x.shared e (af.refl _)) ih
 | bu h _ ih=>exact .bu h ih
noncomputable def br(F H:Hp)(A:List Addr):Hp:=λa=>if a∈A then H a else F a
theorem iH(e:af F H):af F (br F H A):=⟨λa o h n=>by unfold br;split;exact e.get _ _ h n;exact h,λa ps h=>by unfold br;split;exact e.tb _ _ h;exact⟨#[],by rw[h];simp⟩⟩
theorem pO(e:af F H):af (br F H A) H:=⟨λa o h n=>by unfold br at h;split at h;exact h;exact e.get _ _ h n,λa ps h=>by unfold br at h;split at h;exact⟨#[],by rw[h];simp⟩;exact e.tb _ _ h⟩
theorem pP{a:Addr}(h:a ∉ A):br F H A a=F a:=by unfold br;rw[if_neg h]
theorem Yk{a:Addr}(h:a∈A):br F H A a=H a:=by unfold br;rw[if_pos h]
theorem R.br(e:af F H)(r:R F H ds vs A):∀A',A ⊆ A'->R (L3.br F H A') H (ds.map D.sh) vs []:=by
 induction r with
 | nil=>exact λ_ _=>.nil
 | ao _ ih=>exact λA' h=>.ao (ih A' h)
 | bl _ ih=>exact λA' h=>.bl (ih A' h)
 | int _ ih=>exact λA' h=>.int (ih A' h)
 | str _ ih=>exact λA' h=>.str (ih A' h)
 | shr h x _ i1 ih =>
  intro A' hA
  rw[dN,eT,kM x.pl]
  exact .shr (iH e _ _ h) (x.shared (iH e) (af.refl _)) (ih A' hA)
 | own h f _ _ i1 i2 =>
  intro A' hA
  rw[dN,eT]
  exact .shr ((Yk (hA (by simp))).trans h) (i1 A' λa ha=>hA (by simp[ha])) (i2 A' λa ha=>hA (by simp[ha]))
 | tup h _ _ i1 i2 =>
  intro A' hA
  rw[dN,mB]
  simpa using R.tup h (i1 A' λa ha=>hA (by simp[ha])) (i2 A' λa ha=>hA (by simp[ha]))
 | obj h l x _ i1 ih=>exact λA' hA=>.obj h l (x.shared (iH e) (af.refl _)) (ih A' hA)
 | fz h x _ i1 ih=>exact λA' hA=>.fz (iH e _ _ h) (x.shared (iH e) (af.refl _)) (ih A' hA)
 | bu h _ ih=>exact λA' hA=>.bu h (ih A' hA)
theorem R.lists(r:R F H ds vs A):∀a∈A,(∃ws,H a=some (.lst ws))/\F a=none:=by
 induction r with
 | nil=>simp
 | ao _ ih=>exact ih
 | bl _ ih=>exact ih
 | int _ ih=>exact ih
 | str _ ih=>exact ih
 | shr h x _ i1 ih=>exact ih
 | own h f _ _ i1 i2 =>
  intro a ha
  rcases bR.mp ha with rfl | ha
  ·exact⟨⟨_,h⟩,f⟩
  ·exact(cS.mp ha).elim (i1 a) (i2 a)
 | tup h _ _ i1 i2=>exact λa ha=>(cS.mp ha).elim (i1 a) (i2 a)
 | obj h l x _ i1 ih=>exact ih
 | fz h x _ i1 ih=>exact ih
 | bu h _ ih=>exact ih
theorem R.rP(r:R F H ds vs A)(hd:ds.all D.fr=true)(e:af F' F):R F' H ds vs A:=by
 induction r with
 | nil=>exact .nil
 | ao _ ih=>exact .ao (ih (by simpa[D.fr]using hd))
 | bl _ ih=>exact .bl (ih (by simpa[D.fr]using hd))
 | int _ ih=>exact .int (ih (by simpa[D.fr]using hd))
 | str _ ih=>exact .str (ih (by simpa[D.fr]using hd))
 | shr h x _ i1 ih=>simp[fB]at hd
 | own h f _ _ i1 i2 =>
  rw[dO,fB,dz,nu]at hd
  exact .own h (e.free f) (i1 hd.1) (i2 hd.2)
 | tup h _ _ i1 i2 =>
  rw[dO,pM,dz]at hd
  exact .tup h (i1 hd.1) (i2 hd.2)
 | obj h l x _ i1 ih=>simp[D.fr]at hd
 | fz h x _ i1 ih=>simp[D.fr]at hd
 | bu h _ ih=>exact .bu h (ih (by simpa[D.fr]using hd))
theorem R.inj(r:R F H ds vs A):∀{B:List Addr},R F H ds vs B->A=B:=by
 induction r with
 | nil=>exact λq=>q.jZ.2.symm
 | ao _ ih=>exact λq=>ih q.rv
 | bl _ ih=>exact λq=>ih q.rv
 | int _ ih=>exact λq=>ih q.rv
 | str _ ih=>exact λq=>ih q.rv
 | shr h x _ i1 ih=>exact λq=>ih q.rv
 | own h f _ _ i1 i2 =>
  intro B q
  obtain⟨p,ws,A,B',e,h',f',x',q',rfl⟩:=q.rv
  cases e
  rw[h]at h';cases h'
  rw[i1 x',i2 q']
 | tup h _ _ i1 i2 =>
  intro B q
  obtain⟨p,ws,A,B',e,h',x',q',rfl⟩:=q.rv
  cases e
  rw[h]at h';cases h'
  rw[i1 x',i2 q']
 | obj h l x _ i1 ih=>exact λq=>ih q.rv
 | fz h x _ i1 ih=>exact λq=>ih q.rv
 | bu h _ ih=>exact λq=>ih q.rv
theorem R.perm{ps qs:List (D × V)}(hp:ps.Perm qs):∀{A:List Addr},R F H (ps.map (·.1)) (ps.map (·.2)) A->∃A',R F H (qs.map (·.1)) (qs.map (·.2)) A'/\A.Perm A':=by
 induction hp with
 | nil=>exact λr=>⟨_,r,.refl _⟩
 | cons x _ ih =>
  intro A r
  obtain⟨v,bV,A1,A2,e,rfl,h1,h2⟩:=R.cQ r
  obtain⟨rfl,rfl⟩:=lU e
  obtain⟨A',r',p⟩:=ih h2
  exact⟨A1++A',h1.cons r',p.append_left _⟩
 | swap x y l =>
  intro A r
  obtain⟨v,bV,A1,A2,e,rfl,h1,h2⟩:=R.cQ r
  obtain⟨rfl,rfl⟩:=lU e
  obtain⟨v2,LK,B1,B2,e,rfl,h3,h4⟩:=R.cQ h2
  obtain⟨rfl,rfl⟩:=lU e
  exact⟨B1++(A1++B2),h3.cons (h1.cons h4),by rw[<-eP,<- eP];exact lV.append_right _⟩
 | trans _ _ i1 i2 =>
  intro A r
  obtain⟨A',r',p⟩:=i1 r
  obtain⟨A2,r2,p2⟩:=i2 r'
  exact⟨A2,r2,p.trans p2⟩
noncomputable def Full(F H:Hp):Prop:=∀a o,H a=some o->(∀ws,o≠.lst ws)->F a=some o
theorem Full.refl(H:Hp):Full H H:=λ_ _ h _=>h
theorem R.full(hF:Full F H)(hs:af F H')(r:R F H ds vs A)(e:A=[]):R F H' ds vs []:=by
 induction r with
 | nil=>exact .nil
 | ao _ ih=>exact .ao (ih e)
 | bl _ ih=>exact .bl (ih e)
 | int _ ih=>exact .int (ih e)
 | str _ ih=>exact .str (ih e)
 | shr h x _ i1 ih=>exact .shr h (i1 rfl) (ih e)
 | own h f _ _ i1 i2=>cases e
 | tup h _ _ i1 i2 =>
  obtain⟨e1,e2⟩:=yP.mp e
  exact R.tup (A:=[]) (B:=[]) (hs _ _ (hF _ _ h (by intro ws z;cases z))) (i1 e1) (i2 e2)
 | obj h l x _ i1 ih=>exact .obj (hs _ _ (hF _ _ h (by intro ws z;cases z))) l (i1 rfl) (ih e)
 | fz h x _ i1 ih=>exact .fz h (i1 rfl) (ih e)
 | bu h _ ih=>exact .bu (h.mono λa o e n t=>hs.get a o (hF a o e n) t) (ih e)
open Classical in
noncomputable def snap(F H:Hp):Hp:=λa=>if(∃o,H a=some o/\∀ws,o≠.lst ws)then H a else F a
theorem rQ:Full (snap F H) H:=λa o h n=>by unfold snap;rw[if_pos ⟨o,h,n⟩];exact h
theorem pQ(e:af F H):af F (snap F H):=⟨λa o h n=>by
 unfold snap;split
 ·exact e.get a o h n
 ·exact h,λa ps h=>by
 unfold snap;split
 ·exact e.tb a ps h
 ·exact⟨#[],by rw[h];simp⟩⟩
theorem Yl(e:af F H):af (snap F H) H:=⟨λa o h n=>by
 unfold snap at h;split at h
 ·exact h
 ·exact e.get a o h n,λa ps h=>by
 unfold snap at h;split at h
 ·exact⟨#[],by rw[h];simp⟩
 ·exact e.tb a ps h⟩
theorem Ym(e:af F H){a:Addr}{ws:List V}(h:snap F H a=some (.lst ws)):F a=some (.lst ws):=by
 unfold snap at h;split at h
 ·rename_i z
  obtain⟨o,h1,h2⟩:=z
  rw[h]at h1;exact absurd (cX h1).symm (h2 ws)
 ·exact h
theorem Yn{a:Addr}{ws:List V}(h:H a=some (.lst ws))(n:F a=none):snap F H a=none:=by
 unfold snap;split
 ·rename_i z
  obtain⟨o,h1,h2⟩:=z
  rw[h]at h1;exact absurd (cX h1).symm (h2 ws)
 ·exact n
end
end L3
namespace L3
open PySem L2
noncomputable abbrev Dl:=List (Option D)
inductive RS(F H:Hp):Dl->St->List Addr->Prop
 | nil:RS F H [] [] []
 | ao {δ σ o C}:RS F H δ σ C->RS F H (none::δ) (o::σ) C
 | dQ {d v A δ σ C}:R F H [d] [v] A->RS F H δ σ C->RS F H (some d::δ) (some v::σ) (A++C)
theorem fW{A B:List Addr}:(A++B).Nodup↔A.Nodup/\B.Nodup/\∀a∈A,a ∉ B:=by
 rw[List.nodup_append]
 constructor
 ·rintro⟨h1,h2,h3⟩;exact⟨h1,h2,λa ha hb=>h3 a ha a hb rfl⟩
 ·rintro⟨h1,h2,h3⟩;exact⟨h1,h2,λa ha b hb e=>h3 a ha (e ▸ hb)⟩
section
variable{F F' H H':Hp}{d:D}{v:V}{δ:Dl}{σ:St}{A C:List Addr}{i:Nat}
theorem RS.length(r:RS F H δ σ C):δ.length=σ.length:=by induction r<;>simp_all
theorem RS.pick:∀{δ:Dl} {σ:St} {C:List Addr} {i:Nat},RS F H δ σ C->δ[i]?=some (some d)->∃v A C',σ[i]?=some (some v)/\R F H [d] [v] A/\RS F H (δ.set i none) σ C'/\C.Perm (A++C')
 | _,_,_,_,.nil,e=>by simp at e
 | _,_,_,i,.ao r,e=>by
  cases i with
  | zero=>simp at e
  | succ i =>
   obtain⟨v,A,C',e1,h1,h2,p⟩:=RS.pick r (by simpa using e)
   exact⟨v,A,C',by simpa using e1,h1,.ao h2,p⟩
 | _,_,_,i,.dQ (A:=A0) (C:=C0) h r,e=>by
  cases i with
  | zero =>
   simp at e;subst e
   exact⟨_,A0,C0,rfl,h,.ao r,.refl _⟩
  | succ i =>
   obtain⟨v,A,C',e1,h1,h2,p⟩:=RS.pick r (by simpa using e)
   refine⟨v,A,A0++C',by simpa using e1,h1,.dQ h h2,(p.append_left A0).trans ?_⟩
   rw[<-eP,<- eP]
   exact lV.append_right _
theorem RS.fill:∀{δ:Dl} {σ:St} {C:List Addr} {i:Nat},RS F H δ σ C->δ[i]?=some none->σ[i]?=some (some v)->R F H [d] [v] A->∃C',RS F H (δ.set i (some d)) σ C'/\C'.Perm (A++C)
 | _,_,_,_,.nil,e,_,_=>by simp at e
 | _,_,_,i,.ao r,e,e2,h=>by
  cases i with
  | zero=>simp at e2;subst e2;exact⟨_,.dQ h r,.refl _⟩
  | succ i =>
   obtain⟨C',h1,p⟩:=RS.fill r (by simpa using e) (by simpa using e2) h
   exact⟨C',.ao h1,p⟩
 | _,_,_,i,.dQ (A:=A0) (C:=C0) h0 r,e,e2,h=>by
  cases i with
  | zero=>simp at e
  | succ i =>
   obtain⟨C',h1,p⟩:=RS.fill r (by simpa using e) (by simpa using e2) h
   refine⟨A0++C',.dQ h0 h1,(p.append_left A0).trans ?_⟩
   rw[<-eP,<- eP]
   exact lV.append_right _
theorem RS.drop:∀{δ:Dl} {σ:St} {C:List Addr} (i:Nat),RS F H δ σ C->∃C',RS F H (δ.set i none) σ C'/\C'.Sublist C
 | _,_,_,_,.nil=>⟨_,.nil,.refl _⟩
 | _,_,_,i,.ao r=>by
  cases i with
  | zero=>exact⟨_,.ao r,.refl _⟩
  | succ i=>obtain⟨C',h,s⟩:=RS.drop i r;exact⟨C',.ao h,s⟩
 | _,_,_,i,.dQ (A:=A0) h0 r=>by
  cases i with
  | zero=>exact⟨_,.ao r,List.sublist_append_right _ _⟩
  | succ i=>obtain⟨C',h,s⟩:=RS.drop i r;exact⟨_,.dQ h0 h,(JG A0).append s⟩
theorem RS.rR:∀{δ:Dl} {σ:St} {C:List Addr} {i:Nat} (o:Option V),RS F H δ σ C->(δ[i]?=some none\/δ[i]?=none)->RS F H δ (σ.set i o) C
 | _,_,_,_,_,.nil,_=>.nil
 | _,_,_,i,_,.ao r,e=>by
  cases i with
  | zero=>exact .ao r
  | succ i=>exact .ao (RS.rR _ r (by simpa using e))
 | _,_,_,i,_,.dQ h0 r,e=>by
  cases i with
  | zero=>simp at e
  | succ i=>exact .dQ h0 (RS.rR _ r (by simpa using e))
theorem RS.keep{W:List Addr}(hf:af F F')(hb:fC W H H')(hl:gB W H)(r:RS F H δ σ C)(hn:∀a∈C,F' a=none)(hd:∀a∈C,a ∉ W):RS F' H' δ σ C:=by
 induction r with
 | nil=>exact .nil
 | ao _ ih=>exact .ao (ih hn hd)
 | dQ h _ ih=>exact .dQ (h.keep hf hb hl (λa ha=>hn a (by simp[ha])) λa ha=>hd a (by simp[ha])) (ih (λa ha=>hn a (by simp[ha])) λa ha=>hd a (by simp[ha]))
theorem RS.lists(r:RS F H δ σ C):∀a∈C,(∃ws,H a=some (.lst ws))/\F a=none:=by
 induction r with
 | nil=>simp
 | ao _ ih=>exact ih
 | dQ h _ ih=>exact λa ha=>(cS.mp ha).elim (h.lists a) (ih a)
end
structure Bs where
 H0:Hp
 F0:Hp
structure aj(B:Bs)(F H:Hp)(σ:St)(δ:Dl)(ts:List (D × V)):Prop where
 ext:af F H
 b1:af B.H0 H
 b2:af B.F0 F
 b3:∀a ws,F a=some (.lst ws)->B.F0 a=some (.lst ws)\/B.H0 a=none
 own:∃A C,R F H (ts.map (·.1)) (ts.map (·.2)) A/\RS F H δ σ C/\(A++C).Nodup/\∀a∈A++C,B.H0 a=none
section
variable{B:Bs}{F F' H H':Hp}{d:D}{v:V}{δ:Dl}{σ:St}{ts ps:List (D × V)}{A C W:List Addr}{i:Nat}{p:Addr}{xs ys:List D}{vs ws:List V}
theorem aj.look(c:aj B F H σ δ ts)(e:δ[i]?=some (some d)):∃v,σ[i]?=some (some v)/\S F H [d] [v]:=by
 obtain⟨A,C,r,s,nd,fr⟩:=c.own
 obtain⟨v,A',C',e1,h1,h2,p⟩:=s.pick e
 exact⟨v,e1,h1.s⟩
theorem aj.len(c:aj B F H σ δ ts):δ.length=σ.length:=let⟨_,_,_,s,_⟩:=c.own;s.length
theorem aj.grow(c:aj B F H σ δ ts)(h:af H H'):aj B F H' σ δ ts:=by
 obtain⟨A,C,r,s,nd,fr⟩:=c.own
 exact⟨c.ext.trans h,c.b1.trans h,c.b2,c.b3,A,C,r.grow (af.refl _) h λa ha=>(r.lists a ha).2,s.keep (af.refl _) (fC.same h) gB.nil (λa ha=>(s.lists a ha).2) (by simp),nd,fr⟩
theorem aj.pop(c:aj B F H σ δ ((d,v)::ts)):aj B F H σ δ ts:=by
 obtain⟨A,C,r,s,nd,fr⟩:=c.own
 obtain⟨w,bV,A1,A2,e,rfl,h1,h2⟩:=R.cQ r
 obtain⟨rfl,rfl⟩:=lU e
 refine⟨c.ext,c.b1,c.b2,c.b3,A2,C,h2,s,?_,λa ha=>fr a (by simp at ha ⊢;exact .inr ha)⟩
 rw[eP]at nd
 exact(fW.mp nd).2.1
theorem aj.top(c:aj B F H σ δ ((d,v)::ts)):S F H [d] [v]:=by
 obtain⟨A,C,r,s,nd,fr⟩:=c.own
 obtain⟨w,bV,A1,A2,e,rfl,h1,h2⟩:=R.cQ r
 obtain⟨rfl,rfl⟩:=lU e
 exact h1.s
theorem aj.pushS(c:aj B F H σ δ ts)(s:S F H [d] [v])(pl:d.pl=true):aj B F H σ δ ((d,v)::ts):=by
 obtain⟨A,C,r,q,nd,fr⟩:=c.own
 exact⟨c.ext,c.b1,c.b2,c.b3,A,C,(s.r (by simp[pl])).cons r,q,nd,fr⟩
theorem af.upd{o:HO}(h:H p=none):af H (upd H p o):=.of λb u e=>by rw[aO (cT e h)];exact e
theorem aj.pack(c:aj B F H σ δ (ps++ts))(hs:af H H')(k:∀A1,R F H' (ps.map (·.1)) (ps.map (·.2)) A1->A1.Nodup->∃A',R F H' [d] [v] A'/\A'.Nodup/\∀a∈A',a∈A1\/H a=none):aj B F H' σ δ ((d,v)::ts):=by
 obtain⟨A,C,r,s,nd,fr⟩:=c.own
 rw[jQ,jQ]at r
 obtain⟨v1,v2,A1,A2,e,rfl,h1,h2⟩:=R.split r
 have l1:(ps.map (·.2)).length=v1.length:=by rw[<-h1.length];simp
 obtain⟨rfl,rfl⟩:=Cv e l1
 rw[eP]at nd fr
 obtain⟨n1,n2,n3⟩:=fW.mp nd
 have g1:=h1.grow (af.refl F) hs λa ha=>(h1.lists a ha).2
 have g2:=h2.grow (af.refl F) hs λa ha=>(h2.lists a ha).2
 have gs:=s.keep (af.refl F) (fC.same hs) gB.nil (λa ha=>(s.lists a ha).2) (by simp)
 obtain⟨A',r',DT,sub⟩:=k A1 g1 n1
 refine⟨c.ext.trans hs,c.b1.trans hs,c.b2,c.b3,A'++A2,C,r'.cons g2,gs,?_,?_⟩
 ·rw[eP]
  refine fW.mpr ⟨DT,n2,λa ha hb=>?_⟩
  rcases sub a ha with z | z
  ·exact n3 a z hb
  ·rcases cS.mp hb with y | y
   ·obtain⟨⟨_,q⟩,_⟩:=h2.lists a y;rw[z]at q;cases q
   ·obtain⟨⟨_,q⟩,_⟩:=s.lists a y;rw[z]at q;cases q
 ·intro a ha
  rw[eP]at ha
  rcases cS.mp ha with y | y
  ·rcases sub a y with z | z
   ·exact fr a (by simp[z])
   ·exact c.b1.free z
  ·exact fr a (dM _ y)
theorem aj.DU(c:aj B F H σ δ ts)(hs:af H H')(r:R F H' [d] [v] A)(nd:A.Nodup)(fr:∀a∈A,H a=none):aj B F H' σ δ ((d,v)::ts) :=
 aj.pack (ps:=[]) c hs λ_ _ _=>⟨A,r,nd,λa ha=>.inr (fr a ha)⟩
theorem aj.mC(c:aj B F H σ δ ts)(hp:H p=none)(s:S F H xs vs)(pl:xs.all D.pl=true):aj B F (upd H p (.lst vs)) σ δ ((.lst true xs,.ref p)::ts) :=
 c.DU (af.upd hp) (A:=[p]) (by simpa using R.own bA (c.ext.free hp) ((s.r pl).shared (af.refl _) (af.upd hp)) .nil) (by simp) (by simp[hp])
theorem aj.Yo(c:aj B F H σ δ (ps++ts))(hp:H p=none):aj B F (upd H p (.lst (ps.map (·.2)))) σ δ ((.lst true (ps.map (·.1)),.ref p)::ts):=by
 refine c.pack (af.upd hp) λA1 r nd=>⟨p::A1,by simpa using R.own bA (c.ext.free hp) r .nil,js.mpr ⟨λh=>?_,nd⟩,λa ha=>?_⟩
 ·obtain⟨A,C,r0,_,_,_⟩:=c.own
  rw[jQ,jQ]at r0
  obtain⟨v1,v2,B1,B2,e,rfl,h1,h2⟩:=R.split r0
  have l1:(ps.map (·.2)).length=v1.length:=by rw[<-h1.length];simp
  obtain⟨rfl,rfl⟩:=Cv e l1
  have g1:=h1.grow (af.refl F) (af.upd (o:=.lst (ps.map (·.2))) hp) λa ha=>(h1.lists a ha).2
  have:A1=B1:=R.inj r g1
  subst this
  obtain⟨⟨_,q⟩,_⟩:=h1.lists p h
  rw[hp]at q;cases q
 ·rcases bR.mp ha with rfl | h
  ·exact .inr hp
  ·exact .inl h
theorem aj.Yp(c:aj B F H σ δ (ps++ts))(hp:H p=none):aj B F (upd H p (.tup (ps.map (·.2)))) σ δ ((.tup (ps.map (·.1)),.ref p)::ts) :=
 c.pack (af.upd hp) λA1 r nd=>⟨A1,by simpa using R.tup (F:=F) bA r .nil,nd,λa ha=>.inl ha⟩
theorem aj.perm(c:aj B F H σ δ ps)(h:ps.Perm ts):aj B F H σ δ ts:=by
 obtain⟨A,C,r,s,nd,fr⟩:=c.own
 obtain⟨A',r',p⟩:=r.perm h
 have pp:=p.append_right C
 exact⟨c.ext,c.b1,c.b2,c.b3,A',C,r',s,pp.nodup_iff.mp nd,λa ha=>fr a (pp.mem_iff.mpr ha)⟩
theorem aj.move(c:aj B F H σ δ ts)(e:δ[i]?=some (some d)):∃v,σ[i]?=some (some v)/\aj B F H σ (δ.set i none) ((d,v)::ts):=by
 obtain⟨A,C,r,s,nd,fr⟩:=c.own
 obtain⟨v,A',C',e1,h1,h2,p⟩:=s.pick e
 have pp:(A++C).Perm ((A'++A)++C'):=by
  refine(p.append_left A).trans ?_
  rw[<-eP]
  exact lV.append_right _
 exact⟨v,e1,c.ext,c.b1,c.b2,c.b3,A'++A,C',h1.cons r,h2,pp.nodup_iff.mp nd,λa ha=>fr a (pp.mem_iff.mpr ha)⟩
theorem aj.forget(c:aj B F H σ δ ts)(i:Nat):aj B F H σ (δ.set i none) ts:=by
 obtain⟨A,C,r,s,nd,fr⟩:=c.own
 obtain⟨C',h,sb⟩:=s.drop i
 exact⟨c.ext,c.b1,c.b2,c.b3,A,C',r,h,nd.sublist ((JG A).append sb),λa ha=>fr a (((JG A).append sb).subset ha)⟩
theorem aj.fill(c:aj B F H σ δ ((d,v)::ts))(e:δ[i]?=some none)(e2:σ[i]?=some (some v)):aj B F H σ (δ.set i (some d)) ts:=by
 obtain⟨A,C,r,s,nd,fr⟩:=c.own
 obtain⟨w,bV,A1,A2,e',rfl,h1,h2⟩:=R.cQ r
 obtain⟨rfl,rfl⟩:=lU e'
 obtain⟨C',s',p⟩:=s.fill e e2 h1
 have pp:((A1++A2)++C).Perm (A2++C'):=by
  refine((lV (l₁:=A1) (l₂:=A2)).append_right C).trans ?_
  rw[eP]
  exact(p.symm).append_left A2
 exact⟨c.ext,c.b1,c.b2,c.b3,A2,C',h2,s',pp.nodup_iff.mp nd,λa ha=>fr a (pp.mem_iff.mpr ha)⟩
theorem aj.rR(c:aj B F H σ δ ts)(o:Option V)(e:δ[i]?=some none\/δ[i]?=none):aj B F H (σ.set i o) δ ts:=by
 obtain⟨A,C,r,s,nd,fr⟩:=c.own
 exact⟨c.ext,c.b1,c.b2,c.b3,A,C,r,s.rR o e,nd,fr⟩
theorem aj.store(c:aj B F H σ δ ((d,v)::ts))(i:Nat):aj B F H (σ.set i (some v)) (δ.set i (some d)) ts:=by
 by_cases hi:i<δ.length
 ·have c1:=c.forget i
  have hs:i<σ.length:=by rw[<-c.len];exact hi
  have e:(δ.set i none)[i]?=some none:=by simp[hi]
  have c2:=(c1.rR (some v) (.inl e)).fill (i:=i) e (by simp[hs])
  rwa [JH]at c2
 ·have hs:¬ i<σ.length:=by rw[<-c.len];exact hi
  rw[TM (by omega),TM (by omega)]
  exact c.pop
theorem aj.mut(c:aj B F H σ δ (ps++ts))(e:δ[i]?=some (some (.lst true xs)))(e2:σ[i]?=some (some (.ref p)))
  (k:∀ws A1 A2,H p=some (.lst ws)->R F H xs ws A1->R F H (ps.map (·.1)) (ps.map (·.2)) A2->(A1++A2).Nodup->∃A',R F H ys vs A'/\A'.Nodup/\∀a∈A',a∈A1++A2) :
  aj B F (upd H p (.lst vs)) σ (δ.set i (some (.lst true ys))) ts:=by
 have hi:i<δ.length:=(jr.mp e).1
 obtain⟨v,e3,c1⟩:=c.move e
 rw[e2]at e3;cases e3
 obtain⟨A,C,r,s,nd,fr⟩:=c1.own
 have r':R F H (([.lst true xs]++ps.map (·.1))++ts.map (·.1)) ((.ref p::ps.map (·.2))++ts.map (·.2)) A:=by simpa using r
 obtain⟨v1,v2,A1,A2,e4,rfl,h1,h2⟩:=R.split r'
 have l1:(V.ref p::ps.map (·.2)).length=v1.length:=by rw[<-h1.length];simp
 obtain⟨rfl,rfl⟩:=Cv e4 l1
 obtain⟨p',DV,B1,B2,ep,hH,hF,hx,hr,rfl⟩:=h1.rv
 cases ep
 ·skip
  rw[eP]at nd fr
  obtain⟨n1,n2,n3⟩:=fW.mp nd
  obtain⟨m1,m2⟩:=js.mp n1
  obtain⟨A',ra,Yq,sub⟩:=k DV B1 B2 hH hx hr m2
  have pA:p ∉ A':=λz=>m1 (sub _ z)
  have pR:p ∉ A2++C:=λz=>n3 p (by simp) z
  have but:fC [p] H (upd H p (.lst vs)):=⟨λa o q z _=>by rw[aO (by simpa using z)];exact q⟩
  have hl:gB [p] H:=λa ha=>by rw[jP.mp ha];exact⟨_,hH⟩
  have g1:=ra.keep (af.refl F) but hl (λa ha=>(ra.lists a ha).2) λa ha z=>pA (by rw[<-jP.mp z];exact ha)
  have g2:=h2.keep (af.refl F) but hl (λa ha=>(h2.lists a ha).2) λa ha z=>pR (by rw[<-jP.mp z];exact eB _ ha)
  have gs:=s.keep (af.refl F) but hl (λa ha=>(s.lists a ha).2) λa ha z=>pR (by rw[<-jP.mp z];exact dM _ ha)
  have fp:B.H0 p=none:=fr p (by simp)
  have b1:af B.H0 (upd H p (.lst vs)):=⟨λa o q n=>by
   rw[aO (λz=>by rw[z,fp]at q;cases q)]
   exact c1.b1.get a o q n,λa ps q=>by
   rw[aO (λz=>by rw[z,fp]at q;cases q)]
   exact c1.b1.tb a ps q⟩
  have ext:af F (upd H p (.lst vs)):=⟨λa o q n=>by
   rw[aO (λz=>by rw[z,hF]at q;cases q)]
   exact c1.ext.get a o q n,λa ps q=>by
   rw[aO (λz=>by rw[z,hF]at q;cases q)]
   exact c1.ext.tb a ps q⟩
  have c2:aj B F (upd H p (.lst vs)) σ (δ.set i none) ((.lst true ys,.ref p)::ts):=by
   refine⟨ext,b1,c1.b2,c1.b3,(p::A')++A2,C,R.cons (by simpa using R.own bA hF g1 .nil) g2,gs,?_,?_⟩
   ·rw[eP]
    refine fW.mpr ⟨js.mpr ⟨pA,Yq⟩,n2,λa ha hb=>?_⟩
    rcases bR.mp ha with rfl | ha
    ·exact pR hb
    ·exact n3 a (fM _ (sub a ha)) hb
   ·intro a ha
    rw[eP]at ha
    rcases cS.mp ha with z | z
    ·rcases bR.mp z with rfl | z
     ·exact fp
     ·exact fr a (eB _ (fM _ (sub a z)))
    ·exact fr a (dM _ z)
  have c3:=c2.fill (i:=i) (by simp[hi]) e2
  rwa [JH]at c3
theorem aj.LL(c:aj B F H σ δ ((d,v)::ts)):∃F',af F F'/\aj B F' H σ δ ((d.sh,v)::ts):=by
 obtain⟨A,C,r,s,nd,fr⟩:=c.own
 obtain⟨w,bV,A1,A2,e',rfl,h1,h2⟩:=R.cQ r
 obtain⟨rfl,rfl⟩:=lU e'
 rw[eP]at nd fr
 obtain⟨n1,n2,n3⟩:=fW.mp nd
 have out:∀a∈A2++C,br F H A1 a=F a:=λa ha=>pP λz=>n3 a z ha
 have b3:∀a o,br F H A1 a=some (.lst o)->B.F0 a=some (.lst o)\/B.H0 a=none:=λa o q=>by
  by_cases z:a∈A1
  ·exact .inr (fr a (eB _ z))
  ·rw[pP z]at q;exact c.b3 a o q
 refine⟨br F H A1,iH c.ext,pO c.ext,c.b1,c.b2.trans (iH c.ext),b3,A2,C,?_,?_,n2,λa ha=>fr a (dM _ ha)⟩
 ·have g1:=h1.br c.ext A1 (λ_ h=>h)
  exact R.cons (A:=[]) g1 (h2.keep (iH c.ext) (fC.same (af.refl H)) gB.nil (λa ha=>by rw[out a (eB _ ha)];exact(h2.lists a ha).2) (by simp))
 ·exact s.keep (iH c.ext) (fC.same (af.refl H)) gB.nil (λa ha=>by rw[out a (dM _ ha)];exact(s.lists a ha).2) (by simp)
theorem aj.freeze(c:aj B F H σ δ ts)(e:δ[i]?=some (some d)):∃F',af F F'/\aj B F' H σ (δ.set i (some d.sh)) ts:=by
 have hi:i<δ.length:=(jr.mp e).1
 obtain⟨v,e2,c1⟩:=c.move e
 obtain⟨F',s,c2⟩:=c1.LL
 refine⟨F',s,?_⟩
 have c3:=c2.fill (i:=i) (by simp[hi]) e2
 rwa [JH]at c3
theorem aj.rebase(c:aj B F H σ δ ts):aj ⟨B.H0,F⟩ F H σ δ ts:=⟨c.ext,c.b1,af.refl _,λ_ _ q=>.inl q,c.own⟩
theorem aj.Yr{F1:Hp}(c:aj ⟨B.H0,F1⟩ F H σ δ ts)(h:af B.F0 F1)(h3:∀a ws,F1 a=some (.lst ws)->B.F0 a=some (.lst ws)\/B.H0 a=none):aj B F H σ δ ts :=
 ⟨c.ext,c.b1,h.trans c.b2,λa o q=>(c.b3 a o q).elim (h3 a o) .inr,c.own⟩
theorem aj.call(c:aj B F H σ δ ts)(hs:af H H')(hf:af F F')(he:af F' H')(h3:∀a ws,F' a=some (.lst ws)->F a=some (.lst ws)\/H a=none)(r:R F' H' [d] [v] A)(nd:A.Nodup)(fr:∀a∈A,H a=none) :
  aj B F' H' σ δ ((d,v)::ts):=by
 obtain⟨A0,C,r0,s,Ys,Yt⟩:=c.own
 have no:∀a,(∃ws,H a=some (.lst ws))/\F a=none->F' a=none:=λa zz=>by
  obtain⟨⟨ws,e⟩,n⟩:=zz
  cases q:F' a with
  | none=>rfl
  | some o =>
   have q2:H' a=some o:=by
    cases n:iF o with
    | true=>exact he.get a o q n
    | false =>
     obtain⟨ps,rfl⟩:=DQ n
     obtain⟨m,z⟩:=he.tb a ps q
     rw[hs a _ e]at z
     cases z
   rw[hs a _ e]at q2
   cases q2
   rcases h3 a ws q with z | z
   ·rw[n]at z;cases z
   ·rw[e]at z;cases z
 refine⟨he,c.b1.trans hs,c.b2.trans hf,λa o q=>(h3 a o q).elim (c.b3 a o) λz=>.inr (c.b1.free z),A++A0,C,R.cons r (r0.grow hf hs λa ha=>no a (r0.lists a ha)),
  s.keep hf (fC.same hs) gB.nil (λa ha=>no a (s.lists a ha)) (by simp),?_,?_⟩
 ·rw[eP]
  refine fW.mpr ⟨nd,Ys,λa ha hb=>?_⟩
  have z:=fr a ha
  rcases cS.mp hb with y | y
  ·obtain⟨⟨_,q⟩,_⟩:=r0.lists a y;rw[z]at q;cases q
  ·obtain⟨⟨_,q⟩,_⟩:=s.lists a y;rw[z]at q;cases q
 ·intro a ha
  rw[eP]at ha
  rcases cS.mp ha with y | y
  ·exact c.b1.free (fr a y)
  ·exact Yt a y
theorem aj.Yu(c:aj B F H σ δ ((d,v)::ts)):aj B F H (some v::σ) (some d::δ) ts:=by
 obtain⟨A,C,r,s,nd,fr⟩:=c.own
 obtain⟨w,bV,A1,A2,e',rfl,h1,h2⟩:=R.cQ r
 obtain⟨rfl,rfl⟩:=lU e'
 have pp:((A1++A2)++C).Perm (A2++(A1++C)):=by
  rw[<-eP];exact lV.append_right C
 exact⟨c.ext,c.b1,c.b2,c.b3,A2,A1++C,h2,.dQ h1 s,pp.nodup_iff.mp nd,λa ha=>fr a (pp.mem_iff.mpr ha)⟩
theorem aj.Yv{w:V}(c:aj B F H (some w::σ) (some d::δ) ts):aj B F H σ δ ((d,w)::ts):=by
 obtain⟨A,C,r,s,nd,fr⟩:=c.own
 cases s with
 | @dQ _ _ A1 _ _ C1 h1 s =>
  have pp:(A++(A1++C1)).Perm ((A1++A)++C1):=by
   rw[<-eP];exact lV.append_right C1
  exact⟨c.ext,c.b1,c.b2,c.b3,A1++A,C1,R.cons h1 r,s,pp.nodup_iff.mp nd,λa ha=>fr a (pp.mem_iff.mpr ha)⟩
theorem aj.Yw(c:aj B F H σ δ ((d,v)::(.lst true xs,.ref p)::ts))(hp:H p=some (.lst ws)):aj B F (upd H p (.lst (ws++[v]))) σ δ ((.lst true (xs++[d]),.ref p)::ts):=by
 have c1:=(c.perm (List.Perm.swap _ _ _)).Yu
 refine(aj.mut (ps:=[(d,v)]) (i:=0) (ys:=xs++[d]) (vs:=ws++[v]) c1 rfl rfl λfE A1 A2 h r1 r2 nd=>?_).Yv
 rw[hp]at h;cases h
 exact⟨A1++A2,r1.append r2,nd,λa ha=>ha⟩
theorem aj.app(c:aj B F H σ δ ((d,v)::ts))(e:δ[i]?=some (some (.lst true xs)))(e2:σ[i]?=some (some (.ref p)))(hp:H p=some (.lst ws)) :
  aj B F (upd H p (.lst (ws++[v]))) σ (δ.set i (some (.lst true (xs++[d])))) ts :=
 aj.mut (ps:=[(d,v)]) c e e2 λfE A1 A2 h r1 r2 nd=>by
  rw[hp]at h;cases h
  exact⟨A1++A2,r1.append r2,nd,λa ha=>ha⟩
theorem R.LM:∀{xs:List D} {ws:List V} {A1 A2:List Addr} (j:Nat),R F H xs ws A1->R F H [d] [v] A2->(A1++A2).Nodup->∃A',R F H (xs.set j d) (ws.set j v) A'/\A'.Nodup/\∀a∈A',a∈A1++A2
 | [],_,A1,A2,j,r,q,nd=>by cases r;exact⟨[],.nil,by simp,by simp⟩
 | x::xs,_,A1,A2,j,r,q,nd=>by
  obtain⟨w,fE,B1,B2,rfl,rfl,h1,h2⟩:=r.cQ
  rw[eP]at nd
  obtain⟨n1,n2,n3⟩:=fW.mp nd
  cases j with
  | zero =>
   refine⟨A2++B2,q.cons h2,(lV (l₁:=B2) (l₂:=A2)).nodup_iff.mp n2,λa ha=>?_⟩
   simp only[cS]at ha ⊢
   rcases ha with z | z
   ·exact .inr z
   ·exact .inl (.inr z)
  | succ j =>
   obtain⟨A',r',DT,sub⟩:=R.LM j h2 q n2
   refine⟨B1++A',h1.cons r',fW.mpr ⟨n1,DT,λa ha hb=>n3 a ha (sub a hb)⟩,λa ha=>?_⟩
   rcases cS.mp ha with z | z
   ·simp[z]
   ·have:=sub a z
    simp only[cS]at this ⊢
    rcases this with z | z
    ·exact .inl (.inr z)
    ·exact .inr z
theorem aj.Yx(c:aj B F H σ δ ((d,v)::ts))(e:δ[i]?=some (some (.lst true xs)))(e2:σ[i]?=some (some (.ref p)))(hp:H p=some (.lst ws))(j:Nat) :
  aj B F (upd H p (.lst (ws.set j v))) σ (δ.set i (some (.lst true (xs.set j d)))) ts :=
 aj.mut (ps:=[(d,v)]) c e e2 λfE A1 A2 h r1 r2 nd=>by
  rw[hp]at h;cases h
  exact r1.LM j r2 nd
theorem aj.ownAt(c:aj B F H σ δ ts)(e:δ[i]?=some (some (.lst true xs))):∃p ws,σ[i]?=some (some (.ref p))/\H p=some (.lst ws)/\xs.length=ws.length:=by
 obtain⟨v,e1,s⟩:=c.look e
 cases s with
 | own h x _=>exact⟨_,_,e1,h,x.length⟩
theorem RS.start{ds:List D}{vs:List V}(r:R F H ds vs [])(n:Nat):RS F H (ds.map some++aX n none) (vs.map some++aX n none) []:=by
 have z:∀n,RS F H (aX n none) (aX n none) []:=λn=>by
  induction n with
  | zero=>exact .nil
  | succ n ih=>exact .ao ih
 have:∀(ds:List D) (vs:List V),R F H ds vs []->RS F H (ds.map some++aX n none) (vs.map some++aX n none) []:=by
  intro ds
  induction ds with
  | nil=>intro vs r;cases r;exact z n
  | cons d ds ih =>
   intro vs r
   obtain⟨v,bV,A1,A2,rfl,e,h1,h2⟩:=r.cQ
   obtain⟨rfl,rfl⟩:=yP.mp e.symm
   exact .dQ (A:=[]) h1 (ih _ h2)
 exact this ds vs r
theorem aj.start{ds:List D}{vs:List V}(e:af F H)(r:R F H ds vs [])(n:Nat):aj ⟨H,F⟩ F H (vs.map some++aX n none) (ds.map some++aX n none) [] :=
 ⟨e,af.refl _,af.refl _,λ_ _ q=>.inl q,[],[],.nil,RS.start r n,by simp,by simp⟩
theorem aj.snap(c:aj B F H σ δ ts):aj B (L3.snap F H) H σ δ ts:=by
 obtain⟨A,C,r,s,nd,fr⟩:=c.own
 have no:∀a,(∃ws,H a=some (.lst ws))/\F a=none->L3.snap F H a=none:=λa ⟨⟨ws,e⟩,n⟩=>Yn e n
 exact⟨Yl c.ext,c.b1,c.b2.trans (pQ c.ext),λa ws q=>c.b3 a ws (Ym c.ext q),A,C,r.grow (pQ c.ext) (af.refl _) λa ha=>no a (r.lists a ha),
  s.keep (pQ c.ext) (fC.same (af.refl _)) gB.nil (λa ha=>no a (s.lists a ha)) (by simp),nd,fr⟩
end
end L3
namespace L3
open PySem L2 PySem.Spec PyProof.Rows
noncomputable abbrev aI:=Dl->(D->Dl->Prop)->Prop
noncomputable abbrev eU:=Dl->(Bool->Dl->Prop)->Prop
noncomputable abbrev bQ:=Dl->(List D->Dl->Prop)->Prop
structure pS where
 nx:Dl->Prop
 rt:D->Prop
 bk:Dl->Prop:=λ_=>False
 ct:Dl->Prop:=λ_=>False
 xc:Addr->Dl->Prop:=λ_ _=>False
 xr:Addr->Dl->Prop:=λ_ _=>False
noncomputable abbrev b9:=pS->Dl->Prop
noncomputable def lE(t:aI):TE:=λσ H Q=>∃B F δ ts Qd,aj B F H σ δ ts/\t δ Qd/\∀d ag v F' H',Qd d ag->af F F'->af H H'->aj B F' H' σ ag ((d,v)::ts)->Q v H'
noncomputable def lB(t:aI):TE:=λσ H Q=>∃B F δ ts Qd,aj B F H σ δ ts/\t δ Qd/\∀d ag v F' H',Qd d ag->af F F'->af H H'->aj B F' H' σ ag ts->S F' H' [d] [v]->Q v H'
noncomputable def lT(t:eU):TT:=λσ H Q=>∃B F δ ts Qd,aj B F H σ δ ts/\t δ Qd/\∀b ag F' H',Qd b ag->af F F'->af H H'->aj B F' H' σ ag ts->Q b H'
noncomputable def lA(t:bQ):TA:=λσ H Q=>∃B F δ ts Qd,aj B F H σ δ ts/\t δ Qd/\∀ds ag vs F' H',Qd ds ag->af F F'->af H H'->aj B F' H' σ ag ts->S F' H' ds vs->Q vs H'
noncomputable def lO(t:bQ):TA:=λσ H Q=>∃B F δ ts Qd,aj B F H σ δ ts/\t δ Qd/\∀(ps:List (D × V)) ag F' H',Qd (ps.map (·.1)) ag->af F F'->af H H'->aj B F' H' σ ag (ps++ts)->Q (ps.map (·.2)) H'
noncomputable def XL(X:Cx)(B:Bs)(Dd:pS):Prop :=
 (∀C ag pins aw F' H' s' a T,Dd.xc C ag->aj B F' H' aw ag []->Inv X pins aw H' s'->gA s'.heap a T (.ref C)->Apart X pins H' a->Apart X pins H' T->X.xe (.ref a) s') /\
 (∀C ag pins aw F' H' s' h' e vs,Dd.xr C ag->aj B F' H' aw ag []->Inv X pins aw H' s'->JE s'.heap h' e (.ref C) vs->X.xe (.ref e) { s' with heap:=h' })
theorem XL.none{X:Cx}{B:Bs}{Dd:pS}(h1:∀C δ,¬ Dd.xc C δ)(h2:∀C δ,¬ Dd.xr C δ):XL X B Dd:=⟨λC δ _ _ _ _ _ _ _ h=>absurd h (h1 C δ),λC δ _ _ _ _ _ _ _ _ h=>absurd h (h2 C δ)⟩
noncomputable def lS(X:Cx)(t:b9):TS:=λD σ H=>∃B F δ Dd,aj B F H σ δ []/\t Dd δ/\(∀ag aw F' H',Dd.nx ag->aj B F' H' aw ag []->D.nx aw H')/\(∀d v ag aw F' H',Dd.rt d->aj B F' H' aw ag [(d,v)]->D.rt v H') /\
 (∀ag aw F' H',Dd.bk ag->aj B F' H' aw ag []->D.bk aw H')/\(∀ag aw F' H',Dd.ct ag->aj B F' H' aw ag []->D.ct aw H')/\XL X B Dd
section
variable{X:Cx}{e a b c:Expr}{es:List Expr}{pos:Pos}{st:Stmt}{nE:List Stmt}
theorem cN{t t':TE}(h:PE X e t)(m:∀σ H Q,t' σ H Q->t σ H Q):PE X e t':=λpins s σ H Q I q=>h pins s σ H Q I (m σ H Q q)
theorem DW{t t':TT}(h:PT X e t)(m:∀σ H Q,t' σ H Q->t σ H Q):PT X e t':=λpins s σ H Q I q=>h pins s σ H Q I (m σ H Q q)
theorem LN{t t':TT}(h:PW X e t)(m:∀σ H Q,t' σ H Q->t σ H Q):PW X e t':=λwh pins s σ H Q I q=>h wh pins s σ H Q I (m σ H Q q)
theorem wd{t t':TA}(h:PA X es t)(m:∀σ H Q,t' σ H Q->t σ H Q):PA X es t':=λp pins s σ H Q I q=>h p pins s σ H Q I (m σ H Q q)
theorem kN{t t':TS}(h:PS X st t)(m:∀D σ H,t' D σ H->t D σ H):PS X st t':=λpins s σ H D I q=>h pins s σ H D I (m D σ H q)
theorem zS{t t':TS}(h:PSs X nE t)(m:∀D σ H,t' D σ H->t D σ H):PSs X nE t':=λpins s σ H D I q=>h pins s σ H D I (m D σ H q)
variable{t u ta tb tc:aI}
theorem aa(h:PE X e (lE t)):PE X e (lB t):=cN h λσ H Q zq=>by
 obtain⟨B,F,δ,ts,Qd,c,q,k⟩:=zq
 exact⟨B,F,δ,ts,Qd,c,q,λd ag v F' H' hd sf sh c'=>k d ag v F' H' hd sf sh c'.pop c'.top⟩
noncomputable def pU(t:aI):aI:=λδ Q=>t δ λd ag=>d.pl=true/\Q d ag
theorem di(h:PE X e (lB t)):PE X e (lE (pU t)):=cN h λσ H Q zq=>by
 obtain⟨B,F,δ,ts,Qd,c,q,k⟩:=zq
 exact⟨B,F,δ,ts,_,c,q,λd ag v F' H' hd sf sh c' s=>k d ag v F' H' hd.2 sf sh (c'.pushS s hd.1)⟩
noncomputable def nO(i:Nat):aI:=λδ Q=>match δ[i]? with
 | some (some d)=>Q d δ
 | _=>False
noncomputable def nQ(i:Nat):aI:=λδ Q=>match δ[i]? with
 | some (some d)=>Q d (δ.set i none)
 | _=>False
theorem Yy{i:Nat}{δ:Dl}{Q:D->Dl->Prop}(h:nO i δ Q):∃d,δ[i]?=some (some d)/\Q d δ:=by
 unfold nO at h
 split at h
 ·rename_i d e;exact⟨d,e,h⟩
 ·exact h.elim
theorem Yz{i:Nat}{δ:Dl}{Q:D->Dl->Prop}(h:nQ i δ Q):∃d,δ[i]?=some (some d)/\Q d (δ.set i none):=by
 unfold nQ at h
 split at h
 ·rename_i d e;exact⟨d,e,h⟩
 ·exact h.elim
noncomputable def dC(d:D):aI:=λδ Q=>Q d δ
theorem bv(i:Nat){x:Str}(hN:X.N[i]?=some x:=by rfl)(hv:mh X.env.scope x:=by first | exact ay rfl | exact cA (ay rfl) | exact cA (cA rfl))(hd:(x==("__debug__":Str))=false:=by decide)
  (cm:(x==("__classdict__":Str))=false:=by decide):PE X (.Name x pos) (lB (nO i)):=cN (rC hN hv hd cm) λσ H Q zq=>by
 obtain⟨B,F,δ,ts,Qd,c,q,k⟩:=zq
 obtain⟨d,e,q⟩:=Yy q
 obtain⟨v,e1,s⟩:=c.look e
 exact⟨v,e1,k d δ v F H q (af.refl _) (af.refl _) c s⟩
theorem em(i:Nat){x:Str}(hN:X.N[i]?=some x:=by rfl)(hv:mh X.env.scope x:=by first | exact ay rfl | exact cA (ay rfl) | exact cA (cA rfl))(hd:(x==("__debug__":Str))=false:=by decide)
  (cm:(x==("__classdict__":Str))=false:=by decide):PE X (.Name x pos) (lE (nQ i)):=cN (rC hN hv hd cm) λσ H Q zq=>by
 obtain⟨B,F,δ,ts,Qd,c,q,k⟩:=zq
 obtain⟨d,e,q⟩:=Yz q
 obtain⟨v,e1,c'⟩:=c.move e
 exact⟨v,e1,k d _ v F H q (af.refl _) (af.refl _) c'⟩
theorem zT{B:Bs}{F H:Hp}{σ:L2.St}{δ:Dl}{ts:List (D × V)}{Qd:D->Dl->Prop}{Q:VK}{d:D}{v:V}(c:aj B F H σ δ ts)(q:Qd d δ)(s:S F H [d] [v])(p:d.pl=true)
  (k:∀d ag v F' H',Qd d ag->af F F'->af H H'->aj B F' H' σ ag ((d,v)::ts)->Q v H'):Q v H:=k d δ v F H q (af.refl _) (af.refl _) (c.pushS s p)
theorem ak{i j}:PE X (.Constant (.int i) j pos) (lE (dC (.int i))):=cN vD λσ H Q ⟨B,F,δ,ts,Qd,c,q,k⟩=>zT c q (.int .nil) rfl k
theorem j3{i j}:PE X (.Constant (.bool i) j pos) (lE (dC (.bl i))):=cN Uo λσ H Q ⟨B,F,δ,ts,Qd,c,q,k⟩=>zT c q (.bl .nil) rfl k
theorem DX{j}:PE X (.Constant .none j pos) (lE (dC .ao)):=cN Up λσ H Q ⟨B,F,δ,ts,Qd,c,q,k⟩=>zT c q (.ao .nil) rfl k
theorem mD{x j}:PE X (.Constant (.str x) j pos) (lE (dC (.str x))):=cN J9 λσ H Q ⟨B,F,δ,ts,Qd,c,q,k⟩=>zT c q (.str .nil) rfl k
noncomputable abbrev cw:=D->D->(D->Prop)->Prop
noncomputable def zU(r:R2)(rd:cw):Prop:=∀{B:Bs} {F H:Hp} {σ:L2.St} {δ:Dl} {ts:List (D × V)} {x y:D} {v w:V} {Q:VK} {Qd:D->Prop},aj B F H σ δ ts->S F H [x] [v]->S F H [y] [w]->rd x y Qd ->
 (∀d z H',Qd d->af H H'->aj B F H' σ δ ((d,z)::ts)->Q z H')->r v w H Q
noncomputable def bL(X:Cx)(f:Value->Value->Sem Value)(rd:cw):Prop:=∃r,cn X f r/\zU r rd
theorem bL.or{f:Value->Value->Sem Value}{r1 r2:cw}(h1:bL X f r1)(h2:bL X f r2):bL X f λx y Q=>r1 x y Q\/r2 x y Q:=by
 obtain⟨q1,a1,b1⟩:=h1
 obtain⟨q2,a2,b2⟩:=h2
 refine⟨_,a1.or a2,λ{B F H σ δ ts x y v w Q Qd} c sx sy h k=>?_⟩
 rcases h with h | h
 ·exact .inl (b1 c sx sy h k)
 ·exact .inr (b2 c sx sy h k)
theorem bL.imp{f:Value->Value->Sem Value}{r1 r2:cw}(h1:bL X f r1)(h:∀x y Q,r2 x y Q->r1 x y Q):bL X f r2:=by
 obtain⟨q1,a1,b1⟩:=h1
 exact⟨q1,a1,λ{B F H σ δ ts x y v w Q Qd} c sx sy h2 k=>b1 c sx sy (h _ _ _ h2) k⟩
noncomputable def mE(rd:cw)(ta tb:aI):aI:=λδ Q=>ta δ λx ah=>tb ah λy aP=>rd x y λd=>Q d aP
theorem DY{r:R2}{rd:cw}(hl:zU r rd):∀σ H Q,lE (mE rd ta tb) σ H Q->vL r (lB ta) (lB tb) σ H Q:=λσ H Q ⟨B,F,δ,ts,Qd,c,q,k⟩ =>
 ⟨B,F,δ,ts,_,c,q,λx ah v F1 H1 q1 f1 h1 c1 s1=>⟨B,F1,ah,ts,_,c1,q1,λy aP w F2 H2 q2 f2 h2 c2 s2 =>
  hl c2 (s1.mono f2 h2) s2 q2 λd z H' hd hs c3=>k d aP z F2 H' hd (f1.trans f2) ((h1.trans h2).trans hs) c3⟩⟩
theorem au{op:Operator}{rd:cw}(ho:bL X (binaryOp op) rd)(ha:PE X a (lB ta))(hb:PE X b (lB tb)):PE X (.BinOp a op b pos) (lE (mE rd ta tb)):=by
 obtain⟨r,h1,h2⟩:=ho
 exact cN (vM h1 ha hb) (DY h2)
theorem zV{op:CmpOp}{rd:cw}(ho:bL X (compareOp op) rd)(ha:PE X a (lB ta))(hb:PE X b (lB tb))(hm:behindInMarks op b=false):PE X (.Compare a [op] [b] pos) (lE (mE rd ta tb)):=by
 obtain⟨r,h1,h2⟩:=ho
 exact cN (Vv h1 ha hb hm) (DY h2)
noncomputable def dT(t:aI):eU:=λδ Q=>t δ λd ag=>∃k,d=.bl k/\Q k ag
theorem YA{te:TE}(h:∀σ H Q,lE t σ H Q->te σ H Q):∀σ H Q,lT (dT t) σ H Q->Kk te σ H Q:=λσ H Q zz=>by
 obtain⟨B,F,δ,ts,Qd,c,q,k⟩:=zz
 refine h σ H _ ⟨B,F,δ,ts,_,c,q,λd ag v F' H' hd sf sh c'=>?_⟩
 obtain⟨b,rfl,qb⟩:=hd
 have s:=c'.top
 cases s with
 | bl _=>exact⟨b,rfl,k b ag F' H' qb sf sh c'.pop⟩
theorem bN{op:CmpOp}{rd:cw}(ho:bL X (compareOp op) rd)(ha:PE X a (lB ta))(hb:PE X b (lB tb))(hm:behindInMarks op b=false):PT X (.Compare a [op] [b] pos) (lT (dT (mE rd ta tb))):=by
 obtain⟨r,h1,h2⟩:=ho
 exact DW (Vw h1 ha hb hm) (YA (DY h2))
noncomputable def pV(r r':cw)(ta tb tc:aI):aI:=λδ Q=>ta δ λx ah=>tb ah λy aP=>r x y λd=>∃k,d=.bl k/\if k=true then tc aP λz g6=>r' y z λd'=>Q d' g6 else Q (.bl false) aP
theorem mF(h:PE X e (lB t))(he:∀whole,isTrue e X.env whole=(do let v<-whole;standAt e.pos;holding [v] (truthy v)):=by intro _;rfl):PT X e (lT (dT t)) :=
 DW (CY h he) λσ H Q zq=>by
 obtain⟨B,F,δ,ts,Qd,c,q,k⟩:=zq
 exact⟨B,F,δ,ts,_,c,q,λd ag v F' H' hd sf sh c' s=>by
  obtain⟨b,rfl,qb⟩:=hd
  cases s with
  | bl _=>exact⟨b,rfl,k b ag F' H' qb sf sh c'⟩⟩
variable{tA tB:eU}{rest:List Expr}
noncomputable def rS(t u:eU):eU:=λδ Q=>t δ λc ah=>if c=true then u ah Q else Q false ah
noncomputable def rT(t u:eU):eU:=λδ Q=>t δ λc ah=>if c=true then Q true ah else u ah Q
noncomputable def rV(t:eU):eU:=λδ Q=>t δ λc ah=>Q (!c) ah
theorem LO(ha:PT X a (lT tA))(hb:PW X (.BoolOp .And (b::rest) pos) (lT tB)):PW X (.BoolOp .And (a::b::rest) pos) (lT (rS tA tB)) :=
 LN (Uv ha hb) λσ H Q zq=>by
 obtain⟨B,F,δ,ts,Qd,c,q,k⟩:=zq
 exact⟨B,F,δ,ts,_,c,q,λb ah F1 H1 q1 f1 h1 c1=>by
  cases b with
  | true=>exact nH ⟨B,F1,ah,ts,Qd,c1,by simpa using q1,λb ag F' H' hd sf sh c'=>k b ag F' H' hd (f1.trans sf) (h1.trans sh) c'⟩
  | false=>exact jX (k false ah F1 H1 (by simpa using q1) f1 h1 c1)⟩
theorem pW(ha:PT X a (lT tA))(hb:PW X (.BoolOp .Or (b::rest) pos) (lT tB)):PW X (.BoolOp .Or (a::b::rest) pos) (lT (rT tA tB)) :=
 LN (Uw ha hb) λσ H Q zq=>by
 obtain⟨B,F,δ,ts,Qd,c,q,k⟩:=zq
 exact⟨B,F,δ,ts,_,c,q,λb ah F1 H1 q1 f1 h1 c1=>by
  cases b with
  | true=>exact nH (k true ah F1 H1 (by simpa using q1) f1 h1 c1)
  | false=>exact jX ⟨B,F1,ah,ts,Qd,c1,by simpa using q1,λb ag F' H' hd sf sh c'=>k b ag F' H' hd (f1.trans sf) (h1.trans sh) c'⟩⟩
theorem rW(ha:PT X a (lT tA)):PT X (.UnaryOp .Not a pos) (lT (rV tA)) :=
 DW (CZ ha) λσ H Q zq=>by
 obtain⟨B,F,δ,ts,Qd,c,q,k⟩:=zq
 exact⟨B,F,δ,ts,_,c,q,λb ah F1 H1 q1 f1 h1 c1=>k _ ah F1 H1 q1 f1 h1 c1⟩
noncomputable def rX(ta tb:aI):aI:=λδ Q=>ta δ λx ah=>∃c,x=.bl c/\if c=true then tb ah Q else Q (.bl false) ah
noncomputable def rY(ta:aI):aI:=λδ Q=>ta δ λx ah=>∃c,x=.bl c/\Q (.bl (!c)) ah
theorem pX(ha:PE X a (lB ta))(hb:PE X (.BoolOp .And (b::rest) pos) (lE tb)):PE X (.BoolOp .And (a::b::rest) pos) (lE (rX ta tb)) :=
 cN (Uz ha hb) λσ H Q zq=>by
 obtain⟨B,F,δ,ts,Qd,c,q,k⟩:=zq
 exact⟨B,F,δ,ts,_,c,q,λd ah v F1 H1 q1 f1 h1 c1 s1=>by
  obtain⟨b,rfl,qb⟩:=q1
  cases s1 with
  | bl _ =>
   refine⟨b,rfl,?_⟩
   cases b with
   | true=>exact nH ⟨B,F1,ah,ts,Qd,c1,by simpa using qb,λd ag v F' H' hd sf sh c'=>k d ag v F' H' hd (f1.trans sf) (h1.trans sh) c'⟩
   | false=>exact jX (k _ ah _ F1 H1 (by simpa using qb) f1 h1 (c1.pushS (.bl .nil) rfl))⟩
theorem YB(ha:PE X a (lB ta)):PE X (.UnaryOp .Not a pos) (lE (rY ta)) :=
 cN (UA ha) λσ H Q zq=>by
 obtain⟨B,F,δ,ts,Qd,c,q,k⟩:=zq
 exact⟨B,F,δ,ts,_,c,q,λd ah v F1 H1 q1 f1 h1 c1 s1=>by
  obtain⟨b,rfl,qb⟩:=q1
  cases s1 with
  | bl _=>exact⟨b,rfl,k _ ah _ F1 H1 qb f1 h1 (c1.pushS (.bl .nil) rfl)⟩⟩
noncomputable def rZ(t:eU)(ta tb:aI):aI:=λδ Q=>t δ λc ah=>if c=true then ta ah Q else tb ah Q
theorem YC(hc:PT X c (lT tA))(ha:PE X a (lE ta))(hb:PE X b (lE tb)):PE X (.IfExp c a b pos) (lE (rZ tA ta tb)) :=
 cN (UC hc ha hb) λσ H Q zq=>by
 obtain⟨B,F,δ,ts,Qd,c,q,k⟩:=zq
 exact⟨B,F,δ,ts,_,c,q,λb ah F1 H1 q1 f1 h1 c1=>by
  cases b with
  | true=>exact nH ⟨B,F1,ah,ts,Qd,c1,by simpa using q1,λd ag v F' H' hd sf sh c'=>k d ag v F' H' hd (f1.trans sf) (h1.trans sh) c'⟩
  | false=>exact jX ⟨B,F1,ah,ts,Qd,c1,by simpa using q1,λd ag v F' H' hd sf sh c'=>k d ag v F' H' hd (f1.trans sf) (h1.trans sh) c'⟩⟩
noncomputable def pY:bQ:=λδ Q=>Q [] δ
noncomputable def pZ(t:aI)(r:bQ):bQ:=λδ Q=>t δ λd ah=>r ah λds aP=>Q (d::ds) aP
theorem aB:PA X [] (lA pY):=wd eR λσ H Q ⟨B,F,δ,ts,Qd,c,q,k⟩=>k [] δ [] F H q (af.refl _) (af.refl _) c .nil
variable{tr:bQ}
theorem ai(ha:PE X e (lB t))(hr:PA X es (lA tr))(hs:starEach (e::es) X.env=(false,eval e X.env)::starEach es X.env:=by rfl):PA X (e::es) (lA (pZ t tr)) :=
 wd (cC ha hr hs) λσ H Q zq=>by
 obtain⟨B,F,δ,ts,Qd,c,q,k⟩:=zq
 exact⟨B,F,δ,ts,_,c,q,λd ah v F1 H1 q1 f1 h1 c1 s1=>⟨B,F1,ah,ts,_,c1,q1,λds aP vs F2 H2 q2 f2 h2 c2 s2 =>
  k (d::ds) aP (v::vs) F2 H2 q2 (f1.trans f2) (h1.trans h2) c2 ((s1.mono f2 h2).cons s2)⟩⟩
theorem dR:PA X [] (lO pY):=wd eR λσ H Q ⟨B,F,δ,ts,Qd,c,q,k⟩=>k [] δ F H q (af.refl _) (af.refl _) c
theorem cx(ha:PE X e (lE t))(hr:PA X es (lO tr))(hs:starEach (e::es) X.env=(false,eval e X.env)::starEach es X.env:=by rfl):PA X (e::es) (lO (pZ t tr)) :=
 wd (cC ha hr hs) λσ H Q zq=>by
 obtain⟨B,F,δ,ts,Qd,c,q,k⟩:=zq
 exact⟨B,F,δ,ts,_,c,q,λd ah v F1 H1 q1 f1 h1 c1=>⟨B,F1,ah,(d,v)::ts,_,c1,q1,λps aP F2 H2 q2 f2 h2 c2 =>
  k ((d,v)::ps) aP F2 H2 q2 (f1.trans f2) (h1.trans h2) (c2.perm (List.perm_middle))⟩⟩
noncomputable def se(t:bQ):aI:=λδ Q=>t δ λds ag=>ds.length<=sizeLine/\Q (.lst true ds) ag
noncomputable def sg(t:bQ):aI:=λδ Q=>t δ λds ag=>ds.length<=sizeLine/\Q (.tup ds) ag
theorem fF(h:PA X es (lO tr)):PE X (.List es pos) (lE (se tr)) :=
 cN (VZ h) λσ H Q zq=>by
 obtain⟨B,F,δ,ts,Qd,c,q,k⟩:=zq
 exact⟨B,F,δ,ts,_,c,q,λps ah F1 H1 q1 f1 h1 c1=>⟨by simpa using q1.1,λp hp=>k _ ah _ F1 _ q1.2 f1 (h1.trans (af.upd hp)) (c1.Yo hp)⟩⟩
theorem p5{x1}(h:PA X es (lO tr)):PE X (.Tuple es x1 pos) (lE (sg tr)) :=
 cN (VY h) λσ H Q zq=>by
 obtain⟨B,F,δ,ts,Qd,c,q,k⟩:=zq
 exact⟨B,F,δ,ts,_,c,q,λps ah F1 H1 q1 f1 h1 c1=>⟨by simpa using q1.1,λp hp=>k _ ah _ F1 _ q1.2 f1 (h1.trans (af.upd hp)) (c1.Yp hp)⟩⟩
end
end L3
namespace L3
open PySem L2 PySem.Spec PyProof.Rows
noncomputable abbrev bc:=List D->(D->Prop)->Prop
noncomputable def bf(sp:bc):Sp:=λvs H Q _=>∃F ds Qd,af F H/\R F H ds vs []/\sp ds Qd/\∀d v F' H' A,Qd d->af H H'->af F F'->af F' H'->(∀a ws,F' a=some (.lst ws)->F a=some (.lst ws)\/H a=none)->R F' H' [d] [v] A->A.Nodup->(∀a∈A,H a=none)->Q v H'
noncomputable def nR(sp:bc)(t:bQ):aI:=λδ Q=>t δ λds ag=>sp (ds.map D.sh) λd=>(ds.all D.pl||d.fr)=true/\Q d ag
theorem we{B:Bs}{F H:Hp}{σ:L2.St}{δ:Dl}{ts:List (D × V)}{Qd:D->Prop}{Q:VK}{E:XK}{ds:List D}{vs:List V}{sp:bc}(c:aj B F H σ δ ts)(s:S F H ds vs)(q:sp (ds.map D.sh) λd=>(ds.all D.pl||d.fr)=true/\Qd d)
  (k:∀d v F' H',Qd d->af F F'->af H H'->aj B F' H' σ δ ((d,v)::ts)->Q v H'):bf sp vs H Q E:=by
 by_cases hp:ds.all D.pl=true
 ·rw[kM hp]at q
  exact⟨F,ds,_,c.ext,s.r hp,q,λd v F' H' A hd hs hf he h3 r nd fr=>k d v F' H' hd.2 hf hs (c.call hs hf he h3 r nd fr)⟩
 ·refine⟨H,ds.map D.sh,_,af.refl _,s.frozen c.ext,q,λd v F' H' A hd hs hf he h3 r nd fr=>?_⟩
  have dE:d.fr=true:=by
   have:=hd.1
   rw[Bool.or_eq_true]at this
   exact this.resolve_left hp
  exact k d v F H' hd.2 (af.refl _) hs (c.DU hs (r.rP (by simp[dE]) (c.ext.trans hf)) nd fr)
section
variable{X:Cx}{CX:dB}{n:Nat}{f:Addr}{fd:FuncData}{ps:List Str}{sp:bc}{E:XK}{x:Str}{p pos:Pos}{e:Expr}{es:List Expr}{t:bQ}
theorem wg(F:aL X.prog X.w X.K X.mg X.base CX n f fd ps (bf sp))(hr:bI n X.A)(hg:Gl X x)(hm:X.mg x=some (.ref f))(hk:PySem.W.keepIn X.K (.ref f)=true)(hb:Binds X.K fd ps [])(hx:i5 CX X E)
  (ha:PA X (e::es) (lA t)) (cE:(x==("__debug__":Str))=false:=by decide) (he:starEach (e::es) X.env=(false,eval e X.env)::starEach es X.env:=by rfl) (bg:(backTo pos (starEach es X.env)).any (·.1)=false:=by rfl) :
  PE X (.Call (.Name x p) (e::es) [] pos) (lE (nR sp t)) :=
 cN (jw F hr hg hm hk hb .nil hx ha cE he bg) λσ H Q zq=>by
 obtain⟨B,F,δ,ts,Qd,c,q,k⟩:=zq
 exact⟨B,F,δ,ts,_,c,q,λds ah vs F1 H1 q1 f1 h1 c1 s1=>by
  show bf sp (vs++[]) H1 Q E
  rw[fO]
  exact we c1 s1 q1 λd v F' H' hd hf hs c'=>k d ah v F' H' hd (f1.trans hf) (h1.trans hs) c'⟩
end
noncomputable def i7(N:List Str)(ds:List D):Dl:=ds.map some++aX (N.length-ds.length) none
section
variable{P:Program}{w:World}{K:PySem.W.Frag}{mg:Str->Option Value}{base:Heap}
theorem bD{x qual:Str}{st:Stmt}{f:Addr}{fd:FuncData}{N ps:List Str}{k:Nat}{sp:bc}(F:aZ K x qual st f fd)(S:aY N ps (aK st))(len:∀ds Q,sp ds Q->ds.length=ps.length)
  (fm:∀(ax:Value) (A:Around) (outer:List Env) (s:Shared) (H:Hp) (E:XK),bI k (A.deeper (envOfC qual (aK st) s.heap.objs.size f ax)) ->
   ∃t:b9,PSs (fS aS P w K mg base N qual (aK st) f ax A outer s H E).fk (eD st) (lS (fS aS P w K mg base N qual (aK st) f ax A outer s H E).fk t)/\∀ds Q,sp ds Q->t { nx:=λ_=>Q .ao,rt:=Q } (i7 N ds)):aL P w K mg base aS (k+1) f fd ps (bf sp):=by
 refine F.ok S (λvs H Q E ⟨F,ds,Qd,e,r,h,_⟩=>by rw[<-r.length];exact len ds Qd h) λax A outer s H vs Q E hr zz=>?_
 obtain⟨F,ds,Qd,e,r,h,k⟩:=zz
 obtain⟨t,ht,hq⟩:=fm ax A outer s H E hr
 have fin:∀d v ag aw F' H',Qd d->aj ⟨H,F⟩ F' H' aw ag [(d,v)]->Q v H':=λd v ag aw F' H' hd c=>by
  obtain⟨A,C,r',s',nd,fr⟩:=c.own
  exact k d v F' H' A hd c.b1 c.b2 c.ext c.b3 r' (fW.mp nd).1 λa ha=>fr a (eB _ ha)
 have e1:L2.start N vs=vs.map some++aX (N.length-ds.length) none:=by unfold L2.start;rw[r.length]
 refine⟨_,ht,⟨H,F⟩,F,i7 N ds,_,?_,hq ds Qd h,λag aw F' H' hd c=>fin .ao .ao ag aw F' H' hd (c.pushS (.ao .nil) rfl),fin,λ_ _ _ _ z=>z.elim,λ_ _ _ _ z=>z.elim,XL.none (λ_ _ z=>z) λ_ _ z=>z⟩
 rw[e1]
 exact aj.start e r _
end
section
variable{X:Cx}{e a b c:Expr}{es:List Expr}{pos:Pos}{st:Stmt}{nE rest:List Stmt}{t u:b9}{te:aI}{tt:eU}
noncomputable def si:b9:=λD δ=>D.nx δ
noncomputable def LP(t u:b9):b9:=λD δ=>t { D with nx:=u D } δ
theorem aH{t u:b9}{En:pS}{δ:Dl}(h:∀U:Dl->Prop,(∀ag,u En ag->U ag)->t { En with nx:=U } δ):LP t u En δ:=h (u En) λ_ z=>z
theorem cO:PSs X [] (lS X si):=zS vF λD σ H ⟨B,F,δ,Dd,c,q,k1,_⟩=>k1 δ σ F H q c
theorem aF(h1:PS X st (lS X t))(h2:PSs X rest (lS X u)):PSs X (st::rest) (lS X (LP t u)) :=
 zS (eQ h1 h2) λD σ H zq=>by
 obtain⟨B,F,δ,Dd,c,q,k1,k2,k3,k4⟩:=zq
 exact⟨B,F,δ,{ Dd with nx:=u Dd },c,q,λag aw F' H' hq c'=>⟨B,F',ag,Dd,c',hq,k1,k2,k3,k4⟩,k2,k3,k4⟩
theorem aC(h1:PS X st (lS X t)):PSs X [st] (lS X t):=mm h1
theorem YD:PSs X nE (lS X λ_ _=>False):=zS UL λD σ H ⟨_,_,_,_,_,q,_⟩=>q.elim
noncomputable def p7(i:Nat)(t:b9):b9:=λD δ=>∃d,δ[i]?=some (some d)/\t D (δ.set i (some d.sh))
theorem LQ(i:Nat)(h:PSs X nE (lS X t)):PSs X nE (lS X (p7 i t)):=zS h λD σ H zz=>by
 obtain⟨B,F,δ,Dd,c,⟨d,e,q⟩,k⟩:=zz
 obtain⟨F',s,c'⟩:=c.freeze e
 exact⟨B,F',_,Dd,c',q,k⟩
noncomputable def p8(i:Nat)(t:aI):b9:=λD δ=>t δ λd ag=>D.nx (ag.set i (some d))
theorem aW{i:Nat}{x:Str}{pos':Pos}(hN:X.N.Nodup)(hi:X.N[i]?=some x)(hx:Loc X.env.scope x)(he:PE X e (lE te))(hs:swapsWith e (some (.Name x pos')) pos.line X.env=pure false:=by rfl)
  (hf:X.fn x=true\/X.env.scope.names.lookup x=some .local:=by first | exact .inl rfl | exact .inr rfl | assumption):PS X (.Assign [.Name x pos'] e pos) (lS X (p8 i te)) :=
 kN (C7 hN hi hx he hs hf) λD σ H zq=>by
 obtain⟨B,F,δ,Dd,c,q,k1,k2,k3,k4⟩:=zq
 exact⟨B,F,δ,[],_,c,q,λd ag v F' H' hd sf sh c'=>k1 _ _ F' H' hd (c'.store i)⟩
noncomputable def sj(t:aI):b9:=λD δ=>t δ λd _=>D.rt d
theorem aV(he:PE X e (lE te)):PS X (.Return (some e) pos) (lS X (sj te)) :=
 kN (UJ he) λD σ H zq=>by
 obtain⟨B,F,δ,Dd,c,q,k1,k2,k3,k4⟩:=zq
 exact⟨B,F,δ,[],_,c,q,λd ag v F' H' hd sf sh c'=>k2 d v ag σ F' H' hd c'⟩
noncomputable def sk(tc:eU)(t u:b9):b9:=λD δ=>tc δ λb ag=>if b=true then t D ag else u D ag
theorem cI{l r:List Stmt}(hc:PT X c (lT tt))(ha:PSs X l (lS X t))(hb:PSs X r (lS X u)):PS X (.If c l r pos) (lS X (sk tt t u)) :=
 kN (zu hc ha hb) λD σ H zq=>by
 obtain⟨B,F,δ,Dd,c,q,k⟩:=zq
 exact⟨B,F,δ,[],_,c,q,λb ag F' H' hq sf sh c'=>by
  cases b with
  | true=>exact nH ⟨B,F',ag,Dd,c',by simpa using hq,k⟩
  | false=>exact jX ⟨B,F',ag,Dd,c',by simpa using hq,k⟩⟩
noncomputable def sq(i:Nat)(rd:cw)(t:aI):b9:=λD δ=>∃x,δ[i]?=some (some x)/\t δ λy ah=>rd x y λz=>D.nx (ah.set i (some z))
theorem wj{i:Nat}{x:Str}{op:Operator}{rd:cw}{pos':Pos}(hN:X.N.Nodup)(hi:X.N[i]?=some x)(hx:Loc X.env.scope x)(he:PE X e (lB te))(ho:bL X (inplaceOp op) rd)
  (hf:X.fn x=true\/X.env.scope.names.lookup x=some .local:=by first | exact .inl rfl | exact .inr rfl | assumption):PS X (.AugAssign (.Name x pos') op e pos) (lS X (sq i rd te)):=by
 obtain⟨r,h1,h2⟩:=ho
 refine kN (UX hN hi hx he (ti:=r) h1 hf) λD σ H zz=>?_
 obtain⟨B,F,δ,Dd,c,⟨d0,e0,q⟩,k1,k2,k3,k4⟩:=zz
 obtain⟨v0,e1,s0⟩:=c.look e0
 exact⟨v0,e1,B,F,δ,[],_,c,q,λd ag v F' H' hd sf sh c' s=>h2 c' (s0.mono sf sh) s hd λz w H2 hz h3 c3=>k1 _ _ F' H2 hz (c3.store i)⟩
noncomputable def sr(tc:eU)(tb:b9):b9:=λD δ=>∃W:Nat->Dl->Prop,(∃m,W m δ)/\∀m δ,W m δ->tc δ λb ag=>if b=true then tb { D with nx:=λag=>∃m',m'<m/\W m' ag,ct:=λag=>∃m',m'<m/\W m' ag,bk:=D.nx } ag else D.nx ag
theorem su{body:List Stmt}(hp:PassesOwn (model X.prog X.w) X.A X.env X.xe)(hc:PT X c (lT tt))(hb:PSs X body (lS X t)):PS X (.While c body [] pos) (lS X (sr tt t)) :=
 kN (U1 hp hc hb) λD σ H zz=>by
  obtain⟨B,F,δ,Dd,c,⟨W,⟨m0,w0⟩,hw⟩,k1,k2,k3,k4⟩:=zz
  refine⟨λm σ H=>∃F δ,aj B F H σ δ []/\W m δ,⟨m0,F,δ,c,w0⟩,λm σ H ⟨F,δ,c,w⟩=>⟨B,F,δ,[],_,c,hw m δ w,λb ag F' H' hq sf sh c'=>?_⟩⟩
  cases b with
  | true =>
   refine nH ⟨λaw H'=>∃m',m'<m/\∃F δ,aj B F H' aw δ []/\W m' δ,λaw H' z=>z,B,F',ag,{ Dd with nx:=λag=>∃m',m'<m/\W m' ag,ct:=λag=>∃m',m'<m/\W m' ag,bk:=Dd.nx },c',by simpa using hq,λaP i4 F2 H2 ⟨m',hm,w2⟩ c2=>⟨m',hm,F2,aP,c2,w2⟩,k2,λaP i4 F2 H2 z c2=>k1 aP i4 F2 H2 z c2,λaP i4 F2 H2 ⟨m',hm,w2⟩ c2=>⟨m',hm,F2,aP,c2,w2⟩,k4.2⟩
  | false=>exact jX (k1 ag σ F' H' (by simpa using hq) c')
end
structure JD(J:It)(F:Hp)(xs:List D):Prop where
 go:∀i H,af F H->i<xs.length->J.go i H
 jv:∀i H x H',af F H->i<xs.length->J.jv i H x H'->∃d,xs[i]?=some d/\af H H'/\R F H' [d] [x] []
 stop:∀i H,af F H->xs.length<=i->J.stop i H
noncomputable abbrev iJ:=Dl->(Bool->List D->Dl->Prop)->Prop
noncomputable def lI(t:iJ):TI:=λσ H Rr=>∃B F δ ts Qd,aj B F H σ δ ts/\t δ Qd/\∀g xs ag J F' H',Qd g xs ag->af F F'->af H H'->aj B F' H' σ ag ts->JD J H' (xs.map D.sh)->(g=true->xs.all D.pl=true/\JD J F' xs)->Rr J H'
noncomputable abbrev gC:=D->Dl->(Dl->Prop)->Prop
noncomputable def lG(m:Nat)(t:gC):TG:=λv σ H Q=>∃B F δ ts d Qd,aj B F H σ δ ((d,v)::ts)/\t d δ Qd/\∀ag aw,Qd ag->aw.length=σ.length->(∀j,j<m->aw[j]?=σ[j]?)->aj B F H aw ag ts->Q aw H
noncomputable def jy:D->Option (List D)
 | .lst _ xs=>some xs
 | .fz xs=>some xs
 | _=>none
section
variable{B:Bs}{F H F1:Hp}{σ:L2.St}{δ:Dl}{ts:List (D × V)}
end
section
variable{X:Cx}{e a b c tg l iter:Expr}{es:List Expr}{pos:Pos}{t u:b9}{te:aI}{tt:eU}{ta:bQ}{m:Nat}
theorem sA{w w':TI}(h:PI X tg iter w)(m:∀σ H Q,w' σ H Q->w σ H Q):PI X tg iter w':=λpins s σ H Q I q=>h pins s σ H Q I (m σ H Q q)
theorem LR{w w':TG}(h:PG X tg w)(m:∀v σ H Q,w' v σ H Q->w v σ H Q):PG X tg w':=λpins s σ H v u Q I r q=>h pins s σ H v u Q I r (m v σ H Q q)
noncomputable def gN(i:Nat):gC:=λd δ Q=>Q (δ.set i (some d))
theorem jz{i:Nat}{x:Str}(hN:X.N.Nodup)(hi:X.N[i]?=some x)(hx:Loc X.env.scope x)(hm:m<=i:=by decide)(hf:X.fn x=true\/X.env.scope.names.lookup x=some .local:=by first | exact .inl rfl | exact .inr rfl | assumption):PG X (.Name x pos) (lG m (gN i)) :=
 LR (zy hN hi hx hf) λv σ H Q ⟨B,F,δ,ts,d,Qd,c,q,k⟩=>k _ _ q (by simp) (λj hj=>by rw[oO (by omega)]) (c.store i)
theorem mG{K:PySem.W.Frag}{F H:Hp}{p:Addr}{xs:List D}{ws:List V}(hp:Rd F p (.lst ws))(r:R F H xs ws [])(hF:Full F H):JD (C9 K p) F xs where
 go:=λi H' hs hi=>by
  have l:=r.length
  have iB:i<ws.length:=by omega
  exact⟨ws,ws[i],.inl (g5 hp hs),aT iB⟩
 jv:=λi H' x H2 hs hi zz=>by
  obtain⟨e,y⟩:=zz
  subst e
  have hx:=y ws (.inl (g5 hp hs))
  obtain⟨v,A1,e2,r1,sub⟩:=(r.full hF hs rfl).get (aT hi)
  rw[hx]at e2;cases e2
  have:A1=[]:=TN.mpr λa ha=>by simpa using sub ha
  subst this
  exact⟨_,aT hi,af.refl _,r1⟩
 stop:=λi H' hs hi=>⟨ws,.inl (g5 hp hs),by have:=r.length;omega⟩
theorem zW{F:Hp}(lo:Int)(n:Nat):JD (vG lo n) F ((aJ n).map λ(k:Nat)=>D.int (lo+(k:Int))) where
 go:=λi H' hs hi=>by
  have iB:i<n:=by simpa using hi
  exact iB
 jv:=λi H' x H2 hs hi zz=>by
  obtain⟨e,y⟩:=zz
  subst e y
  have iB:i<n:=by simpa using hi
  exact⟨.int (lo+i),by simp[kr iB],af.refl _,.int .nil⟩
 stop:=λi H' hs hi=>by
  have iB:n<=i:=by simpa using hi
  exact iB
noncomputable def sC(t:aI):iJ:=λδ Q=>t δ λd ag=>∃xs,jy d=some xs/\Q true (xs.map D.sh) ag
theorem YE(xs:List D){F H:Hp}{ws:List V}(r:R F H (xs.map D.sh) ws []):(xs.map D.sh).map D.sh=xs.map D.sh:=kM r.pl
theorem LS(h:PE X l (lE te)):PI X tg l (lI (sC te)) :=
 sA (Ki h) λσ H Q zq=>by
 obtain⟨B,F,δ,ts,Qd,c,q,k⟩:=zq
 exact⟨B,F,δ,ts,_,c,q,λd ah v F1 H1 hd f1 h1 c1=>by
  obtain⟨xs,e,hq⟩:=hd
  obtain⟨F2,f2,c2⟩:=c1.LL
  have tp:=c2.top
  have c3:=c2.pop.snap
  have e2:=c2.ext
  have sn:=pQ e2
  cases d with
  | lst o ys =>
   obtain rfl:=cX e
   rw[eT]at tp
   cases tp with
   | @shr p ws _ _ _ hp r _ =>
    have r3:=r.shared sn (af.refl _)
    refine⟨p,rfl,⟨ws,bH.of (e2 _ _ hp)⟩,k true _ ah _ _ H1 hq ((f1.trans f2).trans sn) h1 c3 ?_ λ_=>⟨r.pl,mG (.inl (sn _ _ hp)) r3 rQ⟩⟩
    rw[YE _ r]
    exact mG (.inl (e2 _ _ hp)) (r.shared e2 (af.refl _)) (Full.refl _)
  | fz ys =>
   obtain rfl:=cX e
   cases tp with
   | @fz p o ws _ _ _ hp r _ =>
    have r3:=r.shared sn (af.refl _)
    have es:=kM r.pl
    rw[es]at hq
    refine⟨p,rfl,⟨ws,.inl (.inr ⟨o,e2 _ _ hp⟩)⟩,k true _ ah _ _ H1 hq ((f1.trans f2).trans sn) h1 c3 ?_ λ_=>⟨r.pl,mG (.inr ⟨o,sn _ _ hp⟩) r3 rQ⟩⟩
    rw[es]
    exact mG (.inr ⟨o,e2 _ _ hp⟩) (r.shared e2 (af.refl _)) (Full.refl _)
  | ao=>cases e
  | bl _=>cases e
  | int _=>cases e
  | str _=>cases e
  | tup _=>cases e
  | obj _ _ _=>cases e
  | bu _=>cases e⟩
noncomputable def sD(t:aI):iJ:=λδ Q=>t δ λd ag=>∃xs,jy d=some xs/\Q d.pl xs ag
theorem p9(h:PE X l (lB te)):PI X tg l (lI (sD te)) :=
 sA (Ki h) λσ H Q zq=>by
 obtain⟨B,F,δ,ts,Qd,c,q,k⟩:=zq
 exact⟨B,F,δ,ts,_,c,q,λd ah v F1 H1 hd f1 h1 c1 s=>by
  obtain⟨xs,e,hq⟩:=hd
  have c3:=c1.snap
  have e2:=c1.ext
  have sn:=pQ e2
  cases s with
  | @shr p ws ys _ _ hp r _ =>
   obtain rfl:=cX e
   refine⟨p,rfl,⟨ws,bH.of (e2 _ _ hp)⟩,k _ _ ah _ _ H1 hq (f1.trans sn) h1 c3 ?_ λ_=>⟨r.pl,mG (.inl (sn _ _ hp)) (r.shared sn (af.refl _)) rQ⟩⟩
   rw[kM r.pl]
   exact mG (.inl (e2 _ _ hp)) (r.shared e2 (af.refl _)) (Full.refl _)
  | @own p ws ys _ _ hp r _ =>
   obtain rfl:=cX e
   refine⟨p,rfl,⟨ws,bH.of hp⟩,k _ _ ah _ _ H1 hq (f1.trans sn) h1 c3 (mG (.inl hp) (r.frozen e2) (Full.refl _)) λz=>by simp[iG]at z⟩
  | @fz p o ws ys _ _ hp r _ =>
   obtain rfl:=cX e
   refine⟨p,rfl,⟨ws,.inl (.inr ⟨o,e2 _ _ hp⟩)⟩,k _ _ ah _ _ H1 hq (f1.trans sn) h1 c3 ?_ λ_=>⟨r.pl,mG (.inr ⟨o,sn _ _ hp⟩) (r.shared sn (af.refl _)) rQ⟩⟩
   rw[kM r.pl]
   exact mG (.inr ⟨o,e2 _ _ hp⟩) (r.shared e2 (af.refl _)) (Full.refl _)
  | ao _=>cases e
  | bl _=>cases e
  | int _=>cases e
  | str _=>cases e
  | tup _ _ _=>cases e
  | obj _ _ _ _=>cases e
  | bu _ _=>cases e⟩
theorem wk(f:Nat->Int)(l:List Nat):(l.map λk=>D.int (f k)).map D.sh=l.map λk=>D.int (f k):=by simp[D.sh]
theorem LU(f:Nat->Int)(l:List Nat):(l.map λk=>D.int (f k)).all D.pl=true:=by simp[D.pl]
noncomputable def sE(t:bQ):iJ:=λδ Q=>t δ λds ag=>∃j:Int,ds=[.int j]/\(-(2 ^ 62)<=j/\j<2 ^ 62)/\Q true ((aJ j.toNat).map λ(k:Nat)=>D.int (0+(k:Int))) ag
theorem kO{p:Pos}(hg:Gl X "range")(hm:X.mg "range"=none)(ha:PA X [a] (lA ta))(hs:starEach [a] X.env=[(false,eval a X.env)]:=by rfl):PI X tg (.Call (.Name "range" p) [a] [] pos) (lI (sE ta)) :=
 sA (U7 hg hm ha hs) λσ H Q zq=>by
 obtain⟨B,F,δ,ts,Qd,c,q,k⟩:=zq
 exact⟨B,F,δ,ts,_,c,q,λds ah vs F1 H1 hd f1 h1 c1 s=>by
  obtain⟨j,rfl,⟨b1,b2⟩,hq⟩:=hd
  cases s with
  | int s =>
   cases s
   refine⟨j,rfl,b1,b2,k true _ ah _ _ H1 hq f1 h1 c1 ?_ λ_=>⟨LU _ _,zW 0 _⟩⟩
   rw[wk]
   exact zW 0 _⟩
noncomputable def sF(t:bQ):iJ:=λδ Q=>t δ λds ag=>∃i j:Int,ds=[.int i,.int j]/\(-(2 ^ 62)<=i/\i<2 ^ 62/\-(2 ^ 62)<=j/\j<2 ^ 62)/\Q true ((aJ (j-i).toNat).map λ(k:Nat)=>D.int (i+(k:Int))) ag
theorem wm{p:Pos}(hg:Gl X "range")(hm:X.mg "range"=none)(ha:PA X [a,b] (lA ta))(hs:starEach [a,b] X.env=[(false,eval a X.env),(false,eval b X.env)]:=by rfl)(dW:starEach [b] X.env=[(false,eval b X.env)]:=by rfl) :
  PI X tg (.Call (.Name "range" p) [a,b] [] pos) (lI (sF ta)) :=
 sA (U8 hg hm ha hs dW) λσ H Q zq=>by
 obtain⟨B,F,δ,ts,Qd,c,q,k⟩:=zq
 exact⟨B,F,δ,ts,_,c,q,λds ah vs F1 H1 hd f1 h1 c1 s=>by
  obtain⟨i,j,rfl,bd,hq⟩:=hd
  cases s with
  | int s =>
   cases s with
   | int s =>
    cases s
    refine⟨i,j,rfl,bd,k true _ ah _ _ H1 hq f1 h1 c1 ?_ λ_=>⟨LU _ _,zW i _⟩⟩
    rw[wk]
    exact zW i _⟩
noncomputable def g7(xs:List D)(g:gC)(tb:b9):b9:=λEn ah=>∃Iv:Nat->Dl->Prop,Iv 0 ah /\
 (∀i d ag,xs[i]?=some d->Iv i ag->g d ag λaP=>tb { En with nx:=Iv (i+1),ct:=Iv (i+1),bk:=En.nx } aP)/\∀ag,Iv xs.length ag->En.nx ag
theorem g7.mk{xs:List D}{g:gC}{tb:b9}{En:pS}{δ:Dl}(Iv:Nat->Dl->Prop)(h0:Iv 0 δ)(ht:∀i d ag,xs[i]?=some d->Iv i ag->g d ag λaP=>tb { En with nx:=Iv (i+1),ct:=Iv (i+1),bk:=En.nx } aP)
  (hf:∀ag,Iv xs.length ag->En.nx ag):g7 xs g tb En δ:=⟨Iv,h0,ht,hf⟩
noncomputable def sG(ti:iJ)(g:gC)(tb:b9):b9:=λEn δ=>ti δ λsh xs ah=>sh=true/\g7 xs g tb En ah
theorem iK{ti:iJ}{g:gC}{body:List Stmt}(hp:PassesOwn (model X.prog X.w) X.A X.env X.xe)(hc:X.calm=true)(hi:PI X tg iter (lI ti))(hg:PG X tg (lG 0 g))(hb:PSs X body (lS X t))
  (hs:∀x,foldedSetIterable iter X.env x=pure x:=by intro _;rfl):PS X (.For tg iter body [] pos) (lS X (sG ti g t)) :=
 kN (Vb hp hc hi hg hb hs) λEn σ H zq=>by
 obtain⟨B,F,δ,Dd,c,q,k1,k2,k3,k4⟩:=zq
 exact⟨B,F,δ,[],_,c,q,λsh xs ah J F1 H1 hq f1 h1 c1 _ jd=>by
  obtain⟨vT,Iv,i0,turn,fin⟩:=hq
  obtain⟨bg,jd⟩:=jd vT
  have un:∀{F' H':Hp} {aw:L2.St} {ag:Dl} {ts:List (D × V)},aj ⟨B.H0,F1⟩ F' H' aw ag ts->aj B F' H' aw ag ts:=λc'=>c'.Yr c1.b2 c1.b3
  refine⟨λi m σ H=>m=xs.length-i/\i<=xs.length/\∃F δ,aj ⟨B.H0,F1⟩ F H σ δ []/\Iv i δ,⟨_,rfl,nr _,F1,ah,c1.rebase,i0⟩,?_⟩
  rintro i m i4 H2 ⟨rfl,hi,F2,aP,c2,iv⟩
  have s2:af F1 H2:=c2.b2.trans c2.ext
  by_cases fV:i<xs.length
  ·refine .inr ⟨jd.go i H2 s2 fV,λaw H'=>∃F δ,aj ⟨B.H0,F1⟩ F H' aw δ []/\Iv (i+1) δ,λaw H' z=>⟨xs.length-(i+1),by omega,rfl,fV,z⟩,λx H3 y=>?_⟩
   obtain⟨d,e,s3,r⟩:=jd.jv i H2 x H3 s2 fV y
   have c3:=(c2.grow s3).pushS (d:=d) (v:=x) ((r.s).mono c2.b2 (af.refl _)) (by have:=r.pl;simpa using this)
   refine⟨⟨B.H0,F1⟩,F2,aP,[],d,_,c3,turn i d aP e iv,λag aw hq _ _ c4=>?_⟩
   exact⟨⟨B.H0,F1⟩,F2,ag,_,c4,hq,λi8 mH F5 H5 h5 c5=>⟨F5,i8,c5,h5⟩,λd5 v5 i8 mH F5 H5 h5 c5=>k2 d5 v5 i8 mH F5 H5 h5 (un c5),λi8 mH F5 H5 h5 c5=>k1 i8 mH F5 H5 h5 (un c5),λi8 mH F5 H5 h5 c5=>⟨F5,i8,c5,h5⟩,⟨λC i8 pins mH F5 H5 s5 a T h5 c5=>k4.2.1 C i8 pins mH F5 H5 s5 a T h5 (un c5),λC i8 pins mH F5 H5 s5 h' e vs h5 c5=>k4.2.2 C i8 pins mH F5 H5 s5 h' e vs h5 (un c5)⟩⟩
  ·have e:i=xs.length:=by omega
   subst e
   exact .inl ⟨jd.stop _ H2 s2 (bG _),k1 aP i4 F2 H2 (fin aP iv) (un c2)⟩⟩
end
end L3
namespace L3
open PySem L2 PySem.Spec PyProof.Rows
noncomputable def i9(δ:Dl)(q:Str × Nat):Option D:=(δ[q.2]?).getD none
noncomputable def iM(δ:Dl)(q:Str × Nat):Bool:=match i9 δ q with
 | some d=>d.pl
 | none=>true
noncomputable def fu(av:List (Str × Nat))(n:Nat)(δ:Dl):Dl:=(av.map λq=>(i9 δ q).map D.sh)++aX n none
noncomputable def sH(sh:Bool)(xs:List D)(av:List (Str × Nat))(n:Nat)(g:gC)(tt:eU)(te:aI)(ah:Dl)(Q:D->Dl->Prop):Prop:=∃(p:D->Bool) (f:D->D),
 (∀x∈xs.map D.sh,g x (fu av n ah) λaP=>tt aP λb g6=>b=p x/\(p x=true->te g6 λd _=>d=f x)) /\
 ((sh&&av.all (iM ah))=true\/∀x∈xs.map D.sh,p x=true->(f x).fr=true)/\xs.length<=sizeLine/\Q (.lst true (((xs.map D.sh).filter p).map f)) ah
noncomputable def nS(ti:iJ)(av:List (Str × Nat))(n:Nat)(g:gC)(tt:eU)(te:aI):aI:=λδ Q=>ti δ λsh xs ah=>sH sh xs av n g tt te ah Q
noncomputable def kP:eU:=λδ Q=>Q true δ
theorem YF{sh:Bool}{xs:List D}{av:List (Str × Nat)}{n m:Nat}{te:aI}{ah:Dl}{Q:D->Dl->Prop}(f:D->D)(hx:∀x∈xs.map D.sh,te ((fu av n ah).set m (some x)) λd _=>d=f x)
  (dE:(sh&&av.all (iM ah))=true\/∀x∈xs.map D.sh,(f x).fr=true) (hl:xs.length<=sizeLine) (hq:Q (.lst true ((xs.map D.sh).map f)) ah):sH sh xs av n (gN m) kP te ah Q :=
 ⟨λ_=>true,f,λx h=>⟨rfl,λ_=>hx x h⟩,dE.imp id λh x hx _=>h x hx,hl,by rw[JI.mpr (λ_ _=>rfl)];exact hq⟩
section
variable{B:Bs}{F H:Hp}{σ:L2.St}{δ:Dl}{ts:List (D × V)}
theorem LV(c:aj B F H σ δ ts)(n:Nat):∀(av:List (Str × Nat)),av.all (iM δ)=true->RS F H (fu av n δ) (gz av n σ) []
 | [],_=>by
  have z:∀n,RS F H (aX n none) (aX n none) []:=λn=>by
   induction n with
   | zero=>exact .nil
   | succ n ih=>exact .ao ih
  exact z n
 | q::r,h=>by
  rw[dO,dz]at h
  have ih:=LV c n r h.2
  show RS F H ((i9 δ q).map D.sh::fu r n δ) ((σ[q.2]?).getD none::gz r n σ) []
  cases e:i9 δ q with
  | none=>exact .ao ih
  | some d =>
   have e2:δ[q.2]?=some (some d):=by
    unfold i9 at e
    cases z:δ[q.2]? with
    | none=>rw[z]at e;cases e
    | some o=>rw[z]at e;exact congrArg some e
   have hp:d.pl=true:=by have:=h.1;unfold iM at this;rw[e]at this;exact this
   obtain⟨v,e3,s⟩:=c.look e2
   rw[e3]
   show RS F H (some d.sh::_) (some v::_) []
   rw[D.zR hp]
   exact .dQ (A:=[]) (s.r (by simp[hp])) ih
theorem LW(c:aj B F H σ δ ts)(n:Nat):∀(av:List (Str × Nat)),RS H H (fu av n δ) (gz av n σ) []
 | []=>by
  have z:∀n,RS H H (aX n none) (aX n none) []:=λn=>by
   induction n with
   | zero=>exact .nil
   | succ n ih=>exact .ao ih
  exact z n
 | q::r=>by
  have ih:=LW c n r
  show RS H H ((i9 δ q).map D.sh::fu r n δ) ((σ[q.2]?).getD none::gz r n σ) []
  cases e:i9 δ q with
  | none=>exact .ao ih
  | some d =>
   have e2:δ[q.2]?=some (some d):=by
    unfold i9 at e
    cases z:δ[q.2]? with
    | none=>rw[z]at e;cases e
    | some o=>rw[z]at e;exact congrArg some e
   obtain⟨v,e3,s⟩:=c.look e2
   rw[e3]
   exact .dQ (A:=[]) (s.frozen c.ext) ih
theorem LX{α:Type}(xs:List α)(p:α->Bool)(i:Nat)(x:α)(h:xs[i]?=some x):(xs.take (i+1)).filter p=(xs.take i).filter p++(if p x=true then [x]else []):=by
 rw[oX,h,TQ]
 simp only[Option.toList_some]
 by_cases hp:p x=true<;>simp[hp]
end
section
variable{X:Cx}{elt iter tg:Expr}{pos:Pos}{ifs:List Expr}{scope:Scope}{cl:List (Str × Addr)}{ti:iJ}{tt:eU}{te:aI}{g:gC}
theorem DZ{B:Bs}{F1 H1:Hp}{σ:L2.St}{ah:Dl}{ts:List (D × V)}{J:It}{Qd:D->Dl->Prop}{Q:VK}{xs:List D}{sh:Bool}{av:List (Str × Nat)}{n:Nat}(c1:aj B F1 H1 σ ah ts)
  (mI:JD J H1 (xs.map D.sh)) (qa:sh=true->xs.all D.pl=true/\JD J F1 xs) (p:D->Bool) (f:D->D)
  (hx:∀x∈xs.map D.sh,g x (fu av n ah) λaP=>tt aP λb g6=>b=p x/\(p x=true->te g6 λd _=>d=f x))
  (dE:(sh&&av.all (iM ah))=true\/∀x∈xs.map D.sh,p x=true->(f x).fr=true) (hlen:xs.length<=sizeLine) (hq:Qd (.lst true (((xs.map D.sh).filter p).map f)) ah)
  (k:∀d ag v F' H',Qd d ag->af F1 F'->af H1 H'->aj B F' H' σ ag ((d,v)::ts)->Q v H'):Lo J av n (lG av.length g) (lT tt) (lE te) σ H1 Q:=by
 intro Dp hD
 have cD:aj B F1 (upd H1 Dp (.lst [])) σ ah ((.lst true [],.ref Dp)::ts):=c1.mC hD .nil rfl
 refine⟨λi m acc H2=>m=xs.length-i/\i<=xs.length/\H2 Dp=some (.lst acc)/\af H1 H2/\acc.length<=i/\∃F2,af F1 F2 /\
  aj B F2 H2 σ ah ((.lst true ((((xs.map D.sh).take i).filter p).map f),.ref Dp)::ts),⟨xs.length,rfl,nr _,bA,af.upd hD,bG _,F1,af.refl _,by simpa using cD⟩,?_⟩
 rintro i m acc H2 ⟨rfl,hi,wo,wq,YG,F2,mJ,c2⟩
 refine⟨wo,?_⟩
 by_cases fV:i<xs.length
 case neg =>
  have e:i=xs.length:=by omega
  subst e
  refine .inl ⟨mI.stop _ H2 wq (by simp),k _ ah _ F2 H2 ?_ mJ wq c2⟩
  have:(xs.map D.sh).take xs.length=xs.map D.sh:=by rw[JJ (by simp)]
  rw[this]
  exact hq
 case pos =>
  refine .inr ⟨mI.go i H2 wq (by simpa using fV),λx H3 y=>?_⟩
  obtain⟨d0,e0,D0,r0⟩:=mI.jv i H2 x H3 wq (by simpa using fV) y
  have LY:d0∈xs.map D.sh:=q9 e0
  have LZ:H3 Dp=some (.lst acc):=D0 _ _ wo
  have c3:=c2.grow D0
  have D1:=wq.trans D0
  refine⟨LZ,?_⟩
  have jA:=hx d0 LY
  have turn:∀Fi,af Fi H3->RS Fi H3 (fu av n ah) (gz av n σ) []->S Fi H3 [d0] [x]->d0.pl=true ->
    (∀d v F' H' A,d=f d0->p d0=true->af H3 H'->af Fi F'->af F' H'->(∀a ws,F' a=some (.lst ws)->Fi a=some (.lst ws)\/H3 a=none)->R F' H' [d] [v] A->A.Nodup->(∀a∈A,H3 a=none) ->
     ∃F4,af F2 F4/\aj B F4 H' σ ah ((d,v)::(.lst true ((((xs.map D.sh).take i).filter p).map f),.ref Dp)::ts)) ->
    lG av.length g x (gz av n σ) H3 λfP H4 =>
     (fP.length=(gz av n σ).length/\∀j,j<av.length->fP[j]?=(gz av n σ)[j]?)/\lT tt fP H4 λb H5=>H5 Dp=some (.lst acc) /\
     if b=true then lE te fP H5 λy H6=>H6 Dp=some (.lst acc)/\acc.length<sizeLine/\∃m',m'<xs.length-i /\
      (m'=xs.length-(i+1)/\i+1<=xs.length/\upd H6 Dp (.lst (acc++[y])) Dp=some (.lst (acc++[y]))/\af H1 (upd H6 Dp (.lst (acc++[y])))/\(acc++[y]).length<=i+1/\∃F2,af F1 F2 /\
       aj B F2 (upd H6 Dp (.lst (acc++[y]))) σ ah ((.lst true ((((xs.map D.sh).take (i+1)).filter p).map f),.ref Dp)::ts))
     else ∃m',m'<xs.length-i/\(m'=xs.length-(i+1)/\i+1<=xs.length/\H5 Dp=some (.lst acc)/\af H1 H5/\acc.length<=i+1/\∃F2,af F1 F2 /\
       aj B F2 H5 σ ah ((.lst true ((((xs.map D.sh).take (i+1)).filter p).map f),.ref Dp)::ts)):=by
   intro Fi YH YI hS bg back
   have ci:aj ⟨H3,Fi⟩ Fi H3 (gz av n σ) (fu av n ah) []:=⟨YH,af.refl _,af.refl _,λ_ _ q=>.inl q,[],[],.nil,YI,by simp,by simp⟩
   refine⟨⟨H3,Fi⟩,Fi,fu av n ah,[],d0,_,ci.pushS hS bg,jA,λag fP YJ l1 k1 c4=>⟨⟨l1,k1⟩,⟨H3,Fi⟩,Fi,ag,[],_,c4,YJ,λb i8 F5 H5 hb f5 h5 c5=>?_⟩⟩
   obtain⟨hb,ht⟩:=hb
   have zX:H5 Dp=some (.lst acc):=h5 _ _ LZ
   refine⟨zX,?_⟩
   by_cases hp:p d0=true
   ·rw[hb,hp]
    refine nH ⟨⟨H3,Fi⟩,F5,i8,[],_,c5,ht hp,λd δ6 v F6 H6 hd f6 h6 c6=>?_⟩
    have L4:H6 Dp=some (.lst acc):=h6 _ _ zX
    obtain⟨A,C,r,s,nd,fr⟩:=c6.own
    obtain⟨F4,wt,c7⟩:=back d v F6 H6 A hd hp c6.b1 c6.b2 c6.ext c6.b3 r (fW.mp nd).1 λa ha=>fr a (eB _ ha)
    have c8:=c7.Yw L4
    refine⟨L4,by omega,xs.length-(i+1),by omega,rfl,fV,bA,?_,by simpa using YG,F4,mJ.trans wt,?_⟩
    ·have L5:=D1.trans c6.b1
     exact⟨λa o q n=>by rw[aO (cT q hD)];exact L5.get a o q n,λa ps q=>by rw[aO (cT q hD)];exact L5.tb a ps q⟩
    ·have e9:(((xs.map D.sh).take (i+1)).filter p).map f=(((xs.map D.sh).take i).filter p).map f++[d]:=by
      rw[LX _ p i d0 e0,hp,hd];simp
     rw[e9]
     exact c8
   ·have zY:p d0=false:=by simpa using hp
    rw[hb,zY]
    refine jX ⟨xs.length-(i+1),by omega,rfl,fV,zX,D1.trans h5,by omega,F2,mJ,?_⟩
    have e9:(((xs.map D.sh).take (i+1)).filter p).map f=(((xs.map D.sh).take i).filter p).map f:=by
     rw[LX _ p i d0 e0,zY];simp
    rw[e9]
    exact c3.grow h5
  by_cases hA:(sh&&av.all (iM ah))=true
  ·rw[dz]at hA
   obtain⟨bg,jd⟩:=qa hA.1
   have vT:=kM bg
   rw[vT]at e0
   obtain⟨d1,e1,_,r1⟩:=jd.jv i H2 x H3 (mJ.trans c2.ext) fV y
   rw[e0]at e1;cases e1
   have YK:d0.pl=true:=by have:=r1.pl;simpa using this
   refine turn F2 c3.ext (LV c3 n av hA.2) ((r1.s).mono mJ (af.refl _)) YK λd v F' H' A hd hp hs hf he h3 r nd fr=>⟨F',hf,c3.call hs hf he h3 r nd fr⟩
  ·have YL:=dE.resolve_left hA
   refine turn H3 (af.refl _) (LW c3 n av) ((r0.shared D1 (af.refl _)).s) (by have:=r0.pl;simpa using this) λd v F' H' A hd hp hs hf he h3 r nd fr=>⟨F2,af.refl _,?_⟩
   exact c3.DU hs (r.rP (by rw[hd];simp[YL d0 LY hp]) (c3.ext.trans hf)) nd fr
theorem gD{Y:Cx}:kH Y [] (lT kP):=λ_ _ _ H _ I ⟨B,F,δ,ts,Qd,c,q,k⟩=>Xt _ _ _ H _ I (k true δ F H q (af.refl _) (af.refl _) c)
theorem L6{Y:Cx}{c:Expr}(h:PT Y c (lT tt)):kH Y [c] (lT tt):=Xu h
end
end L3
namespace L3
open PySem L2 PySem.Spec PyProof.Rows
section
variable{X:Cx}{F H:Hp}{v w:V}
noncomputable def l2(rd:cw):R2:=λv w H Q=>∃B F σ δ ts x y Qd,aj B F H σ δ ts/\S F H [x] [v]/\S F H [y] [w]/\rd x y Qd/\∀d z H',Qd d->af H H'->aj B F H' σ δ ((d,z)::ts)->Q z H'
theorem bL.of{f:Value->Value->Sem Value}{rd:cw}(h:cn X f (l2 rd)):bL X f rd:=⟨_,h,λ{B F H σ δ ts x y v w Q Qd} c sx sy q k=>⟨B,F,σ,δ,ts,x,y,Qd,c,sx,sy,q,k⟩⟩
theorem wu{f:Value->Value->Sem Value}{C:Int->Int->Prop}{g:Int->Int->V}{gd:Int->Int->D}(ho:cn X f (rI C g))(hg:∀i j F H,S F H [gd i j] [g i j])(hp:∀i j,(gd i j).pl=true):bL X f λx y Q=>∃i j,x=.int i/\y=.int j/\C i j/\Q (gd i j) :=
 ⟨_,ho,λ{B F H σ δ ts x y v w Q Qd} c sx sy h k=>by
  obtain⟨i,j,rfl,rfl,hc,q⟩:=h
  cases sx;cases sy
  exact⟨i,j,rfl,rfl,hc,k _ _ _ q (af.refl _) (c.pushS (hg i j F H) (hp i j))⟩⟩
theorem j4{f:Value->Value->Sem Value}{g:Int->Int->V}{gd:Int->Int->D}(ho:cn X f (ix g))(hg:∀i j F H,S F H [gd i j] [g i j])(hp:∀i j,(gd i j).pl=true):bL X f λx y Q=>∃i j,x=.int i/\y=.int j/\Q (gd i j) :=
 ⟨_,ho,λ{B F H σ δ ts x y v w Q Qd} c sx sy h k=>by
  obtain⟨i,j,rfl,rfl,q⟩:=h
  cases sx;cases sy
  exact⟨i,j,rfl,rfl,k _ _ _ q (af.refl _) (c.pushS (hg i j F H) (hp i j))⟩⟩
theorem g8{o:Bool}{xs:List D}(s:S F H [.lst o xs] [v])(e:af F H):∃p ws,v=.ref p/\H p=some (.lst ws)/\S F H xs ws:=by
 cases s with
 | shr h r _=>exact⟨_,_,rfl,e _ _ h,r.s⟩
 | own h r _=>exact⟨_,_,rfl,h,r⟩
theorem j5{xs:List D}(s:S F H [.tup xs] [v]):∃p ws,v=.ref p/\H p=some (.tup ws)/\S F H xs ws:=by
 cases s with
 | tup h r _=>exact⟨_,_,rfl,h,r⟩
theorem nU{d:D}{xs:List D}(s:S F H [d] [v])(e:af F H)(h:jy d=some xs):∃p ws,v=.ref p/\Rd H p (.lst ws)/\S F H xs ws:=by
 cases s with
 | shr h' r _=>cases h;exact⟨_,_,rfl,.inl (e _ _ h'),r.s⟩
 | own h' r _=>cases h;exact⟨_,_,rfl,.inl h',r⟩
 | fz h' r _=>cases h;exact⟨_,_,rfl,.inr ⟨_,e _ _ h'⟩,r.s⟩
 | ao _=>cases h
 | bl _=>cases h
 | int _=>cases h
 | str _=>cases h
 | tup _ _ _=>cases h
 | obj _ _ _ _=>cases h
 | bu _ _=>cases h
theorem S.rep{xs:List D}{ws:List V}(s:S F H xs ws):∀k:Nat,S F H (aX k xs).flatten (aX k ws).flatten
 | 0=>by simpa using S.nil
 | k+1=>by
  rw[oS,oS,rj,rj]
  exact s.append (S.rep s k)
noncomputable def qe:cw:=λx y Q=>match x,y with
 | .int i,.int j=>Q (.int (i+j))
 | .str a,.str b=>a.length+b.length<=sizeLine/\Q (.str (a++b))
 | .lst _ xs,.lst _ ys=>(xs.length+ys.length<=sizeLine/\xs.all D.pl=true/\ys.all D.pl=true)/\Q (.lst true (xs++ys))
 | _,_=>False
theorem YM:bL X (binaryOp .Add) λx y Q=>∃o xs o' ys,x=.lst o xs/\y=.lst o' ys/\(xs.length+ys.length<=sizeLine/\xs.all D.pl=true/\ys.all D.pl=true)/\Q (.lst true (xs++ys)) :=
 ⟨_,KQ,λ{B F H σ δ ts x y v w Q Qd} c sx sy h k=>by
  obtain⟨o,xs,o',ys,rfl,rfl,⟨hz,h1,h2⟩,q⟩:=h
  obtain⟨p,ws,rfl,e1,s1⟩:=g8 sx c.ext
  obtain⟨p',fE,rfl,e2,s2⟩:=g8 sy c.ext
  refine⟨p,p',ws,fE,rfl,rfl,e1,e2,by rw[<-s1.length,<- s2.length];exact hz,λr hr=>?_⟩
  exact k _ _ _ q (af.upd hr) (c.mC hr (s1.append s2) (by simp[h1,h2]))⟩
theorem YN:bL X (binaryOp .Add) λx y Q=>∃i j,x=.str i/\y=.str j/\i.length+j.length<=sizeLine/\Q (.str (i++j)) :=
 ⟨_,Vy,λ{B F H σ δ ts x y v w Q Qd} c sx sy h k=>by
  obtain⟨i,j,rfl,rfl,hz,q⟩:=h
  cases sx;cases sy
  exact⟨i,j,rfl,rfl,hz,k _ _ _ q (af.refl _) (c.pushS (.str .nil) rfl)⟩⟩
theorem dj:bL X (binaryOp .Add) qe:=((j4 (gd:=λi j=>.int (i+j)) Vf (λ_ _ _ _=>.int .nil) λ_ _=>rfl).or (YN.or YM)).imp λx y Q h=>by
 unfold qe at h
 split at h
 ·exact .inl ⟨_,_,rfl,rfl,h⟩
 ·exact .inr (.inl ⟨_,_,rfl,rfl,h.1,h.2⟩)
 ·exact .inr (.inr ⟨_,_,_,_,rfl,rfl,h.1,h.2⟩)
 ·exact h.elim
noncomputable def iI(C:Int->Int->Prop)(g:Int->Int->D):cw:=λx y Q=>match x,y with
 | .int i,.int j=>C i j/\Q (g i j)
 | _,_=>False
noncomputable def fX(g:Int->Int->D):cw:=λx y Q=>match x,y with
 | .int i,.int j=>Q (g i j)
 | _,_=>False
theorem zZ{f:Value->Value->Sem Value}{C:Int->Int->Prop}{g:Int->Int->D}(h:bL X f λx y Q=>∃i j,x=.int i/\y=.int j/\C i j/\Q (g i j)):bL X f (iI C g):=h.imp λx y Q h=>by
 unfold iI at h
 split at h
 ·exact⟨_,_,rfl,rfl,h.1,h.2⟩
 ·exact h.elim
theorem kQ{f:Value->Value->Sem Value}{g:Int->Int->D}(h:bL X f λx y Q=>∃i j,x=.int i/\y=.int j/\Q (g i j)):bL X f (fX g):=h.imp λx y Q h=>by
 unfold fX at h
 split at h
 ·exact⟨_,_,rfl,rfl,h⟩
 ·exact h.elim
noncomputable def sI:cw:=fX λi j=>.int (i-j)
theorem dm:bL X (binaryOp .Sub) sI:=kQ (j4 Di (λ_ _ _ _=>.int .nil) λ_ _=>rfl)
noncomputable def D2(_ j:Int):Prop:=0<j/\j.natAbs.log2<9000
theorem jB{i j:Int}(h1:0<j)(h2:j<1073741824):D2 i j:=⟨h1,by
 have h:j.natAbs<2 ^ 30:=by omega
 have:=(Cm (show j.natAbs≠0 by omega)).mpr h
 omega⟩
theorem YO:cn X (binaryOp .FloorDiv) (rI D2 λi j=>.int (i/j)):=vN λi j _ _ _ _ _ hc q =>
 floordiv_int (show j≠0 by have:=hc.1;omega) (by rw[Tw i (by have:=hc.1;omega)];exact q) (.inl (PyProof.noPylong_of_log2 hc.2))
noncomputable def sJ:cw:=iI D2 λi j=>.int (i/j)
theorem jC:bL X (binaryOp .FloorDiv) sJ:=zZ (wu YO (λ_ _ _ _=>.int .nil) λ_ _=>rfl)
noncomputable def sM:cw:=iI (λ_ j=>0<j) λi j=>.int (i%j)
theorem cJ:bL X (binaryOp .Mod) sM:=zZ (wu Vg (λ_ _ _ _=>.int .nil) λ_ _=>rfl)
noncomputable def sN:cw:=iI Ll λi j=>.int (i*2 ^ j.toNat)
theorem sO:bL X (binaryOp .LShift) sN:=zZ (wu Lm (λ_ _ _ _=>.int .nil) λ_ _=>rfl)
noncomputable def sP:cw:=iI (λ_ j=>0<=j) λi j=>.int (i/2 ^ j.toNat)
theorem L7:bL X (binaryOp .RShift) sP:=zZ (wu Vh (λ_ _ _ _=>.int .nil) λ_ _=>rfl)
noncomputable def sQ:cw:=fX λi j=>.int (nk i j)
theorem L8:bL X (binaryOp .BitAnd) sQ:=kQ (j4 Vi (λ_ _ _ _=>.int .nil) λ_ _=>rfl)
noncomputable def sR:cw:=fX λi j=>.int (nq i j)
theorem sS:bL X (binaryOp .BitXor) sR:=kQ (j4 Vj (λ_ _ _ _=>.int .nil) λ_ _=>rfl)
theorem YQ:cn X (binaryOp .Mult) (rI IntMulOk λi j=>.int (i*j)):=vN λ_ _ _ _ _ _ _ hc q=>mul_int q hc
noncomputable def qf:cw:=λx y Q=>match x,y with
 | .int i,.int j=>IntMulOk i j/\Q (.int (i*j))
 | .lst _ xs,.int k=>(-(2 ^ 63)<=k/\k<2 ^ 63/\xs.length*k.toNat<=sizeLine/\xs.all D.pl=true)/\Q (.lst true (aX k.toNat xs).flatten)
 | _,_=>False
theorem YR:bL X (binaryOp .Mult) λx y Q=>∃o xs k,x=.lst o xs/\y=.int k/\(-(2 ^ 63)<=k/\k<2 ^ 63/\xs.length*k.toNat<=sizeLine/\xs.all D.pl=true)/\Q (.lst true (aX k.toNat xs).flatten) :=
 ⟨_,WK,λ{B F H σ δ ts x y v w Q Qd} c sx sy h k=>by
  obtain⟨o,xs,n,rfl,rfl,⟨b1,b2,hz,h1⟩,q⟩:=h
  obtain⟨p,ws,rfl,e1,s1⟩:=g8 sx c.ext
  cases sy
  refine⟨p,n,ws,rfl,rfl,e1,b1,b2,by rw[<-s1.length];exact hz,λr hr=>?_⟩
  refine k _ _ _ q (af.upd hr) (c.mC hr (s1.rep _) ?_)
  rw[du]
  intro x hx
  obtain⟨l,hl,L9⟩:=List.mem_flatten.mp hx
  rw[(vg.mp hl).2]at L9
  exact du.mp h1 x L9⟩
theorem jD:bL X (binaryOp .Mult) qf:=((wu (gd:=λi j=>.int (i*j)) YQ (λ_ _ _ _=>.int .nil) λ_ _=>rfl).or YR).imp λx y Q h=>by
 unfold qf at h
 split at h
 ·exact .inl ⟨_,_,rfl,rfl,h.1,h.2⟩
 ·exact .inr ⟨_,_,_,rfl,rfl,h.1,h.2⟩
 ·exact h.elim
theorem YS:bL X (inplaceOp .Add) (fX λi j=>.int (i+j)):=kQ (j4 Vk (λ_ _ _ _=>.int .nil) λ_ _=>rfl)
theorem YT:bL X (inplaceOp .Sub) (fX λi j=>.int (i-j)):=kQ (j4 Vl (λ_ _ _ _=>.int .nil) λ_ _=>rfl)
theorem D3:bL X (inplaceOp .BitXor) (fX λi j=>.int (nq i j)):=kQ (j4 Vm (λ_ _ _ _=>.int .nil) λ_ _=>rfl)
noncomputable def sT:cw:=fX λi j=>.bl (decide (i<j))
noncomputable def sU:cw:=fX λi j=>.bl (decide (i<=j))
noncomputable def sV:cw:=fX λi j=>.bl (decide (j<i))
noncomputable def sW:cw:=fX λi j=>.bl (decide (j<=i))
theorem z0:bL X (compareOp .Lt) sT:=kQ (j4 Vq (λ_ _ _ _=>.bl .nil) λ_ _=>rfl)
theorem j6:bL X (compareOp .LtE) sU:=kQ (j4 Vr (λ_ _ _ _=>.bl .nil) λ_ _=>rfl)
theorem Ma:bL X (compareOp .Gt) sV:=kQ (j4 Vs (λ_ _ _ _=>.bl .nil) λ_ _=>rfl)
theorem YU:bL X (compareOp .GtE) sW:=kQ (j4 Vt (λ_ _ _ _=>.bl .nil) λ_ _=>rfl)
noncomputable def nV:D->Bool
 | .ao=>true
 | _=>false
noncomputable def qg:cw:=λx y Q=>match y with
 | .ao=>Q (.bl (!nV x))
 | _=>False
theorem YV{d:D}(s:S F H [d] [v]):decide (v=.ao)=nV d:=by cases s<;>simp[nV]
theorem YW:bL X (compareOp .IsNot) qg:=⟨_,Vu,λ{B F H σ δ ts x y v w Q Qd} c sx sy h k=>by
 unfold qg at h
 split at h
 ·cases sy
  refine⟨rfl,?_⟩
  rw[YV sx]
  exact k _ _ _ h (af.refl _) (c.pushS (.bl .nil) rfl)
 ·exact h.elim⟩
noncomputable def bE:D->D->Bool
 | .ao,.ao=>true
 | .bl a,.bl b=>a==b
 | .bl a,.int b=>(if a then 1 else 0)==b
 | .int a,.bl b=>a==(if b then 1 else 0)
 | .int a,.int b=>a==b
 | .str a,.str b=>a==b
 | .lst _ xs,.lst _ ys=>e7 xs ys
 | .tup xs,.tup ys=>e7 xs ys
 | _,_=>false
where e7:List D->List D->Bool
 | [],[]=>true
 | x::xs,y::ys=>bE x y&&e7 xs ys
 | _,_=>false
noncomputable def dF:Nat->D->Bool
 | _,.ao=>true
 | _,.bl _=>true
 | _,.int _=>true
 | _,.str _=>true
 | n+1,.lst _ xs=>xs.all (dF n)
 | n+1,.tup xs=>xs.all (dF n)
 | _,_=>false
theorem D4:∀(xs ys:List D),xs.length=ys.length->bE.e7 xs ys=(aJ xs.length).all λj=>bE (xs.getD j .ao) (ys.getD j .ao)
 | [],[],_=>rfl
 | x::xs,y::ys,h=>by
  rw[eX,TR,dO,oY]
  show(bE x y&&bE.e7 xs ys)=_
  rw[D4 xs ys (by simpa using h)]
  rfl
theorem D6:∀(xs ys:List D),xs.length≠ys.length->bE.e7 xs ys=false
 | [],[],h=>absurd rfl h
 | [],_::_,_=>rfl
 | _::_,[],_=>rfl
 | x::xs,y::ys,h=>by
  show(bE x y&&bE.e7 xs ys)=false
  rw[D6 xs ys (by simpa using h),Bool.and_false]
noncomputable def YX:V->D
 | .bl b=>.bl b
 | .int i=>.int i
 | .str z=>.str z
 | _=>.ao
theorem wz{x:D}{v:V}(h:dF 0 x=true)(s:S F H [x] [v]):x=YX v:=by
 cases s with
 | ao _=>rfl
 | bl _=>rfl
 | int _=>rfl
 | str _=>rfl
 | _=>cases h
theorem Mb{x:D}(h:dF 0 x=true):bE x x=true:=by
 cases x with
 | ao=>rfl
 | bl b=>exact beq_self_eq_true b
 | int i=>exact beq_self_eq_true i
 | str z=>exact beq_self_eq_true z
 | _=>cases h
theorem nW{n:Nat}{x:D}(h:dF (n+1) x=true):dF 0 x=true\/(∃o xs,x=.lst o xs/\xs.all (dF n)=true)\/∃xs,x=.tup xs/\xs.all (dF n)=true:=by
 cases x with
 | lst o xs=>exact .inr (.inl ⟨o,xs,rfl,h⟩)
 | tup xs=>exact .inr (.inr ⟨xs,rfl,h⟩)
 | obj _ _ _=>exact absurd h ig
 | fz _=>exact absurd h ig
 | bu _=>exact absurd h ig
 | _=>exact .inl rfl
theorem z5{x:D}{p:Addr}(h:dF 0 x=true)(s:S F H [x] [.ref p]):False:=by
 rw[wz h s]at s
 cases s
theorem Mc:∀(n:Nat) {xs ys:List D} {vs:List V},xs.all (dF n)=true->ys.all (dF n)=true->S F H xs vs->S F H ys vs->af F H->bE.e7 xs ys=true:=by
 intro n xs
 induction n generalizing xs with
 | zero =>
  induction xs with
  | nil=>intro ys vs _ _ s1 s2 _;cases s1;cases s2;rfl
  | cons x xs ih =>
   intro ys vs h1 h2 s1 s2 e
   obtain⟨v,bV,rfl,q1,r1⟩:=s1.cQ
   cases ys with
   | nil=>cases s2
   | cons y ys =>
    obtain⟨v',LK,ee,q2,r2⟩:=s2.cQ
    obtain⟨rfl,rfl⟩:=lU ee
    rw[dO,dz]at h1 h2
    show(bE x y&&bE.e7 xs ys)=true
    rw[ih h1.2 h2.2 r1 r2 e,lW,wz h2.1 q2,<- wz h1.1 q1]
    exact Mb h1.1
 | succ n Md =>
  induction xs with
  | nil=>intro ys vs _ _ s1 s2 _;cases s1;cases s2;rfl
  | cons x xs ih =>
   intro ys vs h1 h2 s1 s2 e
   obtain⟨v,bV,rfl,q1,r1⟩:=s1.cQ
   cases ys with
   | nil=>cases s2
   | cons y ys =>
    obtain⟨v',LK,ee,q2,r2⟩:=s2.cQ
    obtain⟨rfl,rfl⟩:=lU ee
    rw[dO,dz]at h1 h2
    show(bE x y&&bE.e7 xs ys)=true
    rw[ih h1.2 h2.2 r1 r2 e,lW]
    have h1:=h1.1
    have h2:=h2.1
    clear ih r1 r2 s1 s2
    rcases nW h1 with k1 | ⟨o1,a1,rfl,k1⟩ | ⟨a1,rfl,k1⟩
    ·rcases nW h2 with k2 | ⟨o2,a2,rfl,k2⟩ | ⟨a2,rfl,k2⟩
     ·rw[wz k2 q2,<- wz k1 q1]
      exact Mb k1
     ·obtain⟨p,ws,rfl,_⟩:=g8 q2 e
      exact(z5 k1 q1).elim
     ·obtain⟨p,ws,rfl,_⟩:=j5 q2
      exact(z5 k1 q1).elim
    ·obtain⟨p,ws,rfl,e1,t1⟩:=g8 q1 e
     rcases nW h2 with k2 | ⟨o2,a2,rfl,k2⟩ | ⟨a2,rfl,k2⟩
     ·exact(z5 k2 q2).elim
     ·obtain⟨p2,D7,ev,e2,t2⟩:=g8 q2 e
      cases ev
      cases e1.symm.trans e2
      exact Md k1 k2 t1 t2 e
     ·obtain⟨p2,D7,ev,e2,t2⟩:=j5 q2
      cases ev
      cases e1.symm.trans e2
    ·obtain⟨p,ws,rfl,e1,t1⟩:=j5 q1
     rcases nW h2 with k2 | ⟨o2,a2,rfl,k2⟩ | ⟨a2,rfl,k2⟩
     ·exact(z5 k2 q2).elim
     ·obtain⟨p2,D7,ev,e2,t2⟩:=g8 q2 e
      cases ev
      cases e1.symm.trans e2
     ·obtain⟨p2,D7,ev,e2,t2⟩:=j5 q2
      cases ev
      cases e1.symm.trans e2
      exact Md k1 k2 t1 t2 e
end
end L3
namespace L3
open PySem L2 PySem.Spec PyProof.Rows
structure Me(A:Around)(s:Shared)(u w:Value)(b:Bool):Prop where
 rc:SeqAt.RcAt A s u w b
 ne:SeqAt.RcNeAt A s u w (!b)
 eq:Ck A s u w b
section
variable{X:Cx}{F H:Hp}{v w:V}
theorem Mg{xs:List V}{us:List Value}(r:Vals xs us){j:Nat}(h:j<us.toArray.size):∃x,xs[j]?=some x/\RelV x us.toArray[j]:=by
 have l:=r.length
 have hj:j<xs.length:=by rw[l];simpa using h
 obtain⟨u,e,q⟩:=r.get (aT hj)
 obtain⟨_,z⟩:=jr.mp e
 refine⟨_,aT hj,?_⟩
 have:us.toArray[j]=u:=by simpa using z
 rw[this];exact q
theorem Mh{xs:List D}{j:Nat}{d:D}(h:xs[j]?=some d):xs.getD j .ao=d:=by rw[aU,h];rfl
theorem sX{x:D}{v:V}{u:Value}(h:dF 0 x=true)(s:S F H [x] [v])(r:RelV v u):(x=.ao/\u=.none)\/(∃b,x=.bl b/\u=.bool b)\/(∃i t,x=.int i/\u=.int i t)\/∃z t,x=.str z/\u=.str z t:=by
 cases s with
 | ao _=>cases r;exact .inl ⟨rfl,rfl⟩
 | bl _=>cases r;exact .inr (.inl ⟨_,rfl,rfl⟩)
 | int _=>obtain⟨t,rfl⟩:=r;exact .inr (.inr (.inl ⟨_,t,rfl,rfl⟩))
 | str _=>obtain⟨t,rfl⟩:=r;exact .inr (.inr (.inr ⟨_,t,rfl,rfl⟩))
 | _=>exact absurd h ig
theorem Mi{x y:D}{u u':Value}{A:Around}{s:Shared}(h1:(x=.ao/\u=.none)\/(∃b,x=.bl b/\u=.bool b)\/(∃i t,x=.int i/\u=.int i t)\/∃z t,x=.str z/\u=.str z t)(h2:(y=.ao/\u'=.none)\/(∃b,y=.bl b/\u'=.bool b)\/(∃i t,y=.int i/\u'=.int i t)\/∃z t,y=.str z/\u'=.str z t):Me A s u u' (bE x y):=by
 rcases h1 with⟨rfl,rfl⟩ | ⟨a,rfl,rfl⟩ | ⟨a,t,rfl,rfl⟩ | ⟨a,t,rfl,rfl⟩<;>rcases h2 with⟨rfl,rfl⟩ | ⟨b,rfl,rfl⟩ | ⟨b,t',rfl,rfl⟩ | ⟨b,t',rfl,rfl⟩
 ·exact⟨.none_none,.none_none,.same _⟩
 ·exact⟨.none_bool _,.none_bool _,.none_bool _⟩
 ·exact⟨.none_int _ _,.none_int _ _,.none_int _ _⟩
 ·exact⟨.none_str _ _,.none_str _ _,.none_str _ _⟩
 ·exact⟨.bool_none _,.bool_none _,.bool_none _⟩
 ·exact⟨.bool_bool _ _,.bool_bool _ _,.bool_bool _ _⟩
 ·exact⟨.bool_int _ _ _,.bool_int _ _ _,.bool_int _ _ _⟩
 ·exact⟨.bool_str _ _ _,.bool_str _ _ _,.bool_str _ _ _⟩
 ·exact⟨.int_none _ _,.int_none _ _,.int_none _ _⟩
 ·exact⟨.int_bool _ _ _,.int_bool _ _ _,.int_bool _ _ _⟩
 ·exact⟨.int_int _ _ _ _,.int_int _ _ _ _,.int_int _ _ _ _⟩
 ·exact⟨.int_str _ _ _ _,.int_str _ _ _ _,.int_str _ _ _ _⟩
 ·exact⟨.str_none _ _,.str_none _ _,.str_none _ _⟩
 ·exact⟨.str_bool _ _ _,.str_bool _ _ _,.str_bool _ _ _⟩
 ·exact⟨.str_int _ _ _ _,.str_int _ _ _ _,.str_int _ _ _ _⟩
 ·exact⟨.str_str _ _ _ _,.str_str _ _ _ _,.str_str _ _ _ _⟩
theorem Mj{pins:List (Addr × Obj)}{σ:L2.St}{s:Shared}(I:Inv X pins σ H s)(e:af F H):∀(n:Nat) (x y:D) (v w:V) (u u':Value) (A:Around),dF n x=true->dF n y=true->S F H [x] [v]->S F H [y] [w]->RelV v u->RelV w u' ->
  A.units+n<cLine->Me A s u u' (bE x y):=by
 intro n
 induction n with
 | zero =>
  intro x y v w u u' A hx hy sx sy rv fo hu
  exact Mi (sX hx sx rv) (sX hy sy fo)
 | succ n ih =>
  intro x y v w u u' A hx hy sx sy rv fo hu
  have bo:A.units<cLine:=lQ (Nat.le_add_right ..) hu
  have Ml:A.in1.units+n<cLine:=by show A.units+1+n<cLine;rw[JK,yK 1];exact hu
  have items:∀{xs ys:List D} {vs ws:List V} {us sY:List Value},xs.all (dF n)=true->ys.all (dF n)=true->S F H xs vs->S F H ys ws->Vals vs us->Vals ws sY ->
    ∀j (h1:j<us.toArray.size) (h2:j<sY.toArray.size),Ck A.in1 s us.toArray[j] sY.toArray[j] (bE (xs.getD j .ao) (ys.getD j .ao)):=by
   intro xs ys vs ws us sY hx hy sx sy r1 r2 j h1 h2
   obtain⟨a,e1,q1⟩:=Mg r1 h1
   obtain⟨b,e2,q2⟩:=Mg r2 h2
   obtain⟨d1,g1,t1⟩:=sx.get' e1
   obtain⟨d2,g2,t2⟩:=sy.get' e2
   rw[Mh g1,Mh g2]
   exact(ih d1 d2 a b _ _ A.in1 (du.mp hx d1 (q9 g1)) (du.mp hy d2 (q9 g2)) t1 t2 q1 q2 Ml).eq
  clear ih hu Ml
  rcases nW hx with k1 | ⟨o,xs,rfl,k1⟩ | ⟨xs,rfl,k1⟩
  ·have f:=sX k1 sx rv
   rcases nW hy with k2 | ⟨o',ys,rfl,k2⟩ | ⟨ys,rfl,k2⟩
   ·exact Mi f (sX k2 sy fo)
   ·obtain⟨p',fE,rfl,e2,t2⟩:=g8 sy e
    cases fo
    obtain⟨j7,r2,p2,z2⟩:=I.list (bH.of (K:=X.K) e2)
    have p2:=p2.isList
    rcases f with⟨rfl,rfl⟩ | ⟨a,rfl,rfl⟩ | ⟨a,t,rfl,rfl⟩ | ⟨a,t,rfl,rfl⟩
    ·exact⟨.none_list p2 bo,.none_list p2 bo,.none_list p2 bo⟩
    ·exact⟨.bool_list _ p2 bo,.bool_list _ p2 bo,.bool_list _ p2 bo⟩
    ·exact⟨.int_list _ _ p2 bo,.int_list _ _ p2 bo,.int_list _ _ p2 bo⟩
    ·exact⟨.str_list _ _ p2 bo,.str_list _ _ p2 bo,.str_list _ _ p2 bo⟩
   ·obtain⟨p',fE,rfl,e2,t2⟩:=j5 sy
    cases fo
    obtain⟨j7,r2,p2,z2⟩:=I.tuple (gn.of (K:=X.K) e2)
    rcases f with⟨rfl,rfl⟩ | ⟨a,rfl,rfl⟩ | ⟨a,t,rfl,rfl⟩ | ⟨a,t,rfl,rfl⟩
    ·exact⟨.none_tuple p2 bo,.none_tuple p2 bo,.none_tuple p2 bo⟩
    ·exact⟨.bool_tuple _ p2 bo,.bool_tuple _ p2 bo,.bool_tuple _ p2 bo⟩
    ·exact⟨.int_tuple _ _ p2 bo,.int_tuple _ _ p2 bo,.int_tuple _ _ p2 bo⟩
    ·exact⟨.str_tuple _ _ p2 bo,.str_tuple _ _ p2 bo,.str_tuple _ _ p2 bo⟩
  ·obtain⟨p,ws,rfl,e1,t1⟩:=g8 sx e
   cases rv
   obtain⟨its,r1,p1,z1⟩:=I.list (bH.of (K:=X.K) e1)
   have p1:=p1.isList
   rcases nW hy with k2 | ⟨o',ys,rfl,k2⟩ | ⟨ys,rfl,k2⟩
   ·rcases sX k2 sy fo with⟨rfl,rfl⟩ | ⟨a,rfl,rfl⟩ | ⟨a,t,rfl,rfl⟩ | ⟨a,t,rfl,rfl⟩
    ·exact⟨.list_none p1 bo,.list_none p1 bo,.list_none p1 bo⟩
    ·exact⟨.list_bool _ p1 bo,.list_bool _ p1 bo,.list_bool _ p1 bo⟩
    ·exact⟨.list_int _ _ p1 bo,.list_int _ _ p1 bo,.list_int _ _ p1 bo⟩
    ·exact⟨.list_str _ _ p1 bo,.list_str _ _ p1 bo,.list_str _ _ p1 bo⟩
   ·obtain⟨p',fE,rfl,e2,t2⟩:=g8 sy e
    cases fo
    obtain⟨j7,r2,p2,z2⟩:=I.list (bH.of (K:=X.K) e2)
    have p2:=p2.isList
    have qh:xs.length=its.length:=t1.length.trans r1.length
    have sZ:ys.length=j7.length:=t2.length.trans r2.length
    by_cases hl:xs.length=ys.length
    ·have kD:its.toArray.size=j7.toArray.size:=by rw[dy,dy,<- qh,<- sZ];exact hl
     have ev:(aJ its.toArray.size).all (λj=>bE (xs.getD j .ao) (ys.getD j .ao))=bE (.lst o xs) (.lst o' ys):=by
      show _=bE.e7 xs ys
      rw[D4 xs ys hl,dy,<- qh]
     have a:=SeqAt.RcAt.lists (e:=λj=>bE (xs.getD j .ao) (ys.getD j .ao)) p1 p2 kD bo (items k1 k2 t1 t2 r1 r2)
     have b:=SeqAt.RcNeAt.lists (e:=λj=>bE (xs.getD j .ao) (ys.getD j .ao)) p1 p2 kD bo (items k1 k2 t1 t2 r1 r2)
     rw[ev]at a b
     refine⟨a,b,?_⟩
     by_cases qi:p=p'
     ·subst qi
      cases e1.symm.trans e2
      rw[show bE (.lst o xs) (.lst o' ys)=true from Mc n k1 k2 t1 t2 e]
      exact .same _
     ·exact .of_refs qi a
    ·have kD:(its.toArray.size != j7.toArray.size)=true:=bne_iff_ne.mpr (by rw[dy,dy,<- qh,<- sZ];exact hl)
     rw[show bE (.lst o xs) (.lst o' ys)=false from D6 xs ys hl]
     have a:=SeqAt.RcAt.lists_lengths p1 p2 kD bo
     refine⟨a,SeqAt.RcNeAt.lists_lengths p1 p2 kD bo,.of_refs (λqi=>?_) a⟩
     subst qi
     cases e1.symm.trans e2
     exact hl (t1.length.trans t2.length.symm)
   ·obtain⟨p',fE,rfl,e2,t2⟩:=j5 sy
    cases fo
    obtain⟨j7,r2,p2,z2⟩:=I.tuple (gn.of (K:=X.K) e2)
    exact⟨.list_tuple p1 p2 bo,.list_tuple p1 p2 bo,.list_tuple p1 p2 bo⟩
  ·obtain⟨p,ws,rfl,e1,t1⟩:=j5 sx
   cases rv
   obtain⟨its,r1,p1,z1⟩:=I.tuple (gn.of (K:=X.K) e1)
   rcases nW hy with k2 | ⟨o',ys,rfl,k2⟩ | ⟨ys,rfl,k2⟩
   ·rcases sX k2 sy fo with⟨rfl,rfl⟩ | ⟨a,rfl,rfl⟩ | ⟨a,t,rfl,rfl⟩ | ⟨a,t,rfl,rfl⟩
    ·exact⟨.tuple_none p1 bo,.tuple_none p1 bo,.tuple_none p1 bo⟩
    ·exact⟨.tuple_bool _ p1 bo,.tuple_bool _ p1 bo,.tuple_bool _ p1 bo⟩
    ·exact⟨.tuple_int _ _ p1 bo,.tuple_int _ _ p1 bo,.tuple_int _ _ p1 bo⟩
    ·exact⟨.tuple_str _ _ p1 bo,.tuple_str _ _ p1 bo,.tuple_str _ _ p1 bo⟩
   ·obtain⟨p',fE,rfl,e2,t2⟩:=g8 sy e
    cases fo
    obtain⟨j7,r2,p2,z2⟩:=I.list (bH.of (K:=X.K) e2)
    have p2:=p2.isList
    exact⟨.tuple_list p1 p2 bo,.tuple_list p1 p2 bo,.tuple_list p1 p2 bo⟩
   ·obtain⟨p',fE,rfl,e2,t2⟩:=j5 sy
    cases fo
    obtain⟨j7,r2,p2,z2⟩:=I.tuple (gn.of (K:=X.K) e2)
    have qh:xs.length=its.length:=t1.length.trans r1.length
    have sZ:ys.length=j7.length:=t2.length.trans r2.length
    have ev:((aJ (min its.toArray.size j7.toArray.size)).all (λj=>bE (xs.getD j .ao) (ys.getD j .ao))&&its.toArray.size==j7.toArray.size)=bE (.tup xs) (.tup ys):=by
     show _=bE.e7 xs ys
     rw[dy,dy,<- qh,<- sZ]
     by_cases hl:xs.length=ys.length
     ·rw[D4 xs ys hl,<- hl,Cw,beq_self_eq_true,lW]
     ·rw[D6 xs ys hl,beq_false_of_ne hl,Bool.and_false]
    have a:=SeqAt.RcAt.tuples (e:=λj=>bE (xs.getD j .ao) (ys.getD j .ao)) p1 p2 bo (items k1 k2 t1 t2 r1 r2)
    have b:=SeqAt.RcNeAt.tuples (e:=λj=>bE (xs.getD j .ao) (ys.getD j .ao)) p1 p2 bo (items k1 k2 t1 t2 r1 r2)
    rw[ev]at a b
    refine⟨a,b,?_⟩
    by_cases qi:p=p'
    ·subst qi
     cases e1.symm.trans e2
     rw[show bE (.tup xs) (.tup ys)=true from Mc n k1 k2 t1 t2 e]
     exact .same _
    ·exact .of_refs qi a
noncomputable def s8:cw:=λx y Q=>(dF 6 x=true/\dF 6 y=true)/\Q (.bl (bE x y))
noncomputable def s9:cw:=λx y Q=>(dF 6 x=true/\dF 6 y=true)/\Q (.bl (!bE x y))
theorem eo(hu:X.A.units+6<cLine):bL X (compareOp .Eq) s8:=bL.of λpins s σ H v w u u' Q I rv fo zz=>by
 obtain⟨B,F,aw,δ,ts,x,y,Qd,c,sx,sy,⟨⟨hx,hy⟩,q⟩,k⟩:=zz
 exact(Mj I c.ext 6 x y v w u u' X.A hx hy sx sy rv fo hu).rc _ _ _ _ ⟨.bl _,H,I,rfl,k _ _ _ q (af.refl _) (c.pushS (.bl .nil) rfl)⟩
theorem gE(hu:X.A.units+6<cLine):bL X (compareOp .NotEq) s9:=bL.of λpins s σ H v w u u' Q I rv fo zz=>by
 obtain⟨B,F,aw,δ,ts,x,y,Qd,c,sx,sy,⟨⟨hx,hy⟩,q⟩,k⟩:=zz
 exact(Mj I c.ext 6 x y v w u u' X.A hx hy sx sy rv fo hu).ne _ _ _ _ ⟨.bl _,H,I,rfl,k _ _ _ q (af.refl _) (c.pushS (.bl .nil) rfl)⟩
end
end L3
namespace L3
open PySem L2 PySem.Spec PyProof.Rows
section
variable{X:Cx}{F H:Hp}{v w:V}{e a b c o:Expr}{es:List Expr}{pos p p2 apos bK:Pos}{t ta tb tc te:aI}{tr:bQ}{x:Str}
theorem YY{r r':R2}{rd wA:cw}(hl:zU r rd)(CV:zU r' wA):∀σ H Q,lE (pV rd wA ta tb tc) σ H Q->Kl r r' (lB ta) (lB tb) (lB tc) σ H Q:=λσ H Q ⟨B,F,δ,ts,Qd,c,q,k⟩ =>
 ⟨B,F,δ,ts,_,c,q,λx ah v F1 H1 q1 f1 h1 c1 s1=>⟨B,F1,ah,ts,_,c1,q1,λy aP w F2 H2 q2 f2 h2 c2 s2=>by
  refine hl c2 (s1.mono f2 h2) s2 q2 λd z H' hd hs c3=>?_
  obtain⟨b,rfl,qb⟩:=hd
  have st:=c3.top
  cases st with
  | bl _ =>
   refine⟨b,rfl,?_⟩
   cases b with
   | true =>
    refine nH ⟨B,F2,aP,ts,_,c3.pop,by simpa using qb,λz g6 w3 F3 H3 q3 f3 h3 c4 s3=>?_⟩
    exact CV c4 (s2.mono f3 (hs.trans h3)) s3 q3 λd z H' hd YZ c5=>k d g6 z F3 H' hd ((f1.trans f2).trans f3) ((((h1.trans h2).trans hs).trans h3).trans YZ) c5
   | false=>exact jX (k _ aP _ F2 H' (by simpa using qb) (f1.trans f2) ((h1.trans h2).trans hs) (c3.pop.pushS (.bl .nil) rfl))⟩⟩
theorem tf{op pz:CmpOp}{rd wA:cw}(ho:bL X (compareOp op) rd)(jS:bL X (compareOp pz) wA)(ha:PE X a (lB ta))(hb:PE X b (lB tb))(hc:PE X c (lB tc))
  (hm:lastMarks [op,pz] [b,c]=false:=by with_unfolding_all rfl):PE X (.Compare a [op,pz] [b,c] pos) (lE (pV rd wA ta tb tc)):=by
 obtain⟨r,h1,h2⟩:=ho
 obtain⟨r',iD,gZ⟩:=jS
 exact cN (Vx h1 iD ha hb hc hm) (YY h2 gZ)
noncomputable def tu(t:aI):aI:=λδ Q=>t δ λd ag=>match d with
 | .int i=>Q (.int (-i)) ag
 | _=>False
theorem D8(ha:PE X a (lB ta)):PE X (.UnaryOp .USub a pos) (lE (tu ta)):=cN (Vd Vo ha) λσ H Q zq=>by
 obtain⟨B,F,δ,ts,Qd,c,q,k⟩:=zq
 exact⟨B,F,δ,ts,_,c,q,λd ah v F1 H1 q1 f1 h1 c1 s1=>by
 cases s1 with
 | int _=>exact⟨_,rfl,k _ ah _ F1 H1 q1 f1 h1 (c1.pushS (.int .nil) rfl)⟩
 | _=>exact q1.elim⟩
noncomputable abbrev jE:=List D->(D->Prop)->Prop
noncomputable def lc(rd:jE):List V->Hp->VK->Prop:=λvs H Q=>∃B F σ δ ts ds Qd,aj B F H σ δ ts/\S F H ds vs/\rd ds Qd/\∀d z H',Qd d->af H H'->aj B F H' σ δ ((d,z)::ts)->Q z H'
noncomputable def g9(X:Cx)(f:Value)(rd:jE):Prop:=fQ X f (lc rd)
theorem g9.of{f:Value}{r:List V->Hp->VK->Prop}{rd:jE}(h:fQ X f r)(m:∀vs H Q,lc rd vs H Q->r vs H Q):g9 X f rd:=λpins s σ H xs us Q I r q=>h pins s σ H xs us Q I r (m xs H Q q)
noncomputable def nX(rd:jE)(t:bQ):aI:=λδ Q=>t δ λds ag=>rd ds λd=>Q d ag
theorem Mm{rd:jE}:∀σ H Q,lE (nX rd tr) σ H Q->Dm (lc rd) (lA tr) σ H Q:=λσ H Q zq=>by
 obtain⟨B,F,δ,ts,Qd,c,q,k⟩:=zq
 exact⟨B,F,δ,ts,_,c,q,λds ah vs F1 H1 q1 f1 h1 c1 s1 =>
 ⟨B,F1,σ,ah,ts,ds,_,c1,s1,q1,λd z H' hd hs c'=>k d ah z F1 H' hd f1 (h1.trans hs) c'⟩⟩
theorem fc{id:String}{rd:jE}(hc:g9 X (.builtin id) rd)(hg:Gl X x)(hm:X.mg x=none)(hv:bootBuiltins x=some (.builtin id))(ha:PA X (e::es) (lA tr))(hn:x≠"__name__":=by decide)(cE:(x==("__debug__":Str))=false:=by decide)
  (he:starEach (e::es) X.env=(false,eval e X.env)::starEach es X.env:=by rfl) (bg:(backTo pos (starEach es X.env)).any (·.1)=false:=by rfl):PE X (.Call (.Name x p) (e::es) [] pos) (lE (nX rd tr)) :=
 cN (zI hc hg hm hv ha hn cE he bg) Mm
theorem nY{T:String}{rd:jE}(hc:g9 X (.type T) rd)(hg:Gl X x)(hm:X.mg x=none)(hv:bootBuiltins x=some (.type T))(ha:PA X (e::es) (lA tr))(hn:x≠"__name__":=by decide)(cE:(x==("__debug__":Str))=false:=by decide)
  (he:starEach (e::es) X.env=(false,eval e X.env)::starEach es X.env:=by rfl) (bg:(backTo pos (starEach es X.env)).any (·.1)=false:=by rfl):PE X (.Call (.Name x p) (e::es) [] pos) (lE (nX rd tr)) :=
 cN (V8 hc hg hm hv ha hn cE he bg) Mm
theorem kR{d:D}{vs:List V}(s:S F H [d] vs):∃v,vs=[v]/\S F H [d] [v]:=by
 obtain⟨v,bV,rfl,h1,h2⟩:=s.cQ
 cases h2
 exact⟨v,rfl,h1⟩
theorem Y0{d d':D}{vs:List V}(s:S F H [d,d'] vs):∃v v',vs=[v,v']/\S F H [d] [v]/\S F H [d'] [v']:=by
 obtain⟨v,bV,rfl,h1,h2⟩:=s.cQ
 obtain⟨v',rfl,h3⟩:=kR h2
 exact⟨v,v',rfl,h1,h3⟩
theorem mK{K:PySem.W.Frag}{p:Addr}{ws:List V}(h:Rd H p (.lst ws)):bH K H p ws:=.inl h
noncomputable def qj:jE:=λds Q=>match ds with
 | [.lst _ xs]=>Q (.int xs.length)
 | [.fz xs]=>Q (.int xs.length)
 | [.tup xs]=>Q (.int xs.length)
 | [.str z]=>z.length<=sizeLine/\Q (.int z.length)
 | _=>False
theorem hJ:g9 X (.builtin "len") qj:=g9.of (KH.or Wy) λvs H Q zz=>by
 obtain⟨B,F,σ,δ,ts,ds,Qd,c,s,q,k⟩:=zz
 unfold qj at q
 split at q
 ·obtain⟨v,rfl,s1⟩:=kR s
  obtain⟨p,ws,rfl,h,t⟩:=nU s1 c.ext rfl
  refine .inl ⟨p,ws,rfl,.inl (mK h),?_⟩
  rw[<-t.length]
  exact k _ _ _ q (af.refl _) (c.pushS (.int .nil) rfl)
 ·obtain⟨v,rfl,s1⟩:=kR s
  obtain⟨p,ws,rfl,h,t⟩:=nU s1 c.ext rfl
  refine .inl ⟨p,ws,rfl,.inl (mK h),?_⟩
  rw[<-t.length]
  exact k _ _ _ q (af.refl _) (c.pushS (.int .nil) rfl)
 ·obtain⟨v,rfl,s1⟩:=kR s
  obtain⟨p,ws,rfl,h,t⟩:=j5 s1
  refine .inl ⟨p,ws,rfl,.inr (gn.of h),?_⟩
  rw[<-t.length]
  exact k _ _ _ q (af.refl _) (c.pushS (.int .nil) rfl)
 ·obtain⟨v,rfl,s1⟩:=kR s
  cases s1
  exact .inr ⟨_,rfl,q.1,k _ _ _ q.2 (af.refl _) (c.pushS (.int .nil) rfl)⟩
 ·exact q.elim
noncomputable def qk:jE:=λds Q=>match ds with
 | [.lst _ xs]=>xs.all D.pl=true/\Q (.lst true xs)
 | [.fz xs]=>Q (.lst true xs)
 | [.tup xs]=>xs.all D.pl=true/\Q (.lst true xs)
 | _=>False
theorem D9:g9 X (.type "list") qk:=g9.of Wz λvs H Q zz=>by
 obtain⟨B,F,σ,δ,ts,ds,Qd,c,s,q,k⟩:=zz
 unfold qk at q
 split at q
 ·obtain⟨v,rfl,s1⟩:=kR s
  obtain⟨p,ws,rfl,h,t⟩:=nU s1 c.ext rfl
  exact⟨p,ws,rfl,.inl (mK h),λl hl=>k _ _ _ q.2 (af.upd hl) (c.mC hl t q.1)⟩
 ·obtain⟨v,rfl,s1⟩:=kR s
  cases s1 with
  | fz h r _=>exact⟨_,_,rfl,.inl (mK (.inr ⟨_,c.ext _ _ h⟩)),λl hl=>k _ _ _ q (af.upd hl) (c.mC hl r.s r.pl)⟩
 ·obtain⟨v,rfl,s1⟩:=kR s
  obtain⟨p,ws,rfl,h,t⟩:=j5 s1
  exact⟨p,ws,rfl,.inr (gn.of h),λl hl=>k _ _ _ q.2 (af.upd hl) (c.mC hl t q.1)⟩
 ·exact q.elim
noncomputable def ii(g:Int->Int->Int):jE:=λds Q=>match ds with
 | [.int i,.int j]=>Q (.int (g i j))
 | _=>False
theorem Y1{f:Value}{g:Int->Int->Int}(h:fQ X f (λxs H Q=>∃i j,xs=[.int i,.int j]/\Q (.int (g i j)) H)):g9 X f (ii g):=g9.of h λvs H Q zz=>by
 obtain⟨B,F,σ,δ,ts,ds,Qd,c,s,q,k⟩:=zz
 unfold ii at q
 split at q
 ·obtain⟨v,v',rfl,s1,s2⟩:=Y0 s
  cases s1;cases s2
  exact⟨_,_,rfl,k _ _ _ q (af.refl _) (c.pushS (.int .nil) rfl)⟩
 ·exact q.elim
theorem Mn(hc:X.calm=true):g9 X (.builtin "min") (ii λi j=>if j<i then j else i):=Y1 (VA hc)
noncomputable def wB(bs:List Bool):List D:=bs.map D.bl
theorem Mo:∀{bs:List Bool} {ws:List V},S F H (wB bs) ws->ws=bs.map V.bl
 | [],_,s=>by cases s;rfl
 | b::bs,_,s=>by
  cases s with
  | bl s=>rw[Mo s];rfl
noncomputable def ql:jE:=λds Q=>match ds with
 | [.lst _ xs]=>∃bs,xs=wB bs/\Q (.bl (bs.all id))
 | _=>False
theorem Ea(hc:X.calm=true):g9 X (.builtin "all") ql:=g9.of (Xz hc) λvs H Q zz=>by
 obtain⟨B,F,σ,δ,ts,ds,Qd,c,s,q,k⟩:=zz
 unfold ql at q
 split at q
 ·obtain⟨v,rfl,s1⟩:=kR s
  obtain⟨bs,rfl,q⟩:=q
  obtain⟨p,ws,rfl,h,t⟩:=nU s1 c.ext rfl
  rw[Mo t]at h
  exact⟨p,bs,rfl,mK h,k _ _ _ q (af.refl _) (c.pushS (.bl .nil) rfl)⟩
 ·exact q.elim
noncomputable def z7:D->Option String
 | .int _=>some "int"
 | .bl _=>some "bool"
 | .ao=>some "NoneType"
 | .str _=>some "str"
 | .lst _ _=>some "list"
 | .fz _=>some "list"
 | .tup _=>some "tuple"
 | _=>none
noncomputable def Eb(k n:String):Option Bool:=([("int","int",true),("int","bool",false),("int","list",false),("int","tuple",false),("int","str",false),("bool","int",true),("bool","bool",true),("bool","list",false),("bool","tuple",false),("bool","str",false),
 ("NoneType","int",false),("NoneType","bool",false),("NoneType","list",false),("NoneType","tuple",false),("NoneType","str",false),("str","int",false),("str","bool",false),("str","list",false),("str","tuple",false),("str","str",true),
 ("list","int",false),("list","bool",false),("list","list",true),("list","tuple",false),("list","str",false),("tuple","int",false),("tuple","bool",false),("tuple","list",false),("tuple","tuple",true),("tuple","str",false)].find? λz=>z.1==k&&z.2.1==n).map (·.2.2)
noncomputable def kS(n:String)(d:D):Option Bool:=(z7 d).bind λk=>Eb k n
theorem Y2{K:PySem.W.Frag}{k n:String}{r:Bool}(h:Eb k n=some r):PySem.W.kitOne K (.type k) (.type n)=some r:=by
 unfold Eb at h
 obtain⟨z,hz,rfl⟩:=Cy.mp h
 have hm:=TU hz
 have hp:=List.find?_some hz
 rw[dz,beq_iff_eq,beq_iff_eq]at hp
 obtain⟨rfl,rfl⟩:=hp
 simp only[bR,ij,or_false]at hm
 repeat' (rcases hm with hm | hm)
 all_goals rfl
theorem mL{K:PySem.W.Frag}{d:D}(s:S F H [d] [v])(e:af F H){k:String}(h:z7 d=some k):gr K H v (.type k):=by
 cases s with
 | int _=>cases h;exact .int _
 | bl _=>cases h;exact .bl _
 | ao _=>cases h;exact .ao
 | str _=>cases h;exact .str _
 | shr h' _ _=>cases h;exact .lst (e _ _ h')
 | own h' _ _=>cases h;exact .lst h'
 | fz h' _ _=>cases h;exact .br (e _ _ h')
 | tup h' _ _=>cases h;exact .tup h'
 | obj _ _ _ _=>cases h
 | bu _ _=>cases h
theorem Y3{K:PySem.W.Frag}{d:D}(s:S F H [d] [v])(e:af F H){n:String}{r:Bool}(h:kS n d=some r):∃t,gr K H v t/\PySem.W.kitOne K t (.type n)=some r:=by
 unfold kS at h
 cases hk:z7 d with
 | none=>rw[hk]at h;cases h
 | some k=>rw[hk]at h;exact⟨_,mL s e hk,Y2 h⟩
noncomputable def tw(n:String)(t:aI):aI:=λδ Q=>t δ λd ag=>∃r,kS n d=some r/\Q (.bl r) ag
theorem Y4{n:String}{y:Str}{q:Pos}(hg:Gl X "isinstance")(hm:X.mg "isinstance"=none)(mM:Gl X y)(jF:X.mg y=none)(Ec:bootBuiltins y=some (.type n))(ha:PE X a (lB ta))
  (hn:y≠"__name__":=by decide) (hd:(y==("__debug__":Str))=false:=by decide)
  (hs:starEach [a,.Name y q] X.env=(false,eval a X.env)::starEach [.Name y q] X.env:=by rfl) (dW:starEach [.Name y q] X.env=(false,eval (.Name y q) X.env)::starEach [] X.env:=by rfl) (bg:(backTo pos (starEach [.Name y q] X.env)).any (·.1)=false:=by rfl) :
  PE X (.Call (.Name "isinstance" p) [a,.Name y q] [] pos) (lE (tw n ta)) :=
 cN (zI Xo hg hm Lh (cC ha (cC (Ln mM jF Ec hn hd) eR dW) hs) (by decide) (by decide) hs bg) λσ H Q zq=>by
 obtain⟨B,F,δ,ts,Qd,c,q,k⟩:=zq
 exact⟨B,F,δ,ts,_,c,q,λd ah v F1 H1 q1 f1 h1 c1 s1=>by
  obtain⟨r,e,qr⟩:=q1
  obtain⟨t,h2,h3⟩:=Y3 (K:=X.K) s1 c1.ext e
  exact⟨v,n,t,r,rfl,h2,h3,k _ ah _ F1 H1 qr f1 h1 (c1.pushS (.bl .nil) rfl)⟩⟩
theorem Ee{xs:List D}{ws:List V}{i:Int}{d:D}(s:S F H xs ws)(h:dD xs i=some d):∃v,dD ws i=some v/\S F H [d] [v]:=by
 unfold dD at h ⊢
 rw[<-s.length]
 cases e:iz xs.length i with
 | none=>rw[e]at h;cases h
 | some j =>
  rw[e]at h
  exact s.get h
noncomputable def qm(x y:D)(Q:D->Prop):Prop:=match x,y with
 | .lst _ xs,.int i=>∃d,dD xs i=some d/\Q d
 | .fz xs,.int i=>∃d,dD xs i=some d/\Q d
 | .tup xs,.int i=>∃d,dD xs i=some d/\Q d
 | .str z,.int i=>z.length<=sizeLine/\∃ch,dD z.cps.toList i=some ch/\Q (.str ⟨#[ch]⟩)
 | _,_=>False
noncomputable def tD(ta tb:aI):aI:=λδ Q=>ta δ λx ah=>tb ah λy aP=>qm x y λd=>Q d aP
theorem bx(ha:PE X a (lB ta))(hb:PE X b (lB tb))(hs:Kz b):PE X (.Subscript a b pos) (lB (tD ta tb)) :=
 cN (Wh Wm ha hb hs) λσ H Q zq=>by
 obtain⟨B,F,δ,ts,Qd,c,q,k⟩:=zq
 exact⟨B,F,δ,ts,_,c,q,λx ah v F1 H1 q1 f1 h1 c1 s1=>⟨B,F1,ah,ts,_,c1,q1,λy aP w F2 H2 q2 f2 h2 c2 s2=>by
  have mO:=s1.mono f2 h2
  have fin:∀d z,Qd d aP->S F2 H2 [d] [z]->Q z H2:=λd z hd s=>k d aP z F2 H2 hd (f1.trans f2) (h1.trans h2) c2 s
  unfold qm at q2
  split at q2
  ·obtain⟨d,ed,qd⟩:=q2
   cases s2
   obtain⟨p,ws,rfl,h,t⟩:=nU mO c2.ext rfl
   obtain⟨z,ez,sz⟩:=Ee t ed
   exact .inl ⟨p,ws,_,z,rfl,rfl,mK h,ez,fin d z qd sz⟩
  ·obtain⟨d,ed,qd⟩:=q2
   cases s2
   obtain⟨p,ws,rfl,h,t⟩:=nU mO c2.ext rfl
   obtain⟨z,ez,sz⟩:=Ee t ed
   exact .inl ⟨p,ws,_,z,rfl,rfl,mK h,ez,fin d z qd sz⟩
  ·obtain⟨d,ed,qd⟩:=q2
   cases s2
   obtain⟨p,ws,rfl,h,t⟩:=j5 mO
   obtain⟨z,ez,sz⟩:=Ee t ed
   exact .inr (.inl ⟨p,ws,_,z,rfl,rfl,gn.of h,ez,fin d z qd sz⟩)
  ·obtain⟨hz,ch,ec,qc⟩:=q2
   cases mO
   cases s2
   exact .inr (.inr ⟨_,_,ch,rfl,rfl,hz,ec,fin _ _ qc (.str .nil)⟩)
  ·exact q2.elim⟩⟩
noncomputable abbrev tE:=Dl->(Option Int->Dl->Prop)->Prop
noncomputable def lP(t:tE):TO:=λσ H Q=>∃B F δ ts Qd,aj B F H σ δ ts/\t δ Qd/\∀o ag F' H',Qd o ag->af F F'->af H H'->aj B F' H' σ ag ts->Q o H'
theorem Mp{oe:Option Expr}{u u':TO}(h:PO X oe u)(m:∀σ H Q,u' σ H Q->u σ H Q):PO X oe u':=λpins s σ H Q I q=>h pins s σ H Q I (m σ H Q q)
noncomputable def tF:tE:=λδ Q=>Q none δ
noncomputable def tG(t:aI):tE:=λδ Q=>t δ λd ag=>match d with
 | .int i=>Q (some i) ag
 | _=>False
theorem Ef:PO X none (lP tF):=Mp Wb λσ H Q ⟨B,F,δ,ts,Qd,c,q,k⟩=>k none δ F H q (af.refl _) (af.refl _) c
theorem Eg(h:PE X e (lB t)):PO X (some e) (lP (tG t)):=Mp (Wc h) λσ H Q zq=>by
 obtain⟨B,F,δ,ts,Qd,c,q,k⟩:=zq
 exact⟨B,F,δ,ts,_,c,q,λd ah v F1 H1 q1 f1 h1 c1 s1=>by
 cases s1 with
 | int _=>exact⟨_,rfl,k _ ah F1 H1 q1 f1 h1 c1⟩
 | _=>exact q1.elim⟩
noncomputable def eI{α:Type}(xs:List α)(lo hi:Option Int):List α:=(xs.drop (HT.cM xs.length 0 lo)).take (HT.cM xs.length xs.length hi-HT.cM xs.length 0 lo)
theorem S.cut{xs:List D}{ws:List V}(s:S F H xs ws)(lo hi:Option Int):S F H (eI xs lo hi) (rF ws lo hi):=by
 unfold eI rF
 rw[<-s.length]
 exact(s.drop _).take _
theorem Mq{xs:List D}{p:D->Bool}(h:xs.all p=true)(lo hi:Option Int):(eI xs lo hi).all p=true:=by
 rw[du]at h ⊢
 intro x hx
 exact h x (yQ (yR hx))
noncomputable def tH(t:aI):aI:=λδ Q=>t δ λd ag=>match d with
 | .int i=>Q (.int (Mf.bl i.natAbs:Nat)) ag
 | _=>False
theorem mP(ho:PE X o (lB t))(jV:attributeBase o "bit_length" X.env (eval o X.env)=eval o X.env:=by rfl)(jW:(apos.endLine==bK.line)=true:=by rfl):PE X (.Call (.Attribute o "bit_length" apos) [] [] bK) (lE (tH t)) :=
 cN (DE ho jV jW) λσ H Q zq=>by
 obtain⟨B,F,δ,ts,Qd,c,q,k⟩:=zq
 exact⟨B,F,δ,ts,_,c,q,λd ah v F1 H1 q1 f1 h1 c1 s1=>by
  cases s1 with
  | int _=>exact⟨rfl,_,rfl,rfl,k _ ah _ F1 H1 q1 f1 h1 (c1.pushS (.int .nil) rfl)⟩
  | _=>exact q1.elim⟩
end
end L3
namespace L3
open PySem L2 PySem.Spec PyProof.Rows
section
variable{X:Cx}{F H:Hp}{v w:V}{e a b c o tg:Expr}{es:List Expr}{pos p p2 apos bK pos':Pos}{t ta tb tc te ti:aI}{tr:bQ}{x:Str}{i:Nat}
noncomputable def tI(i:Nat)(t:aI):b9:=λD δ=>(∃xs,δ[i]?=some (some (.lst true xs)))/\t δ λd ag=>∃xs,ag[i]?=some (some (.lst true xs))/\xs.length<sizeLine/\D.nx (ag.set i (some (.lst true (xs++[d]))))
theorem tJ(hN:X.N[i]?=some x)(hv:mh X.env.scope x)(he:PE X e (lE t))(hd:(x==("__debug__":Str))=false:=by decide)(cm:(x==("__classdict__":Str))=false:=by decide)
  (jV:attributeBase (.Name x p) "append" X.env (eval (.Name x p) X.env)=eval (.Name x p) X.env:=by rfl)
  (vR:((backTo bK (starEach [e] X.env)).all (λx=>!x.1)&&(backToKw bK (keywordEach [] X.env)).all (λx=>x.1.isSome)
   && decide ([e].length+([]:List Keyword).length+(if([]:List Keyword).isEmpty then 0 else 1)<30))=true:=by rfl)
  (jW:(apos.endLine==bK.line)=true:=by rfl) (hs:starEach [e] X.env=(false,eval e X.env)::starEach [] X.env:=by rfl) (vS:(backTo bK (starEach [] X.env)).any (·.1)=false:=by rfl)
  (qo:swapsWith (.Call (.Attribute (.Name x p) "append" apos) [e] [] bK) none pos.line X.env=pure false:=by rfl) :
  PS X (.Expr (.Call (.Attribute (.Name x p) "append" apos) [e] [] bK) pos) (lS X (tI i t)) :=
 kN (zt (KL PySem.F.plainAttrs_list PySem.F.slot_list_append PySem.F.type_list_append KP (rC hN hv hd cm) (cC he eR hs) jV vR jW hs vS) qo) λEn σ H zz=>by
  obtain⟨B,F,δ,Dd,c,⟨⟨ys,ey⟩,q⟩,k1,k2,k3,k4⟩:=zz
  obtain⟨p0,DV,g1,g2,g3⟩:=c.ownAt ey
  refine⟨.ref p0,g1,.inl ⟨rfl,_,bH.of g2⟩,B,F,δ,[],_,c,q,λd ag v F' H' hd sf sh c'=>?_⟩
  obtain⟨xs,ex,hl,hn⟩:=hd
  obtain⟨p1,ws,r1,r2,r3⟩:=c'.ownAt ex
  rw[g1]at r1;cases r1
  exact⟨p0,ws,v,rfl,rfl,r2,by omega,k1 _ _ F' _ hn (c'.app ex g1 r2)⟩
noncomputable def tK(i:Nat)(te ti:aI):b9:=λD δ=>te δ λd ah=>∃ys,ah[i]?=some (some (.lst true ys))/\pU ti ah λk aP=>match k with
 | .int n=>∃xs j,aP[i]?=some (some (.lst true xs))/\iz xs.length n=some j/\D.nx (aP.set i (some (.lst true (xs.set j d))))
 | _=>False
theorem z9(hN:X.N[i]?=some x)(hv:mh X.env.scope x)(he:PE X e (lE te))(hi:PE X b (lB ti))(hd:(x==("__debug__":Str))=false:=by decide)(cm:(x==("__classdict__":Str))=false:=by decide)
  (ha:∀v,assign (.Subscript (.Name x p) b pos') X.env v=(do
   let ov<-holding [v] (eval (.Name x p) X.env)
   let iv<-holding [v,ov] (eval b X.env)
   standAt pos'
   holding [v,ov,iv] (setItem ov iv v)
   release [v,ov,iv] []):=by intro _;rfl)
  (hs:swapsWithSole [.Subscript (.Name x p) b pos'] e pos.line X.env=pure false:=by rfl) (hw:swappedStores [.Subscript (.Name x p) b pos'] e X.env=pure none:=by rfl)
  (h1:(assignEach [.Subscript (.Name x p) b pos'] X.env).map (·.2)=[assign (.Subscript (.Name x p) b pos') X.env]:=by rfl) :
  PS X (.Assign [.Subscript (.Name x p) b pos'] e pos) (lS X (tK i te ti)) :=
 kN (UU he (UT (rC hN hv hd cm) (di hi) Wr ha) hs hw h1) λEn σ H zq=>by
 obtain⟨B,F,δ,Dd,c,q,k1,k2,k3,k4⟩:=zq
 exact⟨B,F,δ,[],_,c,q,λd ah v F1 H1 hq f1 h1 c1=>by
  obtain⟨ys,ey,hq⟩:=hq
  obtain⟨p0,DV,g1,g2,g3⟩:=c1.ownAt ey
  refine⟨.ref p0,g1,B,F1,ah,[(d,v)],_,c1,hq,λkd aP kv F2 H2 hk f2 h2 c2=>?_⟩
  have st:=c2.top
  split at hk
  ·obtain⟨xs,j,ex,ej,hn⟩:=hk
   cases st
   have c3:=c2.pop
   obtain⟨p1,ws,r1,r2,r3⟩:=c3.ownAt ex
   rw[g1]at r1;cases r1
   exact⟨p0,ws,_,j,rfl,rfl,r2,by rw[<-r3];exact ej,k1 _ _ F2 _ hn (c3.Yx ex g1 r2 j)⟩
  ·exact hk.elim⟩
end
end L3
namespace L3
open PySem L2 PySem.Spec PyProof.Rows
theorem bX{A:Around}{k:Nat}(hr:bI k A):A.units+6<cLine:=by have:=hr.un;omega
noncomputable def aE(ns:List Int):List D:=ns.map D.int
noncomputable def Eh(o:Obj):Bool:=match o.cls with
 | .type n=>n != "list"
 | _=>true
noncomputable def Mr:bc:=λds Q=>∃ns:List Int,ds=[.fz (aE ns)]/\ns.length<=63/\Q (.bl true)
theorem j8{F H:Hp}:∀ns:List Int,R F H (aE ns) (ns.map V.int) []
 | []=>.nil
 | n::ns=>.int (j8 ns)
theorem Y5{K:PySem.W.Frag}{a:Addr}{o:Obj}(h:K.lookup a=some o):(a,o)∈K:=by
 induction K with
 | nil=>cases h
 | cons p K ih =>
  obtain⟨b,u⟩:=p
  rw[eY]at h
  split at h
  ·rename_i z
   have:a=b:=by simpa using z
   cases h;subst this;simp
  ·exact fM _ (ih h)
end L3
namespace L3
open PySem L2 PySem.Spec PyProof.Rows
section
variable{B:Bs}{F H:Hp}{σ:L2.St}{δ:Dl}{ts ps:List (D × V)}{i k:Nat}{p q:Addr}{l1 l2 ys LF:List D}{ws sY:List V}
end
section
variable{X:Cx}{F H:Hp}{e b:Expr}{pos p pr apos bK Ei:Pos}{t ti te:aI}{x y:Str}{i j:Nat}
end
end L3
namespace L3
open PySem L2 PySem.Spec PyProof.Rows
theorem wC(i:Int):(D.int i).pl=true:=rfl
theorem wD(i:Bool):(D.bl i).pl=true:=rfl
theorem wF(i:Str):(D.str i).pl=true:=rfl
theorem by4:D.ao.pl=true:=rfl
theorem wG(xs:List D):(D.fz xs).pl=true:=rfl
theorem wH(C:Addr)(ns:List Str)(xs:List D):(D.obj C ns xs).pl=true:=rfl
theorem wI(i:Int):(D.int i).fr=true:=rfl
theorem wJ(i:Bool):(D.bl i).fr=true:=rfl
theorem wK(i:Str):(D.str i).fr=true:=rfl
theorem wL:D.ao.fr=true:=rfl
theorem nZ(i:Int):(D.int i).sh=.int i:=rfl
theorem wM(i:Bool):(D.bl i).sh=.bl i:=rfl
theorem wN(i:Str):(D.str i).sh=.str i:=rfl
theorem wO:D.ao.sh=.ao:=rfl
theorem wQ(xs:List D):(D.fz xs).sh=.fz xs:=rfl
theorem wR(C:Addr)(ns:List Str)(xs:List D):(D.obj C ns xs).sh=.obj C ns xs:=rfl
theorem wU{α:Type}(n:Nat)(x:α):(aX n [x]).flatten=aX n x:=by
 induction n with
 | zero=>rfl
 | succ n ih=>rw[oS,rj,ih];rfl
theorem kT(ns:List Int):(aE ns).length=ns.length:=by simp[aE]
theorem n6(ns:List Int):(aE ns).all D.pl=true:=by simp[aE,D.pl]
theorem qp(ns:List Int):(aE ns).all D.fr=true:=by simp[aE,D.fr]
theorem jG(ns:List Int):(aE ns).map D.sh=aE ns:=by simp[aE,D.sh]
theorem tL(a b:List Int):aE a++aE b=aE (a++b):=by simp[aE]
theorem wV(n:Nat)(i:Int):aX n (D.int i)=aE (aX n i):=by simp[aE]
theorem tM(n:Nat)(i:Int):dF n (.int i)=true:=by cases n<;>rfl
theorem wW(n:Nat)(i:Str):dF n (.str i)=true:=by cases n<;>rfl
theorem gF(i j:Int):bE (.int i) (.int j)=decide (i=j):=by
 show(i==j)=_
 rw[Bool.beq_eq_decide_eq]
theorem Ms:∀(a b:List Int),bE.e7 (aE a) (aE b)=decide (a=b)
 | [],[]=>rfl
 | [],_::_=>by simp[aE,bE.e7]
 | _::_,[]=>by simp[aE,bE.e7]
 | x::xs,y::ys=>by
  show(bE (.int x) (.int y)&&bE.e7 (aE xs) (aE ys))=_
  rw[Ms xs ys,gF,rm];simp
theorem tN(o o':Bool)(a b:List Int):bE (.lst o (aE a)) (.lst o' (aE b))=decide (a=b):=Ms a b
theorem Mt{ns:List Int}{k:Nat}(h:k<ns.length):(aE ns)[k]?=some (.int ns[k]):=by simp[aE,h]
theorem kU{ns:List Int}{k:Int}(h0:0<=k)(h:k<ns.length):dD (aE ns) k=some (.int (ns.getD k.toNat 0)):=by
 unfold dD iz
 rw[if_pos h0,kT,if_pos h]
 show(aE ns)[k.toNat]?=_
 have hk:k.toNat<ns.length:=by omega
 rw[Mt hk,aU,aT hk];rfl
theorem tO(ns:List Int)(lo hi:Option Int):eI (aE ns) lo hi=aE (eI ns lo hi):=by simp[eI,aE,JL,JM]
theorem wX(i:Int):kS "int" (.int i)=some true:=by rfl
theorem wY(i:Int):kS "bool" (.int i)=some false:=by rfl
theorem wZ(i:Int):kS "list" (.int i)=some false:=by rfl
theorem w4(o:Bool)(xs:List D):kS "list" (.lst o xs)=some true:=by rfl
theorem w5:kS "int" .ao=some false:=by rfl
theorem w6(x:Str):kS "str" (.str x)=some true:=by rfl
theorem w9(xs:List D):kS "tuple" (.tup xs)=some true:=by rfl
theorem sL:sizeLine=16777216:=rfl
theorem xb{p:Prop}[Decidable p]:(decide p=true)=p:=by simp
theorem Y6{α:Type}(xs:List α)(a b:Nat):eI xs (some (a:Int)) (some (b:Int))=(xs.drop a).take (b-a):=by
 unfold eI
 rw[HT.Dn,HT.Dn]
 by_cases h:a<=xs.length
 ·rw[yS h]
  apply JN
  intro i
  rw[Cz,Cz,List.getElem?_drop]
  by_cases hi:i<b-a
  ·rw[if_pos hi]
   by_cases hb:a+i<xs.length
   ·rw[if_pos (by omega)]
   ·rw[jR (by omega)];simp
  ·rw[if_neg hi,if_neg (by omega)]
 ·rw[Nat.min_eq_right (show xs.length<=a by omega),JO (bG _),JO (show xs.length<=a by omega)];simp
end L3
namespace L2
open PySem PySem.Spec PyProof.Rows
section
variable{X:Cx}{e:Expr}{te:TE}{lo hi:Option Expr}{st:Expr}{tl th ts:TO}{pos p2:Pos}
end
end L2
namespace L3
open PySem L2 PySem.Spec PyProof.Rows
section
variable{X:Cx}{F H:Hp}{e:Expr}{t:aI}{lo hi:Option Expr}{st:Expr}{tl th td:tE}{pos p2:Pos}
theorem Mu:∀{a:List Int} {ws:List V},S F H (aE a) ws->ws=a.map V.int
 | [],_,s=>by cases s;rfl
 | b::bs,_,s=>by
  cases s with
  | int s=>rw[Mu s];rfl
noncomputable def Ej:Expr->Option Int
 | .Constant (.int i) _ _=>some i
 | _=>none
noncomputable def Aa:List Expr->Option (List Int)
 | []=>some []
 | e::es=>(Ej e).bind λi=>(Aa es).map (i :: ·)
theorem Y7{e:Expr}{i:Int}(h:Ej e=some i):∃a b,e=.Constant (.int i) a b:=by
 cases e with
 | Constant c a b =>
  cases c with
  | int j=>cases h;exact⟨_,_,rfl⟩
  | _=>cases h
 | _=>cases h
noncomputable def Y8(ns:List Int):bQ:=λδ Q=>Q (aE ns) δ
theorem Mv:∀(es:List Expr) (ns:List Int),Aa es=some ns->PA X es (lO (Y8 ns))
 | [],ns,h=>by cases h;exact dR
 | e::es,ns,h=>by
  obtain⟨i,hi,h2⟩:=Option.bind_eq_some_iff.mp (show(Ej e).bind (λi=>(Aa es).map (i :: ·))=some ns from h)
  obtain⟨ms,hm,rfl⟩:=Cy.mp h2
  obtain⟨a,b,rfl⟩:=Y7 hi
  exact wd (cx (ak (i:=i)) (Mv es ms hm)) λ_ _ _ q=>q
noncomputable def tP(ns:List Int):aI:=λδ Q=>ns.length<=sizeLine/\Q (.lst true (aE ns)) δ
theorem Mw{es:List Expr}{ns:List Int}(h:Aa es=some ns):PE X (.List es pos) (lE (tP ns)) :=
 cN (fF (Mv es ns h)) λ_ _ _ zq=>by
 obtain⟨B,F,δ,ts,Qd,c,q,k⟩:=zq
 exact⟨B,F,δ,ts,Qd,c,by
  show(aE ns).length<=sizeLine/\_
  rw[kT];exact q,k⟩
theorem Mx{ns:List Int}(h:0<ns.length):dD (aE ns) (-1)=some (.int (ns.getD (ns.length-1) 0)):=by
 unfold dD iz
 rw[if_neg (by decide),kT,if_pos (by omega)]
 have hk:((-1:Int)+ns.length).toNat=ns.length-1:=by omega
 show(aE ns)[((-1:Int)+ns.length).toNat]?=_
 rw[hk,Mt (by omega),aU,aT (by omega)];rfl
theorem Ab{n:Nat}{g:gC}{tb:b9}{En:pS}{δ:Dl}(Iv:Nat->Dl->Prop)(h0:Iv 0 δ)(ht:∀k ag,k<n->Iv k ag->g (.int k) ag λaP=>tb { En with nx:=Iv (k+1),ct:=Iv (k+1),bk:=En.nx } aP)
  (hf:∀ag,Iv n ag->En.nx ag):g7 (CA (λ(k:Nat)=>D.int (0+(k:Int))) (aJ (n:Int).toNat)) g tb En δ:=by
 rw[jN]
 refine g7.mk Iv h0 (λi d ag hd iv=>?_) λag iv=>hf ag (by simpa using iv)
 rw[cP]at hd
 obtain⟨k,hk,rfl⟩:=Cy.mp hd
 have hi:i<n:=by have:=(jr.mp hk).1;simpa using this
 rw[kr hi]at hk
 cases hk
 rw[JP]
 exact ht i ag hi iv
theorem kE{xs:List D}{k:Int}{d:D}(h0:0<=k)(h:xs[k.toNat]?=some d):dD xs k=some d:=by
 unfold dD iz
 have hk:k.toNat<xs.length:=(jr.mp h).1
 rw[if_pos h0,if_pos (by omega)]
 exact h
end
end L3
namespace L3
open PySem L2 PySem.Spec PyProof.Rows
noncomputable abbrev jH:=List D->(D->Prop)->(Addr->Prop)->Prop
noncomputable def mQ(sp:jH):Sp:=λvs H Q E=>∃F ds Qd Ed,af F H/\R F H ds vs []/\sp ds Qd Ed/\(∀d v F' H' A,Qd d->af H H'->af F F'->af F' H'->(∀a ws,F' a=some (.lst ws)->F a=some (.lst ws)\/H a=none)->R F' H' [d] [v] A->A.Nodup->(∀a∈A,H a=none)->Q v H') /\
 ∀C H',Ed C->af H H'->E (.ref C) none H'
section
variable{P:Program}{w:World}{K:PySem.W.Frag}{mg:Str->Option Value}{base:Heap}
theorem Mz{x qual:Str}{st:Stmt}{f:Addr}{fd:FuncData}{N ps:List Str}{k:Nat}{sp:jH}(F:aZ K x qual st f fd)(S:aY N ps (aK st))(len:∀ds Q E,sp ds Q E->ds.length=ps.length)
  (fm:∀(ax:Value) (A:Around) (outer:List Env) (s:Shared) (H:Hp) (E:XK),bI k (A.deeper (envOfC qual (aK st) s.heap.objs.size f ax)) ->
   ∃t:b9,PSs (fS (gY P w) P w K mg base N qual (aK st) f ax A outer s H E) (eD st) (lS (fS (gY P w) P w K mg base N qual (aK st) f ax A outer s H E) t) /\
    ∀ds Q Ex,sp ds Q Ex->t { nx:=λ_=>Q .ao,rt:=Q,xc:=λC _=>Ex C,xr:=λC _=>Ex C } (i7 N ds)):aL P w K mg base (gY P w) (k+1) f fd ps (mQ sp):=by
 obtain⟨oc,od,kV,doc,pm,an,ax,ct,fU,rfl,lk,cm⟩:=F.ex
 refine vP lk cm S (λvs H Q E ⟨F,ds,Qd,Ed,e,r,h,_⟩=>by rw[<-r.length];exact len ds Qd Ed h) λA outer s H vs Q E hr zz=>?_
 obtain⟨F,ds,Qd,Ed,e,r,h,k,kx⟩:=zz
 obtain⟨t,ht,hq⟩:=fm ax A outer s H E hr
 have fin:∀d v ag aw F' H',Qd d->aj ⟨H,F⟩ F' H' aw ag [(d,v)]->Q v H':=λd v ag aw F' H' hd c=>by
  obtain⟨A,C,r',s',nd,fr⟩:=c.own
  exact k d v F' H' A hd c.b1 c.b2 c.ext c.b3 r' (fW.mp nd).1 λa ha=>fr a (eB _ ha)
 have e1:L2.start N vs=vs.map some++aX (N.length-ds.length) none:=by unfold L2.start;rw[r.length]
 refine⟨_,ht,⟨H,F⟩,F,i7 N ds,_,?_,hq ds Qd Ed h,λag aw F' H' hd c=>fin .ao .ao ag aw F' H' hd (c.pushS (.ao .nil) rfl),fin,λ_ _ _ _ z=>z.elim,λ_ _ _ _ z=>z.elim,λC ag pins aw F' H' s' a T hx c I tr pa pT=>?_,λC ag pins aw F' H' s' h' e vs hx c I hm=>?_⟩
 ·rw[e1]
  exact aj.start e r _
 ·exact Lw I rfl rfl rfl tr pa pT λh' T' g=>⟨a,T',.ref C,H',rfl,I.os,I.bare,g.un,g.az,g.nK,g.a0,g.a1,g.t0,g.t1,kx C H' hx c.b1⟩
 ·exact Lx I rfl rfl rfl hm λh' T' g=>⟨e,T',.ref C,H',rfl,I.os,I.bare,g.un,g.az,g.nK,g.a0,g.a1,g.t0,g.t1,kx C H' hx c.b1⟩
end
noncomputable abbrev MA:=L2.St->Hp->VK->(Value->Hp->Prop)->Prop
noncomputable def PX(X:Cx)(e:Expr)(t:MA):Prop:=∀(pins:List (Addr × Obj)) (s:Shared) (σ:L2.St) (H:Hp) (Q:VK) (Z:Value->Hp->Prop),Inv X pins σ H s ->
 (∀a T cls H' s',Inv X pins σ H' s'->gA s'.heap a T cls->Apart X pins H' a->Apart X pins H' T->Z cls H'->X.xe (.ref a) s')->t σ H Q Z->wpAny (model X.prog X.w) X.A (eval e X.env) (EP X pins σ Q) X.xe s
noncomputable abbrev Ac:=Dl->(D->Dl->Prop)->(Addr->Dl->Prop)->Prop
noncomputable def lX(t:Ac):MA:=λσ H Q Z=>∃B F δ Qd Zd,aj B F H σ δ []/\t δ Qd Zd/\(∀d ag v F' H',Qd d ag->af F F'->af H H'->aj B F' H' σ ag [(d,v)]->Q v H')/\∀C ag F' H',Zd C ag->af F F'->af H H'->aj B F' H' σ ag []->Z (.ref C) H'
section
variable{X:Cx}{n:Nat}{f:Addr}{fd:FuncData}{ps:List Str}{sp:jH}{x:Str}{p pos:Pos}{e:Expr}{es:List Expr}{t:bQ}{tx:Ac}
theorem Y9{B:Bs}{F H:Hp}{σ:L2.St}{Dd:pS}{pins:List (Addr × Obj)}(xl:XL X B Dd):∀a T cls H' s',Inv X pins σ H' s'->gA s'.heap a T cls->Apart X pins H' a->Apart X pins H' T->(∃C ag F',cls=.ref C/\Dd.xc C ag/\aj B F' H' σ ag [])->X.xe (.ref a) s':=by
 rintro a T cls H' s' I tr pa pT ⟨C,ag,F',rfl,hx,c⟩
 exact xl.1 C ag pins σ F' H' s' a T hx c I tr pa pT
noncomputable def tQ(t:Ac):b9:=λD δ=>t δ (λ_ ag=>D.nx ag) D.xc
theorem Za(he:PX X e (lX tx))(hs:swapsWith e none pos.line X.env=pure false:=by rfl):PS X (.Expr e pos) (lS X (tQ tx)):=by
 intro pins s σ H D I zz
 obtain⟨B,F,δ,Dd,c,q,k1,k2,k3,k4,xl⟩:=zz
 refine wpAny_Expr_any (aM (he pins s σ H (λ_ H1=>D.nx σ H1) (λcls H'=>∃C ag F',cls=.ref C/\Dd.xc C ag/\aj B F' H' σ ag []) I (Y9 (H:=H) (F:=F) xl) ⟨B,F,δ,_,_,c,q,λd ag v F' H' hd _ _ c'=>k1 ag σ F' H' hd c'.pop,λC ag F' H' hC _ _ c'=>⟨C,ag,F',rfl,hC,c'⟩⟩) λv s1 ⟨x,H1,I1,r1,q1⟩=>⟨σ,H1,I1,q1⟩) I.quiet hs
noncomputable def tR(t:b9):b9:=λD δ=>t { D with xc:=λ_ _=>False,xr:=λ_ _=>False } δ
theorem Zb{st:Stmt}{u:b9}(h:PS X.fk st (lS X.fk u)):PS X st (lS X (tR u)):=by
 intro pins s σ H D I zz
 obtain⟨B,F,δ,Dd,c,q,k1,k2,k3,k4,xl⟩:=zz
 exact wpAny_mono (h pins s σ H D (I.ju _) ⟨B,F,δ,_,c,q,k1,k2,k3,k4,XL.none (λ_ _ z=>z) λ_ _ z=>z⟩) (λ_ _ q=>q.kB) λ_ _ z=>eC z
noncomputable def tS(C:Addr)(t:bQ):b9:=λD δ=>t δ λds ag=>ds.length<=9/\D.xr C ag
structure Ad(K:PySem.W.Frag)(mg:Str->Option Value)(x:Str)(C:Addr):Prop where
 own:∀h:Heap,K.In h->h.Ns mainGlobals mg->∃newId Bn MB MC B MD ME Ae,OwnCls x C Ae newId mg h/\ExcBaseFacts Bn newId MB MC/\Ae.contains (.type Bn)=true/\ExcBaseFacts B MD ME Ae
theorem Ek{C:Addr}{np bK:Pos}(hm:Ad X.K X.mg x C)(hc:X.calm=true)(hg:Gl X x)(ha:PA X (e::es) (lA t))(cE:(x==("__debug__":Str))=false:=by decide)
  (he:starEach (e::es) X.env=(false,eval e X.env)::starEach es X.env:=by rfl) (bg:(backTo bK (starEach es X.env)).any (·.1)=false:=by rfl) :
  PS X (.Raise (some (.Call (.Name x np) (e::es) [] bK)) none pos) (lS X (tS C t)):=by
 intro pins s σ H D I zz
 obtain⟨B,F,δ,Dd,c,q,k1,k2,k3,k4,xl⟩:=zz
 obtain⟨newId,Bn,MB,MC,B',MD,ME,Ae,O,Fn,Zc,FB⟩:=hm.own X.base I.ok.mod.kz I.ok.mod.glob
 obtain⟨tl,N,nm,qn,bs,hdct,sn,sub,ab,col,dd,k0,qh,sZ,Ze,k5,mN,hC,hN,kW,T⟩:=O.obj
 refine wpAny_Raise_call_subU (k5:=k5) (k3:=Ze) (k2:=sZ) (k1:=qh) (k0:=k0) (dd:=dd) (col:=col) (ab:=ab) (sub:=sub) (sn:=sn) (hdct:=hdct) (bs:=bs) (N:=N) (q:=qn) (nm:=nm) (C:=C) Fn Zc FB (mN:=mN) (T.hasType FB.hasBase) (I.ok.hd hc) (by rw[he];show(false||(backTo bK (starEach es X.env)).any (·.1))=false;rw[bg];rfl) kW (ph I hg O.bound ⟨rfl,?_⟩ cE)
 have Af:=ha bK pins s σ H (λvs H1=>vs.length<=9/\∃ag F',Dd.xr C ag/\aj B F' H1 σ ag []) I ⟨B,F,δ,[],_,c,q,λds ah vs F1 H1 q1 f1 h1 c1 s1=>⟨by rw[<-s1.length];exact q1.1,ah,F1,q1.2,c1⟩⟩
 rw[he]at Af ⊢
 refine Calls.evalArgs_plain (wpAny_mono Af (λus s2 h2=>?_) λ_ _ y=>y)
 obtain⟨vs,H1,I1,r,hl,ag,F',hx,c'⟩:=h2
 exact⟨rfl,by rw[<-r.length];exact eO hl (by decide),I1.bk _ _ hC,hN.keeps I1.bk,T.keeps I1.bk,λh' e' Zf=>xl.2 C ag pins σ F' H1 s2 h' e' _ hx c' I1 Zf⟩
end
end L3
namespace L3
open PySem L2 PySem.Spec PyProof.Rows
section
variable{X:Cx}{pins rB:List (Addr × Obj)}{σ:L2.St}{H:Hp}{s:Shared}{a:Addr}
noncomputable abbrev tr(X:Cx)(xe:Value->Shared->Prop)(pn:List (Addr × Obj)):Cx:={ X with xe:=xe,pn:=pn }
noncomputable abbrev tT(X:Cx)(A:Around)(xe:Value->Shared->Prop):Cx:={ X with A:=A,calm:=false,xe:=xe }
theorem Zg(ok:X.Ok)(xe:Value->Shared->Prop)(pn:List (Addr × Obj)):(tr X xe pn).Ok :=
 ⟨ok.mod,ok.kind,ok.glob,ok.blt,ok.above,ok.inj,ok.has,ok.mi,ok.hd,ok.frames,ok.o9,ok.pd,ok.bs,ok.iq,ok.nB,ok.nC,ok.fj,ok.ir⟩
theorem Zh(I:Inv X pins σ H s)(xe:Value->Shared->Prop):Inv (tr X xe (X.pn++pins)) [] σ H s :=
 ⟨Zg I.ok _ _,I.os,I.bare,I.base,I.loc,I.cell,I.free,I.eZ,λp hp=>I.pin p (by simpa using hp),I.az,I.len⟩
theorem xf{xe:Value->Shared->Prop}(ok:X.Ok)(I:Inv (tr X xe (X.pn++pins)) rB σ H s):Inv X pins σ H s :=
 ⟨ok,I.os,I.bare,I.base,I.loc,I.cell,I.free,I.eZ,λp hp=>I.pin p (eB _ hp),I.az,I.len⟩
theorem MF{xe:Value->Shared->Prop}(p:Apart (tr X xe (X.pn++pins)) rB H a):Apart X pins H a:=⟨p.old,p.free,p.loc,p.cell,λq hq=>p.pin q (eB _ hq),p.fr⟩
theorem Zi(ok:X.Ok){A:Around}(hA:A.frames=X.A.frames)(xe:Value->Shared->Prop):(tT X A xe).Ok :=
 ⟨ok.mod,ok.kind,ok.glob,ok.blt,ok.above,ok.inj,ok.has,ok.mi,(λh=>Bool.noConfusion h),hA.trans ok.frames,ok.o9,ok.pd,ok.bs,ok.iq,ok.nB,ok.nC,ok.fj,ok.ir⟩
theorem MG(I:Inv X pins σ H s){A:Around}(hA:A.frames=X.A.frames)(xe:Value->Shared->Prop):Inv (tT X A xe) pins σ H s :=
 ⟨Zi I.ok hA xe,I.os,I.bare,I.base,I.loc,I.cell,I.free,I.eZ,I.pin,I.az,I.len⟩
theorem Zj{A:Around}{xe:Value->Shared->Prop}(ok:X.Ok)(I:Inv (tT X A xe) pins σ H s):Inv X pins σ H s:=⟨ok,I.os,I.bare,I.base,I.loc,I.cell,I.free,I.eZ,I.pin,I.az,I.len⟩
theorem Zk{φ:Heap->Prop}(I:Inv X pins σ H s)(pa:Apart X pins H a)(ho:∃o,s.heap.get? a=some o)(h1:φ s.heap)(h2:∀g g':Heap,φ g->(∀o,g.get? a=some o->g'.get? a=some o)->φ g'):Inv X pins σ (upd H a (.ext φ)) s:=by
 have ne:∀{b:Addr} {u:HO},H b=some u->b≠a:=λ{b u} q=>cT q pa.free
 refine⟨I.ok,I.os,I.bare,⟨I.base.keep,I.base.slot,λb o e n hx=>?_,I.base.there,λb xs e=>?_,λb o xs e=>?_,λb ps e=>?_⟩,I.loc,I.cell,?_,λx c e=>?_,λp hp=>?_,λb u e=>?_,I.len⟩
 ·rw[aO (λz=>by rw[z,pa.old]at e;cases e)];exact I.base.free b o e n hx
 ·have q:=I.base.gW b xs e;rw[aO (ne q)];exact q
 ·have q:=I.base.gk b o xs e;rw[aO (ne q)];exact q
 ·obtain⟨m,q⟩:=I.base.fA b ps e;exact⟨m,by rw[aO (ne q)];exact q⟩
 ·rw[aO (dU pa.loc)];exact I.free
 ·rw[aO (pa.cell x c e)];exact I.eZ x c e
 ·obtain⟨q1,q2,q3,q4,q5⟩:=I.pin p hp
  exact⟨q1,by rw[aO (pa.pin p hp)];exact q2,q3,q4,q5⟩
 ·by_cases hb:b=a
  ·subst hb;rw[bA]at e;cases e;exact⟨h1,ho,λg g' p kk=>h2 g g' p λo q=>kk _ o (.inl rfl) q⟩
  ·rw[aO hb]at e
   exact(I.az b u e).ik (λ_ _ _ q=>q) (λc q=>by rw[aO (ne q)];exact q) (λc xs q=>by rw[aO (ne q)];exact q) λc xs q=>by rw[aO (ne q)];exact q
end
theorem aj.unset{B:Bs}{F H:Hp}{σ:L2.St}{δ:Dl}{ts:List (D × V)}(c:aj B F H σ δ ts)(i:Nat):aj B F H (σ.set i none) (δ.set i none) ts:=by
 obtain⟨A,C,r,q,nd,fr⟩:=(c.forget i).own
 refine⟨c.ext,c.b1,c.b2,c.b3,A,C,r,q.rR none ?_,nd,fr⟩
 by_cases h:i<δ.length
 ·exact .inl (by rw[yF h])
 ·exact .inr (by rw[jR (by simpa using h)])
noncomputable abbrev exc(C:Addr):D:=.bu (.ext λa=>kK a C)
theorem MH{h:Heap}{a T C:Addr}(t:gA h a T (.ref C)):kK a C h:=by
 obtain⟨oe,vs,oT,ts,h1,h2,h3,h4,_⟩:=t
 exact⟨oe,h1,h2,by obtain⟨c,d,dt,sl⟩:=oe;cases h4;rfl,h3⟩
theorem Zl{a C:Addr}(g g':Heap)(h:kK a C g)(k:∀o,g.get? a=some o->g'.get? a=some o):kK a C g':=let⟨o,h1,r⟩:=h;⟨o,k o h1,r⟩
section
variable{X:Cx}{tb th:b9}{body El:List Stmt}{Em:Stmt}{K n:Str}{Kc:Addr}{i:Nat}{kp MI pos:Pos}
noncomputable def tU(K:PySem.W.Frag)(c:Value)(i:Nat)(tb th:b9):b9:=λD δ=>tb { D with
 xc:=λC ag=>PySem.W.exmOne K (.ref C) c=some true/\th { nx:=λaP=>D.nx (aP.set i none),rt:=λ_=>False } (ag.set i (some (exc C)))
 xr:=λ_ _=>False } δ
theorem Zm(hb:∀xe pn,PSs (tr X xe pn) body (lS (tr X xe pn) tb))(Zn:∀A' xe,PSs (tT X A' xe) (Em::El) (lS (tT X A' xe) th))(hg:Gl X K)(hm:X.mg K=some (.ref Kc))(hN:X.N.Nodup)(hi:X.N[i]?=some n)
  (hl:X.env.scope.names.lookup n=some .local) (hex:X.ex=[]) (bS:X.stack=X.env::X.outer) (hf:X.env.frame=some X.env.locals) (cE:(K==("__debug__":Str))=false:=by decide) :
  PS X (.Try body [.ExceptHandler (some (.Name K kp)) (some n) (Em::El) MI] [] [] pos) (lS X (tU X.K (.ref Kc) i tb th)):=by
 intro pins s σ H D I zz
 obtain⟨B,F,δ,Dd,c,q,k1,k2,k3,k4,xl⟩:=zz
 refine wpAny_Try_except (wpAny_mono (hb (λe s'=>∃a T C aw F' H' ag,e=.ref a/\Inv X pins aw H' s'/\gA s'.heap a T (.ref C)/\Apart X pins H' a/\Apart X pins H' T/\aj B F' H' aw ag []/\PySem.W.exmOne X.K (.ref C) (.ref Kc)=some true/\th { nx:=λaP=>Dd.nx (aP.set i none),rt:=λ_=>False } (ag.set i (some (exc C)))) (X.pn++pins) [] s σ H D (Zh I _) ⟨B,F,δ,_,c,q,k1,k2,k3,k4,λC ag rB aw F' H' s' a T hx c' I' DJ pa pT=>⟨a,T,C,aw,F',H',ag,rfl,xf I.ok I',DJ,MF pa,MF pT,c',hx⟩,λ_ _ _ _ _ _ _ _ _ _ z=>z.elim⟩) (λf s1 hS=>?_) λe s1 hx=>?_)
 ·cases f with
  | next=>obtain⟨aw,H',I',q'⟩:=hS;exact vF (X:=X) pins s1 aw H' D (xf I.ok I') q'
  | brk=>obtain⟨aw,H',I',q'⟩:=hS;exact⟨aw,H',xf I.ok I',q'⟩
  | cont=>obtain⟨aw,H',I',q'⟩:=hS;exact⟨aw,H',xf I.ok I',q'⟩
  | ret u=>obtain⟨v,aw,H',I',r',q'⟩:=hS;exact⟨v,aw,H',xf I.ok I',r',q'⟩
 ·obtain⟨a,T,C,aw,F',H',ag,rfl,I1,t1,pa,pT,c1,bW,Zo⟩:=hx
  refine XM I1 bS hex hf t1 pa pT λh2 T2 I2 t2 Zp=>?_
  refine wpAny_handleBy_cons (codeAny_handlers_test (ph (X:=tT X (X.A.mark (some (.ref a))) X.xe) (MG (A:=X.A.mark (some (.ref a))) I2 rfl X.xe) hg hm ?_ cE)) (by intro z;cases z)
  have x2:=MH t2
  obtain⟨o2,e2,Zq,_⟩:=id x2
  have LT:PySem.W.Looks (model X.prog X.w) h2 (typeOf (.ref a)) (.ref C):=Zq ▸ (PySem.W.Looks.ld e2).andThen .now
  refine(PySem.W.exm_one I2.ck LT bW).here ?_
  refine codeAny_handlers_suite_as (XN I2 hex t2 Zp λh3 I3 t3=>?_)
  have x3:=MH t3
  have I4:=Zk (φ:=kK a C) I3 pa (x3.imp λo z=>z.1) x3 (λg g' z k=>Zl g g' z k)
  refine zi I4 hN hi (.inl hl) (v:=.ref a) rfl (λs5 I5=>?_) (.inr hl)
  refine wpAny_mono (Zn _ _ pins s5 _ _ { nx:=λi4 H2=>D.nx (i4.set i none) H2,rt:=λ_ _=>False } (MG (A:=X.A.mark (some (.ref a))) I5 rfl _) ⟨B,F',ag.set i (some (exc C)),_,?_,Zo,λaP i4 F2 H2 hn c2=>k1 _ _ F2 H2 hn (c2.unset i),λ_ _ _ _ _ _ z=>z.elim,λ_ _ _ _ z=>z.elim,λ_ _ _ _ z=>z.elim,XL.none (λ_ _ z=>z) λ_ _ z=>z⟩) (λf s6 hS=>?_) λ_ _ z=>z
  ·exact((c1.grow (af.upd pa.free)).pushS (d:=exc C) (v:=.ref a) (.bu bA .nil) rfl).store i
  ·cases f with
   | next =>
    obtain⟨zC,H6,I6,q6⟩:=hS
    exact XO (Zj I.ok I6) hN hi hl λs7 I7=>⟨_,H6,I7,q6⟩
   | brk=>obtain⟨_,_,_,z⟩:=hS;exact z.elim
   | cont=>obtain⟨_,_,_,z⟩:=hS;exact z.elim
   | ret u=>obtain⟨_,_,_,_,_,z⟩:=hS;exact z.elim
end
end L3
namespace L3
open PySem L2 PySem.Spec PyProof.Rows
noncomputable def Eo:V->Option Value
 | .ref a=>some (.ref a)
 | .ty n=>some (.type n)
 | _=>none
theorem Zr{c:V}{u cv:Value}(h:Eo c=some cv)(r:RelV c u):u=cv:=by
 cases c<;>cases h<;>exact r
inductive Ag(K:PySem.W.Frag)(H:Hp):V->Value->Prop where
 | ty {v:V} {t:Value} (h:gr K H v t):Ag K H v t
 | exc {a C:Addr} (e:H a=some (.ext (kK a C))) (x:rM K C):Ag K H (.ref a) (.ref C)
noncomputable def Zs(K:PySem.W.Frag):List V->Hp->VK->Prop:=λxs H Q=>∃x c cv t b,xs=[x,c]/\Eo c=some cv/\Ag K H x t/\PySem.W.kitOne K t cv=some b/\Q (.bl b) H
section
variable{X:Cx}{F H:Hp}{v:V}{a:Expr}{ta:aI}{p pos:Pos}
theorem Zt:fQ X (.builtin "isinstance") (Zs X.K):=by
 intro pins s σ H xs us Q I r h
 obtain⟨x,c,cv,t,b,rfl,hv,ty,e,q⟩:=h
 obtain⟨u,v,rfl,ru,rv⟩:=r.two
 cases Zr hv rv
 cases ty with
 | ty ty=>exact Kq I ru ty e λtk=>⟨.bl b,H,I.tok _,rfl,q⟩
 | @exc a C ea x =>
  cases(show u=cj a from ru)
  obtain⟨xa,_,_⟩:=(show dk X.prog X.w H s.heap a (.ext (kK a C)) from I.az a _ ea)
  exact PySem.W.kia_one (X0 x) I.ck xa e (λz=>nomatch z) λtk=>⟨.bl b,H,I.tok _,rfl,q⟩
noncomputable def Ep(K:PySem.W.Frag)(cv:Value)(d:D)(r:Bool):Prop:=match d with
 | .bu φ=>∃C,(φ=.ext λa=>kK a C)/\rM K C/\PySem.W.kitOne K (.ref C) cv=some r
 | d=>∃k,z7 d=some k/\PySem.W.kitOne K (.type k) cv=some r
theorem Zu{K:PySem.W.Frag}{cv:Value}{d:D}{r:Bool}(s:S F H [d] [v])(e:af F H)(h:Ep K cv d r):∃t,Ag K H v t/\PySem.W.kitOne K t cv=some r:=by
 cases s with
 | bu h' _=>obtain⟨C,rfl,x,k⟩:=h;exact⟨_,.exc h' x,k⟩
 | int z=>obtain⟨k,hk,h⟩:=h;exact⟨_,.ty (mL (.int .nil) e hk),h⟩
 | bl z=>obtain⟨k,hk,h⟩:=h;exact⟨_,.ty (mL (.bl .nil) e hk),h⟩
 | ao z=>obtain⟨k,hk,h⟩:=h;exact⟨_,.ty (mL (.ao .nil) e hk),h⟩
 | str z=>obtain⟨k,hk,h⟩:=h;exact⟨_,.ty (mL (.str .nil) e hk),h⟩
 | shr h' q z=>obtain⟨k,hk,h⟩:=h;exact⟨_,.ty (mL (.shr h' q .nil) e hk),h⟩
 | own h' q z=>obtain⟨k,hk,h⟩:=h;exact⟨_,.ty (mL (.own h' q .nil) e hk),h⟩
 | fz h' q z=>obtain⟨k,hk,h⟩:=h;exact⟨_,.ty (mL (.fz h' q .nil) e hk),h⟩
 | tup h' q z=>obtain⟨k,hk,h⟩:=h;exact⟨_,.ty (mL (.tup h' q .nil) e hk),h⟩
 | obj _ _ _ _=>obtain⟨k,hk,h⟩:=h;cases hk
noncomputable def n8(K:PySem.W.Frag)(cv:Value)(t:aI):aI:=λδ Q=>t δ λd ag=>∃r,Ep K cv d r/\Q (.bl r) ag
theorem MJ{y:Str}{q:Pos}{c:V}{cv:Value}(hg:Gl X "isinstance")(hm:X.mg "isinstance"=none)(hc:PE X (.Name y q) (tC c))(Zv:Eo c=some cv)(ha:PE X a (lB ta))
  (hs:starEach [a,.Name y q] X.env=(false,eval a X.env)::starEach [.Name y q] X.env) (dW:starEach [.Name y q] X.env=(false,eval (.Name y q) X.env)::starEach [] X.env) (bg:(backTo pos (starEach [.Name y q] X.env)).any (·.1)=false) :
  PE X (.Call (.Name "isinstance" p) [a,.Name y q] [] pos) (lE (n8 X.K cv ta)) :=
 cN (zI Zt hg hm Lh (cC ha (cC hc eR dW) hs) (by decide) (by decide) hs bg) λσ H Q zq=>by
 obtain⟨B,F,δ,ts,Qd,c,q,k⟩:=zq
 exact⟨B,F,δ,ts,_,c,q,λd ah v F1 H1 q1 f1 h1 c1 s1=>by
  obtain⟨r,e,qr⟩:=q1
  obtain⟨t,h2,h3⟩:=Zu (K:=X.K) s1 c1.ext e
  exact⟨v,_,_,t,r,rfl,Zv,h2,h3,k _ ah _ F1 H1 qr f1 h1 (c1.pushS (.bl .nil) rfl)⟩⟩
theorem MK{y:Str}{q:Pos}{C:Addr}(hg:Gl X "isinstance")(hm:X.mg "isinstance"=none)(mM:Gl X y)(jF:X.mg y=some (.ref C))(ha:PE X a (lB ta))(hd:(y==("__debug__":Str))=false:=by decide)
  (hs:starEach [a,.Name y q] X.env=(false,eval a X.env)::starEach [.Name y q] X.env:=by rfl) (dW:starEach [.Name y q] X.env=(false,eval (.Name y q) X.env)::starEach [] X.env:=by rfl) (bg:(backTo pos (starEach [.Name y q] X.env)).any (·.1)=false:=by rfl) :
  PE X (.Call (.Name "isinstance" p) [a,.Name y q] [] pos) (lE (n8 X.K (.ref C) ta)) :=
 MJ hg hm (Uq (v:=.ref C) mM jF rfl hd) rfl ha hs dW bg
theorem Zw{n:String}{y:Str}{q:Pos}(hg:Gl X "isinstance")(hm:X.mg "isinstance"=none)(mM:Gl X y)(jF:X.mg y=none)(Ec:bootBuiltins y=some (.type n))(ha:PE X a (lB ta))
  (hn:y≠"__name__":=by decide) (hd:(y==("__debug__":Str))=false:=by decide)
  (hs:starEach [a,.Name y q] X.env=(false,eval a X.env)::starEach [.Name y q] X.env:=by rfl) (dW:starEach [.Name y q] X.env=(false,eval (.Name y q) X.env)::starEach [] X.env:=by rfl) (bg:(backTo pos (starEach [.Name y q] X.env)).any (·.1)=false:=by rfl) :
  PE X (.Call (.Name "isinstance" p) [a,.Name y q] [] pos) (lE (n8 X.K (.type n) ta)) :=
 MJ hg hm (Ln mM jF Ec hn hd) rfl ha hs dW bg
end
section
variable{K:PySem.W.Frag}{mg:Str->Option Value}{x:Str}{C:Addr}
theorem MM(hm:mg x=some (.ref C))(q:PySem.W.excIn K C [.type "ValueError",.type "Exception",.type "BaseException",.type "object"] "ValueError.__new__"=true):Ad K mg x C:=by
 refine⟨λh X G=>⟨"ValueError.__new__","ValueError",_,_,"ValueError",_,_,[.type "ValueError",.type "Exception",.type "BaseException",.type "object"],?_,PySem.F.excBase_ValueError,rfl,PySem.F.excBase_ValueError⟩⟩
 refine⟨hm,?_⟩
 unfold PySem.W.excIn at q
 split at q
 ·rename_i dd cd sl ho
  split at q
  ·rename_i C' bm k0 k1 k2 k3 n k5 hm hs
   simp only[dz,beq_iff_eq,Bool.not_eq_true']at q
   obtain⟨⟨⟨⟨⟨rfl,rfl⟩,MN⟩,ht⟩,az⟩,kW⟩:=q
   obtain⟨nm,bs,mro,ns,qn,hd,sn,sub,ab,col,del⟩:=cd
   dsimp only at hm MN az kW
   subst hm MN
   have Zx:sl=#[k0,k1,k2,k3,some (.builtin "ValueError.__new__"),k5]:=by
    obtain⟨l⟩:=sl
    simp only at hs
    rw[hs]
   subst Zx
   exact⟨bm,ns,nm,qn,bs,hd,sn,sub,ab,col,dd,k0,k1,k2,k3,k5,_,X _ _ ho,.of_isNs (PySem.W.isNs_of_in X az),PySem.W.nsMap_none_of_in X az kW,PySem.W.tail_of_in X ht⟩
  ·cases q
 ·cases q
open PySem.W in
theorem tV{t:Value}{b:Bool}(iE:(t==.ref C)=false)(h1:(clsIn K C).isSome=true)(h2:typeIn K (.ref C)=some (.type "type"))(h3:subIn K t (.ref C)=some b):kitOne K t (.ref C)=some b:=by
 unfold kitOne kitCls
 rw[iE]
 simp only[nv,if_false]
 rw[h1,h2,if_pos (by rfl),h3]
open PySem.W in
theorem MP{t:Value}{n:String}{b:Bool}(iE:(t==.type n)=false)(h1:kitMeta n=true)(h3:subIn K t (.type n)=some b):kitOne K t (.type n)=some b:=by
 unfold kitOne kitCls
 rw[iE]
 simp only[nv,if_false]
 rw[if_pos h1,h3]
open PySem.W in
theorem MQ{t:Value}{b:Bool}(h1:(clsIn K C).isSome=true)(h2:typeIn K (.ref C)=some (.type "type"))(h0:subIn K (.ref C) (.type "BaseException")=some true)(h3:subIn K t (.ref C)=some b):exmOne K t (.ref C)=some b:=by
 unfold exmOne kitCls
 rw[h0,if_pos (by rfl)]
 simp only
 rw[h1,h2,if_pos (by rfl),h3]
end
theorem Er{P:Program}{w:World}{X:Cx}:i5 (gY P w) X E0:=by
 rintro _ _ _ _ _ _ _ ⟨_,_,_,_,_,_,_,_,_,_,_,_,_,_,z⟩
 exact z.elim
theorem Es{P:Program}{w:World}{K:PySem.W.Frag}{mg:Str->Option Value}{base:Heap}{k:Nat}{f:Addr}{fd:FuncData}{ps:List Str}{sp:jH}(h:aL P w K mg base (gY P w) k f fd ps (mQ sp)) :
  aL P w K mg base (gY P w) k f fd ps (bf λds Q=>sp ds Q λ_=>False) :=
 h.imp λvs H Q E zq=>by
 obtain⟨F,ds,Qd,e,r,q,k⟩:=zq
 exact⟨F,ds,Qd,_,e,r,q,k,λ_ _ z=>z.elim⟩
end L3
namespace L3
open PySem L2 PySem.Spec PyProof.Rows
theorem kX{CX:dB}{P:Program}{w:World}{K:PySem.W.Frag}{mg:Str->Option Value}{base:Heap}{N:List Str}{q:Str}{sc:Scope}{f:Addr}{ax:Value}{A:Around}{outer:List Env}{s:Shared}{H:Hp}{E:XK}:(fS CX P w K mg base N q sc f ax A outer s H E).K=K:=rfl
theorem Et{K:PySem.W.Frag}{cv:Value}{C:Addr}{r:Bool}(x:rM K C)(h:PySem.W.kitOne K (.ref C) cv=some r):Ep K cv (exc C) r:=⟨C,rfl,x,h⟩
theorem xg(φ:rO):(D.bu φ).pl=true:=rfl
theorem xh(φ:rO):(D.bu φ).sh=.bu φ:=rfl
end L3
namespace L3
open PySem L2 PySem.Spec PyProof.Rows
theorem kY{X:Cx}:X.fk.K=X.K:=rfl
end L3
namespace L3
open PySem L2 PySem.Spec PyProof.Rows
noncomputable def fv(xs ys:List D):List D:=gi (λx y=>D.tup [x,y]) xs ys
noncomputable def fe(xs:List D):List D:=xs.mapIdx λi x=>D.tup [.int i,x]
theorem MR(xs ys:List D):(fv xs ys).map D.sh=fv (xs.map D.sh) (ys.map D.sh):=by
 unfold fv
 rw[CB,List.zipWith_map]
 congr 1
theorem Zy{xs ys:List D}(h1:xs.all D.pl=true)(h2:ys.all D.pl=true):(fv xs ys).all D.pl=true:=by
 unfold fv
 rw[du]at h1 h2 ⊢
 intro d hd
 obtain⟨i,hi,e⟩:=kq hd
 rw[List.getElem_zipWith]at e
 subst e
 rw[kL]
 simp only[dO,rn,lW,dz]
 exact⟨h1 _ (fh _),h2 _ (fh _)⟩
theorem Zz(xs:List D):(fe xs).map D.sh=fe (xs.map D.sh):=by
 unfold fe
 apply JN
 intro i
 simp only[cP,yT,Option.map_map]
 cases xs[i]? with
 | none=>rfl
 | some x =>
  show some (D.sh (.tup [.int i,x]))=some (D.tup [.int i,x.sh])
  rw[mB];rfl
theorem ZA{xs:List D}(h1:xs.all D.pl=true):(fe xs).all D.pl=true:=by
 unfold fe
 rw[du]at h1 ⊢
 intro d hd
 obtain⟨i,hi,e⟩:=kq hd
 rw[List.getElem_mapIdx]at e
 subst e
 rw[kL]
 simp only[dO,rn,lW,dz]
 exact⟨rfl,h1 _ (fh _)⟩
theorem oa(xs:List D):(fe xs).length=xs.length:=by simp[fe]
theorem Eu(xs ys:List D):(fv xs ys).length=min xs.length ys.length:=by simp[fv]
section
variable{F H:Hp}{d:D}{v:V}{xs ys:List D}{ws us:List V}{p q:Addr}{K:PySem.W.Frag}
theorem Ew(s:S F H [d] [v])(e2:af F H)(e:jy d=some xs):∃p ws,v=.ref p/\Rd H p (.lst ws)/\R H H (xs.map D.sh) ws []/\(d.pl=true->xs.all D.pl=true/\Rd F p (.lst ws)/\R F H xs ws []):=by
 cases s with
 | @shr p ws ys _ _ hp r _ =>
  obtain rfl:=cX e
  refine⟨p,ws,rfl,.inl (e2 _ _ hp),?_,λ_=>⟨r.pl,.inl hp,r⟩⟩
  rw[kM r.pl]
  exact r.shared e2 (af.refl _)
 | @own p ws ys _ _ hp r _ =>
  obtain rfl:=cX e
  exact⟨p,ws,rfl,.inl hp,r.frozen e2,λz=>by simp[iG]at z⟩
 | @fz p o ws ys _ _ hp r _ =>
  obtain rfl:=cX e
  refine⟨p,ws,rfl,.inr ⟨o,e2 _ _ hp⟩,?_,λ_=>⟨r.pl,.inr ⟨o,hp⟩,r⟩⟩
  rw[kM r.pl]
  exact r.shared e2 (af.refl _)
 | ao _=>cases e
 | bl _=>cases e
 | int _=>cases e
 | str _=>cases e
 | tup _ _ _=>cases e
 | obj _ _ _ _=>cases e
 | bu _ _=>cases e
theorem Ey(r:R F H xs ws []){i:Nat}(hi:i<xs.length){x:V}(hx:ws[i]?=some x):R F H [xs[i]] [x] []:=by
 obtain⟨v,A1,e2,r1,sub⟩:=r.get (aT hi)
 rw[hx]at e2;cases e2
 have:A1=[]:=TN.mpr λa ha=>by simpa using sub ha
 subst this
 exact r1
theorem MS(hp:Rd F p (.lst ws))(r:R F H xs ws [])(hq:Rd F q (.lst us))(t:R F H ys us [])(hF:Full F H):JD (DK K p q) F (fv xs ys) where
 go:=λi H' hs hi=>by
  rw[Eu]at hi
  have l1:=r.length
  have l2:=t.length
  exact⟨ws,us,_,_,.inl (g5 hp hs),.inl (g5 hq hs),aT (show i<ws.length by omega),aT (show i<us.length by omega)⟩
 jv:=λi H' v H2 hs hi zz=>by
  obtain⟨T,x,y,e1,e2,e3,hx,hy⟩:=zz
  subst e1 e3
  have tW:=hi
  rw[Eu]at tW
  have h1:=Ey (r.full hF hs rfl) (show i<xs.length by omega) (hx ws (.inl (g5 hp hs)))
  have h2:=Ey (t.full hF hs rfl) (show i<ys.length by omega) (hy us (.inl (g5 hq hs)))
  have sm:=af.upd (o:=.tup [x,y]) e2
  refine⟨_,aT hi,sm,?_⟩
  have eg:(fv xs ys)[i]=.tup [xs[i]'(by omega),ys[i]'(by omega)]:=by simp[fv]
  rw[eg]
  exact R.tup (A:=[]) (B:=[]) bA ((h1.shared (af.refl _) sm).cons (h2.shared (af.refl _) sm)) .nil
 stop:=λi H' hs hi=>by
  rw[Eu]at hi
  have l1:=r.length
  have l2:=t.length
  exact⟨ws,us,.inl (g5 hp hs),.inl (g5 hq hs),by omega⟩
theorem MT(hp:Rd F p (.lst ws))(r:R F H xs ws [])(hF:Full F H):JD (DP K p) F (fe xs) where
 go:=λi H' hs hi=>by
  rw[oa]at hi
  have l1:=r.length
  exact⟨ws,_,.inl (g5 hp hs),aT (show i<ws.length by omega)⟩
 jv:=λi H' v H2 hs hi zz=>by
  obtain⟨T,x,e1,e2,e3,hx⟩:=zz
  subst e1 e3
  have tW:=hi
  rw[oa]at tW
  have h1:=Ey (r.full hF hs rfl) tW (hx ws (.inl (g5 hp hs)))
  have sm:=af.upd (o:=.tup [.int i,x]) e2
  refine⟨_,aT hi,sm,?_⟩
  have eg:(fe xs)[i]=.tup [.int i,xs[i]]:=by simp[fe]
  rw[eg]
  exact R.tup (A:=[]) (B:=[]) bA (.int (h1.shared (af.refl _) sm)) .nil
 stop:=λi H' hs hi=>by
  rw[oa]at hi
  have l1:=r.length
  exact⟨ws,.inl (g5 hp hs),by omega⟩
end
section
variable{X:Cx}{a b:Expr}{ta:bQ}{p pos pF:Pos}{elts:List Expr}{x1:Nat}
noncomputable def tX(t:bQ):iJ:=λδ Q=>t δ λds ag=>match ds with
 | [d1,d2]=>∃xs ys,jy d1=some xs/\jy d2=some ys/\Q (d1.pl&&d2.pl) (fv xs ys) ag
 | _=>False
theorem Ez(hg:Gl X "zip")(hm:X.mg "zip"=none)(ha:PA X [a,b] (lA ta))(hs:starEach [a,b] X.env=[(false,eval a X.env),(false,eval b X.env)]:=by rfl)(dW:starEach [b] X.env=[(false,eval b X.env)]:=by rfl) :
  PI X (.Tuple elts x1 pF) (.Call (.Name "zip" p) [a,b] [] pos) (lI (tX ta)) :=
 sA (Yd hg hm ha hs dW) λσ H Q zq=>by
 obtain⟨B,F,δ,ts,Qd,c,q,k⟩:=zq
 exact⟨B,F,δ,ts,_,c,q,λds ah vs F1 H1 hd f1 h1 c1 s=>by
  match ds,hd,s with
  | [d1,d2],⟨xs,ys,i1,i2,hq⟩,s =>
   obtain⟨v1,bV,rfl,s1,s2⟩:=s.cQ
   obtain⟨v2,dE3,rfl,s2,s3⟩:=s2.cQ
   cases s3
   have e2:=c1.ext
   have sn:=pQ e2
   obtain⟨p1,w1,rfl,r1,t1,u1⟩:=Ew s1 e2 i1
   obtain⟨p2,w2,rfl,r2,t2,u2⟩:=Ew s2 e2 i2
   refine⟨p1,p2,rfl,⟨w1,.inl r1⟩,⟨w2,.inl r2⟩,k _ _ ah _ _ H1 hq (f1.trans sn) h1 c1.snap ?_ λz=>?_⟩
   ·rw[MR]
    exact MS r1 t1 r2 t2 (Full.refl _)
   ·rw[dz]at z
    obtain⟨a1,a2,a3⟩:=u1 z.1
    obtain⟨b1,b2,b3⟩:=u2 z.2
    exact⟨Zy a1 b1,MS (g5 a2 sn) (a3.shared sn (af.refl _)) (g5 b2 sn) (b3.shared sn (af.refl _)) rQ⟩⟩
noncomputable def tY(t:bQ):iJ:=λδ Q=>t δ λds ag=>match ds with
 | [d1]=>∃xs,jy d1=some xs/\Q d1.pl (fe xs) ag
 | _=>False
theorem xi(hg:Gl X "enumerate")(hm:X.mg "enumerate"=none)(ha:PA X [a] (lA ta))(hs:starEach [a] X.env=[(false,eval a X.env)]:=by rfl) :
  PI X (.Tuple elts x1 pF) (.Call (.Name "enumerate" p) [a] [] pos) (lI (tY ta)) :=
 sA (Yg hg hm ha hs) λσ H Q zq=>by
 obtain⟨B,F,δ,ts,Qd,c,q,k⟩:=zq
 exact⟨B,F,δ,ts,_,c,q,λds ah vs F1 H1 hd f1 h1 c1 s=>by
  match ds,hd,s with
  | [d1],⟨xs,i1,hq⟩,s =>
   obtain⟨v1,bV,rfl,s1,s2⟩:=s.cQ
   cases s2
   have e2:=c1.ext
   have sn:=pQ e2
   obtain⟨p1,w1,rfl,r1,t1,u1⟩:=Ew s1 e2 i1
   refine⟨p1,rfl,⟨w1,.inl r1⟩,k _ _ ah _ _ H1 hq (f1.trans sn) h1 c1.snap ?_ λz=>?_⟩
   ·rw[Zz]
    exact MT r1 t1 (Full.refl _)
   ·obtain⟨a1,a2,a3⟩:=u1 z
    exact⟨ZA a1,MT (g5 a2 sn) (a3.shared sn (af.refl _)) rQ⟩⟩
end
end L3
namespace L3
open PySem L2 PySem.Spec PyProof.Rows
section
variable{X:Cx}{F H:Hp}{e b:Expr}{pos p p2 p3 pr apos bK Ei:Pos}{t ti te:aI}{x y:Str}{i j:Nat}
theorem MU{α:Type}{xs:List α}{k:Nat}{v:α}(h:xs[k]?=some v):dD xs (k:Int)=some v:=by
 unfold dD iz
 have hk:k<xs.length:=(jr.mp h).1
 rw[if_pos (by omega),if_pos (by omega)]
 exact h
end
section
variable{X:Cx}{CX:dB}{k:Nat}{f:Addr}{fd:FuncData}{ps:List Str}{sp:bc}{E:XK}{fn x1 x2 y1 y2:Str}{i1 i2 j1 j2:Nat}{tk:Nat}
 {tp t1 t2 zp dE4 q1 q2 fp dE5 a1 a2 ZC dE6 dE7 cp Ei pr apos bK dE8 pos:Pos}
end
end L3
namespace L3
open PySem L2 PySem.Spec PyProof.Rows
theorem aj.ZD{B:Bs}{F H:Hp}{σ:L2.St}{δ:Dl}{ts:List (D × V)}{a b:D}{v:V}(c:aj B F H σ δ ((.tup [a,b],v)::ts)):∃p u w,v=.ref p/\H p=some (.tup [u,w])/\aj B F H σ δ ((a,u)::(b,w)::ts):=by
 obtain⟨A,C,r,s,nd,fr⟩:=c.own
 cases r with
 | @tup p ws xs A1 _ _ B1 hp r1 r2 =>
  obtain⟨u,fE,A2,A3,rfl,rfl,h1,h2⟩:=r1.cQ
  obtain⟨w,dE9,A4,A5,rfl,rfl,h3,h4⟩:=h2.cQ
  cases h4
  refine⟨p,u,w,rfl,hp,c.ext,c.b1,c.b2,c.b3,A2++(A4++B1),C,h1.cons (h3.cons r2),s,?_,?_⟩
  ·simpa using nd
  ·intro a ha;exact fr a (by simpa using ha)
section
variable{X:Cx}{y1 y2:Str}{i1 i2 tk m:Nat}{t1 t2 tp:Pos}
noncomputable def jc(i1 i2:Nat):gC:=λd δ Q=>match d with
 | .tup [a,b]=>Q ((δ.set i1 (some a)).set i2 (some b))
 | _=>False
theorem tZ(hc:X.calm=true)(Ah:X.N.Nodup)(m1:X.N[i1]?=some y1)(l1:Loc X.env.scope y1)(m2:X.N[i2]?=some y2)(l2:Loc X.env.scope y2)(MV:m<=i1:=by decide)(jF:m<=i2:=by decide)
  (f1:X.fn y1=true\/X.env.scope.names.lookup y1=some .local:=by first | exact .inl rfl | exact .inr rfl | assumption) (f2:X.fn y2=true\/X.env.scope.names.lookup y2=some .local:=by first | exact .inl rfl | exact .inr rfl | assumption)
  (EA:(assignEach [.Name y1 t1,.Name y2 t2] X.env).map (·.2)=assign (.Name y1 t1) X.env::(assignEach [.Name y2 t2] X.env).map (·.2):=by rfl) (EB:(assignEach [.Name y2 t2] X.env).map (·.2)=assign (.Name y2 t2) X.env::(assignEach [] X.env).map (·.2):=by rfl)
  (hn:(assignEach [.Name y1 t1,.Name y2 t2] X.env).length=2:=by rfl) (bS:(assignEach [.Name y1 t1,.Name y2 t2] X.env).findIdx? (·.1)=none:=by rfl) :
  PG X (.Tuple [.Name y1 t1,.Name y2 t2] tk tp) (lG m (jc i1 i2)) :=
 LR (UR hc (Kf (zy Ah m1 l1 f1) (Kf (zy Ah m2 l2 f2) UP EB) EA) hn bS) λv σ H Q zz=>by
  obtain⟨B,F,δ,ts,d,Qd,c,q,k⟩:=zz
  obtain⟨a,b,rfl,q⟩:∃a b,d=D.tup [a,b]/\Qd ((δ.set i1 (some a)).set i2 (some b)):=by
   unfold jc at q
   split at q
   ·exact⟨_,_,rfl,q⟩
   ·exact q.elim
  obtain⟨p,u,w,rfl,hp,c2⟩:=c.ZD
  refine⟨p,[u,w],rfl,gn.of hp,rfl,u,[w],rfl,w,[],rfl,rfl,k _ _ q (by simp) (λj hj=>?_) ((c2.store i1).store i2)⟩
  rw[oO (by omega),oO (by omega)]
end
open Classical in
theorem iN{α:Type}{sh:Bool}{xs:List D}{av:List (Str × Nat)}{n m:Nat}{te:aI}{ah:Dl}{Q:D->Dl->Prop}(l:List α)(e g:α->D)(iO:xs.map D.sh=l.map e)(inj:∀a b,e a=e b->a=b)
  (hx:∀a∈l,te ((fu av n ah).set m (some (e a))) λd _=>d=g a) (dE:(sh&&av.all (iM ah))=true\/∀a∈l,(g a).fr=true) (hl:l.length<=sizeLine) (hq:Q (.lst true (l.map g)) ah):sH sh xs av n (gN m) kP te ah Q:=by
 let f:D->D:=λx=>if h:∃a∈l,e a=x then g h.choose else .ao
 have hf:∀a∈l,f (e a)=g a:=λa ha=>by
  have h:∃b∈l,e b=e a:=⟨a,ha,rfl⟩
  show(if h:∃b∈l,e b=e a then g h.choose else .ao)=g a
  rw[dif_pos h]
  exact congrArg g (inj _ _ h.choose_spec.2)
 refine YF f (λx h=>?_) (dE.imp id λh x hx=>?_) ?_ ?_
 ·rw[iO]at h
  obtain⟨a,ha,rfl⟩:=dA.mp h
  rw[hf a ha];exact hx a ha
 ·rw[iO]at hx
  obtain⟨a,ha,rfl⟩:=dA.mp hx
  rw[hf a ha];exact h a ha
 ·have:=congrArg Cg iO
  simp at this
  omega
 ·rw[iO,eH,show l.map (f ∘ e)=l.map g from vh λa ha=>hf a ha]
  exact hq
end L3
namespace L3
open PySem L2 PySem.Spec PyProof.Rows
end L3
namespace L2
open PySem PySem.Spec PyProof.Rows
section
variable{X:Cx}
theorem MW:∀{ys:List Str} {us:List Value},Vals (ys.map V.str) us->StrsAre us ys
 | [],_,r=>by cases r;exact .nil
 | y::ys,_,r=>by
  cases r with
  | cons h t =>
   obtain⟨tk,rfl⟩:=h
   exact .cons y tk (MW t)
theorem ZE:vQ X "str.join" (λx xs H Q=>∃sep a ys,x=.str sep/\xs=[.ref a]/\bH X.K H a (ys.map V.str)/\(ys.map (·.length)).sum+ys.length*sep.length<=16777216/\Q (.str (Txt.join sep ys)) H):=by
 intro pins s σ H x xs v us Q I rx rs h
 obtain⟨sep,a,ys,rfl,rfl,hq,hz,q⟩:=h
 obtain⟨t,rfl⟩:=rx
 obtain⟨u,rfl,ru⟩:=rs.one
 cases ru
 obtain⟨its,r,p,_⟩:=I.list hq
 exact join_list p.isList (by simpa using MW r) hz λt' k=>⟨.str _,H,I.tok _,⟨_,rfl⟩,q⟩
end
end L2
namespace L3
open PySem L2 PySem.Spec PyProof.Rows
noncomputable abbrev tx(l:List Nat):D:=.str ⟨l.toArray⟩
section
variable{X:Cx}{F H:Hp}{e:Expr}{es:List Expr}{t:aI}{pos p p2 apos bK:Pos}
noncomputable def qq(x:D)(lo hi:Option Int)(Q:D->Prop):Prop:=match x with
 | .lst _ xs=>xs.all D.pl=true/\Q (.lst true (eI xs lo hi))
 | .fz xs=>Q (.lst true (eI xs lo hi))
 | .str z=>z.length<=sizeLine/\Q (tx (eI z.cps.toList lo hi))
 | _=>False
noncomputable def t7(t:aI)(tl th:tE):aI:=λδ Q=>t δ λx ah=>tl ah λl aP=>th aP λu g6=>qq x l u λd=>Q d g6
theorem EC{lo hi:Option Expr}{tl th:tE}(he:PE X e (lB t))(hl:PO X lo (lP tl))(hu:PO X hi (lP th)):PE X (.Subscript e (.Slice lo hi none p2) pos) (lE (t7 t tl th)) :=
 cN (Wf (Wu.or Yj) he hl hu) λσ H Q zq=>by
 obtain⟨B,F,δ,ts,Qd,c,q,k⟩:=zq
 exact⟨B,F,δ,ts,_,c,q,λx ah v F1 H1 q1 f1 h1 c1 s1=>⟨B,F1,ah,ts,_,c1,q1,λl aP F2 H2 q2 f2 h2 c2=>⟨B,F2,aP,ts,_,c2,q2,λu g6 F3 H3 q3 f3 h3 c3=>by
  have mO:=s1.mono (f2.trans f3) (h2.trans h3)
  unfold qq at q3
  split at q3
  ·obtain⟨p,ws,rfl,h,t⟩:=nU mO c3.ext rfl
   exact .inl ⟨p,ws,rfl,mK h,λr hr=>k _ g6 _ F3 _ q3.2 ((f1.trans f2).trans f3) (((h1.trans h2).trans h3).trans (af.upd hr)) (c3.mC hr (t.cut _ _) (Mq q3.1 _ _))⟩
  ·obtain⟨p,ws,rfl,h,t⟩:=nU mO c3.ext rfl
   cases mO with
   | fz h' r _=>exact .inl ⟨_,_,rfl,mK (.inr ⟨_,c3.ext _ _ h'⟩),λr' hr=>k _ g6 _ F3 _ q3 ((f1.trans f2).trans f3) (((h1.trans h2).trans h3).trans (af.upd hr)) (c3.mC hr (r.s.cut _ _) (Mq r.pl _ _))⟩
  ·cases mO with
   | str _=>exact .inr ⟨_,rfl,q3.1,k _ g6 _ F3 H3 q3.2 ((f1.trans f2).trans f3) ((h1.trans h2).trans h3) (c3.pushS (.str .nil) rfl)⟩
  ·exact q3.elim⟩⟩⟩
noncomputable def xj:cw:=λx y Q=>match x,y with
 | .str z,.int n=>(-(2 ^ 63)<=n/\n<2 ^ 62/\z.length*n.toNat<=sizeLine)/\Q (tx (aX n.toNat z.cps.toList).flatten)
 | _,_=>False
noncomputable def qt:jE:=λds Q=>match ds with
 | [.int i]=>i.natAbs.log2<1920/\Q (.str (toString i))
 | _=>False
theorem xk:g9 X (.type "str") qt:=g9.of VB λvs H Q zz=>by
 obtain⟨B,F,σ,δ,ts,ds,Qd,c,s,q,k⟩:=zz
 unfold qt at q
 split at q
 ·obtain⟨v,rfl,s1⟩:=kR s
  cases s1
  exact⟨_,rfl,q.1,k _ _ _ q.2 (af.refl _) (c.pushS (.str .nil) rfl)⟩
 ·exact q.elim
end
theorem xm(a:List Nat):(⟨a.toArray⟩:Str).length=a.length:=by show a.toArray.size=_;simp
end L3
namespace L3
open PySem L2 PySem.Spec PyProof.Rows
noncomputable def aA(l:List Nat):List D:=aE (l.map λ(n:Nat)=>(n:Int))
theorem gG(l:List Nat):(aA l).length=l.length:=by unfold aA;rw[kT,bY]
theorem eJ(l:List Nat):aA l=l.map λ(n:Nat)=>D.int (n:Int):=by unfold aA aE;rw[eH];rfl
theorem xn(l:List Nat):(aA l).map D.sh=l.map λ(n:Nat)=>D.int (n:Int):=by unfold aA;rw[jG];exact eJ l
theorem kZ(a b:Nat)(h:D.int (a:Int)=D.int (b:Int)):a=b:=by injection h with h;omega
theorem og(l:List Nat):(aA l).all D.pl=true:=n6 _
theorem qu(l:List Nat):(aA l).map D.sh=aA l:=jG _
theorem xo(l:List Nat)(lo hi:Option Int):eI (aA l) lo hi=aA (eI l lo hi):=by
 unfold aA
 rw[tO]
 congr 1
 unfold eI
 rw[bY,JM,JL]
theorem MX{α:Type}(xs:List α)(b:Nat):eI xs none (some (b:Int))=xs.take b:=by
 have:=Y6 xs 0 b
 unfold eI at this ⊢
 simpa[HT.cM]using this
theorem ZF{α:Type}(xs:List α)(a:Nat):eI xs (some (a:Int)) none=xs.drop a:=by
 unfold eI
 rw[HT.Dn]
 show(xs.drop (min a xs.length)).take (xs.length-min a xs.length)=_
 by_cases h:a<=xs.length
 ·rw[yS h,JJ (by rw[u7];exact bG _)]
 ·rw[Nat.min_eq_right (by omega),List.drop_length,JO (by omega)];simp
end L3
namespace L2
open PySem PySem.Spec PyProof.Rows
section
variable{X:Cx}{tg l o e:Expr}{tl to te:TE}{apos bK:Pos}
end
end L2
namespace L3
open PySem L2 PySem.Spec PyProof.Rows
section
variable{X:Cx}{F H:Hp}{tg l e:Expr}{te t tb:aI}{apos bK pos:Pos}
variable{o:Expr}
theorem MY:∀{ns:List Int} {ws:List V},S F H (aE ns) ws->ws=ns.map V.int
 | [],_,s=>by cases s;rfl
 | n::ns,_,s=>by
  cases s with
  | int s=>rw[MY s];rfl
end
end L3
namespace L3
open PySem L2 PySem.Spec PyProof.Rows
end L3
namespace L2
open PySem PySem.Spec PyProof.Rows
noncomputable def Tb(ts:List Addr)(H:Hp):Prop:=∀P∈ts,∃ps,H P=some (.cY ps)
structure t9(ts:List Addr)(H:Hp):Prop where
 any:∀b,H b=none\/(∃o xs,H b=some (.br o (.lst xs)))\/(b∈ts/\H b=some (.cY #[]))
 tab:∀P∈ts,H P=some (.cY #[])
theorem t9.tb{ts:List Addr}{H:Hp}(h:t9 ts H):Tb ts H:=λP hP=>⟨#[],h.tab P hP⟩
noncomputable def Bm(mg:Str->Option Value)(base:Heap):Prop:=∃bm o,mg "__builtins__"=some (.ref bm)/\bm≠builtinsNs/\bm≠mainGlobals/\base.get? bm=some o/\o.cls=.type "module"/\o.dict=some builtinsNs/\o.data=.plain
theorem ZG{P:Program}{w:World}{K:PySem.W.Frag}{mg mb:Str->Option Value}{CX:dB}{k:Nat}{fa a:Addr}{fd:FuncData}{x:Str}{sp:Sp}{bw:Shared}{vs:List Value}{ns:List Int}{ts:List Addr}
  (KX:K.In bw.heap) (Ai:bw.heap.Ns mainGlobals mg) (hb:bw.heap.Ns builtinsNs mb) (ZH:∀x:Str,x≠"__name__"->mb x=bootBuiltins x) (ZI:bw.heap.NoLimit) (hg:bw.gens=#[])
  (ht:∀P∈ts,bw.heap.get? P=some (PySem.W.tabObj #[])) (ED:∀P∈ts,isCodeTable bw.heap P) (ZJ:∀P∈ts,K.lookup P=none)
  (ha:bw.heap.get? a=some { cls:=.type "list",data:=.seq vs.toArray }) (hi:IntsAre vs ns) (hl:ns.length<=sizeLine) (hr:bI k callerA)
  (xp:Bm mg bw.heap) (F:∀base:Heap,K.In base->base.Ns mainGlobals mg->Bm mg base->aL P w K mg base CX k fa fd [x] sp) (ZK:∀(s:Shared) (u:Value),BindsTo s fd ⟨[u],[]⟩ [(x,u)])
  (gu:∀H:Hp,t9 ts H->bH K H a (ns.map V.int)->sp [.ref a] H (λv _=>v=.bl true) λ_ _ _=>False)
  (EE:∀H e s',CX [] H bw (λ_ _ _=>False) e s'->False) :
  codeAny (model P w) callerA (.call (.ref fa) ⟨[.ref a],[]⟩) (λr s'=>r=.ok (.ret (.bool true))/\OldK bw.heap s'.heap/\s'.os=bw.os/\AllBare s'.gens) bw:=by
 have rv:=KS hi
 have ZL:=hi.length
 have nat:a ∉ ts:=λz=>by
  have:=ht a z
  rw[ha]at this
  cases this
 have core:∀H:Hp,t9 ts H->bH K H a (ns.map V.int)->cu P w H bw.heap->(∀b,H b≠none->b=a\/b∈ts)->(H a≠none->K.lookup a=none) ->
   codeAny (model P w) callerA (.call (.ref fa) ⟨[.ref a],[]⟩) (λr s'=>r=.ok (.ret (.bool true))/\OldK bw.heap s'.heap/\s'.os=bw.os/\AllBare s'.gens) bw:=by
  intro H hO hS az hA hK
  have EF:∀{b:Addr} {o:Obj},bw.heap.get? b=some o->H b=none->(ky bw.heap H).get? b=some o:=λe n=>Ug e n
  have vO:∀{b:Addr} {o:Obj} {es:Array DictEntry} {ep:Nat},bw.heap.get? b=some o->o.data=.dict es ep->H b=none:=λ{b o es ep} e d=>by
   cases q:H b with
   | none=>rfl
   | some u =>
    rcases hA b (by rw[q];simp)with e' | e'
    ·subst e'
     rw[ha]at e;cases e
     have d':Data.seq vs.toArray _=Data.dict es ep:=d
     cases d'
    ·rw[ht b e']at e;cases e
     have d':Data.fields #[]=Data.dict es ep:=d
     cases d'
  have Aj:∀{b:Addr} {m:Str->Option Value},bw.heap.Ns b m->(ky bw.heap H).Ns b m:=λ{b m} ⟨o,es,ep,e,d,r⟩=>⟨o,es,ep,EF e (vO e d),d,r⟩
  have MZ:K.In (ky bw.heap H):=λb o e=>EF (KX b o e) (by
   cases q:H b with
   | none=>rfl
   | some u =>
    rcases hA b (by rw[q];simp)with e' | e'
    ·subst e'
     rw[hK (by rw[q];simp)]at e;cases e
    ·rw[ZJ b e']at e;cases e)
  have ZM:Bm mg (ky bw.heap H):=by
   obtain⟨bm,o,b1,b2,b3,b4,b5,b6,b7⟩:=xp
   refine⟨bm,o,b1,b2,b3,EF b4 ?_,b5,b6,b7⟩
   cases q:H bm with
   | none=>rfl
   | some u =>
    rcases hA bm (by rw[q];simp)with e' | e'
    ·rw[e',ha]at b4;cases b4
     have d':Data.seq vs.toArray _=Data.plain:=b7
     cases d'
    ·rw[ht bm e']at b4;cases b4
     have d':Data.fields #[]=Data.plain:=b7
     cases d'
  have hM:Mod K mg (ky bw.heap H):=⟨MZ,Aj Ai,⟨mb,Aj hb,ZH⟩,let⟨mc,h1,h2⟩:=ZI;⟨mc,Aj h1,h2⟩⟩
  have e0:iy P w K mg (ky bw.heap H) callerA [] bw H:=⟨rfl,hM,λb o e=>Uh e,Ce (Ue _ _),trivial,λb hb=>absurd (show b∈([]:List Addr) from hb) (by simp),az,.of_eq hg⟩
  refine codeAny_mono ((F _ MZ (Aj Ai) ZM).run callerA [] bw H ⟨[.ref a],[]⟩ [.ref a] [.ref a] _ _ hr e0 (ZK bw (.ref a)) (.cons rfl .nil) (gu H hO hS)) λr s' h=>?_
  cases r with
  | error e=>exact(EE H e s' h).elim
  | ok fl =>
   cases fl with
   | next=>exact eC h
   | brk=>exact eC h
   | cont=>exact eC h
   | ret u =>
    obtain⟨v,H',os,bare,un,M3,r',q⟩:=h
    have q':v=.bl true:=q
    subst q'
    obtain rfl:u=Cd true:=r'
    have each:∀b o,bw.heap.get? b=some o->asItWas bw.heap s'.heap b o/\∃o',s'.heap.get? b=some o':=λb o e=>by
     cases q:H b with
     | none =>
      have z:=un.keep b o e q (by intro z;exact absurd (show b∈([]:List Addr) from z) (by simp)) (by simp)
      exact⟨.inl z,o,z⟩
     | some u =>
      rcases hO.any b with z | ⟨ob,xs,z⟩ | ⟨je,z⟩
      ·rw[q]at z;cases z
      ·have z2:=un.gk b ob _ z
       obtain⟨e1,_⟩:=az b _ z
       obtain⟨e2,_⟩:=M3 b _ z2
       rw[e]at e1;cases e1
       exact⟨.inl e2,_,e2⟩
      ·obtain⟨more,z2⟩:=un.fA b _ z
       have e2:=(M3 b _ z2).1
       rw[ht b je]at e;cases e
       exact⟨.inr (.inl ⟨ED b je,rfl,#[],more,rfl,e2⟩),_,e2⟩
    exact⟨rfl,⟨λb o e=>(each b o e).1,λb o e=>(each b o e).2⟩,os,bare⟩
 have tok:∀(H:Hp) (b:Addr),b∈ts->dk P w H bw.heap b (.cY #[]):=λH b hb=>⟨ht b hb,trivial,λpos cv q=>by cases q⟩
 cases hk:K.lookup a with
 | some o =>
  have e:=KX a o hk
  rw[ha]at e
  cases e
  refine core (λb=>if b∈ts then some (.cY #[])else none) ⟨λb=>?_,λb hb=>if_pos hb⟩ (.inr ⟨_,vs.toArray,_,hk,rfl,rfl,rfl,by rw[dy,ZL];exact hl,by simpa using rv⟩) (λb u z=>?_) (λb z=>?_) λz=>absurd (if_neg nat) z
  ·by_cases hb:b∈ts
   ·exact .inr (.inr ⟨hb,if_pos hb⟩)
   ·exact .inl (if_neg hb)
  ·by_cases hb:b∈ts
   ·have z':=(if_pos hb).symm.trans z
    cases z'
    exact tok _ b hb
   ·have z':=(if_neg hb).symm.trans z
    cases z'
  ·by_cases hb:b∈ts
   ·exact .inr hb
   ·exact absurd (if_neg hb) z
 | none =>
  refine core (λb=>if b=a then some (.br { cls:=.type "list",data:=.seq vs.toArray } (.lst (ns.map V.int)))else if b∈ts then some (.cY #[])else none) ⟨λb=>?_,λb hb=>?_⟩ (.inl (.inr ⟨{ cls:=.type "list",data:=.seq vs.toArray },if_pos rfl⟩)) (λb u z=>?_) (λb z=>?_) λ_=>hk
  ·by_cases hb:b=a
   ·exact .inr (.inl ⟨_,_,if_pos hb⟩)
   ·by_cases je:b∈ts
    ·exact .inr (.inr ⟨je,(if_neg hb).trans (if_pos je)⟩)
    ·exact .inl ((if_neg hb).trans (if_neg je))
  ·have iE:b≠a:=λz=>nat (z ▸ hb)
   exact(if_neg iE).trans (if_pos hb)
  ·by_cases hb:b=a
   ·have z':=(if_pos hb).symm.trans z
    cases z'
    subst hb
    exact⟨ha,by rw[bY];exact hl,vs,_,rv,ha⟩
   ·by_cases je:b∈ts
    ·have z':=((if_neg hb).trans (if_pos je)).symm.trans z
     cases z'
     exact tok _ b je
    ·have z':=((if_neg hb).trans (if_neg je)).symm.trans z
     cases z'
  ·by_cases hb:b=a
   ·exact .inl hb
   ·by_cases je:b∈ts
    ·exact .inr je
    ·exact absurd ((if_neg hb).trans (if_neg je)) z
theorem ZN{l:PySem.W.OpenLaw}{n k:Nat}{q:Program}{loose:List Str}{XP:(Str->Option Value)->Heap->Prop}{YP:World->Heap->Prop}{d:DefRec}{K:Params->PySem.W.Frag}{CX:World->dB}{sp:World->Sp}{x:Str}{ts:List Addr}
  (hn:l.most=some n) (zF:n<=sizeLine) (vU:d.params.defaults=[]) (hr:bI k callerA)
  (hY:∀(w:World) (h:Heap),YP w h->(K w.params).In h/\∀P∈ts,h.get? P=some (PySem.W.tabObj #[]))
  (hC:∀(w:World) (h:Heap),(K w.params).In h->∀P∈ts,(K w.params).lookup P=none/\∃c,PySem.W.CodeHd h c P)
  (F:∀(w:World) (mg:Str->Option Value) (fa:Addr) (h:Heap),(K w.params).In h->h.Ns mainGlobals mg->mg d.name=some (.ref fa) ->
   ∃fd:FuncData,(∀(s:Shared) (u:Value),BindsTo s fd ⟨[u],[]⟩ [(x,u)]) /\
    ∀base:Heap,(K w.params).In base->base.Ns mainGlobals mg->Bm mg base->aL l.prog w (K w.params) mg base (CX w) k fa fd [x] (sp w))
  (gu:∀(w:World) (H:Hp) (a:Addr) (ns:List Int),ns.length<=n->t9 ts H->bH (K w.params) H a (ns.map V.int)->sp w [.ref a] H (λv _=>v=.bl true) λ_ _ _=>False)
  (EE:∀(w:World) (H:Hp) (s:Shared) (e:Value) (s':Shared),CX w [] H s (λ_ _ _=>False) e s'->False) :
  PySem.W.WalkO q loose XP YP l.row.toRowW d [] (λf vs=>PySem.call f vs):=by
 refine Att.WU hn vU λw b8 bw mg mb fa o pm cd doc a vs ns G Y ho hd cm vV Dw hints hlen hg=>?_
 obtain⟨KX,hT⟩:=hY w _ Y
 obtain⟨fd,hb,hF⟩:=F w mg fa _ KX G.T.g vV
 have ED:∀P∈ts,isCodeTable bw.heap P:=λP hP=>by
  obtain⟨_,c,C⟩:=hC w _ KX P hP
  exact(C.tab (hT P hP)).isCodeTable
 have xp:Bm mg bw.heap:=by
  obtain⟨bm,ob,b1,b2,b3,b4,b5,b6⟩:=G.T.bmain
  refine⟨bm,ob,b1,b2,λq=>?_,b3,b4,b5,b6⟩
  obtain⟨o,es,ep,e,hd,_⟩:=G.T.g
  rw[q,e]at b3;cases b3;rw[hd]at b6;cases b6
 exact ZG KX G.T.g G.T.b G.T.builtins G.T.nolimit hg hT ED (λP hP=>(hC w _ KX P hP).1) Dw hints (eO hlen zF) hr xp hF hb (λH hO hS=>gu w H a ns hlen hO hS) λH e s'=>EE w H bw e s'
end L2
namespace L3
open PySem L2 PySem.Spec PyProof.Rows
noncomputable def ua(ts:List Addr)(sp:Sp):Sp:=λvs H Q E=>Tb ts H/\sp vs H Q E
theorem Ak{X:Cx}{pins:List (Addr × Obj)}{σ:L2.St}{H:Hp}{s:Shared}{ts:List Addr}(I:Inv X pins σ H s)(h:Tb ts X.iZ):Tb ts H:=λP hP=>by
 obtain⟨ps,e⟩:=h P hP
 obtain⟨m,e2⟩:=I.base.fA P ps e
 exact⟨_,e2⟩
noncomputable def Al(ts:List Addr)(K:PySem.W.Frag):Sp:=λvs H Q _=>∃(a:Addr) (ns:List Int),vs=[.ref a]/\t9 ts H/\bH K H a (ns.map V.int)/\ns.length<=63/\∀H',Q (.bl true) H'
theorem ZO{ts:List Addr}{K:PySem.W.Frag}(nl:K.all (λp=>Eh p.2)=true){vs:List V}{H:Hp}{Q:VK}{E:XK}(h:Al ts K vs H Q E):ua ts (bf Mr) vs H Q E:=by
 obtain⟨a,ns,rfl,hO,hS,hl,q⟩:=h
 have hz:∃o,H a=some (.br o (.lst (ns.map V.int))):=by
  rcases hS with (hS | hS) | ⟨o,its,n,hk,hc,_⟩
  ·rcases hO.any a with z | ⟨o,xs,z⟩ | ⟨_,z⟩
   ·rw[hS]at z;cases z
   ·rw[hS]at z;cases z
   ·rw[hS]at z;cases z
  ·exact hS
  ·have hm:=Y5 hk
   have:=du.mp nl _ hm
   simp[Eh,hc]at this
 obtain⟨o,ho⟩:=hz
 refine⟨hO.tb,H,[.fz (aE ns)],λd=>d=.bl true,af.refl _,.fz ho (j8 ns) .nil,⟨ns,rfl,hl,rfl⟩,λd v F' H' A hd hs hf he h3 r nd fr=>?_⟩
 subst hd
 cases r
 exact q H'
end L3
namespace L2
open PySem PySem.Spec PyProof.Rows
noncomputable def rem(H:Hp)(f c:Addr):Hp:=λb=>if b=f\/b=c then none else H b
noncomputable def mR(H H':Hp)(f c:Addr):Hp:=λb=>if b=f\/b=c then H b else H' b
section
variable{P:Program}{w:World}{H H':Hp}{h:Heap}{a b f c:Addr}{o:HO}{of oc:Obj}
theorem M4:rem H f c f=none:=if_pos (.inl rfl)
theorem Am:rem H f c c=none:=if_pos (.inr rfl)
theorem gH(h1:b≠f)(h2:b≠c):rem H f c b=H b:=if_neg (by simp[h1,h2])
theorem ub(e:H b=none):rem H f c b=none:=by unfold rem;split;rfl;exact e
theorem M5(e:rem H f c b=some o):b≠f/\b≠c/\H b=some o:=by
 unfold rem at e
 split at e
 ·cases e
 ·rename_i n
  exact⟨λz=>n (.inl z),λz=>n (.inr z),e⟩
theorem oh(h1:b≠f)(h2:b≠c):mR H H' f c b=H' b:=if_neg (by simp[h1,h2])
theorem M6:mR H H' f c f=H f:=if_pos (.inl rfl)
theorem EG:mR H H' f c c=H c:=if_pos (.inr rfl)
theorem dk.rem{φ:Heap->Prop}(x:dk P w H h a o)(ha:a≠f)(hf:H f=some (.ext φ))(hc:H c=some (.own f)\/H c=none)(EH:¬ ∀h',φ h'->∃q,h'.CodeRec (.ref f) q):dk P w (rem H f c) h a o:=by
 have own:∀b,H b=some (.own a)->L2.rem H f c b=some (.own a):=λb e=>by
  rw[gH (λz=>by subst z;rw[hf]at e;cases e) (λz=>by subst z;rcases hc with hc | hc<;>(rw[hc]at e;cases e);exact ha rfl)];exact e
 have tup:∀b xs,H b=some (.tup xs)->L2.rem H f c b=some (.tup xs):=λb xs e=>by
  rw[gH (λz=>by subst z;rw[hf]at e;cases e) (λz=>by subst z;rcases hc with hc | hc<;>(rw[hc]at e;cases e))];exact e
 induction o with
 | lst xs=>exact x
 | tup xs=>exact x
 | dK df=>exact x
 | dT df =>
  obtain⟨z,y,xs,r,ob⟩:=x
  exact⟨z,y,xs,Paired.CS r λp q z=>⟨z.1,tup _ _ z.2.1,z.2.2⟩,ob⟩
 | set S n=>exact x
 | ins C dx fs =>
  obtain⟨d,r⟩:=x
  exact⟨own _ d,r⟩
 | own y=>exact x
 | xd fs=>exact x
 | vw lo hi=>exact x
 | br ob u ih=>obtain⟨e,q⟩:=x;exact⟨e,ih q⟩
 | cY ps =>
  obtain⟨e,t,cc⟩:=x
  refine⟨e,t,λpos cv q=>?_⟩
  obtain⟨d,φ,e1,e2,e3⟩:=cc pos cv q
  refine⟨d,φ,e1,?_,e3⟩
  rw[gH (λz=>?_) (λz=>by subst z;rcases hc with hc | hc<;>(rw[hc]at e2;cases e2))]
  ·exact e2
  ·subst z
   rw[hf]at e2;cases e2
   exact EH e3
 | met f y=>exact x
 | ext φ=>obtain⟨p,r,st⟩:=x;exact⟨p,r,λh1 h2 p1 kk=>st h1 h2 p1 λb o hb q=>kk b o (hb.imp id (own b)) q⟩
theorem M7{φ:Heap->Prop}{fd:FuncData}(p:φ h)(g:∀h',φ h'->h'.get? f=some of)(hd:of.data=.func fd):¬ ∀h',φ h'->∃q,h'.CodeRec (.ref f) q:=λz=>by
 obtain⟨q,k,ok,vs,t,q1,q2,q3,_⟩:=z h p
 cases q1
 rw[g h p]at q2;cases q2
 rw[hd]at q3;cases q3
theorem cu.lam(ok:cu P w H h)(hf:H f=some (.ext (L3.i6 of oc c f))):L3.i6 of oc c f h:=(ok f _ hf).1
theorem cu.rem{fd:FuncData}(ok:cu P w H h)(hf:H f=some (.ext (L3.i6 of oc c f)))(hc:H c=some (.own f))(hd:of.data=.func fd):cu P w (rem H f c) h:=λb o e =>
 let⟨h1,_,h3⟩:=M5 e;(ok b o h3).rem h1 hf (.inl hc) (M7 (ok.lam hf) (λ_ p=>p.1) hd)
end
theorem iy.rem{P:Program}{w:World}{K:PySem.W.Frag}{mg:Str->Option Value}{base:Heap}{A:Around}{outer:List Env}{s:Shared}{H:Hp}{f c:Addr}{of oc:Obj}{fd:FuncData}(e:iy P w K mg base A outer s H)
  (hf:H f=some (.ext (L3.i6 of oc c f))) (hc:H c=some (.own f)) (hd:of.data=.func fd):iy P w K mg base A outer s (rem H f c) :=
 ⟨e.frames,e.mod,λb o q=>⟨(e.bs b o q).1,ub (e.bs b o q).2⟩,e.iq,e.fj,λb hb=>ub (e.ir b hb),e.az.rem hf hc hd,e.bare⟩
theorem CE.add{P:Program}{w:World}{K:PySem.W.Frag}{mg:Str->Option Value}{base:Heap}{A:Around}{outer:List Env}{s s':Shared}{H:Hp}{f c:Addr}{of oc:Obj}{Q Q':VK}{u:Value}(e0:iy P w K mg base A outer s H)
  (hf:H f=some (.ext (L3.i6 of oc c f))) (hc:H c=some (.own f)) (h:CE outer P w (rem H f c) s Q u s') (hQ:∀v H',Q v H'->H' f=none->H' c=none->Q' v (mR H H' f c)):CE outer P w H s Q' u s':=by
 obtain⟨v,H',os,bare,un,az,r,q⟩:=h
 obtain⟨gf,gc⟩:=e0.az.lam hf
 have M8:∀{b o},H b=some o->b ∉ dh outer:=λ{b o} e z=>by rw[e0.ir b z]at e;cases e
 have nf:H' f=none:=un.free f _ gf M4 (by simp)
 have nc:H' c=none:=un.free c _ gc Am (by simp)
 have kf:=un.keep f _ gf M4 (M8 hf) (by simp)
 have kc:=un.keep c _ gc Am (M8 hc) (by simp)
 refine⟨v,mR H H' f c,os,bare,⟨λb o e n=>un.keep b o e (ub n),λb o e n=>un.slot b o e (ub n),λb o e n x=>?_,un.there,λb xs e=>?_,λb ob xs e=>?_,λb ps e=>?_⟩,λb o e=>?_,r,hQ v H' q nf nc⟩
 ·rw[oh (λz=>by subst z;rw[hf]at n;cases n) (λz=>by subst z;rw[hc]at n;cases n)]
  exact un.free b o e (ub n) x
 ·have n1:b≠f:=λz=>by subst z;rw[hf]at e;cases e
  have n2:b≠c:=λz=>by subst z;rw[hc]at e;cases e
  rw[oh n1 n2]
  exact un.gW b xs (by rw[gH n1 n2];exact e)
 ·have n1:b≠f:=λz=>by subst z;rw[hf]at e;cases e
  have n2:b≠c:=λz=>by subst z;rw[hc]at e;cases e
  rw[oh n1 n2]
  exact un.gk b ob xs (by rw[gH n1 n2];exact e)
 ·have n1:b≠f:=λz=>by subst z;rw[hf]at e;cases e
  have n2:b≠c:=λz=>by subst z;rw[hc]at e;cases e
  rw[oh n1 n2]
  exact un.fA b ps (by rw[gH n1 n2];exact e)
 ·by_cases z:b=f
  ·subst z
   rw[M6,hf]at e;cases e
   refine⟨⟨kf,kc⟩,⟨_,kf⟩,λh1 h2 p kk=>⟨kk b _ (.inl rfl) p.1,kk c _ (.inr ?_) p.2⟩⟩
   rw[EG];exact hc
  ·by_cases z2:b=c
   ·subst z2
    rw[EG,hc]at e;cases e
    exact⟨_,kc⟩
   ·rw[oh z z2]at e
    have up:∀{b' o'},H' b'=some o'->mR H H' f c b'=some o':=λ{b' o'} q=>by
     rw[oh (λz=>by subst z;rw[nf]at q;cases q) (λz=>by subst z;rw[nc]at q;cases q)];exact q
    exact(az b o e).ik (λ_ _ _ q=>q) (λ_ q=>up q) (λ_ _ q=>up q) λ_ _ q=>up q
theorem ZP{prog:Program}{w:World}{A:Around}{R:Result->Shared->Prop}{s:Shared}{a:Addr}{args:Args}{o:Obj}{fd:FuncData}{body:Expr}{q:Str}(ZQ:A.depth<recursionLimit)
  (ho:s.heap.get? a=some o)
  (vx:o.data=.func fd) (ZR:fd.scope.isCoroutine=false) (ZS:fd.scope.isGenerator=false) (fm:fd.body=.expr body) (cm:s.heap.CodeRec fd.code q)
  (h:wpAny (model prog w) A.in1 (bindArgs fd args) (λbinds bw =>
   wpAny (model prog w) A.in1 (newFunctionEnv fd.scope fd.globals fd.closure binds (q++".<locals>.") (some a) fd.code none fd.builtins)
    (λenv i3=>i3.heap.NoLimit/\codeAny (model prog w) A (.expr body env) R i3) (λe s'=>R (.error e) s') bw) (λe s'=>R (.error e) s') s) :
  codeAny (model prog w) A (.call (.ref a) args) R s:=by
 refine codeAny_of_tree ?_
 show wpAny _ A.in1 (callAny (.ref a) args) _ _ s
 simp only[callAny]
 refine wpAny_bind (wpAny_load ho ?_)
 obtain⟨c,oc,vs,tq,hc,iu,EI,hq⟩:=cm
 simp only[vx,callFunction,ZR,ZS,fm,hc]
 rw[hc]at h
 refine wpAny_bind (m:=field (.ref c) 1) (wpAny_field iu EI hq (wpAny_bind (wpAny_pure ?_)))
 exact wpAny_bind (wpAny_mono h (λbinds bw An=>wpAny_bind (wpAny_mono An (λenv i3 M9=>wpAny_bind (wpAny_enterFrame M9.1 ZQ
  (wpAny_pure (And.intro rfl M9.2)))) λ_ _ h'=>h')) λ_ _ h'=>h')
structure Na(p1 p2 x:Str)(sc:Scope):Prop where
 kind:sc.kind=.function
 co:sc.isCoroutine=false
 gen:sc.isGenerator=false
 nd:[p1,p2,x].Nodup
 l1:sc.names.lookup p1=some .local
 l2:sc.names.lookup p2=some .local
 Nb:∀y∈sc.names,y.2≠.cell
 only:∀y∈sc.names,y.2=.free->y.1=x
 lx:sc.names.lookup x=some .free
noncomputable def qv(CX:dB)(P:Program)(w:World)(K:PySem.W.Frag)(mg:Str->Option Value)(base:Heap)(N:List Str)(qual:Str)(scope:Scope)(f:Addr)(cd:Value)(cl:List (Str × Addr))(A:Around)(outer:List Env)(s:Shared)(H:Hp)(E:XK):Cx where
 prog:=P
 w:=w
 K:=K
 mg:=mg
 base:=base
 A:=A.deeper (PySem.W.envX qual scope s.heap.objs.size f cd cl)
 N:=N
 b8:=s
 iZ:=H
 env:=PySem.W.envX qual scope s.heap.objs.size f cd cl
 outer:=outer
 stack:=PySem.W.envX qual scope s.heap.objs.size f cd cl::outer
 ex:=[]
 calm:=true
 fn:=λ_=>false
 pn:=[]
 xe:=λe s'=>wpAny (model P w) (A.deeper (PySem.W.envX qual scope s.heap.objs.size f cd cl)) (leaving (PySem.W.envX qual scope s.heap.objs.size f cd cl) e) (λ_ pH=>CX outer H s E e pH) (λe' pH=>CX outer H s E e' pH) s'
theorem ZT{CX:dB}{P:Program}{w:World}{K:PySem.W.Frag}{mg:Str->Option Value}{base:Heap}{p1 p2 x qn q:Str}{params:Arguments}{body:Expr}{scope:Scope}{pm iP:Value}{f c c':Addr}{k:Nat}{A:Around}{outer:List Env}{s:Shared}{H:Hp}{E:XK}
  {u1 u2 uc:Value} {v1 v2 vc:V} {Q:VK} {t:TE} {args:Args} (S:Na p1 p2 x scope) (e0:iy P w K mg base A outer s H) (hr:bI (k+1) A)
  (hf:s.heap.get? f=some (PySem.W.kla_obj "<lambda>" qn params body scope [(x,c)] pm c' iP)) (hc:s.heap.IsCell c (some uc)) (rc:RelV vc uc) (hH:H c=none) (cm:s.heap.CodeRec (.ref c') q)
  (hb:bindArgs (PySem.W.kla_fn "<lambda>" qn params body scope [(x,c)] pm (.ref c') iP) args=pure [(p1,u1),(p2,u2)]) (r1:RelV v1 u1) (r2:RelV v2 u2)
  (ht:PE (qv CX P w K mg base [p1,p2,x] q scope f (.ref c') [(x,c)] A outer s H E) body t) (h:t [some v1,some v2,some vc] H Q) :
  codeAny (model P w) A (.call (.ref f) args) (CR CX outer P w H s Q E) s:=by
 have lim:s.heap.NoLimit:=e0.mod.nolimit.keeps λb o e=>(e0.bs b o e).1
 refine ZP hr.depth hf rfl S.co S.gen rfl cm ?_
 rw[hb]
 have ZU:∀y∈[(p1,u1),(p2,u2)],scope.names.lookup y.1=some .local:=λy hy=>by
  simp at hy
  rcases hy with rfl | rfl
  ·exact S.l1
  ·exact S.l2
 refine wpAny_pure (wpAny_newFunctionEnv S.Nb ZU (λAn Ai Nc=>⟨lim.fresh _ Nc,?_⟩) S.kind)
 show codeAny _ _ (.expr body (PySem.W.envX q scope s.heap.objs.size f (.ref c') [(x,c)])) _ _
 have hk:∀b o,s.heap.get? b=some o->An.get? b=some o:=λb o e=>Nc.extBut b o (eA (bF e)) (eG _ e)
 have bW:p1≠p2/\p1≠x/\p2≠x:=by have:=S.nd;simp at this;exact⟨this.1.1,this.1.2,this.2⟩
 have look:∀y d,([(x,c)]:List (Str × Addr)).lookup y=some d->y=x/\d=c:=λy d e=>by
  rw[eY]at e
  split at e
  ·rename_i z;exact⟨beq_iff_eq.mp z,(cX e).symm⟩
  ·cases e
 have I:Inv (qv CX P w K mg base [p1,p2,x] q scope f (.ref c') [(x,c)] A outer s H E) [] [some v1,some v2,some vc] H { s with heap:=An,toks:=s.toks+[(p1,u1),(p2,u2)].length }:=by
  refine⟨⟨e0.mod,S.kind,rfl,rfl,bG _,λy z d h1 h2=>?_,λy hy=>?_,λy d z _=>absurd z (by simp[qv]),λ_=>hr.hd,Around.frames_deeper e0.frames,.inr ⟨rfl,rfl⟩,λb z=>absurd z (by simp[qv]),e0.bs,e0.iq,λb _ _=>by simp[qv],λb z=>absurd z (by simp[qv]),e0.fj,e0.ir⟩,
   rfl,e0.bare,Un.kept hk,⟨_,Ai,λi y v h1 h2 h3=>?_⟩,λy d h=>?_,e0.az.fresh (bG _),λy d h=>?_,λp hp=>absurd (show p∈([]:List (Addr × Obj)) from hp) (by simp),e0.az.kept hk,rfl⟩
  ·exact(look y d h1).1.trans (look z d h2).1.symm
  ·have hy:scope.names.lookup y=some .cell\/scope.names.lookup y=some .free:=hy
   rcases hy with hy | hy
   ·exact absurd rfl (S.Nb _ (PySem.mem_of_lookup hy))
   ·obtain rfl:y=x:=S.only _ (PySem.mem_of_lookup hy) rfl
    exact⟨c,by show([(y,c)]:List (Str × Addr)).lookup y=_;rw[eY,beq_self_eq_true]⟩
  ·match i,h1,h2 with
   | 0,h1,h2 =>
    cases h1;cases h2
    exact⟨u1,r1,.inl ⟨S.l1,by
     show([(p1,u1),(p2,u2)]:List (Str × Value)).reverse.lookup p1=_
     simp[eY,beq_eq_false_iff_ne.mpr bW.1]⟩⟩
   | 1,h1,h2 =>
    cases h1;cases h2
    exact⟨u2,r2,.inl ⟨S.l2,by
     show([(p1,u1),(p2,u2)]:List (Str × Value)).reverse.lookup p2=_
     simp[eY]⟩⟩
   | 2,h1,h2 =>
    cases h1;cases h2
    exact⟨uc,rc,.inr ⟨.inr S.lx,c,by show([(x,c)]:List (Str × Addr)).lookup x=_;rw[eY,beq_self_eq_true],hc.keeps hk⟩⟩
   | n+3,h1,h2=>cases h2
  ·obtain⟨rfl,rfl⟩:=look y d h
   exact⟨_,hc.keeps hk⟩
  ·obtain⟨rfl,rfl⟩:=look y d h
   exact hH
 refine PySem.W.kla_codeExpr (wpAny_mono (ht [] _ _ H _ I h) (λu s' hs=>?_) λe s' hs=>hs)
 obtain⟨v,H',J,rv,q⟩:=hs
 exact⟨v,H',J.os,J.bare,J.base,J.az,rv,q⟩
end L2
namespace L3
open PySem L2 PySem.Spec PyProof.Rows
theorem af.mR{H H':Hp}{f c:Addr}{o1 o2:HO}(h:af (rem H f c) H')(h1:H f=some o1)(n1:iF o1=true)(h2:H c=some o2)(n2:iF o2=true):af H (mR H H' f c) where
 get b o e n:=by
  by_cases z:b=f
  ·rw[z,M6,<- z];exact e
  ·by_cases z2:b=c
   ·rw[z2,EG,<- z2];exact e
   ·rw[oh z z2];exact h.get b o (by rw[gH z z2];exact e) n
 tb b ps e:=by
  have z:b≠f:=λz=>by subst z;rw[h1]at e;cases e;cases n1
  have z2:b≠c:=λz=>by subst z;rw[h2]at e;cases e;cases n2
  rw[oh z z2]
  exact h.tb b ps (by rw[gH z z2];exact e)
noncomputable abbrev ud:=Int->Int->(Int->Prop)->Prop
structure xq(P:Program)(w:World)(K:PySem.W.Frag)(mg:Str->Option Value)(base:Heap)(n:Nat)(of oc:Obj)(c k:Addr)(sp:ud):Prop where
 fn:∃o1 od fd sl,of=⟨o1,od,.func fd,sl⟩
 run:∀(A:Around) (outer:List Env) (s:Shared) (H:Hp) (f:Addr) (t u:Tok) (i j:Int) (Qd:Int->Prop),bI n A->iy P w K mg base A outer s H->s.heap.get? f=some of->s.heap.get? c=some oc->H c=none->(∃q,s.heap.CodeRec (.ref k) q)->sp i j Qd ->
  codeAny (model P w) A (.call (.ref f) ⟨[.int i t,.int j u],[]⟩) (CR aS outer P w H s (λv H'=>∃r,v=.int r/\Qd r/\af H H') (λ_ _ _=>False)) s
noncomputable def ue(L:Obj->Obj->Addr->Addr->ud->Prop)(i:Nat)(ta:bQ):aI:=λδ Q=>∃of oc c k sp,δ[i]?=some (some (.bu (.lam of oc c k)))/\L of oc c k sp/\ta δ λds ag=>∃a b,ds=[.int a,.int b]/\sp a b λr=>Q (.int r) ag
theorem Nd{X:Cx}{n i:Nat}{x:Str}{p pos:Pos}{e1 e2:Expr}{ta:bQ}(hN:X.N[i]?=some x)(hv:mh X.env.scope x)(hr:bI n X.A)(ha:PA X [e1,e2] (lA ta))
  (hd:(x==("__debug__":Str))=false:=by decide) (cm:(x==("__classdict__":Str))=false:=by decide) (he:starEach [e1,e2] X.env=(false,eval e1 X.env)::starEach [e2] X.env:=by rfl) (bg:(backTo pos (starEach [e2] X.env)).any (·.1)=false:=by rfl) :
  PE X (.Call (.Name x p) [e1,e2] [] pos) (lE (ue (xq X.prog X.w X.K X.mg X.base n) i ta)):=by
 intro pins s σ H Q I zz
 obtain⟨B,F,δ,ts,Qd,c,⟨of,oc,cc,k,sp,ed,L,q⟩,kk⟩:=zz
 obtain⟨v,ev,sv⟩:=c.look ed
 obtain⟨f,rfl,lam⟩:∃f,v=.ref f/\jx H f of oc cc k:=by
  cases sv with
  | bu h _=>exact⟨_,rfl,h⟩
 refine wpAny_Call_Name_kw (aM (rC hN hv hd cm pins s σ H (λv' H'=>v'=.ref f/\H'=H) I ⟨_,ev,rfl,rfl⟩) λu s1 zz=>?_)
 obtain⟨v',H',I1,r1,e1,e2⟩:=zz
 subst e1 e2
 obtain rfl:u=.ref f:=r1
 have fnAt:∀{H1:Hp} {s2:Shared},Inv X pins σ H1 s2->jx H1 f of oc cc k->PySem.W.FnAt f s2.heap:=λ{H1 s2} J l=>by
  obtain⟨o1,od,fd,sl,e⟩:=L.fn
  exact⟨o1,od,fd,sl,by rw[<-e];exact(J.az.lam l.fn).1⟩
 refine PySem.W.callWith_F (fnAt I1 lam) (aM (ha pos pins s1 σ H' (λvs H2=>∃a b ag F',vs=[.int a,.int b]/\(sp a b λr=>Qd (.int r) ag)/\af F F'/\af H' H2/\aj B F' H2 σ ag ts) I1
  ⟨B,F,δ,ts,_,c,q,λds ag vs F' H2 ⟨a,b,ZV,q2⟩ f1 h1 c1 s1=>?_⟩) λus s2 ⟨vs,H2,I2,r2,a,b,ag,F',ZW,q2,f1,h1,c1⟩=>⟨fnAt I2 ((show pL H' f (.lam of oc cc k) from lam).mono λa o e _ t=>h1.get a o e t),?_⟩) he bg
 ·subst ZV
  refine⟨a,b,ag,F',?_,q2,f1,h1,c1⟩
  cases s1 with
  | int s1=>cases s1 with
   | int s1=>cases s1;rfl
 ·subst ZW
  have oi:jx H2 f of oc cc k:=(show pL H' f (.lam of oc cc k) from lam).mono λa o e _ t=>h1.get a o e t
  obtain⟨o1,od,fd,sl,eof⟩:=L.fn
  have ZX:of.data=.func fd:=by rw[eof]
  obtain⟨gf,gc⟩:=I2.az.lam oi.fn
  obtain⟨ψ,ZY,xt⟩:=oi.DS
  obtain⟨u1,u2,t1,t2,rfl⟩:∃(u1 u2:Unit) (t1 t2:Tok),us=[.int a t1,.int b t2]:=by
   cases r2 with
   | cons ra r2=>cases r2 with
    | cons rb r2 =>
     cases r2
     obtain⟨t1,rfl⟩:=ra
     obtain⟨t2,rfl⟩:=rb
     exact⟨(),(),t1,t2,rfl⟩
  refine wpAny_call (codeAny_mono (L.run X.A X.stack s2 (rem H2 f cc) f t1 t2 a b _ hr (I2.rD.rem oi.fn oi.cell ZX) gf gc Am (xt _ (I2.az k _ ZY).1) q2) λr s' hq=>?_)
  cases r with
  | error e=>exact hq.elim
  | ok fl =>
   cases fl with
   | ret u =>
    refine I2.after (CE.add I2.rD oi.fn oi.cell hq (Q':=Q) ?_)
    rintro v H3 ⟨r,rfl,ZZ,hs⟩ nf nc
    have sm:=hs.mR oi.fn rfl oi.cell rfl
    exact kk _ ag _ F' _ ZZ f1 (h1.trans sm) ((c1.grow sm).pushS (.int .nil) rfl)
   | next=>exact eC hq
   | brk=>exact eC hq
   | cont=>exact eC hq
end L3
namespace L2
open PySem PySem.Spec PyProof.Rows
theorem Z0{p:Pos}{c:Value}(l:List Value)(h:TriplesOk l):TriplesOk (l++[rawInt p.line,rawInt p.col,c]):=by
 fun_induction TriplesOk l with
 | case1=>simp[TriplesOk,rawInt]
 | case2 a b d e f rest ih=>exact ih h
 | case3=>exact h.elim
theorem Z1{p q:Pos}{c cv:Value}(l:List Value)(h:TriplesOk l)(e:codeAmong q (l++[rawInt p.line,rawInt p.col,c])=some cv):codeAmong q l=some cv\/cv=c:=by
 fun_induction TriplesOk l with
 | case1 =>
  simp only[oU,rawInt,codeAmong]at e
  split at e
  ·exact .inr (cX e).symm
  ·cases e
 | case2 a b d e' f rest ih =>
  simp only[vi,codeAmong]at e ⊢
  split at e
  ·rename_i z;rw[if_pos z];exact .inl e
  ·rename_i z;rw[if_neg z];exact ih h e
 | case3=>exact h.elim
noncomputable def mS(f:Addr)(o:Obj):Heap->Prop:=λh=>h.get? f=some o
noncomputable def Z2(P c:Addr)(x:Str)(params:Arguments)(body:Expr)(scope:Scope):TE:=λ_ H Q=>(∃ps,H P=some (.cY ps)) /\
 ∀f k qn pm iP H',H f=none->H' f=some (.ext (mS f (PySem.W.kla_obj "<lambda>" qn params body scope [(x,c)] pm k iP)))->L3.DR H' k->k≠f->L3.af H H'->(∀a ws,H' a=some (.lst ws)->H a=some (.lst ws))->Q (.ref f) H'
theorem Nf{X:Cx}{P c cc:Addr}{x:Str}{params:Arguments}{body:Expr}{scope:Scope}{pos:Pos}(fY:closureFor scope X.env=pure [(x,c)])(Ao:X.env.code=.ref cc)(hK:PySem.W.codeHdIn X.K cc P=true)(xp:Bm X.mg X.base)
  (Z3:defaultsOf params X.env=([],[]):=by rfl):PE X (.Lambda params body scope pos) (Z2 P c x params body scope):=by
 intro pins s σ H Q I zz
 obtain⟨⟨ps,hP⟩,q⟩:=zz
 obtain⟨bm,ob,b1,b2,b3,b4,b5,b6,b7⟩:=xp
 have C:=PySem.W.codeHd_of_K I.ck hK
 obtain⟨oP,Ap,codes⟩:=I.az P _ hP
 have hg:=I.mod.glob.keeps I.bk
 have Ng:∀{b o},X.base.get? b=some o->b≠P:=λ{b o} e z=>by
  have:=(I.bs b o e).2
  rw[z,hP]at this;cases this
 have Z4:mainGlobals≠P:=by
  obtain⟨o,es,ep,e,_⟩:=I.mod.glob
  exact Ng e
 have Nh:s.heap.BuiltinsAt X.mg P:=⟨bm,ob,b1,b2,b3,Ng b4,I.bk _ _ b4,b5,b6,b7⟩
 refine PySem.W.kla_eval Z3 ?_
 have fresh:∀{b:Addr},s.heap.objs.size<=b->H b=none:=λ{b} h=>I.az.fresh h
 cases EJ:codeAmong pos ps.toList with
 | none =>
  refine PySem.W.kla_makeFunction (mg:=X.mg) fY I.ok.glob hg Ao C oP Ap EJ Z4 Nh λk iP h' tk hx xu fV Z5 Ni=>?_
  have EK:P<s.heap.objs.size:=bF oP
  have Z6:k≠P:=λz=>by rw[z]at xu;exact absurd EK (vj.mpr xu)
  have qw:s.heap.objs.size<=h'.objs.size:=eO xu (yD fV)
  have Z7:h'.objs.size≠P:=λz=>by rw[<-z]at EK;exact absurd EK (vj.mpr qw)
  have Nj:k≠h'.objs.size:=eA fV
  generalize Nk:PySem.W.kla_obj "<lambda>" (X.env.qual++"<lambda>") params body scope [(x,c)] ((X.mg "__name__").getD .none) k iP=obj
  have dE:obj.isFreed=false:=by rw[<-Nk];rfl
  have xv:∀b,b≠P->b≠k->b≠h'.objs.size->upd (upd (upd H P (.cY (ps++#[rawInt pos.line,rawInt pos.col,.ref k]))) k (.ext λh=>∃q,h.CodeRec (.ref k) q)) h'.objs.size (.ext (mS h'.objs.size obj)) b=H b:=λb n1 n2 n3=>by
   rw[aO n3,aO n2,aO n1]
  have Aq:upd (upd (upd H P (.cY (ps++#[rawInt pos.line,rawInt pos.col,.ref k]))) k (.ext λh=>∃q,h.CodeRec (.ref k) q)) h'.objs.size (.ext (mS h'.objs.size obj)) h'.objs.size=some (.ext (mS h'.objs.size obj)):=bA
  have atK:upd (upd (upd H P (.cY (ps++#[rawInt pos.line,rawInt pos.col,.ref k]))) k (.ext λh=>∃q,h.CodeRec (.ref k) q)) h'.objs.size (.ext (mS h'.objs.size obj)) k=some (.ext λh=>∃q,h.CodeRec (.ref k) q):=by rw[aO Nj,bA]
  have Ar:upd (upd (upd H P (.cY (ps++#[rawInt pos.line,rawInt pos.col,.ref k]))) k (.ext λh=>∃q,h.CodeRec (.ref k) q)) h'.objs.size (.ext (mS h'.objs.size obj)) P=some (.cY (ps++#[rawInt pos.line,rawInt pos.col,.ref k])):=by rw[aO Z7.symm,aO Z6.symm,bA]
  generalize hHn:upd (upd (upd H P (.cY (ps++#[rawInt pos.line,rawInt pos.col,.ref k]))) k (.ext λh=>∃q,h.CodeRec (.ref k) q)) h'.objs.size (.ext (mS h'.objs.size obj))=Hn at xv Aq atK Ar
  have old:∀{b o},H b=some o->b≠P->Hn b=some o:=λ{b o} e n=>by
   have hb:b<s.heap.objs.size:=I.az.lt e
   rw[xv b n (λz=>absurd hb (vj.mpr (z ▸ xu))) (λz=>absurd hb (vj.mpr (z ▸ qw)))];exact e
  have kept:∀b o,b≠P->s.heap.get? b=some o->(h'.push obj).get? b=some o:=λb o n e=>eG _ (hx b o n e)
  have un:Un X.fs [] H Hn s.heap (h'.push obj):=by
   refine⟨λb o e n _ _=>kept b o (λz=>by rw[z,hP]at n;cases n) e,λb o e n _ _=>⟨o.slots,kept b o (λz=>by rw[z,hP]at n;cases n) e⟩,λb o e n _=>?_,λb o e _=>?_,λb xs e=>old e (λz=>by rw[z,hP]at e;cases e),λb ob xs e=>old e (λz=>by rw[z,hP]at e;cases e),λb Nl e=>?_⟩
   ·have hb:=bF e
    rw[xv b (λz=>by rw[z,hP]at n;cases n) (λz=>absurd hb (vj.mpr (z ▸ xu))) (λz=>absurd hb (vj.mpr (z ▸ qw)))];exact n
   ·by_cases z:b=P
    ·rw[z];exact⟨_,eG _ Ni⟩
    ·exact⟨o,kept b o z e⟩
   ·by_cases z:b=P
    ·subst z
     rw[hP]at e;cases e
     exact⟨_,Ar⟩
    ·exact⟨#[],by rw[old e z];simp⟩
  have az:cu X.prog X.w Hn (h'.push obj):=λb o e=>by
   by_cases z1:b=h'.objs.size
   ·subst z1
    rw[Aq]at e;cases e
    exact⟨gU _ dE,⟨_,gU _ dE⟩,λh1 h2 p kk=>kk _ _ (.inl rfl) p⟩
   ·by_cases z2:b=k
    ·subst z2
     rw[atK]at e;cases e
     have hr:=Z5.push obj
     refine⟨⟨_,hr⟩,?_,λh1 h2 ⟨q,c1,o1,vs,t,e1,e2,r⟩ kk=>?_⟩
     ·obtain⟨c1,o1,vs,t,e1,e2,_⟩:=hr
      cases e1
      exact⟨o1,e2⟩
     ·cases e1
      exact⟨q,_,o1,vs,t,rfl,kk _ _ (.inl rfl) e2,r⟩
    ·by_cases z3:b=P
     ·subst z3
      rw[Ar]at e;cases e
      refine⟨eG _ Ni,by rw[TV];exact Z0 _ Ap,λp' cv e'=>?_⟩
      rw[TV]at e'
      rcases Z1 _ Ap e' with e' | e'
      ·obtain⟨d,φ,e1,e2,e3⟩:=codes p' cv e'
       exact⟨d,φ,e1,old e2 (λz=>by rw[z,hP]at e2;cases e2),e3⟩
      ·exact⟨k,_,e',atK,λh' p=>p⟩
     ·rw[xv b z3 z2 z1]at e
      have nP:∀{b' o'},H b'=some o'->(∀ps,o'≠.cY ps)->b'≠P:=λ{b' o'} e n z=>by rw[z,hP]at e;cases e;exact n _ rfl
      refine(I.az b o e).ik (λb' u oj e'=>kept b' u ?_ e') (λb' e'=>old e' (nP e' (λps z=>by cases z))) (λb' xs e'=>old e' (nP e' (λps z=>by cases z))) λb' φ e'=>old e' (nP e' (λps z=>by cases z))
      rcases oj with rfl | oj
      ·exact z3
      ·exact nP oj (λps z=>by cases z)
  refine⟨.ref h'.objs.size,Hn,I.un un az,rfl,q _ k _ _ _ _ (fresh qw) (by rw[Nk];exact Aq) ⟨_,atK,λh p=>p⟩ Nj ⟨λb o e n=>old e (λz=>by rw[z,hP]at e;cases e;cases n),λb Nl e=>?_⟩ λa ws e=>?_⟩
  ·exact un.fA b Nl e
  ·by_cases z1:a=h'.objs.size
   ·subst z1;rw[Aq]at e;cases e
   ·by_cases z2:a=k
    ·subst z2;rw[atK]at e;cases e
    ·by_cases z3:a=P
     ·subst z3;rw[Ar]at e;cases e
     ·rw[xv a z3 z2 z1]at e;exact e
 | some cv =>
  obtain⟨k,φ,rfl,hk,EH⟩:=codes pos cv EJ
  refine PySem.W.kla_makeFunctionHit (mg:=X.mg) fY I.ok.glob hg Ao C oP Ap EJ Nh λiP h' tk hx qw=>?_
  have hf:=fresh qw
  refine⟨.ref h'.objs.size,upd H h'.objs.size (.ext (mS h'.objs.size (PySem.W.kla_obj "<lambda>" (X.env.qual++"<lambda>") params body scope [(x,c)] ((X.mg "__name__").getD .none) k iP))),I.laid (λb u e=>eG _ (hx b u e)) qw ?_,rfl,q _ k (X.env.qual++"<lambda>") ((X.mg "__name__").getD .none) iP _ hf bA ⟨φ,?_,EH⟩ (cT hk hf) (L3.af.of λb o e=>?_) λa ws e=>?_⟩
  ·exact⟨gU _ rfl,⟨_,gU _ rfl⟩,λh1 h2 p kk=>kk _ _ (.inl rfl) p⟩
  ·rw[aO (cT hk hf)];exact hk
  ·rw[aO (cT e hf)];exact e
  ·by_cases z:a=h'.objs.size
   ·subst z;rw[bA]at e;cases e
   ·rw[aO z]at e;exact e
end L2
namespace L2
open PySem PySem.Spec PyProof.Rows
structure uf(K:PySem.W.Frag)(C:Addr)(m:Str)(f:Addr):Prop where
 ga:PySem.W.specialIn K (.ref C) "__getattribute__"=some (some (.builtin "type.__getattribute__"))
 rd:PySem.W.readsIn K C (.type "type")=true
 at_:PySem.W.findCls K (.ref C) (.type "type") m=some (.val (.ref f))
 kp:PySem.W.keepIn K (.ref f)=true
section
variable{X:Cx}{CX:dB}{k:Nat}{f C:Addr}{fd:FuncData}{ps:List Str}{sp:Sp}{E:XK}{x m:Str}{p pos apos:Pos}{e o:Expr}{es:List Expr}{ta:TE}{t:TA}
theorem Z8{pins:List (Addr × Obj)}{σ:St}{H:Hp}{s:Shared}{pl:Sem Bool}{A:Around}{E':Value->Shared->Prop}{Q:Value × List Value->Shared->Prop}(I:Inv X pins σ H s)(M:uf X.K C m f)(h:∀s',Inv X pins σ H s'->Q (.ref f,[]) s') :
  wpAny (model X.prog X.w) A (getMethod (.ref C) m pl) Q E' s :=
 PySem.W.method_cls I.ck M.ga (PySem.W.cls_value (mc:=.type "type") I.ck M.rd M.at_ rfl (h _ (I.tok _)))
theorem Nm{pins:List (Addr × Obj)}{σ:St}{H:Hp}{s:Shared}{pl:Sem Bool}{Q:Value->Shared->Prop}{QA:List V->Hp->Prop}(I:Inv X pins σ H s)(M:uf X.K C m f)(hg:Gl X x)(hm:X.mg x=some (.ref C))(ha:PA X (e::es) t)(h:t σ H QA)
  (hq:∀us s1 vs H1,Inv X pins σ H1 s1->Vals vs us->QA vs H1->wpAny (model X.prog X.w) X.A (call (.ref f) us) Q X.xe s1)
  (cE:(x==("__debug__":Str))=false:=by decide) (bS:starEach (e::es) X.env=(false,eval e X.env)::starEach es X.env:=by rfl) (bg:(backTo pos (starEach es X.env)).any (·.1)=false:=by rfl)
  (ht:eval (.Call (.Attribute (.Name x p) m apos) (e::es) [] pos) X.env=(do
   let ov<-eval (.Name x p) X.env
   standAt apos.atName
   let (f,first)<-holding [ov] (getMethod ov m pl)
   callWith pos f first (backTo pos (starEach (e::es) X.env)) (backToKw pos (keywordEach [] X.env))):=by rfl) :
  wpAny (model X.prog X.w) X.A (eval (.Call (.Attribute (.Name x p) m apos) (e::es) [] pos) X.env) Q X.xe s:=by
 refine PySem.W.methodCall_KW (pl:=pl) (ph I hg hm ?_ cE) ht
 refine Z8 I M λs1 I1=>?_
 refine PySem.W.callWith_K (first:=[]) (h₀:=X.base) I.ok.mod.kz M.kp (aM (ha pos pins s1 σ H _ I1 h) λus s2 ⟨vs,H2,I2,r,q2⟩=>⟨I2.ck,?_⟩) bS bg
 exact hq us s2 vs H2 I2 r q2
noncomputable def Z9(sp:Sp)(E:XK)(c:Addr)(i:Nat)(t:TA):TE:=λσ H Q=>t σ H λvs H1=>∃f of fd v,H1 f=some (.ext (mS f of))/\of.data=.func fd/\σ[i]?=some (some v) /\
 ∀oc u,oc.data=.cell (some u)->RelV v u->H1 c=none->c≠f->sp vs (upd (upd H1 f (.ext (L3.i6 of oc c f))) c (.own f)) (λr H2=>H2 f=some (.ext (L3.i6 of oc c f))/\H2 c=some (.own f)/\Q r (rem H2 f c)) E
theorem Nn{pl:Sem Bool}{y:Str}{c:Addr}{i:Nat}(M:uf X.K C m f)(F:aL X.prog X.w X.K X.mg X.base aS k f fd ps sp)(hr:bI k X.A)(hb:Binds X.K fd ps [])(hg:Gl X x)(hm:X.mg x=some (.ref C))
  (hN:X.N[i]?=some y) (hy:X.env.scope.names.lookup y=some .cell) (fY:X.env.cells.lookup y=some c) (vB:X.fn y=true) (ha:PA X (e::es) t)
  (cE:(x==("__debug__":Str))=false:=by decide) (bS:starEach (e::es) X.env=(false,eval e X.env)::starEach es X.env:=by rfl) (bg:(backTo pos (starEach es X.env)).any (·.1)=false:=by rfl)
  (ht:eval (.Call (.Attribute (.Name x p) m apos) (e::es) [] pos) X.env=(do
   let ov<-eval (.Name x p) X.env
   standAt apos.atName
   let (f,first)<-holding [ov] (getMethod ov m pl)
   callWith pos f first (backTo pos (starEach (e::es) X.env)) (backToKw pos (keywordEach [] X.env))):=by rfl) :
  PE X (.Call (.Attribute (.Name x p) m apos) (e::es) [] pos) (Z9 sp E c i t):=by
 intro pins s σ H Q I h
 refine Nm (pl:=pl) I M hg hm ha h (λus s1 vs H1 I1 r zq=>?_) cE bS bg ht
 obtain⟨fa,of,fdd,v,hf,hd,hv,hq⟩:=zq
 obtain⟨ml,_,hl⟩:=I1.loc
 obtain⟨u,rv,lk⟩:=hl i y v hN hv (.inr (.inl hy))
 obtain⟨oc,gc,iu⟩:∃oc,s1.heap.get? c=some oc/\oc.data=.cell (some u):=by
  rcases lk with⟨hk,_⟩ | ⟨_,c',vC,ic⟩
  ·rw[show X.env.kindOf y=some .cell from hy]at hk;cases hk
  ·rw[fY]at vC;cases vC;exact ic
 have nc:H1 c=none:=I1.eZ y c fY
 have om:c≠fa:=λz=>by rw[z,hf]at nc;cases nc
 have gf:s1.heap.get? fa=some of:=(I1.az fa _ hf).1
 have gX:=hq oc u iu rv nc om
 have Np:=I1.ok.mi y c vB fY
 generalize hH:upd (upd H1 fa (.ext (L3.i6 of oc c fa))) c (.own fa)=Hp at gX
 have Nq:Hp c=some (.own fa):=by rw[<-hH,bA]
 have γ:Hp fa=some (.ext (L3.i6 of oc c fa)):=by rw[<-hH,aO om.symm,bA]
 have k9:∀b,b≠fa->b≠c->Hp b=H1 b:=λb n1 n2=>by rw[<-hH,aO n2,aO n1]
 have ε:c ∉ X.fs:=λhb=>by
  obtain⟨_,o,ho,_⟩:=I1.ok.fj.mem hb
  exact absurd (cq (bF ho) Np) (gh _)
 have ζ:∀b∈dh X.stack,b≠c:=λb hb z=>by
  rcases bR.mp (I1.vy b hb)with e | hb
  ·exact I1.jt y c fY (z ▸ e)
  ·exact ε (z ▸ hb)
 have η:cu X.prog X.w Hp s1.heap:=λb ob q=>by
  by_cases z1:b=c
  ·subst z1;rw[Nq]at q;cases q;exact⟨_,gc⟩
  ·by_cases z2:b=fa
   ·subst z2;rw[γ]at q;cases q
    exact⟨⟨gf,gc⟩,⟨_,gf⟩,λh1 h2 p kk=>⟨kk _ _ (.inl rfl) p.1,kk _ _ (.inr Nq) p.2⟩⟩
   ·rw[k9 b z2 z1]at q
    have x1:=(I1.az b ob q).rem (f:=fa) (c:=c) z2 hf (.inr nc) (M7 gf (λ_ p=>p) hd)
    have up:∀{b' o'},rem H1 fa c b'=some o'->Hp b'=some o':=λ{b' o'} q=>by
     obtain⟨n1,n2,q'⟩:=M5 q
     rw[k9 b' n1 n2];exact q'
    exact x1.ik (λ_ _ _ q=>q) (λ_ q=>up q) (λ_ _ q=>up q) λ_ _ q=>up q
 have e0:iy X.prog X.w X.K X.mg X.base X.A X.stack s1 Hp:=by
  have e1:=I1.rD
  refine⟨e1.frames,e1.mod,λb ob q=>⟨(e1.bs b ob q).1,?_⟩,e1.iq,e1.fj,λb hb=>?_,η,e1.bare⟩
  ·have θ:=(I1.ok.bs b ob q).1
   rw[k9 b (λz=>by have:=(e1.bs b ob q).2;rw[z,hf]at this;cases this) (λz=>absurd (cq (bF θ) (z ▸ Np)) (gh _))]
   exact(e1.bs b ob q).2
  ·have nb:=e1.ir b hb
   rw[k9 b (λz=>by rw[z,hf]at nb;cases nb) (ζ b hb)];exact nb
 have hlen:us.length=ps.length:=by rw[<-r.length];exact F.len _ _ _ _ gX
 refine wpAny_call (codeAny_mono (F.run X.A X.stack s1 Hp ⟨us,[]⟩ us vs _ E hr e0 (by have:=hb s1 us I1.ck (by rw[fO];exact hlen);rwa [fO]at this) r gX) λrr s' hz=>?_)
 cases rr with
 | error e=>exact hz.elim
 | ok fl =>
  cases fl with
  | next=>exact eC hz
  | brk=>exact eC hz
  | cont=>exact eC hz
  | ret u' =>
   obtain⟨v',H2,os,bare,un,Nr,ι,q1,q2,q3⟩:=hz
   obtain⟨_,Nt⟩:=Nr.lam q1
   refine I1.after ⟨v',rem H2 fa c,os,bare,⟨λb ob g n hb hx=>?_,λb ob g n hb hx=>?_,λb ob g n hx=>?_,un.there,λb xs g=>?_,λb ob xs g=>?_,λb ps g=>?_⟩,Nr.rem q1 q2 hd,ι,q3⟩
   ·by_cases z:b=c
    ·rw[z,gc]at g;cases g;rw[z];exact Nt
    ·exact un.keep b ob g (by rw[k9 b (λz=>by rw[z,hf]at n;cases n) z];exact n) hb hx
   ·by_cases z:b=c
    ·rw[z,gc]at g;cases g;rw[z];exact⟨_,Nt⟩
    ·exact un.slot b ob g (by rw[k9 b (λz=>by rw[z,hf]at n;cases n) z];exact n) hb hx
   ·by_cases z:b=c
    ·rw[z];exact Am
    ·exact ub (un.free b ob g (by rw[k9 b (λz=>by rw[z,hf]at n;cases n) z];exact n) hx)
   ·have n1:b≠fa:=λz=>by rw[z,hf]at g;cases g
    have n2:b≠c:=λz=>by rw[z,nc]at g;cases g
    rw[gH n1 n2]
    exact un.gW b xs (by rw[k9 b n1 n2];exact g)
   ·have n1:b≠fa:=λz=>by rw[z,hf]at g;cases g
    have n2:b≠c:=λz=>by rw[z,nc]at g;cases g
    rw[gH n1 n2]
    exact un.gk b ob xs (by rw[k9 b n1 n2];exact g)
   ·have n1:b≠fa:=λz=>by rw[z,hf]at g;cases g
    have n2:b≠c:=λz=>by rw[z,nc]at g;cases g
    rw[gH n1 n2]
    exact un.fA b ps (by rw[k9 b n1 n2];exact g)
end
end L2
namespace L3
open PySem L2 PySem.Spec PyProof.Rows
theorem qy{ts:List Addr}{H H':Hp}(h:Tb ts H)(s:af H H'):Tb ts H':=λP hP=>by
 obtain⟨ps,e⟩:=h P hP
 obtain⟨m,e2⟩:=s.tb P ps e
 exact⟨_,e2⟩
theorem Nu{P:Program}{w:World}{K:PySem.W.Frag}{mg:Str->Option Value}{base:Heap}{n:Nat}{p1 p2 x qn:Str}{params:Arguments}{body:Expr}{scope:Scope}{pm iP:Value}{oc:Obj}{c k:Addr}{m:Int}{tm:Tok}{sp:ud}(S:Na p1 p2 x scope)
  (iu:oc.data=.cell (some (.int m tm))) (hb:∀u1 u2:Value,bindArgs (PySem.W.kla_fn "<lambda>" qn params body scope [(x,c)] pm (.ref k) iP) ⟨[u1,u2],[]⟩=pure [(p1,u1),(p2,u2)])
  (fm:∀(q:Str) (f:Addr) (A:Around) (outer:List Env) (s:Shared) (H:Hp) (E:XK),bI n (A.deeper (PySem.W.envX q scope s.heap.objs.size f (.ref k) [(x,c)])) ->
   ∃t:aI,PE (qv aS P w K mg base [p1,p2,x] q scope f (.ref k) [(x,c)] A outer s H E).fk body (lE t)/\∀i j Qd,sp i j Qd->t [some (.int i),some (.int j),some (.int m)] λd _=>∃r,d=.int r/\Qd r) :
  xq P w K mg base (n+1) (PySem.W.kla_obj "<lambda>" qn params body scope [(x,c)] pm k iP) oc c k sp where
 fn:=⟨_,_,_,_,rfl⟩
 run A outer s H f t u i j Qd hr e0 gf gc hH cm h:=by
  obtain⟨q,cm⟩:=cm
  obtain⟨tt,ht,hq⟩:=fm q f A outer s H (λ_ _ _=>False) (hr.deeper _)
  refine ZT (v1:=.int i) (v2:=.int j) (vc:=.int m) (E:=λ_ _ _=>False) S e0 hr gf ⟨oc,gc,iu⟩ ⟨tm,rfl⟩ hH cm (hb _ _) ⟨t,rfl⟩ ⟨u,rfl⟩ ht.fk ?_
  refine⟨⟨H,H⟩,H,_,[],_,?_,hq i j Qd h,λd ag v F' H' hd f1 h1 c1=>?_⟩
  ·exact aj.start (ds:=[.int i,.int j,.int m]) (vs:=[.int i,.int j,.int m]) (af.refl H) (.int (.int (.int .nil))) 0
  ·obtain⟨r,rfl,hd⟩:=hd
   have s1:=c1.top
   cases s1
   exact⟨r,rfl,hd,h1⟩
section
variable{X:Cx}{CX:dB}{n:Nat}{f:Addr}{fd:FuncData}{ps:List Str}{sp:bc}{E:XK}{x:Str}{p pos:Pos}{e:Expr}{es:List Expr}{t:bQ}{tl:List Addr}
theorem EL(hT:Tb tl X.iZ)(F:aL X.prog X.w X.K X.mg X.base CX n f fd ps (ua tl (bf sp)))(hr:bI n X.A)(hg:Gl X x)(hm:X.mg x=some (.ref f))(hk:PySem.W.keepIn X.K (.ref f)=true)(hb:Binds X.K fd ps [])(hx:i5 CX X E)
  (ha:PA X (e::es) (lA t)) (cE:(x==("__debug__":Str))=false:=by decide) (he:starEach (e::es) X.env=(false,eval e X.env)::starEach es X.env:=by rfl) (bg:(backTo pos (starEach es X.env)).any (·.1)=false:=by rfl) :
  PE X (.Call (.Name x p) (e::es) [] pos) (lE (nR sp t)):=by
 intro pins s σ H Q I zz
 obtain⟨B,F',δ,ts,Qd,c,q,k⟩:=zz
 have tb:=Ak I hT
 refine jw F hr hg hm hk hb .nil hx ha cE he bg pins s σ H Q I ⟨B,F',δ,ts,_,c,q,λds ah vs F1 H1 q1 f1 h1 c1 s1=>?_⟩
 refine⟨qy tb h1,?_⟩
 rw[fO]
 exact we c1 s1 q1 λd v F' H' hd hf hs c'=>k d ah v F' H' hd (f1.trans hf) (h1.trans hs) c'
end
section
variable{P:Program}{w:World}{K:PySem.W.Frag}{mg:Str->Option Value}{base:Heap}
theorem EM{x qual:Str}{st:Stmt}{f:Addr}{fd:FuncData}{N ps:List Str}{k:Nat}{sp:bc}{tl:List Addr}(F:aZ K x qual st f fd)(S:aY N ps (aK st))(len:∀ds Q,sp ds Q->ds.length=ps.length)
  (fm:∀(ax:Value) (A:Around) (outer:List Env) (s:Shared) (H:Hp) (E:XK),Tb tl H->bI k (A.deeper (envOfC qual (aK st) s.heap.objs.size f ax)) ->
   ∃t:b9,PSs (fS aS P w K mg base N qual (aK st) f ax A outer s H E).fk (eD st) (lS (fS aS P w K mg base N qual (aK st) f ax A outer s H E).fk t)/\∀ds Q,sp ds Q->t { nx:=λ_=>Q .ao,rt:=Q } (i7 N ds)):aL P w K mg base aS (k+1) f fd ps (ua tl (bf sp)):=by
 refine F.ok S (λvs H Q E ⟨_,F,ds,Qd,e,r,h,_⟩=>by rw[<-r.length];exact len ds Qd h) λax A outer s H vs Q E hr zz=>?_
 obtain⟨tb,F,ds,Qd,e,r,h,k⟩:=zz
 obtain⟨t,ht,hq⟩:=fm ax A outer s H E tb hr
 have fin:∀d v ag aw F' H',Qd d->aj ⟨H,F⟩ F' H' aw ag [(d,v)]->Q v H':=λd v ag aw F' H' hd c=>by
  obtain⟨A,C,r',s',nd,fr⟩:=c.own
  exact k d v F' H' A hd c.b1 c.b2 c.ext c.b3 r' (fW.mp nd).1 λa ha=>fr a (eB _ ha)
 have e1:L2.start N vs=vs.map some++aX (N.length-ds.length) none:=by unfold L2.start;rw[r.length]
 refine⟨_,ht,⟨H,F⟩,F,i7 N ds,_,?_,hq ds Qd h,λag aw F' H' hd c=>fin .ao .ao ag aw F' H' hd (c.pushS (.ao .nil) rfl),fin,λ_ _ _ _ z=>z.elim,λ_ _ _ _ z=>z.elim,XL.none (λ_ _ z=>z) λ_ _ z=>z⟩
 rw[e1]
 exact aj.start e r _
theorem Nv{x qual:Str}{st:Stmt}{f cc:Addr}{fd:FuncData}{N ps:List Str}{k:Nat}{sp:Sp}(F:aZ K x qual st f fd)(Ao:fd.code=.ref cc)(S:aY N ps (aK st))(len:∀vs H Q E,sp vs H Q E->vs.length=ps.length)
  (fm:∀(A:Around) (outer:List Env) (s:Shared) (H:Hp) (vs:List V) (Q:VK) (E:XK),bI k (A.deeper (envOfC qual (aK st) s.heap.objs.size f (.ref cc)))->sp vs H Q E ->
   ∃t,PSs (fS aS P w K mg base N qual (aK st) f (.ref cc) A outer s H E).fk (eD st) t/\t { nx:=λ_ H'=>Q .ao H',rt:=Q } (L2.start N vs) H):aL P w K mg base aS (k+1) f fd ps sp:=by
 obtain⟨oc,od,kV,doc,pm,an,ax,ct,fU,rfl,lk,cm⟩:=F.ex
 obtain rfl:ax=.ref cc:=Ao
 refine vP lk cm S len λA outer s H vs Q E hr gu=>?_
 obtain⟨t,h,q⟩:=fm A outer s H vs Q E hr gu
 exact⟨t,h.fk,q⟩
end
end L3
namespace L3
open PySem L2 PySem.Spec PyProof.Rows
theorem μ{ns:List Str}{xs:List D}{ws:List V}{F H:Hp}{f:Str}{d:D}(r:R F H xs ws [])(h:(ns.zip xs).lookup f=some d):∃w,(ns.zip ws).lookup f=some w/\R F H [d] [w] []:=by
 generalize e:([]:List Addr)=A at r
 induction ns generalizing xs ws A with
 | nil=>simp at h
 | cons n ns ih =>
  cases xs with
  | nil=>simp at h
  | cons x xs =>
   obtain⟨v,bV,A1,A2,rfl,rfl,h1,h2⟩:=R.cQ r
   obtain⟨rfl,rfl⟩:=yP.mp e.symm
   rw[TX]at h ⊢
   by_cases z:f=n
   ·subst z
    rw[eY,beq_self_eq_true]at h
    cases h
    refine⟨v,?_,h1⟩
    rw[eY,beq_self_eq_true]
   ·have z':(f==n)=false:=beq_eq_false_iff_ne.mpr z
    rw[eY,z']at h
    obtain⟨w,e1,e2⟩:=ih h [] rfl h2
    refine⟨w,?_,e2⟩
    rw[eY,z']
    exact e1
theorem EN{ns:List Str}{ws:List V}{f:Str}(h:f ∉ ns):(ns.zip ws).lookup f=none:=by
 induction ns generalizing ws with
 | nil=>simp
 | cons n ns ih =>
  cases ws with
  | nil=>simp
  | cons w ws =>
   rw[TX,eY]
   have hn:(f==n)=false:=beq_eq_false_iff_ne.mpr λz=>h (by rw[z];simp)
   simp only[hn]
   exact ih λz=>h (by simp[z])
theorem As{F H:Hp}{C:Addr}{ns:List Str}{xs:List D}{v:V}(s:S F H [.obj C ns xs] [v]):∃p dx ws,v=.ref p/\H p=some (.ins C dx (ns.zip ws))/\ns.length=ws.length/\R F H xs ws []:=by
 cases s with
 | obj h l r _=>exact⟨_,_,_,rfl,h,l,r⟩
section
variable{X:Cx}{e o:Expr}{es:List Expr}{f m x:Str}{pos p apos:Pos}{t to:aI}{ta:bQ}{n:Nat}
noncomputable def qA(K:PySem.W.Frag)(t:aI)(f:Str):aI:=λδ Q=>t δ λd ag=>∃C ns xs v,d=.obj C ns xs/\cB K C/\bj K C f/\(ns.zip xs).lookup f=some v/\Q v ag
theorem ν(he:PE X e (lB t))(hb:attributeBase e f X.env (eval e X.env)=eval e X.env:=by rfl):PE X (.Attribute e f pos) (lB (qA X.K t f)) :=
 cN (pG he hb) λσ H Q zq=>by
 obtain⟨B,F,δ,ts,Qd,c,q,k⟩:=zq
 exact⟨B,F,δ,ts,_,c,q,λd ag v F' H' ⟨C,ns,xs,w,ed,hc,hn,hl,hq⟩ f1 h1 c1 s1=>by
  subst ed
  obtain⟨p,dx,ws,rfl,hp,_,r⟩:=As s1
  obtain⟨u,hu,ru⟩:=μ r hl
  exact⟨p,C,dx,_,u,rfl,hp,hc,hn,hu,k w ag u F' H' hq f1 h1 c1 ru.s⟩⟩
structure jf(P:Program)(w:World)(K:PySem.W.Frag)(mg:Str->Option Value)(base:Heap)(n:Nat)(m:Str)(C:Addr)(sp:bc):Prop where
 cls:cB K C
 ex:∃f fd ps,Meth K C m f/\aL P w K mg base aS n f fd ps (bf sp)/\Binds K fd ps []
noncomputable def qB(MO:Addr->bc->Prop)(m:Str)(to:aI)(ta:bQ):aI:=λδ Q=>to δ λd ah=>∃C ns xs sp,d=.obj C ns xs/\MO C sp/\m ∉ ns/\ta ah λds aP=>sp ((D.obj C ns xs::ds).map D.sh) λr=>((D.obj C ns xs::ds).all D.pl||r.fr)=true/\Q r aP
theorem ξ{pl:Sem Bool}(ho:PE X o (lB to))(hr:bI n X.A)(ha:PA X (e::es) (lA ta))
  (bS:starEach (e::es) X.env=(false,eval e X.env)::starEach es X.env:=by rfl) (bg:(backTo pos (starEach es X.env)).any (·.1)=false:=by rfl)
  (ht:eval (.Call (.Attribute o m apos) (e::es) [] pos) X.env=(do
   let ov<-eval o X.env
   standAt apos.atName
   let (f,first)<-holding [ov] (getMethod ov m pl)
   callWith pos f first (backTo pos (starEach (e::es) X.env)) (backToKw pos (keywordEach [] X.env))):=by rfl) :
  PE X (.Call (.Attribute o m apos) (e::es) [] pos) (lE (qB (jf X.prog X.w X.K X.mg X.base n m) m to ta)):=by
 intro pins s σ H Q I zz
 obtain⟨B,F,δ,ts,Qd,c,q,k⟩:=zz
 refine PySem.W.methodCall_KW (pl:=pl) (aM (ho pins s σ H (λx H1=>∃d ah F1,S F1 H1 [d] [x]/\aj B F1 H1 σ ah ts/\af F F1/\af H H1/\∃C ns xs sp,d=.obj C ns xs/\jf X.prog X.w X.K X.mg X.base n m C sp/\m ∉ ns/\ta ah λds aP=>sp ((D.obj C ns xs::ds).map D.sh) λr=>((D.obj C ns xs::ds).all D.pl||r.fr)=true/\Qd r aP) I
  ⟨B,F,δ,ts,_,c,q,λd ah v F1 H1 hq f1 h1 c1 s1=>⟨d,ah,F1,s1,c1,f1,h1,hq⟩⟩) λu s1 zq=>?_) ht
 obtain⟨x,H1,I1,rx,d,ah,F1,sd,c1,f1,h1,C,ns,xs,sp,ed,M,hm,hq⟩:=zq
 subst ed
 obtain⟨a,dx,ws,rfl,ea,hl,r0⟩:=As sd
 obtain rfl:u=cj a:=rx
 obtain⟨f,fd,ps,oo,FO,hb⟩:=M.ex
 refine zH I1 ea M.cls oo (EN hm) ?_
 refine PySem.W.callWith_K (first:=[.ref a]) (h₀:=X.base) I.ok.mod.kz oo.kp (aM (ha pos pins s1 σ H1 (λvs H2=>∃ds aP F2,S F2 H2 ds vs/\aj B F2 H2 σ aP ts/\af F1 F2/\af H1 H2/\sp ((D.obj C ns xs::ds).map D.sh) λr=>((D.obj C ns xs::ds).all D.pl||r.fr)=true/\Qd r aP) I1
  ⟨B,F1,ah,ts,_,c1,hq,λds aP vs F2 H2 hq f2 h2 c2 s2=>⟨ds,aP,F2,s2,c2,f2,h2,hq⟩⟩) λus s2 ⟨vs,H2,I2,r,ds,aP,F2,EO,c2,f2,h2,gu⟩=>⟨I2.ck,?_⟩) bS bg
 refine rE (us:=.ref a::us) (vs:=.ref a::vs) (dX:=[]) FO hr hb .nil dP I2 (.cons rfl r) ?_
 rw[fO]
 exact we c2 (.obj (h2 _ _ ea) hl (r0.shared f2 h2) EO) gu λd v F' H' hd hf hs c'=>k d aP v F' H' hd (f1.trans (f2.trans hf)) (h1.trans (h2.trans hs)) c'
noncomputable def qC(MO:Addr->bc->Prop)(m:Str)(to:aI):aI:=λδ Q=>to δ λd ah=>∃C ns xs sp,d=.obj C ns xs/\MO C sp/\m ∉ ns/\sp [D.obj C ns xs] λr=>Q r ah
theorem ο{pl:Sem Bool}(ho:PE X o (lB to))(hr:bI n X.A)
  (ht:eval (.Call (.Attribute o m apos) [] [] pos) X.env=(do
   let ov<-eval o X.env
   standAt apos.atName
   let (f,first)<-holding [ov] (getMethod ov m pl)
   callWith pos f first (backTo pos (starEach [] X.env)) (backToKw pos (keywordEach [] X.env))):=by rfl) :
  PE X (.Call (.Attribute o m apos) [] [] pos) (lE (qC (jf X.prog X.w X.K X.mg X.base n m) m to)):=by
 intro pins s σ H Q I zz
 obtain⟨B,F,δ,ts,Qd,c,q,k⟩:=zz
 refine PySem.W.methodCall_KW (pl:=pl) (aM (ho pins s σ H (λx H1=>∃d ah F1,S F1 H1 [d] [x]/\aj B F1 H1 σ ah ts/\af F F1/\af H H1/\∃C ns xs sp,d=.obj C ns xs/\jf X.prog X.w X.K X.mg X.base n m C sp/\m ∉ ns/\sp [D.obj C ns xs] λr=>Qd r ah) I
  ⟨B,F,δ,ts,_,c,q,λd ah v F1 H1 hq f1 h1 c1 s1=>⟨d,ah,F1,s1,c1,f1,h1,hq⟩⟩) λu s1 zq=>?_) ht
 obtain⟨x,H1,I1,rx,d,ah,F1,sd,c1,f1,h1,C,ns,xs,sp,ed,M,hm,hq⟩:=zq
 subst ed
 obtain⟨a,dx,ws,rfl,ea,hl,r0⟩:=As sd
 obtain rfl:u=cj a:=rx
 obtain⟨f,fd,ps,oo,FO,hb⟩:=M.ex
 refine zH I1 ea M.cls oo (EN hm) ?_
 refine PySem.W.callWith_K0 (first:=[.ref a]) I1.ck oo.kp (rE (us:=[.ref a]) (vs:=[.ref a]) (dX:=[]) FO hr hb .nil dP I1 (.cons rfl .nil) ?_)
 show bf sp [.ref a] H1 Q E0
 exact we (Qd:=λr=>Qd r ah) c1 (.obj ea hl r0 .nil) (by simpa[D.sh,D.pl]using hq) λd v F' H' hd hf hs c'=>k d ah v F' H' hd (f1.trans hf) (h1.trans hs) c'
end
structure bM(x:Addr)(H H':Hp):Prop where
 get:∀b o,b≠x->H b=some o->iF o=true->H' b=some o
 tb:∀b ps,H b=some (.cY ps)->∃more,H' b=some (.cY (ps++more))
theorem bM.trans{x:Addr}{H H1 H2:Hp}(a:bM x H H1)(b:bM x H1 H2):bM x H H2 :=
 ⟨λc o n h t=>b.get c o n (a.get c o n h t) t,λc ps h=>by
  obtain⟨m1,e1⟩:=a.tb c ps h
  obtain⟨m2,e2⟩:=b.tb c _ e1
  exact⟨m1++m2,by rw[e2,oN]⟩⟩
theorem af.x{x:Addr}{H H':Hp}(h:af H H'):bM x H H':=⟨λb o _ e n=>h.get b o e n,h.tb⟩
theorem bM.upd{x C dx:Addr}{H:Hp}{o o':HO}(h:H x=some o)(n:iF o=true):bM x H (upd H x o') :=
 ⟨λb o z e _=>by rw[aO z];exact e,λb ps e=>⟨#[],by rw[aO (λz=>by rw[z,h]at e;cases e;cases n),e];simp⟩⟩
noncomputable def ER(tl:List Addr)(C:Addr)(gI:List D->List Str->List D->Prop):Sp:=λvs H Q _=>∃x dx bV ds ns xs,vs=.ref x::bV/\Tb tl H/\H x=some (.ins C dx [])/\R H H ds bV []/\gI ds ns xs /\
 ∀H' ws A,bM x H H'->H' x=some (.ins C dx (ns.zip ws))->ns.length=ws.length->R (λ_=>none) H' xs ws A->A.Nodup->(∀a∈A,H a=none)->Q .ao H'
noncomputable def ug(C:Addr)(gI:List D->List Str->List D->Prop)(ta:bQ):aI:=λδ Q=>ta δ λds ag=>∃ns xs,gI (ds.map D.sh) ns xs/\Q (.obj C ns (xs.map D.sh)) ag
theorem aj.made{B:Bs}{F H H':Hp}{σ:L2.St}{δ:Dl}{ts:List (D × V)}{C dx x:Addr}{ns:List Str}{xs:List D}{ws:List V}{A:List Addr}(c:aj B F H σ δ ts)(hs:af H H')(hx:H' x=some (.ins C dx (ns.zip ws)))(hl:ns.length=ws.length)
  (r:R (λ_=>none) H' xs ws A) (fr:∀a∈A,H a=none):af F (L3.br F H' A)/\aj B (L3.br F H' A) H' σ δ ((.obj C ns (xs.map D.sh),.ref x)::ts):=by
 have c1:=c.grow hs
 have hF:∀a∈A,F a=none:=λa ha=>c.ext.free (fr a ha)
 have r1:R F H' xs ws A:=r.keep (af.of λb o e=>by cases e) (fC.same (af.refl _)) gB.nil hF (by simp)
 have r2:=r1.br c1.ext A (λ_ h=>h)
 have fs:af F (L3.br F H' A):=iH c1.ext
 obtain⟨A',C',r',s',nd,uh⟩:=c.own
 have out:∀a,(∃ws,H a=some (.lst ws))/\F a=none->L3.br F H' A a=none:=λa zz=>by
  obtain⟨⟨ws,h⟩,hf⟩:=zz
  rw[pP (λz=>by rw[fr a z]at h;cases h)];exact hf
 have g1:=r'.grow fs hs λa ha=>out a (r'.lists a ha)
 have g2:=s'.keep fs (fC.same hs) gB.nil (λa ha=>out a (s'.lists a ha)) (by simp)
 refine⟨fs,pO c1.ext,c1.b1,c1.b2.trans fs,λa ws h=>?_,A',C',?_,g2,nd,uh⟩
 ·by_cases z:a∈A
  ·exact .inr (c.b1.free (fr a z))
  ·rw[pP z]at h;exact c.b3 a ws h
 ·exact R.obj hx hl r2 g1
section
variable{X:Cx}{CX:dB}{n:Nat}{f C:Addr}{fd:FuncData}{ps:List Str}{gI:List D->List Str->List D->Prop}{E:XK}{x:Str}{p pos:Pos}{e:Expr}{es:List Expr}{t:bQ}{tl:List Addr}
theorem ES(hT:Tb tl X.iZ)(M:Mk X.K C f)(F:aL X.prog X.w X.K X.mg X.base CX n f fd ps (ER tl C gI))(hr:bI (n+1) X.A)(hg:Gl X x)(hm:X.mg x=some (.ref C))(hb:Binds X.K fd ps [])(hx:i5 CX X E)
  (ha:PA X (e::es) (lA t)) (cE:(x==("__debug__":Str))=false:=by decide) (he:starEach (e::es) X.env=(false,eval e X.env)::starEach es X.env:=by rfl) (bg:(backTo pos (starEach es X.env)).any (·.1)=false:=by rfl) :
  PE X (.Call (.Name x p) (e::es) [] pos) (lE (ug C gI t)):=by
 intro pins s σ H Q I zz
 obtain⟨B,F',δ,ts,Qd,c,q,k⟩:=zz
 have tb:=Ak I hT
 refine Dk M F hr hg hm hb .nil hx ha cE he bg pins s σ H Q I ⟨B,F',δ,ts,_,c,q,λds ah vs F1 H1 q1 f1 h1 c1 s1=>?_⟩
 intro x dx bW cZ iE
 obtain⟨ns,xs,hI,hq⟩:=q1
 have sm:af H1 (upd (upd H1 dx (.own x)) x (.ins C dx [])):=.of λb o e=>by rw[aO (cT e bW),aO (cT e cZ)];exact e
 refine⟨x,dx,vs,ds.map D.sh,ns,xs,by rw[fO],qy (qy tb h1) sm,bA,(s1.frozen c1.ext).shared sm sm,hI,λH' ws A oq cU hl r nd fr=>⟨rfl,?_⟩⟩
 have s2:af H1 H':=⟨λb o e n=>oq.get b o (cT e bW) (sm.get b o e n) n,λb ps e=>by
  obtain⟨m1,e1⟩:=sm.tb b ps e
  obtain⟨m2,e2⟩:=oq.tb b _ e1
  exact⟨m1++m2,by rw[e2,oN]⟩⟩
 obtain⟨fs,c2⟩:=c1.made s2 cU hl r λa ha=>sm.free (fr a ha)
 exact k _ ah _ _ H' hq (f1.trans fs) (h1.trans s2) c2
end
end L3
namespace Mf
open PySem L2 L3
noncomputable def gm(m:Bool × Nat)(a b:Nat):Nat:=if m.1 then md (cl a b) m.2 else a*b%m.2
noncomputable def ae(m:Bool × Nat):Nat:=if m.1 then 2 ^ (bl m.2-1)else m.2
noncomputable def Au(g:Nat->Nat->Nat)(a:Nat):Nat->Nat->List Int->Option (List Int)
 | 0,_,_=>none
 | f+1,p,acc=>if p=1 then some acc else if p<64 then Au g a f (g p a) (acc++[(p:Int)])else none
noncomputable def ET(g:Nat->Nat->Nat)(a:Nat):Option (List Int):=Au g a 64 (g 1 a) [1]
noncomputable def Av(g:Nat->Nat->Nat)(many:Nat):Nat->Nat->List Int->Option (List Int)
 | 0,_,_=>none
 | f+1,st,l=>if l.length+1<many then(match ET g (st+1)with | some l'=>Av g many f (st+1) l' | none=>none)else some l
noncomputable def xw(g:Nat->Nat->Nat)(many:Nat):Option (List Int):=match ET g 1 with | some l=>Av g many 62 1 l | none=>none
noncomputable def xx(g:Nat->Nat->Nat):ud:=λi j Q=>∃a b:Nat,i=a/\j=b/\a<64/\b<64/\Q (g a b:Nat)
noncomputable def jI:List Nat:=[7,11,13,19,25,31,37,41,47,55,59,61,67,73,87,91,97,103,109,115,117]
noncomputable def Aw:List Nat:=[2,3,5,7,11,13,17,19,23,29,31,37,41,43,47,53,59,61]
noncomputable def aq:List (Bool × Nat):=jI.map (λn=>(true,n))++Aw.map λn=>(false,n)
noncomputable def mT(l:List Int):Nat->List Int
 | 0=>aX (l.length+1) 0
 | i+1=>(mT l i).set (l.getD i 0).toNat (i:Int)
noncomputable def dS(l:List Int):List Int:=mT l l.length
theorem xy(l:List Int):∀i,(mT l i).length=l.length+1
 | 0=>by simp[mT]
 | i+1=>by simp[mT,xy l i]
noncomputable def ot(l g:List Int)(a:Nat):List Int:=if a=0 then aX (l.length+1) 0 else 0::(aJ l.length).map λ(b:Nat)=>l.getD ((g.getD a 0+g.getD (b+1) 0)%(l.length:Int)).toNat 0
noncomputable def ui(l g:List Int)(n:Nat):List D:=(aJ n).map λa=>D.lst true (aE (ot l g a))
noncomputable def ou(l g:List Int):List D:=ui l g (l.length+1)
end Mf
namespace L3
open PySem L2 Mf
noncomputable def LI(H:Hp)(p:Addr)(ns:List Int):Prop:=H p=some (.lst (ns.map V.int))
theorem LI.same{H H':Hp}{p:Addr}{ns:List Int}(h:LI H p ns)(s:af H H'):LI H' p ns:=s.get _ _ h
theorem LI.upd{H:Hp}{p x:Addr}{ns:List Int}{o o':HO}(h:LI H p ns)(hx:H x=some o)(n:∀ws,o≠.lst ws):LI (upd H x o') p ns:=by
 unfold LI
 rw[aO (λz=>by rw[z]at h;unfold LI at h;rw[hx]at h;cases h;exact n _ rfl)];exact h
theorem Nw{F' H' H:Hp}{v:V}{A:List Addr}{ns:List Int}(r:R F' H' [.lst true (aE ns)] [v] A)(fr:∀a∈A,H a=none):∃p,v=.ref p/\LI H' p ns/\H p=none:=by
 cases r with
 | @own p ws xs A1 _ _ B1 hp hf r1 r2 =>
  have:=Mu r1.s
  subst this
  exact⟨p,rfl,hp,fr p (by simp)⟩
structure π(K:PySem.W.Frag)(C f:Addr):Prop where
 cls:cB K C
 many:bj K C "many"
 wide:bj K C "wide"
 EU:bj K C "powers"
 ρ:bj K C "logs"
 step:bj K C "step"
 sp:Meth K C "step_power" f
structure Nx(g:Nat->Nat->Nat)(many:Nat)(l:List Int)(st:Int):Prop where
 lo:2<=many
 hi:many<=64
 step:xw g many=some l
 len:l.length+1=many
 ins:∀x∈l,0<=x/\x.toNat<=l.length
 st:l[((1:Int)%((many:Int)-1)).toNat]?=some st
noncomputable def gJ(b:Str):List Str:=[b,"many","wide","powers","logs","step"]
noncomputable def Az(n0:Int)(many:Nat)(p1 p2:Addr)(st:Int):List V:=[.int n0,.int many,.int ((bl many:Nat)-1),.ref p1,.ref p2,.int st]
theorem uj{f:Str}{v:V}:∀{fs:List (Str × V)},(∀p∈fs,p.1≠f)->bt f v fs=fs++[(f,v)]
 | [],_=>rfl
 | (g,x)::r,h=>by
  unfold bt
  rw[if_neg (h (g,x) (by simp)),uj λp hp=>h p (by simp[hp])];rfl
theorem jx.uk{H:Hp}{x C dx f c k:Addr}{fs:List (Str × V)}{o':HO}{of oc:Obj}(h:jx H f of oc c k)(hx:H x=some (.ins C dx fs)):jx (L2.upd H x o') f of oc c k:=by
 obtain⟨ψ,e,xt⟩:=h.DS
 exact⟨by rw[aO (λz=>by rw[<-z,h.fn]at hx;cases hx)];exact h.fn,by rw[aO (λz=>by rw[<-z,h.cell]at hx;cases hx)];exact h.cell,ψ,by rw[aO (λz=>by rw[<-z,e]at hx;cases hx)];exact e,xt⟩
theorem xB{H:Hp}{x p:Addr}{o o':HO}(hx:H x=some o)(h:L2.upd H x o' p=none):H p=none:=by
 by_cases z:p=x
 ·subst z;rw[bA]at h;cases h
 ·rw[aO z]at h;exact h
theorem AA{α:Type}{b f:Str}{v:α}{r:List (Str × α)}(h:b≠f):((b,v)::r).lookup f=r.lookup f:=by
 rw[eY,beq_eq_false_iff_ne.mpr (dU h)]
section
variable{H2 H3 H':Hp}{x f c p:Addr}{o1 o2:HO}
theorem xC{b:Addr}{o:HO}(e:H3 b=some o)(nb:b≠f)(nc:H3 c=none):L2.upd (L2.upd H3 f o1) c o2 b=some o:=by
 rw[aO (cT e nc),aO nb];exact e
theorem Ny(hs:af H2 H3)(nf:H2 f=none)(nc:H3 c=none)(s:bM x (L2.upd (L2.upd H3 f o1) c o2) H'):bM x H2 (rem H' f c) where
 get b o n e t:=by
  have z1:=cT e nf
  have e3:=hs.get b o e t
  rw[gH z1 (cT e3 nc)]
  exact s.get b o n (xC e3 z1 nc) t
 tb b ps e:=by
  have z1:=cT e nf
  obtain⟨m,e3⟩:=hs.tb b ps e
  obtain⟨m2,e4⟩:=s.tb b _ (xC e3 z1 nc)
  exact⟨m++m2,by rw[gH z1 (cT e3 nc),e4,oN]⟩
theorem AB(hs:af H2 H3)(h:L2.upd (L2.upd H3 f o1) c o2 p=none):H2 p=none:=by
 refine hs.free ?_
 by_cases z:p=c
 ·subst z;rw[bA]at h;cases h
 ·rw[aO z]at h
  by_cases z2:p=f
  ·subst z2;rw[bA]at h;cases h
  ·rw[aO z2]at h;exact h
theorem LI.rem{l:List Int}{φ:Heap->Prop}{y:Addr}(h:LI H' p l)(hf:H' f=some (.ext φ))(hc:H' c=some (.own y)):LI (rem H' f c) p l:=by
 unfold LI at h ⊢
 rw[gH (λz=>by rw[z,hf]at h;cases h) (λz=>by rw[z,hc]at h;cases h)];exact h
theorem Nz{of oc:Obj}{k:Addr}(iE:c≠f)(nc:H3 c=none)(hk:DR H3 k)(kf:k≠f):jx (L2.upd (L2.upd H3 f (.ext (i6 of oc c f))) c (.own f)) f of oc c k:=by
 obtain⟨ψ,e,xt⟩:=hk
 exact⟨by rw[aO iE.symm,bA],bA,ψ,xC e kf nc,xt⟩
end
noncomputable def fl(m:Bool × Nat):List Int:=(xw (gm m) (ae m)).getD []
noncomputable def fst(m:Bool × Nat):Int:=(fl m).getD ((1:Int)%((ae m:Int)-1)).toNat 0
noncomputable def NA(m:Bool × Nat):Bool:=decide (2<=ae m)&&decide (ae m<=64)&&(xw (gm m) (ae m)).isSome&&decide ((fl m).length+1=ae m)&&(fl m).all (λx=>decide (0<=x)&&decide (x.toNat<=(fl m).length))&&decide (((1:Int)%((ae m:Int)-1)).toNat<(fl m).length)
theorem τ:aq.all NA=true:=by decide +kernel
theorem bZ{m:Bool × Nat}(h:m∈aq):Nx (gm m) (ae m) (fl m) (fst m):=by
 have h:=du.mp τ m h
 simp only[NA,dz,decide_eq_true_eq,du]at h
 obtain⟨⟨⟨⟨⟨h1,h2⟩,h3⟩,h4⟩,h5⟩,h6⟩:=h
 obtain⟨l,e⟩:=yH.mp h3
 have el:fl m=l:=by unfold fl;rw[e];rfl
 refine⟨h1,h2,by rw[e,el],h4,λx hx=>h5 x hx,?_⟩
 unfold fst
 rw[aU,aT h6];rfl
theorem υ:∀p∈Aw,(decide (2<=(p:Int))&&decide ((p:Int)<=61)&&(aJ ((p:Int).toNat-2)).all λi=>(p:Int)%(2+(i:Int)) != 0)=true:=by decide +kernel
theorem χ:∀p∈jI,(decide (4<=(p:Int))&&decide ((p:Int)<=127)&&al (p:Int).toNat)=true:=by decide +kernel
theorem R.uk{F H:Hp}{x C dx:Addr}{fs:List (Str × V)}{o':HO}{ds:List D}{vs:List V}{A:List Addr}(r:R F H ds vs A)(hx:H x=some (.ins C dx fs))(hd:ds.all D.fr=true):R F (L2.upd H x o') ds vs A:=by
 have up:∀{a o},H a=some o->(∀C dx fs,o≠.ins C dx fs)->L2.upd H x o' a=some o:=λ{a o} e n=>by
  rw[aO (λz=>by rw[z,hx]at e;cases e;exact n _ _ _ rfl)];exact e
 induction r with
 | nil=>exact .nil
 | ao _ ih=>exact .ao (ih (by simpa[D.fr]using hd))
 | bl _ ih=>exact .bl (ih (by simpa[D.fr]using hd))
 | int _ ih=>exact .int (ih (by simpa[D.fr]using hd))
 | str _ ih=>exact .str (ih (by simpa[D.fr]using hd))
 | shr h x _ i1 ih=>simp[fB]at hd
 | own h f _ _ i1 i2 =>
  rw[dO,fB,dz,nu]at hd
  exact .own (up h λ_ _ _ z=>by cases z) f (i1 hd.1) (i2 hd.2)
 | tup h _ _ i1 i2 =>
  rw[dO,pM,dz]at hd
  exact .tup (up h λ_ _ _ z=>by cases z) (i1 hd.1) (i2 hd.2)
 | obj h l x _ i1 ih=>simp[D.fr]at hd
 | fz h x _ i1 ih=>simp[D.fr]at hd
 | @bu p z _ _ _ h r ih =>
  refine .bu ?_ (ih (by simpa[D.fr]using hd))
  cases z with
  | ext φ=>exact up h λ_ _ _ z=>by cases z
  | lam of oc c k=>exact jx.uk h hx
theorem NB(l g:List Int):(ou l g).all D.fr=true:=by
 unfold ou ui
 rw[oY,du]
 intro a _
 show(D.lst true (aE _)).fr=true
 rw[fB,qp];rfl
theorem bM.free{x a:Addr}{H H':Hp}(s:bM x H H')(hx:H' x≠none)(h:H' a=none):H a=none:=by
 cases q:H a with
 | none=>rfl
 | some o =>
  by_cases z:a=x
  ·subst z;exact absurd h hx
  ·cases n:iF o with
   | true=>rw[s.get a o z q n]at h;cases h
   | false =>
    obtain⟨ps,rfl⟩:=DQ n
    obtain⟨m,e⟩:=s.tb a ps q
    rw[e]at h;cases h
theorem NC(l:List Int):∀i,∀x∈mT l i,0<=x
 | 0=>λx hx=>by rw[(vg.mp hx).2];exact Int.le_refl _
 | i+1=>λx hx=>by
  unfold mT at hx
  rcases CC hx with h | h
  ·exact NC l i x h
  ·rw[h];exact Jw _
theorem ND:∀p∈jI,bl p<=7:=by decide +kernel
theorem NF:∀p∈jI,1<=bl p:=by decide +kernel
theorem ω(a b:Nat):bl (cl a b)<=bl a+bl b:=by
 by_cases ha:a=0
 ·subst ha;rw[nJ];exact nr _
 ·by_cases hb:b=0
  ·subst hb
   have:cl a 0=0:=rfl
   rw[this];exact nr _
  ·rw[La ha hb];omega
noncomputable def um(l g:List Int):List D:=(aJ (l.length+1)).map λa=>D.lst false (aE (ot l g a))
theorem Γ(l g:List Int):(D.lst true (ou l g)).sh=.lst false (um l g):=by
 rw[eT]
 unfold ou ui um
 rw[eH]
 congr 1
 apply vh
 intro a _
 show D.sh (.lst true (aE _))=_
 rw[eT,jG]
noncomputable abbrev pD(m:Bool × Nat):List D:=[.int m.2,.int (ae m),.int ((bl (ae m):Nat)-1),.lst false (aE (fl m)),.lst false (aE (dS (fl m))),.int (fst m)]
noncomputable def qD(C:Addr)(p:Nat):D:=.obj C (gJ "prime") (pD (false,p))
noncomputable def xD(C:Addr)(p:Nat):D:=.obj C (gJ "bits"++[("products":Str)]) (pD (true,p)++[.lst false (um (fl (true,p)) (dS (fl (true,p))))])
noncomputable def fD(cb cp:Addr)(m:Bool × Nat):D:=if m.1 then xD cb m.2 else qD cp m.2
end L3
namespace L3
open PySem L2 Mf
theorem xE{u p:Nat}(h:bl u<bl p):md u p=u:=vZ (q:=0) (by rw[nJ,nt]) h
theorem Δ{u v n:Nat}(hu:bl u<n)(hv:bl v<n):bl (u ^^^ v)<n:=by
 have h1:u<2 ^ (n-1):=dZ.mp (by omega)
 have h2:v<2 ^ (n-1):=dZ.mp (by omega)
 have:=dZ.mpr (rJ h1 h2)
 omega
theorem AD{p:Nat}(hp:p≠0)(u v:Nat):md (u ^^^ v) p=md u p ^^^ md v p:=by
 obtain⟨⟨q1,e1⟩,l1⟩:=vY hp u
 obtain⟨⟨q2,e2⟩,l2⟩:=vY hp v
 refine vZ (q:=q1 ^^^ q2) ?_ (Δ l1 l2)
 rw[nI,<- K0,<- e1,<- e2]
theorem NG{p:Nat}(hp:p≠0)(w:Nat):md (cl p w) p=0:=by rw[vX];exact Xd w hp
theorem bO:∀m∈aq,0<m.2:=by decide +kernel
theorem fZ(m:Bool × Nat)(a b:Nat):gm m a b=gm m b a:=by
 unfold gm
 split
 ·rw[vX]
 ·rw[lK]
theorem NH{n:Nat}(hn:n≠0)(u c:Nat):md (cl (md u n) c) n=md (cl u c) n:=by
 obtain⟨⟨q,e⟩,_⟩:=vY hn u
 have h:cl u c=cl n (cl q c) ^^^ cl (md u n) c:=by
  conv=>lhs;rw[e]
  rw[nI,vX n q,Lf]
 rw[h,AD hn,NG hn,nt]
theorem fG{m:Bool × Nat}(h:0<m.2)(a b c:Nat):gm m (gm m a b) c=gm m a (gm m b c):=by
 unfold gm
 split
 ·rw[NH (by omega),vX (md (cl b c) m.2) a,NH (by omega),Lf a b c,vX (cl b c) a]
 ·rw[vk,JQ,<- vk,vk a (b*c%m.2),JQ,<- vk,rk]
theorem NI{m:Bool × Nat}(h:m.1=true){a:Nat}:a<ae m↔bl a<=bl m.2-1:=by
 unfold ae
 rw[if_pos h];exact dZ.symm
theorem qE{m:Bool × Nat}{a:Nat}(ha:a<ae m):gm m 1 a=a:=by
 obtain⟨k,n⟩:=m
 cases k with
 | true =>
  show md (cl 1 a) n=a
  rw[Dz]
  have h1:=(NI (m:=(true,n)) rfl).mp ha
  have h1:bl a<=bl n-1:=h1
  by_cases z:bl n=0
  ·have a0:a=0:=by
    have:=dZ (n:=a) (m:=0)
    have:=this.mp (by omega)
    omega
   subst a0
   have n0:n=0:=by
    have:=(dZ (n:=n) (m:=0)).mp (by omega)
    omega
   subst n0
   decide
  ·exact xE (by omega)
 | false=>show 1*a%n=a;rw[Nat.one_mul];exact yU ha
theorem mU{m:Bool × Nat}{a:Nat}(ha:a<ae m):gm m a 1=a:=by rw[fZ];exact qE ha
noncomputable def lg(m:Bool × Nat)(a:Nat):Int:=(dS (fl m)).getD a 0
noncomputable def pw(m:Bool × Nat)(k:Nat):Int:=(fl m).getD k 0
noncomputable def EV(m:Bool × Nat):Bool:=((aJ (ae m-1)).all λk=>decide (1<=pw m k)&&decide (pw m k<ae m)&&decide (lg m (pw m k).toNat=k))&&((aJ (ae m-1)).all λa=>decide (0<=lg m (a+1))&&decide (lg m (a+1)<(ae m:Int)-1)&&decide (pw m (lg m (a+1)).toNat=((a+1:Nat):Int)))
theorem NJ:aq.all EV=true:=by decide +kernel
theorem AE{m:Bool × Nat}(hm:m∈aq){k:Nat}(hk:k<ae m-1):1<=pw m k/\pw m k<ae m/\lg m (pw m k).toNat=k:=by
 have h:=du.mp NJ m hm
 simp only[EV,dz,du,decide_eq_true_eq,dH]at h
 have:=h.1 k hk
 exact⟨this.1.1,this.1.2,this.2⟩
theorem AF{m:Bool × Nat}(hm:m∈aq){a:Nat}(h1:1<=a)(h2:a<ae m):0<=lg m a/\lg m a<(ae m:Int)-1/\pw m (lg m a).toNat=a:=by
 have h:=du.mp NJ m hm
 simp only[EV,dz,du,decide_eq_true_eq,dH]at h
 have:=h.2 (a-1) (by omega)
 rw[show a-1+1=a by omega]at this
 exact⟨this.1.1,this.1.2,this.2⟩
theorem fw(m:Bool × Nat)(b:Nat)(h:0<m.2):gm m 0 b=0:=by
 unfold gm
 split
 ·rw[nJ];exact xE (by rw[mx];exact gx (by omega))
 ·rw[Nat.zero_mul,Nat.zero_mod]
theorem hW(m:Bool × Nat)(b:Nat)(h:0<m.2):gm m b 0=0:=by rw[fZ];exact fw m b h
noncomputable def stC(m:Bool × Nat):Bool:=decide (pw m 0=1)&&(aJ (ae m-1)).all λk=>decide (gm m (pw m k).toNat (pw m (1%(ae m-1))).toNat=(pw m ((k+1)%(ae m-1))).toNat)
theorem NK:aq.all stC=true:=by decide +kernel
theorem NL(m:Bool × Nat)(hm:m∈aq):pw m 0=1:=by
 have h:=du.mp NK m hm
 simp only[stC,dz,decide_eq_true_eq]at h
 exact h.1
noncomputable def pN(m:Bool × Nat)(k:Nat):Nat:=(pw m (k%(ae m-1))).toNat
theorem Θ{m:Bool × Nat}(hm:m∈aq)(k:Nat):pN m k<ae m:=by
 have fq:=(bZ hm).lo
 have:=AE hm (vm k (show 0<ae m-1 by omega))
 unfold pN
 omega
theorem NM{m:Bool × Nat}(hm:m∈aq)(k:Nat):gm m (pN m k) (pN m 1)=pN m (k+1):=by
 have fq:=(bZ hm).lo
 have h:=du.mp NK m hm
 simp only[stC,dz,decide_eq_true_eq,du,dH]at h
 have h2:=h.2 (k%(ae m-1)) (vm k (by omega))
 rw[CD]at h2
 exact h2
theorem NN{m:Bool × Nat}(hm:m∈aq)(i:Nat):∀j,gm m (pN m i) (pN m j)=pN m (i+j)
 | 0=>by
  have e:pN m 0=1:=by unfold pN;rw[Nat.zero_mod,NL m hm];rfl
  rw[e,mU (Θ hm i)];rfl
 | j+1=>by rw[<-NM hm j,<- fG (bO m hm),NN hm i j,NM hm];rfl
theorem EW{m:Bool × Nat}(hm:m∈aq){a b:Nat}(a1:1<=a)(a2:a<ae m)(b1:1<=b)(b2:b<ae m):((gm m a b:Nat):Int)=pw m ((lg m a+lg m b)%((ae m:Int)-1)).toNat:=by
 have fq:=(bZ hm).lo
 obtain⟨g0,g1,g2⟩:=AF hm a1 a2
 obtain⟨f0,f1,f2⟩:=AF hm b1 b2
 have ea:pN m (lg m a).toNat=a:=by unfold pN;rw[yU (by omega),g2];rfl
 have eb:pN m (lg m b).toNat=b:=by unfold pN;rw[yU (by omega),f2];rfl
 have e:=NN hm (lg m a).toNat (lg m b).toNat
 rw[ea,eb]at e
 rw[e]
 have ei:((lg m a+lg m b)%((ae m:Int)-1)).toNat=((lg m a).toNat+(lg m b).toNat)%(ae m-1):=by
  have:(((lg m a).toNat+(lg m b).toNat)%(ae m-1):Nat)=((lg m a+lg m b)%((ae m:Int)-1)):=by
   rw[ny,yV,vn g0,vn f0,Int.natCast_sub (by omega)];rfl
  omega
 rw[ei]
 have:=AE hm (vm ((lg m a).toNat+(lg m b).toNat) (show 0<ae m-1 by omega))
 unfold pN
 omega
theorem Λ{p a:Nat}(hp:p∈jI)(ha:a<ae (true,p)):ot (fl (true,p)) (dS (fl (true,p))) a=(aJ (ae (true,p))).map λb=>((gm (true,p) a b:Nat):Int):=by
 have hm:(true,p)∈aq:=eB _ (CF hp)
 have h0:=bO _ hm
 have hF:=bZ hm
 have hlen:=hF.len
 unfold ot
 split
 ·rename_i h
  subst h
  rw[hlen]
  refine CG (by simp) λi h1 h2=>?_
  simp[fw _ _ h0]
 ·rename_i h
  rw[<-hlen,TR,dN,eH,hW _ _ h0]
  congr 1
  apply vh
  intro b hb
  have hb:=dH.mp hb
  show(fl (true,p)).getD (((dS (fl (true,p))).getD a 0+(dS (fl (true,p))).getD (b+1) 0)%((fl (true,p)).length:Int)).toNat 0=((gm (true,p) a (b+1):Nat):Int)
  rw[EW hm (by omega) ha (by omega) (by omega),show(((fl (true,p)).length:Nat):Int)=(ae (true,p):Int)-1 by omega]
  rfl
theorem EX{p a b:Nat}(hp:p∈jI)(ha:a<ae (true,p))(hb:b<ae (true,p)):dD (aE (ot (fl (true,p)) (dS (fl (true,p))) a)) (b:Int)=some (.int (gm (true,p) a b:Nat)):=by
 refine kE (by omega) ?_
 rw[Λ hp ha]
 unfold aE
 rw[jN,cP,cP,kr hb];rfl
theorem EY{p a:Nat}(hp:p∈jI)(ha:a<ae (true,p)):dD (um (fl (true,p)) (dS (fl (true,p)))) (a:Int)=some (.lst false (aE (ot (fl (true,p)) (dS (fl (true,p))) a))):=by
 have hF:=bZ (m:=(true,p)) (eB _ (CF hp))
 refine kE (by omega) ?_
 unfold um
 rw[jN,cP,kr (by rw[hF.len];exact ha)];rfl
end L3
namespace L3
open PySem L2 Mf
theorem Ξ(C:Addr)(p:Nat):D.obj C (gJ "bits"++[("products":Str)]) (CA D.sh [.int p,.int (ae (true,p)),.int ((bl (ae (true,p)):Nat)-1),.lst true (aE (fl (true,p))),.lst true (aE (dS (fl (true,p)))),.int (fst (true,p)),.lst true (ou (fl (true,p)) (dS (fl (true,p))))])=xD C p:=by
 simp only[dN,lM]
 rw[Γ]
 simp only[eT,nZ,jG];rfl
theorem NO(C:Addr)(p:Nat):D.obj C (gJ "prime") (CA D.sh [.int p,.int p,.int ((bl p:Nat)-1),.lst true (aE (fl (false,p))),.lst true (aE (dS (fl (false,p)))),.int (fst (false,p))])=qD C p:=by
 simp only[dN,lM,eT,nZ,jG];rfl
theorem xF{n:Nat}(h:(true,n)∈aq):n∈jI:=by
 rcases cS.mp h with h | h
 ·obtain⟨x,hx,e⟩:=dA.mp h
  cases e;exact hx
 ·obtain⟨x,hx,e⟩:=dA.mp h
  cases e
theorem NP{n:Nat}(h:(false,n)∈aq):n∈Aw:=by
 rcases cS.mp h with h | h
 ·obtain⟨x,hx,e⟩:=dA.mp h
  cases e
 ·obtain⟨x,hx,e⟩:=dA.mp h
  cases e;exact hx
open Classical in
theorem Φ{α:Type}{sh:Bool}{xs:List D}{av:List (Str × Nat)}{n:Nat}{g0:gC}{te:aI}{ah:Dl}{Q:D->Dl->Prop}(l:List α)(e g:α->D)(iO:xs.map D.sh=l.map e)(inj:∀a b,e a=e b->a=b)
  (hx:∀a∈l,g0 (e a) (fu av n ah) λaP=>te aP λd _=>d=g a) (hg:∀d δ (P P':Dl->Prop),(∀ag,P ag->P' ag)->g0 d δ P->g0 d δ P') (dE:(sh&&av.all (iM ah))=true\/∀a∈l,(g a).fr=true) (hl:l.length<=sizeLine) (hq:Q (.lst true (l.map g)) ah):sH sh xs av n g0 kP te ah Q:=by
 let f:D->D:=λx=>if h:∃a∈l,e a=x then g h.choose else .ao
 have hf:∀a∈l,f (e a)=g a:=λa ha=>by
  have h:∃b∈l,e b=e a:=⟨a,ha,rfl⟩
  show(if h:∃b∈l,e b=e a then g h.choose else .ao)=g a
  rw[dif_pos h]
  exact congrArg g (inj _ _ h.choose_spec.2)
 refine⟨λ_=>true,f,λx h=>?_,dE.imp id λh x hx _=>?_,?_,?_⟩
 ·rw[iO]at h
  obtain⟨a,ha,rfl⟩:=dA.mp h
  rw[hf a ha]
  exact hg _ _ _ _ (λag h=>⟨rfl,λ_=>h⟩) (hx a ha)
 ·rw[iO]at hx
  obtain⟨a,ha,rfl⟩:=dA.mp hx
  rw[hf a ha];exact h a ha
 ·have:=congrArg Cg iO
  simp at this
  omega
 ·rw[iO,JI.mpr (λ_ _=>rfl),eH,show l.map (f ∘ e)=l.map g from vh λa ha=>hf a ha]
  exact hq
theorem Ψ{i1 i2:Nat}(d:D)(δ:Dl)(P P':Dl->Prop)(h:∀ag,P ag->P' ag)(q:jc i1 i2 d δ P):jc i1 i2 d δ P':=by
 unfold jc at q ⊢
 split at q
 ·exact h _ q
 ·exact q
theorem Ω(xs ys:List Int):(fv (aE xs) (aE ys)).map D.sh=(xs.zip ys).map λz=>D.tup [.int z.1,.int z.2]:=by
 rw[MR,jG,jG]
 unfold fv aE
 rw[List.zipWith_map,List.zip,CB]
theorem cm4{p x y:Nat}(hp:p≠0)(hx:bl x<bl p):md (cl x y) p=(if y%2=1 then x else 0) ^^^ md (cl (if bl (2*x)=bl p then 2*x ^^^ p else 2*x) (y/2)) p:=by
 have e0:md (if y%2=1 then x else 0) p=(if y%2=1 then x else 0):=by
  split
  ·exact xE hx
  ·exact xE (by rw[mx];exact gx hp)
 rw[K7,AD hp,e0]
 congr 1
 split
 ·rw[nI,AD hp,NG hp,kn]
 ·rfl
theorem cf0{p x:Nat}(hp:p≠0)(hx:bl x<bl p):bl (if bl (2*x)=bl p then 2*x ^^^ p else 2*x)<bl p:=by
 have h2:=Xf x
 have h0:=gx hp
 split
 ·rename_i h
  have n0:2*x≠0:=λz=>by rw[z,mx]at h;omega
  have a1:=iA (2*x)
  have a2:=iA p
  have b1:=rG n0
  have b2:=rG hp
  rw[h]at a1 b1
  obtain⟨k,hk⟩:∃k,bl p=k+1:=⟨bl p-1,by omega⟩
  rw[hk]at a1 a2 b1 b2 ⊢
  have:=dZ.mpr (KY a1 a2 b1 b2)
  omega
 ·omega
end L3
namespace L3
open PySem L2 PySem.Spec PyProof.Rows
structure AG(P:Program)(w:World)(K:PySem.W.Frag)(mg:Str->Option Value)(base:Heap)(n:Nat)(m:Str)(C:Addr)(sp:jH):Prop where
 cls:cB K C
 ex:∃f fd ps,Meth K C m f/\aL P w K mg base (gY P w) n f fd ps (mQ sp)/\Binds K fd ps []
section
variable{X:Cx}{e o:Expr}{es:List Expr}{f m x:Str}{pos p apos:Pos}{to:aI}{ta:bQ}{n:Nat}
noncomputable def qF(MO:Addr->jH->Prop)(m:Str)(to:aI)(ta:bQ):aI:=λδ Q=>to δ λd ah=>∃C ns xs sp,d=.obj C ns xs/\MO C sp/\m ∉ ns/\ta ah λds aP=>sp ((D.obj C ns xs::ds).map D.sh) (λr=>((D.obj C ns xs::ds).all D.pl||r.fr)=true/\Q r aP) λ_=>False
theorem ci3{pl:Sem Bool}(ho:PE X o (lB to))(hr:bI n X.A)(ha:PA X (e::es) (lA ta))
  (bS:starEach (e::es) X.env=(false,eval e X.env)::starEach es X.env:=by rfl) (bg:(backTo pos (starEach es X.env)).any (·.1)=false:=by rfl)
  (ht:eval (.Call (.Attribute o m apos) (e::es) [] pos) X.env=(do
   let ov<-eval o X.env
   standAt apos.atName
   let (f,first)<-holding [ov] (getMethod ov m pl)
   callWith pos f first (backTo pos (starEach (e::es) X.env)) (backToKw pos (keywordEach [] X.env))):=by rfl) :
  PE X (.Call (.Attribute o m apos) (e::es) [] pos) (lE (qF (AG X.prog X.w X.K X.mg X.base n m) m to ta)):=by
 intro pins s σ H Q I zz
 obtain⟨B,F,δ,ts,Qd,c,q,k⟩:=zz
 refine PySem.W.methodCall_KW (pl:=pl) (aM (ho pins s σ H (λx H1=>∃d ah F1,S F1 H1 [d] [x]/\aj B F1 H1 σ ah ts/\af F F1/\af H H1/\∃C ns xs sp,d=.obj C ns xs/\AG X.prog X.w X.K X.mg X.base n m C sp/\m ∉ ns/\ta ah λds aP=>sp ((D.obj C ns xs::ds).map D.sh) (λr=>((D.obj C ns xs::ds).all D.pl||r.fr)=true/\Qd r aP) λ_=>False) I
  ⟨B,F,δ,ts,_,c,q,λd ah v F1 H1 hq f1 h1 c1 s1=>⟨d,ah,F1,s1,c1,f1,h1,hq⟩⟩) λu s1 zq=>?_) ht
 obtain⟨x,H1,I1,rx,d,ah,F1,sd,c1,f1,h1,C,ns,xs,sp,ed,M,hm,hq⟩:=zq
 subst ed
 obtain⟨a,dx,ws,rfl,ea,hl,r0⟩:=As sd
 obtain rfl:u=cj a:=rx
 obtain⟨f,fd,ps,oo,FO,hb⟩:=M.ex
 refine zH I1 ea M.cls oo (EN hm) ?_
 refine PySem.W.callWith_K (first:=[.ref a]) (h₀:=X.base) I.ok.mod.kz oo.kp (aM (ha pos pins s1 σ H1 (λvs H2=>∃ds aP F2,S F2 H2 ds vs/\aj B F2 H2 σ aP ts/\af F1 F2/\af H1 H2/\sp ((D.obj C ns xs::ds).map D.sh) (λr=>((D.obj C ns xs::ds).all D.pl||r.fr)=true/\Qd r aP) λ_=>False) I1
  ⟨B,F1,ah,ts,_,c1,hq,λds aP vs F2 H2 hq f2 h2 c2 s2=>⟨ds,aP,F2,s2,c2,f2,h2,hq⟩⟩) λus s2 ⟨vs,H2,I2,r,ds,aP,F2,EO,c2,f2,h2,gu⟩=>⟨I2.ck,?_⟩) bS bg
 refine rE (us:=.ref a::us) (vs:=.ref a::vs) (dX:=[]) (Es FO) hr hb .nil Er I2 (.cons rfl r) ?_
 rw[fO]
 exact we (sp:=λds Q=>sp ds Q λ_=>False) c2 (.obj (h2 _ _ ea) hl (r0.shared f2 h2) EO) gu λd v F' H' hd hf hs c'=>k d aP v F' H' hd (f1.trans (f2.trans hf)) (h1.trans (h2.trans hs)) c'
end
section
variable{X:Cx}{tb th:b9}{body El:List Stmt}{Em:Stmt}{K:Str}{Kc:Addr}{kp MI pos:Pos}
end
end L3
namespace L3
open PySem L2 Mf
theorem NQ{m:Bool × Nat}(hm:m∈aq){a b:Nat}(a1:1<=a)(a2:a<ae m)(b1:1<=b)(b2:b<ae m):∃r:Nat,pw m ((lg m a-lg m b)%((ae m:Int)-1)).toNat=r/\r<ae m/\gm m r b=a:=by
 have hF:=bZ hm
 have fq:=hF.lo
 have n0:=iY (lg m a-lg m b) (show(ae m:Int)-1≠0 by omega)
 have n1:=lY (lg m a-lg m b) (show(0:Int)<(ae m:Int)-1 by omega)
 obtain⟨p1,p2,p3⟩:=AE hm (k:=((lg m a-lg m b)%((ae m:Int)-1)).toNat) (by omega)
 obtain⟨g0,g1,g2⟩:=AF hm a1 a2
 refine⟨(pw m ((lg m a-lg m b)%((ae m:Int)-1)).toNat).toNat,by omega,by omega,?_⟩
 have e:=EW hm (a:=(pw m ((lg m a-lg m b)%((ae m:Int)-1)).toNat).toNat) (by omega) (by omega) b1 b2
 rw[p3,vn n0,Int.emod_add_emod,Int.sub_add_cancel,CH g0 g1,g2]at e
 omega
end L3
namespace L3
open PySem L2 PySem.Spec PyProof.Rows
section
variable{X:Cx}{e o a:Expr}{es:List Expr}{f m y:Str}{pos p apos q:Pos}{t to ta':aI}{ta:bQ}{n:Nat}{P:Program}{w:World}{K:PySem.W.Frag}{mg:Str->Option Value}{base:Heap}
theorem cV(he:PE X e (lB t))(hK:K=X.K:=by rfl)(hb:attributeBase e f X.env (eval e X.env)=eval e X.env:=by rfl):PE X (.Attribute e f pos) (lB (qA K t f)):=by
 subst hK;exact ν he hb
theorem mV{pl:Sem Bool}(ho:PE X o (lB to))(hr:bI n X.A)(ha:PA X (e::es) (lA ta))(hP:P=X.prog:=by rfl)(hw:w=X.w:=by rfl)(hK:K=X.K:=by rfl)(hm:mg=X.mg:=by rfl)(hb:base=X.base:=by rfl)
  (bS:starEach (e::es) X.env=(false,eval e X.env)::starEach es X.env:=by rfl) (bg:(backTo pos (starEach es X.env)).any (·.1)=false:=by rfl)
  (ht:eval (.Call (.Attribute o m apos) (e::es) [] pos) X.env=(do
   let ov<-eval o X.env
   standAt apos.atName
   let (f,first)<-holding [ov] (getMethod ov m pl)
   callWith pos f first (backTo pos (starEach (e::es) X.env)) (backToKw pos (keywordEach [] X.env))):=by rfl) :
  PE X (.Call (.Attribute o m apos) (e::es) [] pos) (lE (qB (jf P w K mg base n m) m to ta)):=by
 subst hP hw hK hm hb;exact ξ ho hr ha bS bg ht
theorem ow{pl:Sem Bool}(ho:PE X o (lB to))(hr:bI n X.A)(hP:P=X.prog:=by rfl)(hw:w=X.w:=by rfl)(hK:K=X.K:=by rfl)(hm:mg=X.mg:=by rfl)(hb:base=X.base:=by rfl)
  (ht:eval (.Call (.Attribute o m apos) [] [] pos) X.env=(do
   let ov<-eval o X.env
   standAt apos.atName
   let (f,first)<-holding [ov] (getMethod ov m pl)
   callWith pos f first (backTo pos (starEach [] X.env)) (backToKw pos (keywordEach [] X.env))):=by rfl) :
  PE X (.Call (.Attribute o m apos) [] [] pos) (lE (qC (jf P w K mg base n m) m to)):=by
 subst hP hw hK hm hb;exact ο ho hr ht
theorem b66{pl:Sem Bool}(ho:PE X o (lB to))(hr:bI n X.A)(ha:PA X (e::es) (lA ta))(hP:P=X.prog:=by rfl)(hw:w=X.w:=by rfl)(hK:K=X.K:=by rfl)(hm:mg=X.mg:=by rfl)(hb:base=X.base:=by rfl)
  (bS:starEach (e::es) X.env=(false,eval e X.env)::starEach es X.env:=by rfl) (bg:(backTo pos (starEach es X.env)).any (·.1)=false:=by rfl)
  (ht:eval (.Call (.Attribute o m apos) (e::es) [] pos) X.env=(do
   let ov<-eval o X.env
   standAt apos.atName
   let (f,first)<-holding [ov] (getMethod ov m pl)
   callWith pos f first (backTo pos (starEach (e::es) X.env)) (backToKw pos (keywordEach [] X.env))):=by rfl) :
  PE X (.Call (.Attribute o m apos) (e::es) [] pos) (lE (qF (AG P w K mg base n m) m to ta)):=by
 subst hP hw hK hm hb;exact ci3 ho hr ha bS bg ht
end
theorem NR:∀m∈Mf.aq,1<=Mf.bl m.2/\Mf.bl m.2<=7:=by decide +kernel
end L3
namespace L3
open PySem L2 Mf
noncomputable def gp(m:Bool × Nat)(a b:Nat):Nat:=if m.1 then a ^^^ b else(a+b)%m.2
noncomputable def gl(m:Bool × Nat)(a b:Nat):Int:=if m.1 then(a ^^^ b:Nat)else((a:Int)-b)%m.2
noncomputable def gd(m:Bool × Nat)(xs ys:List Nat):Nat:=(gi (gm m) xs ys).foldl (gp m) 0
noncomputable def eE(m:Bool × Nat):D:=.tup [.bl m.1,.int m.2]
theorem AH(cb cp:Addr)(m:Bool × Nat):fD cb cp m=.obj (if m.1 then cb else cp) (if m.1 then gJ "bits"++[("products":Str)]else gJ "prime") (if m.1 then pD (true,m.2)++[.lst false (um (fl (true,m.2)) (dS (fl (true,m.2))))]else pD (false,m.2)):=by
 obtain⟨k,n⟩:=m
 cases k<;>rfl
theorem cE9(m:Bool × Nat)(x:Str)(h:x ∉ (["bits","prime","many","wide","powers","logs","step","products"]:List Str)):x ∉ (if m.1 then gJ "bits"++[("products":Str)]else gJ "prime"):=by
 obtain⟨k,n⟩:=m
 intro z
 apply h
 cases k
 ·have z:x∈gJ "prime":=z
  simp[gJ]at z
  simp only[bR]
  rcases z with z | z | z | z | z | z<;>simp[z]
 ·have z:x∈gJ "bits"++[("products":Str)]:=z
  simp[gJ]at z
  simp only[bR]
  rcases z with z | z | z | z | z | z | z<;>simp[z]
theorem EZ(cb cp:Addr)(m:Bool × Nat):(fD cb cp m).sh=fD cb cp m:=by rw[AH];rfl
theorem cD2(cb cp:Addr)(m:Bool × Nat):(fD cb cp m).pl=true:=by rw[AH];rfl
theorem ch6(m:Bool × Nat):(eE m).sh=eE m:=rfl
theorem cj5(m:Bool × Nat):(eE m).pl=true:=rfl
noncomputable def NS(P:Program)(w:World)(K:PySem.W.Frag)(mg:Str->Option Value)(base:Heap)(n:Nat)(cb cp:Addr)(m:Bool × Nat)(x:Str)(ds:List D)(Q:D->Prop):Prop:=∃C ns xs sp,fD cb cp m=.obj C ns xs/\jf P w K mg base n x C sp/\x ∉ ns/\sp (.obj C ns xs::ds) Q
theorem lh(m:Bool × Nat)(a b:Nat):gp m a b=gp m b a:=by
 unfold gp
 split
 ·rw[Jz]
 ·rw[yK]
theorem qG(m:Bool × Nat)(a b c:Nat):gp m (gp m a b) c=gp m a (gp m b c):=by
 unfold gp
 split
 ·rw[oW]
 ·rw[CD,Nat.add_mod_mod,JK]
theorem AI{m:Bool × Nat}(h:0<m.2)(a b c:Nat):gm m (gp m a b) c=gp m (gm m a c) (gm m b c):=by
 unfold gm gp
 split
 ·rw[nI,AD (by omega)]
 ·rw[vk,JQ,<- vk,Nat.add_mul,CD,Nat.add_mod_mod]
theorem xG{m:Bool × Nat}(h:0<m.2)(a b c:Nat):gm m c (gp m a b)=gp m (gm m c a) (gm m c b):=by rw[fZ,AI h,fZ m a,fZ m b]
theorem b53:∀m∈aq,m.1=true->2<=bl m.2:=by decide +kernel
theorem qH{m:Bool × Nat}(hm:m∈aq){a b:Nat}(ha:a<ae m)(hb:b<ae m):gp m a b<ae m:=by
 have h0:=bO m hm
 obtain⟨k,n⟩:=m
 cases k with
 | true=>exact rJ ha hb
 | false=>exact vm _ h0
theorem dq{m:Bool × Nat}(hm:m∈aq)(a b:Nat):gm m a b<ae m:=by
 have h0:=bO m hm
 obtain⟨k,n⟩:=m
 cases k with
 | true =>
  have h2:=b53 (true,n) hm rfl
  have:=(vY (show n≠0 by have:0<n:=h0;omega) (cl a b)).2
  refine(NI rfl).mpr ?_
  show bl (md (cl a b) n)<=bl n-1
  omega
 | false=>exact vm _ h0
theorem jg{m:Bool × Nat}{a:Nat}(ha:a<ae m):gp m 0 a=a:=by
 obtain⟨k,n⟩:=m
 cases k with
 | true=>exact nt a
 | false=>show(0+a)%n=a;rw[CI];exact yU ha
theorem lj{m:Bool × Nat}{a:Nat}(ha:a<ae m):gp m a 0=a:=by rw[lh];exact jg ha
theorem cB4{m:Bool × Nat}(hm:m∈aq){a b:Nat}(ha:a<ae m)(hb:b<ae m):∃r:Nat,gl m a b=r/\r<ae m/\gp m r b=a:=by
 have h0:=bO m hm
 obtain⟨k,n⟩:=m
 cases k with
 | true=>exact⟨a ^^^ b,rfl,rJ ha hb,by show a ^^^ b ^^^ b=a;rw[oW,yO,kn]⟩
 | false =>
  have h0:0<n:=h0
  have ha:a<n:=ha
  have hb:b<n:=hb
  refine⟨(a+(n-b))%n,?_,vm _ h0,?_⟩
  ·show((a:Int)-b)%n=_
   rw[ny,yV,Int.natCast_sub (by omega),show((a:Int)+((n:Int)-b))=((a:Int)-b)+n by omega,Int.add_emod_right]
  ·show((a+(n-b))%n+b)%n=a
   rw[CD,show a+(n-b)+b=a+n by omega,Nat.add_mod_right,yU ha]
noncomputable def eS(m:Bool × Nat)(n:Int):Nat:=(pw m (n%((ae m:Int)-1)).toNat).toNat
theorem mW{m:Bool × Nat}(hm:m∈aq)(n:Int):1<=eS m n/\eS m n<ae m/\lg m (eS m n)=n%((ae m:Int)-1)/\pw m (n%((ae m:Int)-1)).toNat=eS m n:=by
 have fq:=(bZ hm).lo
 have n0:=iY n (show(ae m:Int)-1≠0 by omega)
 have n1:=lY n (show(0:Int)<(ae m:Int)-1 by omega)
 obtain⟨p1,p2,p3⟩:=AE hm (k:=(n%((ae m:Int)-1)).toNat) (by omega)
 unfold eS
 rw[p3]
 omega
theorem xH{m:Bool × Nat}(hm:m∈aq)(n:Int):eS m n<ae m:=(mW hm n).2.1
theorem E1{m:Bool × Nat}(hm:m∈aq)(a b:Int):gm m (eS m a) (eS m b)=eS m (a+b):=by
 obtain⟨a1,a2,a3,_⟩:=mW hm a
 obtain⟨b1,b2,b3,_⟩:=mW hm b
 have e:=EW hm a1 a2 b1 b2
 rw[a3,b3,<- Int.add_emod]at e
 have c:=(mW hm (a+b)).2.2.2
 rw[c]at e
 omega
theorem cs5{m:Bool × Nat}(hm:m∈aq):eS m 0=1:=by
 unfold eS
 rw[Int.zero_emod,show(0:Int).toNat=0 from rfl,NL m hm];rfl
theorem NT{m:Bool × Nat}(hm:m∈aq){a:Nat}(h1:1<=a)(h2:a<ae m):eS m (lg m a)=a:=by
 obtain⟨g0,g1,g2⟩:=AF hm h1 h2
 unfold eS
 rw[CH g0 g1,g2];rfl
theorem E2{m:Bool × Nat}(hm:m∈aq)(n:Int):(fl m)[(n%((ae m:Int)-1)).toNat]?=some ((eS m n:Nat):Int):=by
 have hF:=bZ hm
 have fq:=hF.lo
 have n0:=iY n (show(ae m:Int)-1≠0 by omega)
 have n1:=lY n (show(0:Int)<(ae m:Int)-1 by omega)
 have hk:(n%((ae m:Int)-1)).toNat<(fl m).length:=by have:=hF.len;omega
 rw[<-(mW hm n).2.2.2]
 unfold pw
 rw[aU,aT hk];rfl
theorem NU{m:Bool × Nat}(hm:m∈aq){a b:Nat}(a1:1<=a)(a2:a<ae m)(b1:1<=b)(b2:b<ae m):gm m a b≠0:=by
 rw[<-NT hm a1 a2,<- NT hm b1 b2,E1 hm]
 have:=(mW hm (lg m a+lg m b)).1
 omega
noncomputable def bz(m:Bool × Nat)(x:Nat):List Nat->Nat
 | []=>0
 | a::l=>gp m (gm m (bz m x l) x) a
theorem xI{m:Bool × Nat}(hm:m∈aq)(x:Nat):∀{l:List Nat},(∀a∈l,a<ae m)->bz m x l<ae m
 | [],_=>by have:=(bZ hm).lo;show 0<_;omega
 | a::l,h=>qH hm (dq hm _ _) (h a (by simp))
end L3
namespace L2
open PySem PySem.Spec PyProof.Rows
section
variable{X:Cx}{a:Expr}{ta:TA}{p pos:Pos}{tg:Expr}
end
end L2
namespace L3
open PySem L2 PySem.Spec PyProof.Rows
section
variable{F H:Hp}{K:PySem.W.Frag}{p:Addr}{ws:List V}{xs:List D}
end
section
variable{X:Cx}{a:Expr}{ta:bQ}{p pos:Pos}{tg:Expr}
end
end L3
namespace L3
open PySem L2 Mf
noncomputable def dv(l:List Nat):List Nat:=(l.reverse.dropWhile (·==0)).reverse
theorem NV{l:List Nat}{k:Nat}(hk:k<=l.length)(hz:∀x∈l.drop k,x=0)(hn:k=0\/l.getD (k-1) 0≠0):dv l=l.take k:=by
 unfold dv
 conv=>lhs;rw[<-List.take_append_drop k l]
 rw[TY,List.dropWhile_append_of_pos (λa ha=>by simp[hz a (List.mem_reverse.mp ha)])]
 rcases hn with rfl | hn
 ·simp
 ·by_cases h0:k=0
  ·subst h0;simp
  ·have e:l.take k=l.take (k-1)++[l.getD (k-1) 0]:=by
    conv=>lhs;rw[show k=k-1+1 by omega]
    rw[oX,aU,aT (by omega)];rfl
   rw[e,TY]
   generalize l.getD (k-1) 0=v at hn
   simp[List.dropWhile_cons,hn]
theorem AJ(l:List Nat):∃k,k<=l.length/\(∀x∈l.drop k,x=0)/\(k=0\/l.getD (k-1) 0≠0)/\dv l=l.take k:=by
 have:∀n,n<=l.length->(∀x∈l.drop n,x=0)->∃k,k<=l.length/\(∀x∈l.drop k,x=0)/\(k=0\/l.getD (k-1) 0≠0):=by
  intro n
  induction n with
  | zero=>exact λh1 h2=>⟨0,h1,h2,.inl rfl⟩
  | succ n ih =>
   intro h1 h2
   by_cases h:l.getD n 0=0
   ·refine ih (by omega) λx hx=>?_
    rw[JR (by omega)]at hx
    rcases bR.mp hx with hx | hx
    ·rw[hx]
     rw[aU,aT (by omega)]at h
     exact h
    ·exact h2 x hx
   ·exact⟨n+1,h1,h2,.inr h⟩
 obtain⟨k,h1,h2,h3⟩:=this l.length (bG _) (by simp)
 exact⟨k,h1,h2,h3,NV h1 h2 h3⟩
theorem b68{l:List Nat}{x:Nat}(h:x∈dv l):x∈l:=by
 obtain⟨k,_,_,_,e⟩:=AJ l
 rw[e]at h
 exact yR h
theorem NW(l:List Nat):(dv l).length=0\/(dv l).getD ((dv l).length-1) 0≠0:=by
 obtain⟨k,h1,_,h3,e⟩:=AJ l
 rw[e,lH,yS h1]
 rcases h3 with h3 | h3
 ·exact .inl h3
 ·by_cases h0:k=0
  ·exact .inl h0
  ·right
   rw[aU]at h3 ⊢
   rw[Cz,if_pos (by omega)]
   exact h3
theorem E3{m:Bool × Nat}(hm:m∈aq)(x:Nat):∀{l:List Nat},(∀a∈l,a=0)->bz m x l=0
 | [],_=>rfl
 | a::l,h=>by
  have fq:=(bZ hm).lo
  show gp m (gm m (bz m x l) x) a=0
  rw[E3 hm x λa ha=>h a (by simp[ha]),h a (by simp),fw _ _ (bO m hm),jg (by omega)]
theorem NX{m:Bool × Nat}(hm:m∈aq)(x:Nat):∀(l:List Nat) (k:Nat),(∀a∈l.drop k,a=0)->bz m x (l.take k)=bz m x l
 | [],k,_=>by rw[List.take_nil]
 | a::l,0,h=>by rw[List.take_zero];exact(E3 hm x h).symm
 | a::l,k+1,h=>by
  rw[List.take_succ_cons]
  show gp m (gm m (bz m x (l.take k)) x) a=gp m (gm m (bz m x l) x) a
  rw[NX hm x l k h]
theorem E4{m:Bool × Nat}(hm:m∈aq)(x:Nat)(l:List Nat):bz m x (dv l)=bz m x l:=by
 obtain⟨k,_,h2,_,e⟩:=AJ l
 rw[e];exact NX hm x l k h2
noncomputable def px(m:Bool × Nat)(x:Nat):Nat->Nat
 | 0=>1
 | k+1=>gm m (px m x k) x
noncomputable def jh(m:Bool × Nat)(t:List Nat)(k v:Nat):List Nat:=t.set k (gp m (t.getD k 0) v)
noncomputable def eV(m:Bool × Nat)(x:Nat):List Nat->Nat->List Nat->List Nat
 | t,_,[]=>t
 | t,i,y::b=>eV m x (jh m t i (gm m x y)) (i+1) b
noncomputable def gK(m:Bool × Nat)(b:List Nat):List Nat->Nat->List Nat->List Nat
 | t,_,[]=>t
 | t,i,x::a=>gK m b (eV m x t i b) (i+1) a
noncomputable def mX(m:Bool × Nat)(a b:List Nat):List Nat:=gK m b (aX (a.length+b.length) 0) 0 a
noncomputable def mY(m:Bool × Nat)(a b:List Nat):List Nat:=dv (mX m a b)
theorem NY(m:Bool × Nat)(x:Nat):∀(b c t:List Nat) (i:Nat),eV m x t i (b++c)=eV m x (eV m x t i b) (i+b.length) c
 | [],c,t,i=>rfl
 | y::b,c,t,i=>by
  show eV m x (jh m t i (gm m x y)) (i+1) (b++c)=_
  rw[NY m x b c,eX,show i+1+b.length=i+(b.length+1) by omega];rfl
theorem b23(m:Bool × Nat)(x:Nat)(b t:List Nat)(i:Nat){j:Nat}(hj:j<b.length):eV m x t i (b.take (j+1))=jh m (eV m x t i (b.take j)) (i+j) (gm m x b[j]):=by
 rw[oX,aT hj,NY,lH,yS (by omega)];rfl
theorem NZ(m:Bool × Nat)(b:List Nat):∀(a c t:List Nat) (i:Nat),gK m b t i (a++c)=gK m b (gK m b t i a) (i+a.length) c
 | [],c,t,i=>rfl
 | y::a,c,t,i=>by
  show gK m b (eV m y t i b) (i+1) (a++c)=_
  rw[NZ m b a c,eX,show i+1+a.length=i+(a.length+1) by omega];rfl
theorem b22(m:Bool × Nat)(b a t:List Nat)(i:Nat){j:Nat}(hj:j<a.length):gK m b t i (a.take (j+1))=eV m a[j] (gK m b t i (a.take j)) (i+j) b:=by
 rw[oX,aT hj,NZ,lH,yS (by omega)];rfl
theorem E5(m:Bool × Nat)(t:List Nat)(k v:Nat):(jh m t k v).length=t.length:=by unfold jh;rw[oR]
theorem xJ(m:Bool × Nat)(x:Nat):∀(b t:List Nat) (i:Nat),(eV m x t i b).length=t.length
 | [],t,i=>rfl
 | y::b,t,i=>(xJ m x b _ _).trans (E5 m t i _)
theorem E6(m:Bool × Nat)(b:List Nat):∀(a t:List Nat) (i:Nat),(gK m b t i a).length=t.length
 | [],t,i=>rfl
 | y::a,t,i=>(E6 m b a _ _).trans (xJ m y b t i)
noncomputable def AllLt(n:Nat)(l:List Nat):Prop:=∀a∈l,a<n
theorem AllLt.getD{n:Nat}{l:List Nat}(h:AllLt n l)(h0:0<n)(k:Nat):l.getD k 0<n:=by
 rw[aU]
 cases e:l[k]? with
 | none=>exact h0
 | some v=>exact h v (q9 e)
theorem E7{m:Bool × Nat}(hm:m∈aq){t:List Nat}(ht:AllLt (ae m) t){k v:Nat}(hv:v<ae m):AllLt (ae m) (jh m t k v):=λa ha=>by
 unfold jh at ha
 have fq:=(bZ hm).lo
 rcases CC ha with h | h
 ·exact ht a h
 ·rw[h];exact qH hm (ht.getD (by omega) k) hv
theorem xK{m:Bool × Nat}(hm:m∈aq)(x:Nat):∀(b t:List Nat) (i:Nat),AllLt (ae m) t->AllLt (ae m) (eV m x t i b)
 | [],t,i,h=>h
 | y::b,t,i,h=>xK hm x b _ _ (E7 hm h (dq hm _ _))
theorem E8{m:Bool × Nat}(hm:m∈aq)(b:List Nat):∀(a t:List Nat) (i:Nat),AllLt (ae m) t->AllLt (ae m) (gK m b t i a)
 | [],t,i,h=>h
 | y::a,t,i,h=>E8 hm b a _ _ (xK hm y b t i h)
theorem AK{m:Bool × Nat}(hm:m∈aq)(n:Nat):AllLt (ae m) (aX n 0):=λa ha=>by
 have fq:=(bZ hm).lo
 rw[(vg.mp ha).2];omega
theorem b06{m:Bool × Nat}(hm:m∈aq)(a b:List Nat):AllLt (ae m) (mX m a b):=E8 hm b a _ 0 (AK hm _)
theorem bS5(m:Bool × Nat)(a b:List Nat):(mX m a b).length=a.length+b.length:=by unfold mX;rw[E6,jM]
theorem cj6{m:Bool × Nat}(hm:m∈aq)(a b:List Nat):AllLt (ae m) (mY m a b):=λx hx=>b06 hm a b x (b68 hx)
theorem N0{m:Bool × Nat}(hm:m∈aq)(X:Nat){v:Nat}(hv:v<ae m):∀(t:List Nat) (k:Nat),k<t.length->bz m X (jh m t k v)=gp m (bz m X t) (gm m v (px m X k))
 | [],k,h=>by simp at h
 | a::t,0,_=>by
  show gp m (gm m (bz m X t) X) (gp m a v)=gp m (gp m (gm m (bz m X t) X) a) (gm m v 1)
  rw[mU hv,qG]
 | a::t,k+1,h=>by
  have ih:=N0 hm X hv t k (by simpa using h)
  have h0:=bO m hm
  show gp m (gm m (bz m X (jh m t k v)) X) a=gp m (gp m (gm m (bz m X t) X) a) (gm m v (gm m (px m X k) X))
  rw[ih,AI h0,fG h0,qG,qG,lh m _ a]
theorem N1{m:Bool × Nat}(hm:m∈aq)(X x:Nat):∀(b t:List Nat) (i:Nat),AllLt (ae m) t->i+b.length<=t.length->bz m X (eV m x t i b)=gp m (bz m X t) (gm m (gm m x (px m X i)) (bz m X b))
 | [],t,i,ht,_=>by
  show bz m X t=gp m (bz m X t) (gm m (gm m x (px m X i)) 0)
  rw[hW _ _ (bO m hm),lj (xI hm X ht)]
 | y::b,t,i,ht,hl=>by
  have h0:=bO m hm
  rw[eX]at hl
  show bz m X (eV m x (jh m t i (gm m x y)) (i+1) b)=gp m (bz m X t) (gm m (gm m x (px m X i)) (gp m (gm m (bz m X b) X) y))
  rw[N1 hm X x b _ _ (E7 hm ht (dq hm _ _)) (by rw[E5];omega),N0 hm X (dq hm _ _) t i (by omega),qG]
  congr 1
  rw[xG h0,lh]
  congr 1
  ·show gm m (gm m x (gm m (px m X i) X)) (bz m X b)=_
   rw[<-fG h0 x,fG h0 _ X,fZ m X]
  ·rw[fG h0,fG h0,fZ m y]
theorem N2{m:Bool × Nat}(hm:m∈aq)(X:Nat)(b:List Nat):∀(a t:List Nat) (i:Nat),AllLt (ae m) t->i+a.length+b.length<=t.length->bz m X (gK m b t i a)=gp m (bz m X t) (gm m (gm m (bz m X a) (px m X i)) (bz m X b))
 | [],t,i,ht,_=>by
  have h0:=bO m hm
  show bz m X t=gp m (bz m X t) (gm m (gm m 0 (px m X i)) (bz m X b))
  rw[fw _ _ h0,fw _ _ h0,lj (xI hm X ht)]
 | x::a,t,i,ht,hl=>by
  have h0:=bO m hm
  rw[eX]at hl
  show bz m X (gK m b (eV m x t i b) (i+1) a)=gp m (bz m X t) (gm m (gm m (gp m (gm m (bz m X a) X) x) (px m X i)) (bz m X b))
  rw[N2 hm X b a _ _ (xK hm x b t i ht) (by rw[xJ];omega),N1 hm X x b t i ht (by omega),qG]
  congr 1
  rw[AI h0,AI h0,lh]
  congr 1
  show gm m (gm m (bz m X a) (gm m (px m X i) X)) (bz m X b)=_
  rw[fZ m (px m X i) X,<- fG h0 (bz m X a)]
theorem b56{m:Bool × Nat}(hm:m∈aq)(X:Nat)(a b:List Nat)(ha:AllLt (ae m) a)(hb:AllLt (ae m) b):bz m X (mY m a b)=gm m (bz m X a) (bz m X b):=by
 unfold mY
 rw[E4 hm]
 unfold mX
 rw[N2 hm X b a _ 0 (AK hm _) (by rw[jM];omega),E3 hm X (λx hx=>(vg.mp hx).2)]
 show gp m 0 (gm m (gm m (bz m X a) 1) (bz m X b))=_
 rw[mU (xI hm X ha),jg (dq hm _ _)]
end L3
namespace L3
open PySem L2 PySem.Spec PyProof.Rows
theorem bU4(n:Nat)(l:List Nat):(aA l).all (dF n)=true:=by
 rw[eJ,oY,du]
 intro a _
 exact tM n _
theorem AL(n:Nat)(o:Bool)(l:List Nat):dF (n+1) (.lst o (aA l))=true:=bU4 n l
theorem uo(o o':Bool)(a b:List Nat):bE (.lst o (aA a)) (.lst o' (aA b))=decide (a=b):=by
 unfold aA
 rw[tN]
 congr 1
 apply propext
 constructor
 ·intro h
  have:=congrArg (CA rp) h
  have e:(rp ∘ λ(n:Nat)=>(n:Int))=id:=by funext x;rfl
  rw[eH,eH,e,List.map_id,List.map_id]at this
  exact this
 ·intro h;rw[h]
theorem qI{l:List Nat}{k:Int}(h0:0<=k)(h:k.toNat<l.length):dD (aA l) k=some (.int ((l.getD k.toNat 0:Nat):Int)):=by
 refine kE h0 ?_
 rw[eJ,cP,aT h,aU,aT h];rfl
theorem bO1{l:List Nat}(h:0<l.length):dD (aA l) (-1)=some (.int ((l.getD (l.length-1) 0:Nat):Int)):=by
 unfold aA
 rw[Mx (by rw[bY];exact h),bY]
 congr 2
 rw[aU,aU,cP]
 cases l[l.length-1]?<;>rfl
theorem E9{n:Nat}{k:Int}(h0:0<=k)(h:k.toNat<n):iz n k=some k.toNat:=by
 unfold iz
 rw[if_pos h0,if_pos (by omega)]
theorem uq{n:Nat}(k:Int)(h:k=n):(((aJ k.toNat).map λ(k:Nat)=>D.int (0+(k:Int))).map D.sh)=(aJ n).map λ(i:Nat)=>D.int (i:Int):=by
 subst h
 rw[wk,jN]
 simp
theorem bR1{l:List Nat}{k:Nat}(h1:0<k)(hk:k<=l.length)(hz:∀x∈l.drop k,x=0)(h0:l.getD (k-1) 0=0):∀x∈l.drop (k-1),x=0:=by
 intro x hx
 rw[JR (by omega)]at hx
 rcases bR.mp hx with hx | hx
 ·rw[hx]
  rw[aU,aT (by omega)]at h0
  exact h0
 ·rw[show k-1+1=k by omega]at hx
  exact hz x hx
theorem Fb(l:List Nat)(k v:Nat):(aA l).set k (.int (v:Nat))=aA (l.set k v):=by
 rw[eJ,eJ,List.map_set]
theorem N3(l:List Nat):(aA l).all D.fr=true:=qp _
theorem xM(o:Bool)(l:List Nat):(D.lst o (aA l)).sh=.lst false (aA l):=by rw[eT,qu]
theorem oy(l:List Nat):(D.lst true (aA l)).fr=true:=by rw[fB,N3];rfl
theorem cm2{xs:List D}{i:Nat}{d:D}(h:(fe xs)[i]?=some d):∃hi:i<xs.length,d=.tup [.int i,xs[i]]:=by
 have hi:i<(fe xs).length:=(jr.mp h).1
 rw[oa]at hi
 refine⟨hi,?_⟩
 unfold fe at h
 rw[yT,aT hi]at h
 exact(cX h).symm
theorem N4{l:List Nat}{i:Nat}{d:D}(h:(fe (aA l))[i]?=some d):∃hi:i<l.length,d=.tup [.int i,.int (l[i]:Nat)]:=by
 obtain⟨hi,e⟩:=cm2 h
 rw[gG]at hi
 refine⟨hi,?_⟩
 rw[e]
 simp only[eJ,vo]
theorem b03{l:List Nat}{i:Nat}{d:D}(h:(aA l)[i]?=some d):∃hi:i<l.length,d=.int (l[i]:Nat):=by
 have hi:i<l.length:=by
  have:=(jr.mp h).1
  rw[gG]at this;exact this
 refine⟨hi,?_⟩
 rw[eJ,cP,aT hi]at h
 exact(cX h).symm
theorem bY8{a:Int}{n i:Nat}{d:D}(h:((aJ n).map λ(k:Nat)=>D.int (a+(k:Int)))[i]?=some d):i<n/\d=.int (a+i):=by
 have hi:i<n:=by
  have:=(jr.mp h).1
  simpa using this
 refine⟨hi,?_⟩
 rw[cP,kr hi]at h
 exact(cX h).symm
section
variable{X:Cx}
end
end L3
namespace L3
open PySem L2 Mf
noncomputable def bC(m:Bool × Nat)(a b:Nat):Nat:=(gl m a b).toNat
theorem ji{m:Bool × Nat}(hm:m∈aq){a b:Nat}(ha:a<ae m)(hb:b<ae m):gl m a b=(bC m a b:Nat)/\bC m a b<ae m/\gp m (bC m a b) b=a:=by
 obtain⟨r,e,h1,h2⟩:=cB4 hm ha hb
 have:bC m a b=r:=by unfold bC;rw[e];rfl
 rw[this]
 exact⟨e,h1,h2⟩
theorem N5{n:Nat}{f:Nat->Nat->Nat}:∀{a b:List Nat},(∀x∈a,∀y∈b,f x y<n)->AllLt n (gi f a b)
 | [],_,_=>by intro x hx;simp at hx
 | _::_,[],_=>by intro x hx;simp at hx
 | x::a,y::b,h=>by
  intro z hz
  rw[List.zipWith_cons_cons]at hz
  rcases bR.mp hz with rfl | hz
  ·exact h x (by simp) y (by simp)
  ·exact N5 (λx hx y hy=>h x (by simp[hx]) y (by simp[hy])) z hz
theorem bK0(xs ys:List Nat):(fv (aA xs) (aA ys)).map D.sh=(xs.zip ys).map λz=>D.tup [.int (z.1:Int),.int (z.2:Int)]:=by
 unfold aA
 rw[Ω,List.zip_map,eH];rfl
theorem N6{sh:Bool}{av:List (Str × Nat)}{n i1 i2:Nat}{te:aI}{ah:Dl}{Q:D->Dl->Prop}(f:Nat->Nat->Nat){A B:List Nat}(hx:∀x∈A,∀y∈B,jc i1 i2 (.tup [.int (x:Int),.int (y:Int)]) (fu av n ah) λaP=>te aP λd _=>d=.int ((f x y:Nat):Int))
  (hl:A.length<=100000) (hq:Q (.lst true (aA (gi f A B))) ah):sH sh (fv (aA A) (aA B)) av n (jc i1 i2) kP te ah Q:=by
 refine Φ (A.zip B) (λz=>D.tup [.int (z.1:Int),.int (z.2:Int)]) (λz=>D.int ((f z.1 z.2:Nat):Int)) (bK0 A B) (λa b h=>?_) (λz hz=>hx z.1 (yG hz).1 z.2 (yG hz).2) Ψ (.inr λ_ _=>rfl) (by rw[JS,sL];omega) ?_
 ·injection h with h
  simp at h
  exact Prod.ext (by omega) (by omega)
 ·rw[show((A.zip B).map λz=>D.int ((f z.1 z.2:Nat):Int))=aA (gi f A B) by rw[eJ,List.zip,CB,CB]]
  exact hq
end L3
namespace L3
open PySem L2 PySem.Spec PyProof.Rows
theorem aj.cM8{B:Bs}{F H:Hp}{σ:L2.St}{δ:Dl}{ps ts:List (D × V)}{p:Addr}{o:HO}{A1:List Addr}(c:aj B F H σ δ (ps++ts))(hp:H p=none)(r:R F (upd H p o) (ps.map (·.1)) (ps.map (·.2)) A1):p ∉ A1:=λh=>by
 obtain⟨A,C,r0,_,_,_⟩:=c.own
 rw[jQ,jQ]at r0
 obtain⟨v1,v2,B1,B2,e,rfl,h1,h2⟩:=R.split r0
 have l1:(ps.map (·.2)).length=v1.length:=by rw[<-h1.length];simp
 obtain⟨rfl,rfl⟩:=Cv e l1
 have g1:=h1.grow (af.refl F) (af.upd (o:=o) hp) λa ha=>(h1.lists a ha).2
 have:A1=B1:=R.inj r g1
 subst this
 obtain⟨ws,e⟩:=(h1.lists p h).1
 rw[hp]at e;cases e
theorem aj.join{B:Bs}{F H:Hp}{σ:L2.St}{δ:Dl}{ts:List (D × V)}{p p' r:Addr}{xs ys:List D}{ws fE:List V}(c:aj B F H σ δ ((.lst true ys,.ref p')::(.lst true xs,.ref p)::ts))(e1:H p=some (.lst ws))(e2:H p'=some (.lst fE))(hr:H r=none) :
  aj B F (upd H r (.lst (ws++fE))) σ δ ((.lst true (xs++ys),.ref r)::ts):=by
 refine aj.pack (ps:=[(.lst true ys,.ref p'),(.lst true xs,.ref p)]) c (af.upd hr) λA1 r1 nd=>?_
 have nin:=aj.cM8 (ps:=[(.lst true ys,.ref p'),(.lst true xs,.ref p)]) (ts:=ts) c hr r1
 have n1:p≠r:=λz=>by rw[z,hr]at e1;cases e1
 have n2:p'≠r:=λz=>by rw[z,hr]at e2;cases e2
 have r1:R F (upd H r (.lst (ws++fE))) [.lst true ys,.lst true xs] [.ref p',.ref p] A1:=r1
 cases r1 with
 | @own _ wy _ Ay _ _ By hy fy ry rb =>
  cases rb with
  | @own _ wx _ Ax _ _ Bx hx fx rx rc =>
   cases rc
   rw[aO n2,e2]at hy;cases hy
   rw[aO n1,e1]at hx;cases hx
   refine⟨r::(Ax++Ay),by simpa using R.own bA (c.ext.free hr) (rx.append ry) .nil,?_,λa ha=>?_⟩
   ·refine js.mpr ⟨λz=>nin ?_,?_⟩
    ·rcases cS.mp z with z | z<;>simp[z]
    ·have sl:(Ay++Ax).Sublist (p'::Ay++(p::Ax++[])):=by
      rw[fO]
      exact(((TZ p Ax).append_left Ay).trans (TZ p' _))
     exact lV.nodup_iff.mp (nd.sublist sl)
   ·simp only[bR,cS]at ha ⊢
    rcases ha with rfl | ha | ha
    ·exact .inr hr
    ·simp[ha]
    ·simp[ha]
section
variable{X:Cx}{a b:Expr}{ta tb:aI}{pos:Pos}
noncomputable def ur(ta tb:aI):aI:=λδ Q=>ta δ λx ah=>tb ah λy aP=>∃xs ys,x=.lst true xs/\y=.lst true ys/\xs.length+ys.length<=sizeLine/\Q (.lst true (xs++ys)) aP
theorem cr1(ha:PE X a (lE ta))(hb:PE X b (lE tb)):PE X (.BinOp a .Add b pos) (lE (ur ta tb)) :=
 cN (vM KQ ha hb) λσ H Q ⟨B,F,δ,ts,Qd,c,q,k⟩ =>
  ⟨B,F,δ,ts,_,c,q,λx ah v F1 H1 q1 f1 h1 c1=>⟨B,F1,ah,(x,v)::ts,_,c1,q1,λy aP w F2 H2 q2 f2 h2 c2=>by
   obtain⟨xs,ys,rfl,rfl,hz,hq⟩:=q2
   obtain⟨p',fE,rfl,e2,s2⟩:=g8 c2.top c2.ext
   obtain⟨p,ws,rfl,e1,s1⟩:=g8 c2.pop.top c2.ext
   refine⟨p,p',ws,fE,rfl,rfl,e1,e2,by rw[<-s1.length,<- s2.length];exact hz,λr hr=>?_⟩
   exact k _ aP _ F2 _ hq (f1.trans f2) ((h1.trans h2).trans (af.upd hr)) (c2.join e1 e2 hr)⟩⟩
end
theorem bR5{a b:List Nat}(h:aA a=aA b):a=b:=by
 have:=uo true true a b
 rw[h,show bE (D.lst true (aA b)) (D.lst true (aA b))=true from(uo _ _ _ _).trans (decide_eq_true rfl)]at this
 exact of_decide_eq_true this.symm
theorem Fc{o:Bool}(a b:List Nat)(h:D.lst o (aA a)=D.lst o (aA b)):a=b:=bR5 (by injection h)
end L3
namespace L3
open PySem L2 Mf
theorem N7{m:Bool × Nat}(hm:m∈aq)(k:Int):∀n:Nat,px m (eS m k) n=eS m (k*n)
 | 0=>by
  show 1=eS m (k*((0:Nat):Int))
  rw[show k*((0:Nat):Int)=0 by omega,cs5 hm]
 | n+1=>by
  show gm m (px m (eS m k) n) (eS m k)=_
  rw[N7 hm k n,E1 hm,yV,Int.mul_add]
  congr 1
  omega
end L3
namespace L2
open PySem PySem.Spec PyProof.Rows
end L2
namespace L3
open PySem L2 PySem.Spec PyProof.Rows Mf
end L3
namespace L3
open PySem L2 Mf
noncomputable def cf(l:List Nat)(k:Nat):Nat:=l.getD k 0
theorem ly{l:List Nat}{k:Nat}(h:l.length<=k):cf l k=0:=by
 unfold cf;rw[aU,jR h];rfl
theorem et{m:Bool × Nat}(hm:m∈aq){l:List Nat}(h:AllLt (ae m) l)(k:Nat):cf l k<ae m:=h.getD (by have:=(bZ hm).lo;omega) k
theorem cd2(a:Nat)(l:List Nat)(k:Nat):cf (a::l) (k+1)=cf l k:=rfl
theorem ck2(l:List Nat)(n k:Nat):cf (l.take n) k=if k<n then cf l k else 0:=by
 unfold cf
 rw[aU,Cz]
 split
 ·rw[aU]
 ·rfl
theorem oA(l:List Nat)(k:Nat):cf (dv l) k=cf l k:=by
 obtain⟨n,h1,h2,_,e⟩:=AJ l
 rw[e,ck2]
 split
 ·rfl
 ·rename_i h
  symm
  by_cases hk:k<l.length
  ·have hk2:k-n<(l.drop n).length:=by rw[u7];omega
   have:=h2 _ (fh hk2)
   rw[List.getElem_drop]at this
   unfold cf
   rw[aU,aT hk]
   simp only[show n+(k-n)=k by omega]at this
   exact this
  ·exact ly (by omega)
theorem bZ2{l l':List Nat}(h:∀k,cf l k=cf l' k):dv l=dv l':=by
 have key:∀{l l':List Nat},(∀k,cf l k=cf l' k)->(dv l).length<=(dv l').length:=λ{l l'} h=>by
  rcases NW l with h0 | h0
  ·omega
  ·have e:cf (dv l') ((dv l).length-1)≠0:=by
    rw[oA,<- h,<- oA];exact h0
   apply TH
   intro z
   by_cases hz:(dv l).length=0
   ·omega
   ·exact e (ly (by omega))
 have len:(dv l).length=(dv l').length:=Nat.le_antisymm (key h) (key λk=>(h k).symm)
 refine CG len λk h1 h2=>?_
 have e:cf (dv l) k=cf (dv l') k:=by rw[oA,oA,h]
 unfold cf at e
 rw[aU,aU,aT h1,aT h2]at e
 exact e
theorem b00(m:Bool × Nat)(t:List Nat){j:Nat}(hj:j<t.length)(v k:Nat):cf (jh m t j v) k=if k=j then gp m (cf t j) v else cf t k:=by
 unfold cf jh
 rw[aU,List.getElem?_set]
 by_cases h:k=j
 ·subst h
  rw[if_pos rfl,if_pos hj,if_pos rfl];rfl
 ·rw[if_neg (dU h),if_neg h,aU]
theorem N8{m:Bool × Nat}(hm:m∈aq)(x:Nat):∀(b t:List Nat) (i k:Nat),AllLt (ae m) t->i+b.length<=t.length->cf (eV m x t i b) k=gp m (cf t k) (if k<i then 0 else gm m x (cf b (k-i)))
 | [],t,i,k,ht,_=>by
  have e:(if k<i then 0 else gm m x (cf [] (k-i)))=0:=by
   split
   ·rfl
   ·rw[ly (nr _),hW _ _ (bO m hm)]
  rw[e,lj (et hm ht k)];rfl
 | y::b,t,i,k,ht,hl=>by
  rw[eX]at hl
  show cf (eV m x (jh m t i (gm m x y)) (i+1) b) k=_
  rw[N8 hm x b _ (i+1) k (E7 hm ht (dq hm _ _)) (by rw[E5];omega),b00 m t (by omega)]
  by_cases h1:k=i
  ·subst h1
   rw[if_pos rfl,if_pos (by omega),if_neg (by omega),yW,lj (qH hm (et hm ht _) (dq hm _ _))];rfl
  ·rw[if_neg h1]
   by_cases h2:k<i
   ·rw[if_pos (by omega),if_pos h2]
   ·rw[if_neg (by omega),if_neg h2,show k-i=(k-(i+1))+1 by omega,cd2]
noncomputable def oB(m:Bool × Nat)(b:List Nat):List Nat->Nat->Nat
 | [],_=>0
 | x::q,k=>gp m (gm m x (cf b k)) (match k with | 0=>0 | k+1=>oB m b q k)
theorem N9{m:Bool × Nat}(hm:m∈aq)(b:List Nat):∀(q:List Nat) (k:Nat),oB m b q k<ae m
 | [],_=>by have:=(bZ hm).lo;show 0<_;omega
 | x::q,0=>qH hm (dq hm _ _) (by have:=(bZ hm).lo;show 0<_;omega)
 | x::q,k+1=>qH hm (dq hm _ _) (N9 hm b q k)
theorem Oa{m:Bool × Nat}(hm:m∈aq)(b:List Nat):∀(a t:List Nat) (i k:Nat),AllLt (ae m) t->i+a.length+b.length<=t.length->cf (gK m b t i a) k=gp m (cf t k) (if k<i then 0 else oB m b a (k-i))
 | [],t,i,k,ht,_=>by
  have e:(if k<i then 0 else oB m b [] (k-i))=0:=by split<;>rfl
  rw[e,lj (et hm ht k)];rfl
 | x::a,t,i,k,ht,hl=>by
  rw[eX]at hl
  have fq:=(bZ hm).lo
  show cf (gK m b (eV m x t i b) (i+1) a) k=_
  rw[Oa hm b a _ (i+1) k (xK hm x b t i ht) (by rw[xJ];omega),N8 hm x b t i k ht (by omega),qG]
  congr 1
  by_cases h1:k<i
  ·rw[if_pos h1,if_pos (by omega),if_pos h1,jg (by omega)]
  ·rw[if_neg h1,if_neg h1]
   by_cases h2:k=i
   ·subst h2
    rw[if_pos (by omega),yW];rfl
   ·rw[if_neg (by omega),show k-i=(k-(i+1))+1 by omega];rfl
theorem cx8(n k:Nat):cf (aX n 0) k=0:=by
 unfold cf
 rw[aU,u6]
 split<;>rfl
theorem Ob{m:Bool × Nat}(hm:m∈aq)(a b:List Nat)(k:Nat):cf (mY m a b) k=oB m b a k:=by
 unfold mY
 rw[oA]
 unfold mX
 rw[Oa hm b a _ 0 k (AK hm _) (by rw[jM];omega),cx8,if_neg (Nat.not_lt_zero k),JF,jg (N9 hm b a k)]
theorem xN(m:Bool × Nat)(x:Nat):bC m x x=0:=by
 obtain⟨k,n⟩:=m
 cases k with
 | true=>show(((x ^^^ x:Nat):Int)).toNat=0;rw[yO];rfl
 | false=>show(((x:Int)-(x:Int))%(n:Int)).toNat=0;rw[Int.sub_self,Int.zero_emod];rfl
end L3
namespace L3
open PySem L2 PySem.Spec PyProof.Rows
section
variable{B:Bs}{F H:Hp}{σ:L2.St}{δ:Dl}{ts ps:List (D × V)}{i k:Nat}{p q:Addr}{l1 l2 ys LF:List D}{ws sY:List V}
end
section
variable{X:Cx}{F H:Hp}{e b:Expr}{pos p p2 p3 pr apos bK Ei:Pos}{t ti te:aI}{x y:Str}{i j:Nat}
end
end L3
namespace L3
structure Rg(N:Nat)(p q:Nat->Nat->Nat):Prop where
 pc:∀a b,p a b=p b a
 pa:∀a b c,p (p a b) c=p a (p b c)
 mc:∀a b,q a b=q b a
 ma:∀{a b c},a<N->b<N->c<N->q (q a b) c=q a (q b c)
 dl:∀a b c,q a (p b c)=p (q a b) (q a c)
 z:∀{a},a<N->p 0 a=a
 qz:∀a,q a 0=0
 one:∀{a},a<N->q 1 a=a
 lp:∀{a b},a<N->b<N->p a b<N
 lq:∀a b,q a b<N
 ng:∀{a},a<N->∃b,b<N/\p a b=0
section
variable{N:Nat}{p q:Nat->Nat->Nat}
noncomputable def sm(p:Nat->Nat->Nat):Nat->(Nat->Nat)->Nat
 | 0,_=>0
 | n+1,f=>p (sm p n f) (f n)
theorem Rg.pos(r:Rg N p q):0<N:=lQ (nr _) (r.lq 0 0)
theorem Rg.z'(r:Rg N p q){a:Nat}(h:a<N):p a 0=a:=by rw[r.pc];exact r.z h
theorem Rg.can(r:Rg N p q){a b c:Nat}(ha:a<N)(hb:b<N)(hc:c<N)(h:p a c=p b c):a=b:=by
 obtain⟨d,_,e⟩:=r.ng hc
 have:=congrArg (λx=>p x d) h
 simp only[r.pa,e]at this
 rw[r.z' ha,r.z' hb]at this
 exact this
theorem fH{f g:Nat->Nat}:∀{n:Nat},(∀j,j<n->f j=g j)->sm p n f=sm p n g
 | 0,_=>rfl
 | n+1,h=>by rw[sm,sm,fH λj hj=>h j (by omega),h n (by omega)]
theorem AM(r:Rg N p q){f:Nat->Nat}:∀{n:Nat},(∀j,j<n->f j<N)->sm p n f<N
 | 0,_=>r.pos
 | n+1,h=>r.lp (AM r λj hj=>h j (by omega)) (h n (by omega))
theorem lC(r:Rg N p q){f:Nat->Nat}:∀{n:Nat},(∀j,j<n->f j=0)->sm p n f=0
 | 0,_=>rfl
 | n+1,h=>by rw[sm,lC r λj hj=>h j (by omega),h n (by omega)];exact r.z r.pos
theorem Rg.four(r:Rg N p q)(a b c d:Nat):p (p a b) (p c d)=p (p a c) (p b d):=by
 rw[r.pa,r.pa,<- r.pa b,<- r.pa c,r.pc b c]
theorem oE(r:Rg N p q)(f g:Nat->Nat):∀n,sm p n (λj=>p (f j) (g j))=p (sm p n f) (sm p n g)
 | 0=>(r.z r.pos).symm
 | n+1=>by rw[sm,oE r f g n,sm,sm,r.four]
theorem uu(r:Rg N p q)(c:Nat)(f:Nat->Nat):∀n,sm p n (λj=>q c (f j))=q c (sm p n f)
 | 0=>(r.qz c).symm
 | n+1=>by rw[sm,uu r c f n,sm,r.dl]
theorem Oc(r:Rg N p q)(F:Nat->Nat->Nat)(k:Nat):∀n,sm p n (λi=>sm p k λj=>F i j)=sm p k λj=>sm p n λi=>F i j
 | 0=>(lC r λ_ _=>rfl).symm
 | n+1=>by
  rw[sm,Oc r F k n,<- oE r];rfl
theorem Od(r:Rg N p q){f:Nat->Nat}(n:Nat):∀k,(∀j,j<n+k->f j<N)->sm p (n+k) f=p (sm p n f) (sm p k λj=>f (n+j))
 | 0,h=>(r.z' (AM r λj hj=>h j (by omega))).symm
 | k+1,h=>by
  rw[<-JK,sm,Od r n k λj hj=>h j (by omega),sm,r.pa]
theorem b60(r:Rg N p q){f:Nat->Nat}(n:Nat)(h:∀j,j<n+1->f j<N):sm p (n+1) f=p (f 0) (sm p n λj=>f (j+1)):=by
 rw[yK n 1,Od r 1 n λj hj=>h j (by omega)]
 show p (p 0 (f 0)) _=_
 rw[r.z (h 0 (by omega))]
 congr 1
 exact fH λj _=>by rw[yK]
end
end L3
namespace L3
section
variable{N:Nat}{p q:Nat->Nat->Nat}
end
end L3
namespace L3
open PySem L2 Mf
theorem rg{m:Bool × Nat}(hm:m∈aq):Rg (ae m) (gp m) (gm m) where
 pc:=lh m
 pa:=qG m
 mc:=fZ m
 ma:=λ_ _ _=>fG (bO m hm) _ _ _
 dl:=λa b c=>xG (bO m hm) b c a
 z:=jg
 qz:=λa=>hW m a (bO m hm)
 one:=qE
 lp:=qH hm
 lq:=dq hm
 ng:=λ{a} ha=>by
  have g:=ji hm (a:=0) (b:=a) (by omega) ha
  exact⟨_,g.2.1,(lh m _ _).trans g.2.2⟩
theorem bZ0(p:Nat->Nat->Nat)(l:List Nat):l.foldl p 0=sm p l.length λj=>l.getD j 0:=by
 have key:∀n,n<=l.length->(l.take n).foldl p 0=sm p n λj=>l.getD j 0:=by
  intro n
  induction n with
  | zero=>intro _;rfl
  | succ n ih =>
   intro h
   rw[oX,aT (by omega),JT,ih (by omega),sm,aU,aT (show n<l.length by omega)]
   rfl
 have:=key l.length (bG _)
 rw[ve]at this
 exact this
theorem cu3{m:Bool × Nat}(hm:m∈aq)(f:Nat)(b:List Nat)(j:Nat):cf (b.map (gm m f)) j=gm m f (cf b j):=by
 unfold cf
 rw[aU,cP,aU]
 cases b[j]? with
 | none=>exact(hW m f (bO m hm)).symm
 | some x=>rfl
theorem cI7{m:Bool × Nat}(hm:m∈aq){a b:Nat}(ha:a<ae m)(hb:b<ae m)(h0:b≠0):∃r,r<ae m/\gm m r b=a:=by
 by_cases a0:a=0
 ·exact⟨0,by have:=(bZ hm).lo;omega,by rw[a0];exact fw m b (bO m hm)⟩
 ·obtain⟨r,_,h1,h2⟩:=NQ hm (show 1<=a by omega) ha (show 1<=b by omega) hb
  exact⟨r,h1,h2⟩
end L3
namespace L3
open PySem L2 PySem.Spec PyProof.Rows
section
variable{X:Cx}{i j:Nat}{x y:Str}{p pos pos' apos bK:Pos}
end
section
variable{X:Cx}{e:Expr}{t:aI}{p pos:Pos}
end
section
variable{X:Cx}
theorem b49(i:Int)(ns:List Int):zJ (.int i) (ns.map V.int)=decide (i∈ns):=by
 unfold zJ
 rw[List.any_map,rm,List.any_eq_true,decide_eq_true_iff]
 exact⟨λ⟨x,hx,he⟩=>(show x=i by simpa[kF]using he) ▸ hx,λhx=>⟨i,hx,by simp[kF]⟩⟩
noncomputable def qJ:cw:=λx y Q=>match x,y with
 | .int i,.lst _ xs=>∃ns:List Int,xs=aE ns/\Q (.bl (!decide (i∈ns)))
 | _,_=>False
theorem cw9:bL X (compareOp .NotIn) qJ :=
 ⟨_,Wx,λ{B F H σ δ ts x y v w Q Qd} c sx sy h k=>by
  unfold qJ at h
  split at h
  ·rename_i i o xs
   obtain⟨ns,rfl,q⟩:=h
   obtain⟨p,ws,rfl,e1,s1⟩:=g8 sy c.ext
   have e:=MY s1
   subst e
   cases sx
   refine⟨p,_,rfl,.inl (bH.of e1),rfl,by simp[mr],?_⟩
   rw[if_pos rfl,b49]
   exact k _ _ _ q (af.refl _) (c.pushS (.bl .nil) rfl)
  ·exact h.elim⟩
end
end L3
namespace L3
open PySem L2 Mf
noncomputable def aQ(o:Bool)(T:List (List Nat)):List D:=T.map λr=>.lst o (aA r)
theorem mZ(o:Bool)(T:List (List Nat)):(aQ o T).length=T.length:=by unfold aQ;rw[bY]
theorem iQ(o:Bool)(T:List (List Nat)):(aQ o T).map D.sh=aQ false T:=by
 unfold aQ
 rw[eH]
 exact vh λr _=>xM o r
theorem xO(T:List (List Nat)):(aQ false T).all D.pl=true:=by
 unfold aQ
 rw[oY,du]
 intro r _
 show(D.lst false (aA r)).pl=true
 rw[iG,og];rfl
theorem AN(T:List (List Nat)):(aQ true T).all D.fr=true:=by
 unfold aQ
 rw[oY,du]
 intro r _
 exact oy r
theorem AO(o:Bool)(S T:List (List Nat)):aQ o S++aQ o T=aQ o (S++T):=by unfold aQ;rw[jQ]
theorem xP(o:Bool)(T:List (List Nat))(lo hi:Option Int):eI (aQ o T) lo hi=aQ o (eI T lo hi):=by
 unfold aQ eI
 rw[bY,JM,JL]
theorem Fd(o:Bool){T:List (List Nat)}{i:Nat}(h:i<T.length):dD (aQ o T) (i:Int)=some (.lst o (aA T[i])):=by
 refine L3.MU ?_
 unfold aQ
 rw[cP,aT h];rfl
theorem bM6(n:Nat)(o:Bool)(T:List (List Nat)):(aQ o T).all (dF (n+1))=true:=by
 unfold aQ
 rw[oY,du]
 intro r _
 exact AL _ _ _
theorem Fe(n:Nat)(o o':Bool)(T:List (List Nat)):dF (n+2) (.lst o (aQ o' T))=true:=bM6 n o' T
theorem Oe(o o':Bool):∀(a b:List (List Nat)),bE.e7 (aQ o a) (aQ o' b)=decide (a=b)
 | [],[]=>rfl
 | [],_::_=>by simp[aQ,bE.e7]
 | _::_,[]=>by simp[aQ,bE.e7]
 | x::xs,y::ys=>by
  show(bE (.lst o (aA x)) (.lst o' (aA y))&&bE.e7 (aQ o xs) (aQ o' ys))=_
  rw[Oe o o' xs ys,uo,rm];simp
theorem Of(o o' o1 o2:Bool)(a b:List (List Nat)):bE (.lst o (aQ o1 a)) (.lst o' (aQ o2 b))=decide (a=b):=Oe o1 o2 a b
open Classical in
theorem Og{α:Type}{sh:Bool}{xs:List D}{av:List (Str × Nat)}{n:Nat}{g0:gC}{tt:eU}{te:aI}{ah:Dl}{Q:D->Dl->Prop}(l:List α)(e g:α->D)(kp:α->Bool)(iO:xs.map D.sh=l.map e)(inj:∀a b,e a=e b->a=b)
  (hx:∀a∈l,g0 (e a) (fu av n ah) λaP=>tt aP λb g6=>b=kp a/\(kp a=true->te g6 λd _=>d=g a)) (dE:(sh&&av.all (iM ah))=true\/∀a∈l,kp a=true->(g a).fr=true) (hl:l.length<=sizeLine) (hq:Q (.lst true ((l.filter kp).map g)) ah):sH sh xs av n g0 tt te ah Q:=by
 have pick:∀{β:Type} (h:α->β) (z:β),∃f:D->β,∀a∈l,f (e a)=h a:=λh z=>⟨λx=>if w:∃a∈l,e a=x then h w.choose else z,λa ha=>by
  have w:∃b∈l,e b=e a:=⟨a,ha,rfl⟩
  show(if w:∃b∈l,e b=e a then h w.choose else z)=h a
  rw[dif_pos w]
  exact congrArg h (inj _ _ w.choose_spec.2)⟩
 obtain⟨f,hf⟩:=pick g .ao
 obtain⟨p,hp⟩:=pick kp false
 refine⟨p,f,λx h=>?_,dE.imp id λh x cU=>?_,?_,?_⟩
 ·rw[iO]at h
  obtain⟨a,ha,rfl⟩:=dA.mp h
  rw[hp a ha,hf a ha]
  exact hx a ha
 ·rw[iO]at cU
  obtain⟨a,ha,rfl⟩:=dA.mp cU
  rw[hp a ha,hf a ha];exact h a ha
 ·have:=congrArg Cg iO
  simp at this
  omega
 ·rw[iO,List.filter_map,eH,show l.filter (p ∘ e)=l.filter kp from List.filter_congr λa ha=>hp a ha,show(l.filter kp).map (f ∘ e)=(l.filter kp).map g from vh λa ha=>hf a (oM.mp ha).1]
  exact hq
theorem b70{o:Bool}{G:List (List Nat)}{i:Nat}{d:D}(h:(fe (aQ o G))[i]?=some d):∃hi:i<G.length,d=.tup [.int i,.lst o (aA G[i])]:=by
 unfold fe aQ at h
 rw[yT,cP]at h
 by_cases hi:i<G.length
 ·rw[aT hi]at h
  exact⟨hi,(cX h).symm⟩
 ·rw[jR (by omega)]at h;cases h
theorem b45(r:List Nat):(fe (aA r)).map D.sh=(aJ r.length).map λ(i:Nat)=>D.tup [.int (i:Int),.int ((r.getD i 0:Nat):Int)]:=by
 apply JN
 intro i
 unfold fe
 rw[eJ,cP,yT,cP,cP]
 by_cases hi:i<r.length
 ·have e:r.getD i 0=r[i]:=by rw[aU,aT hi];rfl
  rw[aT hi,kr hi]
  show _=some (D.tup [D.int (i:Int),D.int ((r.getD i 0:Nat):Int)])
  rw[e];rfl
 ·rw[jR (show r.length<=i by omega),jR (show(aJ r.length).length<=i by simpa using hi)];rfl
theorem bV4{r:List Nat}(h:∃x∈r,x≠0):((aJ r.length).filter λi=>r.getD i 0 != 0)[0]?=some (r.findIdx (· != 0)):=by
 obtain⟨x,hx,h0⟩:=h
 have hl:r.findIdx (· != 0)<r.length:=T1 ⟨x,hx,by simpa using h0⟩
 rw[<-List.head?_eq_getElem?,List.head?_filter,List.find?_range_eq_some]
 refine⟨?_,dH.mpr hl,λj hj=>?_⟩
 ·rw[aU,aT hl]
  exact List.findIdx_getElem (w:=hl)
 ·have:=List.not_of_lt_findIdx hj
  rw[aU,aT (by omega)]
  simpa using this
noncomputable def aD(T:List (List Nat)):Nat:=(T.headD []).length
noncomputable def jj(T:List (List Nat))(j:Nat):Option Nat:=T.findIdx? λr=>r.getD j 0 != 0
noncomputable def fI(m:Bool × Nat)(T:List (List Nat))(l:List Nat)(j:Nat):List (List Nat):=T.map λr=>gi (λx y=>bC m x (gm m (r.getD j 0) y)) r l
noncomputable def xQ(m:Bool × Nat)(b:Nat):Nat:=((aJ (ae m)).find? λr=>gm m r b==1).getD 0
theorem Oh{m:Bool × Nat}(hm:m∈aq){b r:Nat}(hr:r<ae m)(h:gm m r b=1):xQ m b=r:=by
 have m0:=bO m hm
 unfold xQ
 cases e:(aJ (ae m)).find? λr=>gm m r b==1 with
 | none =>
  have:=List.find?_eq_none.mp e r (dH.mpr hr)
  simp[h]at this
 | some r' =>
  have h':gm m r' b=1:=by simpa using List.find?_some e
  have l':r'<ae m:=dH.mp (TU e)
  show r'=r
  rw[<-mU hr,<- h',<- fG m0,fZ m r r',fG m0,h,mU l']
noncomputable def RT(N w:Nat)(T:List (List Nat)):Prop:=∀r∈T,r.length=w/\AllLt N r
theorem RT.app{N w:Nat}{S T:List (List Nat)}(a:RT N w S)(b:RT N w T):RT N w (S++T):=λr hr=>(cS.mp hr).elim (a r) (b r)
theorem Oi{m:Bool × Nat}(hm:m∈aq){w j:Nat}{T:List (List Nat)}{l:List Nat}(h:RT (ae m) w T)(hl:l.length=w):RT (ae m) w (fI m T l j):=λr hr=>by
 obtain⟨r,h1,rfl⟩:=dA.mp hr
 obtain⟨a,b⟩:=h r h1
 exact⟨by rw[CJ,a,hl,Cw],N5 λx hx y hy=>(ji hm (b x hx) (dq hm _ y)).2.1⟩
noncomputable def dw(m:Bool × Nat)(T:List (List Nat))(i p:Nat):List Nat:=(T.getD i []).map (gm m (xQ m ((T.getD i []).getD p 0)))
noncomputable def gL(m:Bool × Nat)(s:List (List Nat) × List (List Nat))(p:Nat):List (List Nat) × List (List Nat):=match jj s.2 p with
 | none=>s
 | some i=>(fI m s.1 (dw m s.2 i p) p++[dw m s.2 i p],fI m (s.2.take i++s.2.drop (i+1)) (dw m s.2 i p) p)
noncomputable def jk(m:Bool × Nat)(G:List (List Nat))(k:Nat):List (List Nat) × List (List Nat):=(aJ k).foldl (gL m) ([],G)
noncomputable def cK(m:Bool × Nat)(G:List (List Nat)):List (List Nat):=(jk m G (aD G)).1
theorem Ff(m:Bool × Nat)(G:List (List Nat))(k:Nat):jk m G (k+1)=gL m (jk m G k) k:=by
 unfold jk
 rw[JU,JT];rfl
theorem AQ{T:List (List Nat)}{j i:Nat}(h:jj T j=some i):∃hi:i<T.length,T[i].getD j 0≠0/\T.getD i []=T[i]:=by
 obtain⟨hi,h1,_⟩:=T3.mp h
 exact⟨hi,by simpa using h1,by rw[aU,aT hi];rfl⟩
structure xR(N w n:Nat)(s:List (List Nat) × List (List Nat)):Prop where
 a:RT N w s.1
 b:RT N w s.2
 l:s.1.length+s.2.length<=n
theorem b05{m:Bool × Nat}(hm:m∈aq){w n p:Nat}{s:List (List Nat) × List (List Nat)}(h:xR (ae m) w n s):xR (ae m) w n (gL m s p):=by
 unfold gL
 split
 ·exact h
 ·rename_i i e
  obtain⟨hi,h1,h2⟩:=AQ e
  have hl:(dw m s.2 i p).length=w:=by unfold dw;rw[bY,h2];exact(h.b _ (fh hi)).1
  have hr:RT (ae m) w [dw m s.2 i p]:=λr hr=>by
   rw[jP]at hr
   refine⟨by rw[hr];exact hl,λx hx=>?_⟩
   rw[hr]at hx
   obtain⟨y,_,rfl⟩:=dA.mp hx
   exact dq hm _ _
  refine⟨(Oi hm h.a hl).app hr,Oi hm (λr hr=>h.b r ?_) hl,?_⟩
  ·rcases cS.mp hr with hr | hr
   ·exact yR hr
   ·exact yQ hr
  ·have:=h.l
   unfold fI
   rw[iX,bY,bY,iX,lH,u7]
   show s.1.length+1+_<=n
   omega
theorem AR{m:Bool × Nat}(hm:m∈aq){w:Nat}{G:List (List Nat)}(h:RT (ae m) w G):∀k,xR (ae m) w G.length (jk m G k)
 | 0=>⟨(λr hr=>nomatch hr),h,Ce (CI _)⟩
 | k+1=>by rw[Ff];exact b05 hm (AR hm h k)
theorem b17(j:Nat)(l:List Nat):decide ((j:Int)∈l.map λ(n:Nat)=>(n:Int))=l.contains j:=by
 rw[rm,decide_eq_true_iff,CK,dA]
 exact⟨λ⟨a,h,e⟩=>(show a=j by omega) ▸ h,λh=>⟨j,h,rfl⟩⟩
theorem ce9{o:Bool}{G:List (List Nat)}{f:List Nat->Nat}{k:Nat}{d:D}(h:(fv (aA (G.map f)) (aQ o G))[k]?=some d):∃hk:k<G.length,d=.tup [.int ((f G[k]:Nat):Int),.lst o (aA G[k])]:=by
 unfold fv aQ at h
 rw[eJ,CL,cP,cP,cP]at h
 by_cases hk:k<G.length
 ·rw[aT hk]at h
  exact⟨hk,(cX h).symm⟩
 ·rw[jR (by omega)]at h;cases h
theorem Oj{α:Type}(a:α->Nat)(b:α->Nat):∀(l:List α) (x:List Nat),(l.foldl (λx z=>x.set (a z) (b z)) x).length=x.length
 | [],_=>rfl
 | z::l,x=>by rw[va,Oj a b l,oR]
end L3
namespace L2
open PySem PySem.Spec PyProof.Rows
theorem bI6{M:Model}{A:Around}{E:Value->Shared->Prop}{s:Shared}{scope:Scope}{globals:Addr}{cl:List (Str × Addr)}{qual:Str}{env:Env}{bi:Addr}{Q:Env->Shared->Prop}
  (hQ:Q (newEnv scope s.heap.objs.size globals (cellsFrom (s.heap.objs.size+1) scope.names cl) qual none .none (some env) bi) { s with heap:=pushCells (s.heap.push { cls:=.type "dict",data:=.dict #[] }) scope.names }) :
  wpAny M A (newFunctionEnv scope globals cl [] qual none .none (some env) bi) Q E s:=by
 simp only[newFunctionEnv,Option.isSome_some,if_true]
 refine wpAny_bind (wpAny_alloc (wpAny_bind (wpAny_layCells _ (λname kind cells=>by cases e:kind==CM<;>simp[e]) _ _ _ _ ?_)))
 rw[List.forIn_nil]
 refine wpAny_bind (wpAny_pure (wpAny_pure ?_))
 have z:({ s with heap:=s.heap.push { cls:=.type "dict",data:=.dict #[] } }:Shared).heap.objs.size=s.heap.objs.size+1:=u5 ..
 rw[z]
 exact hQ
theorem xS:∀(ns:List (Str × NameKind)) (n:Nat) (acc:List (Str × Addr)) (y:Str) (c:Addr),(cellsFrom n ns acc).lookup y=some c->(n<=c/\(y,CM)∈ns)\/acc.lookup y=some c
 | [],_,_,_,_,h=>.inr h
 | (z,k)::r,n,acc,y,c,h=>by
  unfold cellsFrom at h
  split at h
  ·rename_i hk
   rcases xS r (n+1) _ y c h with⟨h1,h2⟩ | h1
   ·exact .inl ⟨by omega,fM _ h2⟩
   ·rw[eY]at h1
    cases q:y==z with
    | true =>
     rw[q]at h1;cases h1
     exact .inl ⟨bG _,by rw[eq_of_beq q,eq_of_beq hk];exact kj⟩
    | false=>rw[q]at h1;exact .inr h1
  ·rcases xS r n acc y c h with⟨h1,h2⟩ | h1
   ·exact .inl ⟨h1,fM _ h2⟩
   ·exact .inr h1
theorem Fg:∀(ns:List (Str × NameKind)) (n:Nat) (acc:List (Str × Addr)),(∀y z c,acc.lookup y=some c->acc.lookup z=some c->y=z)->(∀y c,acc.lookup y=some c->c<n) ->
  ∀y z c,(cellsFrom n ns acc).lookup y=some c->(cellsFrom n ns acc).lookup z=some c->y=z
 | [],_,_,i,_,y,z,c,h1,h2=>i y z c h1 h2
 | (u,k)::r,n,acc,i,b,y,z,c,h1,h2=>by
  unfold cellsFrom at h1 h2
  split at h1
  ·rw[if_pos (by assumption)]at h2
   refine Fg r (n+1) ((u,n)::acc) (λy z c e1 e2=>?_) (λy c e=>?_) y z c h1 h2
   ·rw[eY]at e1 e2
    cases q1:y==u with
    | true =>
     rw[q1]at e1;cases e1
     cases q2:z==u with
     | true=>rw[eq_of_beq q1,eq_of_beq q2]
     | false=>rw[q2]at e2;exact absurd (b _ _ e2) (gh _)
    | false =>
     rw[q1]at e1
     cases q2:z==u with
     | true=>rw[q2]at e2;cases e2;exact absurd (b _ _ e1) (gh _)
     | false=>rw[q2]at e2;exact i y z c e1 e2
   ·rw[eY]at e
    cases q:y==u with
    | true=>rw[q]at e;cases e;exact Cf _
    | false=>rw[q]at e;exact Nat.lt_succ_of_lt (b _ _ e)
  ·rw[if_neg (by assumption)]at h2
   exact Fg r n acc i b y z c h1 h2
theorem Fh:∀(ns:List (Str × NameKind)) (n:Nat) (acc:List (Str × Addr)) (y:Str) (c:Addr),(y,CM)∈ns->(cellsFrom n ns acc).lookup y=some c->n<=c
 | [],_,_,_,_,m,_=>nomatch m
 | (z,k)::r,n,acc,y,c,m,h=>by
  unfold cellsFrom at h
  split at h
  ·rename_i hk
   rcases bR.mp m with e | m
   ·have e1:y=z:=(Prod.mk.inj e).1
    rcases xS r (n+1) _ y c h with⟨h1,_⟩ | h1
    ·exact yX h1
    ·rw[eY,e1,beq_self_eq_true]at h1
     exact Ce (cX h1)
   ·exact yX (Fh r (n+1) _ y c m h)
  ·rename_i hk
   rcases bR.mp m with e | m
   ·cases e;exact absurd rfl hk
   ·exact Fh r n acc y c m h
noncomputable def c9(X:Cx)(scope:Scope)(N:List Str)(cl:List (Str × Addr))(C:Addr)(s:Shared)(H:Hp)(fp:List Addr):Cx :=
 { zO X scope N (cellsFrom (C+1) scope.names cl) C s H fp with fn:=λy=>scope.names.contains (y,CM) }
section
variable{X:Cx}{scope:Scope}{cl:List (Str × Addr)}
theorem b74{pins:List (Addr × Obj)}{σ:St}{H:Hp}{s:Shared}{fp:List Addr}{C:Addr}(I:Inv X pins σ H s)(gv:scope.kind=.function)(hC:s.heap.objs.size<=C)
  (fY:∀y c,cl.lookup y=some c->X.env.cells.lookup y=some c) (cP4:∀y,((relabel scope X.env).names.lookup y=some .cell\/(relabel scope X.env).names.lookup y=some .free)->∃c,(cellsFrom (C+1) scope.names cl).lookup y=some c)
  (hf:∀b∈fp,iw X pins H b) (ho:∀b∈fp,∃o,s.heap.get? b=some o/\∀v,o.data≠.cell v) (N:List Str):(c9 X scope N cl C s H fp).Ok where
 mod:=I.ok.mod
 kind:=gv
 glob:=I.ok.glob
 blt:=I.ok.blt
 above:=hC
 inj:=Fg scope.names (C+1) cl (λy z c h1 h2=>I.ok.inj y z c (fY _ _ h1) (fY _ _ h2)) λy c e=>by
  obtain⟨v,o,ho,_⟩:=I.cell y c (fY y c e)
  exact Nat.lt_succ_of_le (yD (cq (bF ho) hC))
 has:=cP4
 mi:=λy c h e=>eO hC (yX (Fh _ _ _ y c (CK.mp h) e))
 hd:=I.ok.hd
 frames:=I.ok.frames
 o9:=.inl rfl
 pd:=λb hb=>⟨by
  obtain⟨o,e,_⟩:=ho b hb
  exact eA (cq (bF e) hC),λy c e z=>by
  rcases xS _ _ _ y c e with⟨h1,_⟩ | h1
  ·obtain⟨o,e,_⟩:=ho b hb
   rw[z]at h1
   exact absurd (cq (bF e) (eO hC (yX h1))) (gh _)
  ·exact(hf b hb).2.2.2.2.1 y c (fY _ _ h1) z⟩
 bs:=I.bs
 iq:=eO I.ok.iq I.sz
 nB:=λb o e hb=>by
  rcases(hf b hb).2.2.2.1 with z | z
  ·exact I.ok.nB b o e z
  ·exact absurd (cq (bF (I.ok.bs b o e).1) z) (gh _)
 nC:=λb hb z=>(bR.mp (I.vy b z)).elim (hf b hb).2.1 (hf b hb).2.2.1
 fj:=I.stack
 ir:=I.zh
end
theorem Fj:∀(ns:List (Str × NameKind)) (h:Heap) (acc:List (Str × Addr)) (y:Str) (c:Addr),(cellsFrom h.objs.size ns acc).lookup y=some c->(∃o,(pushCells h ns).get? c=some o/\o.data=.cell none)\/acc.lookup y=some c
 | [],_,_,_,_,e=>.inr e
 | (z,k)::r,h,acc,y,c,e=>by
  unfold cellsFrom at e
  unfold pushCells
  split at e
  ·rename_i hk
   rw[if_pos hk]
   rw[<-u5 h { cls:=.type "cell",data:=.cell none }]at e
   rcases Fj r _ _ y c e with h1 | h1
   ·exact .inl h1
   ·rw[eY]at h1
    cases q:y==z with
    | true =>
     rw[q]at h1;cases h1
     exact .inl ⟨_,pushCells_keeps _ _ _ _ (gU _ rfl),rfl⟩
    | false=>rw[q]at h1;exact .inr h1
  ·rename_i hk
   rw[if_neg hk]
   exact Fj r h acc y c e
end L2
namespace L2
open PySem PySem.Spec PyProof.Rows
section
variable{X:Cx}{elt iter tg:Expr}{pos:Pos}{ifs:List Expr}{scope:Scope}{cl:List (Str × Addr)}{wi:TI}{tt:TT}{te:TE}{g:TG}
theorem Ol(av:List (Str × Nat))(bB:List Str)(hc:X.calm=true)(hi:PI X tg iter wi)
  (hg:∀C s H fp,PG (c9 X scope (av.map (·.1)++bB) cl C s H fp) tg g)
  (ht:∀C s H fp,kH (c9 X scope (av.map (·.1)++bB) cl C s H fp) ifs tt) (he:∀C s H fp,PE (c9 X scope (av.map (·.1)++bB) cl C s H fp) elt te)
  (j9:closureFor scope X.env=pure cl) (ka:kI X cl) (kb:∀C:Addr,kJ (cellsFrom (C+1) scope.names cl) (relabel scope X.env).names) (ke:∀C:Addr,kG X scope (cellsFrom (C+1) scope.names cl) av)
  (gv:scope.kind=.function) (kg:∀y∈scope.names,y.2=.local->scope.names.lookup y.1=some .local)
  (hs:∀x,foldedSetIterable iter X.env x=pure x:=by intro _;rfl) {pins:List (Addr × Obj)} {s:Shared} {σ:L2.St} {H:Hp} {Q:VK} {use:Option (Value->Sem Unit)} {bK:Pos} {Rf:Value->Shared->Prop} (I:Inv X pins σ H s) (h:zP wi av bB.length g tt te σ H Q)
  (cP5:∀(s':Shared) (H':Hp) (C Da:Addr) (m:Str->Option Value),Inv X pins σ H' s'->s'.heap.Ns C m->H' C=none->C≠X.env.locals->X.b8.heap.objs.size<=C->(∀x c,X.env.cells.lookup x=some c->c≠C)->(∀p∈X.pn++pins,p.1≠C)->C ∉ X.fs->Q (.ref Da) H' ->
   compPost (model X.prog X.w) X.A X.xe use Rf (.ref Da) C (.ok .next) s') :
  wpAny (model X.prog X.w) X.A (comprehension (.ListComp elt [⟨tg,iter,ifs,0⟩] scope pos) scope X.env bK (newList []) false (eval iter X.env) use) Rf X.xe s:=by
 have fY:=ka.all
 refine wpAny_comprehension_free (use:=use) rfl hs j9 gv kg (aM (hi pins s σ H _ I h) λv s1 h1=>aM h1 λC8 s2 h2=>?_)
 obtain⟨it,fp,tn,J,H2,e,I2,T,nG,f2,q⟩:=h2
 subst e
 refine wpAny_newList ?_
 refine bI6 ?_
 have hD:H2 s2.heap.objs.size=none:=I2.az.fresh (bG _)
 obtain⟨W,⟨m0,w0⟩,turn⟩:=q s2.heap.objs.size hD
 generalize Fl:s2.heap.push { cls:=.type "list",data:=.seq ([]:List Value).toArray }=g0 at ⊢
 have hCs:g0.objs.size=s2.heap.objs.size+1:=by rw[<-Fl,u5]
 have hDC:s2.heap.objs.size≠g0.objs.size:=by omega
 have hle:s2.heap.objs.size<=g0.objs.size:=by omega
 have rA:∀b o,s2.heap.get? b=some o->b≠g0.objs.size:=λb o e=>eA (cq (bF e) hle)
 obtain⟨g1,AS⟩:∃g1,g1=pushCells (g0.push { cls:=.type "dict",data:=.dict #[] }) scope.names:=⟨_,rfl⟩
 have ns1:g1.Ns g0.objs.size (λ_=>none):=by rw[AS];exact(Heap.Ns.new g0 (.type "dict")).keeps (pushCells_keeps _ _)
 have Om:∀b o,g0.get? b=some o->g1.get? b=some o:=λb o e=>by rw[AS];exact pushCells_keeps _ _ b o (eG _ e)
 have old:∀b o,s2.heap.get? b=some o->g1.get? b=some o:=λb o e=>Om b o (Fl ▸ eG _ e)
 rw[<-AS]
 have hDg:g1.get? s2.heap.objs.size=some { cls:=.type "list",data:=.seq ([]:List Value).toArray }:=Om _ _ (Fl ▸ gU _ rfl)
 have Oo:∀b∈fp,∃o,s2.heap.get? b=some o/\∀v,o.data≠.cell v:=T.obj _ _ nG
 have AU:=b74 (scope:=scope) (cl:=cl) (C:=g0.objs.size) I2 gv hle fY (kb g0.objs.size).all f2 Oo (av.map (·.1)++bB)
 have I4:Inv (c9 X scope (av.map (·.1)++bB) cl g0.objs.size s2 H2 fp) [] (gz av bB.length σ) (upd H2 s2.heap.objs.size (.lst [])) { s2 with heap:=g1 }:=by
  refine⟨AU,rfl,I2.bare,Un.laid old (bG _) hD,⟨_,ns1,λi y v h1 h2 h3=>?_⟩,λy c e=>?_,?_,λy c e=>?_,λp hp=>absurd hp (by simp[c9,zO]),I2.az.laid old (bG _) ⟨nr _,[],0,.nil,hDg⟩,by simp[gz,c9,zO]⟩
  ·by_cases Fo:i<av.length
   case neg =>
    have gZ:((av.map λp=>(σ[p.2]?).getD none)++aX bB.length none)[i]?=some (some v):=h2
    rw[yI (by simpa using Fo),u6]at gZ
    split at gZ<;>cases gZ
   case pos =>
    have iD:(av.map (·.1))[i]?=some y:=by
     have z:(av.map (·.1)++bB)[i]?=some y:=h1
     rwa [Ci (by simpa using Fo)]at z
    have gZ:(av.map λp=>(σ[p.2]?).getD none)[i]?=some (some v):=by
     have z:((av.map λp=>(σ[p.2]?).getD none)++aX bB.length none)[i]?=some (some v):=h2
     rwa [Ci (by simpa using Fo)]at z
    rw[cP]at iD gZ
    cases hj:av[i]? with
    | none=>rw[hj]at iD;cases iD
    | some p =>
     rw[hj]at iD gZ
     have ey:p.1=y:=cX iD
     have ev:(σ[p.2]?).getD none=some v:=cX gZ
     obtain⟨hN,hk,Oq,c,e1,e2⟩:=(ke g0.objs.size).at p (q9 hj)
     obtain⟨m,hn,hl⟩:=I2.loc
     have es:σ[p.2]?=some (some v):=by
      cases z:σ[p.2]? with
      | none=>rw[z]at ev;cases ev
      | some o=>rw[z]at ev;exact congrArg some ev
     obtain⟨u,ru,lk⟩:=hl p.2 p.1 v hN es (hk.elim (λz=>.inr (.inl z)) λz=>.inr (.inr z))
     refine⟨u,ru,?_⟩
     rcases lk with⟨lk,_⟩ | ⟨_,c',e3,ic⟩
     ·rcases hk with hk | hk
      ·have:=hk.symm.trans lk;cases this
      ·have:=hk.symm.trans lk;cases this
     ·rw[e2]at e3
      cases e3
      subst ey
      obtain⟨oc,iu,EI⟩:=ic
      exact .inr ⟨Oq,c,e1,oc,old _ _ iu,EI⟩
  ·rcases Fj _ _ _ y c (show(cellsFrom (g0.push { cls:=.type "dict",data:=.dict #[] }).objs.size scope.names cl).lookup y=some c by rw[u5];exact e)with h1 | h1
   ·rw[<-AS]at h1
    exact⟨none,h1⟩
   ·obtain⟨v,o,ho,hd⟩:=I2.cell y c (fY y c h1)
    exact⟨v,o,old _ _ ho,hd⟩
  ·show upd H2 _ _ g0.objs.size=none
   rw[aO (dU hDC)]
   exact I2.az.fresh hle
  ·rcases xS _ _ _ y c e with⟨h1,_⟩ | h1
   ·rw[aO (Jv (lQ hle h1))]
    exact I2.az.fresh (eO hle (yX h1))
   ·obtain⟨v,o,ho,hd⟩:=I2.cell y c (fY y c h1)
    rw[aO (eA (bF ho))]
    exact I2.eZ y c (fY y c h1)
 have fin:∀(s':Shared) (H':Hp) (aw:L2.St),Inv (c9 X scope (av.map (·.1)++bB) cl g0.objs.size s2 H2 fp) [] aw H' s'->Q (.ref s2.heap.objs.size) H' ->
   compPost (model X.prog X.w) X.A X.xe use Rf (.ref s2.heap.objs.size) g0.objs.size (.ok .next) s':=by
  intro s' H' aw I' q'
  obtain⟨m,hn,_⟩:=I'.loc
  have u:=I'.base
  have hC':H' g0.objs.size=none:=I'.free
  have IX:Inv X pins σ H' s':=I2.J7 (s':=s') (ch:=fp) I'.os ⟨u.keep,u.slot,u.free,u.there,u.gW,u.gk,u.fA⟩ I'.az I'.bare λb hb=>by
   obtain⟨_,y1,y2,y3,y4,y5⟩:=f2 b hb
   exact⟨y3,y1,y4,y5⟩
  have Ot:∀b,(∃o,s2.heap.get? b=some o)->b≠g0.objs.size:=λb ⟨o,e⟩=>rA b o e
  refine cP5 s' H' g0.objs.size s2.heap.objs.size m IX hn hC' (λz=>?_) (eO I2.sz hle) (λx c e z=>?_) (λp hp z=>?_) (λz=>?_) q'
  ·have h0:X.env.locals<s2.heap.objs.size:=I2.lt
   rw[<-z]at h0
   exact gh _ (cq h0 hle)
  ·obtain⟨v,o,ho,_⟩:=I2.cell x c e
   exact Ot c ⟨o,ho⟩ z
  ·exact Ot p.1 ⟨_,(I2.pin p hp).1⟩ z
  ·exact I2.J1 hle z
 have Fp:∀(H':Hp),(∀b∈fp,H' b=none)->∀b∈fp,iw (c9 X scope (av.map (·.1)++bB) cl g0.objs.size s2 H2 fp) [] H' b:=λH' hn b hb =>
  ⟨hn b hb,(AU.pd b hb).1,AU.nC b hb,.inl hb,(AU.pd b hb).2,λp hp=>absurd hp (by simp[c9,zO])⟩
 have loop:codeAny (model X.prog X.w) X.A (.compLoop (.ListComp elt [⟨tg,iter,ifs,0⟩] scope pos) 0 (.ref it) (.ref s2.heap.objs.size) (compEnvC scope (cellsFrom (g0.objs.size+1) scope.names cl) g0.objs.size X.env))
   (compPost (model X.prog X.w) X.A X.xe use Rf (.ref s2.heap.objs.size) g0.objs.size) { s2 with heap:=g1 }:=by
  refine Xv (λn s'=>∃i acc H',Inv (c9 X scope (av.map (·.1)++bB) cl g0.objs.size s2 H2 fp) [] (gz av bB.length σ) H' s'/\tn i s'.heap/\(∀b∈fp,H' b=none)/\W i n acc H') ?_ m0
   ⟨0,[],_,I4,T.keep _ _ _ nG λb hb o e=>old b o e,λb hb=>?_,w0⟩
  ·rintro n s' ⟨i,acc,H',I',nF,uh,w'⟩
   obtain⟨wo,⟨stop,qn⟩ | ⟨go,step⟩⟩:=turn i n acc H' w'
   ·refine aM (T.done (c9 X scope (av.map (·.1)++bB) cl g0.objs.size s2 H2 fp) rfl rfl rfl hc i [] s' _ H' (λ_ _=>False) I' (Fp H' uh) nF stop) λr t1 zz=>?_
    obtain⟨hr,I1⟩:=zz
    subst hr
    exact fin _ _ _ I1 qn
   ·refine aM (T.item (c9 X scope (av.map (·.1)++bB) cl g0.objs.size s2 H2 fp) rfl rfl rfl hc i [] s' _ H' (λ_ _=>False) I' (Fp H' uh) nF go) λr t1 zz=>?_
    obtain⟨u,hr,h4⟩:=zz
    subst hr
    refine aM h4 λ_ t2 zz=>?_
    obtain⟨x5,H5,I5,r5,y5,pk,vK⟩:=zz
    obtain⟨zX,st6⟩:=step x5 H5 y5
    have Df:=I5.pinned (Fp H5 vK) (T.obj _ _ pk)
    refine aM (hg _ _ _ _ _ t2 _ H5 x5 u _ Df r5 st6) λ_ t3 zz=>?_
    obtain⟨zC,H6,I6,⟨cQ1,cQ2⟩,st7⟩:=zz
    have back:∀(s7:Shared) (H7:Hp) (Fq:List V) (m7:Nat),Inv (c9 X scope (av.map (·.1)++bB) cl g0.objs.size s2 H2 fp) ([]++vH fp t2.heap) zC H7 s7->W (i+1) m7 Fq H7 ->
      ∃i acc H',Inv (c9 X scope (av.map (·.1)++bB) cl g0.objs.size s2 H2 fp) [] (gz av bB.length σ) H' s7/\tn i s7.heap/\(∀b∈fp,H' b=none)/\W i m7 acc H':=λs7 H7 Fq m7 I7 w7 =>
     ⟨i+1,Fq,H7,(I7.vI).weak cQ1.symm λj v z=>by
       by_cases hj:j<av.length
       ·rw[cQ2 j hj];exact z
       ·have z':((av.map λp=>(σ[p.2]?).getD none)++aX bB.length none)[j]?=some (some v):=z
        rw[yI (by simpa using hj),u6]at z'
        split at z'<;>(cases z'),
      T.keep _ _ _ pk λb hb o e=>(I7.pin (b,o) (dM _ (dM _ (zB hb e)))).1,λb hb=>by
       obtain⟨o,e,d⟩:=T.obj _ _ pk b hb
       exact(I7.pin (b,o) (dM _ (dM _ (zB hb e)))).2.1,w7⟩
    refine aM (ht _ _ _ _ _ t3 _ H6 _ I6 st7) λok t4 zz=>?_
    obtain⟨H7,I7,hD7,q7⟩:=zz
    cases ok with
    | false =>
     obtain⟨m',hm,w7⟩:=(show ∃m',m'<n/\W (i+1) m' acc H7 from q7)
     exact⟨m',hm,back t4 H7 acc m' I7 w7⟩
    | true =>
     refine aM (he _ _ _ _ _ t4 _ H7 _ I7 q7) λy t5 zz=>?_
     obtain⟨v8,H8,I8,r8,hD8,hl8,m',hm,w8⟩:=zz
     exact aM (KP _ t5 _ H8 (.ref s2.heap.objs.size) [v8] (.ref s2.heap.objs.size) [y] (λ_ H9=>H9=upd H8 s2.heap.objs.size (.lst (acc++[v8]))) I8 rfl (.cons r8 .nil) ⟨_,acc,v8,rfl,rfl,hD8,hl8,rfl⟩) λ_ t6 zz=>by
      obtain⟨_,H9,I9,_,e9⟩:=zz
      subst e9
      exact⟨m',hm,back t6 _ _ m' I9 w8⟩
  ·obtain⟨o,e,_⟩:=Oo b hb
   rw[aO (eA (bF e))]
   exact(f2 b hb).1
 exact codeAny_compStart_list loop (T.self _ 0 _ _ _ (T.keep _ _ _ nG λb hb o e=>old b o e) loop)
theorem bZ8(av:List (Str × Nat))(bB:List Str)(hc:X.calm=true)(hi:PI X tg iter wi)
  (hg:∀C s H fp,PG (c9 X scope (av.map (·.1)++bB) cl C s H fp) tg g)
  (ht:∀C s H fp,kH (c9 X scope (av.map (·.1)++bB) cl C s H fp) ifs tt) (he:∀C s H fp,PE (c9 X scope (av.map (·.1)++bB) cl C s H fp) elt te)
  (j9:closureFor scope X.env=pure cl) (ka:kI X cl) (kb:∀C:Addr,kJ (cellsFrom (C+1) scope.names cl) (relabel scope X.env).names) (ke:∀C:Addr,kG X scope (cellsFrom (C+1) scope.names cl) av)
  (gv:scope.kind=.function) (kg:∀y∈scope.names,y.2=.local->scope.names.lookup y.1=some .local)
  (hs:∀x,foldedSetIterable iter X.env x=pure x:=by intro _;rfl):PE X (.ListComp elt [⟨tg,iter,ifs,0⟩] scope pos) (zP wi av bB.length g tt te):=by
 intro pins s σ H Q I h
 rw[eval_ListComp]
 refine Ol av bB hc hi hg ht he j9 ka kb ke gv kg hs I h λs' H' C Da m IX hn hC hL h1 h2 h3 h4 q'=>?_
 exact⟨m,hn,λh' sb=>⟨.ref Da,H',IX.turned (t':=s'.toks) (λb o hb e=>sb.extBut b o hb e) hC hL (.inr h1) h2 h3,rfl,q'⟩⟩
theorem Ou{i:Nat}{x:Str}{pos' apos:Pos}(hN:X.N.Nodup)(kW:X.N[i]?=some x)(hx:Loc X.env.scope x)(hf:X.fn x=true\/X.env.scope.names.lookup x=some .local)(av:List (Str × Nat))(bB:List Str)(hc:X.calm=true)(hi:PI X tg iter wi)
  (hg:∀C s H fp,PG (c9 X scope (av.map (·.1)++bB) cl C s H fp) tg g)
  (ht:∀C s H fp,kH (c9 X scope (av.map (·.1)++bB) cl C s H fp) ifs tt) (he:∀C s H fp,PE (c9 X scope (av.map (·.1)++bB) cl C s H fp) elt te)
  (j9:closureFor scope X.env=pure cl) (ka:kI X cl) (kb:∀C:Addr,kJ (cellsFrom (C+1) scope.names cl) (relabel scope X.env).names) (ke:∀C:Addr,kG X scope (cellsFrom (C+1) scope.names cl) av)
  (gv:scope.kind=.function) (kg:∀y∈scope.names,y.2=.local->scope.names.lookup y.1=some .local)
  (qo:swapsWith (.ListComp elt [⟨tg,iter,ifs,0⟩] scope pos) (some (.Name x pos')) apos.line X.env=pure true) (hs:∀x,foldedSetIterable iter X.env x=pure x:=by intro _;rfl):PS X (.Assign [.Name x pos'] (.ListComp elt [⟨tg,iter,ifs,0⟩] scope pos) apos) (C6 (zP wi av bB.length g tt te) (zx i)):=by
 intro pins s σ H D I h
 rw[exec_Assign_Name_used x pos' _ apos qo]
 refine wpAny_bind (wpAny_standAt (wpAny_bind ?_))
 have hh:zP wi av bB.length g tt te σ H λv H1=>D.nx (σ.set i (some v)) H1:=h
 show wpAny _ _ (comprehension (.ListComp elt [⟨tg,iter,ifs,0⟩] scope pos) scope X.env (firstIterPos [⟨tg,iter,ifs,0⟩] pos) (newList []) false (eval iter X.env) (some (assign (.Name x pos') X.env)) >>= λ_=>pure ()) _ _ _
 refine wpAny_bind (Ol (use:=some (assign (.Name x pos') X.env)) (pos:=pos) av bB hc hi hg ht he j9 ka kb ke gv kg hs I hh λs' H' C Da m IX hn hC hL h1 h2 h3 h4 q'=>?_)
 obtain⟨oC,es,ep,hoC,Ov,rest⟩:=id hn
 have IP:Inv X (pins++[(C,oC)]) σ H' s':=⟨IX.ok,IX.os,IX.bare,IX.base,IX.loc,IX.cell,IX.free,IX.eZ,λp hp=>by
  rcases cS.mp hp with z | z
  ·exact IX.pin p (eB _ z)
  ·rcases cS.mp z with z | z
   ·exact IX.pin p (dM _ z)
   ·obtain rfl:=jP.mp z
    exact⟨hoC,hC,hL,h4,λv w=>by rw[Ov]at w;cases w⟩,IX.az,IX.len⟩
 refine aM (zy (X:=X) hN kW hx hf _ s' σ H' (.ref Da) (.ref Da) (λi4 H2=>i4=σ.set i (some (.ref Da))/\H2=H') IP rfl ⟨rfl,rfl⟩) λ_ s2 zz=>?_
 obtain⟨i4,H2,I2,e1,e2⟩:=zz
 subst e1 e2
 have pC:=I2.pin (C,oC) (dM _ (dM _ (by simp)))
 refine⟨m,⟨oC,es,ep,pC.1,Ov,rest⟩,λh' sb=>wpAny_pure (wpAny_pure ?_)⟩
 exact⟨σ.set i (some (.ref Da)),H2,(I2.vI).turned (t':=s2.toks) (λb o hb e=>sb.extBut b o hb e) hC hL (.inr h1) h2 h3,q'⟩
end
end L2
namespace L3
open PySem L2 PySem.Spec PyProof.Rows
section
variable{X:Cx}{elt iter tg:Expr}{pos:Pos}{ifs:List Expr}{scope:Scope}{cl:List (Str × Addr)}{ti:iJ}{tt:eU}{te:aI}{g:gC}
theorem gM(av:List (Str × Nat))(bB:List Str)(hc:X.calm=true)(hi:PI X tg iter (lI ti))
  (hg:∀C s H fp,PG (c9 X scope (av.map (·.1)++bB) cl C s H fp) tg (lG av.length g))
  (ht:∀C s H fp,kH (c9 X scope (av.map (·.1)++bB) cl C s H fp) ifs (lT tt)) (he:∀C s H fp,PE (c9 X scope (av.map (·.1)++bB) cl C s H fp) elt (lE te))
  (j9:closureFor scope X.env=pure cl) (ka:kI X cl:=by repeat' (first | exact trivial | refine⟨rfl,?_⟩)) (kb:∀C:Addr,kJ (cellsFrom (C+1) scope.names cl) (relabel scope X.env).names:=by intro _;repeat' (first | exact trivial | refine⟨.inl rfl,?_⟩ | refine⟨.inr (.inl rfl),?_⟩ | refine⟨.inr (.inr ⟨_,rfl⟩),?_⟩)) (ke:∀C:Addr,kG X scope (cellsFrom (C+1) scope.names cl) av:=by intro _;repeat' (first | exact trivial | refine⟨⟨rfl,.inl rfl,.inl rfl,_,rfl,rfl⟩,?_⟩))
  (gv:scope.kind=.function:=by rfl) (kg:∀y∈scope.names,y.2=.local->scope.names.lookup y.1=some .local:=by decide +kernel)
  (hs:∀x,foldedSetIterable iter X.env x=pure x:=by intro _;rfl):PE X (.ListComp elt [⟨tg,iter,ifs,0⟩] scope pos) (lE (nS ti av bB.length g tt te)) :=
 cN (bZ8 av bB hc hi hg ht he j9 ka kb ke gv kg hs) λσ H Q zq=>by
 obtain⟨B,F,δ,ts,Qd,c,q,k⟩:=zq
 exact⟨B,F,δ,ts,_,c,q,λsh xs ah J F1 H1 hq f1 h1 c1 mI qa=>by
  obtain⟨p,f,hx,dE,hlen,hQ⟩:=hq
  exact DZ c1 mI qa p f hx dE hlen hQ λd ag v F' H' hd hf hs c'=>k d ag v F' H' hd (f1.trans hf) (h1.trans hs) c'⟩
theorem cm3{i:Nat}{x:Str}{pos' apos:Pos}(hN:X.N.Nodup)(kW:X.N[i]?=some x)(hx:L2.Loc X.env.scope x)(av:List (Str × Nat))(bB:List Str)(hc:X.calm=true)(hi:PI X tg iter (lI ti))
  (hg:∀C s H fp,PG (c9 X scope (av.map (·.1)++bB) cl C s H fp) tg (lG av.length g))
  (ht:∀C s H fp,kH (c9 X scope (av.map (·.1)++bB) cl C s H fp) ifs (lT tt)) (he:∀C s H fp,PE (c9 X scope (av.map (·.1)++bB) cl C s H fp) elt (lE te))
  (j9:closureFor scope X.env=pure cl) (ka:kI X cl:=by repeat' (first | exact trivial | refine⟨rfl,?_⟩)) (kb:∀C:Addr,kJ (cellsFrom (C+1) scope.names cl) (relabel scope X.env).names:=by intro _;repeat' (first | exact trivial | refine⟨.inl rfl,?_⟩ | refine⟨.inr (.inl rfl),?_⟩ | refine⟨.inr (.inr ⟨_,rfl⟩),?_⟩)) (ke:∀C:Addr,kG X scope (cellsFrom (C+1) scope.names cl) av:=by intro _;repeat' (first | exact trivial | refine⟨⟨rfl,.inl rfl,.inl rfl,_,rfl,rfl⟩,?_⟩))
  (gv:scope.kind=.function:=by rfl) (kg:∀y∈scope.names,y.2=.local->scope.names.lookup y.1=some .local:=by decide +kernel)
  (qo:swapsWith (.ListComp elt [⟨tg,iter,ifs,0⟩] scope pos) (some (.Name x pos')) apos.line X.env=pure true:=by rfl) (hf:X.fn x=true\/X.env.scope.names.lookup x=some .local:=by first | exact .inl rfl | exact .inr rfl)
  (hs:∀x,foldedSetIterable iter X.env x=pure x:=by intro _;rfl):PS X (.Assign [.Name x pos'] (.ListComp elt [⟨tg,iter,ifs,0⟩] scope pos) apos) (lS X (p8 i (nS ti av bB.length g tt te))) :=
 kN (Ou hN kW hx hf av bB hc hi hg ht he j9 ka kb ke gv kg qo hs) λEn σ H zq=>by
 obtain⟨B,F,δ,Dd,c,q,k1,k2,k3,k4⟩:=zq
 exact⟨B,F,δ,[],_,c,q,λsh xs ah J F1 H1 hq f1 h1 c1 mI qa=>by
  obtain⟨p,f,hx,dE,hlen,hQ⟩:=hq
  exact DZ (Qd:=λd ag=>Dd.nx (ag.set i (some d))) c1 mI qa p f hx dE hlen hQ λd ag v F' H' hd hf hs c'=>k1 _ _ F' H' hd (c'.store i)⟩
end
end L3
namespace L3
open PySem L2 Mf
theorem lo1{m:Bool × Nat}(hm:m∈aq):1<ae m:=by have:=(bZ hm).lo;omega
inductive Sp(N:Nat)(p q:Nat->Nat->Nat)(S:(Nat->Nat)->Prop):(Nat->Nat)->Prop
 | mem {f:Nat->Nat}:S f->Sp N p q S f
 | zero:Sp N p q S λ_=>0
 | add {f g:Nat->Nat}:Sp N p q S f->Sp N p q S g->Sp N p q S λk=>p (f k) (g k)
 | mul {f:Nat->Nat} (c:Nat):c<N->Sp N p q S f->Sp N p q S λk=>q c (f k)
theorem Sp.trans{N:Nat}{p q:Nat->Nat->Nat}{S S':(Nat->Nat)->Prop}(h:∀f,S f->Sp N p q S' f){f:Nat->Nat}(s:Sp N p q S f):Sp N p q S' f:=by
 induction s with
 | mem a=>exact h _ a
 | zero=>exact .zero
 | add _ _ a b=>exact .add a b
 | mul c hc _ a=>exact .mul c hc a
noncomputable def Gn(T:List (List Nat))(f:Nat->Nat):Prop:=∃r∈T,f=cf r
noncomputable def cR(m:Bool × Nat)(T:List (List Nat))(f:Nat->Nat):Prop:=Sp (ae m) (gp m) (gm m) (Gn T) f
theorem cR.of{m:Bool × Nat}{T:List (List Nat)}{r:List Nat}(h:r∈T):cR m T (cf r):=.mem ⟨r,h,rfl⟩
theorem bZ9{m:Bool × Nat}(hm:m∈aq){a:Nat}(ha:a<ae m){f f' l:Nat->Nat}(Fs:∀k,f' k<ae m)(hl:∀k,l k<ae m)(h:∀k,gp m (f' k) (gm m a (l k))=f k):∃b,b<ae m/\f'=λk=>gp m (f k) (gm m b (l k)):=by
 have r:=rg hm
 obtain⟨b,hb,e⟩:=r.ng ha
 refine⟨b,hb,funext λk=>?_⟩
 rw[<-h k,r.pa,r.mc a,r.mc b,<- r.dl,e,r.qz,r.z' (Fs k)]
theorem Ft{m:Bool × Nat}(hm:m∈aq){r l:List Nat}{w:Nat}(hr:r.length=w)(hl:l.length=w)(a k:Nat):cf (gi (λx y=>bC m x (gm m a y)) r l) k=bC m (cf r k) (gm m a (cf l k)):=by
 by_cases h:k<w
 ·unfold cf
  rw[aU,CL,aT (by omega),aT (by omega),aU,aT (by omega),aU,aT (by omega)]
  rfl
 ·rw[ly (by rw[CJ];omega),ly (l:=r) (by omega),ly (l:=l) (by omega),hW m _ (bO m hm),xN]
theorem Fu{m:Bool × Nat}(hm:m∈aq){r l:List Nat}{w a:Nat}(hr:r.length=w)(hl:l.length=w)(ar:AllLt (ae m) r)(k:Nat):gp m (cf (gi (λx y=>bC m x (gm m a y)) r l) k) (gm m a (cf l k))=cf r k:=by
 rw[Ft hm hr hl]
 exact(ji hm (et hm ar k) (dq hm _ _)).2.2
theorem Ow{m:Bool × Nat}(hm:m∈aq){r l:List Nat}{w:Nat}(hr:r.length=w)(hl:l.length=w)(ar:AllLt (ae m) r)(a k:Nat):cf (gi (λx y=>bC m x (gm m a y)) r l) k<ae m:=by
 rw[Ft hm hr hl]
 exact(ji hm (et hm ar k) (dq hm _ _)).2.1
theorem Ox{m:Bool × Nat}(hm:m∈aq){w p i:Nat}{T:List (List Nat)}(hT:RT (ae m) w T)(e:jj T p=some i):∃(g:List Nat) (c:Nat),g∈T/\T.getD i []=g/\g.length=w/\AllLt (ae m) g/\c<ae m/\gm m c (cf g p)=1/\(dw m T i p).length=w/\AllLt (ae m) (dw m T i p)/\(∀k,cf (dw m T i p) k=gm m c (cf g k))/\cf (dw m T i p) p=1/\∀k,gm m (cf g p) (cf (dw m T i p) k)=cf g k:=by
 obtain⟨hi,h1,h2⟩:=AQ e
 obtain⟨a,b⟩:=hT _ (fh hi)
 have l1:1<ae m:=lo1 hm
 obtain⟨c,hc,AV⟩:=cI7 hm l1 (et hm b p) h1
 have ec:xQ m (cf T[i] p)=c:=Oh hm hc AV
 have el:dw m T i p=T[i].map (gm m c):=by unfold dw;rw[h2,<- ec];rfl
 have ek:∀k,cf (dw m T i p) k=gm m c (cf T[i] k):=λk=>by rw[el];exact cu3 hm _ _ _
 refine⟨T[i],c,fh hi,h2,a,b,hc,AV,by rw[el,bY,a],λx hx=>?_,ek,by rw[ek];exact AV,λk=>?_⟩
 ·rw[el]at hx
  obtain⟨y,_,rfl⟩:=dA.mp hx
  exact dq hm _ _
 ·rw[ek,<- fG (bO m hm),fZ m _ c,AV,qE (et hm b k)]
theorem Oy{m:Bool × Nat}{s:List (List Nat) × List (List Nat)}{p i:Nat}(e:jj s.2 p=some i):gL m s p=(fI m s.1 (dw m s.2 i p) p++[dw m s.2 i p],fI m (s.2.take i++s.2.drop (i+1)) (dw m s.2 i p) p):=by unfold gL;rw[e]
theorem Oz{m:Bool × Nat}{s:List (List Nat) × List (List Nat)}{p:Nat}(e:jj s.2 p=none):gL m s p=s:=by unfold gL;rw[e]
theorem AW{α:Type}{T:List α}{i:Nat}{r:α}(h:r∈T.take i++T.drop (i+1)):r∈T:=(cS.mp h).elim yR yQ
theorem b30{α:Type}{T:List α}{i:Nat}{r:α}(h:r∈T)(hi:i<T.length):r=T[i]\/r∈T.take i++T.drop (i+1):=by
 obtain⟨j,hj,rfl⟩:=kq h
 rcases Nat.lt_trichotomy j i with h | h | h
 ·exact .inr (cS.mpr (.inl (List.mem_take_iff_getElem.mpr ⟨j,by omega,rfl⟩)))
 ·subst h;exact .inl rfl
 ·exact .inr (cS.mpr (.inr (List.mem_drop_iff_getElem.mpr ⟨j-(i+1),by omega,by congr 1;omega⟩)))
theorem bG9{m:Bool × Nat}(hm:m∈aq){w n p:Nat}{s:List (List Nat) × List (List Nat)}(h:xR (ae m) w n s)(f:Nat->Nat):cR m (s.1++s.2) f↔cR m ((gL m s p).1++(gL m s p).2) f:=by
 cases e:jj s.2 p with
 | none=>rw[Oz e]
 | some i =>
  obtain⟨g,c,g1,g2,g3,g4,c1,c2,l1,l2,l3,l4,l5⟩:=Ox hm h.b e
  obtain⟨hi,_,hg⟩:=AQ e
  rw[Oy e]
  generalize dw m s.2 i p=l at l1 l2 l3 l4 l5
  have ll:=et hm l2
  have row:∀{T:List (List Nat)},RT (ae m) w T->∀r'∈fI m T l p,∃r∈T,∃b,b<ae m/\cf r'=λk=>gp m (cf r k) (gm m b (cf l k)):=λ{T} hT r' bU=>by
   obtain⟨r,hr,rfl⟩:=dA.mp bU
   obtain⟨a1,a2⟩:=hT r hr
   exact⟨r,hr,bZ9 hm (et hm a2 p) (Ow hm a1 l1 a2 _) ll (Fu hm a1 l1 a2)⟩
  have OA:∀{T:List (List Nat)},RT (ae m) w T->∀r∈T,∃r'∈fI m T l p,cf r=λk=>gp m (cf r' k) (gm m (cf r p) (cf l k)):=λ{T} hT r hr=>by
   obtain⟨a1,a2⟩:=hT r hr
   exact⟨_,dA.mpr ⟨r,hr,rfl⟩,funext λk=>(Fu hm a1 l1 a2 k).symm⟩
  have hB:RT (ae m) w (s.2.take i++s.2.drop (i+1)):=λr hr=>h.b r (AW hr)
  constructor
  ·refine Sp.trans ?_
   rintro f ⟨r,hr,rfl⟩
   have hl:cR m ((fI m s.1 l p++[l])++fI m (s.2.take i++s.2.drop (i+1)) l p) (cf l):=cR.of (by simp)
   rcases cS.mp hr with hr | hr
   ·obtain⟨r',h1,h2⟩:=OA h.a r hr
    rw[h2]
    exact .add (cR.of (by simp[h1])) (.mul _ (et hm (h.a r hr).2 p) hl)
   ·rcases b30 hr hi with e' | bU
    ·have:cf r=λk=>gm m (cf g p) (cf l k):=funext λk=>by rw[l5 k,e',<- hg,g2]
     rw[this]
     exact .mul _ (et hm g4 p) hl
    ·obtain⟨r',h1,h2⟩:=OA hB r bU
     rw[h2]
     exact .add (cR.of (by simp[h1])) (.mul _ (et hm (h.b r hr).2 p) hl)
  ·refine Sp.trans ?_
   rintro f ⟨r,hr,rfl⟩
   have hl:cR m (s.1++s.2) (cf l):=by
    have:cf l=λk=>gm m c (cf g k):=funext l3
    rw[this]
    exact .mul _ c1 (cR.of (dM _ g1))
   rcases cS.mp hr with hr | hr
   ·rcases cS.mp hr with hr | hr
    ·obtain⟨r1,h1,b,hb,h2⟩:=row h.a r hr
     rw[h2]
     exact .add (cR.of (eB _ h1)) (.mul _ hb hl)
    ·rw[jP]at hr
     rw[hr];exact hl
   ·obtain⟨r1,h1,b,hb,h2⟩:=row hB r hr
    rw[h2]
    exact .add (cR.of (dM _ (AW h1))) (.mul _ hb hl)
structure RR(w:Nat)(R:List (List Nat))(H:Nat->Nat):Prop where
 u:∀i j,i<R.length->j<R.length->cf (R.getD i []) (H j)=if i=j then 1 else 0
 z:∀i,i<R.length->∀t,t<H i->cf (R.getD i []) t=0
 i:∀i j,i<j->j<R.length->H i<H j
 l:∀i,i<R.length->H i<w
theorem OB{α β:Type}(f:α->β){l:List α}{i:Nat}(h:i<l.length)(a:α)(b:β):(l.map f).getD i b=f (l.getD i a):=by
 rw[aU,cP,aU,aT h];rfl
theorem jl{α:Type}{l:List α}{i:Nat}(h:i<l.length)(a:α):l.getD i a∈l:=by
 rw[aU,aT h];exact fh h
theorem bC5{m:Bool × Nat}(hm:m∈aq){w n p:Nat}{s:List (List Nat) × List (List Nat)}(h:xR (ae m) w n s){H:Nat->Nat}(I:RR p s.1 H)(e2:∀r∈s.2,∀t,t<p->cf r t=0):∃H',RR (p+1) (gL m s p).1 H'/\∀r∈(gL m s p).2,∀t,t<p+1->cf r t=0:=by
 cases e:jj s.2 p with
 | none =>
  rw[Oz e]
  refine⟨H,⟨I.u,I.z,I.i,λi hi=>Nat.lt_succ_of_lt (I.l i hi)⟩,λr hr t ht=>?_⟩
  rcases JV t p with h1 | h1
  ·exact e2 r hr t h1
  ·have:=T4.mp e r hr
   have z:r.getD p 0=0:=by simpa using this
   rw[show t=p by omega]
   exact z
 | some i0 =>
  obtain⟨g,c,g1,g2,g3,g4,c1,c2,l1,l2,l3,l4,l5⟩:=Ox hm h.b e
  rw[Oy e]
  generalize dw m s.2 i0 p=l at l1 l2 l3 l4 l5
  have m0:=bO m hm
  have lz:∀t,t<p->cf l t=0:=λt ht=>by rw[l3,e2 g g1 t ht,hW m _ m0]
  have xT:∀{r:List Nat},r.length=w->AllLt (ae m) r->(∀t,t<p->cf (gi (λx y=>bC m x (gm m (r.getD p 0) y)) r l) t=cf r t)/\cf (gi (λx y=>bC m x (gm m (r.getD p 0) y)) r l) p=0:=λ{r} a1 a2=>by
   constructor
   ·intro t ht
    have:=Fu hm (a:=r.getD p 0) a1 l1 a2 t
    rw[lz t ht,hW m _ m0,lj (Ow hm a1 l1 a2 _ _)]at this
    exact this
   ·rw[Ft hm a1 l1,l4]
    show bC m (r.getD p 0) (gm m (r.getD p 0) 1)=0
    rw[mU (show r.getD p 0<ae m from et hm a2 p),xN]
  have nl:(fI m s.1 l p).length=s.1.length:=by unfold fI;rw[bY]
  have OC:∀i,i<s.1.length->∃r,s.1.getD i []=r/\r.length=w/\AllLt (ae m) r/\(fI m s.1 l p++[l]).getD i []=gi (λx y=>bC m x (gm m (r.getD p 0) y)) r l:=λi hi=>by
   refine⟨_,rfl,(h.a _ (jl hi [])).1,(h.a _ (jl hi [])).2,?_⟩
   rw[aU,Ci (by omega),<- aU]
   exact OB _ hi [] []
  have OD:(fI m s.1 l p++[l]).getD s.1.length []=l:=by
   rw[aU,yI (by omega),nl,yW];rfl
  have le:(fI m s.1 l p++[l]).length=s.1.length+1:=by rw[iX,nl];rfl
  refine⟨λi=>if i<s.1.length then H i else p,⟨λi j hi hj=>?_,λi hi t ht=>?_,λi j uv hj=>?_,λi hi=>?_⟩,λr hr t ht=>?_⟩
  ·show cf ((fI m s.1 l p++[l]).getD i []) _=_
   dsimp only at hi hj ⊢
   rw[le]at hi hj
   by_cases h1:i<s.1.length
   ·obtain⟨r,r1,r2,r3,r4⟩:=OC i h1
    rw[r4]
    by_cases h2:j<s.1.length
    ·rw[if_pos h2,(xT r2 r3).1 _ (I.l j h2),<- r1]
     exact I.u i j h1 h2
    ·rw[if_neg h2,(xT r2 r3).2,if_neg (by omega)]
   ·have e1:i=s.1.length:=by omega
    rw[e1,OD]
    by_cases h2:j<s.1.length
    ·rw[if_pos h2,lz _ (I.l j h2),if_neg (by omega)]
    ·rw[if_neg h2,l4,if_pos (by omega)]
  ·dsimp only at hi ht ⊢
   rw[le]at hi
   by_cases h1:i<s.1.length
   ·rw[if_pos h1]at ht
    obtain⟨r,r1,r2,r3,r4⟩:=OC i h1
    rw[r4,(xT r2 r3).1 _ (by have:=I.l i h1;omega),<- r1]
    exact I.z i h1 t ht
   ·rw[if_neg h1]at ht
    have e1:i=s.1.length:=by omega
    rw[e1,OD];exact lz t ht
  ·dsimp only at hj ⊢
   rw[le]at hj
   rw[if_pos (by omega)]
   by_cases h2:j<s.1.length
   ·rw[if_pos h2];exact I.i i j uv h2
   ·rw[if_neg h2];exact I.l i (by omega)
  ·dsimp only at hi ⊢
   rw[le]at hi
   split
   ·have:=I.l i (by omega);omega
   ·omega
  ·obtain⟨r1,uw,rfl⟩:=dA.mp hr
   obtain⟨a1,a2⟩:=h.b r1 (AW uw)
   rcases JV t p with h1 | h1
   ·rw[(xT a1 a2).1 t h1];exact e2 _ (AW uw) t h1
   ·rw[show t=p by omega];exact(xT a1 a2).2
theorem OE{m:Bool × Nat}(hm:m∈aq){w:Nat}{G:List (List Nat)}(h:RT (ae m) w G):∀k,(∃H,RR k (jk m G k).1 H/\∀r∈(jk m G k).2,∀t,t<k->cf r t=0)/\∀f,cR m G f↔cR m ((jk m G k).1++(jk m G k).2) f
 | 0=>⟨⟨λ_=>0,⟨(λ_ _ h=>nomatch h),(λ_ h=>nomatch h),(λ_ _ _ h=>nomatch h),(λ_ h=>nomatch h)⟩,λr _ t ht=>nomatch ht⟩,λf=>.rfl⟩
 | k+1=>by
  obtain⟨⟨H,h1,h2⟩,h3⟩:=OE hm h k
  have D:=AR hm h k
  rw[Ff]
  exact⟨bC5 hm D h1 h2,λf=>(h3 f).trans (bG9 hm D f)⟩
theorem m3{m:Bool × Nat}(hm:m∈aq){G:List (List Nat)}(h:RT (ae m) (aD G) G):(∃H,RR (aD G) (cK m G) H)/\RT (ae m) (aD G) (cK m G)/\(cK m G).length<=G.length/\∀f,cR m G f↔cR m (cK m G) f:=by
 obtain⟨⟨H,h1,h2⟩,h3⟩:=OE hm h (aD G)
 have D:=AR hm h (aD G)
 refine⟨⟨H,h1⟩,D.a,by have:=D.l;show(jk m G (aD G)).1.length<=_;omega,λf=>(h3 f).trans ⟨Sp.trans ?_,Sp.trans ?_⟩⟩
 ·rintro f ⟨r,hr,rfl⟩
  rcases cS.mp hr with hr | hr
  ·exact cR.of hr
  ·have:cf r=λ_=>0:=funext λt=>by
    rcases JV t (aD G)with h4 | h4
    ·exact h2 r hr t h4
    ·exact ly (by rw[(D.b r hr).1];exact h4)
   rw[this];exact .zero
 ·rintro f ⟨r,hr,rfl⟩
  exact cR.of (eB _ hr)
theorem uz{N:Nat}{p q:Nat->Nat->Nat}(r:Rg N p q){f:Nat->Nat}{j0:Nat}(hf:f j0<N):∀{n:Nat},j0<n->(∀j,j<n->j≠j0->f j=0)->sm p n f=f j0
 | 0,h,_=>nomatch h
 | n+1,h,hz=>by
  rw[sm]
  by_cases e:j0=n
  ·subst e
   rw[lC r λj hj=>hz j (by omega) (by omega),r.z hf]
  ·rw[uz r hf (by omega) λj hj=>hz j (by omega),hz n (by omega) (by omega),r.z' hf]
theorem cR.sum{m:Bool × Nat}(hm:m∈aq){w:Nat}{R:List (List Nat)}(hR:RT (ae m) w R){f:Nat->Nat}(s:cR m R f):∃c:Nat->Nat,(∀i,c i<ae m)/\∀k,f k=sm (gp m) R.length λi=>gm m (c i) (cf (R.getD i []) k):=by
 have r:=rg hm
 have m0:=bO m hm
 have l1:=lo1 hm
 induction s with
 | mem a =>
  obtain⟨x,hx,rfl⟩:=a
  obtain⟨i,hi,rfl⟩:=kq hx
  have ei:R[i]=R.getD i []:=by rw[aU,aT hi];rfl
  refine⟨λj=>if j=i then 1 else 0,λj=>by dsimp only;split<;>omega,λk=>?_⟩
  refine((uz r (f:=λa=>gm m (if a=i then 1 else 0) (cf (R.getD a []) k)) (j0:=i) (dq hm _ _) hi λj hj hn=>?_).trans ?_).symm
  ·rw[if_neg hn,fw m _ m0]
  ·rw[if_pos rfl,ei]
   exact qE (et hm (hR _ (jl hi [])).2 k)
 | zero=>exact⟨λ_=>0,λ_=>r.pos,λk=>(lC r λj _=>fw m _ m0).symm⟩
 | add _ _ a b =>
  obtain⟨c,hc,a⟩:=a
  obtain⟨d,hd,b⟩:=b
  refine⟨λi=>gp m (c i) (d i),λi=>r.lp (hc i) (hd i),λk=>?_⟩
  dsimp only
  rw[a k,b k,<- oE r]
  refine fH λj _=>?_
  rw[r.mc (gp m _ _),r.dl,r.mc _ (cf _ k),r.mc _ (cf _ k)]
 | mul e he _ a =>
  obtain⟨c,hc,a⟩:=a
  refine⟨λi=>gm m e (c i),λi=>dq hm _ _,λk=>?_⟩
  dsimp only
  rw[a k,<- uu r]
  refine fH λj _=>?_
  rw[fG m0]
theorem cR.ann{m:Bool × Nat}(hm:m∈aq){R:List (List Nat)}{n:Nat}{y:Nat->Nat}(h:∀x∈R,sm (gp m) n (λj=>gm m (cf x j) (y j))=0){f:Nat->Nat}(s:cR m R f):sm (gp m) n (λj=>gm m (f j) (y j))=0:=by
 have r:=rg hm
 have m0:=bO m hm
 induction s with
 | mem a=>obtain⟨x,hx,rfl⟩:=a;exact h x hx
 | zero=>exact lC r λj _=>fw m _ m0
 | @add f g _ _ a b =>
  rw[fH (g:=λj=>gp m (gm m (f j) (y j)) (gm m (g j) (y j))) λj _=>by dsimp only;rw[r.mc (gp m _ _),r.dl,r.mc (y j),r.mc (y j)],oE r,a,b,r.z r.pos]
 | @mul f e he _ a =>
  rw[fH (g:=λj=>gm m e (gm m (f j) (y j))) λj _=>fG m0 _ _ _,uu r,a,r.qz]
theorem RR.Fv{m:Bool × Nat}(hm:m∈aq){w:Nat}{R:List (List Nat)}{H:Nat->Nat}(hR:RT (ae m) w R)(I:RR w R H){i:Nat}(hi:i<R.length):(R.getD i []).findIdx (· != 0)=H i/\∃x∈R.getD i [],x≠0:=by
 have a:=(hR _ (jl hi [])).1
 have l:=I.l i hi
 have u:=I.u i i hi hi
 rw[if_pos rfl]at u
 have eu:(R.getD i [])[H i]'(by omega)=1:=by
  unfold cf at u
  rw[aU (l:=R.getD i []),aT (by omega)]at u
  exact u
 refine⟨?_,_,fh (show H i<(R.getD i []).length by omega),by rw[eu];decide⟩
 rw[List.findIdx_eq (by omega)]
 refine⟨by rw[eu];rfl,λj hj=>?_⟩
 have z:=I.z i hi j hj
 unfold cf at z
 rw[aU (l:=R.getD i []),aT (by omega)]at z
 simpa using z
theorem OF{a b:List Nat}{w:Nat}(ha:a.length=w)(hb:b.length=w)(h:∀k,k<w->cf a k=cf b k):a=b:=by
 refine CG (ha.trans hb.symm) λk h1 h2=>?_
 have:=h k (by omega)
 unfold cf at this
 rw[aU,aU,aT h1,aT h2]at this
 exact this
theorem Fw(f:Nat->Nat){w k:Nat}(h:k<w):cf ((aJ w).map f) k=f k:=by
 unfold cf
 rw[aU,cP,kr h];rfl
theorem AX(m:Bool × Nat){xs ys:List Nat}(h:xs.length=ys.length):gd m xs ys=sm (gp m) xs.length λj=>gm m (cf xs j) (cf ys j):=by
 unfold gd
 rw[bZ0,CJ,h,Cw]
 refine fH λj hj=>?_
 unfold cf
 rw[aU,CL,aT (by omega),aT (by omega),aU,aT (by omega),aU,aT (by omega)]
 rfl
noncomputable def cF(r:List Nat):Nat:=r.findIdx (· != 0)
theorem AY{α:Type}(a b:α->Nat){j:Nat}:∀(l:List α) (x:List Nat),(∀z∈l,a z≠j)->cf (l.foldl (λx z=>x.set (a z) (b z)) x) j=cf x j
 | [],_,_=>rfl
 | z::l,x,h=>by
  rw[va,AY a b l _ λy hy=>h y (fM _ hy)]
  unfold cf
  rw[aU,oO (h z kj),<- aU]
theorem OG{α:Type}(a b:α->Nat):∀(l:List α) (x:List Nat),l.Pairwise (λy z=>a y≠a z)->∀z∈l,a z<x.length->cf (l.foldl (λx z=>x.set (a z) (b z)) x) (a z)=b z
 | [],_,_,_,h,_=>nomatch h
 | y::l,x,hp,z,hz,hl=>by
  rw[va]
  rw[List.pairwise_cons]at hp
  rcases bR.mp hz with rfl | hz
  ·rw[AY a b l _ λy hy=>dU (hp.1 y hy)]
   unfold cf
   rw[aU,yF hl];rfl
  ·exact OG a b l _ hp.2 z hz (by rw[oR];exact hl)
theorem OH{α:Type}(a b:α->Nat):∀(l:List α) (x:List Nat),(l.foldl (λx z=>x.set (a z) (b z)) x).length=x.length
 | [],_=>rfl
 | z::l,x=>by rw[va,OH a b l,oR]
end L3
namespace L3
open PySem L2 Mf
noncomputable def eK(T:List (List Nat))(w:Nat):List Nat:=(aJ w).filter λj=>!(T.map cF).contains j
noncomputable def fJ(m:Bool × Nat)(T:List (List Nat))(w f:Nat):List Nat:=(((T.map cF).zip T).foldl (λx z=>x.set z.1 (bC m 0 (z.2.getD f 0))) ((aX w 0).set f 1))
noncomputable def qK(m:Bool × Nat)(T:List (List Nat))(w:Nat):List (List Nat):=(eK T w).map (fJ m T w)
theorem RR.heads{m:Bool × Nat}(hm:m∈aq){w:Nat}{R:List (List Nat)}{H:Nat->Nat}(hR:RT (ae m) w R)(I:RR w R H):R.map cF=(aJ R.length).map H:=by
 refine CG (by rw[bY,bY,de]) λi h1 h2=>?_
 rw[bY]at h1
 rw[vo,vo,JW,<- (I.Fv hm hR h1).1,aU,aT h1];rfl
theorem RR.mem{m:Bool × Nat}(hm:m∈aq){w:Nat}{R:List (List Nat)}{H:Nat->Nat}(hR:RT (ae m) w R)(I:RR w R H)(j:Nat):j∈R.map cF↔∃i,i<R.length/\H i=j:=by
 rw[I.heads hm hR,dA]
 exact⟨λ⟨i,a,b⟩=>⟨i,dH.mp a,b⟩,λ⟨i,a,b⟩=>⟨i,dH.mpr a,b⟩⟩
theorem RR.free{m:Bool × Nat}(hm:m∈aq){w:Nat}{R:List (List Nat)}{H:Nat->Nat}(hR:RT (ae m) w R)(I:RR w R H)(j:Nat):j∈eK R w↔j<w/\∀i,i<R.length->H i≠j:=by
 unfold eK
 rw[oM,dH,Bool.not_eq_true',<- Bool.not_eq_true,CK,I.mem hm hR]
 exact and_congr_right λ_=>⟨λh i a b=>h ⟨i,a,b⟩,λh ⟨i,a,b⟩=>h i a b⟩
theorem RR.OI{m:Bool × Nat}(hm:m∈aq){w:Nat}{R:List (List Nat)}{H:Nat->Nat}(hR:RT (ae m) w R)(I:RR w R H):(eK R w).length+R.length=w:=by
 have nd:(R.map cF).Nodup:=by
  rw[I.heads hm hR]
  unfold List.Nodup
  rw[CN]
  intro i j hi hj uv
  rw[bY,de]at hi hj
  rw[vo,vo,JW,JW]
  have:=I.i i j uv hj
  omega
 have pe:((aJ w).filter λj=>(R.map cF).contains j).Perm (R.map cF):=by
  refine(List.perm_ext_iff_of_nodup (List.Pairwise.filter _ List.nodup_range) nd).mpr λj=>?_
  rw[oM,CK,dH]
  refine⟨λh=>h.2,λh=>⟨?_,h⟩⟩
  obtain⟨i,hi,rfl⟩:=(I.mem hm hR j).mp h
  exact I.l i hi
 have l1:=pe.length_eq
 rw[bY]at l1
 have l2:=List.length_eq_countP_add_countP (λj=>(R.map cF).contains j) (l:=aJ w)
 rw[de,T5,T5,l1]at l2
 unfold eK
 have e:((aJ w).filter λa=>decide ¬(R.map cF).contains a=true)=(aJ w).filter λj=>!(R.map cF).contains j:=List.filter_congr λx _=>by
  cases(R.map cF).contains x<;>rfl
 rw[e]at l2
 omega
theorem AZ{m:Bool × Nat}(hm:m∈aq){w f:Nat}{R:List (List Nat)}{H:Nat->Nat}(hR:RT (ae m) w R)(I:RR w R H)(hf:f∈eK R w):(fJ m R w f).length=w/\AllLt (ae m) (fJ m R w f)/\cf (fJ m R w f) f=1/\(∀i,i<R.length->cf (fJ m R w f) (H i)=bC m 0 (cf (R.getD i []) f))/\∀j,j≠f->(∀i,i<R.length->H i≠j)->cf (fJ m R w f) j=0:=by
 obtain⟨f1,f2⟩:=(I.free hm hR f).mp hf
 have l1:=lo1 hm
 have zl:((R.map cF).zip R).length=R.length:=by rw[JS,bY,Cw]
 have zg:∀i (h:i<R.length),((R.map cF).zip R)[i]'(by omega)=(H i,R.getD i []):=λi h=>by
  rw[List.getElem_zip,vo]
  have e:R.getD i []=R[i]:=by rw[aU,aT h];rfl
  have:=(I.Fv hm hR h).1
  rw[e]at this ⊢
  exact Prod.ext this rfl
 have zm:∀z∈(R.map cF).zip R,∃i,i<R.length/\z=(H i,R.getD i []):=λz hz=>by
  obtain⟨i,hi,rfl⟩:=kq hz
  exact⟨i,by omega,zg i (by omega)⟩
 have mz:∀i,i<R.length->(H i,R.getD i [])∈(R.map cF).zip R:=λi h=>by
  rw[<-zg i h];exact fh _
 have bd:∀z∈(R.map cF).zip R,bC m 0 (z.2.getD f 0)<ae m:=λz hz=>by
  obtain⟨i,hi,rfl⟩:=zm z hz
  exact(ji hm (by omega) (et hm (hR _ (jl hi [])).2 f)).2.1
 refine⟨?_,?_,?_,λi hi=>?_,λj hj hj2=>?_⟩
 ·unfold fJ
  rw[OH (λz:Nat × List Nat=>z.1) (λz=>bC m 0 (z.2.getD f 0)),oR,jM]
 ·have key:∀(l:List (Nat × List Nat)) (x:List Nat),(∀z∈l,bC m 0 (z.2.getD f 0)<ae m)->AllLt (ae m) x->AllLt (ae m) (l.foldl (λx z=>x.set z.1 (bC m 0 (z.2.getD f 0))) x):=by
   intro l
   induction l with
   | nil=>exact λx _ h=>h
   | cons z l ih =>
    intro x hz h
    rw[va]
    refine ih _ (λy hy=>hz y (fM _ hy)) λy hy=>?_
    rcases CC hy with h1 | h1
    ·exact h y h1
    ·rw[h1];exact hz z kj
  refine key _ _ bd λx hx=>?_
  rcases CC hx with h1 | h1
  ·rw[(vg.mp h1).2];omega
  ·omega
 ·unfold fJ
  rw[AY (λz:Nat × List Nat=>z.1) (λz=>bC m 0 (z.2.getD f 0)) _ _ λz hz=>?_]
  ·unfold cf
   rw[aU,yF (by rw[jM];exact f1)];rfl
  ·obtain⟨i,hi,rfl⟩:=zm z hz
   exact f2 i hi
 ·have hp:((R.map cF).zip R).Pairwise (λy z:Nat × List Nat=>y.1≠z.1):=by
   rw[CN]
   intro i j hi hj uv
   rw[zg i (by omega),zg j (by omega)]
   have:=I.i i j uv (by omega)
   show H i≠H j
   omega
  exact OG (λz:Nat × List Nat=>z.1) (λz=>bC m 0 (z.2.getD f 0)) _ _ hp _ (mz i hi) (by rw[oR,jM];exact I.l i hi)
 ·unfold fJ
  rw[AY (λz:Nat × List Nat=>z.1) (λz=>bC m 0 (z.2.getD f 0)) _ _ λz hz=>?_]
  ·unfold cf
   rw[aU,oO (dU hj),u6]
   split<;>rfl
  ·obtain⟨i,hi,rfl⟩:=zm z hz
   exact hj2 i hi
theorem cy3{N:Nat}{p q:Nat->Nat->Nat}(r:Rg N p q){f:Nat->Nat}{a b n:Nat}(ha:a<n)(hb:b<n)(hn:a≠b)(fa:f a<N)(fb:f b<N)(hz:∀j,j<n->j≠a->j≠b->f j=0):sm p n f=p (f a) (f b):=by
 have h1:=uz r (f:=λj=>if j=a then f a else 0) (j0:=a) (n:=n) (by rw[if_pos rfl];exact fa) ha λj _ h=>if_neg h
 have h2:=uz r (f:=λj=>if j=b then f b else 0) (j0:=b) (n:=n) (by rw[if_pos rfl];exact fb) hb λj _ h=>if_neg h
 rw[if_pos rfl]at h1 h2
 rw[<-h1,<- h2,<- oE r]
 refine fH λj hj=>?_
 by_cases ja:j=a
 ·rw[if_pos ja,if_neg (by omega),r.z' fa,ja]
 ·by_cases jb:j=b
  ·rw[if_neg ja,if_pos jb,r.z fb,jb]
  ·rw[if_neg ja,if_neg jb,hz j hj ja jb,r.z r.pos]
noncomputable def dt(m:Bool × Nat)(w:Nat)(x y:Nat->Nat):Nat:=sm (gp m) w λj=>gm m (x j) (y j)
theorem OJ{m:Bool × Nat}(hm:m∈aq){w f:Nat}{R:List (List Nat)}{H:Nat->Nat}(hR:RT (ae m) w R)(I:RR w R H)(hf:f∈eK R w){i:Nat}(hi:i<R.length):dt m w (cf (R.getD i [])) (cf (fJ m R w f))=0:=by
 have r:=rg hm
 obtain⟨f1,f2⟩:=(I.free hm hR f).mp hf
 obtain⟨k1,k2,k3,k4,k5⟩:=AZ hm hR I hf
 have il:=et hm (hR _ (jl hi [])).2
 have g:=ji hm (a:=0) r.pos (il f)
 unfold dt
 rw[cy3 r (f:=λj=>gm m (cf (R.getD i []) j) (cf (fJ m R w f) j)) (a:=H i) (b:=f) (I.l i hi) f1 (f2 i hi) (dq hm _ _) (dq hm _ _) λj hj ja jb=>?_]
 ·rw[k3,k4 i hi,I.u i i hi hi,if_pos rfl,qE g.2.1,mU (il f)]
  exact g.2.2
 ·by_cases c:∃i',i'<R.length/\H i'=j
  ·obtain⟨i',h1,rfl⟩:=c
   rw[I.u i i' hi h1,if_neg (λz:i=i'=>ja (by rw[z])),fw m _ (bO m hm)]
  ·rw[k5 j jb λi' h1 h2=>c ⟨i',h1,h2⟩,r.qz]
theorem cR.dt{m:Bool × Nat}(hm:m∈aq){R:List (List Nat)}{n:Nat}{y:Nat->Nat}(h:∀i,i<R.length->dt m n (cf (R.getD i [])) y=0){f:Nat->Nat}(s:cR m R f):dt m n f y=0:=by
 refine s.ann hm λx hx=>?_
 obtain⟨i,hi,rfl⟩:=kq hx
 have:=h i hi
 rw[aU,aT hi]at this
 exact this
theorem OK{N n:Nat}{M:List (List Nat)}(h:RT N n M)(h0:M≠[]):aD M=n:=by
 cases M with
 | nil=>exact absurd rfl h0
 | cons g M=>exact(h g kj).1
theorem cF4{m:Bool × Nat}(hm:m∈aq){n:Nat}{M:List (List Nat)}(h:RT (ae m) n M)(hl:M.length<n):∃(x:Nat->Nat) (f:Nat),f<n/\(∀k,x k<ae m)/\x f=1/\∀i,i<M.length->dt m n (cf (M.getD i [])) x=0:=by
 by_cases h0:M=[]
 ·subst h0
  exact⟨λ_=>1,0,hl,λ_=>lo1 hm,rfl,λi hi=>nomatch hi⟩
 ·have hw:=OK h h0
  obtain⟨⟨H,I⟩,iR,il,sp⟩:=m3 hm (G:=M) (by rw[hw];exact h)
  rw[hw]at I iR
  have fl:=I.OI hm iR
  have f0:0<(eK (cK m M) n).length:=by omega
  have hf:=jl f0 0
  obtain⟨k1,k2,k3,k4,k5⟩:=AZ hm iR I hf
  refine⟨cf (fJ m (cK m M) n ((eK (cK m M) n).getD 0 0)),_,((I.free hm iR _).mp hf).1,et hm k2,k3,λi hi=>?_⟩
  exact cR.dt hm (λi' iB=>OJ hm iR I hf iB) ((sp _).mp (cR.of (jl hi [])))
theorem RR.few{m:Bool × Nat}(hm:m∈aq){w v:Nat}{S R:List (List Nat)}{H:Nat->Nat}(hS:RT (ae m) w S)(I:RR w S H)(hR:RT (ae m) v R)(h:∀i,i<S.length->cR m R (cf (S.getD i []))):S.length<=R.length:=by
 have r:=rg hm
 refine Jy λhl=>?_
 have hc:∀i,∃c:Nat->Nat,i<S.length->(∀j,c j<ae m)/\∀k,cf (S.getD i []) k=sm (gp m) R.length λj=>gm m (c j) (cf (R.getD j []) k):=λi=>by
  by_cases hi:i<S.length
  ·obtain⟨c,a,b⟩:=(h i hi).sum hm hR
   exact⟨c,λ_=>⟨a,b⟩⟩
  ·exact⟨λ_=>0,λz=>absurd z hi⟩
 obtain⟨C,hC⟩:=Classical.axiomOfChoice hc
 have cl:∀i,i<S.length->∀j,C i j<ae m:=λi hi=>(hC i hi).1
 obtain⟨x,f,f1,x1,x2,x3⟩:=cF4 hm (n:=S.length) (M:=(aJ R.length).map λj=>(aJ S.length).map λi=>C i j) (λy hy=>by
  obtain⟨j,_,rfl⟩:=dA.mp hy
  refine⟨by rw[bY,de],λz hz=>?_⟩
  obtain⟨i,hi,rfl⟩:=dA.mp hz
  exact cl i (dH.mp hi) j) (by rw[bY,de];exact hl)
 rw[bY,de]at x3
 have x4:∀j,j<R.length->sm (gp m) S.length (λi=>gm m (C i j) (x i))=0:=λj hj=>by
  rw[<-x3 j hj]
  refine fH λi hi=>?_
  rw[OB (λj=>(aJ S.length).map λi=>C i j) (by rw[de];exact hj) 0 [],Fw _ hi,aU,kr hj];rfl
 have x5:∀k,sm (gp m) S.length (λi=>gm m (x i) (cf (S.getD i []) k))=0:=λk=>by
  rw[fH (g:=λi=>sm (gp m) R.length λj=>gm m (gm m (C i j) (x i)) (cf (R.getD j []) k)) λi hi=>?_,Oc r,lC r λj hj=>?_]
  ·rw[fH (g:=λi=>gm m (cf (R.getD j []) k) (gm m (C i j) (x i))) λi hi=>fZ m _ _,uu r,x4 j hj,r.qz]
  ·rw[(hC i hi).2 k,<- uu r]
   exact fH λj _=>by rw[<-fG (bO m hm),fZ m (x i)]
 have:=x5 (H f)
 rw[uz r (f:=λi=>gm m (x i) (cf (S.getD i []) (H f))) (dq hm _ _) f1 λj hj hn=>by rw[I.u j f hj f1,if_neg hn,r.qz],I.u f f f1 f1,if_pos rfl,x2,qE (lo1 hm)]at this
 omega
theorem cg8{m:Bool × Nat}(hm:m∈aq){v:Nat}{G R:List (List Nat)}(hG:RT (ae m) (aD G) G)(hR:RT (ae m) v R)(h:∀i,i<G.length->cR m R (cf (G.getD i []))):(cK m G).length<=R.length:=by
 obtain⟨⟨H,I⟩,iR,il,sp⟩:=m3 hm hG
 refine I.few hm iR hR λi hi=>?_
 refine Sp.trans (λf hf=>?_) ((sp _).mpr (cR.of (jl hi [])))
 obtain⟨x,hx,rfl⟩:=hf
 obtain⟨i,hi,rfl⟩:=kq hx
 have:=h i hi
 rw[aU,aT hi]at this
 exact this
theorem cv3{T:List (List Nat)}{i:Nat}(h:i<T.length):T.getD i []=T[i]:=by rw[aU,aT h];rfl
end L3
namespace L3
open PySem L2 PySem.Spec PyProof.Rows
section
variable{X:Cx}{F H:Hp}{e b:Expr}{pos pos' p p2 p3 apos bK:Pos}{ti te:aI}{x y:Str}{i j:Nat}
end
section
variable{X:Cx}
end
section
variable{X:Cx}{es:List Expr}{tr:bQ}{pos:Pos}
end
end L3
namespace L3
open PySem L2 Mf
end L3
namespace L3
open PySem L2 Mf
theorem cc9{m:Bool × Nat}(hm:m∈aq){G:List (List Nat)}(hG:RT (ae m) (aD G) G){f:Nat}(hf:f∈eK (cK m G) (aD G)):∀r∈G,dt m (aD G) (cf r) (cf (fJ m (cK m G) (aD G) f))=0:=λr hr=>by
 obtain⟨⟨H,I⟩,iR,il,sp⟩:=m3 hm hG
 exact cR.dt hm (λi hi=>OJ hm iR I hf hi) ((sp _).mp (cR.of hr))
end L3
namespace L3
open PySem L2 Mf
end L3
namespace L2
open PySem PySem.Spec PyProof.Rows
section
variable{X:Cx}
end
end L2
namespace L3
open PySem L2 PySem.Spec PyProof.Rows
section
variable{X:Cx}
end
end L3
namespace L2
open PySem PySem.Spec PyProof.Rows
section
variable{X:Cx}{a:Expr}{ta:TE}{p p2 pos ia:Pos}
end
end L2
namespace L3
open PySem L2 PySem.Spec PyProof.Rows
section
variable{X:Cx}{a:Expr}{t:aI}{p p2 pos ia:Pos}
end
end L3
namespace L3
open PySem L2 PySem.Spec PyProof.Rows
section
variable{F H:Hp}
end
section
variable{X:Cx}{e:Expr}{t:aI}{p2 pos:Pos}
end
end L3
namespace L3
open PySem L2 PySem.Spec PyProof.Rows
section
variable{F H:Hp}
end
section
variable{P:Program}{w:World}{K:PySem.W.Frag}{mg:Str->Option Value}{base:Heap}
end
section
variable{X:Cx}{CX:dB}{n i:Nat}{f:Addr}{fd:FuncData}{ps:List Str}{sp:bc}{E:XK}{fn x:Str}{e:Expr}{te:aI}{p p2 pos pos' ia:Pos}
end
end L3
namespace L2
section
variable{α:Type}{P:List α->Prop}
theorem cv4(h:P []):∀us:List α,us.length=0->P us:=by
 intro us hl;rcases us with _ | ⟨a,t⟩
 ·exact h
 ·cases hl
theorem eW(h:∀a,P [a]):∀us:List α,us.length=1->P us:=by
 intro us hl;rcases us with _ | ⟨a,t⟩
 ·cases hl
 ·exact cv4 (P:=λt=>P (a::t)) (h a) t (vp hl)
theorem gO(h:∀a b,P [a,b]):∀us:List α,us.length=2->P us:=by
 intro us hl;rcases us with _ | ⟨a,t⟩
 ·cases hl
 ·exact eW (P:=λt=>P (a::t)) (h a) t (vp hl)
theorem fK(h:∀a b c,P [a,b,c]):∀us:List α,us.length=3->P us:=by
 intro us hl;rcases us with _ | ⟨a,t⟩
 ·cases hl
 ·exact gO (P:=λt=>P (a::t)) (h a) t (vp hl)
theorem qL(h:∀a b c d,P [a,b,c,d]):∀us:List α,us.length=4->P us:=by
 intro us hl;rcases us with _ | ⟨a,t⟩
 ·cases hl
 ·exact fK (P:=λt=>P (a::t)) (h a) t (vp hl)
theorem OL(h:∀a b c d e,P [a,b,c,d,e]):∀us:List α,us.length=5->P us:=by
 intro us hl;rcases us with _ | ⟨a,t⟩
 ·cases hl
 ·exact qL (P:=λt=>P (a::t)) (h a) t (vp hl)
end
end L2
namespace L3
open PySem L2 PySem.Spec PyProof.Rows
section
variable{B:Bs}{F H:Hp}{σ:L2.St}{δ:Dl}{ts:List (D × V)}
end
section
variable{X:Cx}{elt iter tg:Expr}{pos:Pos}{scope:Scope}{cl:List (Str × Addr)}{ti:iJ}{te:aI}{g:gC}
end
end L3
namespace L2
open PySem PySem.Spec PyProof.Rows
section
variable{X:Cx}
end
end L2
namespace L3
open PySem L2 PySem.Spec PyProof.Rows
section
variable{X:Cx}
end
end L3
namespace L3
open PySem L2 Mf
theorem OM{m:Bool × Nat}(hm:m∈aq){a b:Nat}(ha:a<ae m)(hb:b<ae m):gm m a b=0↔a=0\/b=0:=by
 constructor
 ·intro h
  by_cases a0:a=0
  ·exact .inl a0
  ·by_cases b0:b=0
   ·exact .inr b0
   ·exact absurd h (NU hm (by omega) ha (by omega) hb)
 ·rintro (rfl | rfl)
  ·exact fw m _ (bO m hm)
  ·exact hW m _ (bO m hm)
theorem ON{m:Bool × Nat}(hm:m∈aq)(x:Nat->Nat)(hx:∀j,x j<ae m):∀(n:Nat) (c:Nat->Nat),(∀j,c j<ae m)->(∀i j,i<n->j<n->x i=x j->i=j)->(∀i,i<n->sm (gp m) n (λj=>gm m (c j) (px m (x j) i))=0)->∀j,j<n->c j=0
 | 0,_,_,_,_,j,hj=>absurd hj (by omega)
 | n+1,c,hc,hd,h,j,hj=>by
  have r:=rg hm
  have h0:=bO m hm
  have fq:=lo1 hm
  have dn:∀j,bC m (x j) (x n)<ae m/\gp m (bC m (x j) (x n)) (x n)=x j:=λj=>(ji hm (hx j) (hx n)).2
  have key:∀i,i<n->sm (gp m) n (λj=>gm m (gm m (c j) (bC m (x j) (x n))) (px m (x j) i))=0:=λi hi=>by
   have h1:=h (i+1) (by omega)
   have hz:=h i (by omega)
   have e:∀j,gm m (c j) (px m (x j) (i+1))=gp m (gm m (gm m (c j) (bC m (x j) (x n))) (px m (x j) i)) (gm m (x n) (gm m (c j) (px m (x j) i))):=λj=>by
    show gm m (c j) (gm m (px m (x j) i) (x j))=_
    have e1:gm m (px m (x j) i) (x j)=gm m (px m (x j) i) (gp m (bC m (x j) (x n)) (x n)):=by rw[(dn j).2]
    rw[e1,xG h0,xG h0]
    congr 1
    ·rw[fG h0,fZ m (px m (x j) i)]
    ·rw[fZ m (px m (x j) i),<- fG h0,fZ m (c j),fG h0]
   rw[fH λj _=>e j,oE r,uu r,hz,r.qz]at h1
   have ln:sm (gp m) n (λj=>gm m (gm m (c j) (bC m (x j) (x n))) (px m (x j) i))<ae m:=AM r λ_ _=>dq hm _ _
   rw[sm,xN,hW m _ h0,fw m _ h0,lj ln,lj ln]at h1
   exact h1
  have ih:=ON hm x hx n (λj=>gm m (c j) (bC m (x j) (x n))) (λ_=>dq hm _ _) (λi j hi hj=>hd i j (by omega) (by omega)) key
  have cz:∀j,j<n->c j=0:=λj hj=>by
   rcases(OM hm (hc j) (dn j).1).mp (ih j hj)with z | z
   ·exact z
   ·have:=(dn j).2
    rw[z,jg (hx n)]at this
    exact absurd (hd n j (by omega) (by omega) this) (by omega)
  by_cases c0:j<n
  ·exact cz j c0
  ·have ej:j=n:=by omega
   subst ej
   have:=h 0 (by omega)
   rw[sm,lC r λi hi=>by rw[cz i hi,fw m _ h0]]at this
   rw[show px m (x j) 0=1 from rfl,mU (hc j),jg (hc j)]at this
   exact this
noncomputable def cW(m:Bool × Nat)(b:Nat)(ps:List Nat)(n:Nat):List (List Nat):=(aJ n).map λ(i:Nat)=>ps.map λ(p:Nat)=>eS m (((b:Int)+(i:Int))*(p:Int))
theorem A6{m:Bool × Nat}(hm:m∈aq)(b:Nat)(ps:List Nat)(n:Nat):RT (ae m) ps.length (cW m b ps n)/\(cW m b ps n).length=n:=by
 refine⟨λr hr=>?_,by unfold cW;rw[bY,de]⟩
 obtain⟨i,_,rfl⟩:=dA.mp hr
 refine⟨by rw[bY],λx hx=>?_⟩
 obtain⟨p,_,rfl⟩:=dA.mp hx
 exact xH hm _
theorem ci1{m:Bool × Nat}{b:Nat}{ps:List Nat}{n a:Nat}(ha:a<n):(cW m b ps n).getD a []=ps.map λ(p:Nat)=>eS m (((b:Int)+(a:Int))*(p:Int)):=by
 unfold cW
 rw[aU,cP,kr ha];rfl
theorem cw0{m:Bool × Nat}(hm:m∈aq){a b:Nat}(ha:a+1<ae m)(hb:b+1<ae m)(h:eS m (a:Int)=eS m (b:Int)):a=b:=by
 have h1:=(mW hm (a:Int)).2.2.1
 have h2:=(mW hm (b:Int)).2.2.1
 rw[h,h2,CH (by omega) (by omega),CH (by omega) (by omega)]at h1
 omega
end L3
namespace L3
open PySem L2 Mf
noncomputable def Lin(m:Bool × Nat)(C:Nat->Nat->Nat)(ps:List Nat)(c:Nat->Nat)(k:Nat):Nat:=sm (gp m) ps.length λt=>gm m (c t) (C (ps.getD t 0) k)
noncomputable def OO(m:Bool × Nat)(C:Nat->Nat->Nat)(ps:List Nat):Prop:=∀c:Nat->Nat,(∀t,c t<ae m)->(∀k,Lin m C ps c k=0)->∀t,t<ps.length->c t=0
section
variable{m:Bool × Nat}{C:Nat->Nat->Nat}{w:Nat}
end
end L3
namespace L3
open PySem L2 Mf
noncomputable def Fx(w:Nat)(S:List Nat):Prop:=S.Pairwise (· < ·)/\∀x∈S,x<w
section
variable{m:Bool × Nat}{C:Nat->Nat->Nat}{w:Nat}
end
end L3
namespace L3
open PySem L2 Mf
noncomputable def xU(T:List (List Nat))(j k:Nat):Nat:=cf (T.getD k []) j
section
variable{m:Bool × Nat}{C:Nat->Nat->Nat}
end
end L3
namespace L3
open PySem L2 PySem.Spec PyProof.Rows
section
variable{B:Bs}{F H:Hp}{σ:L2.St}{δ:Dl}{ts:List (D × V)}
end
section
variable{X:Cx}{a:Expr}{ta:aI}{pos p2:Pos}{tk:Nat}
end
end L3
namespace L3
open PySem L2 PySem.Spec PyProof.Rows
section
variable{X:Cx}{a b:Expr}{ta tb:aI}{elts:List Expr}{x1:Nat}{pF p pos:Pos}
end
end L3
namespace L3
open PySem L2 Mf
section
variable{m:Bool × Nat}
structure Fy(m:Bool × Nat)(R W:Nat)(x y:Nat->Nat)(T:List (List Nat)):Prop where
 rt:RT (ae m) W T
 l:T.length=R
 xl:∀j,x j<ae m
 xd:∀i j,i<W->j<W->x i=x j->i=j
 yl:∀j,y j<ae m
 y0:∀j,j<W->y j≠0
 at_:∀i,i<R->∃k,k<R/\∀j,j<W->xU T j k=gm m (y j) (px m (x j) i)
theorem Fy.ind(hm:m∈aq){R W:Nat}{x y:Nat->Nat}{T:List (List Nat)}(h:Fy m R W x y T){S:List Nat}(hS:Fx W S)(hR:S.length<=R):OO m (xU T) S:=by
 intro c hc hz t ht
 have gS:∀t,t<S.length->S.getD t 0<W:=λt ht=>hS.2 _ (jl ht 0)
 have:=ON hm (λt=>x (S.getD t 0)) (λ_=>h.xl _) S.length (λt=>gm m (c t) (y (S.getD t 0))) (λ_=>dq hm _ _) (λi j hi hj e=>by
  have e':=h.xd _ _ (gS i hi) (gS j hj) e
  rcases Nat.lt_trichotomy i j with q | q | q
  ·have:=CN.mp hS.1 i j hi hj q
   rw[aU,aU,aT hi,aT hj]at e'
   have e2:S[i]=S[j]:=e'
   omega
  ·exact q
  ·have:=CN.mp hS.1 j i hj hi q
   rw[aU,aU,aT hi,aT hj]at e'
   have e2:S[i]=S[j]:=e'
   omega) (λi hi=>by
  obtain⟨k,_,hk⟩:=h.at_ i (by omega)
  refine Eq.trans (fH λt ht=>?_) (hz k)
  show gm m (gm m (c t) (y (S.getD t 0))) (px m (x (S.getD t 0)) i)=gm m (c t) (xU T (S.getD t 0) k)
  rw[hk _ (gS t ht),fG (bO m hm)]) t ht
 rcases(OM hm (hc t) (h.yl _)).mp this with z | z
 ·exact z
 ·exact absurd z (h.y0 _ (gS t ht))
end
end L3
namespace L2
open PySem PySem.Spec PyProof.Rows
section
variable{X:Cx}
end
end L2
namespace L3
open PySem L2 PySem.Spec PyProof.Rows
section
variable{X:Cx}{o e:Expr}{t tb:aI}{apos bK:Pos}
end
section
variable{X:Cx}{i:Nat}{x:Str}{p pos apos bK ZC ia:Pos}{a b:List Stmt}{t u:b9}{k:Int}{j}
end
end L3
namespace L3
open PySem L2 Mf
section
variable{N:Nat}{p q:Nat->Nat->Nat}
noncomputable def lD(p q:Nat->Nat->Nat)(n:Nat)(f:Nat->Nat):Nat->Nat
 | 0=>q (f 0) n
 | k+1=>p (q (f (k+1)) n) (f k)
theorem p4(r:Rg N p q)(a b c d:Nat):p (p a b) (p c d)=p (p a c) (p b d):=by rw[r.pa,r.pa,<- r.pa b,r.pc b c,r.pa c]
theorem Rg.dr(r:Rg N p q)(a b c:Nat):q (p a b) c=p (q a c) (q b c):=by rw[r.mc,r.dl,r.mc c,r.mc c]
theorem OP(r:Rg N p q){n:Nat}{f:Nat->Nat}(hf:∀k,f k<N):∀k,lD p q n f k<N
 | 0=>r.lq _ _
 | _+1=>r.lp (r.lq _ _) (hf _)
theorem q3(r:Rg N p q){a b c:Nat}(ha:a<N)(hb:b<N)(hc:c<N):q (q a b) c=q (q a c) b:=by rw[r.ma ha hb hc,r.mc b c,r.ma ha hc hb]
theorem bP4(r:Rg N p q){n n':Nat}{f:Nat->Nat}(hn:n<N)(pf:n'<N)(hf:∀k,f k<N):lD p q n (lD p q n' f)=lD p q n' (lD p q n f):=funext λk=>by
 cases k with
 | zero=>exact q3 r (hf 0) pf hn
 | succ k =>
  cases k with
  | zero =>
   show p (q (p (q (f 1) n') (f 0)) n) (q (f 0) n')=p (q (p (q (f 1) n) (f 0)) n') (q (f 0) n)
   rw[r.dr,r.dr,q3 r (hf 1) pf hn,r.pa,r.pa,r.pc (q (f 0) n)]
  | succ k =>
   show p (q (p (q (f (k+2)) n') (f (k+1))) n) (p (q (f (k+1)) n') (f k))=p (q (p (q (f (k+2)) n) (f (k+1))) n') (p (q (f (k+1)) n) (f k))
   rw[r.dr,r.dr,q3 r (hf _) pf hn,p4 r,p4 r (q (q (f (k+2)) n) n')]
noncomputable def jJ(p q:Nat->Nat->Nat)(ng:Nat->Nat)(c:Nat):List Nat->Nat->Nat
 | []=>λk=>if k=0 then c else 0
 | s::S=>lD p q (ng s) (jJ p q ng c S)
variable{ng:Nat->Nat}{c:Nat}
theorem Fz(r:Rg N p q)(hc:c<N):∀(S:List Nat) k,jJ p q ng c S k<N
 | [],k=>by
  show(if k=0 then c else 0)<N
  split
  ·exact hc
  ·exact r.pos
 | _::S,k=>OP r (Fz r hc S) k
theorem b52(r:Rg N p q)(hc:c<N)(hn:∀s,ng s<N){S S':List Nat}(h:S.Perm S'):jJ p q ng c S=jJ p q ng c S':=by
 induction h with
 | nil=>rfl
 | cons x _ ih=>show lD p q (ng x) _=lD p q (ng x) _;rw[ih]
 | swap x y l=>exact bP4 r (hn _) (hn _) (Fz r hc l)
 | trans _ _ a b=>exact a.trans b
theorem xV(r:Rg N p q):∀(S:List Nat) k,S.length<k->jJ p q ng c S k=0
 | [],k,h=>if_neg (by simp at h;omega)
 | s::S,0,h=>absurd h (by simp)
 | s::S,k+1,h=>by
  rw[eX]at h
  show p (q (jJ p q ng c S (k+1)) (ng s)) (jJ p q ng c S k)=0
  rw[xV r S (k+1) (by omega),xV r S k (by omega),r.mc,r.qz,r.z r.pos]
theorem FA(r:Rg N p q)(hc:c<N):∀S:List Nat,jJ p q ng c S S.length=c
 | []=>rfl
 | s::S=>by
  show p (q (jJ p q ng c S (S.length+1)) (ng s)) (jJ p q ng c S S.length)=c
  rw[xV r S (S.length+1) (by omega),FA r hc S,r.mc,r.qz,r.z hc]
end
section
variable{m:Bool × Nat}
theorem FC(hm:m∈aq){s:Nat}(hs:s<ae m):bC m 0 s<ae m/\gp m (bC m 0 s) s=0:=by
 have:=ji hm (a:=0) (b:=s) (by omega) hs
 exact⟨this.2.1,this.2.2⟩
noncomputable def ib(m:Bool × Nat)(s:Nat):Nat:=if s<ae m then bC m 0 s else 0
theorem A8(hm:m∈aq)(s:Nat):ib m s<ae m:=by
 unfold ib
 split
 ·exact(FC hm ‹_›).1
 ·exact(rg hm).pos
theorem OQ{s:Nat}(hs:s<ae m):ib m s=bC m 0 s:=if_pos hs
theorem cf7(hm:m∈aq){s x:Nat}(hs:s<ae m)(hx:x<ae m):gp m (ib m s) x=0↔x=s:=by
 have h:=(FC hm hs).2
 rw[OQ hs]
 refine⟨λe=>?_,λe=>e ▸ h⟩
 refine(rg hm).can hx hs (FC hm hs).1 ?_
 rw[lh,e,lh,h]
noncomputable abbrev PF(m:Bool × Nat)(c:Nat)(S:List Nat):Nat->Nat:=jJ (gp m) (gm m) (ib m) c S
theorem Ba(hm:m∈aq){n:Nat}(hn:n<ae m):∀{L:List Nat},AllLt (ae m) L->∀k,oB m [n,1] L k=lD (gp m) (gm m) n (cf L) k
 | [],_,0=>by
  show 0=gm m 0 n
  rw[fw m _ (bO m hm)]
 | [],_,k+1=>by
  show 0=gp m (gm m 0 n) 0
  rw[fw m _ (bO m hm),jg (rg hm).pos]
 | x::L,h,0=>by
  show gp m (gm m x n) 0=gm m x n
  exact lj (dq hm _ _)
 | x::L,h,1=>by
  show gp m (gm m x 1) (oB m [n,1] L 0)=gp m (gm m (cf L 0) n) x
  rw[mU (h x (by simp)),Ba hm hn (λa ha=>h a (by simp[ha])) 0,lh];rfl
 | x::L,h,k+2=>by
  show gp m (gm m x (cf [n,1] (k+2))) (oB m [n,1] L (k+1))=gp m (gm m (cf L (k+1)) n) (cf L k)
  rw[show cf [n,1] (k+2)=0 from rfl,hW m _ (bO m hm),Ba hm hn (λa ha=>h a (by simp[ha])) (k+1),jg (OP (rg hm) (et hm λa ha=>h a (by simp[ha])) _)];rfl
theorem OR(hm:m∈aq){x:Nat}{l l':List Nat}(h:∀k,cf l k=cf l' k):bz m x l=bz m x l':=by rw[<-E4 hm,bZ2 h,E4 hm]
theorem cz6(hm:m∈aq){n x:Nat}(hn:n<ae m)(hx:x<ae m){L Q:List Nat}(hQ:AllLt (ae m) Q)(h:∀k,cf L k=lD (gp m) (gm m) n (cf Q) k):bz m x L=gm m (bz m x Q) (gp m n x):=by
 have lo:=lo1 hm
 rw[OR hm (l':=mY m Q [n,1]) λk=>by rw[h k,Ob hm,Ba hm hn hQ],b56 hm x Q [n,1] hQ (λa ha=>by
  simp only[bR,ij,or_false]at ha
  rcases ha with rfl | rfl
  ·exact hn
  ·exact lo)]
 congr 1
 show gp m (gm m (gp m (gm m 0 x) 1) x) n=gp m n x
 rw[fw m _ (bO m hm),jg lo,qE hx,lh]
noncomputable def oF(m:Bool × Nat)(c:Nat)(S:List Nat):List Nat:=(aJ (S.length+1)).map (PF m c S)
theorem FD(hm:m∈aq)(c:Nat)(S:List Nat)(k:Nat):cf (oF m c S) k=PF m c S k:=by
 by_cases h:k<S.length+1
 ·exact Fw _ h
 ·rw[ly (by unfold oF;rw[bY,de];omega)]
  exact(xV (rg hm) S k (by omega)).symm
theorem cq7(hm:m∈aq){c:Nat}(hc:c<ae m)(S:List Nat):AllLt (ae m) (oF m c S):=λa ha=>by
 obtain⟨k,_,rfl⟩:=dA.mp ha
 exact Fz (rg hm) hc S k
theorem OS(hm:m∈aq){c x:Nat}(hc:c<ae m)(c0:c≠0)(hx:x<ae m):∀{S:List Nat},(∀s∈S,s<ae m)->(bz m x (oF m c S)=0↔x∈S)
 | [],_=>by
  show gp m (gm m 0 x) c=0↔_
  rw[fw m _ (bO m hm),jg hc]
  simp[c0]
 | s::S,h=>by
  have hs:=h s (by simp)
  have ih:=OS hm hc c0 hx (S:=S) λa ha=>h a (by simp[ha])
  have lS:=cq7 hm hc S
  have hl:=xI hm x lS
  have ga:=qH hm (A8 hm s) hx
  rw[cz6 hm (Q:=oF m c S) (A8 hm s) hx lS λk=>by rw[FD hm,show cf (oF m c S)=_ from funext (FD hm c S)];rfl]
  rw[bR,<- ih,<- cf7 hm hs hx]
  constructor
  ·intro e
   by_cases h1:bz m x (oF m c S)=0
   ·exact .inr h1
   ·by_cases h2:gp m (ib m s) x=0
    ·exact .inl h2
    ·exact absurd e (NU hm (by omega) hl (by omega) ga)
  ·rintro (e | e)
   ·rw[e,hW m _ (bO m hm)]
   ·rw[e,fw m _ (bO m hm)]
theorem cy6(hm:m∈aq){c x:Nat}(hc:c<ae m)(c0:c≠0)(hx:x<ae m){S L:List Nat}(hS:∀s∈S,s<ae m)(h:∀k,cf L k=PF m c S k):bz m x L=0↔x∈S:=by
 rw[OR hm (l':=oF m c S) λk=>by rw[h k,FD hm]]
 exact OS hm hc c0 hx hS
theorem ci5{l:List Nat}{d:Nat}(h1:cf l d≠0)(h2:∀k,d<k->cf l k=0):(dv l).length=d+1:=by
 have e1:=oA l
 rcases NW l with h | h
 ·refine absurd (e1 d ▸ h1) ?_
  rw[ly (by omega)];simp
 ·have a:¬ (dv l).length<=d:=λz=>h1 (by rw[<-e1 d];exact ly z)
  have b:¬ d+1<(dv l).length:=λz=>h (by
   have:=e1 ((dv l).length-1)
   rw[h2 _ (by omega)]at this
   exact this)
  omega
end
end L3
namespace L2
open PySem PySem.Spec PyProof.Rows
section
variable{prog:Program}{w:World}{A:Around}{E:Value->Shared->Prop}{s:Shared}
end
section
variable{X:Cx}{e:Expr}{ta:TA}{p p2 pos ia:Pos}
end
end L2
namespace L3
open PySem L2 PySem.Spec PyProof.Rows
section
variable{X:Cx}{e:Expr}{tr:bQ}{p p2 pos ia:Pos}
end
end L3
namespace L2
open PySem PySem.Spec PyProof.Rows
noncomputable abbrev TJ:=Str->St->Hp->(Str->Hp->Prop)->Prop
section
variable{X:Cx}{e v1 v2:Expr}{es rest:List Expr}{te:TE}{t:TJ}{pos:Pos}
noncomputable def PJ(X:Cx)(es:List Expr)(t:TJ):Prop:=∀(pins:List (Addr × Obj)) (s:Shared) (σ:St) (H:Hp) (acc:Str) (Q:Str->Hp->Prop),Inv X pins σ H s->t acc σ H Q ->
 Joins (model X.prog X.w) X.A X.xe (evalEach es X.env) acc (λout s1=>out.length<=sizeLine/\∃H',Inv X pins σ H' s1/\Q out H') s
theorem cu5(hs:evalEach [] X.env=[]:=by rfl):PJ X [] (λacc _ H Q=>acc.length<=sizeLine/\Q acc H):=λpins s σ H acc Q I zq=>by
 obtain⟨h1,h2⟩:=zq
 rw[hs]
 exact⟨h1,H,I,h2⟩
theorem cg1(he:PE X e te)(hr:PJ X es t)(hs:evalEach (e::es) X.env=eval e X.env::evalEach es X.env:=by rfl) :
  PJ X (e::es) (λacc σ H Q=>te σ H λv H1=>∃y,v=.str y/\(acc++y).length<=sizeLine/\t (acc++y) σ H1 Q):=λpins s σ H acc Q I h=>by
 rw[hs]
 refine aM (he pins s σ H _ I h) λu s1 ⟨x,H1,I1,r1,y,ex,hl,q⟩=>?_
 subst ex
 obtain⟨tk,rfl⟩:=r1
 exact⟨y,tk,rfl,hl,hr pins s1 σ H1 _ Q I1 q⟩
theorem cd6(h:PJ X (v1::v2::rest) t):PE X (.JoinedStr (v1::v2::rest) pos) (λσ H Q=>t km σ H λout H'=>Q (.str out) H'):=λpins s σ H Q I hq=>by
 refine wpAny_JoinedStr ?_
 have mono:∀(ps:List (Sem Value)) (acc:Str) (Q1 Q2:Str->Shared->Prop) (s:Shared),(∀o s,Q1 o s->Q2 o s)->Joins (model X.prog X.w) X.A X.xe ps acc Q1 s->Joins (model X.prog X.w) X.A X.xe ps acc Q2 s:=by
  intro ps
  induction ps with
  | nil=>exact λacc Q1 Q2 s m h=>m _ _ h
  | cons p ps ih=>exact λacc Q1 Q2 s m h=>aM h λv s1 ⟨y,tk,a,b,c⟩=>⟨y,tk,a,b,ih _ _ _ _ m c⟩
 exact mono _ _ _ _ _ (λout s1 ⟨hl,H',I',q⟩=>⟨hl,.str out,H',I'.tok _,⟨_,rfl⟩,q⟩) (h pins s σ H km _ I hq)
theorem cv7(he:PE X e te):PE X (.FormattedValue e (-1) none pos) (λσ H Q=>te σ H λv H1=>∃n:Int,v=.int n/\n.natAbs.log2<1920/\Q (.str (toString n)) H1):=λpins s σ H Q I h=>by
 refine wpAny_FormattedValue_plain (aM (he pins s σ H _ I h) λu s1 ⟨x,H1,I1,r1,n,ex,hn,q⟩=>?_)
 subst ex
 obtain⟨tk,rfl⟩:=r1
 exact wpAny_formatField_int hn ⟨.str _,H1,I1.tok _,⟨_,rfl⟩,q⟩
end
end L2
namespace L3
open PySem L2 PySem.Spec PyProof.Rows
noncomputable abbrev uA:=Str->Dl->(Str->Dl->Prop)->Prop
noncomputable def lJ(t:uA):TJ:=λacc σ H Q=>∃B F δ ts Qd,aj B F H σ δ ts/\t acc δ Qd/\∀out ag F' H',Qd out ag->af F F'->af H H'->aj B F' H' σ ag ts->Q out H'
noncomputable def uB:uA:=λacc δ Q=>acc.length<=sizeLine/\Q acc δ
noncomputable def dJ(te:aI)(t:uA):uA:=λacc δ Q=>te δ λd ah=>∃y,d=.str y/\(acc++y).length<=sizeLine/\t (acc++y) ah Q
noncomputable def uC(t:uA):aI:=λδ Q=>t km δ λout ag=>Q (.str out) ag
noncomputable def uD(te:aI):aI:=λδ Q=>te δ λd ah=>∃n:Int,d=.int n/\n.natAbs.log2<1920/\Q (.str (toString n)) ah
section
variable{X:Cx}{e v1 v2:Expr}{es rest:List Expr}{te:aI}{t:uA}{pos:Pos}
theorem OT{t t':TJ}(h:PJ X es t)(m:∀acc σ H Q,t' acc σ H Q->t acc σ H Q):PJ X es t':=λpins s σ H acc Q I q=>h pins s σ H acc Q I (m acc σ H Q q)
theorem cA2(hs:evalEach [] X.env=[]:=by rfl):PJ X [] (lJ uB):=OT (cu5 hs) λacc σ H Q ⟨B,F,δ,ts,Qd,c,⟨h1,h2⟩,k⟩=>⟨h1,k _ δ F H h2 (af.refl _) (af.refl _) c⟩
theorem uE(he:PE X e (lB te))(hr:PJ X es (lJ t))(hs:evalEach (e::es) X.env=eval e X.env::evalEach es X.env:=by rfl):PJ X (e::es) (lJ (dJ te t)) :=
 OT (cg1 he hr hs) λacc σ H Q zq=>by
 obtain⟨B,F,δ,ts,Qd,c,q,k⟩:=zq
 exact⟨B,F,δ,ts,_,c,q,λd ah v F1 H1 ⟨y,ed,hl,q1⟩ f1 h1 c1 s1=>by
  subst ed
  cases s1
  exact⟨y,rfl,hl,B,F1,ah,ts,_,c1,q1,λout aP F2 H2 q2 f2 h2 c2=>k out aP F2 H2 q2 (f1.trans f2) (h1.trans h2) c2⟩⟩
theorem cw7(h:PJ X (v1::v2::rest) (lJ t)):PE X (.JoinedStr (v1::v2::rest) pos) (lE (uC t)) :=
 cN (cd6 h) λσ H Q zq=>by
 obtain⟨B,F,δ,ts,Qd,c,q,k⟩:=zq
 exact⟨B,F,δ,ts,_,c,q,λout ah F1 H1 q1 f1 h1 c1=>k _ ah _ F1 H1 q1 f1 h1 (c1.pushS (.str .nil) rfl)⟩
theorem FE(he:PE X e (lB te)):PE X (.FormattedValue e (-1) none pos) (lE (uD te)) :=
 cN (cv7 he) λσ H Q zq=>by
 obtain⟨B,F,δ,ts,Qd,c,q,k⟩:=zq
 exact⟨B,F,δ,ts,_,c,q,λd ah v F1 H1 ⟨n,ed,hn,q1⟩ f1 h1 c1 s1=>by
  subst ed
  cases s1
  exact⟨n,rfl,hn,k _ ah _ F1 H1 q1 f1 h1 (c1.pushS (.str .nil) rfl)⟩⟩
end
end L3
namespace L3
open PySem L2 PySem.Spec PyProof.Rows
section
variable{X:Cx}{n:Nat}{f C:Addr}{fd:FuncData}{ps:List Str}{x:Str}{p pos:Pos}{e:Expr}{es:List Expr}{t:bQ}
theorem bX0{pins:List (Addr × Obj)}{σ:L2.St}{H:Hp}{s:Shared}{Q:VK}{E:XK}{us:List Value}{vs:List V}{sp:L2.Sp}(M:L2.Mk X.K C f)(F:aL X.prog X.w X.K X.mg X.base (gY X.prog X.w) n f fd ps sp)(hr:bI (n+1) X.A)(hb:Binds X.K fd ps [])(hex:X.ex=[])
  (I:Inv X pins σ H s) (r:Vals vs us) (h:∀x dx,H x=none->H dx=none->dx≠x->sp (.ref x::vs) (upd (upd H dx (.own x)) x (.ins C dx [])) (λv H2=>v=.ao/\Q (.ref x) H2) E)
  (hx:∀a T cls H' s',Inv X pins σ H' s'->gA s'.heap a T cls->Apart X pins H' a->Apart X pins H' T->E cls none H'->X.xe (.ref a) s'):wpAny (model X.prog X.w) X.A (call (.ref C) us) (EP X pins σ Q) X.xe s:=by
 have hq:=h (s.heap.objs.size+1) s.heap.objs.size (I.az.fresh (Nat.le_succ _)) (I.az.fresh (bG _)) (eA (Cf _))
 have I2:=Inv.made (C:=C) I
 have r2:Vals (V.ref (s.heap.objs.size+1)::vs) (cj (s.heap.objs.size+1)::us):=.cons rfl r
 have hl:((cj (s.heap.objs.size+1)::us)++[]).length=ps.length:=by
  rw[fO,<- r2.length]
  exact F.len _ _ _ _ hq
 have oj:=hb _ (cj (s.heap.objs.size+1)::us) I2.ck hl
 rw[fO]at oj
 refine wpAny_call (Km (f:=f) I.ck M.makes M.init (beq_iff_eq.mp M.fn) (codeAny_mono (F.run _ X.stack _ _ ⟨cj (s.heap.objs.size+1)::us,[]⟩ (cj (s.heap.objs.size+1)::us) _ _ E (hr.make C us [])
  (I2.rD.make C us []) oj r2 hq) λr s' gX=>?_))
 cases r with
 | error e =>
  obtain⟨a,T,cls,H',rfl,os,bare,un,az,tr,a0,a1,t0,t1,hE⟩:=gX
  exact hx a T cls H' s' (I2.J7 (ch:=[]) os un az bare λb z=>absurd z (by simp)) tr (I2.apart hex a0 a1) (I2.apart hex t0 t1) hE
 | ok fl =>
  cases fl with
  | ret u =>
   obtain⟨v,H',I3,rv,ev,q3⟩:=I2.after gX
   subst ev
   exact⟨rv,⟨V.ref (s.heap.objs.size+1),H',I3,rfl,q3⟩⟩
  | next=>exact eC gX
  | brk=>exact eC gX
  | cont=>exact eC gX
noncomputable def uF(C:Addr)(sp:jH)(t:bQ):Ac:=λδ _ Z=>t δ λds ag=>sp (.obj C [] []::ds.map D.sh) (λ_=>False) λcls=>Z cls ag
theorem cg9{sp:jH}(M:L2.Mk X.K C f)(F:aL X.prog X.w X.K X.mg X.base (gY X.prog X.w) n f fd ps (mQ sp))(hr:bI (n+1) X.A)(hg:Gl X x)(hm:X.mg x=some (.ref C))(hb:Binds X.K fd ps [])(hex:X.ex=[])
  (ha:PA X (e::es) (lA t)) (cE:(x==("__debug__":Str))=false:=by decide) (he:starEach (e::es) X.env=(false,eval e X.env)::starEach es X.env:=by rfl) (bg:(backTo pos (starEach es X.env)).any (·.1)=false:=by rfl) :
  PX X (.Call (.Name x p) (e::es) [] pos) (lX (uF C sp t)):=by
 intro pins s σ H Q Z I hz zz
 obtain⟨B,F0,δ,Qd,Zd,c,q,k,kx⟩:=zz
 refine wpAny_Call_Name_kw (ph I hg hm ?_ cE)
 refine PySem.W.callWith_K (h₀:=X.base) I.ok.mod.kz M.kp (aM (ha pos pins s σ H (λvs H1=>∀x dx,H1 x=none->H1 dx=none->dx≠x->mQ sp (.ref x::vs) (upd (upd H1 dx (.own x)) x (.ins C dx [])) (λv H2=>v=.ao/\Q (.ref x) H2) λcls _ H'=>Z cls H') I ⟨B,F0,δ,[],_,c,q,λds ah vs F1 H1 q1 f1 h1 c1 s1=>?_⟩) λus s1 ⟨vs,H1,I1,r,q⟩=>⟨I1.ck,?_⟩) he bg
 ·intro x dx bW cZ iE
  have sm:af H1 (upd (upd H1 dx (.own x)) x (.ins C dx [])):=.of λb o e=>by rw[aO (cT e bW),aO (cT e cZ)];exact e
  refine⟨_,.obj C [] []::ds.map D.sh,λ_=>False,_,af.refl _,R.obj (ns:=[]) (ws:=[]) (xs:=[]) (by rw[bA];rfl) rfl .nil ((s1.frozen c1.ext).shared sm sm),q1,λd v F' H' A z=>z.elim,λcls H' hC hs=>kx cls ah F1 H' hC f1 (h1.trans (sm.trans hs)) (c1.grow (sm.trans hs))⟩
 ·exact bX0 M F hr hb hex I1 r q λa T cls H' s' I' tr pa pT hE=>hz a T cls H' s' I' tr pa pT hE
end
end L3
namespace L3
open PySem L2 Mf
section
variable{m:Bool × Nat}
theorem cp7{N:Nat}{p q:Nat->Nat->Nat}(r:Rg N p q){f:Nat->Nat}(hf:∀j,f j<N){n a:Nat}(ha:a<n):sm p n f=p (f a) (sm p n λj=>if j=a then 0 else f j):=by
 rw[fH (g:=λj=>p (if j=a then f a else 0) (if j=a then 0 else f j)) λj _=>?_,oE r,uz r (f:=λj=>if j=a then f a else 0) (j0:=a) (by simp[hf]) ha λj _ hj=>if_neg hj]
 ·simp
 ·by_cases c:j=a
  ·subst c;simp[r.z' (hf j)]
  ·simp[c,r.z (hf j)]
theorem OU{N:Nat}{p q:Nat->Nat->Nat}(r:Rg N p q){n:Nat}:∀{ps:List Nat} {f:Nat->Nat},(∀j,f j<N)->ps.Nodup->(∀a∈ps,a<n)->(∀j,j<n->j ∉ ps->f j=0)->sm p n f=sm p ps.length λk=>f (ps.getD k 0)
 | [],f,_,_,_,hz=>lC r λj hj=>hz j hj ij
 | a::ps,f,hf,nd,hp,hz=>by
  obtain⟨n1,n2⟩:=js.mp nd
  have Fs:∀j,(if j=a then 0 else f j)<N:=λj=>by
   by_cases c:j=a
   ·rw[if_pos c];exact r.pos
   ·rw[if_neg c];exact hf j
  rw[cp7 r hf (hp a kj),OU r (ps:=ps) Fs n2 (λb hb=>hp b (fM _ hb)) λj hj hn=>?_,eX,b60 r _ λj _=>hf _]
  ·show _=p (f a) (sm p ps.length λk=>f (ps.getD k 0))
   congr 1
   refine fH λj hj=>?_
   have:=jl hj 0
   exact if_neg λ(z:ps.getD j 0=a)=>n1 (z ▸ this)
  ·by_cases c:j=a
   ·exact if_pos c
   ·rw[if_neg c]
    exact hz j hj λh=>by
     rcases bR.mp h with h | h
     ·exact c h
     ·exact hn h
theorem cq6(hm:m∈aq){a b:Nat}(ha:a<ae m)(hb:b<ae m)(h:a≠b):bC m a b≠0:=λz=>by
 have g:=(ji hm ha hb).2.2
 rw[z,jg hb]at g
 exact h g.symm
section
variable{b e L o:Nat}{y:List (Option Nat)}{w c:List Nat}{bb:Nat->Nat}
end
end
end L3
namespace L3
open PySem L2 Mf
section
variable{m:Bool × Nat}
theorem OV:∀{l l':List Nat},l.Nodup->(∀a∈l,a∈l')->l.length<=l'.length
 | [],_,_,_=>nr _
 | a::l,l',nd,h=>by
  obtain⟨n1,n2⟩:=js.mp nd
  have ha:=h a kj
  have:=OV (l:=l) (l':=l'.erase a) n2 λb hb=>(List.mem_erase_of_ne (λz:b=a=>n1 (z ▸ hb))).mpr (h b (fM _ hb))
  rw[List.length_erase_of_mem ha]at this
  have:=List.length_pos_of_mem ha
  rw[eX]
  omega
end
end L3
namespace L3
open PySem L2 Mf
section
variable{m:Bool × Nat}
end
end L3
namespace L3
open PySem L2 Mf
section
variable{m:Bool × Nat}
end
end L3
namespace L3
open PySem L2 Mf
section
variable{m:Bool × Nat}
theorem cv9(hm:m∈aq){r u v ps:List Nat}{n:Nat}(hu:AllLt (ae m) u)(hv:AllLt (ae m) v)(lr:r.length=n)(lu:u.length=n)(lv:v.length=n)(nd:ps.Nodup)(hp:∀p∈ps,p<n)(hs:∀j,j<n->j ∉ ps->cf u j=cf v j) :
  gd m r u=gp m (sm (gp m) ps.length λt=>gm m (cf r (ps.getD t 0)) (bC m (cf u (ps.getD t 0)) (cf v (ps.getD t 0)))) (gd m r v):=by
 have g:=rg hm
 have h0:=bO m hm
 have dn:∀j,gp m (bC m (cf u j) (cf v j)) (cf v j)=cf u j:=λj=>(ji hm (et hm hu j) (et hm hv j)).2.2
 rw[AX m (lr.trans lu.symm),AX m (lr.trans lv.symm),lr,
  fH (g:=λk=>gp m (gm m (cf r k) (bC m (cf u k) (cf v k))) (gm m (cf r k) (cf v k))) λk _=>by rw[<-xG h0,dn k],oE g,
  OU g (ps:=ps) (f:=λk=>gm m (cf r k) (bC m (cf u k) (cf v k))) (λ_=>dq hm _ _) nd hp λj hj hn=>by rw[hs j hj hn,xN,hW m _ h0]]
end
end L3
namespace L3
open PySem L2 PySem.Spec PyProof.Rows
section
variable{X:Cx}{e:Expr}{t:aI}
end
end L3
namespace L3
open PySem L2 Mf
section
variable{m:Bool × Nat}
theorem cD3(hm:m∈aq){T:List (List Nat)}(hT:RT (ae m) (aD T) T):RT (ae m) (aD T) (qK m (cK m T) (aD T))/\(qK m (cK m T) (aD T)).length<=aD T:=by
 obtain⟨⟨Hd,I⟩,iR,_,_⟩:=m3 hm hT
 refine⟨λr hr=>?_,?_⟩
 ·obtain⟨f,hf,rfl⟩:=dA.mp hr
  obtain⟨k1,k2,_⟩:=AZ hm iR I hf
  exact⟨k1,k2⟩
 ·unfold qK eK
  rw[bY]
  exact eO (JX ..) (by rw[de];exact bG _)
theorem cw5(hm:m∈aq){T:List (List Nat)}(hT:RT (ae m) (aD T) T):∀r∈cK m T,∃x∈r,x≠0:=λr bU=>by
 obtain⟨⟨Hd,I⟩,iR,_,_⟩:=m3 hm hT
 obtain⟨j,hj,rfl⟩:=kq bU
 have:=(I.Fv hm iR hj).2
 rw[cv3 hj]at this
 exact this
end
end L3
namespace L3
open PySem L2 Mf
section
variable{m:Bool × Nat}
end
end L3
namespace L2
open PySem PySem.Spec PyProof.Rows
section
variable{X:Cx}{CX:dB}{k:Nat}{f C:Addr}{fd:FuncData}{ps:List Str}{sp:Sp}{E:XK}{x m:Str}{p pos apos:Pos}{e:Expr}{es:List Expr}{t:TA}
noncomputable def tCM(sp:Sp)(E:XK)(t:TA):TE:=λσ H Q=>t σ H λvs H1=>sp vs H1 Q E
theorem cE1{pl:Sem Bool}(M:uf X.K C m f)(F:aL X.prog X.w X.K X.mg X.base CX k f fd ps sp)(hr:bI k X.A)(hb:Binds X.K fd ps [])(hx:i5 CX X E)(hg:Gl X x)(hm:X.mg x=some (.ref C))(ha:PA X (e::es) t)
  (cE:(x==("__debug__":Str))=false:=by decide) (bS:starEach (e::es) X.env=(false,eval e X.env)::starEach es X.env:=by rfl) (bg:(backTo pos (starEach es X.env)).any (·.1)=false:=by rfl)
  (ht:eval (.Call (.Attribute (.Name x p) m apos) (e::es) [] pos) X.env=(do
   let ov<-eval (.Name x p) X.env
   standAt apos.atName
   let (f,first)<-holding [ov] (getMethod ov m pl)
   callWith pos f first (backTo pos (starEach (e::es) X.env)) (backToKw pos (keywordEach [] X.env))):=by rfl) :
  PE X (.Call (.Attribute (.Name x p) m apos) (e::es) [] pos) (tCM sp E t):=by
 intro pins s σ H Q I h
 exact Nm (pl:=pl) I M hg hm ha h (λus s1 vs H1 I1 r q=>rE (dX:=[]) F hr hb .nil hx I1 r (by rw[fO];exact q)) cE bS bg ht
end
end L2
namespace L3
open PySem L2 PySem.Spec PyProof.Rows
end L3
namespace L3
open PySem L2 PySem.Spec PyProof.Rows
noncomputable def FF(tl:List Addr)(C:Addr)(gI:List D->List Str->List D->Prop):L2.Sp:=λvs H Q _=>∃F H0 x dx bV ds ns xs,vs=.ref x::bV/\Tb tl H/\af F H0/\H0 x=none/\af H0 H/\H x=some (.ins C dx [])/\R F H0 ds bV []/\gI ds ns xs /\
 ∀H' ws A,bM x H H'->H' x=some (.ins C dx (ns.zip ws))->ns.length=ws.length->R F H' xs ws A->A.Nodup->(∀a∈A,H a=none)->Q .ao H'
noncomputable def qM(C:Addr)(gI:List D->List Str->List D->Prop)(ta:bQ):aI:=λδ Q=>ta δ λds ag=>ds.all D.pl=true/\∃ns xs,gI ds ns xs/\Q (.obj C ns (xs.map D.sh)) ag
theorem aj.OW{B:Bs}{F H H':Hp}{σ:L2.St}{δ:Dl}{ts:List (D × V)}{C dx x:Addr}{ns:List Str}{xs:List D}{ws:List V}{A:List Addr}(c:aj B F H σ δ ts)(hs:af H H')(hx:H' x=some (.ins C dx (ns.zip ws)))(hl:ns.length=ws.length)
  (r1:R F H' xs ws A) (fr:∀a∈A,H a=none):af F (L3.br F H' A)/\aj B (L3.br F H' A) H' σ δ ((.obj C ns (xs.map D.sh),.ref x)::ts):=by
 have c1:=c.grow hs
 have r2:=r1.br c1.ext A (λ_ h=>h)
 have fs:af F (L3.br F H' A):=iH c1.ext
 obtain⟨A',C',r',s',nd,uh⟩:=c.own
 have out:∀a,(∃ws,H a=some (.lst ws))/\F a=none->L3.br F H' A a=none:=λa zz=>by
  obtain⟨⟨ws,h⟩,hf⟩:=zz
  rw[pP (λz=>by rw[fr a z]at h;cases h)];exact hf
 have g1:=r'.grow fs hs λa ha=>out a (r'.lists a ha)
 have g2:=s'.keep fs (fC.same hs) gB.nil (λa ha=>out a (s'.lists a ha)) (by simp)
 refine⟨fs,pO c1.ext,c1.b1,c1.b2.trans fs,λa ws h=>?_,A',C',?_,g2,nd,uh⟩
 ·by_cases z:a∈A
  ·exact .inr (c.b1.free (fr a z))
  ·rw[pP z]at h;exact c.b3 a ws h
 ·exact R.obj hx hl r2 g1
section
variable{X:Cx}{CX:dB}{n:Nat}{f C:Addr}{fd:FuncData}{ps:List Str}{gI:List D->List Str->List D->Prop}{E:XK}{x:Str}{p pos:Pos}{e:Expr}{es:List Expr}{t:bQ}{tl:List Addr}
theorem cl5(hT:Tb tl X.iZ)(M:L2.Mk X.K C f)(F:aL X.prog X.w X.K X.mg X.base CX n f fd ps (FF tl C gI))(hr:bI (n+1) X.A)(hg:Gl X x)(hm:X.mg x=some (.ref C))(hb:Binds X.K fd ps [])(hx:i5 CX X E)
  (ha:PA X (e::es) (lA t)) (cE:(x==("__debug__":Str))=false:=by decide) (he:starEach (e::es) X.env=(false,eval e X.env)::starEach es X.env:=by rfl) (bg:(backTo pos (starEach es X.env)).any (·.1)=false:=by rfl) :
  PE X (.Call (.Name x p) (e::es) [] pos) (lE (qM C gI t)):=by
 intro pins s σ H Q I zz
 obtain⟨B,F',δ,ts,Qd,c,q,k⟩:=zz
 have tb:=Ak I hT
 refine Dk M F hr hg hm hb .nil hx ha cE he bg pins s σ H Q I ⟨B,F',δ,ts,_,c,q,λds ah vs F1 H1 q1 f1 h1 c1 s1=>?_⟩
 intro x dx bW cZ iE
 obtain⟨hp,ns,xs,hI,hq⟩:=q1
 have sm:af H1 (upd (upd H1 dx (.own x)) x (.ins C dx [])):=.of λb o e=>by rw[aO (cT e bW),aO (cT e cZ)];exact e
 refine⟨F1,H1,x,dx,vs,ds,ns,xs,by rw[fO],qy (qy tb h1) sm,c1.ext,bW,sm,bA,s1.r hp,hI,λH' ws A oq cU hl r nd fr=>⟨rfl,?_⟩⟩
 have s2:af H1 H':=⟨λb o e n=>oq.get b o (cT e bW) (sm.get b o e n) n,λb ps e=>by
  obtain⟨m1,e1⟩:=sm.tb b ps e
  obtain⟨m2,e2⟩:=oq.tb b _ e1
  exact⟨m1++m2,by rw[e2,oN]⟩⟩
 obtain⟨fs,c2⟩:=c1.OW s2 cU hl r λa ha=>sm.free (fr a ha)
 exact k _ ah _ _ H' hq (f1.trans fs) (h1.trans s2) c2
end
section
variable{X:Cx}{e:Expr}{te:aI}{x:Str}{p pos:Pos}{i:Nat}
end
theorem bM.of0{x:Addr}{H0 H H':Hp}(h0:H0 x=none)(s:af H0 H)(sx:bM x H H'):af H0 H' :=
 ⟨λb o e n=>sx.get b o (λz=>by rw[z,h0]at e;cases e) (s.get b o e n) n,λb ps e=>by
  obtain⟨m1,e1⟩:=s.tb b ps e
  obtain⟨m2,e2⟩:=sx.tb b _ e1
  exact⟨m1++m2,by rw[e2,oN]⟩⟩
theorem xW{F H:Hp}{v:V}{A:List Addr}{xs:List D}(r:R F H [.lst true xs] [v] A):∃p,v=.ref p:=by
 cases r
 exact⟨_,rfl⟩
theorem OX{F H F' H':Hp}:∀{l:List Int} {ws:List V} {A:List Addr},R F H (aE l) ws A->R F' H' (aE l) ws A
 | [],_,_,r=>by cases r;exact .nil
 | i::l,_,_,r=>by
  cases r with
  | int r=>exact .int (OX r)
theorem OY{F H H':Hp}:∀{G:List (List Nat)} {ws:List V} {A:List Addr},R F H (aQ true G) ws A->(∀a∈A,H' a=H a)->R F H' (aQ true G) ws A
 | [],_,_,r,_=>by cases r;exact .nil
 | g::G,_,_,r,h=>by
  cases r with
  | own e f x y=>exact .own (by rw[h _ kj];exact e) f (OX (l:=g.map λ(n:Nat)=>(n:Int)) x) (OY y λa ha=>h a (fM _ (dM _ ha)))
theorem cg3{F H H':Hp}{G:List (List Nat)}{v:V}{A:List Addr}(r:R F H [.lst true (aQ true G)] [v] A)(h:∀a∈A,H' a=H a):R F H' [.lst true (aQ true G)] [v] A:=by
 cases r with
 | own e f x y =>
  cases y
  exact .own (by rw[h _ kj];exact e) f (OY x λa ha=>h a (fM _ (eB _ ha))) .nil
noncomputable abbrev qN:List Str:=["field","length","check_rows","word_rows","message_places","size"]
structure cU8(K:PySem.W.Frag)(C:Addr):Prop where
 cls:cB K C
 field:bj K C "field"
 length:bj K C "length"
 cU9:bj K C "check_rows"
 cV0:bj K C "word_rows"
 OZ:bj K C "message_places"
 size:bj K C "size"
end L3
namespace L3
open PySem L2 Mf
section
variable{m:Bool × Nat}
end
end L3
namespace L2
open PySem PySem.Spec PyProof.Rows
structure xX(K:PySem.W.Frag)(x qual:Str)(st:Stmt)(f:Addr)(fd:FuncData):Prop where
 ex:∃(oc:Value) (od:Option Addr) (dV kV doc pm:Value) (an:Option Addr) (ax ct:Value) (fU:Array (Option Value)),
  fd=PySem.W.fnOf x qual (gw st) (eD st) (aK st) dV kV doc pm an ax ct/\K.lookup f=some ⟨oc,od,.func fd,fU⟩/\PySem.W.codeIn K ax qual=true
 kp:PySem.W.keepIn K (.ref f)=true
section
variable{P:Program}{w:World}{K:PySem.W.Frag}{mg:Str->Option Value}{base:Heap}
theorem xX.ok{x qual:Str}{st:Stmt}{f:Addr}{fd:FuncData}{N ps:List Str}{k:Nat}{sp:Sp}(F:xX K x qual st f fd)(S:aY N ps (aK st))(len:∀vs H Q E,sp vs H Q E->vs.length=ps.length)
  (fm:∀(ax:Value) (A:Around) (outer:List Env) (s:Shared) (H:Hp) (vs:List V) (Q:VK) (E:XK),bI k (A.deeper (envOfC qual (aK st) s.heap.objs.size f ax))->sp vs H Q E ->
   ∃t,PSs (fS aS P w K mg base N qual (aK st) f ax A outer s H E).fk (eD st) t/\t { nx:=λ_ H'=>Q .ao H',rt:=Q } (start N vs) H):aL P w K mg base aS (k+1) f fd ps sp:=by
 obtain⟨oc,od,dV,kV,doc,pm,an,ax,ct,fU,rfl,lk,cm⟩:=F.ex
 refine vP lk cm S len λA outer s H vs Q E hr gu=>?_
 obtain⟨t,h,q⟩:=fm ax A outer s H vs Q E hr gu
 exact⟨t,h.fk,q⟩
theorem cd9{x qual:Str}{st:Stmt}{f:Addr}{oc:Value}{od an:Option Addr}{fU:Array (Option Value)}{dV kV doc pm ax ct:Value}(l:K.lookup f=some ⟨oc,od,.func (PySem.W.fnOf x qual (gw st) (eD st) (aK st) dV kV doc pm an ax ct),fU⟩)
  (c:PySem.W.codeIn K ax qual=true) (k:PySem.W.keepIn K (.ref f)=true):xX K x qual st f (PySem.W.fnOf x qual (gw st) (eD st) (aK st) dV kV doc pm an ax ct):=⟨⟨oc,od,dV,kV,doc,pm,an,ax,ct,fU,rfl,l,c⟩,k⟩
theorem ct9{fd:FuncData}{ps:List Str}{T:Addr}{o:Obj}{items:Array Value}{n:Nat}(hd:fd.defaults=.ref T)(ho:K.lookup T=some o)(hs:o.data=.seq items n)
  (h:∀us:List Value,us.length=ps.length->∃k,bindArgs fd ⟨us,[]⟩=seqItems? fd.defaults >>= k/\k (some items)=pure (ps.zip us)):Binds K fd ps []:=λs us KX hl=>by
 rw[fO]at hl ⊢
 obtain⟨k,h1,h2⟩:=h us hl
 exact .of_defaults hd (KX _ _ ho) hs h1 h2
end
end L2
namespace L3
open PySem L2 Mf
inductive Kd
 | chk (b:Nat) | rep | gP (e f:Nat)
structure xY(pre:List (Str × V)):Prop where
 put:∀(n:Str) (v:V) (l:List (Str × V)),n∈qN->bt n v (pre++l)=pre++bt n v l
 look:∀(n:Str) (l:List (Str × V)),n∈qN->(pre++l).lookup n=l.lookup n
 len:pre.length<=2
theorem xY.two(e f:V):xY [("extra",e),("first",f)]:=by
 have h1:∀n∈qN,("extra":Str)≠n/\("first":Str)≠n:=by decide
 refine⟨λn v l hn=>?_,λn l hn=>?_,bG 2⟩
 ·obtain⟨a,b⟩:=h1 n hn
  show bt n v (("extra",e)::("first",f)::l)=_
  rw[bt,if_neg a,bt,if_neg b];rfl
 ·obtain⟨a,b⟩:=h1 n hn
  show kl n (("extra",e)::("first",f)::l)=_
  rw[eY,beq_false_of_ne a.symm,eY,beq_false_of_ne b.symm]
theorem xY.lt{pre l:List (Str × V)}(h:xY pre)(hl:l.length<=6):(pre++l).length<1000:=by
 have:=h.len
 rw[iX];omega
section
variable{m:Bool × Nat}{G:List (List Nat)}
noncomputable def wrs(m:Bool × Nat)(G:List (List Nat)):List (List Nat):=qK m (cK m G) (aD G)
noncomputable def gb(m:Bool × Nat)(G:List (List Nat)):List Nat:=eK (cK m G) (aD G)
noncomputable def m4(cb cp:Addr)(o:Bool)(m:Bool × Nat)(G:List (List Nat)):List D:=[fD cb cp m,.int (aD G:Nat),.lst o (aQ o G),.lst o (aQ o (wrs m G)),.lst o (aA (gb m G)),.int ((gb m G).length:Nat)]
noncomputable def v9(cb cp cc cr cs:Addr)(m:Bool × Nat)(G:List (List Nat)):Kd->D
 | .chk b=>.obj cc ["field","length","check_rows","word_rows","message_places","size","bound"] (m4 cb cp false m G++[.int (b:Nat)])
 | .rep=>.obj cr qN (m4 cb cp false m G)
 | .gP e f=>.obj cs ["extra","first","field","length","check_rows","word_rows","message_places","size"] ([.int (e:Nat),.int (f:Nat)]++m4 cb cp false m G)
theorem bY9(cb cp:Addr)(o:Bool)(m:Bool × Nat)(G:List (List Nat)):(m4 cb cp o m G).map D.sh=m4 cb cp false m G:=by
 unfold m4
 simp only[dN,lM,EZ,eT,iQ,xn,<- eJ,nZ]
theorem FG(cb cp cc cr cs:Addr)(m:Bool × Nat)(G:List (List Nat))(k:Kd):(v9 cb cp cc cr cs m G k).sh=v9 cb cp cc cr cs m G k:=by cases k<;>rfl
structure qO(m:Bool × Nat)(G:List (List Nat)):Prop where
 hm:m∈aq
 rt:RT (ae m) (aD G) G
 len:G.length<=64
 wid:aD G<=64
 sz:0<(gb m G).length
theorem qO.red(h:qO m G):(∃H,RR (aD G) (cK m G) H)/\RT (ae m) (aD G) (cK m G):=⟨(m3 h.hm h.rt).1,(m3 h.hm h.rt).2.1⟩
end
end L3
namespace L3
open PySem L2 PySem.Spec PyProof.Rows
section
variable{X:Cx}{scope:Scope}{tg iter elt:Expr}{ifs:List Expr}{pos:Pos}{cl:List (Str × Addr)}{ti:iJ}{g:gC}{tt:eU}{te:aI}
theorem b04{i:Nat}{x:Str}{pos' apos:Pos}(hN:X.N.Nodup)(kW:X.N[i]?=some x)(hx:L2.Loc X.env.scope x)(av:List (Str × Nat))(bB:List Str)(hc:X.calm=true)(hi:PI X tg iter (lI ti))
  (hg:∀C s H fp,PG (c9 X scope (av.map (·.1)++bB) cl C s H fp) tg (lG av.length g))
  (ht:∀C s H fp,kH (c9 X scope (av.map (·.1)++bB) cl C s H fp) ifs (lT tt)) (he:∀C s H fp,PE (c9 X scope (av.map (·.1)++bB) cl C s H fp) elt (lE te))
  (j9:closureFor scope X.env=pure cl) (ka:kI X cl) (kb:∀C:Addr,kJ (cellsFrom (C+1) scope.names cl) (relabel scope X.env).names) (ke:∀C:Addr,kG X scope (cellsFrom (C+1) scope.names cl) av)
  (gv:scope.kind=.function) (kg:∀y∈scope.names,y.2=.local->scope.names.lookup y.1=some .local)
  (qo:swapsWith (.ListComp elt [⟨tg,iter,ifs,0⟩] scope pos) (some (.Name x pos')) apos.line X.env=pure true:=by rfl) (hf:X.fn x=true\/X.env.scope.names.lookup x=some .local:=by first | exact .inl rfl | exact .inr rfl)
  (hs:∀x,foldedSetIterable iter X.env x=pure x:=by intro _;rfl):PS X (.Assign [.Name x pos'] (.ListComp elt [⟨tg,iter,ifs,0⟩] scope pos) apos) (λEn σ H=>lE (nS ti av bB.length g tt te) σ H λv H'=>En.nx (σ.set i (some v)) H') :=
 kN (Ou hN kW hx hf av bB hc hi hg ht he j9 ka kb ke gv kg qo hs) λEn σ H ⟨B,F,δ,ts,Qd,c,q,k⟩=>⟨B,F,δ,ts,_,c,q,λsh xs ah J F1 H1 hq f1 h1 c1 mI qa=>by
  obtain⟨p,f,hx,dE,hlen,hQ⟩:=hq
  exact DZ c1 mI qa p f hx dE hlen hQ λd ag v F' H' hd hf hs c'=>k d ag v F' H' hd (f1.trans hf) (h1.trans hs) c'⟩
end
theorem aj.self{F H:Hp}{σ:L2.St}{δ:Dl}{o:Option V}(e:af F H)(r:RS F H δ σ []):aj ⟨H,F⟩ F H (o::σ) (none::δ) []:=⟨e,af.refl _,af.refl _,λ_ _ q=>.inl q,[],[],.nil,.ao r,by simp,by simp⟩
end L3
namespace L2
open PySem
theorem bq{N P:List Str}{sc:Scope}(a:sc.kind=.function:=by rfl)(b:sc.isCoroutine=false:=by rfl)(c:sc.isGenerator=false:=by rfl)(d:N.Nodup:=by decide +kernel)(e:N.take P.length=P:=by rfl)(f:∀x∈P,sc.names.lookup x=some .local\/sc.names.lookup x=some .cell:=by decide +kernel)(g:∀y∈sc.names,y.2≠.free:=by decide +kernel):aY N P sc:=⟨a,b,c,d,e,f,g⟩
end L2
namespace L2
open PySem
end L2
namespace L3
open PySem L2 PySem.Spec PyProof.Rows
theorem jm{X:Cx}{m i:Nat}{x:Str}{pos:Pos}(hN:X.N.Nodup)(hi:X.N[i]?=some x:=by rfl)(hx:Loc X.env.scope x:=by first | exact ay (lookup_relabel_local rfl) | exact cA rfl | exact ay rfl)(hm:m<=i:=by decide)
  (hf:X.fn x=true\/X.env.scope.names.lookup x=some .local:=by first | exact .inr (lookup_relabel_local rfl) | exact .inl rfl | exact .inr rfl):PG X (.Name x pos) (lG m (gN i)):=jz hN hi hx hm hf
theorem FH{X:Cx}{m i1 i2:Nat}{y1 y2:Str}{t1 t2 tp:Pos}{tk:Nat}(Ah:X.N.Nodup)(hc:X.calm=true:=by rfl)(m1:X.N[i1]?=some y1:=by rfl)(l1:Loc X.env.scope y1:=by first | exact ay (lookup_relabel_local rfl) | exact cA rfl)(m2:X.N[i2]?=some y2:=by rfl)(l2:Loc X.env.scope y2:=by first | exact ay (lookup_relabel_local rfl) | exact cA rfl)(MV:m<=i1:=by decide)(jF:m<=i2:=by decide)
  (f1:X.fn y1=true\/X.env.scope.names.lookup y1=some .local:=by first | exact .inr (lookup_relabel_local rfl) | exact .inl rfl) (f2:X.fn y2=true\/X.env.scope.names.lookup y2=some .local:=by first | exact .inr (lookup_relabel_local rfl) | exact .inl rfl)
  (EA:(assignEach [.Name y1 t1,.Name y2 t2] X.env).map (·.2)=assign (.Name y1 t1) X.env::(assignEach [.Name y2 t2] X.env).map (·.2):=by rfl) (EB:(assignEach [.Name y2 t2] X.env).map (·.2)=assign (.Name y2 t2) X.env::(assignEach [] X.env).map (·.2):=by rfl)
  (hn:(assignEach [.Name y1 t1,.Name y2 t2] X.env).length=2:=by rfl) (bS:(assignEach [.Name y1 t1,.Name y2 t2] X.env).findIdx? (·.1)=none:=by rfl) :
  PG X (.Tuple [.Name y1 t1,.Name y2 t2] tk tp) (lG m (jc i1 i2)):=tZ hc Ah m1 l1 m2 l2 MV jF f1 f2 EA EB hn bS
end L3
namespace L2
open PySem
structure Fk(K:PySem.W.Frag)(mg:Str->Option Value)(x:Str)(st:Stmt)(ps:List Str)(f:Addr)(fd:FuncData):Prop where
 F:aZ K x x st f fd
 g:mg x=some (.ref f)
 b:Binds K fd ps []
structure Fm(K:PySem.W.Frag)(x q:Str)(st:Stmt)(ps:List Str)(f:Addr)(fd:FuncData):Prop where
 F:aZ K x q st f fd
 b:Binds K fd ps []
end L2
namespace L3
open PySem L2 PySem.Spec PyProof.Rows
theorem cy{X:Cx}{x:Str}{st:Stmt}{ps:List Str}{f:Addr}{fd:FuncData}{n k:Nat}{sp:bc}{e:Expr}{es:List Expr}{t:bQ}{p pos:Pos}(Q:Fk X.K X.mg x st ps f fd)(F:aL X.prog X.w X.K X.mg X.base aS n f fd ps (bf sp))(hr:bI k X.A)(ha:PA X (e::es) (lA t))(hn:n<=k:=by decide)(hg:Gl X x:=by rfl)
  (cE:(x==("__debug__":Str))=false:=by decide) (he:starEach (e::es) X.env=(false,eval e X.env)::starEach es X.env:=by rfl) (bg:(backTo pos (starEach es X.env)).any (·.1)=false:=by rfl) :
  PE X (.Call (.Name x p) (e::es) [] pos) (lE (nR sp t)):=wg (F.mono hn) hr hg Q.g Q.F.kp Q.b dP ha cE he bg
end L3
namespace L3
open PySem L2 Mf
theorem FI{m:Bool × Nat}(hm:m∈aq)(f n:Nat){e:Nat}(he:1<=e):RT (ae m) n (cW m f (aJ n) e)/\(cW m f (aJ n) e).length=e/\aD (cW m f (aJ n) e)=n:=by
 obtain⟨g1,g2⟩:=A6 hm f (aJ n) e
 rw[de]at g1
 exact⟨g1,g2,OK g1 λz=>by
  rw[z]at g2
  exact absurd g2 (by show ¬ 0=e;omega)⟩
end L3
namespace L3
open PySem L2 Mf
section
variable{m:Bool × Nat}
structure Wd(m:Bool × Nat)(T:List (List Nat))(w:List Nat):Prop where
 ln:w.length=aD T
 lt:AllLt (ae m) w
 z:∀r∈T,gd m r w=0
noncomputable def qP(n:Nat)(u v:List Nat):List Nat:=(aJ n).filter λj=>decide (cf u j≠cf v j)
theorem O0{n:Nat}{u v:List Nat}{j:Nat}:j∈qP n u v↔j<n/\cf u j≠cf v j:=by unfold qP;rw[oM,dH,decide_eq_true_iff]
theorem O1(n:Nat)(u v:List Nat):(qP n u v).Nodup:=List.nodup_range.filter _
noncomputable def Bb(m:Bool × Nat)(T:List (List Nat))(d:Nat):Prop:=∀u v,Wd m T u->Wd m T v->u≠v->d<=(qP (aD T) u v).length
theorem ck8(hm:m∈aq){T:List (List Nat)}{d:Nat}(hT:RT (ae m) (aD T) T)(hD:∀S,Fx (aD T) S->S.length<d->OO m (xU T) S):Bb m T d:=λu v hu hv hn=>by
 have g:=rg hm
 have h0:=bO m hm
 refine Jy λfV=>hn ?_
 have mem:=λj=>O0 (n:=aD T) (u:=u) (v:=v) (j:=j)
 have nd:=O1 (aD T) u v
 have ic:Fx (aD T) (qP (aD T) u v):=⟨List.pairwise_lt_range.filter _,λx hx=>((mem x).mp hx).1⟩
 generalize qP (aD T) u v=ps at mem nd ic fV
 have I:=hD ps ic fV (λt=>bC m (cf u (ps.getD t 0)) (cf v (ps.getD t 0))) (λt=>(ji hm (et hm hu.lt _) (et hm hv.lt _)).2.1) λk=>by
  by_cases hk:k<T.length
  ·have hr:=jl hk []
   have s:=cv9 hm hu.lt hv.lt (hT _ hr).1 hu.ln hv.ln nd (λp hp=>((mem p).mp hp).1) λj hj hn=>T6 λz=>hn ((mem j).mpr ⟨hj,z⟩)
   rw[hu.z _ hr,hv.z _ hr,lj (AM g λ_ _=>dq hm _ _)]at s
   exact Eq.trans (fH λt _=>fZ m _ _) s.symm
  ·refine lC g λt _=>?_
   show gm m _ (cf (T.getD k []) _)=0
   rw[aU,jR (by omega)]
   exact hW m _ h0
 refine OF hu.ln hv.ln λj hj=>T6 λz=>?_
 obtain⟨t,ht,e⟩:=kq ((mem j).mpr ⟨hj,z⟩)
 have e2:ps.getD t 0=j:=by rw[aU,aT ht];exact e
 have:=I t ht
 rw[e2]at this
 exact cq6 hm (et hm hu.lt _) (et hm hv.lt _) z this
theorem FJ(n j:Nat):cf (aX n 0) j=0:=by
 unfold cf
 rw[aU,u6]
 split<;>rfl
theorem bI2(hm:m∈aq){T:List (List Nat)}(hT:RT (ae m) (aD T) T):Wd m T (aX (aD T) 0):=by
 have fq:=lo1 hm
 refine⟨jM ..,λa ha=>by rw[(vg.mp ha).2];omega,λr hr=>?_⟩
 rw[AX m (by rw[(hT r hr).1,jM])]
 exact lC (rg hm) λj _=>by rw[FJ];exact hW m _ (bO m hm)
theorem O2(hm:m∈aq){f n e:Nat}(hn:n+1<=ae m):Fy m e n (λj=>eS m (j:Int)) (λj=>eS m ((f:Int)*(j:Int))) (cW m f (aJ n) e) where
 rt:=by have:=(A6 hm f (aJ n) e).1;rw[de]at this;exact this
 l:=(A6 hm f (aJ n) e).2
 xl:=λj=>xH hm _
 xd:=λi j hi hj h=>cw0 hm (by omega) (by omega) h
 yl:=λj=>xH hm _
 y0:=λj _=>by have:=(mW hm ((f:Int)*(j:Int))).1;omega
 at_:=λi hi=>⟨i,hi,λj hj=>by
  unfold xU
  rw[ci1 hi,N7 hm,E1 hm]
  show cf ((aJ n).map λ(p:Nat)=>eS m (((f:Int)+(i:Int))*(p:Int))) j=_
  rw[Fw _ hj,Int.add_mul,Int.mul_comm (j:Int)]⟩
theorem cf5(hm:m∈aq){f n e:Nat}(hn:n+1<=ae m)(hw:aD (cW m f (aJ n) e)=n):Bb m (cW m f (aJ n) e) (e+1) :=
 ck8 hm (by rw[hw];exact(O2 hm hn).rt) λS hS hl=>(O2 hm hn).ind hm (by rw[hw]at hS;exact hS) (by omega)
variable{G:List (List Nat)}
end
end L3
namespace L3
open PySem L2 PySem.Spec PyProof.Rows
section
variable{X:Cx}{e:Expr}{t:aI}{apos bK:Pos}{F H:Hp}
noncomputable def uG(sep:Str)(t:aI):aI:=λδ Q=>t δ λd ag=>match d with
 | .lst _ xs=>∃zs:List Str,xs=zs.map D.str/\(zs.map (·.length)).sum+zs.length*sep.length<=16777216/\Q (.str (Txt.join sep zs)) ag
 | _=>False
theorem O3:∀{zs:List Str} {ws:List V},S F H (zs.map D.str) ws->ws=zs.map V.str
 | [],_,s=>by cases s;rfl
 | z::zs,_,s=>by
  cases s with
  | str s=>rw[O3 s];rfl
theorem cm6{sep:Str}{j:Nat}{sp:Pos}(he:PE X e (lB t))(jV:attributeBase (.Constant (.str sep) j sp) "join" X.env (eval (.Constant (.str sep) j sp) X.env)=eval (.Constant (.str sep) j sp) X.env:=by rfl)
  (vR:((backTo bK (starEach [e] X.env)).all (λx=>!x.1)&&(backToKw bK (keywordEach [] X.env)).all (λx=>x.1.isSome)
   && decide ([e].length+([]:List Keyword).length+(if([]:List Keyword).isEmpty then 0 else 1)<30))=true:=by rfl)
  (jW:(apos.endLine==bK.line)=true:=by rfl) (hs:starEach [e] X.env=(false,eval e X.env)::starEach [] X.env:=by rfl) (vS:(backTo bK (starEach [] X.env)).any (·.1)=false:=by rfl) :
  PE X (.Call (.Attribute (.Constant (.str sep) j sp) "join" apos) [e] [] bK) (lE (uG sep t)) :=
 cN (KL PySem.F.plainAttrs_str PySem.F.slot_str_join PySem.F.type_str_join ZE J9 (cC he eR hs) jV vR jW hs vS) λσ H Q zq=>by
 obtain⟨B,F,δ,ts,Qd,c,q,k⟩:=zq
 exact⟨rfl,B,F,δ,ts,_,c,q,λd ah v F1 H1 q1 f1 h1 c1 s1=>by
  cases d with
  | lst o xs =>
   obtain⟨zs,rfl,hz,q⟩:=q1
   obtain⟨p,ws,rfl,h,t⟩:=g8 s1 c1.ext
   have e:=O3 t
   subst e
   exact⟨sep,p,zs,rfl,rfl,bH.of h,hz,k _ ah _ F1 H1 q f1 h1 (c1.pushS (.str .nil) rfl)⟩
  | _=>exact q1.elim⟩
end
end L3
namespace L2
open PySem PySem.Spec PyProof.Rows
section
variable{X:Cx}{a b:Expr}{ta:TA}{p p2 pos ia:Pos}
noncomputable def cJ9(ta:TA):TE:=λσ H Q=>ta σ H λvs H1=>∃i j:Nat,vs=[.int (i:Int),.int (j:Int)]/\i<=j/\j<=1000/\∀l,H1 l=none->Q (.ref l) (upd H1 l (.lst ((nz i (j-i)).map λ(k:Nat)=>V.int (k:Int))))
theorem bz6{b n:Nat}{acc:Array Value}(h:ItemsOf (λ(i:Nat) (v:Value)=>∃t,v=oJ ((b:Int)+(i:Int)*1) t) acc n):Vals ((nz b n).map λ(k:Nat)=>V.int (k:Int)) acc.toList:=by
 have key:∀(l:List Value) (b:Nat),(∀(i:Nat) (v:Value),l[i]?=some v->∃t,v=oJ ((b+i:Nat):Int) t)->Vals ((nz b l.length).map λ(k:Nat)=>V.int (k:Int)) l:=by
  intro l
  induction l with
  | nil=>exact λb _=>.nil
  | cons v l ih =>
   intro b hb
   rw[eX,List.range'_succ,dN]
   refine .cons ?_ (ih (b+1) λi v hv=>?_)
   ·obtain⟨t,rfl⟩:=hb 0 v rfl
    exact⟨t,rfl⟩
   ·obtain⟨t,e⟩:=hb (i+1) v (by simpa using hv)
    exact⟨t,by rw[e];congr 1;omega⟩
 have hl:acc.toList.length=n:=by rw[qZ];exact h.1
 rw[<-hl]
 refine key acc.toList b λi v hv=>?_
 obtain⟨t,e⟩:=h.2 i v (by simpa using hv)
 exact⟨t,by rw[e];congr 1;omega⟩
theorem bq5(hc:X.calm=true)(hg:Gl X "list")(hm:X.mg "list"=none)(mM:Gl X "range")(jF:X.mg "range"=none)(ha:PA X [a,b] ta)
  (hs:starEach [.Call (.Name "range" p2) [a,b] [] ia] X.env=(false,eval (.Call (.Name "range" p2) [a,b] [] ia) X.env)::starEach [] X.env:=by rfl) (bg:(backTo pos (starEach [] X.env)).any (·.1)=false:=by rfl)
  (dW:starEach [a,b] X.env=[(false,eval a X.env),(false,eval b X.env)]:=by rfl) (fL:starEach [b] X.env=[(false,eval b X.env)]:=by rfl) (FK:starEach [] X.env=[]:=by rfl) :
  PE X (.Call (.Name "list" p) [.Call (.Name "range" p2) [a,b] [] ia] [] pos) (cJ9 ta):=by
 intro pins s σ H Q I h
 refine wpAny_Call_Name_kw (mj I hg hm v7 ?_ (by decide) (by decide))
 refine q0 ?_ hs bg
 rw[hs]
 show wpAny _ _ (spliced ((false,eval (.Call (.Name "range" p2) [a,b] [] ia) X.env)::backTo pos (starEach [] X.env))) _ _ s
 refine Calls.spliced_cons ?_
 refine wpAny_Call_Name_kw (mj I mM jF Xk ?_ (by decide) (by decide))
 refine q0 (aM (ha ia pins s σ H _ I h) λus s1 zz=>?_) (by rw[dW,fL]) (by rw[fL];rfl)
 obtain⟨vs,H1,I1,r1,q1⟩:=zz
 obtain⟨i,j,rfl,uv,hj,q⟩:=q1
 obtain⟨u,v,rfl,r,r'⟩:=Vals.two r1
 obtain⟨t,rfl⟩:=r
 obtain⟨t',rfl⟩:=r'
 refine call_range_2 ?_
 rw[FK]
 refine Calls.spliced_nil ?_
 have I2:Inv X pins σ H1 { s1 with heap:=s1.heap.push { cls:=.type "range",data:=.fields #[.int i t,.int j t',.int 1 s1.toks] },toks:=s1.toks+1 }:=I1.kept λb o e=>eG _ e
 refine call_list_range (n:=j-i) (I2.ok.hd hc) (IsRange.new ..) (small_one (by omega) (by omega) (by omega) (by omega)) (by rw[rangeSize_one];split<;>omega) (by omega) λh' tk cW4 c' kp e wo=>?_
 have hv:=bz6 wo
 exact⟨.ref _,_,I2.laid (t':=tk) kp (by omega) (show dk X.prog X.w _ h' _ (.lst _) from⟨by rw[bY,CO];have:=pB;unfold sizeLine;omega,cW4.toList,c',hv,by simpa using e⟩),rfl,q _ (I2.az.fresh (bG _))⟩
end
end L2
namespace L3
open PySem L2 PySem.Spec PyProof.Rows
section
variable{X:Cx}{a b:Expr}{t:bQ}{p p2 pos ia:Pos}
noncomputable def uH(t:bQ):aI:=λδ Q=>t δ λds ah=>∃i j:Nat,ds=[.int (i:Int),.int (j:Int)]/\i<=j/\j<=1000/\Q (.lst true (aA (nz i (j-i)))) ah
theorem by8(hc:X.calm=true)(hg:Gl X "list")(hm:X.mg "list"=none)(mM:Gl X "range")(jF:X.mg "range"=none)(ha:PA X [a,b] (lA t))
  (hs:starEach [.Call (.Name "range" p2) [a,b] [] ia] X.env=(false,eval (.Call (.Name "range" p2) [a,b] [] ia) X.env)::starEach [] X.env:=by rfl) (bg:(backTo pos (starEach [] X.env)).any (·.1)=false:=by rfl)
  (dW:starEach [a,b] X.env=[(false,eval a X.env),(false,eval b X.env)]:=by rfl) (fL:starEach [b] X.env=[(false,eval b X.env)]:=by rfl) (FK:starEach [] X.env=[]:=by rfl) :
  PE X (.Call (.Name "list" p) [.Call (.Name "range" p2) [a,b] [] ia] [] pos) (lE (uH t)) :=
 cN (bq5 hc hg hm mM jF ha hs bg dW fL FK) λσ H Q zq=>by
 obtain⟨B,F,δ,ts,Qd,c,q,k⟩:=zq
 exact⟨B,F,δ,ts,_,c,q,λds ah vs F1 H1 q1 f1 h1 c1 s1=>by
  obtain⟨i,j,rfl,hi,hj,hq⟩:=q1
  cases s1 with
  | int s1=>cases s1 with
   | int s1 =>
    cases s1
    refine⟨i,j,rfl,hi,hj,λl hl=>?_⟩
    have sn:∀ns:List Nat,S F1 H1 (aA ns) (ns.map λ(k:Nat)=>V.int (k:Int)):=λns=>by
     induction ns with
     | nil=>exact .nil
     | cons n ns ih=>exact .int ih
    exact k _ ah _ F1 _ hq f1 (h1.trans (af.upd hl)) (c1.mC hl (sn _) (og _))⟩
end
end L3
namespace L3
open PySem L2 PySem.Spec PyProof.Rows
section
variable{P:Program}{w:World}{K:PySem.W.Frag}{mg:Str->Option Value}{base:Heap}
theorem cf3{x qual:Str}{st:Stmt}{f:Addr}{fd:FuncData}{N ps:List Str}{k:Nat}{sp:jH}(F:xX K x qual st f fd)(S:aY N ps (aK st))(len:∀ds Q E,sp ds Q E->ds.length=ps.length)
  (fm:∀(ax:Value) (A:Around) (outer:List Env) (s:Shared) (H:Hp) (E:XK),bI k (A.deeper (envOfC qual (aK st) s.heap.objs.size f ax)) ->
   ∃t:b9,PSs (fS (gY P w) P w K mg base N qual (aK st) f ax A outer s H E) (eD st) (lS (fS (gY P w) P w K mg base N qual (aK st) f ax A outer s H E) t) /\
    ∀ds Q Ex,sp ds Q Ex->t { nx:=λ_=>Q .ao,rt:=Q,xc:=λC _=>Ex C,xr:=λC _=>Ex C } (i7 N ds)):aL P w K mg base (gY P w) (k+1) f fd ps (mQ sp):=by
 obtain⟨oc,od,dV,kV,doc,pm,an,ax,ct,fU,rfl,lk,cm⟩:=F.ex
 refine vP lk cm S (λvs H Q E ⟨F,ds,Qd,Ed,e,r,h,_⟩=>by rw[<-r.length];exact len ds Qd Ed h) λA outer s H vs Q E hr zz=>?_
 obtain⟨F,ds,Qd,Ed,e,r,h,k,kx⟩:=zz
 obtain⟨t,ht,hq⟩:=fm ax A outer s H E hr
 have fin:∀d v ag aw F' H',Qd d->aj ⟨H,F⟩ F' H' aw ag [(d,v)]->Q v H':=λd v ag aw F' H' hd c=>by
  obtain⟨A,C,r',s',nd,fr⟩:=c.own
  exact k d v F' H' A hd c.b1 c.b2 c.ext c.b3 r' (fW.mp nd).1 λa ha=>fr a (eB _ ha)
 have e1:L2.start N vs=vs.map some++aX (N.length-ds.length) none:=by unfold L2.start;rw[r.length]
 refine⟨_,ht,⟨H,F⟩,F,i7 N ds,_,?_,hq ds Qd Ed h,λag aw F' H' hd c=>fin .ao .ao ag aw F' H' hd (c.pushS (.ao .nil) rfl),fin,λ_ _ _ _ z=>z.elim,λ_ _ _ _ z=>z.elim,λC ag pins aw F' H' s' a T hx c I tr pa pT=>?_,λC ag pins aw F' H' s' h' e vs hx c I hm=>?_⟩
 ·rw[e1]
  exact aj.start e r _
 ·exact Lw I rfl rfl rfl tr pa pT λh' T' g=>⟨a,T',.ref C,H',rfl,I.os,I.bare,g.un,g.az,g.nK,g.a0,g.a1,g.t0,g.t1,kx C H' hx c.b1⟩
 ·exact Lx I rfl rfl rfl hm λh' T' g=>⟨e,T',.ref C,H',rfl,I.os,I.bare,g.un,g.az,g.nK,g.a0,g.a1,g.t0,g.t1,kx C H' hx c.b1⟩
end
section
variable{X:Cx}{CX:dB}{n:Nat}{f C:Addr}{fd:FuncData}{ps:List Str}{gI:List D->List Str->List D->Prop}{E:XK}{x:Str}{p pos:Pos}{e:Expr}{es:List Expr}{t:bQ}{tl:List Addr}
theorem b08{z:Int}(hT:Tb tl X.iZ)(M:L2.Mk X.K C f)(F:aL X.prog X.w X.K X.mg X.base CX n f fd ps (FF tl C gI))(hr:bI (n+1) X.A)(hg:Gl X x)(hm:X.mg x=some (.ref C))(hb:∃tk,Binds X.K fd ps [.int z tk])(hx:i5 CX X E)
  (ha:PA X (e::es) (lA t)) (cE:(x==("__debug__":Str))=false:=by decide) (he:starEach (e::es) X.env=(false,eval e X.env)::starEach es X.env:=by rfl) (bg:(backTo pos (starEach es X.env)).any (·.1)=false:=by rfl) :
  PE X (.Call (.Name x p) (e::es) [] pos) (lE (qM C (λds=>gI (ds++[.int z])) t)):=by
 obtain⟨tk,hb⟩:=hb
 intro pins s σ H Q I zz
 obtain⟨B,F',δ,ts,Qd,c,q,k⟩:=zz
 have tb:=Ak I hT
 refine Dk M F hr hg hm hb (dX:=[.int z]) (.cons ⟨tk,rfl⟩ .nil) hx ha cE he bg pins s σ H Q I ⟨B,F',δ,ts,_,c,q,λds ah vs F1 H1 q1 f1 h1 c1 s1=>?_⟩
 intro x dx bW cZ iE
 obtain⟨hp,ns,xs,hI,hq⟩:=q1
 have sm:af H1 (upd (upd H1 dx (.own x)) x (.ins C dx [])):=.of λb o e=>by rw[aO (cT e bW),aO (cT e cZ)];exact e
 refine⟨F1,H1,x,dx,vs++[.int z],ds++[.int z],ns,xs,rfl,qy (qy tb h1) sm,c1.ext,bW,sm,bA,R.append (s1.r hp) (.int .nil),hI,λH' ws A oq cU hl r nd fr=>⟨rfl,?_⟩⟩
 have s2:af H1 H':=⟨λb o e n=>oq.get b o (cT e bW) (sm.get b o e n) n,λb ps e=>by
  obtain⟨m1,e1⟩:=sm.tb b ps e
  obtain⟨m2,e2⟩:=oq.tb b _ e1
  exact⟨m1++m2,by rw[e2,oN]⟩⟩
 obtain⟨fs,c2⟩:=c1.OW s2 cU hl r λa ha=>sm.free (fr a ha)
 exact k _ ah _ _ H' hq (f1.trans fs) (h1.trans s2) c2
end
theorem cm7{K:PySem.W.Frag}{fd:FuncData}{ps:List Str}{T:Addr}{o:Obj}{z:Int}{tk:Tok}{n k:Nat}(hd:fd.defaults=.ref T)(ho:K.lookup T=some o)(hs:o.data=.seq #[.int z tk] n)
  (hk:k+1=ps.length) (h:∀us:List Value,us.length=k->∃k,bindArgs fd ⟨us,[]⟩=seqItems? fd.defaults >>= k/\k (some #[.int z tk])=pure (ps.zip (us++[.int z tk]))):∃tk,Binds K fd ps [.int z tk]:=⟨tk,λs us KX hl=>by
 obtain⟨k,h1,h2⟩:=h us (by rw[iX,<- hk]at hl;exact vp hl)
 exact .of_defaults hd (KX _ _ ho) hs h1 h2⟩
end L3
namespace L3
open PySem L2 Mf
section
variable{m:Bool × Nat}{G:List (List Nat)}
theorem bV8(h:qO m G){d:Nat}(hd:Bb m G (d+1)){f:Nat}(hf:f∈gb m G):d<=f:=by
 have hm:=h.hm
 obtain⟨⟨H,I⟩,iR⟩:=h.red
 obtain⟨k1,k2,k3,k4,k5⟩:=AZ hm iR I (f:=f) hf
 have hw:Wd m G (fJ m (cK m G) (aD G) f):=⟨k1,k2,λr hr=>by
  rw[AX m (by rw[k1,(h.rt r hr).1]),(h.rt r hr).1]
  exact cc9 hm h.rt hf r hr⟩
 have far:=hd _ _ hw (bI2 hm h.rt) λz=>by
  rw[z,FJ]at k3
  exact absurd k3 (by decide)
 have:=OV (l:=qP (aD G) (fJ m (cK m G) (aD G) f) (aX (aD G) 0)) (l':=aJ (f+1)) (O1 ..) λp hp=>by
  obtain⟨p1,p2⟩:=O0.mp hp
  rw[FJ]at p2
  refine dH.mpr (Nat.lt_of_not_le λc=>p2 ?_)
  by_cases q:∃i,i<(cK m G).length/\H i=p
  ·obtain⟨i,hi,rfl⟩:=q
   rw[k4 i hi,I.z i hi f (by omega),xN]
  ·exact k5 p (by omega) λi hi z=>q ⟨i,hi,z⟩
 rw[de]at this
 omega
theorem bZ6(h:qO m G){e:Nat}(hd:Bb m G (e+1))(hs:aD G<=(gb m G).length+e)(he:e<aD G):gb m G=nz e (aD G-e):=by
 have FL:=λ{f:Nat} (hf:f∈gb m G)=>bV8 h hd hf
 have sp:aJ (aD G)=aJ e++nz e (aD G-e):=by
  have:=List.range'_append_1 (s:=0) (m:=e) (n:=aD G-e)
  rw[CI,show e+(aD G-e)=aD G by omega]at this
  rw[T7,T7,this]
 have em:gb m G=(nz e (aD G-e)).filter λj=>!((cK m G).map cF).contains j:=by
  unfold gb eK at FL ⊢
  rw[sp]at FL ⊢
  rw[TQ,List.filter_eq_nil_iff.mpr λf hf q=>by
   have:=FL (oM.mpr ⟨eB _ hf,q⟩)
   have:=dH.mp hf
   omega,oU]
 rw[em]at hs ⊢
 have:=JX (λj=>!((cK m G).map cF).contains j) (nz e (aD G-e))
 rw[CO]at this
 exact JI.mpr (List.length_filter_eq_length_iff.mp (by rw[CO];omega))
end
end L3
namespace HK33
open PySem.W (Frag codeHdIn kitOne nsIn findIn isFn plainGet hasDictIn plainOver makesIn keepIn specialIn typeIn subIn mroIn fnOf codeIn clsIn mg_of mg_none_of CodeHd)
open PySem L2 L3 Mf
seal L2.PSs L2.PS L2.PE L2.PT L2.PA L2.PI L2.PG L2.PO L2.PW
local macro_rules | `(tactic| walk_at "l3") => do
  let l ← (("si p8 sj sk dT mE nO nQ dC pU nR pZ pY se sg nX tD qm tF tG rS rT rV rX rY rZ pV tu qj qk ii qe sI qf sJ sM sN sP sQ sR iI fX sT sU sV sW qg nV s8 s9 gN tH tw sq sC sD sE sF sG tI tK nS kP fu i9 iM vd rh yY yZ p7 i7 jy ql tP tQ tR tS tU n8 kX t7 qq xj qt tX jc kY xg xh dN lM vi oU eX y6 aX vq vt lZ l8 vv exists_eq_left' exists_eq_left D.bl.injEq D.int.injEq D.lst.injEq D.fz.injEq D.str.injEq D.tup.injEq y7 and_true true_and dO rn lW nu wC wD wF by4 wG wH iG kL nZ wM wN wO wQ wR eT mB wI wJ wK wL fB pM y8 y9 u0 l9 za zb u9 wX wY wZ w4 w5 w6 w9 kT n6 qp jG tL wV tO wU tM wW gF tN if_true nv if_false reduceIte xb decide_eq_true_eq gG og qu xo xm sr ue qF tY qA qB qC ug ur iQ xO mZ xP qJ uB dJ uC uD uF qM uG uH sL EZ cD2 ch6 cj5 AL uo".splitOn " ").toArray.map fun (s : String) => Lean.mkIdent s.toName).mapM fun i => `(Lean.Parser.Tactic.simpLemma| $i:term)
  `(tactic| (try dsimp only [$l,*]) <;> (try simp only [$l,*]))
noncomputable def top (i:Nat):Stmt:=PySem.Challenge.pw_mendfield_k33_code_by_roots.main.body.getD i (.Pass ⟨0,0,0,0⟩)
noncomputable abbrev FN:Stmt:=top 69
theorem FP:aY ["_law_cell_here","_law_some","_law_primes"] ["_law_cell_here"] (aK FN):=bq
noncomputable abbrev FQ:Stmt:=top 58
theorem Bc:aY ["a","product","found","power"] ["a","product"] (aK FQ):=bq
noncomputable abbrev FR:Stmt:=top 59
theorem xZ:aY ["many","product","step","found"] ["many","product"] (aK FR):=bq
noncomputable abbrev FT:Stmt:=top 60
theorem FU:aY ["powers","logs","n","a"] ["powers"] (aK FT):=bq
noncomputable abbrev FV:Stmt:=dY (top 64) 8
theorem av5:aY ["self","n"] ["self","n"] (aK FV):=bq
noncomputable abbrev FW:Stmt:=dY (top 64) 0
theorem aG2:aY ["self","many","product"] ["self","many","product"] (aK FW):=bq
noncomputable abbrev FX:Stmt:=top 63
theorem as4:aY ["prime"] ["prime"] (aK FX):=bq
noncomputable abbrev m5:Stmt:=dY (top 66) 0
theorem aw6:aY ["self","prime"] ["self","prime"] (aK m5):=bq
noncomputable abbrev FY:Stmt:=top 61
theorem Bd:aY ["powers","logs","many","rows","a"] ["powers","logs"] (aK FY):=bq
noncomputable abbrev FZ:Stmt:=top 55
theorem uI:aY ["a","b","quotient","rest","shift"] ["a","b"] (aK FZ):=bq
noncomputable abbrev Ga:Stmt:=top 56
theorem Gb:aY ["a","half","b"] ["a"] (aK Ga):=bq
noncomputable abbrev Gd:Stmt:=top 62
theorem aw7:aY ["bits"] ["bits"] (aK Gd):=bq
noncomputable abbrev Ge:Stmt:=top 54
theorem Be:aY ["a","b","product","k"] ["a","b"] (aK Ge):=bq
noncomputable abbrev m6:Stmt:=dY (top 65) 0
theorem O4:aY ["self","bits","many"] ["self","bits"] (aK m6):=bq
noncomputable abbrev Gf:Stmt:=top 73
theorem aG3:aY ["_law_told_here"] ["_law_told_here"] (aK Gf):=bq
noncomputable abbrev Gg:Stmt:=top 70
theorem aI7:aY ["_law_told_here"] ["_law_told_here"] (aK Gg):=bq
noncomputable abbrev Gh:Stmt:=top 68
theorem aI8:aY ["_law_script","_law_k"] ["_law_script","_law_k"] (aK Gh):=bq
noncomputable abbrev Gi:Stmt:=top 72
theorem uJ:aY ["_law_told_here","_law_a","_law_b","_law_total"] ["_law_told_here","_law_a","_law_b"] (aK Gi):=bq
noncomputable abbrev Gj:Stmt:=top 74
theorem Gk:aY ["_law_told_here","_law_a","_law_powers_here"] ["_law_told_here"] (aK Gj):=bq
noncomputable abbrev Gm:Stmt:=top 28
theorem Gp:aY ["a","length"] ["a"] (aK Gm):=bq
noncomputable abbrev Gq:Stmt:=dY (top 65) 1
theorem aC2:aY ["self","a","b"] ["self","a","b"] (aK Gq):=bq
noncomputable abbrev Gr:Stmt:=dY (top 66) 1
theorem aw8:aY ["self","a","b"] ["self","a","b"] (aK Gr):=bq
noncomputable abbrev Gs:Stmt:=dY (top 65) 3
theorem aA4:aY ["self","a","b"] ["self","a","b"] (aK Gs):=bq
noncomputable abbrev Gu:Stmt:=dY (top 66) 3
theorem av6:aY ["self","a","b"] ["self","a","b"] (aK Gu):=bq
noncomputable abbrev Gv:Stmt:=top 31
theorem Bf:aY ["field","a","b","total","i","x","j","y"] ["field","a","b"] (aK Gv):=bq
noncomputable abbrev Gw:Stmt:=dY (top 65) 2
theorem aA5:aY ["self","a","b"] ["self","a","b"] (aK Gw):=bq
noncomputable abbrev Gx:Stmt:=dY (top 66) 2
theorem av7:aY ["self","a","b"] ["self","a","b"] (aK Gx):=bq
noncomputable abbrev Gy:Stmt:=top 48
theorem aI9:aY ["field","r"] ["field","r"] (aK Gy):=bq
noncomputable abbrev Gz:Stmt:=top 49
theorem Bg:aY ["field","some","found","r"] ["field","some"] (aK Gz):=bq
noncomputable abbrev GA:Stmt:=dY (top 52) 1
theorem aA6:aY ["self"] ["self"] (aK GA):=bq
noncomputable abbrev GB:Stmt:=top 71
theorem aJ0:aY ["_law_told_here","_law_a","_law_b"] ["_law_told_here","_law_a","_law_b"] (aK GB):=bq
noncomputable abbrev GC:Stmt:=top 77
theorem Bh:aY ["_law_told_here","_law_a","_law_x","_law_total","_law_at"] ["_law_told_here","_law_a","_law_x"] (aK GC):=bq
noncomputable abbrev GD:Stmt:=top 78
theorem Bi:aY ["_law_code","_law_told_here","_law_powers_here","_law_three","_law_maker_here","_law_roots","_law_kept"] ["_law_code","_law_told_here","_law_powers_here","_law_three"] (aK GD):=bq
noncomputable abbrev GF:Stmt:=top 15
theorem aL3:aY ["table"] ["table"] (aK GF):=bq
noncomputable abbrev GG:Stmt:=top 16
theorem O5:aY ["rows","place","number","row"] ["rows","place"] (aK GG):=bq
noncomputable abbrev GH:Stmt:=dY (top 65) 6
theorem O6:aY ["self","a","row","by_a"] ["self","a","row"] (aK GH):=bq
noncomputable abbrev GI:Stmt:=dY (top 66) 6
theorem O7:aY ["self","a","row","prime"] ["self","a","row"] (aK GI):=bq
noncomputable abbrev GJ:Stmt:=dY (top 65) 7
theorem O8:aY ["self","row","a","other","by_a"] ["self","row","a","other"] (aK GJ):=bq
noncomputable abbrev GK:Stmt:=dY (top 66) 7
theorem O9:aY ["self","row","a","other","prime"] ["self","row","a","other"] (aK GK):=bq
noncomputable abbrev GL:Stmt:=top 17
theorem aM6:aY ["field","rows","lead_row","place"] ["field","rows","lead_row","place"] (aK GL):=bq
noncomputable abbrev GN:Stmt:=dY (top 64) 5
theorem aG4:aY ["self","a","b"] ["self","a","b"] (aK GN):=bq
noncomputable abbrev GO:Stmt:=top 18
theorem oG:aY ["field","table","done","left","place","number","lead_row"] ["field","table"] (aK GO):=bq
noncomputable abbrev GP:Stmt:=top 23
theorem aN6:aY ["table"] ["table"] (aK GP):=bq
noncomputable abbrev GQ:Stmt:=top 19
theorem bY3:aY ["rows"] ["rows"] (aK GQ):=bq
noncomputable abbrev GR:Stmt:=top 20
theorem Pa:aY ["rows","width","taken"] ["rows","width"] (aK GR):=bq
noncomputable abbrev GS:Stmt:=top 21
theorem uK:aY ["field","rows","width","taken","found","free","x","lead","row"] ["field","rows","width"] (aK GS):=bq
noncomputable abbrev GU:Stmt:=dY (top 26) 0
theorem Pb:aY ["self","field","checks","rows"] ["self","field","checks"] (aK GU):=bq
noncomputable abbrev GV:Stmt:=top 51
theorem ax0:aY ["many","length","extra","first"] ["many","length","extra","first"] (aK GV):=bq
noncomputable abbrev jK:Stmt:=dY (top 52) 0
theorem GW:aY ["self","field","length","extra","first","checks"] ["self","field","length","extra","first"] (aK jK):=bq
noncomputable abbrev GX:Stmt:=top 76
theorem Bj:aY ["_law_field_here","_law_three","_law_refusal","e"] ["_law_field_here","_law_three"] (aK GX):=bq
noncomputable abbrev GY:Stmt:=top 75
theorem m8:aY ["_law_many_here","_law_length","_law_extra","_law_first","_law_cell_here","_law_by"] ["_law_many_here","_law_length","_law_extra","_law_first","_law_cell_here"] (aK GY):=bq
noncomputable abbrev GZ:Stmt:=dY (top 26) 3
theorem aE7:aY ["self"] ["self"] (aK GZ):=bq
noncomputable abbrev G0:Stmt:=dY (top 26) 1
theorem aE8:aY ["self"] ["self"] (aK G0):=bq
noncomputable abbrev G1:Stmt:=dY (top 52) 2
theorem as6:aY ["self"] ["self"] (aK G1):=bq
noncomputable abbrev G2:Stmt:=dY (top 65) 8
theorem aC3:aY ["self"] ["self"] (aK G2):=bq
noncomputable abbrev G3:Stmt:=dY (top 66) 8
theorem ax1:aY ["self"] ["self"] (aK G3):=bq
noncomputable abbrev G4:Stmt:=dY (top 52) 4
theorem aC4:aY ["self"] ["self"] (aK G4):=bq
noncomputable abbrev G5:Stmt:=top 79
theorem uL:aY ["_law_code","_law_powers_here","_law_three","_law_length","_law_extra","_law_first","_law_due","_law_i"] ["_law_code","_law_powers_here","_law_three"] (aK G5):=bq
noncomputable abbrev m9:Stmt:=top 80
theorem jn:aY ["_law_script","_law_told_here","_law_field_here","_law_many_here","_law_kind","_law_length","_law_extra","_law_first","_law_code","_law_powers_here"] ["_law_script"] (aK m9):=bq
set_option genInjectivity false in
set_option genSizeOf false in
structure ft where
 Pc:Addr
 Pd:FuncData
 Pe:Addr
 Pf:FuncData
 Pg:Addr
 Ph:FuncData
 Pj:Addr
 Pk:FuncData
 x6:Addr
 Pl:FuncData
 G6:Addr
 Pm:FuncData
 Pn:Addr
 Po:FuncData
 G7:Addr
 G8:FuncData
 Pp:Addr
 Pq:FuncData
 Pr:Addr
 Pt:FuncData
 Pu:Addr
 Pw:FuncData
 Px:Addr
 Py:FuncData
 Pz:Addr
 PB:FuncData
 G9:Addr
 Ha:FuncData
 PC:Addr
 PD:FuncData
 PH:Addr
 PK:FuncData
 PL:Addr
 PM:FuncData
 PN:Addr
 PQ:FuncData
 PR:Addr
 PU:FuncData
 PV:Addr
 PY:FuncData
 Hb:Addr
 PZ:FuncData
 Hc:Addr
 P0:FuncData
 He:Addr
 P1:FuncData
 Hf:Addr
 P2:FuncData
 P4:Addr
 P5:FuncData
 Hg:Addr
 P6:FuncData
 Hh:Addr
 P7:FuncData
 P8:Addr
 P9:FuncData
 Qa:Addr
 Qb:FuncData
 Hi:Addr
 Qc:FuncData
 Qe:Addr
 Qf:FuncData
 Qg:Addr
 Qh:FuncData
 Qi:Addr
 Qj:FuncData
 Qk:Addr
 Ql:FuncData
 Qm:Addr
 Qn:FuncData
 Hj:Addr
 Qo:FuncData
 Hk:Addr
 Qp:FuncData
 Hl:Addr
 Qq:FuncData
 Hm:Addr
 Qr:FuncData
 Qs:Addr
 Qt:FuncData
 Bk:Addr
 Qu:FuncData
 Qv:Addr
 Qw:FuncData
 Qx:Addr
 Qy:FuncData
 Qz:Addr
 QB:FuncData
 QC:Addr
 QD:FuncData
 QE:Addr
 QF:FuncData
 Ho:Addr
 QG:FuncData
 QH:Addr
 QI:FuncData
 Bl:Addr
 x8:FuncData
 QJ:Addr
 QK:FuncData
 QL:Addr
 QM:FuncData
 Hq:Addr
 QN:FuncData
 Hr:Addr
 QO:FuncData
 Hs:Addr
 QP:FuncData
 Ht:Addr
 QQ:FuncData
 Hu:Addr
 QR:FuncData
 Hv:Addr
 QS:FuncData
 QT:Addr
 QU:FuncData
 QV:Addr
 QW:FuncData
 QX:Addr
 jo:Addr
 QY:Addr
 jq:Addr
 aN:Addr
 dG:Addr
 kh:Addr
 ki:Addr
 iS:Addr
 da:Addr
 iT:Addr
 aR:Addr
 bh:Addr
structure Txt(K:Frag)(mg:Str->Option Value)(t:ft):Prop where
 QZ:Fk K mg "_law_told" FN ["_law_cell_here"] t.Pc t.Pd
 Hw:Fk K mg "powers_of" FQ ["a","product"] t.Pe t.Pf
 Bo:Fk K mg "step_powers" FR ["many","product"] t.Pg t.Ph
 Bp:Fk K mg "logs_of" FT ["powers"] t.Pj t.Pk
 uM:Fm K "step_power" "Field.step_power" FV ["self","n"] t.x6 t.Pl
 Hx:Fm K "__init__" "Field.__init__" FW ["self","many","product"] t.G6 t.Pm
 Bq:Fk K mg "makes_prime_field" FX ["prime"] t.Pn t.Po
 Hy:Fm K "__init__" "PrimeField.__init__" m5 ["self","prime"] t.G7 t.G8
 Br:Fk K mg "product_rows" FY ["powers","logs"] t.Pp t.Pq
 qQ:Fk K mg "bits_divided" FZ ["a","b"] t.Pr t.Pt
 Q0:Fk K mg "stands_alone" Ga ["a"] t.Pu t.Pw
 Bt:Fk K mg "makes_bit_field" Gd ["bits"] t.Px t.Py
 Bu:Fk K mg "bits_times" Ge ["a","b"] t.Pz t.PB
 Q3:Fm K "__init__" "BitField.__init__" m6 ["self","bits"] t.G9 t.Ha
 Bv:Fk K mg "_law_field" Gf ["_law_told_here"] t.PC t.PD
 Bw:Fk K mg "_law_many" Gg ["_law_told_here"] t.PH t.PK
 oH:Fk K mg "_law_cell" Gh ["_law_script","_law_k"] t.PL t.PM
 Bz:Fk K mg "_law_times" Gi ["_law_told_here","_law_a","_law_b"] t.PN t.PQ
 Q4:Fk K mg "_law_powers" Gj ["_law_told_here"] t.PR t.PU
 Q5:Fk K mg "trimmed" Gm ["a"] t.PV t.PY
 Q6:Fm K "plus" "BitField.plus" Gq ["self","a","b"] t.Hb t.PZ
 Q7:Fm K "plus" "PrimeField.plus" Gr ["self","a","b"] t.Hc t.P0
 Q8:Fm K "times" "BitField.times" Gs ["self","a","b"] t.He t.P1
 Q9:Fm K "times" "PrimeField.times" Gu ["self","a","b"] t.Hf t.P2
 Ra:Fk K mg "poly_times" Gv ["field","a","b"] t.P4 t.P5
 Rb:Fm K "minus" "BitField.minus" Gw ["self","a","b"] t.Hg t.P6
 Rc:Fm K "minus" "PrimeField.minus" Gx ["self","a","b"] t.Hh t.P7
 Rh:Fk K mg "less_root" Gy ["field","r"] t.P8 t.P9
 Ri:Fk K mg "by_roots" Gz ["field","some"] t.Qa t.Qb
 Hz:Fm K "maker" "RootCode.maker" GA ["self"] t.Hi t.Qc
 Rj:Fk K mg "_law_plus" GB ["_law_told_here","_law_a","_law_b"] t.Qe t.Qf
 Rk:Fk K mg "_law_value" GC ["_law_told_here","_law_a","_law_x"] t.Qg t.Qh
 Rl:Fk K mg "_law_maker" GD ["_law_code","_law_told_here","_law_powers_here","_law_three"] t.Qi t.Qj
 x9:Fk K mg "width_of" GF ["table"] t.Qk t.Ql
 Rm:Fk K mg "first_with" GG ["rows","place"] t.Qm t.Qn
 Rn:Fm K "scaled" "BitField.scaled" GH ["self","a","row"] t.Hj t.Qo
 Ro:Fm K "scaled" "PrimeField.scaled" GI ["self","a","row"] t.Hk t.Qp
 Rp:Fm K "lessened" "BitField.lessened" GJ ["self","row","a","other"] t.Hl t.Qq
 Rq:Fm K "lessened" "PrimeField.lessened" GK ["self","row","a","other"] t.Hm t.Qr
 HA:Fk K mg "cleared" GL ["field","rows","lead_row","place"] t.Qs t.Qt
 HB:Fm K "over" "Field.over" GN ["self","a","b"] t.Bk t.Qu
 BA:Fk K mg "reduced" GO ["field","table"] t.Qv t.Qw
 ya:Fk K mg "copied" GP ["table"] t.Qx t.Qy
 HC:Fk K mg "leads" GQ ["rows"] t.Qz t.QB
 yb:Fk K mg "free_places" GR ["rows","width"] t.QC t.QD
 BB:Fk K mg "kernel_of_reduced" GS ["field","rows","width"] t.QE t.QF
 Rt:Fm K "__init__" "Code.__init__" GU ["self","field","checks"] t.Ho t.QG
 yc:Fk K mg "makes_root_code" GV ["many","length","extra","first"] t.QH t.QI
 Ru:xX K "__init__" "RootCode.__init__" jK t.Bl t.x8
 Rw:Binds K t.x8 ["self","field","length","extra","first"] []
 c00:∃tk,Binds K t.x8 ["self","field","length","extra","first"] [.int 1 tk]
 qR:Fk K mg "_law_refused" GX ["_law_field_here","_law_three"] t.QJ t.QK
 Rx:Fk K mg "_law_spoilt" GY ["_law_many_here","_law_length","_law_extra","_law_first","_law_cell_here"] t.QL t.QM
 Ry:Fm K "places" "Code.places" GZ ["self"] t.Hq t.QN
 Rz:Fm K "checks" "Code.checks" G0 ["self"] t.Hr t.QO
 RA:Fm K "distance" "RootCode.distance" G1 ["self"] t.Hs t.QP
 RB:Fm K "told" "BitField.told" G2 ["self"] t.Ht t.QQ
 RC:Fm K "told" "PrimeField.told" G3 ["self"] t.Hu t.QR
 RD:Fm K "told" "RootCode.told" G4 ["self"] t.Hv t.QS
 RE:Fk K mg "_law_made" G5 ["_law_code","_law_powers_here","_law_three"] t.QT t.QU
 c01:Fk K mg "law" m9 ["_law_script"] t.QV t.QW
 ay3:t.G8.code=.ref t.QX
 ay4:codeHdIn K t.QX t.jo=true
 aC5:t.Ha.code=.ref t.QY
 aC6:codeHdIn K t.QY t.jq=true
 eF:cB K t.aN
 HD:Mk K t.aN t.G9
 BC:bj K t.aN "bits"
 uN:bj K t.aN "logs"
 uO:bj K t.aN "many"
 uP:bj K t.aN "powers"
 uQ:bj K t.aN "products"
 HE:bj K t.aN "step"
 HF:bj K t.aN "wide"
 as7:Meth K t.aN "lessened" t.Hl
 aA7:Meth K t.aN "minus" t.Hg
 HG:Meth K t.aN "over" t.Bk
 aC7:Meth K t.aN "plus" t.Hb
 ay5:Meth K t.aN "scaled" t.Hj
 yd:Meth K t.aN "step_power" t.x6
 aA8:Meth K t.aN "times" t.He
 aC8:Meth K t.aN "told" t.Ht
 eN:cB K t.aR
 BD:Mk K t.aR t.G7
 ye:bj K t.aR "logs"
 uR:bj K t.aR "many"
 yf:bj K t.aR "powers"
 nh:bj K t.aR "prime"
 HH:bj K t.aR "step"
 HI:bj K t.aR "wide"
 ar3:Meth K t.aR "lessened" t.Hm
 av8:Meth K t.aR "minus" t.Hh
 HJ:Meth K t.aR "over" t.Bk
 ay6:Meth K t.aR "plus" t.Hc
 as8:Meth K t.aR "scaled" t.Hk
 yg:Meth K t.aR "step_power" t.x6
 av9:Meth K t.aR "times" t.Hf
 ay7:Meth K t.aR "told" t.Hu
 ff:cB K t.bh
 yh:Mk K t.bh t.Bl
 uS:bj K t.bh "check_rows"
 qS:bj K t.bh "extra"
 uT:bj K t.bh "field"
 uU:bj K t.bh "first"
 uV:bj K t.bh "length"
 uW:bj K t.bh "message_places"
 uX:bj K t.bh "size"
 HK:bj K t.bh "word_rows"
 yi:Meth K t.bh "checks" t.Hr
 c19:Meth K t.bh "distance" t.Hs
 RF:Meth K t.bh "maker" t.Hi
 yj:Meth K t.bh "places" t.Hq
 c20:Meth K t.bh "told" t.Hv
 c21:uf K t.kh "__init__" t.Ho
 RG:uf K t.ki "__init__" t.G6
 c22:mg "ValueError"=none
 HL:mg "all"=none
 yk:mg "enumerate"=none
 BE:mg "isinstance"=none
 gQ:mg "len"=none
 ym:mg "list"=none
 RH:mg "min"=none
 gR:mg "range"=none
 yn:mg "str"=none
 HM:mg "zip"=none
 HN:mg "BitField"=some (.ref t.aN)
 HP:mg "ByNought"=some (.ref t.dG)
 HQ:mg "Code"=some (.ref t.kh)
 BF:mg "Field"=some (.ref t.ki)
 HR:mg "MendError"=some (.ref t.iS)
 BG:mg "NoCode"=some (.ref t.da)
 HS:mg "NoField"=some (.ref t.iT)
 BH:mg "PrimeField"=some (.ref t.aR)
 yo:mg "RootCode"=some (.ref t.bh)
 RI:Ad K mg "ByNought" t.dG
 aO7:rM K t.dG
 aM7:kitOne K (.ref t.dG) (.ref t.iS)=some true
 aN7:kitOne K (.ref t.dG) (.ref t.iT)=some false
 aO1:PySem.W.exmOne K (.ref t.dG) (.ref t.da)=some false
 aM5:kitOne K (.ref t.dG) (.type "ValueError")=some true
 c23:Ad K mg "NoCode" t.da
 HU:rM K t.da
 ay9:kitOne K (.ref t.da) (.ref t.iS)=some true
 aC9:kitOne K (.ref t.da) (.ref t.iT)=some false
 c26:PySem.W.exmOne K (.ref t.da) (.ref t.da)=some true
 c27:kitOne K (.ref t.da) (.type "ValueError")=some true
 aO2:kitOne K (.type "NoneType") (.ref t.iS)=some false
 aO5:kitOne K (.type "NoneType") (.ref t.iT)=some false
section
variable{P:Program}{w:World}{K:Frag}{mg:Str->Option Value}{base:Heap}{t:ft}
theorem RJ(T:Txt K mg t)(m:Bool × Nat){Q:D->Prop}(q:Q (.int (ae m))):∃C ns xs v,fD t.aN t.aR m=.obj C ns xs/\cB K C/\bj K C "many"/\(ns.zip xs).lookup ("many":Str)=some v/\Q v:=by
 obtain⟨k,n⟩:=m
 cases k with
 | true=>exact⟨_,_,_,_,rfl,T.eF,T.uO,rfl,q⟩
 | false=>exact⟨_,_,_,_,rfl,T.eN,T.uR,rfl,q⟩
noncomputable abbrev gg(t:ft)(m:Bool × Nat)(G:List (List Nat))(k:Kd):D:=v9 t.aN t.aR t.bh t.bh t.bh m G k
theorem yp(T:Txt K mg t)(m:Bool × Nat)(G:List (List Nat))(k:Kd){a:Str}{v:D}(n1:bj K t.bh a)(n2:bj K t.bh a)(n3:bj K t.bh a)(ha:a∈qN)(h:(qN.zip (m4 t.aN t.aR false m G)).lookup a=some v){Q:D->Prop}(q:Q v):∃C ns xs v,gg t m G k=.obj C ns xs/\cB K C/\bj K C a/\(ns.zip xs).lookup a=some v/\Q v:=by
 have ha:a="field"\/a="length"\/a="check_rows"\/a="word_rows"\/a="message_places"\/a="size":=by simpa only[bR,ij,or_false]using ha
 rcases ha with rfl | rfl | rfl | rfl | rfl | rfl<;>cases k
 all_goals first | exact⟨_,_,_,v,rfl,T.ff,n1,h,q⟩ | exact⟨_,_,_,v,rfl,T.ff,n2,h,q⟩ | exact⟨_,_,_,v,rfl,T.ff,n3,h,q⟩
theorem HV(T:Txt K mg t)(m:Bool × Nat)(G:List (List Nat))(k:Kd){Q:D->Prop}(q:Q (fD t.aN t.aR m)):∃C ns xs v,gg t m G k=.obj C ns xs/\cB K C/\bj K C "field"/\(ns.zip xs).lookup ("field":Str)=some v/\Q v:=yp T m G k T.uT T.uT T.uT (by decide) rfl q
theorem RK(T:Txt K mg t)(m:Bool × Nat)(G:List (List Nat))(k:Kd){Q:D->Prop}(q:Q (.int (aD G:Nat))):∃C ns xs v,gg t m G k=.obj C ns xs/\cB K C/\bj K C "length"/\(ns.zip xs).lookup ("length":Str)=some v/\Q v:=yp T m G k T.uV T.uV T.uV (by decide) rfl q
theorem bK4(T:Txt K mg t)(m:Bool × Nat)(G:List (List Nat))(k:Kd){Q:D->Prop}(q:Q (.lst false (aQ false G))):∃C ns xs v,gg t m G k=.obj C ns xs/\cB K C/\bj K C "check_rows"/\(ns.zip xs).lookup ("check_rows":Str)=some v/\Q v:=yp T m G k T.uS T.uS T.uS (by decide) rfl q
theorem bS8(T:Txt K mg t)(m:Bool × Nat)(G:List (List Nat))(k:Kd){Q:D->Prop}(q:Q (.lst false (aA (gb m G)))):∃C ns xs v,gg t m G k=.obj C ns xs/\cB K C/\bj K C "message_places"/\(ns.zip xs).lookup ("message_places":Str)=some v/\Q v:=yp T m G k T.uW T.uW T.uW (by decide) rfl q
theorem cl1(T:Txt K mg t)(m:Bool × Nat)(G:List (List Nat))(k:Kd){Q:D->Prop}(q:Q (.int ((gb m G).length:Nat))):∃C ns xs v,gg t m G k=.obj C ns xs/\cB K C/\bj K C "size"/\(ns.zip xs).lookup ("size":Str)=some v/\Q v:=yp T m G k T.uX T.uX T.uX (by decide) rfl q
theorem RL(T:Txt K mg t){m:Bool × Nat}{G:List (List Nat)}{k:Kd}{me:Str}{n:Nat}{f:Addr}{fd:FuncData}{ps:List Str}{sp:bc}(h1:Meth K t.bh me f)(h2:Meth K t.bh me f)(h3:Meth K t.bh me f)(F:aL P w K mg base aS n f fd ps (bf sp))(b:Binds K fd ps [])(nm:me ∉ (["extra","first","field","length","check_rows","word_rows","message_places","size","bound"]:List Str)){ds:List D}{Q:D->Prop}(q:sp (gg t m G k::ds) Q):∃C ns zs sp,gg t m G k=.obj C ns zs/\jf P w K mg base n me C sp/\me ∉ ns/\sp (.obj C ns zs::ds) Q:=by
 simp only[bR,ij,or_false,not_or]at nm
 cases k
 ·exact⟨_,_,_,sp,rfl,⟨T.ff,_,_,_,h1,F,b⟩,by simp[nm],q⟩
 ·exact⟨_,_,_,sp,rfl,⟨T.ff,_,_,_,h2,F,b⟩,by simp[nm],q⟩
 ·exact⟨_,_,_,sp,rfl,⟨T.ff,_,_,_,h3,F,b⟩,by simp[nm],q⟩
noncomputable abbrev aJ1:bc:=λds Q=>∃c:Int,ds=[.int c]/\∀m,m∈aq->3<=ae m->Q (eE m)
theorem aJ2(T:Txt K mg t):aL P w K mg base aS 1 t.Pc t.Pd ["_law_cell_here"] (bf (aJ1 )):=by
 refine bD T.QZ.F FP ?_ ?_
 ·intro ds Q h
  obtain⟨c,rfl,q⟩:=h<;>rfl
 ·intro ax A outer s H E hr
  refine⟨_,(aF (aW (i:=1) FP.nd rfl (ay rfl) (Mw (ns:=[7,11,13,19,25,31,37,41,47,55,59,61,67,73,87,91,97,103,109,115,117]) (by decide +kernel)))
   (aF (aW (i:=2) FP.nd rfl (ay rfl) (Mw (ns:=[3,5,7,11,13,17,19,23,29,31,37,41,43,47,53,59,61]) (by decide +kernel)))
   (aF (cI (bN (eo (bX hr)) (aa (au cJ (bv 0) (aa ak))) (aa ak) (bJ _)) (aC (aV (p5 (cx j3 (cx (di (bx (bv 1) (aa (au cJ (aa (au jC (bv 0) (aa ak))) (aa ak))) (λ_ _=>rfl))) dR))))) cO)
   (aC (aV (p5 (cx j3 (cx (di (bx (bv 2) (aa (au cJ (aa (au jC (bv 0) (aa ak))) (aa ak))) (λ_ _=>rfl))) dR)))))))),λds Q h=>?_⟩
  obtain⟨c,rfl,q⟩:=h
  refine aH λU hU=>?_
  walk_at"l3"
  refine⟨by decide,hU _ ?_⟩
  clear hU U
  refine aH λU hU=>?_
  walk_at"l3"
  refine⟨by decide,hU _ ?_⟩
  clear hU U
  refine aH λU hU=>?_
  walk_at"l3"
  refine⟨by decide,?_⟩
  have n1:=iY (c/2) (show(21:Int)≠0 by decide)
  have n2:=lY (c/2) (show(0:Int)<21 by decide)
  have n3:=iY (c/2) (show(17:Int)≠0 by decide)
  have n4:=lY (c/2) (show(0:Int)<17 by decide)
  have get:∀(Z:List Int) (k:Int),0<=k->k<(Z.length:Int)->Z.getD k.toNat 0∈Z:=λZ k h1 h2=>jl (by omega) 0
  have st:∀(b:Bool) (a:Int),0<=a/\(b,a.toNat)∈aq/\3<=ae (b,a.toNat)->Q (.tup [.bl b,.int a]):=λb a ⟨h1,h2,h3⟩=>by
   have:=q _ h2 h3
   unfold eE at this
   rw[vn h1]at this
   exact this
  split
  ·refine⟨jB (by decide) (by decide),by decide,_,kU n1 (by simpa using n2),rfl,by decide,st true _ ?_⟩
   exact(show ∀a∈([7,11,13,19,25,31,37,41,47,55,59,61,67,73,87,91,97,103,109,115,117]:List Int),0<=a/\(true,a.toNat)∈aq/\3<=ae (true,a.toNat) by decide) _ (get _ _ n1 (by simpa using n2))
  ·refine hU _ ?_
   walk_at"l3"
   refine⟨jB (by decide) (by decide),by decide,_,kU n3 (by simpa using n4),rfl,by decide,st false _ ?_⟩
   exact(show ∀a∈([3,5,7,11,13,17,19,23,29,31,37,41,43,47,53,59,61]:List Int),0<=a/\(false,a.toNat)∈aq/\3<=ae (false,a.toNat) by decide) _ (get _ _ n3 (by simpa using n4))
noncomputable abbrev aJ3(L:Obj->Obj->Addr->Addr->ud->Prop):bc:=λds Q=>∃(a:Nat) (of oc:Obj) (c k:Addr) (g:Nat->Nat->Nat) (l:List Int),ds=[.int a,.bu (.lam of oc c k)]/\L of oc c k (xx g)/\a<64/\ET g a=some l/\Q (.lst true (aE l))
theorem RM(T:Txt K mg t):aL P w K mg base aS 5 t.Pe t.Pf ["a","product"] (bf (aJ3 (xq P w K mg base 4))):=by
 refine bD T.Hw.F Bc ?_ ?_
 ·intro ds Q h
  obtain⟨a,of,oc,c,k,g,l,rfl,hL,ha,hp,q⟩:=h<;>rfl
 ·intro ax A outer s H E hr
  refine⟨_,(aF (aW (i:=2) Bc.nd rfl (ay rfl) (fF (cx ak dR)))
   (aF (aW (i:=3) Bc.nd rfl (ay rfl) (Nd (n:=4) (i:=1) rfl (by first | exact ay rfl | exact cA (ay rfl)) (hr.mono (by decide)) (ai (aa ak) (ai (bv 0) aB))))
   (aF (su fi (bN (gE (bX hr)) (bv 3) (aa ak) (bJ _))
    (aF (tJ (i:=2) rfl (by first | exact ay rfl | exact cA (ay rfl)) (di (bv 3)))
    (aC (aW (i:=3) Bc.nd rfl (ay rfl) (Nd (n:=4) (i:=1) rfl (by first | exact ay rfl | exact cA (ay rfl)) (hr.mono (by decide)) (ai (bv 3) (ai (bv 0) aB)))))))
   (aC (aV (em 2)))))),λds Q h=>?_⟩
  obtain⟨a,of,oc,c,k,g,l,rfl,hL,ha,hp,q⟩:=h
  refine aH λU hU=>?_
  walk_at"l3"
  refine⟨by decide,hU _ ?_⟩
  clear hU U
  refine aH λU hU=>?_
  walk_at"l3"
  refine⟨of,oc,c,k,xx g,rfl,hL,1,a,⟨rfl,rfl⟩,1,a,rfl,rfl,by decide,ha,hU _ ?_⟩
  clear hU U
  refine aH λU hU=>?_
  walk_at"l3"
  refine⟨λm δ=>∃(p:Nat) (acc:List Int),δ=[some (.int a),some (.bu (.lam of oc c k)),some (.lst true (aE acc)),some (.int p)]/\acc.length+m<=70/\Au g a m p acc=some l,⟨64,_,[1],rfl,by decide,hp⟩,?_⟩
  rintro m δ ⟨p,acc,rfl,hn,hg⟩
  walk_at"l3"
  cases m with
  | zero=>cases hg
  | succ m =>
   unfold Au at hg
   split at hg
   ·rename_i h1
    subst h1
    cases hg
    rw[if_neg (by simp)]
    refine hU _ ?_
    walk_at"l3"
    exact q
   ·rename_i h1
    rw[if_pos (by simp;omega)]
    split at hg
    ·rename_i h2
     clear hU
     refine aH λU hU=>?_
     walk_at"l3"
     refine⟨⟨_,rfl⟩,by omega,hU _ ?_⟩
     clear hU
     walk_at"l3"
     exact⟨of,oc,c,k,xx g,rfl,hL,p,a,⟨rfl,rfl⟩,p,a,rfl,rfl,h2,ha,m,by omega,g p a,acc++[(p:Int)],⟨by rw[<-tL];rfl,rfl⟩,by simp;omega,hg⟩
    ·cases hg
noncomputable abbrev aE9(L:Obj->Obj->Addr->Addr->ud->Prop):bc:=λds Q=>∃(n:Nat) (of oc:Obj) (c k:Addr) (g:Nat->Nat->Nat) (l:List Int),ds=[.int n,.bu (.lam of oc c k)]/\L of oc c k (xx g)/\xw g n=some l/\Q (.lst true (aE l))
theorem aF0(T:Txt K mg t):aL P w K mg base aS 6 t.Pg t.Ph ["many","product"] (bf (aE9 (xq P w K mg base 4))):=by
 refine bD T.Bo.F xZ ?_ ?_
 ·intro ds Q h
  obtain⟨n,of,oc,c,k,g,l,rfl,hL,hp,q⟩:=h<;>rfl
 ·intro ax A outer s H E hr
  refine⟨_,(aF (aW (i:=2) xZ.nd rfl (ay rfl) ak)
   (aF (aW (i:=3) xZ.nd rfl (ay rfl) (cy T.Hw (RM T) hr (ai (bv 2) (ai (bv 1) aB))))
   (aF (su fi (bN z0 (aa (fc (hJ) (by rfl) T.gQ gy (ai (bv 3) aB))) (aa (au dm (bv 0) (aa ak))) (bJ _))
    (aF (wj (i:=2) xZ.nd rfl (ay rfl) (aa ak) YS)
    (aC (aW (i:=3) xZ.nd rfl (ay rfl) (cy T.Hw (RM T) hr (ai (bv 2) (ai (bv 1) aB)))))))
   (aC (aV (em 3)))))),λds Q h=>?_⟩
  obtain⟨n,of,oc,c,k,g,l,rfl,hL,hp,q⟩:=h
  unfold xw at hp
  split at hp
  ·rename_i l0 h0
   refine aH λU hU=>?_
   walk_at"l3"
   refine hU _ ?_
   clear hU U
   refine aH λU hU=>?_
   walk_at"l3"
   refine⟨1,of,oc,c,k,g,l0,rfl,hL,by decide,h0,hU _ ?_⟩
   clear hU U
   refine aH λU hU=>?_
   walk_at"l3"
   refine⟨λm δ=>∃(st:Nat) (l1:List Int),δ=[some (.int n),some (.bu (.lam of oc c k)),some (.int st),some (.lst true (aE l1))]/\st+m<=63/\Av g n m st l1=some l,⟨62,1,l0,rfl,by decide,hp⟩,?_⟩
   rintro m δ ⟨st,l1,rfl,hn,hg⟩
   walk_at"l3"
   cases m with
   | zero=>cases hg
   | succ m =>
    unfold Av at hg
    split at hg
    ·rename_i h1
     rw[if_pos (by omega)]
     split at hg
     ·rename_i l2 h2
      clear hU
      refine aH λU hU=>?_
      walk_at"l3"
      refine hU _ ?_
      clear hU
      walk_at"l3"
      exact⟨st+1,of,oc,c,k,g,l2,rfl,hL,by omega,h2,m,by omega,st+1,l2,⟨rfl,rfl⟩,by omega,hg⟩
     ·cases hg
    ·rename_i h1
     rw[if_neg (by omega)]
     cases hg
     refine hU _ ?_
     walk_at"l3"
     exact q
  ·cases hp
noncomputable abbrev aM8:bc:=λds Q=>∃(l:List Int),ds=[.lst false (aE l)]/\l.length<=64/\(∀x∈l,0<=x/\x.toNat<=l.length)/\Q (.lst true (aE (dS l)))
theorem aM9(T:Txt K mg t):aL P w K mg base aS 1 t.Pj t.Pk ["powers"] (bf (aM8 )):=by
 refine bD T.Bp.F FU ?_ ?_
 ·intro ds Q h
  obtain⟨l,rfl,hl,hx,q⟩:=h<;>rfl
 ·intro ax A outer s H E hr
  refine⟨_,(aF (aW (i:=1) FU.nd rfl (ay rfl) (au jD (aa (fF (cx ak dR))) (aa (au dj (aa (fc (hJ) (by rfl) T.gQ gy (ai (bv 0) aB))) (aa ak)))))
   (aF (iK fi rfl (xi rfl T.yk (ai (bv 0) aB)) (tZ (i1:=2) (i2:=3) rfl FU.nd rfl (ay rfl) rfl (ay rfl))
    (aC (z9 (i:=1) rfl (by first | exact ay rfl | exact cA (ay rfl)) (di (bv 2)) (bv 3))))
   (aC (aV (em 1))))),λds Q h=>?_⟩
  obtain⟨l,rfl,hl,hx,q⟩:=h
  refine aH λU hU=>?_
  walk_at"l3"
  refine⟨by decide,⟨by omega,by omega,by omega⟩,hU _ ?_⟩
  clear hU U
  refine aH λU hU=>?_
  walk_at"l3"
  refine g7.mk (λi δ=>∃o1 o2,δ=[some (.lst false (aE l)),some (.lst true (aE (mT l i))),o1,o2]) ⟨none,none,?_⟩ ?_ ?_
  ·rw[show((l.length:Int)+1).toNat=l.length+1 by omega];rfl
  ·rintro i d δ hd ⟨o1,o2,rfl⟩
   obtain⟨hi,rfl⟩:∃h:i<l.length,d=.tup [.int i,.int l[i]]:=by
    unfold fe aE at hd
    rw[yT,cP]at hd
    by_cases hi:i<l.length
    ·rw[aT hi]at hd
     simp at hd
     exact⟨hi,hd.symm⟩
    ·rw[jR (by omega)]at hd;simp at hd
   have bW:=hx l[i] (fh _)
   walk_at"l3"
   refine⟨_,(l[i]).toNat,rfl,?_,_,_,?_,rfl,rfl⟩
   ·unfold iz
    rw[kT,xy,if_pos bW.1,if_pos (by omega)]
   ·unfold aE
    rw[<-List.map_set]
    congr 1
    show _=(mT l i).set (l.getD i 0).toNat (i:Int)
    rw[aU,aT hi];rfl
  ·rintro δ ⟨o1,o2,rfl⟩
   refine hU _ ?_
   simp only[si,p8,sj,sk,dT,mE,nO,nQ,dC,pU,nR,pZ,pY,se,sg,nX,tD,qm,tF,tG,rS,rT,rV,rX,rY,rZ,pV,tu,qj,qk,ii,qe,sI,qf,sJ,sM,sN,sP,sQ,sR,iI,fX,sT,sU,sV,sW,qg,nV,s8,s9,gN,tH,tw,sq,sC,sD,sE,sF,sG,tI,tK,nS,kP,fu,i9,iM,vd,rh,yY,yZ,p7,i7,jy,ql,tP,tQ,tR,tS,tU,n8,kX,t7,qq,xj,qt,tX,jc,kY,xg,xh,dN,lM,vi,oU,eX,y6,aX,vq,vt,lZ,l8,vv,exists_eq_left',exists_eq_left,D.bl.injEq,D.int.injEq,D.lst.injEq,D.fz.injEq,D.str.injEq,D.tup.injEq,y7,and_true,true_and,dO,rn,lW,nu,wC,wD,wF,by4,wG,wH,iG,kL,nZ,wM,wN,wO,wQ,wR,eT,mB,wI,wJ,wK,wL,fB,pM,y8,y9,u0,l9,za,zb,u9,wX,wY,wZ,w4,w5,w6,w9,kT,n6,qp,jG,tL,wV,tO,wU,tM,wW,gF,tN,if_true,nv,if_false,reduceIte,xb,decide_eq_true_eq,gG,og,qu,xo,xm,sr,ue,qF,tY,qA,qB,qC,ug,ur,iQ,xO,mZ,xP,qJ,uB,dJ,uC,uD,uF,qM,uG,uH,oa]
   exact q
noncomputable abbrev yq(K:Frag):bc:=λds Q=>∃(C:Addr) (ns:List Str) (xs:List D) (n:Int) (many:Nat) (l:List Int) (r:Int),ds=[.obj C ns xs,.int n]/\cB K C/\bj K C "powers"/\bj K C "many"/\(ns.zip xs).lookup ("powers":Str)=some (.lst false (aE l))/\(ns.zip xs).lookup ("many":Str)=some (.int many)/\2<=many/\l[(n%((many:Int)-1)).toNat]?=some r/\Q (.int r)
theorem yr(T:Txt K mg t):aL P w K mg base aS 1 t.x6 t.Pl ["self","n"] (bf (yq K)):=by
 refine bD T.uM.F av5 ?_ ?_
 ·intro ds Q h
  obtain⟨C,ns,xs,n,many,l,r,rfl,hC,h1,h2,h3,h4,h5,h6,q⟩:=h<;>rfl
 ·intro ax A outer s H E hr
  refine⟨_,(aC (aV (di (bx (cV (K:=K) (bv 0)) (aa (au cJ (bv 1) (aa (au dm (cV (K:=K) (bv 0)) (aa ak))))) (λ_ _=>rfl))))),λds Q h=>?_⟩
  obtain⟨C,ns,xs,n,many,l,r,rfl,hC,h1,h2,h3,h4,h5,h6,q⟩:=h
  walk_at"l3"
  refine⟨C,ns,xs,_,rfl,hC,h1,h3,C,ns,xs,_,rfl,hC,h2,h4,?_⟩
  refine⟨by omega,_,kE (d:=.int r) (iY _ (by omega)) ?_,rfl,q⟩
  unfold aE
  rw[cP,h6];rfl
theorem RN(T:Txt K mg t){m:Bool × Nat}(hm:m∈aq){n:Int}{Q:D->Prop}(q:Q (.int (eS m n:Nat))):NS P w K mg base 1 t.aN t.aR m "step_power" [.int n] Q:=by
 have hF:=bZ hm
 have hl:=E2 hm n
 obtain⟨k,b⟩:=m
 cases k with
 | true=>exact⟨_,_,_,yq K,rfl,⟨T.eF,_,_,_,T.yd,yr T,T.uM.b⟩,by decide,_,_,_,_,ae (true,b),fl (true,b),_,rfl,T.eF,T.uP,T.uO,rfl,rfl,hF.lo,hl,q⟩
 | false=>exact⟨_,_,_,yq K,rfl,⟨T.eN,_,_,_,T.yg,yr T,T.uM.b⟩,by decide,_,_,_,_,ae (false,b),fl (false,b),_,rfl,T.eN,T.yf,T.uR,rfl,rfl,hF.lo,hl,q⟩
noncomputable abbrev aG5(P:Program)(w:World)(K:Frag)(mg:Str->Option Value)(base:Heap)(fs:Addr):Sp:=λvs H Q _=>∃(x dx f C:Addr) (b:Str) (n0:Int) (many:Nat) (of oc:Obj) (c k:Addr) (g:Nat->Nat->Nat) (l:List Int) (st:Int),
 vs=[.ref x,.int many,.ref f]/\H x=some (.ins C dx [(b,.int n0)])/\(∀n∈(["many","wide","powers","logs","step","step_power"]:List Str),b≠n)/\π K C fs/\jx H f of oc c k/\xq P w K mg base 4 of oc c k (xx g)/\Nx g many l st /\
 ∀H' p1 p2,bM x H H'->H' x=some (.ins C dx ((gJ b).zip (Az n0 many p1 p2 st)))->LI H' p1 l->LI H' p2 (dS l)->p1≠p2->H p1=none->H p2=none->Q .ao H'
theorem RO(T:Txt K mg t):aL P w K mg base aS 7 t.G6 t.Pm ["self","many","product"] (aG5 P w K mg base t.x6):=by
 refine T.Hx.F.ok aG2 (λvs H Q E h=>?_) λax A outer s H vs Q E hr h=>?_
 ·obtain⟨x,dx,f,C,b,n0,many,of,oc,c,k,g,l,st,rfl,_⟩:=h;rfl
 obtain⟨x,dx,f,C,b,n0,many,of,oc,c,k,g,l,st,rfl,hx,hb,hC,c39,hL,hF,q⟩:=h
 refine⟨_,eQ (gq (pv 0) (pv 1) rfl) (eQ (gq (pv 0) (vM Di (DE (pv 1)) vD) rfl)
  (eQ (gq (pv 0) (jw ((aF0 T).mono (by decide)) hr rfl T.Bo.g T.Bo.F.kp T.Bo.b .nil dP (cC (pv 1) (cC (pv 2) eR))) rfl)
  (eQ (gq (pv 0) (jw ((aM9 T).mono (by decide)) hr rfl T.Bp.g T.Bp.F.kp T.Bp.b .nil dP (cC (pG (pv 0) rfl) eR)) rfl)
  (mm (gq (pv 0) (V4 (pv 0) hC.cls hC.sp ((yr T).mono (by decide)) hr T.uM.b .nil dP (cC vD eR)) rfl))))),?_⟩
 try dsimp only[kX,kY]
 have nb:∀n∈(["many","wide","powers","logs","step","step_power"]:List Str),b≠n:=hb
 refine⟨.int many,rfl,.ref x,rfl,x,C,dx,_,rfl,hx,hC.cls,hC.many,lQ (bG 1) (by decide),?_⟩
 rw[uj (by simpa using nb "many" (by simp))]
 generalize e1:upd H x (HO.ins C dx ([(b,V.int n0)]++[(("many":Str),V.int many)]))=H1
 have bW:H1 x=some (.ins C dx [(b,V.int n0),(("many":Str),V.int many)]):=by rw[<-e1,bA];rfl
 have s1:bM x H H1:=by rw[<-e1];exact bM.upd (C:=C) (dx:=dx) hx rfl
 have l1:jx H1 f of oc c k:=by rw[<-e1];exact c39.uk hx
 have n1:∀p,H1 p=none->H p=none:=λp h=>xB hx (by rw[e1];exact h)
 refine⟨_,rfl,rfl,_,rfl,rfl,_,_,rfl,rfl,.ref x,rfl,x,C,dx,_,rfl,bW,hC.cls,hC.wide,lQ (bG 2) (by decide),?_⟩
 rw[uj (by simp;exact⟨nb "wide" (by simp),by decide⟩),gj]
 generalize e2:upd H1 x (HO.ins C dx ([(b,V.int n0),(("many":Str),V.int many)]++[(("wide":Str),V.int ((bl many:Nat)-1))]))=H2
 have cZ:H2 x=some (.ins C dx [(b,V.int n0),(("many":Str),V.int many),(("wide":Str),V.int ((bl many:Nat)-1))]):=by rw[<-e2,bA];rfl
 have s2:bM x H H2:=by rw[<-e2];exact s1.trans (bM.upd (C:=C) (dx:=dx) bW rfl)
 have l2:jx H2 f of oc c k:=by rw[<-e2];exact l1.uk bW
 have n2:∀p,H2 p=none->H p=none:=λp h=>n1 p (xB bW (by rw[e2];exact h))
 refine⟨_,rfl,_,rfl,H2,[.int many,.bu (.lam of oc c k)],λd=>d=.lst true (aE l),af.refl _,.int (.bu l2 .nil),⟨many,of,oc,c,k,g,l,rfl,hL,hF.step,rfl⟩,λd v F' H3 A' hd hs hf he h3 r nd fr=>?_⟩
 subst hd
 obtain⟨p1,rfl,hp1,yt⟩:=Nw r fr
 have fg:=hs.get _ _ cZ
 have s3:=s2.trans (hs.x (x:=x))
 refine⟨.ref x,rfl,x,C,dx,_,rfl,fg,hC.cls,hC.EU,lQ (bG 3) (by decide),?_⟩
 rw[uj (by simp;exact⟨nb "powers" (by simp),by decide,by decide⟩)]
 generalize e4:upd H3 x (HO.ins C dx ([(b,V.int n0),(("many":Str),V.int many),(("wide":Str),V.int ((bl many:Nat)-1))]++[(("powers":Str),V.ref p1)]))=H4
 have iU:H4 x=some (.ins C dx [(b,V.int n0),(("many":Str),V.int many),(("wide":Str),V.int ((bl many:Nat)-1)),(("powers":Str),V.ref p1)]):=by rw[<-e4,bA];rfl
 have s4:bM x H H4:=by rw[<-e4];exact s3.trans (bM.upd (C:=C) (dx:=dx) fg rfl)
 have p4:LI H4 p1 l:=by rw[<-e4];exact hp1.upd fg (λws z=>by cases z)
 have n4:∀p,H4 p=none->H p=none:=λp h=>n2 p (hs.free (xB fg (by rw[e4];exact h)))
 refine⟨.ref x,rfl,x,C,dx,_,.ref p1,rfl,iU,hC.cls,hC.EU,by rw[AA (nb "powers" (by simp))];rfl,H4,[.lst false (aE l)],λd=>d=.lst true (aE (dS l)),af.refl _,.shr p4 (j8 l) .nil,⟨l,rfl,by have:=hF.len;have:=hF.hi;omega,hF.ins,rfl⟩,λd v F' H5 A' hd jL hf he h3 r nd fr=>?_⟩
 subst hd
 obtain⟨p2,rfl,RP,qT⟩:=Nw r fr
 have ie:=jL.get _ _ iU
 have s5:=s4.trans (jL.x (x:=x))
 have c41:p1≠p2:=λz=>by rw[<-z]at qT;unfold LI at p4;rw[qT]at p4;cases p4
 refine⟨.ref x,rfl,x,C,dx,_,rfl,ie,hC.cls,hC.ρ,lQ (bG 4) (by decide),?_⟩
 rw[uj (by simp;exact⟨nb "logs" (by simp),by decide,by decide,by decide⟩)]
 generalize e6:upd H5 x (HO.ins C dx ([(b,V.int n0),(("many":Str),V.int many),(("wide":Str),V.int ((bl many:Nat)-1)),(("powers":Str),V.ref p1)]++[(("logs":Str),V.ref p2)]))=H6
 have oI:H6 x=some (.ins C dx (([b,"many","wide","powers","logs"]:List Str).zip [V.int n0,V.int many,V.int ((bl many:Nat)-1),V.ref p1,V.ref p2])):=by rw[<-e6,bA];rfl
 have s6:bM x H H6:=by rw[<-e6];exact s5.trans (bM.upd (C:=C) (dx:=dx) ie rfl)
 have p6:LI H6 p1 l:=by rw[<-e6];exact(p4.same jL).upd ie (λws z=>by cases z)
 have q6:LI H6 p2 (dS l):=by rw[<-e6];exact RP.upd ie (λws z=>by cases z)
 refine⟨.ref x,rfl,x,dx,_,rfl,oI,by show kl ("step_power":Str) ((b,V.int n0)::_)=none;rw[AA (nb "step_power" (by simp))];rfl,H6,[.obj C [b,"many","wide","powers","logs"] [.int n0,.int many,.int ((bl many:Nat)-1),.lst false (aE l),.lst false (aE (dS l))],.int 1],λd=>d=.int st,af.refl _,
  .obj oI rfl (.int (.int (.int (.shr p6 (j8 l) (.shr q6 (j8 _) .nil))))) (.int .nil),⟨C,_,_,1,many,l,st,rfl,hC.cls,hC.EU,hC.many,by show kl ("powers":Str) ((b,D.int n0)::_)=_;rw[AA (nb "powers" (by simp))];rfl,by show kl ("many":Str) ((b,D.int n0)::_)=_;rw[AA (nb "many" (by simp))];rfl,hF.lo,hF.st,rfl⟩,λd v F' H7 A' hd ni hf he h3 r nd fr=>?_⟩
 subst hd
 cases r
 have lF:=ni.get _ _ oI
 refine⟨.ref x,rfl,x,C,dx,_,rfl,lF,hC.cls,hC.step,lQ (bG 5) (by decide),?_⟩
 rw[uj (by simp;exact⟨nb "step" (by simp),by decide,by decide,by decide,by decide⟩)]
 refine q _ p1 p2 ((s6.trans (ni.x (x:=x))).trans (bM.upd (C:=C) (dx:=dx) lF rfl)) (by rw[bA];rfl) ((p6.same ni).upd lF (λws z=>by cases z)) ((q6.same ni).upd lF (λws z=>by cases z)) c41 (n2 p1 yt) (n4 p2 qT)
noncomputable abbrev at1:bc:=λds Q=>∃a:Int,ds=[.int a]/\Q (.bl (decide (2<=a)&&decide (a<=61)&&(aJ (a.toNat-2)).all λi=>a%(2+(i:Int)) != 0))
theorem at2(T:Txt K mg t):aL P w K mg base aS 1 t.Pn t.Po ["prime"] (bf (at1 )):=by
 refine bD T.Bq.F as4 ?_ ?_
 ·intro ds Q h
  obtain⟨a,rfl,q⟩:=h<;>rfl
 ·intro ax A outer s H E hr
  refine⟨_,(aC (aV (pX (aa (tf j6 j6 (aa ak) (bv 0) (aa ak))) (vE (fc (Ea rfl) (by rfl) T.HL DD (ai (aa (gM [("prime",0)] ["d"] rfl (wm rfl T.gR (ai (aa ak) (ai (bv 0) aB))) (λ_ _ _ _=>(jm (i:=1) (show(["prime","d"]:List Str).Nodup by decide +kernel))) (λ_ _ _ _=>gD) (λ_ _ _ _=>(zV (gE (bX hr)) (aa (au cJ (bv 0) (bv 1))) (aa ak) (bJ _))) rfl)) aB)))))),λds Q h=>?_⟩
  obtain⟨a,rfl,q⟩:=h
  walk_at"l3"
  split
  ·rename_i h1
   split
   ·rename_i h2
    refine⟨2,a,⟨rfl,rfl⟩,⟨by decide,by decide,by omega,by omega⟩,?_⟩
    have e0:(a-2).toNat=a.toNat-2:=by omega
    rw[e0]
    refine iN (aJ (a.toNat-2)) (λ(k:Nat)=>D.int (2+(k:Int))) (λ(k:Nat)=>D.bl (a%(2+(k:Int)) != 0)) (by rw[wk]) (λx y h=>by injection h with h;omega) (λk hk=>?_) (.inr λ_ _=>rfl) (by rw[de,sL];omega) ?_
    ·walk_at"l3"
     refine⟨by omega,?_⟩
     by_cases z:a%(2+(k:Int))=0<;>simp[z]
    ·refine⟨(aJ (a.toNat-2)).map λ(k:Nat)=>a%(2+(k:Int)) != 0,?_,?_⟩
     ·unfold wB;rw[eH];rfl
     ·have e:(decide (2<=a)&&decide (a<=61)&&(aJ (a.toNat-2)).all λi=>a%(2+(i:Int)) != 0)=((aJ (a.toNat-2)).map λ(k:Nat)=>a%(2+(k:Int)) != 0).all id:=by
       simp[h1,h2,oY]
      rw[<-e];exact q
   ·rename_i h2
    have e:(decide (2<=a)&&decide (a<=61)&&(aJ (a.toNat-2)).all λi=>a%(2+(i:Int)) != 0)=false:=by simp[h2]
    rw[e]at q;exact q
  ·rename_i h1
   have e:(decide (2<=a)&&decide (a<=61)&&(aJ (a.toNat-2)).all λi=>a%(2+(i:Int)) != 0)=false:=by simp[h1]
   rw[e]at q;exact q
noncomputable abbrev aF1:List D->List Str->List D->Prop:=λds ns xs=>∃p:Nat,ds=[.int p]/\p∈Aw/\ns=gJ "prime"/\xs=[.int p,.int p,.int ((bl p:Nat)-1),.lst true (aE (fl (false,p))),.lst true (aE (dS (fl (false,p)))),.int (fst (false,p))]
theorem RQ(T:Txt K mg t)(hB:Bm mg base):aL P w K mg base aS 8 t.G7 t.G8 ["self","prime"] (ER [t.jo,t.jq] t.aR aF1):=by
 refine Nv T.Hy.F T.ay3 aw6 (λvs H Q E h=>?_) λA outer s H vs Q E hr h=>?_
 ·obtain⟨x,dx,bV,ds,ns,xs,rfl,_,_,r,⟨p,rfl,_⟩,_⟩:=h
  have:=r.length
  simp at this
  simp[this]
 obtain⟨x,dx,bV,ds,ns,xs,rfl,tb,hx,r,⟨p,rfl,hp,rfl,rfl⟩,q⟩:=h
 obtain rfl:bV=[.int p]:=by
  cases r with
  | int r=>cases r;rfl
 have hm:(false,p)∈aq:=dM _ (CF hp)
 have hF:=bZ hm
 refine⟨_,eQ (zu (CZ (CY (jw ((at2 T).mono (by decide)) hr rfl T.Bq.g T.Bq.F.kp T.Bq.b .nil dP (cC (pv 1) eR)))) (mm C2) vF)
  (eQ (gq (pv 0) (pv 1) rfl)
  (mm (zt (Nn (E:=E0) (i:=1) T.RG ((RO T).mono (by decide)) hr T.Hx.b rfl T.BF rfl rfl rfl rfl (cC (pv 0) (cC (pv 1) (cC (Nf rfl rfl T.ay4 hB) eR))))))),?_⟩
 try dsimp only[kX,kY]
 refine⟨_,rfl,H,[.int p],λd=>d=.bl true,af.refl _,.int .nil,⟨p,rfl,by rw[υ p hp]⟩,λd v F' H1 A1 hd iV hf he h3 r nd fr=>?_⟩
 subst hd
 cases r
 refine⟨true,rfl,?_⟩
 refine jX ?_
 have bW:=iV.get _ _ hx
 refine⟨.int p,rfl,.ref x,rfl,x,t.aR,dx,_,rfl,bW,T.eN,T.nh,by decide,?_⟩
 generalize e2:upd H1 x (HO.ins t.aR dx (bt "prime" (.int p) []))=H2
 have cZ:H2 x=some (.ins t.aR dx [(("prime":Str),.int p)]):=by rw[<-e2,bA];rfl
 have s2:bM x H H2:=by rw[<-e2];exact(iV.x (x:=x)).trans (bM.upd (C:=x) (dx:=dx) bW rfl)
 have n2:∀p,H2 p=none->H p=none:=λp h=>iV.free (xB bW (by rw[e2];exact h))
 obtain⟨ps,hP⟩:=tb t.jo (by simp)
 obtain⟨more,HW⟩:=s2.tb _ ps hP
 refine⟨.ref x,rfl,.int p,rfl,⟨_,HW⟩,λf k qn pm iP H3 nf BI hk kf fL hl3=>?_⟩
 refine⟨f,_,_,.int p,BI,rfl,rfl,λoc u iu hu nc om=>?_⟩
 obtain⟨tm,rfl⟩:∃tm,u=oJ p tm:=hu
 have fg:=fL.get _ _ cZ
 refine⟨x,dx,f,t.aR,"prime",p,p,_,oc,_,k,gm (false,p),fl (false,p),fst (false,p),rfl,xC fg (λz=>by rw[z,nf]at cZ;cases cZ) nc,by decide,⟨T.eN,T.uR,T.HI,T.yf,T.ye,T.HH,T.yg⟩,Nz om nc hk kf,?_,hF,λH' p1 p2 sx cU HX zL ne yt qT=>?_⟩
 ·refine Nu (n:=3) ⟨rfl,rfl,rfl,by decide,rfl,rfl,by decide,by decide,rfl⟩ iu (λu1 u2=>rfl) λq f A outer s H E hr=>?_
  refine⟨_,au cJ (aa (au jD (bv 0) (bv 1))) (bv 2),λi j Qd h=>?_⟩
  obtain⟨a,b,rfl,rfl,ha,hb,hq⟩:=h
  walk_at"l3"
  have hp0:2<=p:=hF.lo
  refine⟨kC.ok (.inr ⟨by omega,by omega⟩),by omega,?_⟩
  have e:((gm (false,p) a b:Nat):Int)=(a:Int)*b%p:=by
   show((a*b%p:Nat):Int)=_
   rw[ny,zc]
  rw[<-e];exact hq
 ·have gf:H' f=some (.ext (i6 _ oc _ f)):=sx.get f _ (λz=>by rw[z]at nf;rw[nf]at cZ;cases cZ) (by rw[aO om.symm,bA]) rfl
  have gc:=sx.get _ _ (cT fg nc).symm bA rfl
  refine⟨gf,gc,?_⟩
  refine q _ (Az p p p1 p2 (fst (false,p))) [p1,p2] (s2.trans (Ny fL nf nc sx)) ?_ rfl ?_ (by simp[ne]) (λa ha=>?_)
  ·rw[gH (λz=>by rw[z,gf]at cU;cases cU) (λz=>by rw[z,gc]at cU;cases cU)];exact cU
  ·exact .int (.int (.int (.own (HX.rem gf gc) rfl (j8 _) (.own (zL.rem gf gc) rfl (j8 _) (.int .nil)))))
  ·simp at ha
   rcases ha with rfl | rfl
   ·exact n2 _ (AB fL yt)
   ·exact n2 _ (AB fL qT)
noncomputable abbrev aE0:bc:=λds Q=>∃(l g:List Int),ds=[.lst false (aE l),.lst false (aE g)]/\1<=l.length/\l.length<=63/\g.length=l.length+1/\(∀x∈g,0<=x)/\Q (.lst true (ou l g))
theorem aE1(T:Txt K mg t):aL P w K mg base aS 1 t.Pp t.Pq ["powers","logs"] (bf (aE0 )):=by
 refine bD T.Br.F Bd ?_ ?_
 ·intro ds Q h
  obtain⟨l,g,rfl,h1,h2,h3,h4,q⟩:=h<;>rfl
 ·intro ax A outer s H E hr
  refine⟨_,(aF (aW (i:=2) Bd.nd rfl (cA rfl) (au dj (aa (fc (hJ) (by rfl) T.gQ gy (ai (bv 0) aB))) (aa ak)))
   (aF (aW (i:=3) Bd.nd rfl (ay rfl) (fF (cx (au jD (aa (fF (cx ak dR))) (bv 2)) dR)))
   (aF (iK fi rfl (wm rfl T.gR (ai (aa ak) (ai (bv 2) aB))) (jz (i:=4) Bd.nd rfl (cA rfl))
    (aC (tJ (i:=3) rfl (by first | exact ay rfl | exact cA (ay rfl)) (au dj (aa (fF (cx ak dR))) (aa (gM [("powers",0),("many",2),("logs",1),("a",4)] ["b"] rfl (wm rfl T.gR (ai (aa ak) (ai (bv 2) aB))) (λ_ _ _ _=>(jm (i:=4) (show(["powers","many","logs","a","b"]:List Str).Nodup by decide +kernel))) (λ_ _ _ _=>gD) (λ_ _ _ _=>(di (bx (bv 0) (aa (au cJ (aa (au dj (bx (bv 2) (bv 3) (λ_ _=>rfl)) (bx (bv 2) (bv 4) (λ_ _=>rfl)))) (aa (au dm (bv 1) (aa ak))))) (λ_ _=>rfl)))) rfl))))))
   (aC (aV (em 3)))))),λds Q h=>?_⟩
  obtain⟨l,g,rfl,h1,h2,h3,h4,q⟩:=h
  refine aH λU hU=>?_
  walk_at"l3"
  refine hU _ ?_
  clear hU U
  refine aH λU hU=>?_
  walk_at"l3"
  refine⟨by decide,⟨by omega,by omega,by omega⟩,by decide,hU _ ?_⟩
  clear hU U
  refine aH λU hU=>?_
  walk_at"l3"
  refine⟨1,(l.length:Int)+1,⟨rfl,rfl⟩,⟨by decide,by decide,by omega,by omega⟩,?_⟩
  have en:((l.length:Int)+1-1).toNat=l.length:=by omega
  rw[en]
  refine g7.mk (λi δ=>∃o,δ=[some (.lst false (aE l)),some (.lst false (aE g)),some (.int ((l.length:Int)+1)),some (.lst true (ui l g (i+1))),o]) ⟨none,?_⟩ ?_ ?_
  ·rw[show((l.length:Int)+1).toNat=l.length+1 by omega];rfl
  ·rintro i d δ hd ⟨o,rfl⟩
   obtain⟨hi,rfl⟩:i<l.length/\d=.int (1+(i:Int)):=by
    rw[cP]at hd
    by_cases hi:i<l.length
    ·rw[kr hi]at hd
     exact⟨hi,(cX hd).symm⟩
    ·rw[jR (by simpa using hi)]at hd;cases hd
   walk_at"l3"
   refine⟨⟨_,rfl⟩,by decide,1,(l.length:Int)+1,⟨rfl,rfl⟩,⟨by decide,by decide,by omega,by omega⟩,?_⟩
   rw[en]
   refine iN (aJ l.length) (λ(k:Nat)=>D.int (1+(k:Int))) (λ(k:Nat)=>D.int (l.getD ((g.getD (i+1) 0+g.getD (k+1) 0)%(l.length:Int)).toNat 0)) (by rw[wk]) (λx y h=>by injection h with h;omega) (λk hk=>?_) (.inr λ_ _=>rfl) (by rw[de,sL];omega) ?_
   ·have Oq:=dH.mp hk
    walk_at"l3"
    have e1:(1+(i:Int)).toNat=i+1:=by omega
    have e2:(1+(k:Int)).toNat=k+1:=by omega
    have e3:(l.length:Int)+1-1=l.length:=by omega
    have n0:=iY (g.getD (i+1) 0+g.getD (k+1) 0) (show(l.length:Int)≠0 by omega)
    have n1:=lY (g.getD (i+1) 0+g.getD (k+1) 0) (show(0:Int)<l.length by omega)
    refine⟨_,kU (by omega) (by omega),_,kU (by omega) (by omega),?_⟩
    rw[e1,e2,e3]
    exact⟨by omega,_,kU n0 n1,rfl,rfl⟩
   ·walk_at"l3"
    refine⟨⟨by simp;omega,by rw[oY,du];intro x _;rfl⟩,by simp[ui];omega,_,?_,rfl⟩
    unfold ui
    rw[JU (n:=i+1),jQ]
    congr 1
    show _=[D.lst true (aE (ot l g (i+1)))]
    unfold ot
    rw[if_neg (by omega)]
    unfold aE
    rw[dN,eH];rfl
  ·rintro δ ⟨o,rfl⟩
   refine hU _ ?_
   simp only[si,p8,sj,sk,dT,mE,nO,nQ,dC,pU,nR,pZ,pY,se,sg,nX,tD,qm,tF,tG,rS,rT,rV,rX,rY,rZ,pV,tu,qj,qk,ii,qe,sI,qf,sJ,sM,sN,sP,sQ,sR,iI,fX,sT,sU,sV,sW,qg,nV,s8,s9,gN,tH,tw,sq,sC,sD,sE,sF,sG,tI,tK,nS,kP,fu,i9,iM,vd,rh,yY,yZ,p7,i7,jy,ql,tP,tQ,tR,tS,tU,n8,kX,t7,qq,xj,qt,tX,jc,kY,xg,xh,dN,lM,vi,oU,eX,y6,aX,vq,vt,lZ,l8,vv,exists_eq_left',exists_eq_left,D.bl.injEq,D.int.injEq,D.lst.injEq,D.fz.injEq,D.str.injEq,D.tup.injEq,y7,and_true,true_and,dO,rn,lW,nu,wC,wD,wF,by4,wG,wH,iG,kL,nZ,wM,wN,wO,wQ,wR,eT,mB,wI,wJ,wK,wL,fB,pM,y8,y9,u0,l9,za,zb,u9,wX,wY,wZ,w4,w5,w6,w9,kT,n6,qp,jG,tL,wV,tO,wU,tM,wW,gF,tN,if_true,nv,if_false,reduceIte,xb,decide_eq_true_eq,gG,og,qu,xo,xm,sr,ue,qF,tY,qA,qB,qC,ug,ur,iQ,xO,mZ,xP,qJ,uB,dJ,uC,uD,uF,qM,uG,uH,bY,de]
   exact q
noncomputable abbrev aE2(t:ft):jH:=λds Q Ex=>∃a b:Nat,ds=[.int a,.int b]/\bl a<=1000000/\bl b<=1000000/\(b=0->Ex t.dG)/\(b≠0->∀q r:Nat,a=cl q b ^^^ r->bl r<bl b->Q (.tup [.int q,.int r]))
theorem RU(T:Txt K mg t):aL P w K mg base (gY P w) 1 t.Pr t.Pt ["a","b"] (mQ (aE2 t )):=by
 refine Mz T.qQ.F uI ?_ ?_
 ·intro ds Q Ex h
  obtain⟨a,b,rfl,ha,hb,qx,q⟩:=h<;>rfl
 ·intro ax A outer s H E hr
  refine⟨_,(aF (cI (bN (eo (bX hr)) (bv 1) (aa ak) (bJ _)) (aC (Ek T.RI rfl (by rfl) (ai (aa mD) aB))) cO)
   (aF (aW (i:=2) uI.nd rfl (ay rfl) ak)
   (aF (aW (i:=3) uI.nd rfl (ay rfl) (em 0))
   (aF (Zb (su fi (bN YU (aa (mP (bv 3))) (aa (mP (bv 1))) (bJ _))
    (aF (aW (i:=4) uI.nd rfl (ay rfl) (au dm (aa (mP (bv 3))) (aa (mP (bv 1)))))
    (aF (wj (i:=2) uI.nd rfl (ay rfl) (aa (au sO (aa ak) (bv 4))) D3)
    (aC (wj (i:=3) uI.nd rfl (ay rfl) (aa (au sO (bv 1) (bv 4))) D3))))))
   (aC (aV (p5 (cx (em 2) (cx (em 3) dR))))))))),λds Q Ex h=>?_⟩
  obtain⟨a,b,rfl,ha,hb,qx,q⟩:=h
  refine aH λU hU=>?_
  walk_at"l3"
  split
  ·rename_i h0
   exact⟨by decide,qx (by omega)⟩
  ·rename_i h0
   have b0:b≠0:=by omega
   refine hU _ ?_
   clear hU U
   refine aH λU hU=>?_
   walk_at"l3"
   refine hU _ ?_
   clear hU U
   refine aH λU hU=>?_
   walk_at"l3"
   refine hU _ ?_
   clear hU U
   refine aH λU hU=>?_
   walk_at"l3"
   refine⟨λm δ=>∃(x r:Nat) (o sh:Option D),δ=[o,some (.int b),some (.int (x:Nat)),some (.int (r:Nat)),sh]/\a=cl x b ^^^ r/\bl r<=bl a/\m=bl r,
    ⟨bl a,0,a,_,none,rfl,by rw[nJ,nt],bG _,rfl⟩,?_⟩
   rintro m δ ⟨x,r,o,sh,rfl,inv,hra,rfl⟩
   simp only[si,p8,sj,sk,dT,mE,nO,nQ,dC,pU,nR,pZ,pY,se,sg,nX,tD,qm,tF,tG,rS,rT,rV,rX,rY,rZ,pV,tu,qj,qk,ii,qe,sI,qf,sJ,sM,sN,sP,sQ,sR,iI,fX,sT,sU,sV,sW,qg,nV,s8,s9,gN,tH,tw,sq,sC,sD,sE,sF,sG,tI,tK,nS,kP,fu,i9,iM,vd,rh,yY,yZ,p7,i7,jy,ql,tP,tQ,tR,tS,tU,n8,kX,t7,qq,xj,qt,tX,jc,kY,xg,xh,dN,lM,vi,oU,eX,y6,aX,vq,vt,lZ,l8,vv,exists_eq_left',exists_eq_left,D.bl.injEq,D.int.injEq,D.lst.injEq,D.fz.injEq,D.str.injEq,D.tup.injEq,y7,and_true,true_and,dO,rn,lW,nu,wC,wD,wF,by4,wG,wH,iG,kL,nZ,wM,wN,wO,wQ,wR,eT,mB,wI,wJ,wK,wL,fB,pM,y8,y9,u0,l9,za,zb,u9,wX,wY,wZ,w4,w5,w6,w9,kT,n6,qp,jG,tL,wV,tO,wU,tM,wW,gF,tN,if_true,nv,if_false,reduceIte,xb,decide_eq_true_eq,gG,og,qu,xo,xm,sr,ue,qF,tY,qA,qB,qC,ug,ur,iQ,xO,mZ,xP,qJ,uB,dJ,uC,uD,uF,qM,uG,uH,gj]
   split
   ·rename_i hc
    have hle:bl b<=bl r:=by omega
    have less:=Lc b0 hle
    have es:(((bl r:Nat):Int)-((bl b:Nat):Int))=((bl r-bl b:Nat):Int):=by omega
    clear hU
    refine aH λU hU=>?_
    walk_at"l3"
    simp only[gj,es]
    refine hU _ ?_
    clear hU
    refine aH λU hU=>?_
    walk_at"l3"
    have o1:bl (1:Int).natAbs=1:=by decide
    refine⟨⟨by omega,by omega⟩,hU _ ?_⟩
    clear hU
    simp only[si,p8,sj,sk,dT,mE,nO,nQ,dC,pU,nR,pZ,pY,se,sg,nX,tD,qm,tF,tG,rS,rT,rV,rX,rY,rZ,pV,tu,qj,qk,ii,qe,sI,qf,sJ,sM,sN,sP,sQ,sR,iI,fX,sT,sU,sV,sW,qg,nV,s8,s9,gN,tH,tw,sq,sC,sD,sE,sF,sG,tI,tK,nS,kP,fu,i9,iM,vd,rh,yY,yZ,p7,i7,jy,ql,tP,tQ,tR,tS,tU,n8,kX,t7,qq,xj,qt,tX,jc,kY,xg,xh,dN,lM,vi,oU,eX,y6,aX,vq,vt,lZ,l8,vv,exists_eq_left',exists_eq_left,D.bl.injEq,D.int.injEq,D.lst.injEq,D.fz.injEq,D.str.injEq,D.tup.injEq,y7,and_true,true_and,dO,rn,lW,nu,wC,wD,wF,by4,wG,wH,iG,kL,nZ,wM,wN,wO,wQ,wR,eT,mB,wI,wJ,wK,wL,fB,pM,y8,y9,u0,l9,za,zb,u9,wX,wY,wZ,w4,w5,w6,w9,kT,n6,qp,jG,tL,wV,tO,wU,tM,wW,gF,tN,if_true,nv,if_false,reduceIte,xb,decide_eq_true_eq,gG,og,qu,xo,xm,sr,ue,qF,tY,qA,qB,qC,ug,ur,iQ,xO,mZ,xP,qJ,uB,dJ,uC,uD,uF,qM,uG,uH,gj]
    refine⟨⟨by omega,by rw[gj];omega⟩,_,less,x ^^^ 2 ^ (bl r-bl b),r ^^^ b <<< (bl r-bl b),o,_,⟨rfl,?_,?_,rfl⟩,W4 inv,by omega,rfl⟩
    ·rw[show(1:Int)=((1:Nat):Int) from rfl,rK,my,CP]
    ·rw[rK,my]
   ·rename_i hc
    refine hU _ ?_
    walk_at"l3"
    refine⟨by decide,q b0 x r inv (by omega)⟩
noncomputable abbrev aE3:bc:=λds Q=>∃a:Nat,ds=[.int a]/\bl a<=60/\Q (.bl (al a))
theorem aE4(T:Txt K mg t):aL P w K mg base aS 2 t.Pu t.Pw ["a"] (bf (aE3 )):=by
 refine bD T.Q0.F Gb ?_ ?_
 ·intro ds Q h
  obtain⟨a,rfl,ha,q⟩:=h<;>rfl
 ·intro ax A outer s H E hr
  refine⟨_,(aF (cI (bN z0 (bv 0) (aa ak) (bJ _)) (aC (aV j3)) cO)
   (aF (aW (i:=1) Gb.nd rfl (ay rfl) (au jC (aa (au dm (aa (mP (bv 0))) (aa ak))) (aa ak)))
   (aF (iK fi rfl (wm rfl T.gR (ai (aa ak) (ai (aa (au sO (aa ak) (aa (au dj (bv 1) (aa ak))))) aB))) (jz (i:=2) Gb.nd rfl (ay rfl))
    (aC (cI (bN (eo (bX hr)) (bx (aa (wg (Es ((RU T).mono (by decide))) hr rfl T.qQ.g T.qQ.F.kp T.qQ.b Er (ai (bv 0) (ai (bv 2) aB)))) (aa ak) (λ_ _=>rfl)) (aa ak) (bJ _)) (aC (aV j3)) cO)))
   (aC (aV j3))))),λds Q h=>?_⟩
  obtain⟨a,rfl,ha,q⟩:=h
  refine aH λU hU=>?_
  walk_at"l3"
  split
  ·rename_i h2
   rw[Xg (by omega)]at q;exact q
  ·rename_i h2
   have h2:2<=a:=by omega
   have hp:=gx (show a≠0 by omega)
   refine hU _ ?_
   clear hU U
   refine aH λU hU=>?_
   walk_at"l3"
   simp only[gj]
   refine⟨jB (by omega) (by omega),hU _ ?_⟩
   clear hU U
   have eh:((((bl a:Nat):Int)-1)/2+1)=(((bl a-1)/2+1:Nat):Int):=by omega
   have e1:(1:Int)*2 ^ ((((bl a:Nat):Int)-1)/2+1).toNat=((2 ^ ((bl a-1)/2+1):Nat):Int):=by
    rw[eh,show(1:Int)=((1:Nat):Int) from rfl,rK,CP]
   have big:2 ^ ((bl a-1)/2+1)<=2 ^ 40:=yL (by decide) (by omega)
   have o1:bl (1:Int).natAbs=1:=by decide
   refine aH λU hU=>?_
   walk_at"l3"
   rw[e1]
   have dG6:((2 ^ ((bl a-1)/2+1):Nat):Int)<=2 ^ 40:=by exact_mod_cast big
   have nn:(0:Int)<=((2 ^ ((bl a-1)/2+1):Nat):Int):=Jw _
   refine⟨⟨by omega,by omega⟩,_,_,⟨rfl,rfl⟩,⟨by decide,by decide,by omega,by omega⟩,?_⟩
   have en:(((2 ^ ((bl a-1)/2+1):Nat):Int)-2).toNat=2 ^ ((bl a-1)/2+1)-2:=by omega
   rw[en]
   refine g7.mk (λi δ=>(∃o1 o2,δ=[some (.int a),o1,o2])/\∀j,j<i->md a (2+j)≠0) ⟨⟨_,_,rfl⟩,λj hj=>absurd hj (by omega)⟩ ?_ ?_
   ·rintro i d δ hd ⟨⟨o1,o2,rfl⟩,inv⟩
    obtain⟨hi,rfl⟩:i<2 ^ ((bl a-1)/2+1)-2/\d=.int (2+(i:Int)):=by
     rw[cP]at hd
     by_cases hi:i<2 ^ ((bl a-1)/2+1)-2
     ·rw[kr hi]at hd
      exact⟨hi,(cX hd).symm⟩
     ·rw[jR (by simpa using hi)]at hd;cases hd
    have bi:bl (2+i)<=60:=by
     have:=(Xj h2 (show 2+i<2 ^ ((bl a-1)/2+1) by omega)).2
     omega
    walk_at"l3"
    refine⟨a,2+i,by rw[show((2+i:Nat):Int)=2+(i:Int) by omega],by omega,by omega,by omega,λ_ x r e l=>?_⟩
    have em:md a (2+i)=r:=vZ e l
    refine⟨.int r,rfl,rfl,?_⟩
    rw[gF]
    split
    ·rename_i hz
     have r0:r=0:=by have:=of_decide_eq_true hz;omega
     rw[Xi hi (em.trans r0)]at q
     exact q
    ·rename_i hz
     refine⟨⟨_,_,rfl,rfl⟩,λj hj=>?_⟩
     by_cases ej:j=i
     ·rw[ej,em]
      intro r0
      exact hz (decide_eq_true (by omega))
     ·exact inv j (by omega)
   ·rintro δ ⟨⟨o1,o2,rfl⟩,inv⟩
    rw[bY,de]at inv
    rw[Xh h2 inv]at q
    refine hU _ ?_
    walk_at"l3"
    exact q
noncomputable abbrev az1:bc:=λds Q=>∃a:Int,ds=[.int a]/\Q (.bl (decide (4<=a)&&decide (a<=127)&&al a.toNat))
theorem az2(T:Txt K mg t):aL P w K mg base aS 3 t.Px t.Py ["bits"] (bf (az1 )):=by
 refine bD T.Bt.F aw7 ?_ ?_
 ·intro ds Q h
  obtain⟨a,rfl,q⟩:=h<;>rfl
 ·intro ax A outer s H E hr
  refine⟨_,(aC (aV (pX (aa (tf j6 j6 (aa ak) (bv 0) (aa ak))) (vE (cy T.Q0 (aE4 T) hr (ai (bv 0) aB)))))),λds Q h=>?_⟩
  obtain⟨a,rfl,q⟩:=h
  walk_at"l3"
  split
  ·rename_i h1
   split
   ·rename_i h2
    refine⟨a.toNat,by rw[vn (by omega)],?_,?_⟩
    ·have:bl a.toNat<=bl 127:=DC (by omega)
     exact eO this (by decide)
    ·have e:(decide (4<=a)&&decide (a<=127)&&al a.toNat)=al a.toNat:=by simp[h1,h2]
     rw[e]at q;exact q
   ·rename_i h2
    have e:(decide (4<=a)&&decide (a<=127)&&al a.toNat)=false:=by simp[h2]
    rw[e]at q;exact q
  ·rename_i h1
   have e:(decide (4<=a)&&decide (a<=127)&&al a.toNat)=false:=by simp[h1]
   rw[e]at q;exact q
noncomputable abbrev aG6:bc:=λds Q=>∃a b:Nat,ds=[.int a,.int b]/\bl a<=1000/\bl b<=1000/\Q (.int (cl a b:Nat))
theorem aG7(T:Txt K mg t):aL P w K mg base aS 1 t.Pz t.PB ["a","b"] (bf (aG6 )):=by
 refine bD T.Bu.F Be ?_ ?_
 ·intro ds Q h
  obtain⟨a,b,rfl,ha,hb,q⟩:=h<;>rfl
 ·intro ax A outer s H E hr
  refine⟨_,(aF (aW (i:=2) Be.nd rfl (ay rfl) ak)
   (aF (iK fi rfl (kO rfl T.gR (ai (aa (mP (bv 1))) aB)) (jz (i:=3) Be.nd rfl (ay rfl))
    (aC (cI (bN (eo (bX hr)) (aa (au L8 (aa (au L7 (bv 1) (bv 3))) (aa ak))) (aa ak) (bJ _)) (aC (wj (i:=2) Be.nd rfl (ay rfl) (aa (au sO (bv 0) (bv 3))) D3)) cO)))
   (aC (aV (em 2))))),λds Q h=>?_⟩
  obtain⟨a,b,rfl,ha,hb,q⟩:=h
  refine aH λU hU=>?_
  walk_at"l3"
  refine hU _ ?_
  clear hU U
  refine aH λU hU=>?_
  walk_at"l3"
  simp only[gj]
  refine⟨⟨by omega,by omega⟩,Ab (λi δ=>∃o,δ=[some (.int a),some (.int b),some (.int (Mf.P a b i:Nat)),o]) ⟨none,rfl⟩ ?_ ?_⟩
  ·rintro i δ hi ⟨o,rfl⟩
   walk_at"l3"
   refine⟨by omega,?_⟩
   have BJ:(nk ((b:Int)/2 ^ ((i:Int)).toNat) 1=1)↔b.testBit i=true:=by
    have h:=Xp b i
    rw[JP]at h
    rw[<-h,dI]
   split
   ·rename_i hc
    have h:=Xq (a:=a) (BJ.mp hc)
    rw[JP]at h
    exact⟨⟨by omega,by rw[gj];omega⟩,_,h,rfl⟩
   ·rename_i hc
    exact⟨_,by rw[Xr (λz=>hc (BJ.mpr z))],rfl⟩
  ·rintro δ ⟨o,rfl⟩
   refine hU _ ?_
   walk_at"l3"
   exact q
noncomputable abbrev aJ4:List D->List Str->List D->Prop:=λds ns xs=>∃p:Nat,ds=[.int p]/\p∈jI/\ns=gJ "bits"++[("products":Str)]/\xs=[.int p,.int (ae (true,p)),.int ((bl (ae (true,p)):Nat)-1),.lst true (aE (fl (true,p))),.lst true (aE (dS (fl (true,p)))),.int (fst (true,p)),.lst true (ou (fl (true,p)) (dS (fl (true,p))))]
theorem aD0(T:Txt K mg t)(hB:Bm mg base):aL P w K mg base aS 8 t.G9 t.Ha ["self","bits"] (ER [t.jo,t.jq] t.aN aJ4):=by
 refine Nv T.Q3.F T.aC5 O4 (λvs H Q E h=>?_) λA outer s H vs Q E hr h=>?_
 ·obtain⟨x,dx,bV,ds,ns,xs,rfl,_,_,r,⟨p,rfl,_⟩,_⟩:=h
  have:=r.length
  simp at this
  simp[this]
 obtain⟨x,dx,bV,ds,ns,xs,rfl,tb,hx,r,⟨p,rfl,hp,rfl,rfl⟩,q⟩:=h
 obtain rfl:bV=[.int p]:=by
  cases r with
  | int r=>cases r;rfl
 have hm:(true,p)∈aq:=eB _ (CF hp)
 have hF:=bZ hm
 refine⟨_,eQ (zu (CZ (CY (jw ((az2 T).mono (by decide)) hr rfl T.Bt.g T.Bt.F.kp T.Bt.b .nil dP (cC (pv 1) eR)))) (mm C2) vF)
  (eQ (gq (pv 0) (pv 1) rfl)
  (eQ (C7 (i:=2) O4.nd rfl (ay rfl) (vM Lm vD (vM Di (DE (pv 1)) vD)))
  (eQ (zt (Nn (E:=E0) (i:=1) T.RG ((RO T).mono (by decide)) hr T.Hx.b rfl T.BF rfl rfl rfl rfl (cC (pv 0) (cC (pv 2) (cC (Nf rfl rfl T.aC6 hB) eR)))))
  (mm (gq (pv 0) (jw ((aE1 T).mono (by decide)) hr rfl T.Br.g T.Br.F.kp T.Br.b .nil dP (cC (pG (pv 0) rfl) (cC (pG (pv 0) rfl) eR))) rfl))))),?_⟩
 try dsimp only[kX,kY]
 refine⟨_,rfl,H,[.int p],λd=>d=.bl true,af.refl _,.int .nil,⟨p,rfl,by rw[χ p hp]⟩,λd v F' H1 A1 hd iV hf he h3 r nd fr=>?_⟩
 subst hd
 cases r
 refine⟨true,rfl,?_⟩
 refine jX ?_
 have bW:=iV.get _ _ hx
 refine⟨.int p,rfl,.ref x,rfl,x,t.aN,dx,_,rfl,bW,T.eF,T.BC,by decide,?_⟩
 generalize e2:upd H1 x (HO.ins t.aN dx (bt "bits" (.int p) []))=H2
 have cZ:H2 x=some (.ins t.aN dx [(("bits":Str),.int p)]):=by rw[<-e2,bA];rfl
 have s2:bM x H H2:=by rw[<-e2];exact(iV.x (x:=x)).trans (bM.upd (C:=x) (dx:=dx) bW rfl)
 have n2:∀p,H2 p=none->H p=none:=λp h=>iV.free (xB bW (by rw[e2];exact h))
 obtain⟨ps,hP⟩:=tb t.jq (by simp)
 obtain⟨more,HW⟩:=s2.tb _ ps hP
 have bp:bl p<=7:=ND p hp
 have BK:1<=bl p:=NF p hp
 refine⟨.int p,rfl,rfl,p,rfl,rfl,_,_,rfl,rfl,_,_,rfl,rfl,?_,?_⟩
 ·have o1:bl (1:Int).natAbs=1:=by decide
  rw[gj]
  exact⟨by omega,by omega⟩
 have em:(1:Int)*2 ^ (((bl ((p:Int)).natAbs:Nat):Int)-1).toNat=((ae (true,p):Nat):Int):=by
  rw[gj,show(((bl p:Nat):Int)-1)=((bl p-1:Nat):Int) by omega,show(1:Int)=((1:Nat):Int) from rfl,rK,CP];rfl
 show zx 2 (.int ((1:Int)*2 ^ (((bl ((p:Int)).natAbs:Nat):Int)-1).toNat)) _ _ _
 rw[em]
 refine⟨.ref x,rfl,.int (ae (true,p)),rfl,⟨_,HW⟩,λf k qn pm iP H3 nf BI hk kf fL hl3=>?_⟩
 refine⟨f,_,_,.int p,BI,rfl,rfl,λoc u iu hu nc om=>?_⟩
 obtain⟨tm,rfl⟩:∃tm,u=oJ p tm:=hu
 have fg:=fL.get _ _ cZ
 refine⟨x,dx,f,t.aN,"bits",p,ae (true,p),_,oc,_,k,gm (true,p),fl (true,p),fst (true,p),rfl,xC fg (λz=>by rw[z,nf]at cZ;cases cZ) nc,by decide,⟨T.eF,T.uO,T.HF,T.uP,T.uN,T.HE,T.yd⟩,Nz om nc hk kf,?_,hF,λH' p1 p2 sx cU HX zL ne yt qT=>?_⟩
 ·refine Nu (n:=3) ⟨rfl,rfl,rfl,by decide,rfl,rfl,by decide,by decide,rfl⟩ iu (λu1 u2=>rfl) λq f A outer s H E hr=>?_
  refine⟨_,di (bx (aa (wg (Es ((RU T).mono (by decide))) hr rfl T.qQ.g T.qQ.F.kp T.qQ.b Er (ai (aa (wg ((aG7 T).mono (by decide)) hr rfl T.Bu.g T.Bu.F.kp T.Bu.b dP (ai (bv 0) (ai (bv 1) aB)))) (ai (bv 2) aB)))) (aa ak) (λ_ _=>rfl)),λi j Qd h=>?_⟩
  obtain⟨a,b,rfl,rfl,ha,hb,hq⟩:=h
  walk_at"l3"
  have b1:bl a<=6:=by
   have:bl a<=bl 63:=DC (by omega)
   exact eO this (by decide)
  have b2:bl b<=6:=by
   have:bl b<=bl 63:=DC (by omega)
   exact eO this (by decide)
  have p0:p≠0:=by
   intro z
   rw[z]at BK
   exact absurd BK (by decide)
  refine⟨a,b,rfl,by omega,by omega,cl a b,p,rfl,eO (ω a b) (by omega),by omega,λz=>p0 z,λ_ x r e l=>⟨by simp[D.pl],.int r,rfl,rfl,r,rfl,?_⟩⟩
  have er:gm (true,p) a b=r:=vZ e l
  rw[<-er];exact hq
 ·have gf:H' f=some (.ext (i6 _ oc _ f)):=sx.get f _ (λz=>by rw[z]at nf;rw[nf]at cZ;cases cZ) (by rw[aO om.symm,bA]) rfl
  have gc:=sx.get _ _ (cT fg nc).symm bA rfl
  refine⟨gf,gc,?_⟩
  have s4:=s2.trans (Ny fL nf nc sx)
  have f1:=n2 _ (AB fL yt)
  have f2:=n2 _ (AB fL qT)
  have l1:=HX.rem gf gc
  have l2:=zL.rem gf gc
  have iU:rem H' f (s.heap.objs.size+1) x=some (.ins t.aN dx ((gJ "bits").zip (Az p (ae (true,p)) p1 p2 (fst (true,p))))):=by
   rw[gH (λz=>by rw[z,gf]at cU;cases cU) (λz=>by rw[z,gc]at cU;cases cU)];exact cU
  generalize rem H' f (s.heap.objs.size+1)=H4 at s4 l1 l2 iU
  refine⟨.ref x,rfl,x,t.aN,dx,_,.ref p1,rfl,iU,T.eF,T.uP,rfl,.ref x,rfl,x,t.aN,dx,_,.ref p2,rfl,iU,T.eF,T.uN,rfl,H4,[.lst false (aE (fl (true,p))),.lst false (aE (dS (fl (true,p))))],λd=>d=.lst true (ou (fl (true,p)) (dS (fl (true,p)))),af.refl _,.shr l1 (j8 _) (.shr l2 (j8 _) .nil),
   ⟨_,_,rfl,by have:=hF.len;have:=hF.lo;omega,by have:=hF.len;have:=hF.hi;omega,xy _ _,NC _ _,rfl⟩,λd v F' H5 A' hd jL hf he h3 r nd fr=>?_⟩
  subst hd
  obtain⟨p3,rfl⟩:∃p3,v=.ref p3:=by cases r;exact⟨_,rfl⟩
  have ie:=jL.get _ _ iU
  have nA:∀{a ws},H4 a=some (.lst ws)->a ∉ A':=λ{a ws} e z=>by rw[fr a z]at e;cases e
  refine⟨.ref x,rfl,x,t.aN,dx,_,rfl,ie,T.eF,T.uQ,lQ (bG 6) (by decide),?_⟩
  refine q _ (Az p (ae (true,p)) p1 p2 (fst (true,p))++[.ref p3]) (p1::p2::A') ((s4.trans (jL.x (x:=x))).trans (bM.upd (C:=x) (dx:=dx) ie rfl)) (by rw[bA];rfl) rfl ?_ ?_ ?_
  ·exact .int (.int (.int (.own ((l1.same jL).upd ie (λws z=>by cases z)) rfl (j8 _) (.own ((l2.same jL).upd ie (λws z=>by cases z)) rfl (j8 _) (.int ((r.rP (by simp[fB,NB]) (af.of λb o e=>by cases e)).uk ie (by simp[fB,NB])))))))
  ·exact js.mpr ⟨by simp[ne];exact nA l1,js.mpr ⟨nA l2,nd⟩⟩
  ·intro a ha
   rcases bR.mp ha with rfl | ha
   ·exact f1
   ·rcases bR.mp ha with rfl | ha
    ·exact f2
    ·exact s4.free (by rw[iU];simp) (fr a ha)
noncomputable abbrev aG8(cb cp:Addr):bc:=λds Q=>∃m:Bool × Nat,ds=[eE m]/\m∈aq/\Q (fD cb cp m)
theorem aG9(T:Txt K mg t)(hB:Bm mg base):aL P w K mg base aS 10 t.PC t.PD ["_law_told_here"] (ua [t.jo,t.jq] (bf (aG8 t.aN t.aR))):=by
 refine EM T.Bv.F aG3 ?_ ?_
 ·intro ds Q h
  obtain⟨m,rfl,hm,q⟩:=h<;>rfl
 ·intro ax A outer s H E hT hr
  refine⟨_,(aF (cI (mF (bx (bv 0) (aa ak) (λ_ _=>rfl))) (aC (aV (ES hT T.HD ((aD0 T hB).mono (by decide)) hr rfl T.HN T.Q3.b dP (ai (bx (bv 0) (aa ak) (λ_ _=>rfl)) aB)))) cO)
   (aC (aV (ES hT T.BD ((RQ T hB).mono (by decide)) hr rfl T.BH T.Hy.b dP (ai (bx (bv 0) (aa ak) (λ_ _=>rfl)) aB))))),λds Q h=>?_⟩
  obtain⟨m,rfl,hm,q⟩:=h
  unfold eE at *
  refine aH λU hU=>?_
  walk_at"l3"
  obtain⟨b,n⟩:=m
  cases b with
  | true =>
   refine⟨_,rfl,true,rfl,?_⟩
   rw[if_pos rfl]
   refine⟨_,rfl,_,_,⟨n,rfl,xF hm,rfl,rfl⟩,?_⟩
   rw[Ξ];exact q
  | false =>
   refine⟨_,rfl,false,rfl,?_⟩
   rw[if_neg (by decide)]
   refine hU _ ?_
   walk_at"l3"
   refine⟨_,rfl,_,_,⟨n,rfl,NP hm,rfl,rfl⟩,?_⟩
   rw[NO];exact q
noncomputable abbrev aJ5:bc:=λds Q=>∃m:Bool × Nat,ds=[eE m]/\bl m.2<=1000/\1<=bl m.2/\Q (.int (ae m:Nat))
theorem HY(T:Txt K mg t):aL P w K mg base aS 1 t.PH t.PK ["_law_told_here"] (bf (aJ5 )):=by
 refine bD T.Bw.F aI7 ?_ ?_
 ·intro ds Q h
  obtain⟨m,rfl,h1,h2,q⟩:=h<;>rfl
 ·intro ax A outer s H E hr
  refine⟨_,(aF (cI (mF (bx (bv 0) (aa ak) (λ_ _=>rfl))) (aC (aV (au sO (aa ak) (aa (au dm (aa (mP (bx (bv 0) (aa ak) (λ_ _=>rfl)))) (aa ak)))))) cO)
   (aC (aV (di (bx (bv 0) (aa ak) (λ_ _=>rfl)))))),λds Q h=>?_⟩
  obtain⟨m,rfl,h1,h2,q⟩:=h
  unfold eE at *
  refine aH λU hU=>?_
  walk_at"l3"
  obtain⟨b,n⟩:=m
  cases b with
  | true =>
   refine⟨_,rfl,true,rfl,?_⟩
   rw[if_pos rfl]
   refine⟨_,rfl,?_⟩
   have o1:bl (1:Int).natAbs=1:=by decide
   have e:(1:Int)*2 ^ (((bl ((n:Int)).natAbs:Nat):Int)-1).toNat=((ae (true,n):Nat):Int):=by
    have gZ:1<=bl n:=h2
    rw[gj,show(((bl n:Nat):Int)-1)=((bl n-1:Nat):Int) by omega,show(1:Int)=((1:Nat):Int) from rfl,rK,CP];rfl
   refine⟨?_,by rw[e];exact q⟩
   rw[gj]
   have iD:bl n<=1000:=h1
   have gZ:1<=bl n:=h2
   exact⟨by omega,by omega⟩
  | false =>
   refine⟨_,rfl,false,rfl,?_⟩
   rw[if_neg (by decide)]
   refine hU _ ?_
   walk_at"l3"
   exact⟨_,rfl,rfl,q⟩
noncomputable abbrev aJ6:bc:=λds Q=>∃(ns:List Int) (k:Int),ds=[.fz (aE ns),.int k]/\0<=k/\Q (.int (ns.getD k.toNat 0))
theorem qU(T:Txt K mg t):aL P w K mg base aS 1 t.PL t.PM ["_law_script","_law_k"] (bf (aJ6 )):=by
 refine bD T.oH.F aI8 ?_ ?_
 ·intro ds Q h
  obtain⟨ns,k,rfl,hk,q⟩:=h<;>rfl
 ·intro ax A outer s H E hr
  refine⟨_,(aF (cI (bN z0 (bv 1) (aa (fc (hJ) (by rfl) T.gQ gy (ai (bv 0) aB))) (bJ _)) (aC (aV (di (bx (bv 0) (bv 1) (λ_ _=>rfl))))) cO)
   (aC (aV ak))),λds Q h=>?_⟩
  obtain⟨ns,k,rfl,hk,q⟩:=h
  refine aH λU hU=>?_
  walk_at"l3"
  split
  ·rename_i h
   exact⟨_,kU hk h,rfl,q⟩
  ·rename_i h
   refine hU _ ?_
   walk_at"l3"
   rw[aU,jR (by omega)]at q
   exact q
noncomputable abbrev aH0:bc:=λds Q=>∃(m:Bool × Nat) (a b:Nat),ds=[eE m,.int a,.int b]/\m∈aq/\a<ae m/\b<ae m/\Q (.int (gm m a b:Nat))
theorem HZ(T:Txt K mg t):aL P w K mg base aS 1 t.PN t.PQ ["_law_told_here","_law_a","_law_b"] (bf (aH0 )):=by
 refine bD T.Bz.F uJ ?_ ?_
 ·intro ds Q h
  obtain⟨m,a,b,rfl,hm,ha,hb,q⟩:=h<;>rfl
 ·intro ax A outer s H E hr
  refine⟨_,(aF (cI (rW (mF (bx (bv 0) (aa ak) (λ_ _=>rfl)))) (aC (aV (au cJ (aa (au jD (bv 1) (bv 2))) (bx (bv 0) (aa ak) (λ_ _=>rfl))))) cO)
   (aF (aW (i:=3) uJ.nd rfl (ay rfl) ak)
   (aF (su fi (bN Ma (bv 2) (aa ak) (bJ _))
    (aF (cI (bN (eo (bX hr)) (aa (au L8 (bv 2) (aa ak))) (aa ak) (bJ _)) (aC (aW (i:=3) uJ.nd rfl (ay rfl) (au sS (bv 3) (bv 1)))) cO)
    (aF (aW (i:=1) uJ.nd rfl (ay rfl) (au sO (bv 1) (aa ak)))
    (aF (cI (bN (eo (bX hr)) (aa (mP (bv 1))) (aa (mP (bx (bv 0) (aa ak) (λ_ _=>rfl)))) (bJ _)) (aC (aW (i:=1) uJ.nd rfl (ay rfl) (au sS (bv 1) (bx (bv 0) (aa ak) (λ_ _=>rfl))))) cO)
    (aC (aW (i:=2) uJ.nd rfl (ay rfl) (au L7 (bv 2) (aa ak))))))))
   (aC (aV (em 3)))))),λds Q h=>?_⟩
  obtain⟨m,a,b,rfl,hm,ha,hb,q⟩:=h
  unfold eE at *
  obtain⟨k,n⟩:=m
  refine aH λU hU=>?_
  walk_at"l3"
  have hF:=bZ hm
  cases k with
  | false =>
   refine⟨_,rfl,false,rfl,?_⟩
   have qV:n<=64:=hF.hi
   have l2:2<=n:=hF.lo
   have Af:a<n:=ha
   have oj:b<n:=hb
   rw[if_pos (by decide)]
   refine⟨kC.ok (.inr ⟨by omega,by omega⟩),_,rfl,by omega,?_⟩
   have e:((gm (false,n) a b:Nat):Int)=(a:Int)*b%n:=by
    show((a*b%n:Nat):Int)=_
    rw[ny,zc]
   rw[<-e];exact q
  | true =>
   refine⟨_,rfl,true,rfl,?_⟩
   rw[if_neg (by decide)]
   have hp:=xF hm
   have bp:=ND n hp
   have BK:=NF n hp
   have p0:n≠0:=λz=>by rw[z,mx]at BK;omega
   have jA:bl a<bl n:=by
    have:=dZ.mpr (show a<2 ^ (bl n-1) from ha)
    omega
   have hy0:bl b<bl n:=by
    have:=dZ.mpr (show b<2 ^ (bl n-1) from hb)
    omega
   refine hU _ ?_
   clear hU U
   refine aH λU hU=>?_
   walk_at"l3"
   refine hU _ ?_
   clear hU U
   refine aH λU hU=>?_
   walk_at"l3"
   refine⟨λm δ=>∃(x y z:Nat),δ=[some (.tup [.bl true,.int n]),some (.int (x:Nat)),some (.int (y:Nat)),some (.int (z:Nat))]/\z ^^^ md (cl x y) n=gm (true,n) a b/\bl x<bl n/\bl y<bl n/\m=bl y,
    ⟨bl b,a,b,0,rfl,by rw[nt];rfl,jA,hy0,rfl⟩,?_⟩
   rintro m δ ⟨x,y,z,rfl,inv,hx,hy,rfl⟩
   walk_at"l3"
   split
   ·rename_i hy1
    have RP:=gx (show y≠0 by omega)
    have BL:bl (y/2)=bl y-1:=Xe y
    have e1:((x:Int)*2 ^ (1:Int).toNat)=((2*x:Nat):Int):=by
     show(x:Int)*(2:Int) ^ 1=_
     omega
    have e2:((y:Int)/2 ^ (1:Int).toNat)=((y/2:Nat):Int):=by
     show(y:Int)/(2:Int) ^ 1=_
     omega
    have a1:nk (y:Int) 1=((y%2:Nat):Int):=by
     rw[show(1:Int)=((1:Nat):Int) from rfl,Le,Nat.and_one_is_mod]
    have tm:=cm4 (y:=y) p0 hx
    have tb:=cf0 p0 hx
    clear hU
    refine aH λU hU=>?_
    walk_at"l3"
    have fin:∀z':Nat,z'=z ^^^ (if y%2=1 then x else 0)->U [some (.tup [.bl true,.int n]),some (.int x),some (.int y),some (.int z')]:=by
     intro z' hz
     have c65:z' ^^^ md (cl (if bl (2*x)=bl n then 2*x ^^^ n else 2*x) (y/2)) n=gm (true,n) a b:=by
      rw[hz,oW,<- tm];exact inv
     refine hU _ ?_
     clear hU
     refine aH λU hU=>?_
     walk_at"l3"
     refine⟨⟨by decide,by simp only[gj];omega⟩,hU _ ?_⟩
     clear hU
     rw[e1]
     refine aH λU hU=>?_
     walk_at"l3"
     have last:∀x':Nat,x'=(if bl (2*x)=bl n then 2*x ^^^ n else 2*x)->U [some (.tup [.bl true,.int n]),some (.int (x':Nat)),some (.int y),some (.int z')]:=by
      intro x' cU
      refine hU _ ?_
      walk_at"l3"
      exact⟨by decide,bl (y/2),by omega,x',y/2,z',⟨rfl,e2,rfl⟩,by rw[cU];exact c65,by rw[cU];exact tb,by omega,rfl⟩
     refine⟨_,rfl,?_⟩
     show(if(((bl (((2*x:Nat):Int)).natAbs:Nat):Int)=((bl ((n:Int)).natAbs:Nat):Int))then _ else _)
     rw[gj,gj]
     split
     ·rename_i hc
      refine⟨_,rfl,?_⟩
      have g:=last (2*x ^^^ n) (by rw[if_pos (by omega)])
      rw[<-my]at g
      exact g
     ·rename_i hc
      exact last (2*x) (by rw[if_neg (by omega)])
    rw[a1]
    split
    ·rename_i BJ
     have odd:y%2=1:=by omega
     have g:=fin (z ^^^ x) (by rw[if_pos odd])
     rw[<-my]at g
     exact g
    ·rename_i BJ
     exact fin z (by rw[if_neg (by omega),kn])
   ·rename_i hy1
    have hy:y=0:=by omega
    subst hy
    rw[WX,xE (by rw[mx];exact gx p0),kn]at inv
    subst inv
    refine hU _ ?_
    walk_at"l3"
    exact q
noncomputable def nj(g:Nat->Nat->Nat)(a:Nat):Nat->List Int->Nat->Option (List Int)
 | 0,_,_=>none
 | f+1,l,p=>if g p a=1 then some l else nj g a f (l++[((g p a:Nat):Int)]) (g p a)
noncomputable def RV(m:Bool × Nat):Bool:=decide (1<=(fst m).toNat)&&decide ((fst m).toNat<ae m)&&((aJ ((fst m).toNat-1)).all λi=>match nj (gm m) (i+1) 64 [1] 1 with | none=>false | some l=>decide (l.length≠ae m-1))&&decide (nj (gm m) (fst m).toNat 64 [1] 1=some (fl m))
theorem cr3:aq.all RV=true:=by decide +kernel
theorem cC9{m:Bool × Nat}(hm:m∈aq):∃s:Nat,1<=s/\s<ae m/\(∀i,i<s-1->∃l,nj (gm m) (i+1) 64 [1] 1=some l/\l.length≠ae m-1)/\nj (gm m) s 64 [1] 1=some (fl m):=by
 have h:=du.mp cr3 m hm
 simp only[RV,dz,du,decide_eq_true_eq,dH]at h
 refine⟨_,h.1.1.1,h.1.1.2,λi hi=>?_,h.2⟩
 have h3:=h.1.2 i hi
 cases e:nj (gm m) (i+1) 64 [1] 1 with
 | none=>rw[e]at h3;cases h3
 | some l=>rw[e]at h3;exact⟨l,rfl,of_decide_eq_true h3⟩
noncomputable abbrev aF2:bc:=λds Q=>∃m:Bool × Nat,ds=[eE m]/\m∈aq/\Q (.lst true (aE (fl m)))
theorem aF3(T:Txt K mg t):aL P w K mg base aS 2 t.PR t.PU ["_law_told_here"] (bf (aF2 )):=by
 refine bD T.Q4.F Gk ?_ ?_
 ·intro ds Q h
  obtain⟨m,rfl,hm,q⟩:=h<;>rfl
 ·intro ax A outer s H E hr
  refine⟨_,(aF (iK fi rfl (wm rfl T.gR (ai (aa ak) (ai (aa (cy T.Bw (HY T) hr (ai (bv 0) aB))) aB))) (jz (i:=1) Gk.nd rfl (ay rfl))
    (aF (aW (i:=2) Gk.nd rfl (ay rfl) (fF (cx ak dR)))
    (aF (su fi (bN (gE (bX hr)) (aa (cy T.Bz (HZ T) hr (ai (bv 0) (ai (bx (bv 2) (aa (D8 (aa ak))) (λ_ _=>rfl)) (ai (bv 1) aB))))) (aa ak) (bJ _))
     (aC (tJ (i:=2) rfl (by first | exact ay rfl | exact cA (ay rfl)) (cy T.Bz (HZ T) hr (ai (bv 0) (ai (bx (bv 2) (aa (D8 (aa ak))) (λ_ _=>rfl)) (ai (bv 1) aB)))))))
    (aC (cI (bN (eo (bX hr)) (aa (fc (hJ) (by rfl) T.gQ gy (ai (bv 2) aB))) (aa (au dm (aa (cy T.Bw (HY T) hr (ai (bv 0) aB))) (aa ak))) (bJ _)) (aC (aV (em 2))) cO)))))
   (aC (aV (fF (cx ak dR))))),λds Q h=>?_⟩
  obtain⟨m,rfl,hm,q⟩:=h
  have hF:=bZ hm
  have fq:=hF.lo
  have BM:=hF.hi
  have hbl:=NR m hm
  obtain⟨st,s1,s2,s3,s4⟩:=cC9 hm
  refine aH λU hU=>?_
  walk_at"l3"
  refine⟨m,rfl,by omega,by omega,1,_,⟨rfl,rfl⟩,⟨by decide,by decide,by omega,by omega⟩,?_⟩
  refine g7.mk (λi δ=>i<=st-1/\∃o1 o2,δ=[some (eE m),o1,o2]) ⟨by omega,none,none,rfl⟩ ?_ ?_
  ·rintro i d δ hd ⟨hi,o1,o2,rfl⟩
   obtain⟨tW,rfl⟩:=bY8 hd
   rw[show(1:Int)+(i:Int)=((i+1:Nat):Int) by omega]
   clear hd
   obtain⟨L,eL,hL⟩:∃L,nj (gm m) (i+1) 64 [1] 1=some L/\((i=st-1/\L=fl m)\/(i<st-1/\L.length≠ae m-1)):=by
    by_cases RW:i=st-1
    ·exact⟨_,by rw[RW,show st-1+1=st by omega];exact s4,.inl ⟨RW,rfl⟩⟩
    ·obtain⟨l,h1,h2⟩:=s3 i (by omega)
     exact⟨l,h1,.inr ⟨by omega,h2⟩⟩
   refine aH λU hU=>?_
   walk_at"l3"
   refine⟨by decide,hU _ ?_⟩
   clear hU
   refine aH λU hU=>?_
   walk_at"l3"
   refine⟨λn δ=>∃(l:List Int) (p:Nat),δ=[some (eE m),some (.int ((i+1:Nat):Int)),some (.lst true (aE (l++[(p:Int)])))]/\p<ae m/\l.length+n=64/\nj (gm m) (i+1) n (l++[(p:Int)]) p=some L,
    ⟨64,[],1,rfl,by omega,rfl,eL⟩,?_⟩
   rintro n δ ⟨l,p,rfl,hp,hl,he⟩
   walk_at"l3"
   have ea:dD (aE (l++[(p:Int)])) (-1)=some (.int (p:Int)):=by rw[Mx (by rw[iX];show 0<l.length+1;omega),iX,Tx,Nat.add_sub_cancel,aU,yI (bG _),yW];rfl
   cases n with
   | zero=>cases he
   | succ n =>
    rw[nj]at he
    refine⟨_,ea,m,p,i+1,rfl,hm,hp,by omega,rfl,rfl,?_⟩
    rw[gF]
    by_cases c:gm m p (i+1)=1
    ·rw[if_pos c]at he
     cases he
     rw[decide_eq_true (by omega),if_neg (by decide)]
     refine hU _ ?_
     walk_at"l3"
     refine⟨m,rfl,by omega,by omega,?_⟩
     dsimp only
     rcases hL with⟨h1,h2⟩ | ⟨h1,h2⟩
     ·have:=hF.len
      rw[h2,if_pos (by omega)]
      exact q
     ·rw[if_neg (by omega)]
      exact⟨by omega,_,_,rfl,rfl⟩
    ·rw[if_neg c]at he
     rw[decide_eq_false (by omega),if_pos (by decide)]
     exact⟨⟨_,rfl⟩,_,ea,m,p,i+1,rfl,hm,hp,by omega,rfl,by rw[iX];show l.length+1<_;omega,n,by omega,l++[(p:Int)],gm m p (i+1),by simp only[aE,jQ,dN,lM],dq hm _ _,by rw[iX];show l.length+1+n=64;omega,he⟩
  ·rintro δ ⟨hi,_⟩
   simp at hi
   omega
noncomputable abbrev aN0:bc:=λds Q=>∃l:List Nat,ds=[.lst false (aA l)]/\l.length<=1000/\Q (.lst true (aA (dv l)))
theorem aN1(T:Txt K mg t):aL P w K mg base aS 1 t.PV t.PY ["a"] (bf (aN0 )):=by
 refine bD T.Q5.F Gp ?_ ?_
 ·intro ds Q h
  obtain⟨l,rfl,hl,q⟩:=h<;>rfl
 ·intro ax A outer s H E hr
  refine⟨_,(aF (aW (i:=1) Gp.nd rfl (ay rfl) (fc (hJ) (by rfl) T.gQ gy (ai (bv 0) aB)))
   (aF (su fi (PW.pt (LO (bN Ma (bv 1) (aa ak) (bJ _)) (Ka (bN (eo (bX hr)) (bx (bv 0) (aa (au dm (bv 1) (aa ak))) (λ_ _=>rfl)) (aa ak) (bJ _)))))
    (aC (wj (i:=1) Gp.nd rfl (ay rfl) (aa ak) YT)))
   (aC (aV (EC (bv 0) Ef (Eg (bv 1))))))),λds Q h=>?_⟩
  obtain⟨l,rfl,hl,q⟩:=h
  refine aH λU hU=>?_
  walk_at"l3"
  refine hU _ ?_
  clear hU U
  refine aH λU hU=>?_
  walk_at"l3"
  refine⟨λn δ=>∃k:Nat,δ=[some (.lst false (aA l)),some (.int (k:Nat))]/\k<=l.length/\(∀x∈l.drop k,x=0)/\n=k,⟨l.length,l.length,rfl,bG _,by simp,rfl⟩,?_⟩
  rintro n δ ⟨k,rfl,hk,hz,rfl⟩
  walk_at"l3"
  have fin:(n=0\/l.getD (n-1) 0≠0)->U [some (.lst false (aA l)),some (.int (n:Nat))]:=λh=>by
   refine hU _ ?_
   walk_at"l3"
   rw[NV hk hz h]at q
   rw[show eI l none (some (n:Int))=l.take n from MX l n]
   exact q
  split
  ·rename_i h1
   refine⟨_,qI (by omega) (by omega),rfl,?_⟩
   rw[gF,show((n:Int)-1).toNat=n-1 by omega]
   by_cases h0:l.getD (n-1) 0=0
   ·rw[if_pos (by rw[h0];rfl)]
    refine⟨n-1,by omega,n-1,by omega,by omega,bR1 (by omega) hk hz h0,rfl⟩
   ·rw[if_neg (by simp only[decide_eq_true_eq];omega)]
    exact fin (.inr h0)
  ·rename_i h1
   exact fin (.inl (by omega))
noncomputable abbrev RX:bc:=λds Q=>∃(d:D) (a b:Nat),ds=[d,.int a,.int b]/\Q (.int (a ^^^ b:Nat))
theorem aD1(T:Txt K mg t):aL P w K mg base aS 1 t.Hb t.PZ ["self","a","b"] (bf (RX )):=by
 refine bD T.Q6.F aC2 ?_ ?_
 ·intro ds Q h
  obtain⟨d,a,b,rfl,q⟩:=h<;>rfl
 ·intro ax A outer s H E hr
  refine⟨_,(aC (aV (au sS (bv 1) (bv 2)))),λds Q h=>?_⟩
  obtain⟨d,a,b,rfl,q⟩:=h
  walk_at"l3"
  rw[my];exact q
noncomputable abbrev RY(K:Frag):bc:=λds Q=>∃(C:Addr) (p:Nat) (a b:Int),ds=[qD C p,.int a,.int b]/\cB K C/\bj K C "prime"/\0<p/\Q (.int ((a+b)%p))
theorem az3(T:Txt K mg t):aL P w K mg base aS 1 t.Hc t.P0 ["self","a","b"] (bf (RY K)):=by
 refine bD T.Q7.F aw8 ?_ ?_
 ·intro ds Q h
  obtain⟨C,p,a,b,rfl,hC,hn,hp,q⟩:=h<;>rfl
 ·intro ax A outer s H E hr
  refine⟨_,(aC (aV (au cJ (aa (au dj (bv 1) (bv 2))) (cV (K:=K) (bv 0))))),λds Q h=>?_⟩
  obtain⟨C,p,a,b,rfl,hC,hn,hp,q⟩:=h
  walk_at"l3"
  refine⟨C,_,_,.int p,rfl,hC,hn,rfl,?_⟩
  exact⟨by omega,q⟩
theorem cu2(T:Txt K mg t){m:Bool × Nat}(h0:0<m.2):∃C ns xs sp,fD t.aN t.aR m=.obj C ns xs/\jf P w K mg base 1 "plus" C sp/\("plus":Str) ∉ ns/\∀(a b:Nat) (Q:D->Prop),Q (.int (gp m a b:Nat))->sp [.obj C ns xs,.int a,.int b] Q:=by
 obtain⟨k,n⟩:=m
 cases k with
 | true=>exact⟨_,_,_,RX,rfl,⟨T.eF,_,_,_,T.aC7,aD1 T,T.Q6.b⟩,by decide,λa b Q q=>⟨_,a,b,rfl,q⟩⟩
 | false =>
  refine⟨_,_,_,RY K,rfl,⟨T.eN,_,_,_,T.ay6,az3 T,T.Q7.b⟩,by decide,λa b Q q=>⟨_,n,a,b,rfl,T.eN,T.nh,h0,?_⟩⟩
  have e:((gp (false,n) a b:Nat):Int)=((a:Int)+b)%n:=by
   show(((a+b)%n:Nat):Int)=_
   rw[ny,yV]
  rw[<-e];exact q
noncomputable abbrev RZ(K:Frag):bc:=λds Q=>∃(C:Addr) (p a b:Nat),ds=[xD C p,.int a,.int b]/\cB K C/\bj K C "products"/\p∈jI/\a<ae (true,p)/\b<ae (true,p)/\Q (.int (gm (true,p) a b:Nat))
theorem aA9(T:Txt K mg t):aL P w K mg base aS 1 t.He t.P1 ["self","a","b"] (bf (RZ K)):=by
 refine bD T.Q8.F aA4 ?_ ?_
 ·intro ds Q h
  obtain⟨C,p,a,b,rfl,hC,hn,hp,ha,hb,q⟩:=h<;>rfl
 ·intro ax A outer s H E hr
  refine⟨_,(aC (aV (di (bx (bx (cV (K:=K) (bv 0)) (bv 1) (λ_ _=>rfl)) (bv 2) (λ_ _=>rfl))))),λds Q h=>?_⟩
  obtain⟨C,p,a,b,rfl,hC,hn,hp,ha,hb,q⟩:=h
  walk_at"l3"
  refine⟨C,_,_,_,rfl,hC,hn,rfl,?_⟩
  exact⟨_,EY hp ha,_,EX hp ha hb,rfl,q⟩
noncomputable abbrev R0(K:Frag):bc:=λds Q=>∃(C:Addr) (p:Nat) (a b:Int),ds=[qD C p,.int a,.int b]/\cB K C/\bj K C "prime"/\0<p/\IntMulOk a b/\Q (.int (a*b%p))
theorem aw0(T:Txt K mg t):aL P w K mg base aS 1 t.Hf t.P2 ["self","a","b"] (bf (R0 K)):=by
 refine bD T.Q9.F av6 ?_ ?_
 ·intro ds Q h
  obtain⟨C,p,a,b,rfl,hC,hn,hp,hm,q⟩:=h<;>rfl
 ·intro ax A outer s H E hr
  refine⟨_,(aC (aV (au cJ (aa (au jD (bv 1) (bv 2))) (cV (K:=K) (bv 0))))),λds Q h=>?_⟩
  obtain⟨C,p,a,b,rfl,hC,hn,hp,hm,q⟩:=h
  walk_at"l3"
  exact⟨hm,C,_,_,.int p,rfl,hC,hn,rfl,by omega,q⟩
theorem ci0(T:Txt K mg t){m:Bool × Nat}(hm:m∈aq){a b:Nat}(ha:a<ae m)(hb:b<ae m){Q:D->Prop}(q:Q (.int (gm m a b:Nat))):NS P w K mg base 1 t.aN t.aR m "times" [.int a,.int b] Q:=by
 have hF:=bZ hm
 obtain⟨k,n⟩:=m
 cases k with
 | true=>exact⟨_,_,_,RZ K,rfl,⟨T.eF,_,_,_,T.aA8,aA9 T,T.Q8.b⟩,by decide,_,n,a,b,rfl,T.eF,T.uQ,xF hm,ha,hb,q⟩
 | false =>
  have qV:n<=64:=hF.hi
  have Af:a<n:=ha
  have oj:b<n:=hb
  refine⟨_,_,_,R0 K,rfl,⟨T.eN,_,_,_,T.av9,aw0 T,T.Q9.b⟩,by decide,_,n,a,b,rfl,T.eN,T.nh,by omega,kC.ok (.inr ⟨by omega,by omega⟩),?_⟩
  have e:((gm (false,n) a b:Nat):Int)=(a:Int)*b%n:=by
   show((a*b%n:Nat):Int)=_
   rw[ny,zc]
  rw[<-e];exact q
noncomputable abbrev aH1(cb cp:Addr):bc:=λds Q=>∃(m:Bool × Nat) (a b:List Nat),ds=[fD cb cp m,.lst false (aA a),.lst false (aA b)]/\m∈aq/\AllLt (ae m) a/\AllLt (ae m) b/\a.length+b.length<=1000/\Q (.lst true (aA (mY m a b)))
theorem aH2(T:Txt K mg t):aL P w K mg base aS 2 t.P4 t.P5 ["field","a","b"] (bf (aH1 t.aN t.aR)):=by
 refine bD T.Ra.F Bf ?_ ?_
 ·intro ds Q h
  obtain⟨m,a,b,rfl,hm,ha,hb,hl,q⟩:=h<;>rfl
 ·intro ax A outer s H E hr
  refine⟨_,(aF (aW (i:=3) Bf.nd rfl (ay rfl) (au jD (aa (fF (cx ak dR))) (aa (au dj (aa (fc (hJ) (by rfl) T.gQ gy (ai (bv 1) aB))) (aa (fc (hJ) (by rfl) T.gQ gy (ai (bv 2) aB)))))))
   (aF (iK fi rfl (xi rfl T.yk (ai (bv 1) aB)) (tZ (i1:=4) (i2:=5) rfl Bf.nd rfl (ay rfl) rfl (ay rfl))
    (aC (iK fi rfl (xi rfl T.yk (ai (bv 2) aB)) (tZ (i1:=6) (i2:=7) rfl Bf.nd rfl (ay rfl) rfl (ay rfl))
     (aC (z9 (i:=3) rfl (by first | exact ay rfl | exact cA (ay rfl)) (mV (P:=P) (w:=w) (K:=K) (mg:=mg) (base:=base) (n:=1) (bv 0) (hr.mono (by decide)) (ai (bx (bv 3) (aa (au dj (bv 4) (bv 6))) (λ_ _=>rfl)) (ai (aa (mV (P:=P) (w:=w) (K:=K) (mg:=mg) (base:=base) (n:=1) (bv 0) (hr.mono (by decide)) (ai (bv 5) (ai (bv 7) aB)))) aB))) (aa (au dj (bv 4) (bv 6))))))))
   (aC (aV (cy T.Q5 (aN1 T) hr (ai (bv 3) aB)))))),λds Q h=>?_⟩
  obtain⟨m,a,b,rfl,hm,ha,hb,hl,q⟩:=h
  have m0:=bO m hm
  refine aH λU hU=>?_
  walk_at"l3"
  refine⟨by decide,⟨by omega,by omega,by omega⟩,?_⟩
  rw[show aE (aX ((a.length:Int)+(b.length:Int)).toNat 0)=aA (aX (a.length+b.length) 0) by rw[eJ,CQ];unfold aE;rw[CQ];rfl]
  refine hU _ ?_
  clear hU U
  refine aH λU hU=>?_
  walk_at"l3"
  refine g7.mk (λi δ=>∃o4 o5 o6 o7,δ=[some (fD t.aN t.aR m),some (D.lst false (aA a)),some (D.lst false (aA b)),some (D.lst true (aA (gK m b (aX (a.length+b.length) 0) 0 (a.take i)))),o4,o5,o6,o7]) ⟨_,_,_,_,rfl⟩ ?_ ?_
  ·rintro i d δ hd ⟨o4,o5,o6,o7,rfl⟩
   obtain⟨hi,rfl⟩:=N4 hd
   clear hd
   generalize hT:gK m b (aX (a.length+b.length) 0) 0 (a.take i)=tt
   have lT:tt.length=a.length+b.length:=by rw[<-hT,E6,jM]
   have bT:AllLt (ae m) tt:=by rw[<-hT];exact E8 hm b _ _ _ (AK hm _)
   walk_at"l3"
   refine g7.mk (λj δ=>∃o6 o7,δ=[some (fD t.aN t.aR m),some (D.lst false (aA a)),some (D.lst false (aA b)),some (D.lst true (aA (eV m a[i] tt i (b.take j)))),some (D.int i),some (D.int (a[i]:Nat)),o6,o7]) ⟨_,_,rfl⟩ ?_ ?_
   ·rintro j d δ hd ⟨o6,o7,rfl⟩
    obtain⟨hj,rfl⟩:=N4 hd
    clear hd
    have lP:(eV m a[i] tt i (b.take j)).length=a.length+b.length:=by rw[xJ,lT]
    have bP:AllLt (ae m) (eV m a[i] tt i (b.take j)):=xK hm _ _ _ _ bT
    obtain⟨C,ns,xs,sp,e1,e2,e3,e4⟩:=cu2 (P:=P) (w:=w) (base:=base) T m0
    walk_at"l3"
    refine⟨C,ns,xs,sp,e1,e2,e3,_,qI (by omega) (by omega),ci0 T hm (ha _ (fh _)) (hb _ (fh _)) (e4 _ _ _ ⟨rfl,_,((i:Int)+(j:Int)).toNat,rfl,E9 (by omega) (by rw[gG];omega),_,_,?_,rfl,rfl⟩)⟩
    rw[b23 m _ b tt i hj,Fb,show((i:Int)+(j:Int)).toNat=i+j by omega];rfl
   ·rintro δ ⟨o6,o7,rfl⟩
    rw[oa,gG,ve,b22 m b a _ 0 hi,hT,CI]
    exact⟨_,_,_,_,rfl⟩
  ·rintro δ ⟨o4,o5,o6,o7,rfl⟩
   rw[oa,gG,ve]
   refine hU _ ?_
   walk_at"l3"
   have:=bS5 m a b
   exact⟨mX m a b,rfl,by rw[this];exact hl,by rw[fB,N3];rfl,q⟩
noncomputable abbrev R1:bc:=λds Q=>∃(d:D) (a b:Nat),ds=[d,.int a,.int b]/\Q (.int (a ^^^ b:Nat))
theorem aB0(T:Txt K mg t):aL P w K mg base aS 1 t.Hg t.P6 ["self","a","b"] (bf (R1 )):=by
 refine bD T.Rb.F aA5 ?_ ?_
 ·intro ds Q h
  obtain⟨d,a,b,rfl,q⟩:=h<;>rfl
 ·intro ax A outer s H E hr
  refine⟨_,(aC (aV (au sS (bv 1) (bv 2)))),λds Q h=>?_⟩
  obtain⟨d,a,b,rfl,q⟩:=h
  walk_at"l3"
  rw[my];exact q
noncomputable abbrev R3(K:Frag):bc:=λds Q=>∃(C:Addr) (p:Nat) (a b:Int),ds=[qD C p,.int a,.int b]/\cB K C/\bj K C "prime"/\0<p/\Q (.int ((a-b)%p))
theorem aw1(T:Txt K mg t):aL P w K mg base aS 1 t.Hh t.P7 ["self","a","b"] (bf (R3 K)):=by
 refine bD T.Rc.F av7 ?_ ?_
 ·intro ds Q h
  obtain⟨C,p,a,b,rfl,hC,hn,hp,q⟩:=h<;>rfl
 ·intro ax A outer s H E hr
  refine⟨_,(aC (aV (au cJ (aa (au dm (bv 1) (bv 2))) (cV (K:=K) (bv 0))))),λds Q h=>?_⟩
  obtain⟨C,p,a,b,rfl,hC,hn,hp,q⟩:=h
  walk_at"l3"
  refine⟨C,_,_,.int p,rfl,hC,hn,rfl,?_⟩
  exact⟨by omega,q⟩
theorem R4(T:Txt K mg t){m:Bool × Nat}(h0:0<m.2):∃C ns xs sp,fD t.aN t.aR m=.obj C ns xs/\jf P w K mg base 1 "minus" C sp/\("minus":Str) ∉ ns/\∀(a b:Nat) (Q:D->Prop),Q (.int (gl m a b))->sp [.obj C ns xs,.int a,.int b] Q:=by
 obtain⟨k,n⟩:=m
 cases k with
 | true=>exact⟨_,_,_,R1,rfl,⟨T.eF,_,_,_,T.aA7,aB0 T,T.Rb.b⟩,by decide,λa b Q q=>⟨_,a,b,rfl,q⟩⟩
 | false=>exact⟨_,_,_,R3 K,rfl,⟨T.eN,_,_,_,T.av8,aw1 T,T.Rc.b⟩,by decide,λa b Q q=>⟨_,n,a,b,rfl,T.eN,T.nh,h0,q⟩⟩
noncomputable abbrev aJ7(cb cp:Addr):bc:=λds Q=>∃(m:Bool × Nat) (r:Nat),ds=[fD cb cp m,.int r]/\m∈aq/\r<ae m/\Q (.lst true (aA [ib m r,1]))
theorem aJ8(T:Txt K mg t):aL P w K mg base aS 2 t.P8 t.P9 ["field","r"] (bf (aJ7 t.aN t.aR)):=by
 refine bD T.Rh.F aI9 ?_ ?_
 ·intro ds Q h
  obtain⟨m,r,rfl,hm,bU,q⟩:=h<;>rfl
 ·intro ax A outer s H E hr
  refine⟨_,(aC (aV (fF (cx (mV (P:=P) (w:=w) (K:=K) (mg:=mg) (base:=base) (n:=1) (bv 0) (hr.mono (by decide)) (ai (aa ak) (ai (bv 1) aB))) (cx ak dR))))),λds Q h=>?_⟩
  obtain⟨m,r,rfl,hm,bU,q⟩:=h
  have fq:=(bZ hm).lo
  have m0:=bO m hm
  obtain⟨C,ns,xs,sp,e1,e2,e3,e4⟩:=R4 (P:=P) (w:=w) (base:=base) T m0
  have ga:=ji hm (a:=0) (b:=r) (by omega) bU
  walk_at"l3"
  refine⟨C,ns,xs,sp,e1,e2,e3,e4 0 r _ ⟨by decide,?_⟩⟩
  rw[ga.1,<- OQ bU]
  exact q
noncomputable abbrev aL4(t:ft):bc:=λds Q=>∃(m:Bool × Nat) (l:List Nat),ds=[fD t.aN t.aR m,.lst false (aA l)]/\m∈aq/\AllLt (ae m) l/\l.length<=100/\∀L:List Nat,AllLt (ae m) L->L.length=l.length+1->(∀k,cf L k=PF m 1 l k)->Q (.lst true (aA L))
theorem aL5(T:Txt K mg t):aL P w K mg base aS 3 t.Qa t.Qb ["field","some"] (bf (aL4 t)):=by
 refine bD T.Ri.F Bg ?_ ?_
 ·intro ds Q h
  obtain⟨m,l,rfl,hm,hl,hll,q⟩:=h<;>rfl
 ·intro ax A outer s H E hr
  refine⟨_,(aF (aW (i:=2) Bg.nd rfl (ay rfl) (fF (cx ak dR)))
   (aF (iK fi rfl (LS (di (bv 1))) (jz (i:=3) Bg.nd rfl (ay rfl))
    (aC (aW (i:=2) Bg.nd rfl (ay rfl) (cy T.Ra (aH2 T) hr (ai (bv 0) (ai (bv 2) (ai (aa (cy T.Rh (aJ8 T) hr (ai (bv 0) (ai (bv 3) aB)))) aB)))))))
   (aC (aV (em 2))))),λds Q h=>?_⟩
  obtain⟨m,l,rfl,hm,hl,hll,q⟩:=h
  have fq:=(bZ hm).lo
  refine aH λU hU=>?_
  walk_at"l3"
  refine⟨by decide,hU _ ?_⟩
  clear hU U
  refine aH λU hU=>?_
  walk_at"l3"
  refine g7.mk (λi δ=>∃(L:List Nat) (o:Option D),δ=[some (fD t.aN t.aR m),some (D.lst false (aA l)),some (D.lst true (aA L)),o]/\AllLt (ae m) L/\L.length=i+1/\∀k,cf L k=PF m 1 (l.take i) k) ⟨[1],none,rfl,?_,rfl,λk=>?_⟩ ?_ ?_
  ·intro a ha
   rw[jP]at ha
   omega
  ·cases k<;>rfl
  ·rintro i d δ hd ⟨L,o,rfl,hL,lL,cL⟩
   obtain⟨hi,rfl⟩:=b03 hd
   clear hd hU
   have uw:=hl _ (fh hi)
   have hn:=A8 hm l[i]
   have h2:AllLt (ae m) [ib m l[i],1]:=λa ha=>by
    simp only[bR,ij,or_false]at ha
    rcases ha with rfl | rfl
    ·exact hn
    ·omega
   have ec:∀k,cf (mY m L [ib m l[i],1]) k=PF m 1 (l.take (i+1)) k:=λk=>by
    rw[Ob hm,Ba hm hn hL,show cf L=_ from funext cL,oX,aT hi]
    show jJ _ _ _ 1 (l[i]::l.take i) k=_
    exact congrFun (b52 (rg hm) (by omega) (A8 hm) (lV (l₁:=[l[i]]) (l₂:=l.take i))) k
   have lt:(l.take (i+1)).length=i+1:=by rw[lH];omega
   have lp:(mY m L [ib m l[i],1]).length=i+1+1:=by
    refine ci5 (l:=mX m L [ib m l[i],1]) ?_ λk hk=>?_
    ·rw[<-oA]
     have e:=ec (i+1)
     have tp:=FA (c:=1) (ng:=ib m) (rg hm) (by omega) (l.take (i+1))
     rw[lt]at tp
     rw[show cf (dv (mX m L [ib m l[i],1])) (i+1)=_ from e.trans tp]
     decide
    ·rw[<-oA]
     exact(ec k).trans (xV (rg hm) _ k (by omega))
   walk_at"l3"
   exact⟨m,l[i],rfl,hm,uw,m,L,[ib m l[i],1],by rw[xM],hm,hL,h2,by rw[lL];simp;omega,oy _,_,_,⟨rfl,rfl⟩,cj6 hm _ _,lp,ec⟩
  ·rintro δ ⟨L,o,rfl,hL,lL,cL⟩
   refine hU _ ?_
   walk_at"l3"
   rw[gG]at lL cL
   rw[ve]at cL
   exact q L hL lL cL
noncomputable abbrev Ia(t:ft)(P:Program)(w:World)(K:Frag)(mg:Str->Option Value)(base:Heap):bc:=λds Q=>∃(m:Bool × Nat) (G:List (List Nat)) (e f:Nat),ds=[gg t m G (.gP e f)]/\m∈aq/\e<=64/\f<=64/\∀L:List Nat,AllLt (ae m) L->L.length=e+1->(∀k,cf L k=PF m 1 ((aJ e).map λ(i:Nat)=>eS m ((f:Int)+(i:Int))) k)->Q (.lst true (aA L))
theorem R5(T:Txt K mg t):aL P w K mg base aS 4 t.Hi t.Qc ["self"] (bf (Ia t P w K mg base)):=by
 refine bD T.Hz.F aA6 ?_ ?_
 ·intro ds Q h
  obtain⟨m,G,e,f,rfl,hm,he,hf,q⟩:=h<;>rfl
 ·intro ax A outer s H E hr
  refine⟨_,(aC (aV (cy T.Ri (aL5 T) hr (ai (cV (K:=K) (bv 0)) (ai (aa (gM [("self",0)] ["i"] rfl (kO rfl T.gR (ai (cV (K:=K) (bv 0)) aB)) (λ_ _ _ _=>(jm (i:=1) (show(["self","i"]:List Str).Nodup by decide +kernel))) (λ_ _ _ _=>gD) (λ_ _ _ _=>(mV (P:=P) (w:=w) (K:=K) (mg:=mg) (base:=base) (n:=1) (cV (K:=K) (bv 0)) (hr.mono (by decide)) (ai (aa (au dj (cV (K:=K) (bv 0)) (bv 1))) aB))) rfl)) aB))))),λds Q h=>?_⟩
  obtain⟨m,G,e,f,rfl,hm,he,hf,q⟩:=h
  walk_at"l3"
  refine HV T m G (.gP e f) ?_
  refine⟨_,_,_,_,rfl,T.ff,T.qS,rfl,_,rfl,⟨by omega,by omega⟩,?_⟩
  refine iN (aJ e) (λ(i:Nat)=>D.int (i:Int)) (λ(i:Nat)=>D.int ((eS m ((f:Int)+(i:Int)):Nat):Int)) (uq _ rfl) kZ (λi hi=>?_) (.inr λ_ _=>rfl) (by rw[de,sL];omega) ?_
  ·walk_at"l3"
   rw[FG]
   refine HV T m G (.gP e f) ?_
   obtain⟨C,ns,xs,sp,e1,e2,e3,e4⟩:=RN (P:=P) (w:=w) (base:=base) T hm (n:=(f:Int)+(i:Int)) (Q:=λr=>r=D.int ((eS m ((f:Int)+(i:Int)):Nat):Int)) rfl
   refine⟨C,ns,xs,sp,e1,e2,e3,⟨_,_,_,_,rfl,T.ff,T.uU,rfl,e4⟩⟩
  ·refine⟨m,(aJ e).map λ(i:Nat)=>eS m ((f:Int)+(i:Int)),?_,hm,λa ha=>?_,by rw[bY,de];omega,λL h1 h2 h3=>⟨by rw[oy,l9],q L h1 (by rw[bY,de]at h2;exact h2) h3⟩⟩
   ·rw[EZ,show((aJ e).map λ(i:Nat)=>D.int ((eS m ((f:Int)+(i:Int)):Nat):Int))=aA ((aJ e).map λ(i:Nat)=>eS m ((f:Int)+(i:Int))) by rw[eJ,eH];rfl,xM]
   ·obtain⟨_,_,rfl⟩:=dA.mp ha
    exact xH hm _
noncomputable abbrev aJ9:bc:=λds Q=>∃(m:Bool × Nat) (a b:Nat),ds=[eE m,.int a,.int b]/\0<m.2/\Q (.int (gp m a b:Nat))
theorem aK0(T:Txt K mg t):aL P w K mg base aS 1 t.Qe t.Qf ["_law_told_here","_law_a","_law_b"] (bf (aJ9 )):=by
 refine bD T.Rj.F aJ0 ?_ ?_
 ·intro ds Q h
  obtain⟨m,a,b,rfl,h0,q⟩:=h<;>rfl
 ·intro ax A outer s H E hr
  refine⟨_,(aF (cI (mF (bx (bv 0) (aa ak) (λ_ _=>rfl))) (aC (aV (au sS (bv 1) (bv 2)))) cO)
   (aC (aV (au cJ (aa (au dj (bv 1) (bv 2))) (bx (bv 0) (aa ak) (λ_ _=>rfl)))))),λds Q h=>?_⟩
  obtain⟨m,a,b,rfl,h0,q⟩:=h
  unfold eE at *
  obtain⟨k,n⟩:=m
  refine aH λU hU=>?_
  walk_at"l3"
  cases k with
  | true =>
   refine⟨_,rfl,true,rfl,?_⟩
   rw[if_pos rfl,my]
   exact q
  | false =>
   refine⟨_,rfl,false,rfl,?_⟩
   rw[if_neg (by decide)]
   refine hU _ ?_
   walk_at"l3"
   refine⟨_,rfl,?_⟩
   refine⟨by omega,?_⟩
   have e:((gp (false,n) a b:Nat):Int)=((a:Int)+b)%n:=by
    show(((a+b)%n:Nat):Int)=_
    rw[ny,yV]
   rw[<-e];exact q
noncomputable abbrev aH3:bc:=λds Q=>∃(m:Bool × Nat) (l:List Nat) (x:Nat),ds=[eE m,.lst false (aA l),.int x]/\m∈aq/\AllLt (ae m) l/\x<ae m/\l.length<=100/\Q (.int (bz m x l:Nat))
theorem aH4(T:Txt K mg t):aL P w K mg base aS 2 t.Qg t.Qh ["_law_told_here","_law_a","_law_x"] (bf (aH3 )):=by
 refine bD T.Rk.F Bh ?_ ?_
 ·intro ds Q h
  obtain⟨m,l,x,rfl,hm,ha,hx,hl,q⟩:=h<;>rfl
 ·intro ax A outer s H E hr
  refine⟨_,(aF (aW (i:=3) Bh.nd rfl (ay rfl) ak)
   (aF (iK fi rfl (kO rfl T.gR (ai (aa (fc (hJ) (by rfl) T.gQ gy (ai (bv 1) aB))) aB)) (jz (i:=4) Bh.nd rfl (ay rfl))
    (aC (aW (i:=3) Bh.nd rfl (ay rfl) (cy T.Rj (aK0 T) hr (ai (bv 0) (ai (aa (cy T.Bz (HZ T) hr (ai (bv 0) (ai (bv 3) (ai (bv 2) aB))))) (ai (bx (bv 1) (aa (au dm (aa (au dm (aa (fc (hJ) (by rfl) T.gQ gy (ai (bv 1) aB))) (aa ak))) (bv 4))) (λ_ _=>rfl)) aB)))))))
   (aC (aV (em 3))))),λds Q h=>?_⟩
  obtain⟨m,l,x,rfl,hm,ha,hx,hl,q⟩:=h
  have m0:=bO m hm
  refine aH λU hU=>?_
  walk_at"l3"
  refine hU _ ?_
  clear hU U
  refine aH λU hU=>?_
  walk_at"l3"
  refine⟨⟨by omega,by omega⟩,Ab (λi δ=>∃o,δ=[some (eE m),some (.lst false (aA l)),some (.int x),some (.int (bz m x (l.drop (l.length-i)):Nat)),o]) ⟨none,by rw[JF,List.drop_length];rfl⟩ ?_ ?_⟩
  ·rintro i δ tW ⟨o,rfl⟩
   have hi:l.length-1-i<l.length:=by omega
   have hv:bz m x (l.drop (l.length-i))<ae m:=xI hm x λa h=>ha a (yQ h)
   simp only[gN,l8,lZ]
   walk_at"l3"
   refine⟨m,_,_,rfl,hm,hv,hx,?_⟩
   rw[show((l.length:Int)-1-(i:Int))=((l.length-1-i:Nat):Int) by omega]
   refine⟨_,qI (by omega) (by rw[jN];exact hi),?_⟩
   refine⟨m,_,_,rfl,m0,rfl,_,?_,rfl⟩
   have e:l.drop (l.length-(i+1))=l[l.length-1-i]::l.drop (l.length-i):=by
    rw[show l.length-(i+1)=l.length-1-i by omega,JR hi,show l.length-1-i+1=l.length-i by omega]
   rw[e,jN,aU,aT hi];rfl
  ·rintro δ ⟨o,rfl⟩
   refine hU _ ?_
   walk_at"l3"
   rw[yW,List.drop_zero]
   exact q
noncomputable abbrev aH5(t:ft)(P:Program)(w:World)(K:Frag)(mg:Str->Option Value)(base:Heap):bc:=λds Q=>∃(m:Bool × Nat) (G:List (List Nat)) (n e f:Nat),ds=[gg t m G (.gP e f),eE m,.lst false (aE (fl m)),.tup [.int n,.int e,.int f]]/\m∈aq/\1<=e/\e<=64/\f<=64/\Q (.bl true)
theorem aH6(T:Txt K mg t):aL P w K mg base aS 5 t.Qi t.Qj ["_law_code","_law_told_here","_law_powers_here","_law_three"] (bf (aH5 t P w K mg base)):=by
 refine bD T.Rl.F Bi ?_ ?_
 ·intro ds Q h
  obtain⟨m,G,n,e,f,rfl,hm,he,Ib,hf,q⟩:=h<;>rfl
 ·intro ax A outer s H E hr
  refine⟨_,(aF (aW (i:=4) Bi.nd rfl (ay rfl) (ow (P:=P) (w:=w) (K:=K) (mg:=mg) (base:=base) (n:=4) (bv 0) (hr.mono (by decide))))
   (aF (cI (PW.pt (pW (rW (mF (aa (Y4 (by rfl) T.BE (by rfl) T.ym v7 (bv 4))))) (pW (bN (gE (bX hr)) (aa (fc (hJ) (by rfl) T.gQ gy (ai (bv 4) aB))) (aa (au dj (bx (bv 3) (aa ak) (λ_ _=>rfl)) (aa ak))) (bJ _)) (zo (bN (gE (bX hr)) (bx (bv 4) (aa (D8 (aa ak))) (λ_ _=>rfl)) (aa ak) (bJ _)))))) (aC (aV j3)) cO)
   (aF (cI (rW (mF (aa (fc (Ea rfl) (by rfl) T.HL DD (ai (aa (gM [("_law_powers_here",2)] ["_law_a"] rfl (p9 (bv 4)) (λ_ _ _ _=>(jm (i:=1) (show(["_law_powers_here","_law_a"]:List Str).Nodup by decide +kernel))) (λ_ _ _ _=>gD) (λ_ _ _ _=>(tf j6 z0 (aa ak) (bv 1) (aa (au dj (aa (fc (hJ) (by rfl) T.gQ gy (ai (bv 0) aB))) (aa ak))))) rfl)) aB))))) (aC (aV j3)) cO)
   (aF (cm3 (i:=5) Bi.nd rfl (ay rfl) [("_law_powers_here",2),("_law_three",3)] ["_law_i"] rfl (kO rfl T.gR (ai (bx (bv 3) (aa ak) (λ_ _=>rfl)) aB)) (λ_ _ _ _=>(jm (i:=2) (show(["_law_powers_here","_law_three","_law_i"]:List Str).Nodup by decide +kernel))) (λ_ _ _ _=>gD) (λ_ _ _ _=>(di (bx (bv 0) (aa (au cJ (aa (au dj (bx (bv 1) (aa ak) (λ_ _=>rfl)) (bv 2))) (aa (fc (hJ) (by rfl) T.gQ gy (ai (bv 0) aB))))) (λ_ _=>rfl)))) rfl)
   (aF (aW (i:=6) Bi.nd rfl (cA rfl) (nY (D9) (by rfl) T.ym v7 (ai (bv 4) aB)))
   (aF (tJ (i:=4) rfl (by first | exact ay rfl | exact cA (ay rfl)) ak)
   (aC (aV (pX (aa (zV (eo (bX hr)) (aa (ow (P:=P) (w:=w) (K:=K) (mg:=mg) (base:=base) (n:=4) (bv 0) (hr.mono (by decide)))) (bv 6) (bJ _))) (vE (fc (Ea rfl) (by rfl) T.HL DD (ai (aa (gM [("_law_told_here",1),("_law_kept",6)] ["_law_root"] rfl (p9 (bv 5)) (λ_ _ _ _=>(jm (i:=2) (show(["_law_told_here","_law_kept","_law_root"]:List Str).Nodup by decide +kernel))) (λ_ _ _ _=>gD) (λ_ _ _ _=>(zV (eo (bX hr)) (aa (cy T.Rk (aH4 T) hr (ai (bv 0) (ai (bv 1) (ai (bv 2) aB))))) (aa ak) (bJ _))) rfl)) aB)))))))))))),λds Q h=>?_⟩
  obtain⟨m,G,n,e,f,rfl,hm,he,Ib,hf,q⟩:=h
  have fq:=(bZ hm).lo
  have BM:=(bZ hm).hi
  have hlen:=(bZ hm).len
  refine aH λU hU=>?_
  walk_at"l3"
  refine⟨_,_,_,Ia t P w K mg base,rfl,⟨T.ff,_,_,_,T.RF,R5 T,T.Hz.b⟩,by decide,m,G,e,f,rfl,hm,Ib,hf,λL h1 h2 h3=>hU _ ?_⟩
  clear hU U
  have top:cf L e=1:=by
   rw[h3 e]
   have:=FA (rg hm) (c:=1) (ng:=ib m) (by omega) ((aJ e).map λ(i:Nat)=>eS m ((f:Int)+(i:Int)))
   rw[bY,de]at this
   exact this
  refine aH λU hU=>?_
  walk_at"l3"
  refine⟨_,rfl,?_⟩
  dsimp only
  rw[decide_eq_true (by omega),if_neg (by decide)]
  refine⟨_,bO1 (by omega),rfl,?_⟩
  rw[show L.getD (L.length-1) 0=1 by rw[h2,Nat.add_sub_cancel];exact top,gF,if_neg (by decide)]
  refine hU _ ?_
  clear hU U
  refine aH λU hU=>?_
  walk_at"l3"
  refine iN L (λ(i:Nat)=>D.int (i:Int)) (λ_=>D.bl true) (xn _) kZ (λi hi=>?_) (.inr λ_ _=>rfl) (by rw[sL];omega) ?_
  ·have:=h1 i hi
   walk_at"l3"
   rw[if_pos (by omega)];omega
  refine⟨L.map λ_=>true,by unfold wB;rw[eH];rfl,?_⟩
  rw[show(L.map λ_=>true).all id=true by simp,if_neg (by decide)]
  refine hU _ ?_
  clear hU U
  have el:(((fl m).length:Nat):Int)=(ae m:Int)-1:=by omega
  have rl:∀x∈(aJ e).map (λ(i:Nat)=>eS m ((f:Int)+(i:Int))),x<ae m:=λx hx=>by
   obtain⟨_,_,rfl⟩:=dA.mp hx
   exact xH hm _
  refine aH λU hU=>?_
  walk_at"l3"
  refine⟨_,rfl,_,rfl,⟨by omega,by omega⟩,iN (aJ e) (λ(i:Nat)=>D.int (i:Int)) (λ(i:Nat)=>D.int ((eS m ((f:Int)+(i:Int)):Nat):Int)) (uq _ rfl) kZ (λi hi=>?_) (.inr λ_ _=>rfl) (by rw[de,sL];omega) ?_⟩
  ·have n0:=iY ((f:Int)+(i:Int)) (show(ae m:Int)-1≠0 by omega)
   walk_at"l3"
   refine⟨_,rfl,?_⟩
   dsimp only
   rw[el]
   refine⟨by omega,_,kE (d:=.int (eS m ((f:Int)+(i:Int)):Nat)) n0 ?_,rfl,rfl⟩
   unfold aE;rw[cP,E2 hm];rfl
  dsimp only[l8,lZ]
  rw[show((aJ e).map λ(i:Nat)=>D.int ((eS m ((f:Int)+(i:Int)):Nat):Int))=aA ((aJ e).map λ(i:Nat)=>eS m ((f:Int)+(i:Int))) by rw[eJ,eH];rfl]
  refine hU _ ?_
  clear hU U
  refine aH λU hU=>?_
  walk_at"l3"
  refine hU _ ?_
  clear hU U
  refine aH λU hU=>?_
  walk_at"l3"
  refine⟨⟨_,rfl⟩,by omega,hU _ ?_⟩
  clear hU U
  walk_at"l3"
  refine⟨_,_,_,Ia t P w K mg base,rfl,⟨T.ff,_,_,_,T.RF,R5 T,T.Hz.b⟩,by decide,m,G,e,f,rfl,hm,Ib,hf,λL' iD gZ R6=>?_⟩
  obtain rfl:L'=L:=OF gZ h2 λk _=>by rw[R6 k,h3 k]
  refine⟨AL 5 true _,?_⟩
  rw[(uo true true L' L').trans (decide_eq_true rfl),if_pos rfl]
  generalize hR:(aJ e).map (λ(i:Nat)=>eS m ((f:Int)+(i:Int)))=R at *
  have lR:R.length=e:=by rw[<-hR,bY,de]
  refine iN R (λ(i:Nat)=>D.int (i:Int)) (λ_=>D.bl true) (xn _) kZ (λx hx=>?_) (.inr λ_ _=>rfl) (by rw[sL];omega) ?_
  ·have hz:=(cy6 hm (c:=1) (by omega) (by decide) (rl x hx) rl R6).mpr hx
   walk_at"l3"
   refine⟨m,L',x,rfl,hm,iD,rl x hx,by omega,?_⟩
   rw[hz]
   exact⟨rfl,by first | rfl | exact⟨rfl,rfl⟩⟩
  refine⟨R.map λ_=>true,by unfold wB;rw[eH];rfl,?_⟩
  rw[show(R.map λ_=>true).all id=true by simp]
  exact q
noncomputable abbrev aL6:bc:=λds Q=>∃T:List (List Nat),ds=[.lst false (aQ false T)]/\T.length<=1000/\(∀r∈T,r.length<=1000)/\Q (.int (aD T:Nat))
theorem R7(T:Txt K mg t):aL P w K mg base aS 1 t.Qk t.Ql ["table"] (bf (aL6 )):=by
 refine bD T.x9.F aL3 ?_ ?_
 ·intro ds Q h
  obtain⟨G,rfl,hG,hr,q⟩:=h<;>rfl
 ·intro ax A outer s H E hr
  refine⟨_,(aC (aV (YC (bN (gE (bX hr)) (bv 0) (aa (fF dR)) (bJ _)) (fc (hJ) (by rfl) T.gQ gy (ai (bx (bv 0) (aa ak) (λ_ _=>rfl)) aB)) ak))),λds Q h=>?_⟩
  obtain⟨G,rfl,hG,hr,q⟩:=h
  walk_at"l3"
  refine⟨by decide,⟨Fe 4 _ _ _,rfl⟩,?_⟩
  rw[show(D.lst true ([]:List D))=D.lst true (aQ true []) from rfl,Of]
  cases G with
  | nil=>rw[if_neg (by simp)];exact q
  | cons r G =>
   rw[if_pos (by simp)]
   refine⟨.lst false (aA r),Fd false (T:=r::G) (i:=0) (Nat.succ_pos _),?_⟩
   show Q (D.int ((aA r).length:Nat))
   rw[gG];exact q
noncomputable abbrev aH7:bc:=λds Q=>∃(T:List (List Nat)) (j:Nat),ds=[.lst false (aQ false T),.int j]/\T.length<=1000/\(∀r∈T,j<r.length)/\Q (match jj T j with | some i=>.int (i:Nat) | none=>.ao)
theorem aH8(T:Txt K mg t):aL P w K mg base aS 1 t.Qm t.Qn ["rows","place"] (bf (aH7 )):=by
 refine bD T.Rm.F O5 ?_ ?_
 ·intro ds Q h
  obtain⟨G,j,rfl,hG,hr,q⟩:=h<;>rfl
 ·intro ax A outer s H E hr
  refine⟨_,(aF (iK fi rfl (xi rfl T.yk (ai (bv 0) aB)) (tZ (i1:=2) (i2:=3) rfl O5.nd rfl (ay rfl) rfl (ay rfl))
    (aC (cI (bN (gE (bX hr)) (bx (bv 3) (bv 1) (λ_ _=>rfl)) (aa ak) (bJ _)) (aC (aV (em 2))) cO)))
   (aC (aV DX))),λds Q h=>?_⟩
  obtain⟨G,j,rfl,hG,hr,q⟩:=h
  refine aH λU hU=>?_
  walk_at"l3"
  refine g7.mk (λi δ=>∃o1 o2,δ=[some (D.lst false (aQ false G)),some (D.int j),o1,o2]/\∀k,k<i->(G.getD k []).getD j 0=0) ⟨_,_,rfl,λk hk=>absurd hk (Nat.not_lt_zero k)⟩ ?_ ?_
  ·rintro i d δ hd ⟨o1,o2,rfl,hz⟩
   obtain⟨hi,rfl⟩:=b70 hd
   have hj:=hr _ (fh hi)
   have eg:G.getD i []=G[i]:=by rw[aU,aT hi];rfl
   walk_at"l3"
   refine⟨.int (G[i].getD j 0:Nat),by rw[qI (by omega) (by omega),jN],rfl,?_⟩
   rw[gF]
   by_cases h0:G[i].getD j 0=0
   ·rw[if_neg (by rw[h0];decide)]
    refine⟨_,_,⟨rfl,rfl⟩,λk hk=>?_⟩
    by_cases e:k=i
    ·rw[e,eg];exact h0
    ·exact hz k (by omega)
   ·rw[if_pos (by rw[decide_eq_false (by omega)];rfl)]
    have ef:jj G j=some i:=by
     unfold jj
     rw[T3]
     refine⟨hi,by simpa using h0,λk hk=>?_⟩
     have:=hz k hk
     rw[aU (l:=G),aT (by omega)]at this
     simpa using this
    rw[ef]at q
    exact q
  ·rintro δ ⟨o1,o2,rfl,hz⟩
   refine hU _ ?_
   walk_at"l3"
   have ef:jj G j=none:=by
    unfold jj
    rw[T4]
    intro r bU
    obtain⟨i,hi,rfl⟩:=kq bU
    have:=hz i (by rw[oa,mZ];exact hi)
    rw[aU (l:=G),aT hi]at this
    simpa using this
   rw[ef]at q
   exact q
noncomputable abbrev R8(K:Frag):bc:=λds Q=>∃(C:Addr) (p a:Nat) (xs:List Nat),ds=[xD C p,.int a,.lst false (aA xs)]/\cB K C/\bj K C "products"/\p∈jI/\a<ae (true,p)/\(∀y∈xs,y<ae (true,p))/\xs.length<=1000/\Q (.lst true (aA (xs.map (gm (true,p) a))))
theorem az4(T:Txt K mg t):aL P w K mg base aS 1 t.Hj t.Qo ["self","a","row"] (bf (R8 K)):=by
 refine bD T.Rn.F O6 ?_ ?_
 ·intro ds Q h
  obtain⟨C,p,a,xs,rfl,hC,hn,hp,ha,hy,hl,q⟩:=h<;>rfl
 ·intro ax A outer s H E hr
  refine⟨_,(aF (aW (i:=3) O6.nd rfl (cA rfl) (di (bx (cV (K:=K) (bv 0)) (bv 1) (λ_ _=>rfl))))
   (aC (aV (gM [("by_a",3)] ["x"] rfl (p9 (bv 2)) (λ_ _ _ _=>(jm (i:=1) (show(["by_a","x"]:List Str).Nodup by decide +kernel))) (λ_ _ _ _=>gD) (λ_ _ _ _=>(di (bx (bv 0) (bv 1) (λ_ _=>rfl)))) rfl)))),λds Q h=>?_⟩
  obtain⟨C,p,a,xs,rfl,hC,hn,hp,ha,hy,hl,q⟩:=h
  refine aH λU hU=>?_
  walk_at"l3"
  refine⟨C,_,_,_,rfl,hC,hn,rfl,_,EY hp ha,?_⟩
  refine⟨by rw[iG,n6];rfl,hU _ ?_⟩
  clear hU U
  walk_at"l3"
  refine iN xs (λ(i:Nat)=>D.int (i:Int)) (λx=>D.int ((gm (true,p) a x:Nat):Int)) (xn xs) kZ (λx hx=>?_) (.inr λ_ _=>rfl) (by rw[sL];omega) ?_
  ·walk_at"l3"
   exact⟨_,EX hp ha (hy x hx),rfl,rfl⟩
  ·rw[eJ,eH]at q
   exact q
noncomputable abbrev R9(K:Frag):bc:=λds Q=>∃(C:Addr) (p a:Nat) (xs:List Nat),ds=[qD C p,.int a,.lst false (aA xs)]/\cB K C/\bj K C "prime"/\0<p/\a<64/\(∀y∈xs,y<64)/\xs.length<=1000/\Q (.lst true (aA (xs.map (gm (false,p) a))))
theorem at3(T:Txt K mg t):aL P w K mg base aS 1 t.Hk t.Qp ["self","a","row"] (bf (R9 K)):=by
 refine bD T.Ro.F O7 ?_ ?_
 ·intro ds Q h
  obtain⟨C,p,a,xs,rfl,hC,hn,hp,ha,hy,hl,q⟩:=h<;>rfl
 ·intro ax A outer s H E hr
  refine⟨_,(aF (aW (i:=3) O7.nd rfl (cA rfl) (di (cV (K:=K) (bv 0))))
   (aC (aV (gM [("prime",3),("a",1)] ["x"] rfl (p9 (bv 2)) (λ_ _ _ _=>(jm (i:=2) (show(["prime","a","x"]:List Str).Nodup by decide +kernel))) (λ_ _ _ _=>gD) (λ_ _ _ _=>(au cJ (aa (au jD (bv 1) (bv 2))) (bv 0))) rfl)))),λds Q h=>?_⟩
  obtain⟨C,p,a,xs,rfl,hC,hn,hp,ha,hy,hl,q⟩:=h
  refine aH λU hU=>?_
  walk_at"l3"
  refine⟨C,_,_,.int p,rfl,hC,hn,rfl,rfl,hU _ ?_⟩
  clear hU U
  walk_at"l3"
  refine iN xs (λ(i:Nat)=>D.int (i:Int)) (λx=>D.int ((gm (false,p) a x:Nat):Int)) (xn xs) kZ (λx hx=>?_) (.inr λ_ _=>rfl) (by rw[sL];omega) ?_
  ·have h2:=hy x hx
   walk_at"l3"
   refine⟨kC.ok (.inr ⟨by omega,by omega⟩),by omega,?_⟩
   show _=((a*x%p:Nat):Int)
   rw[ny,zc]
  ·rw[eJ,eH]at q
   exact q
theorem b35(T:Txt K mg t){m:Bool × Nat}(hm:m∈aq):∃C ns zs sp,fD t.aN t.aR m=.obj C ns zs/\jf P w K mg base 1 "scaled" C sp/\("scaled":Str) ∉ ns/\∀(xs:List Nat) (a:Nat) (Q:D->Prop),a<ae m->(∀y∈xs,y<ae m)->xs.length<=1000->Q (.lst true (aA (xs.map (gm m a))))->sp [.obj C ns zs,.int a,.lst false (aA xs)] Q:=by
 have hF:=bZ hm
 obtain⟨k,n⟩:=m
 cases k with
 | true=>exact⟨_,_,_,R8 K,rfl,⟨T.eF,_,_,_,T.ay5,az4 T,T.Rn.b⟩,by decide,λxs a Q ha hy hl q=>⟨_,n,a,xs,rfl,T.eF,T.uQ,xF hm,ha,hy,hl,q⟩⟩
 | false =>
  have qV:n<=64:=hF.hi
  have l2:2<=n:=hF.lo
  exact⟨_,_,_,R9 K,rfl,⟨T.eN,_,_,_,T.as8,at3 T,T.Ro.b⟩,by decide,λxs a Q ha hy hl q=>⟨_,n,a,xs,rfl,T.eN,T.nh,by omega,cq (show a<n from ha) qV,λy h=>cq (show y<n from hy y h) qV,hl,q⟩⟩
noncomputable abbrev Sa(K:Frag):bc:=λds Q=>∃(C:Addr) (p a:Nat) (xs ys:List Nat),ds=[xD C p,.lst false (aA xs),.int a,.lst false (aA ys)]/\cB K C/\bj K C "products"/\p∈jI/\a<ae (true,p)/\(∀y∈ys,y<ae (true,p))/\xs.length<=1000/\Q (.lst true (aA (gi (λx y=>bC (true,p) x (gm (true,p) a y)) xs ys)))
theorem at4(T:Txt K mg t):aL P w K mg base aS 1 t.Hl t.Qq ["self","row","a","other"] (bf (Sa K)):=by
 refine bD T.Rp.F O8 ?_ ?_
 ·intro ds Q h
  obtain⟨C,p,a,xs,ys,rfl,hC,hn,hp,ha,hy,hl,q⟩:=h<;>rfl
 ·intro ax A outer s H E hr
  refine⟨_,(aF (aW (i:=4) O8.nd rfl (cA rfl) (di (bx (cV (K:=K) (bv 0)) (bv 2) (λ_ _=>rfl))))
   (aC (aV (gM [("by_a",4)] ["x","y"] rfl (Ez rfl T.HM (ai (bv 1) (ai (bv 3) aB))) (λ_ _ _ _=>(FH (i1:=1) (i2:=2) (show(["by_a","x","y"]:List Str).Nodup by decide +kernel))) (λ_ _ _ _=>gD) (λ_ _ _ _=>(au sS (bv 1) (bx (bv 0) (bv 2) (λ_ _=>rfl)))) rfl)))),λds Q h=>?_⟩
  obtain⟨C,p,a,xs,ys,rfl,hC,hn,hp,ha,hy,hl,q⟩:=h
  refine aH λU hU=>?_
  walk_at"l3"
  refine⟨C,_,_,_,rfl,hC,hn,rfl,_,EY hp ha,?_⟩
  refine⟨by rw[iG,n6];rfl,hU _ ?_⟩
  clear hU U
  walk_at"l3"
  refine⟨_,_,rfl,rfl,N6 (λx y=>bC (true,p) x (gm (true,p) a y)) (λx hx y BL=>?_) (by omega) q⟩
  walk_at"l3"
  refine⟨_,EX hp ha (hy y BL),?_⟩
  show nq (x:Int) ((gm (true,p) a y:Nat):Int)=_
  rw[my];rfl
noncomputable abbrev Sb(K:Frag):bc:=λds Q=>∃(C:Addr) (p a:Nat) (xs ys:List Nat),ds=[qD C p,.lst false (aA xs),.int a,.lst false (aA ys)]/\cB K C/\bj K C "prime"/\0<p/\a<64/\(∀y∈ys,y<64)/\xs.length<=1000/\Q (.lst true (aA (gi (λx y=>bC (false,p) x (gm (false,p) a y)) xs ys)))
theorem ar5(T:Txt K mg t):aL P w K mg base aS 1 t.Hm t.Qr ["self","row","a","other"] (bf (Sb K)):=by
 refine bD T.Rq.F O9 ?_ ?_
 ·intro ds Q h
  obtain⟨C,p,a,xs,ys,rfl,hC,hn,hp,ha,hy,hl,q⟩:=h<;>rfl
 ·intro ax A outer s H E hr
  refine⟨_,(aF (aW (i:=4) O9.nd rfl (cA rfl) (di (cV (K:=K) (bv 0))))
   (aC (aV (gM [("prime",4),("a",2)] ["x","y"] rfl (Ez rfl T.HM (ai (bv 1) (ai (bv 3) aB))) (λ_ _ _ _=>(FH (i1:=2) (i2:=3) (show(["prime","a","x","y"]:List Str).Nodup by decide +kernel))) (λ_ _ _ _=>gD) (λ_ _ _ _=>(au cJ (aa (au dm (bv 2) (aa (au jD (bv 1) (bv 3))))) (bv 0))) rfl)))),λds Q h=>?_⟩
  obtain⟨C,p,a,xs,ys,rfl,hC,hn,hp,ha,hy,hl,q⟩:=h
  refine aH λU hU=>?_
  walk_at"l3"
  refine⟨C,_,_,.int p,rfl,hC,hn,rfl,rfl,hU _ ?_⟩
  clear hU U
  walk_at"l3"
  refine⟨_,_,rfl,rfl,N6 (λx y=>bC (false,p) x (gm (false,p) a y)) (λx hx y BL=>?_) (by omega) q⟩
  have h2:=hy y BL
  walk_at"l3"
  refine⟨kC.ok (.inr ⟨by omega,by omega⟩),by omega,?_⟩
  have e:((x:Int)-((a*y%p:Nat):Int))%(p:Int)=((x:Int)-(a:Int)*y)%p:=by
   rw[ny,zc,Int.sub_emod,Int.emod_emod,<- Int.sub_emod]
  show _=(((((x:Int)-((a*y%p:Nat):Int))%(p:Int)).toNat:Nat):Int)
  rw[e,vn (iY _ (by omega))]
theorem bJ7(T:Txt K mg t){m:Bool × Nat}(hm:m∈aq):∃C ns zs sp,fD t.aN t.aR m=.obj C ns zs/\jf P w K mg base 1 "lessened" C sp/\("lessened":Str) ∉ ns/\∀(xs ys:List Nat) (a:Nat) (Q:D->Prop),a<ae m->(∀y∈ys,y<ae m)->xs.length<=1000->Q (.lst true (aA (gi (λx y=>bC m x (gm m a y)) xs ys)))->sp [.obj C ns zs,.lst false (aA xs),.int a,.lst false (aA ys)] Q:=by
 have hF:=bZ hm
 obtain⟨k,n⟩:=m
 cases k with
 | true=>exact⟨_,_,_,Sa K,rfl,⟨T.eF,_,_,_,T.as7,at4 T,T.Rp.b⟩,by decide,λxs ys a Q ha hy hl q=>⟨_,n,a,xs,ys,rfl,T.eF,T.uQ,xF hm,ha,hy,hl,q⟩⟩
 | false =>
  have qV:n<=64:=hF.hi
  have l2:2<=n:=hF.lo
  exact⟨_,_,_,Sb K,rfl,⟨T.eN,_,_,_,T.ar3,ar5 T,T.Rq.b⟩,by decide,λxs ys a Q ha hy hl q=>⟨_,n,a,xs,ys,rfl,T.eN,T.nh,by omega,cq (show a<n from ha) qV,λy h=>cq (show y<n from hy y h) qV,hl,q⟩⟩
noncomputable abbrev aN2(cb cp:Addr):bc:=λds Q=>∃(m:Bool × Nat) (T:List (List Nat)) (l:List Nat) (j:Nat),ds=[fD cb cp m,.lst false (aQ false T),.lst false (aA l),.int j]/\m∈aq/\T.length<=1000/\AllLt (ae m) l/\(∀r∈T,j<r.length/\r.length<=1000/\AllLt (ae m) r)/\Q (.lst true (aQ true (T.map λr=>gi (λx y=>bC m x (gm m (r.getD j 0) y)) r l)))
theorem Sd(T:Txt K mg t):aL P w K mg base aS 2 t.Qs t.Qt ["field","rows","lead_row","place"] (bf (aN2 t.aN t.aR)):=by
 refine bD T.HA.F aM6 ?_ ?_
 ·intro ds Q h
  obtain⟨m,G,l,j,rfl,hm,hG,hl,hr,q⟩:=h<;>rfl
 ·intro ax A outer s H E hr
  refine⟨_,(aC (aV (gM [("lead_row",2),("field",0),("place",3)] ["row"] rfl (p9 (bv 1)) (λ_ _ _ _=>(jm (i:=3) (show(["lead_row","field","place","row"]:List Str).Nodup by decide +kernel))) (λ_ _ _ _=>gD) (λ_ _ _ _=>(mV (P:=P) (w:=w) (K:=K) (mg:=mg) (base:=base) (n:=1) (bv 1) (hr.mono (by decide)) (ai (bv 3) (ai (bx (bv 3) (bv 2) (λ_ _=>rfl)) (ai (bv 0) aB))))) rfl))),λds Q h=>?_⟩
  obtain⟨m,G,l,j,rfl,hm,hG,hl,hr,q⟩:=h
  walk_at"l3"
  refine iN G (λr=>D.lst false (aA r)) (λr=>D.lst true (aA (gi (λx y=>bC m x (gm m (r.getD j 0) y)) r l))) (by rw[iQ];rfl) (λa b h=>Fc a b h) (λr bU=>?_) (.inr λr _=>oy _) (by rw[sL];omega) ?_
  ·obtain⟨h1,h2,h3⟩:=hr r bU
   obtain⟨C,ns,zs,sp,e1,e2,e3,e4⟩:=bJ7 (P:=P) (w:=w) (base:=base) T hm
   walk_at"l3"
   refine⟨C,ns,zs,sp,e1,e2,e3,.int (r.getD j 0:Nat),by rw[qI (by omega) (by omega),jN],e4 _ _ _ _ (h3.getD (by have:=(bZ hm).lo;omega) j) hl h2 ⟨rfl,rfl⟩⟩
  ·rw[aQ,eH]at q
   exact q
noncomputable abbrev Se(t:ft)(P:Program)(w:World)(K:Frag)(mg:Str->Option Value)(base:Heap):jH:=λds Q Ex=>∃(m:Bool × Nat) (a b:Nat),ds=[fD t.aN t.aR m,.int a,.int b]/\m∈aq/\a<ae m/\b<ae m/\(b=0->Ex t.dG)/\(b≠0->∀r:Nat,r<ae m->gm m r b=a->Q (.int (r:Nat)))
theorem Sf(T:Txt K mg t):aL P w K mg base (gY P w) 2 t.Bk t.Qu ["self","a","b"] (mQ (Se t P w K mg base)):=by
 refine Mz T.HB.F aG4 ?_ ?_
 ·intro ds Q Ex h
  obtain⟨m,a,b,rfl,hm,ha,hb,qx,q⟩:=h<;>rfl
 ·intro ax A outer s H E hr
  refine⟨_,(aF (cI (bN (eo (bX hr)) (bv 2) (aa ak) (bJ _)) (aC (Ek T.RI rfl (by rfl) (ai (aa mD) aB))) cO)
   (aF (cI (bN (eo (bX hr)) (bv 1) (aa ak) (bJ _)) (aC (aV ak)) cO)
   (aC (aV (mV (P:=P) (w:=w) (K:=K) (mg:=mg) (base:=base) (n:=1) (bv 0) (hr.mono (by decide)) (ai (aa (au dm (bx (cV (K:=K) (bv 0)) (bv 1) (λ_ _=>rfl)) (bx (cV (K:=K) (bv 0)) (bv 2) (λ_ _=>rfl)))) aB)))))),λds Q Ex h=>?_⟩
  obtain⟨m,a,b,rfl,hm,ha,hb,qx,q⟩:=h
  refine aH λU hU=>?_
  walk_at"l3"
  split
  ·rename_i h0
   exact⟨by decide,qx (by omega)⟩
  ·rename_i h0
   have b0:b≠0:=by omega
   refine hU _ ?_
   clear hU U
   refine aH λU hU=>?_
   walk_at"l3"
   split
   ·rename_i h1
    have a0:a=0:=by omega
    subst a0
    exact q b0 0 ha (fw m b (bO m hm))
   ·rename_i h1
    have a0:a≠0:=by omega
    refine hU _ ?_
    clear hU U
    have hF:=bZ hm
    obtain⟨r,e,uw,hr2⟩:=NQ hm (show 1<=a by omega) ha (show 1<=b by omega) hb
    have qr:=q b0 r uw hr2
    obtain⟨k,n⟩:=m
    cases k with
    | true =>
     walk_at"l3"
     have ll:(dS (fl (true,n))).length=ae (true,n):=(xy _ _).trans hF.len
     have n0:=iY (lg (true,n) a-lg (true,n) b) (show(ae (true,n):Int)-1≠0 by have:=hF.lo;omega)
     have n1:=lY (lg (true,n) a-lg (true,n) b) (show(0:Int)<(ae (true,n):Int)-1 by have:=hF.lo;omega)
     refine⟨_,_,_,yq K,rfl,⟨T.eF,_,_,_,T.yd,yr T,T.uM.b⟩,by decide,_,_,_,_,rfl,T.eF,T.uN,rfl,_,kU (by omega) (by rw[ll];omega),_,_,_,_,rfl,T.eF,T.uN,rfl,_,kU (by omega) (by rw[ll];omega),?_⟩
     refine⟨_,_,_,_,ae (true,n),fl (true,n),r,rfl,T.eF,T.uP,T.uO,rfl,rfl,hF.lo,?_,qr⟩
     have hk:((lg (true,n) a-lg (true,n) b)%((ae (true,n):Int)-1)).toNat<(fl (true,n)).length:=by have:=hF.len;omega
     show(fl (true,n))[((lg (true,n) a-lg (true,n) b)%((ae (true,n):Int)-1)).toNat]?=some (r:Int)
     rw[<-e]
     unfold pw
     rw[aU,aT hk];rfl
    | false =>
     walk_at"l3"
     have ll:(dS (fl (false,n))).length=ae (false,n):=(xy _ _).trans hF.len
     have n0:=iY (lg (false,n) a-lg (false,n) b) (show(ae (false,n):Int)-1≠0 by have:=hF.lo;omega)
     have n1:=lY (lg (false,n) a-lg (false,n) b) (show(0:Int)<(ae (false,n):Int)-1 by have:=hF.lo;omega)
     refine⟨_,_,_,yq K,rfl,⟨T.eN,_,_,_,T.yg,yr T,T.uM.b⟩,by decide,_,_,_,_,rfl,T.eN,T.ye,rfl,_,kU (by omega) (by rw[ll];omega),_,_,_,_,rfl,T.eN,T.ye,rfl,_,kU (by omega) (by rw[ll];omega),?_⟩
     refine⟨_,_,_,_,ae (false,n),fl (false,n),r,rfl,T.eN,T.yf,T.uR,rfl,rfl,hF.lo,?_,qr⟩
     have hk:((lg (false,n) a-lg (false,n) b)%((ae (false,n):Int)-1)).toNat<(fl (false,n)).length:=by have:=hF.len;omega
     show(fl (false,n))[((lg (false,n) a-lg (false,n) b)%((ae (false,n):Int)-1)).toNat]?=some (r:Int)
     rw[<-e]
     unfold pw
     rw[aU,aT hk];rfl
theorem bV7(T:Txt K mg t)(m:Bool × Nat):AG P w K mg base 2 "over" (if m.1 then t.aN else t.aR) (Se t P w K mg base):=by
 obtain⟨k,n⟩:=m
 cases k with
 | true=>exact⟨T.eF,_,_,_,T.HG,Sf T,T.HB.b⟩
 | false=>exact⟨T.eN,_,_,_,T.HJ,Sf T,T.HB.b⟩
noncomputable abbrev aN3(t:ft)(P:Program)(w:World)(K:Frag)(mg:Str->Option Value)(base:Heap):bc:=λds Q=>∃(m:Bool × Nat) (G:List (List Nat)),ds=[fD t.aN t.aR m,.lst false (aQ false G)]/\m∈aq/\G.length<=900/\RT (ae m) (aD G) G/\aD G<=900/\Q (.lst true (aQ true (cK m G)))
theorem aN4(T:Txt K mg t):aL P w K mg base aS 3 t.Qv t.Qw ["field","table"] (bf (aN3 t P w K mg base)):=by
 refine bD T.BA.F oG ?_ ?_
 ·intro ds Q h
  obtain⟨m,G,rfl,hm,hG,hR,hw,q⟩:=h<;>rfl
 ·intro ax A outer s H E hr
  refine⟨_,(aF (aW (i:=2) oG.nd rfl (ay rfl) (fF dR))
   (aF (aW (i:=3) oG.nd rfl (ay rfl) (di (bv 1)))
   (aF (iK fi rfl (kO rfl T.gR (ai (aa (cy T.x9 (R7 T) hr (ai (bv 1) aB))) aB)) (jz (i:=4) oG.nd rfl (ay rfl))
    (LQ 3 (aF (aW (i:=5) oG.nd rfl (ay rfl) (cy T.Rm (aH8 T) hr (ai (bv 3) (ai (bv 4) aB))))
    (aC (cI (bN YW (bv 5) (aa DX) (bJ _)) (aF (aW (i:=6) oG.nd rfl (ay rfl) (mV (P:=P) (w:=w) (K:=K) (mg:=mg) (base:=base) (n:=1) (bv 0) (hr.mono (by decide)) (ai (aa (b66 (P:=P) (w:=w) (K:=K) (mg:=mg) (base:=base) (n:=2) (bv 0) (hr.mono (by decide)) (ai (aa ak) (ai (bx (bx (bv 3) (bv 5) (λ_ _=>rfl)) (bv 4) (λ_ _=>rfl)) aB)))) (ai (bx (bv 3) (bv 5) (λ_ _=>rfl)) aB))))
     (aF (aW (i:=3) oG.nd rfl (ay rfl) (cy T.HA (Sd T) hr (ai (bv 0) (ai (aa (au dj (aa (EC (bv 3) Ef (Eg (bv 5)))) (aa (EC (bv 3) (Eg (aa (au dj (bv 5) (aa ak)))) Ef)))) (ai (bv 6) (ai (bv 4) aB))))))
     (aC (aW (i:=2) oG.nd rfl (ay rfl) (cr1 (cy T.HA (Sd T) hr (ai (bv 0) (ai (bv 2) (ai (bv 6) (ai (bv 4) aB))))) (fF (cx (em 6) dR))))))) cO)))))
   (aC (aV (em 2)))))),λds Q h=>?_⟩
  obtain⟨m,G,rfl,hm,hG,hR,hw,q⟩:=h
  have fq:=(bZ hm).lo
  refine aH λU hU=>?_
  walk_at"l3"
  refine⟨by decide,hU _ ?_⟩
  clear hU U
  refine aH λU hU=>?_
  walk_at"l3"
  refine hU _ ?_
  clear hU U
  refine aH λU hU=>?_
  walk_at"l3"
  refine⟨G,rfl,by omega,λr bU=>?_,?_⟩
  ·rw[(hR r bU).1];omega
  refine⟨_,rfl,⟨by omega,by omega⟩,?_⟩
  refine Ab (λk δ=>∃(o:Bool) (o1 o2 o3:Option D),δ=[some (fD t.aN t.aR m),some (D.lst false (aQ false G)),some (D.lst true (aQ true (jk m G k).1)),some (D.lst o (aQ o (jk m G k).2)),o1,o2,o3]) ⟨false,none,none,none,rfl⟩ ?_ ?_
  ·rintro k δ hk ⟨o,o1,o2,o3,rfl⟩
   have I:=AR hm hR k
   rw[Ff]
   generalize jk m G k=s at I ⊢
   simp only[gN,p7,l8,lZ,vt,vq,vv,exists_eq_left',eT,iQ]
   clear hU
   have il:=I.l
   refine aH λU hU=>?_
   walk_at"l3"
   refine⟨s.2,k,rfl,by omega,λr bU=>by rw[(I.b r bU).1];omega,?_⟩
   cases e:jj s.2 k with
   | none =>
    rw[show gL m s k=s by unfold gL;rw[e]]at hU
    refine hU _ ?_
    walk_at"l3"
    exact⟨false,_,_,_,⟨rfl,rfl⟩,rfl,rfl,rfl⟩
   | some i =>
    obtain⟨hi,h1,h2⟩:=AQ e
    have er:gL m s k=(fI m s.1 (dw m s.2 i k) k++[dw m s.2 i k],fI m (s.2.take i++s.2.drop (i+1)) (dw m s.2 i k) k):=by unfold gL;rw[e]
    rw[er]at hU
    refine hU _ ?_
    clear hU
    walk_at"l3"
    obtain⟨C,ns,xs,sp,e1,e2,e3,e4⟩:=b35 (P:=P) (w:=w) (base:=base) T hm
    refine aH λU hU=>?_
    walk_at"l3"
    obtain⟨lw,lr⟩:=I.b _ (fh hi)
    have bk:=lr.getD (show 0<ae m by omega) k
    refine⟨C,ns,xs,sp,e1,e2,e3,_,_,_,_,AH _ _ m,bV7 T m,cE9 m _ (by decide),.lst false (aA s.2[i]),Fd false hi,?_⟩
    dsimp only
    refine⟨.int (s.2[i].getD k 0:Nat),by rw[qI (by omega) (by omega),jN],m,1,s.2[i].getD k 0,by rw[AH];rfl,hm,fq,bk,λz=>absurd z h1,λ_ f hf hfo=>⟨rfl,.lst false (aA s.2[i]),Fd false hi,?_⟩⟩
    have ef:xQ m (s.2[i].getD k 0)=f:=Oh hm hf hfo
    rw[xM]
    refine e4 _ _ _ hf lr (by omega) ⟨by rw[oy,l9],hU _ ?_⟩
    have el:s.2[i].map (gm m f)=dw m s.2 i k:=by unfold dw;rw[h2,ef]
    rw[el]
    have ll:(dw m s.2 i k).length=aD G:=by rw[<-el,bY];exact lw
    have la:AllLt (ae m) (dw m s.2 i k):=λx hx=>by
     rw[<-el]at hx
     obtain⟨y,_,rfl⟩:=dA.mp hx
     exact dq hm _ _
    generalize dw m s.2 i k=ld at ll la ⊢
    clear hU
    refine aH λU hU=>?_
    walk_at"l3"
    have Ic:∀r∈s.2.take i++s.2.drop (i+1),r.length=aD G/\AllLt (ae m) r:=λr bU=>by
     rcases cS.mp bU with h | h
     ·exact I.b r (yR h)
     ·exact I.b r (yQ h)
    have Sg:∀X:List (List Nat),(D.lst true (aQ true X)).fr=true:=λX=>by rw[fB,AN];rfl
    rw[MX,show((i:Int)+1)=((i+1:Nat):Int) by omega,ZF,AO,iQ]
    refine⟨by rw[lH,u7];omega,m,_,ld,k,rfl,hm,by rw[iX,lH,u7];omega,la,λr bU=>⟨by rw[(Ic r bU).1];exact hk,by rw[(Ic r bU).1];omega,(Ic r bU).2⟩,Sg _,hU _ ?_⟩
    clear hU
    walk_at"l3"
    refine⟨m,s.1,ld,k,rfl,hm,by omega,la,λr bU=>⟨by rw[(I.a r bU).1];exact hk,by rw[(I.a r bU).1];omega,(I.a r bU).2⟩,Sg _,by decide,_,_,rfl,rfl,?_,true,_,_,_,AO true _ [ld],⟨rfl,rfl⟩,rfl,rfl,rfl⟩
    rw[mZ,bY]
    show s.1.length+1<=_
    omega
  ·rintro δ ⟨o,o1,o2,o3,rfl⟩
   refine hU _ ?_
   walk_at"l3"
   exact q
noncomputable abbrev aN8:bc:=λds Q=>∃T:List (List Nat),ds=[.lst false (aQ false T)]/\T.length<=1000/\Q (.lst true (aQ true T))
theorem Sh(T:Txt K mg t):aL P w K mg base aS 1 t.Qx t.Qy ["table"] (bf (aN8 )):=by
 refine bD T.ya.F aN6 ?_ ?_
 ·intro ds Q h
  obtain⟨G,rfl,hG,q⟩:=h<;>rfl
 ·intro ax A outer s H E hr
  refine⟨_,(aC (aV (gM [] ["row"] rfl (p9 (bv 0)) (λ_ _ _ _=>(jm (i:=0) (show(["row"]:List Str).Nodup by decide +kernel))) (λ_ _ _ _=>gD) (λ_ _ _ _=>(nY (D9) (by rfl) T.ym v7 (ai (bv 0) aB))) rfl))),λds Q h=>?_⟩
  obtain⟨G,rfl,hG,q⟩:=h
  walk_at"l3"
  refine iN G (λr=>D.lst false (aA r)) (λr=>D.lst true (aA r)) (by rw[iQ];rfl) (λa b h=>Fc a b h) (λr bU=>?_) (.inr λr _=>oy r) (by rw[sL];omega) q
  walk_at"l3"
noncomputable abbrev b31:bc:=λds Q=>∃T:List (List Nat),ds=[.lst false (aQ false T)]/\T.length<=1000/\(∀r∈T,r.length<=1000/\∃x∈r,x≠0)/\Q (.lst true (aA (T.map cF)))
theorem Si(T:Txt K mg t):aL P w K mg base aS 1 t.Qz t.QB ["rows"] (bf (b31 )):=by
 refine bD T.HC.F bY3 ?_ ?_
 ·intro ds Q h
  obtain⟨G,rfl,hG,hr,q⟩:=h<;>rfl
 ·intro ax A outer s H E hr
  refine⟨_,(aC (aV (gM [] ["row"] rfl (p9 (bv 0)) (λ_ _ _ _=>(jm (i:=0) (show(["row"]:List Str).Nodup by decide +kernel))) (λ_ _ _ _=>gD) (by exact λ_ _ _ _=>(di (bx (aa (gM [] ["place","x"] rfl (xi rfl T.yk (ai (bv 0) aB)) (λ_ _ _ _=>(FH (i1:=0) (i2:=1) (show(["place","x"]:List Str).Nodup by decide +kernel))) (λ_ _ _ _=>(L6 (bN (gE (bX hr)) (bv 1) (aa ak) (bJ _)))) (λ_ _ _ _=>(di (bv 0))) rfl)) (aa ak) (λ_ _=>rfl)))) rfl))),λds Q h=>?_⟩
  obtain⟨G,rfl,hG,hr,q⟩:=h
  walk_at"l3"
  refine iN G (λr=>D.lst false (aA r)) (λr=>D.int (cF r:Nat)) (by rw[iQ];rfl) (λa b h=>Fc a b h) (λr bU=>?_) (.inr λr _=>rfl) (by rw[sL];omega) ?_
  ·obtain⟨h1,x,hx,h3⟩:=hr r bU
   walk_at"l3"
   refine Og (aJ r.length) (λ(i:Nat)=>D.tup [.int (i:Int),.int ((r.getD i 0:Nat):Int)]) (λ(i:Nat)=>D.int (i:Int)) (λi=>r.getD i 0 != 0) (b45 r) (λa b h=>by injection h with h;simp at h;omega) (λi hi=>?_) (.inr λ_ _ _=>rfl) (by rw[de,sL];omega) ?_
   ·walk_at"l3"
    refine⟨?_,λ_=>trivial⟩
    by_cases h0:r.getD i 0=0
    ·rw[h0];rfl
    ·rw[decide_eq_false (by omega),bne_iff_ne.mpr h0];rfl
   ·refine⟨.int (cF r:Nat),L3.MU (k:=0) ?_,rfl,rfl⟩
    rw[cP,bV4 ⟨x,hx,h3⟩];rfl
  ·rw[eJ,eH]at q
   exact q
noncomputable abbrev aF4:bc:=λds Q=>∃(T:List (List Nat)) (w:Nat),ds=[.lst false (aQ false T),.int w]/\T.length<=1000/\w<=1000/\(∀r∈T,r.length<=1000/\∃x∈r,x≠0)/\Q (.lst true (aA (eK T w)))
theorem Sj(T:Txt K mg t):aL P w K mg base aS 2 t.QC t.QD ["rows","width"] (bf (aF4 )):=by
 refine bD T.yb.F Pa ?_ ?_
 ·intro ds Q h
  obtain⟨G,w,rfl,hG,hw,hr,q⟩:=h<;>rfl
 ·intro ax A outer s H E hr
  refine⟨_,(aF (aW (i:=2) Pa.nd rfl (cA rfl) (cy T.HC (Si T) hr (ai (bv 0) aB)))
   (aC (aV (gM [("taken",2)] ["place"] rfl (kO rfl T.gR (ai (bv 1) aB)) (λ_ _ _ _=>(jm (i:=1) (show(["taken","place"]:List Str).Nodup by decide +kernel))) (λ_ _ _ _=>(L6 (bN cw9 (bv 1) (bv 0) (by with_unfolding_all rfl)))) (λ_ _ _ _=>(di (bv 1))) rfl)))),λds Q h=>?_⟩
  obtain⟨G,w,rfl,hG,hw,hr,q⟩:=h
  refine aH λU hU=>?_
  walk_at"l3"
  refine⟨G,rfl,hG,hr,?_⟩
  refine hU _ ?_
  clear hU U
  walk_at"l3"
  refine⟨⟨by omega,by omega⟩,Og (aJ w) (λ(i:Nat)=>D.int (i:Int)) (λ(i:Nat)=>D.int (i:Int)) (λj=>!(G.map cF).contains j) (uq _ rfl) kZ (λj hj=>?_) (.inr λ_ _ _=>rfl) (by rw[de,sL];omega) ?_⟩
  ·walk_at"l3"
   exact⟨_,rfl,by rw[b17],λ_=>trivial⟩
  ·rw[eJ]at q
   exact q
noncomputable abbrev at5(cb cp:Addr):bc:=λds Q=>∃(m:Bool × Nat) (T:List (List Nat)) (w:Nat),ds=[fD cb cp m,.lst false (aQ false T),.int w]/\m∈aq/\T.length<=1000/\w<=1000/\RT (ae m) w T/\(∀r∈T,∃x∈r,x≠0)/\Q (.lst true (aQ true (qK m T w)))
theorem at6(T:Txt K mg t):aL P w K mg base aS 3 t.QE t.QF ["field","rows","width"] (bf (at5 t.aN t.aR)):=by
 refine bD T.BB.F uK ?_ ?_
 ·intro ds Q h
  obtain⟨m,G,wi,rfl,hm,hG,hw,hR,hr,q⟩:=h<;>rfl
 ·intro ax A outer s H E hr
  refine⟨_,(aF (aW (i:=3) uK.nd rfl (ay rfl) (cy T.HC (Si T) hr (ai (bv 1) aB)))
   (aF (aW (i:=4) uK.nd rfl (ay rfl) (fF dR))
   (LQ 3 (aF (iK fi rfl (LS (cy T.yb (Sj T) hr (ai (bv 1) (ai (bv 2) aB)))) (jz (i:=5) uK.nd rfl (ay rfl))
    (aF (aW (i:=6) uK.nd rfl (ay rfl) (au jD (aa (fF (cx ak dR))) (bv 2)))
    (aF (z9 (i:=6) rfl (by first | exact ay rfl | exact cA (ay rfl)) ak (bv 5))
    (aF (iK fi rfl (Ez rfl T.HM (ai (bv 3) (ai (bv 1) aB))) (tZ (i1:=7) (i2:=8) rfl uK.nd rfl (ay rfl) rfl (ay rfl))
     (aC (z9 (i:=6) rfl (by first | exact ay rfl | exact cA (ay rfl)) (mV (P:=P) (w:=w) (K:=K) (mg:=mg) (base:=base) (n:=1) (bv 0) (hr.mono (by decide)) (ai (aa ak) (ai (bx (bv 8) (bv 5) (λ_ _=>rfl)) aB))) (bv 7))))
    (aC (tJ (i:=4) rfl (by first | exact ay rfl | exact cA (ay rfl)) (em 6)))))))
   (aC (aV (em 4))))))),λds Q h=>?_⟩
  obtain⟨m,G,wi,rfl,hm,hG,hw,hR,hr,q⟩:=h
  have m0:=bO m hm
  have fq:=(bZ hm).lo
  refine aH λU hU=>?_
  walk_at"l3"
  refine⟨G,rfl,hG,λr bU=>⟨by rw[(hR r bU).1];exact hw,hr r bU⟩,hU _ ?_⟩
  clear hU U
  refine aH λU hU=>?_
  walk_at"l3"
  refine⟨by decide,hU _ ?_⟩
  clear hU U
  refine⟨_,rfl,?_⟩
  rw[xM]
  simp only[l8,lZ]
  refine aH λU hU=>?_
  walk_at"l3"
  refine⟨G,wi,rfl,hG,hw,λr bU=>⟨by rw[(hR r bU).1];exact hw,hr r bU⟩,?_⟩
  refine⟨_,rfl,?_⟩
  have hfp:∀j∈eK G wi,j<wi:=λj hj=>dH.mp (oM.mp hj).1
  have lfp:(eK G wi).length<=wi:=by
   have:=JX (λj=>!(G.map cF).contains j) (aJ wi)
   rw[de]at this
   exact this
  rw[qu]
  refine g7.mk (λi δ=>∃o1 o2 o3 o4,δ=[some (fD t.aN t.aR m),some (D.lst false (aQ false G)),some (D.int wi),some (D.lst false (aA (G.map cF))),some (D.lst true (aQ true (((eK G wi).take i).map (fJ m G wi)))),o1,o2,o3,o4]) ⟨_,_,_,_,rfl⟩ ?_ ?_
  ·rintro i d δ hd ⟨o1,o2,o3,o4,rfl⟩
   rw[eJ,cP]at hd
   obtain⟨f,hf,rfl⟩:=Cy.mp hd
   have hfw:=hfp f (q9 hf)
   clear hd
   refine aH λU hU=>?_
   walk_at"l3"
   have er:aE (aX wi 0)=aA (aX wi 0):=by
    rw[eJ,CQ];unfold aE;rw[CQ];rfl
   rw[jN,er]
   refine⟨by decide,⟨by omega,by omega,by omega⟩,hU _ ?_⟩
   clear hU
   refine aH λU hU=>?_
   walk_at"l3"
   refine⟨_,f,rfl,?_,?_⟩
   ·rw[E9 (by omega) (by rw[gG,jM];omega)];rfl
   rw[show(aA (aX wi 0)).set f (D.int 1)=aA ((aX wi 0).set f 1) from Fb _ _ 1]
   refine hU _ ?_
   clear hU
   refine aH λU hU=>?_
   walk_at"l3"
   refine⟨_,_,rfl,rfl,?_⟩
   refine g7.mk (λk δ=>∃o3 o4,δ=[some (fD t.aN t.aR m),some (D.lst false (aQ false G)),some (D.int wi),some (D.lst false (aA (G.map cF))),some (D.lst true (aQ true (((eK G wi).take i).map (fJ m G wi)))),some (D.int f),some (D.lst true (aA ((((G.map cF).zip G).take k).foldl (λx z=>x.set z.1 (bC m 0 (z.2.getD f 0))) ((aX wi 0).set f 1)))),o3,o4]) ⟨_,_,rfl⟩ ?_ ?_
   ·rintro k d δ hd ⟨o3,o4,rfl⟩
    obtain⟨hk,rfl⟩:=ce9 hd
    clear hd
    obtain⟨lw,la⟩:=hR _ (fh hk)
    have xl:=Oj (λz:Nat × List Nat=>z.1) (λz=>bC m 0 (z.2.getD f 0)) (((G.map cF).zip G).take k) ((aX wi 0).set f 1)
    rw[oR,jM]at xl
    obtain⟨C,ns,xs,sp,e1,e2,e3,e4⟩:=R4 (P:=P) (w:=w) (base:=base) T m0
    have hld:cF G[k]<wi:=by
     rw[<-lw]
     obtain⟨x,hx,h0⟩:=hr _ (fh hk)
     exact T1 ⟨x,hx,by simpa using h0⟩
    have ga:=ji hm (a:=0) (b:=G[k].getD f 0) (by omega) (la.getD (by omega) f)
    walk_at"l3"
    refine⟨C,ns,xs,sp,e1,e2,e3,.int (G[k].getD f 0:Nat),by rw[qI (by omega) (by omega),jN],e4 0 (G[k].getD f 0) _ ⟨rfl,_,cF G[k],rfl,?_,_,_,?_,rfl,rfl⟩⟩
    ·rw[E9 (by omega) (by rw[gG,xl];omega)];rfl
    ·rw[ga.1,Fb,oX,JT]
     have ez:((G.map cF).zip G)[k]?=some (cF G[k],G[k]):=by
      rw[List.zip,CL,cP,aT hk];rfl
     rw[ez];rfl
   ·rintro δ ⟨o3,o4,rfl⟩
    refine hU _ ?_
    walk_at"l3"
    refine⟨⟨_,rfl⟩,by rw[bY,lH];omega,_,_,_,_,?_,rfl,rfl,rfl,rfl⟩
    rw[show((G.map cF).zip G).take (fv (aA (G.map cF)) (aQ false G)).length=(G.map cF).zip G from JJ (by unfold fv;rw[JS,CJ,gG,mZ];exact bG _),oX,hf,jQ]
    exact AO true _ [fJ m G wi f]
  ·rintro δ ⟨o1,o2,o3,o4,rfl⟩
   refine hU _ ?_
   walk_at"l3"
   rw[ve]
   exact q
noncomputable abbrev aK1(t:ft)(K:Frag):L2.Sp:=λvs H Q _=>∃(F H0:Hp) (x dx C:Addr) (vf vc:V) (m:Bool × Nat) (G:List (List Nat)) (pre:List (Str × V)),vs=[.ref x,vf,vc]/\L3.af F H0/\H0 x=none/\L3.af H0 H/\H x=some (.ins C dx (pre++[]))/\xY pre/\cU8 K C /\
 R F H0 [fD t.aN t.aR m] [vf] []/\R F H0 [.lst false (aQ false G)] [vc] []/\m∈aq/\RT (ae m) (aD G) G/\G.length<=64/\aD G<=64 /\
 ∀H' p1 p2 p3 A1 A2 A3,bM x H H'->H' x=some (.ins C dx (pre++qN.zip [vf,.int (aD G:Nat),.ref p1,.ref p2,.ref p3,.int ((eK (cK m G) (aD G)).length:Nat)]))->R (λ_=>none) H' [.lst true (aQ true G)] [.ref p1] A1->R (λ_=>none) H' [.lst true (aQ true (qK m (cK m G) (aD G)))] [.ref p2] A2->R (λ_=>none) H' [.lst true (aA (eK (cK m G) (aD G)))] [.ref p3] A3->(A1++(A2++A3)).Nodup->(∀a∈A1++(A2++A3),H a=none)->Q .ao H'
theorem aK2(T:Txt K mg t):aL P w K mg base aS 4 t.Ho t.QG ["self","field","checks"] (aK1 t K):=by
 refine T.Rt.F.ok Pb (λvs H Q E h=>?_) λax A outer s H vs Q E hr h=>?_
 ·obtain⟨F,H0,x,dx,C,vf,vc,m,G,pre,rfl,_⟩:=h;rfl
 obtain⟨F,H0,x,dx,C,vf,vc,m,G,pre,rfl,e0,jA,s0,hx,hp,hC,rf,rc,hm,hG,hGl,hGw,q⟩:=h
 refine⟨_,eQ (C7 (i:=3) Pb.nd rfl (ay rfl) (jw ((aN4 T).mono (by decide)) hr rfl T.BA.g T.BA.F.kp T.BA.b .nil dP (cC (pv 1) (cC (pv 2) eR))))
  (eQ (gq (pv 0) (pv 1) rfl)
  (eQ (gq (pv 0) (jw ((R7 T).mono (by decide)) hr rfl T.x9.g T.x9.F.kp T.x9.b .nil dP (cC (pv 2) eR)) rfl)
  (eQ (gq (pv 0) (jw ((Sh T).mono (by decide)) hr rfl T.ya.g T.ya.F.kp T.ya.b .nil dP (cC (pv 2) eR)) rfl)
  (eQ (gq (pv 0) (jw ((at6 T).mono (by decide)) hr rfl T.BB.g T.BB.F.kp T.BB.b .nil dP (cC (pv 1) (cC (pv 3) (cC (pG (pv 0) rfl) eR)))) rfl)
  (eQ (gq (pv 0) (jw ((Sj T).mono (by decide)) hr rfl T.yb.g T.yb.F.kp T.yb.b .nil dP (cC (pv 3) (cC (pG (pv 0) rfl) eR))) rfl)
  (mm (gq (pv 0) (zI KH rfl T.gQ gy (cC (pG (pv 0) rfl) eR)) rfl))))))),?_⟩
 try dsimp only[kX,kY]
 have hn:=cw5 hm hG
 have hk:=cD3 hm hG
 obtain⟨_,iR,iL,_⟩:=m3 hm hG
 have fR:∀X:List (List Nat),[D.lst true (aQ true X)].all D.fr=true:=λX=>by rw[dO,fB,AN];rfl
 have fN:∀X:List Nat,[D.lst true (aA X)].all D.fr=true:=λX=>by rw[dO,oy];rfl
 refine⟨_,rfl,_,rfl,F,[fD t.aN t.aR m,.lst false (aQ false G)],λd=>d=.lst true (aQ true (cK m G)),e0.trans s0,R.cons (A:=[]) (rf.shared (L3.af.refl _) s0) (rc.shared (L3.af.refl _) s0),⟨m,G,rfl,hm,by omega,hG,by omega,rfl⟩,λd v F1 H1 A1 hd iV Sk he1 h31 r1 nd1 fr1=>?_⟩
 subst hd
 obtain⟨p0,rfl⟩:=xW r1
 have bW:=iV.get _ _ hx rfl
 have z1:bM x H H1:=iV.x
 have r1:=r1.rP (fR _) Sk
 have BN:∀X:List (List Nat),[D.lst true (aQ true X)].map D.sh=[D.lst false (aQ false X)]:=λX=>by rw[dN,eT,iQ];rfl
 have ao:∀{F' H':Hp} {d:D} {v:V} {A':List Addr},R F' H' [d] [v] A'->[d].all D.fr=true->R (λ_=>none) H' [d] [v] A':=λr h=>r.rP h (L3.af.of λb o e=>by cases e)
 have mv:∀{F' H' Ie:Hp} {ds:List D} {vs:List V} {A':List Addr} {fs fs':List (Str × V)},R F' H' ds vs A'->L3.af H' Ie->Ie x=some (.ins C dx fs)->ds.all D.fr=true->R F' (upd Ie x (.ins C dx fs')) ds vs A':=λr h cU hd=>(r.grow (L3.af.refl _) h λa ha=>(r.lists a ha).2).uk cU hd
 refine⟨vf,rfl,.ref x,rfl,x,C,dx,_,rfl,bW,hC.cls,hC.field,hp.lt (by decide),?_⟩
 have r2:=mv r1 (L3.af.refl _) bW (fR _) (fs':=bt "field" vf (pre++[]))
 have z2:=z1.trans (bM.upd (C:=x) (dx:=dx) bW rfl (o':=.ins C dx (bt "field" vf (pre++[]))))
 have cZ:upd H1 x (.ins C dx (bt "field" vf (pre++[]))) x=some (.ins C dx (pre++([("field",vf)]:List (Str × V)))):=by rw[bA,hp.put _ _ _ (by decide)];rfl
 generalize upd H1 x (.ins C dx (bt "field" vf (pre++[])))=H2 at r2 z2 cZ ⊢
 have t2:=bM.of0 jA s0 z2
 refine⟨_,rfl,F,[.lst false (aQ false G)],λd=>d=.int (aD G:Nat),e0.trans t2,rc.shared (L3.af.refl _) t2,⟨G,rfl,by omega,λr bU=>by rw[(hG r bU).1];omega,rfl⟩,λd v F3 H3 A3 hd fL BI he3 h33 r3 nd3 De=>?_⟩
 subst hd
 cases r3
 have fg:=fL.get _ _ cZ rfl
 refine⟨.ref x,rfl,x,C,dx,_,rfl,fg,hC.cls,hC.length,hp.lt (by show 1<=6;decide),?_⟩
 have r4:=mv r2 fL fg (fR _) (fs':=bt "length" (.int (aD G:Nat)) (pre++([("field",vf)]:List (Str × V))))
 have z4:=(z2.trans (fL.x (x:=x))).trans (bM.upd (C:=x) (dx:=dx) fg rfl (o':=.ins C dx (bt "length" (.int (aD G:Nat)) (pre++([("field",vf)]:List (Str × V))))))
 have iU:upd H3 x (.ins C dx (bt "length" (.int (aD G:Nat)) (pre++([("field",vf)]:List (Str × V))))) x=some (.ins C dx (pre++([("field",vf),("length",.int (aD G:Nat))]:List (Str × V)))):=by rw[bA,hp.put _ _ _ (by decide)];rfl
 generalize upd H3 x (.ins C dx (bt "length" (.int (aD G:Nat)) (pre++([("field",vf)]:List (Str × V)))))=H4 at r4 z4 iU ⊢
 have t4:=bM.of0 jA s0 z4
 refine⟨_,rfl,F,[.lst false (aQ false G)],λd=>d=.lst true (aQ true G),e0.trans t4,rc.shared (L3.af.refl _) t4,⟨G,rfl,by omega,rfl⟩,λd v F5 H5 A5 hd jL hf5 he5 h35 r5 nd5 vK=>?_⟩
 subst hd
 obtain⟨p1,rfl⟩:=xW r5
 have ie:=jL.get _ _ iU rfl
 refine⟨.ref x,rfl,x,C,dx,_,rfl,ie,hC.cls,hC.cU9,hp.lt (by show 2<=6;decide),?_⟩
 have r6:=mv r4 jL ie (fR _) (fs':=bt "check_rows" (.ref p1) (pre++([("field",vf),("length",.int (aD G:Nat))]:List (Str × V))))
 have k6:=mv (ao r5 (fR _)) (L3.af.refl _) ie (fR _) (fs':=bt "check_rows" (.ref p1) (pre++([("field",vf),("length",.int (aD G:Nat))]:List (Str × V))))
 have z6:=(z4.trans (jL.x (x:=x))).trans (bM.upd (C:=x) (dx:=dx) ie rfl (o':=.ins C dx (bt "check_rows" (.ref p1) (pre++([("field",vf),("length",.int (aD G:Nat))]:List (Str × V))))))
 have oI:upd H5 x (.ins C dx (bt "check_rows" (.ref p1) (pre++([("field",vf),("length",.int (aD G:Nat))]:List (Str × V))))) x=some (.ins C dx (pre++([("field",vf),("length",.int (aD G:Nat)),("check_rows",.ref p1)]:List (Str × V)))):=by rw[bA,hp.put _ _ _ (by decide)];rfl
 generalize upd H5 x (.ins C dx (bt "check_rows" (.ref p1) (pre++([("field",vf),("length",.int (aD G:Nat))]:List (Str × V)))))=H6 at r6 k6 z6 oI ⊢
 have n5:∀a∈A5,H a=none:=λa ha=>z4.free (by rw[iU];simp) (vK a ha)
 have t6:=bM.of0 jA s0 z6
 have e6:=e0.trans t6
 refine⟨_,rfl,_,rfl,.ref x,rfl,x,C,dx,_,.int (aD G:Nat),rfl,oI,hC.cls,hC.length,(hp.look _ _ (by decide)).trans rfl,L3.br F H6 A1,[fD t.aN t.aR m,.lst false (aQ false (cK m G)),.int (aD G:Nat)],λd=>d=.lst true (aQ true (qK m (cK m G) (aD G))),pO e6,R.cons (A:=[]) (rf.shared (iH e6) t6) (R.cons (A:=[]) (BN _ ▸ r6.br e6 A1 λ_ h=>h) (.int .nil)),⟨m,cK m G,aD G,rfl,hm,by omega,by omega,iR,hn,rfl⟩,λd v F7 H7 A7 hd ni hf7 he7 h37 r7 nd7 Sl=>?_⟩
 subst hd
 obtain⟨p2,rfl⟩:=xW r7
 have lF:=ni.get _ _ oI rfl
 refine⟨.ref x,rfl,x,C,dx,_,rfl,lF,hC.cls,hC.cV0,hp.lt (by show 3<=6;decide),?_⟩
 have r8:=mv r6 ni lF (fR _) (fs':=bt "word_rows" (.ref p2) (pre++([("field",vf),("length",.int (aD G:Nat)),("check_rows",.ref p1)]:List (Str × V))))
 have k8:=mv k6 ni lF (fR _) (fs':=bt "word_rows" (.ref p2) (pre++([("field",vf),("length",.int (aD G:Nat)),("check_rows",.ref p1)]:List (Str × V))))
 have w8:=mv (ao r7 (fR _)) (L3.af.refl _) lF (fR _) (fs':=bt "word_rows" (.ref p2) (pre++([("field",vf),("length",.int (aD G:Nat)),("check_rows",.ref p1)]:List (Str × V))))
 have z8:=(z6.trans (ni.x (x:=x))).trans (bM.upd (C:=x) (dx:=dx) lF rfl (o':=.ins C dx (bt "word_rows" (.ref p2) (pre++([("field",vf),("length",.int (aD G:Nat)),("check_rows",.ref p1)]:List (Str × V))))))
 have BO:upd H7 x (.ins C dx (bt "word_rows" (.ref p2) (pre++([("field",vf),("length",.int (aD G:Nat)),("check_rows",.ref p1)]:List (Str × V))))) x=some (.ins C dx (pre++([("field",vf),("length",.int (aD G:Nat)),("check_rows",.ref p1),("word_rows",.ref p2)]:List (Str × V)))):=by rw[bA,hp.put _ _ _ (by decide)];rfl
 generalize upd H7 x (.ins C dx (bt "word_rows" (.ref p2) (pre++([("field",vf),("length",.int (aD G:Nat)),("check_rows",.ref p1)]:List (Str × V)))))=H8 at r8 k8 w8 z8 BO ⊢
 have n7:∀a∈A7,H a=none:=λa ha=>z6.free (by rw[oI];simp) (Sl a ha)
 have d57:∀a∈A5,a ∉ A7:=λa ha hb=>by
  obtain⟨⟨ws,e⟩,_⟩:=k6.lists a ha
  rw[Sl a hb]at e;cases e
 have t8:=bM.of0 jA s0 z8
 have e8:=e0.trans t8
 refine⟨_,rfl,.ref x,rfl,x,C,dx,_,.int (aD G:Nat),rfl,BO,hC.cls,hC.length,(hp.look _ _ (by decide)).trans rfl,L3.br F H8 A1,[.lst false (aQ false (cK m G)),.int (aD G:Nat)],λd=>d=.lst true (aA (eK (cK m G) (aD G))),pO e8,R.cons (A:=[]) (BN _ ▸ r8.br e8 A1 λ_ h=>h) (.int .nil),⟨cK m G,aD G,rfl,by omega,by omega,λr bU=>⟨by rw[(iR r bU).1];omega,hn r bU⟩,rfl⟩,λd v F9 H9 A9 hd BP hf9 he9 h39 r9 nd9 Ig=>?_⟩
 subst hd
 obtain⟨p3,rfl⟩:=xW r9
 have yu:=BP.get _ _ BO rfl
 refine⟨.ref x,rfl,x,C,dx,_,rfl,yu,hC.cls,hC.OZ,hp.lt (by show 4<=6;decide),?_⟩
 have Sm:=mv k8 BP yu (fR _) (fs':=bt "message_places" (.ref p3) (pre++([("field",vf),("length",.int (aD G:Nat)),("check_rows",.ref p1),("word_rows",.ref p2)]:List (Str × V))))
 have Sn:=mv w8 BP yu (fR _) (fs':=bt "message_places" (.ref p3) (pre++([("field",vf),("length",.int (aD G:Nat)),("check_rows",.ref p1),("word_rows",.ref p2)]:List (Str × V))))
 have Ih:=mv (ao r9 (fN _)) (L3.af.refl _) yu (fN _) (fs':=bt "message_places" (.ref p3) (pre++([("field",vf),("length",.int (aD G:Nat)),("check_rows",.ref p1),("word_rows",.ref p2)]:List (Str × V))))
 have So:=(z8.trans (BP.x (x:=x))).trans (bM.upd (C:=x) (dx:=dx) yu rfl (o':=.ins C dx (bt "message_places" (.ref p3) (pre++([("field",vf),("length",.int (aD G:Nat)),("check_rows",.ref p1),("word_rows",.ref p2)]:List (Str × V))))))
 have qW:upd H9 x (.ins C dx (bt "message_places" (.ref p3) (pre++([("field",vf),("length",.int (aD G:Nat)),("check_rows",.ref p1),("word_rows",.ref p2)]:List (Str × V))))) x=some (.ins C dx (pre++([("field",vf),("length",.int (aD G:Nat)),("check_rows",.ref p1),("word_rows",.ref p2),("message_places",.ref p3)]:List (Str × V)))):=by rw[bA,hp.put _ _ _ (by decide)];rfl
 generalize upd H9 x (.ins C dx (bt "message_places" (.ref p3) (pre++([("field",vf),("length",.int (aD G:Nat)),("check_rows",.ref p1),("word_rows",.ref p2)]:List (Str × V)))))=H10 at Sm Sn Ih So qW ⊢
 have n9:∀a∈A9,H a=none:=λa ha=>z8.free (by rw[BO];simp) (Ig a ha)
 have d59:∀a∈A5,a ∉ A9:=λa ha hb=>by
  obtain⟨⟨ws,e⟩,_⟩:=k8.lists a ha
  rw[Ig a hb]at e;cases e
 have d79:∀a∈A7,a ∉ A9:=λa ha hb=>by
  obtain⟨⟨ws,e⟩,_⟩:=w8.lists a ha
  rw[Ig a hb]at e;cases e
 obtain⟨ws,lw,ew⟩:∃ws,ws.length=(eK (cK m G) (aD G)).length/\H10 p3=some (.lst ws):=by
  cases Ih with
  | own h _ r _=>exact⟨_,by rw[<-r.length,gG],h⟩
 refine⟨.ref x,rfl,x,C,dx,_,.ref p3,rfl,qW,hC.cls,hC.OZ,(hp.look _ _ (by decide)).trans rfl,p3,ws,rfl,.inl (bH.of ew),.ref x,rfl,x,C,dx,_,rfl,qW,hC.cls,hC.size,hp.lt (by show 5<=6;decide),?_⟩
 rw[lw]
 refine q _ p1 p2 p3 A5 A7 A9 (So.trans (bM.upd (C:=x) (dx:=dx) qW rfl)) (by rw[bA,hp.put _ _ _ (by decide)];rfl) (mv Sm (L3.af.refl _) qW (fR _)) (mv Sn (L3.af.refl _) qW (fR _)) (mv Ih (L3.af.refl _) qW (fN _)) ?_ ?_
 ·exact fW.mpr ⟨nd5,fW.mpr ⟨nd7,nd9,d79⟩,λa ha hb=>(cS.mp hb).elim (d57 a ha) (d59 a ha)⟩
 ·intro a ha
  rcases cS.mp ha with ha | ha
  ·exact n5 a ha
  ·exact(cS.mp ha).elim (n7 a) (n9 a)
noncomputable def iW(M n e f:Int):Prop:=2<=n/\n<=M-1/\1<=e/\e<=n-1/\0<=f/\f<=M-2
noncomputable instance (M n e f:Int):Decidable (iW M n e f):=by unfold iW;infer_instance
noncomputable abbrev az5:bc:=λds Q=>∃(M n e f:Int),ds=[.int M,.int n,.int e,.int f]/\Q (.bl (decide (iW M n e f)))
theorem Sq(T:Txt K mg t):aL P w K mg base aS 1 t.QH t.QI ["many","length","extra","first"] (bf (az5 )):=by
 refine bD T.yc.F ax0 ?_ ?_
 ·intro ds Q h
  obtain⟨M,n,e,f,rfl,q⟩:=h<;>rfl
 ·intro ax A outer s H E hr
  refine⟨_,(aC (aV (pX (aa (tf j6 j6 (aa ak) (bv 1) (aa (au dm (bv 0) (aa ak))))) (pX (aa (tf j6 j6 (aa ak) (bv 2) (aa (au dm (bv 1) (aa ak))))) (vE (tf j6 j6 (aa ak) (bv 3) (aa (au dm (bv 0) (aa ak))))))))),λds Q h=>?_⟩
  obtain⟨M,n,e,f,rfl,q⟩:=h
  walk_at"l3"
  have z:∀b:Bool,(b=true↔iW M n e f)->Q (.bl b):=λb h=>by rw[show b=decide (iW M n e f) by rw[rm,decide_eq_true_eq];exact h];exact q
  unfold iW at z
  repeat' split
  all_goals exact z _ (by simp only[decide_eq_true_eq,nv,false_iff];omega)
noncomputable abbrev bu3(t:ft):List D->List Str->List D->Prop:=λds ns xs=>∃(m:Bool × Nat) (n e f:Nat),ds=[fD t.aN t.aR m,.int n,.int e,.int f]/\m∈aq/\2<=n/\n+1<=ae m/\1<=e/\e+1<=n/\f+2<=ae m/\ns=(["extra","first","field","length","check_rows","word_rows","message_places","size"]:List Str)/\xs=[.int e,.int f]++m4 t.aN t.aR true m (cW m f (aJ n) e)
theorem Sr(T:Txt K mg t)(hB:Bm mg base):aL P w K mg base aS 5 t.Bl t.x8 ["self","field","length","extra","first"] (FF [t.jo,t.jq] t.bh (bu3 t)):=by
 refine T.Ru.ok GW (λvs H Q E h=>?_) λax A outer s H vs Q E hr h=>?_
 ·obtain⟨F,H0,x,dx,bV,ds,ns,xs,rfl,_,_,_,_,_,r,⟨m,n,e,f,rfl,_⟩,_⟩:=h
  have:=r.length
  simp at this
  simp[this]
 obtain⟨F,H0,x,dx,bV,ds,ns,xs,rfl,tb,e0,jA,s0,hx,r,⟨m,n,e,f,rfl,hm,h1,h2,h3,h4,h5,rfl,rfl⟩,q⟩:=h
 have BM:=(bZ hm).hi
 obtain⟨vf,vs1,B1,B2,rfl,hB',rf,r2⟩:=R.cQ r
 obtain⟨rfl,rfl⟩:=yP.mp hB'.symm
 obtain rfl:vs1=[.int n,.int e,.int f]:=by
  cases r2 with
  | int r=>cases r with
   | int r=>cases r with
    | int r=>cases r;rfl
 refine⟨_,eQ (zu (rW (mF (aa (wg ((Sq T).mono (by decide)) hr rfl T.yc.g T.yc.F.kp T.yc.b dP (ai (cV (K:=K) (bv 1)) (ai (bv 2) (ai (bv 3) (ai (bv 4) aB)))))))) (mm C2) vF)
  (eQ (gq (pv 0) (pv 3) rfl)
  (eQ (gq (pv 0) (pv 4) rfl)
  (eQ (b04 (i:=5) GW.nd rfl (ay rfl) [("field",1),("first",4),("length",2)] ["i"] rfl (kO rfl T.gR (ai (bv 3) aB)) (λ_ _ _ _=>(jz (i:=3) (show(["field","first","length","i"]:List Str).Nodup by decide +kernel) rfl (cA rfl) (by decide) (ay rfl))) (λ_ _ _ _=>gD) (by exact λ_ _ _ _=>(gM [("field",0),("first",1),("i",3)] ["j"] rfl (kO rfl T.gR (ai (bv 2) aB)) (λ_ _ _ _=>(jz (i:=3) (show(["field","first","i","j"]:List Str).Nodup by decide +kernel) rfl (ay (lookup_relabel_local rfl)) (by decide) (cA (lookup_relabel_local rfl)))) (λ_ _ _ _=>gD) (λ_ _ _ _=>(mV (P:=P) (w:=w) (K:=K) (mg:=mg) (base:=base) (n:=1) (bv 0) (hr.mono (by decide)) (ai (aa (au jD (aa (au dj (bv 1) (bv 2))) (bv 3))) aB))) rfl)) rfl ⟨rfl,⟨rfl,⟨rfl,trivial⟩⟩⟩ (λ_=>by repeat' (first | exact trivial | refine⟨.inl rfl,?_⟩ | refine⟨.inr (.inl rfl),?_⟩ | refine⟨.inr (.inr ⟨_,rfl⟩),?_⟩)) (λ_=>⟨⟨rfl,.inl rfl,.inl rfl,_,rfl,rfl⟩,⟨⟨rfl,.inl rfl,.inl rfl,_,rfl,rfl⟩,⟨⟨rfl,.inl rfl,.inl rfl,_,rfl,rfl⟩,trivial⟩⟩⟩) rfl (by decide +kernel))
  (mm (zt (cE1 (E:=E0) T.c21 ((aK2 T).mono (by decide)) hr T.Rt.b dP rfl T.HQ (cC (pv 0) (cC (pv 1) (cC (pv 5) eR))))))))),?_⟩
 try dsimp only[kX,kY]
 refine⟨⟨H,F⟩,F,[none,some (fD t.aN t.aR m),some (.int n),some (.int e),some (.int f),none],[],λb _=>b=false,aj.self (e0.trans s0) (.dQ (A:=[]) (C:=[]) (rf.shared (L3.af.refl _) s0) (.dQ (A:=[]) (C:=[]) (.int .nil) (.dQ (A:=[]) (C:=[]) (.int .nil) (.dQ (A:=[]) (C:=[]) (.int .nil) (.ao .nil))))),?_,λb ag F1 H1 hb Sk iV c1=>?_⟩
 ·walk_at"l3"
  exact RJ T m ⟨ae m,n,e,f,rfl,rfl,true,by rw[decide_eq_true (by unfold iW;omega)],rfl⟩
 subst hb
 refine jX ?_
 have s1:=s0.trans iV
 have bW:=iV.get _ _ hx rfl
 refine⟨.int e,rfl,.ref x,rfl,x,t.bh,dx,_,rfl,bW,T.ff,T.qS,by decide,?_⟩
 have cZ:upd H1 x (.ins t.bh dx (bt "extra" (.int e) [])) x=some (.ins t.bh dx [("extra",.int e)]):=by rw[bA];rfl
 have z2:=(iV.x (x:=x)).trans (bM.upd (C:=x) (dx:=dx) bW rfl (o':=.ins t.bh dx (bt "extra" (.int e) [])))
 generalize upd H1 x (.ins t.bh dx (bt "extra" (.int e) []))=H2 at z2 cZ ⊢
 refine⟨.int f,rfl,.ref x,rfl,x,t.bh,dx,_,rfl,cZ,T.ff,T.uU,by show 1<1000;decide,?_⟩
 have fg:upd H2 x (.ins t.bh dx (bt "first" (.int f) [("extra",.int e)])) x=some (.ins t.bh dx [("extra",.int e),("first",.int f)]):=by rw[bA];rfl
 have z3:=z2.trans (bM.upd (C:=x) (dx:=dx) cZ rfl (o':=.ins t.bh dx (bt "first" (.int f) [("extra",.int e)])))
 generalize upd H2 x (.ins t.bh dx (bt "first" (.int f) [("extra",.int e)]))=H3 at z3 fg ⊢
 have s3:=bM.of0 jA s0 z3
 obtain⟨g1,g2,g3⟩:=FI hm f n (show 1<=e by omega)
 refine⟨⟨H3,F⟩,F,[none,some (fD t.aN t.aR m),some (.int n),some (.int e),some (.int f),none],[],λd _=>d=.lst true (aQ true (cW m f (aJ n) e)),aj.self (e0.trans s3) (.dQ (A:=[]) (C:=[]) (rf.shared (L3.af.refl _) s3) (.dQ (A:=[]) (C:=[]) (.int .nil) (.dQ (A:=[]) (C:=[]) (.int .nil) (.dQ (A:=[]) (C:=[]) (.int .nil) (.ao .nil))))),?_,λd ag v F4 H4 hd hf4 yv c4=>?_⟩
 ·walk_at"l3"
  refine⟨⟨by omega,by omega⟩,iN (aJ e) (λ(i:Nat)=>D.int (i:Int)) (λ(i:Nat)=>D.lst true (aA ((aJ n).map λ(p:Nat)=>eS m (((f:Int)+(i:Int))*(p:Int))))) (uq _ (by omega)) kZ (λi hi=>?_) (.inr λ_ _=>oy _) (by rw[de,sL];omega) ?_⟩
  ·have hi:=dH.mp hi
   walk_at"l3"
   refine⟨⟨by omega,by omega⟩,iN (aJ n) (λ(i:Nat)=>D.int (i:Int)) (λ(p:Nat)=>D.int ((eS m (((f:Int)+(i:Int))*(p:Int)):Nat):Int)) (uq _ (by omega)) kZ (λp zY=>?_) (.inr λ_ _=>rfl) (by rw[de,sL];omega) ?_⟩
   ·have:=dH.mp zY
    walk_at"l3"
    obtain⟨C,ns,xs,sp,e1,e2,e3,e4⟩:=RN (P:=P) (w:=w) (base:=base) T hm (n:=((f:Int)+(i:Int))*(p:Int)) (Q:=λr=>r=D.int ((eS m (((f:Int)+(i:Int))*(p:Int)):Nat):Int)) rfl
    exact⟨C,ns,xs,sp,e1,e2,e3,kC.ok (.inl ⟨by omega,by omega⟩),e4⟩
   ·rw[eJ,eH];rfl
  ·unfold cW aQ
   rw[eH];rfl
 subst hd
 obtain⟨A4,C4,r4,_,Ss,Ii⟩:=c4.own
 have r4:R F4 H4 [.lst true (aQ true (cW m f (aJ n) e))] [v] A4:=r4
 obtain⟨pc,rfl⟩:=xW r4
 have iU:=yv.get _ _ fg rfl
 have fR:∀X:List (List Nat),[D.lst true (aQ true X)].all D.fr=true:=λX=>by rw[dO,fB,AN];rfl
 have BN:∀X:List (List Nat),[D.lst true (aQ true X)].map D.sh=[D.lst false (aQ false X)]:=λX=>by rw[dN,eT,iQ];rfl
 have r4:=r4.rP (fR _) hf4
 have Ii:∀a∈A4,H3 a=none:=λa ha=>Ii a (eB _ ha)
 have Ss:=(fW.mp Ss).1
 have Su:=s3.trans yv
 have xA:x ∉ A4:=λz=>by rw[Ii x z]at fg;cases fg
 have s5:L3.af H0 (L3.br H0 H4 A4):=iH Su
 have e5:=e0.trans s5
 have r5:R F (L3.br H0 H4 A4) [.lst true (aQ true (cW m f (aJ n) e))] [.ref pc] A4:=cg3 r4 λa ha=>by unfold L3.br;rw[if_pos ha]
 refine⟨.ref x,rfl,vf,rfl,.ref pc,rfl,L3.br F (L3.br H0 H4 A4) A4,L3.br H0 H4 A4,x,dx,t.bh,vf,.ref pc,m,cW m f (aJ n) e,[("extra",.int e),("first",.int f)],rfl,pO e5,by rw[pP xA];exact jA,pO Su,iU,.two _ _,⟨T.ff,T.uT,T.uV,T.uS,T.HK,T.uW,T.uX⟩,rf.shared (iH e5) s5,BN _ ▸ r5.br e5 A4 λ_ h=>h,hm,by rw[g3];exact g1,by omega,by omega,λH' p1 p2 p3 B1 B2 B3 sx cU k1 k2 k3 nd fr=>?_⟩
 have z:=(z3.trans (yv.x (x:=x))).trans sx
 have so:=bM.of0 jA s0 z
 have ee:=e0.trans s3
 refine q H' [.int e,.int f,vf,.int (aD (cW m f (aJ n) e):Nat),.ref p1,.ref p2,.ref p3,.int ((gb m (cW m f (aJ n) e)).length:Nat)] (B1++(B2++(B3++[]))) z cU rfl ?_ ?_ ?_
 ·have up:∀{ds:List D} {vs:List V} {B:List Addr},R (λ_=>none) H' ds vs B->(∀a∈B,H4 a=none)->R F H' ds vs B:=λr h=>r.keep (L3.af.of λb o e=>by cases e) (fC.same (L3.af.refl _)) gB.nil (λa ha=>ee.free (yv.free (h a ha))) (by simp)
  exact .int (.int (R.cons (A:=[]) (rf.shared (L3.af.refl _) so) (.int (R.cons (up k1 λa ha=>fr a (eB _ ha)) (R.cons (up k2 λa ha=>fr a (dM _ (eB _ ha))) (R.cons (up k3 λa ha=>fr a (dM _ (dM _ ha))) (.int .nil)))))))
 ·rw[fO];exact nd
 ·rw[fO]
  intro a ha
  exact z3.free (by rw[fg];simp) (yv.free (fr a ha))
noncomputable def cq0(t:ft)(K:Frag):jH:=λds _ Ex=>∃(m:Bool × Nat) (n e f:Int),ds=[.obj t.bh [] [],fD t.aN t.aR m,.int n,.int e,.int f]/\¬ iW (ae m) n e f/\Ex t.da
theorem cu4(T:Txt K mg t):aL P w K mg base (gY P w) 3 t.Bl t.x8 ["self","field","length","extra","first"] (mQ (cq0 t K)):=by
 refine cf3 T.Ru GW (λds Q E ⟨m,n,e,f,h,_⟩=>by rw[h];rfl) λax A outer s H E hr=>⟨_,aF (cI (rW (mF (aa (cy T.yc (Sq T) hr (ai (cV (K:=K) (bv 1)) (ai (bv 2) (ai (bv 3) (ai (bv 4) aB)))))))) (aC (Ek T.c23 rfl (by rfl) (ai (aa mD) aB))) cO) YD,λds Q Ex h=>?_⟩
 obtain⟨m,n,e,f,rfl,hn,hx⟩:=h
 refine aH λU hU=>?_
 walk_at"l3"
 refine RJ T m ⟨_,n,e,f,rfl,rfl,_,rfl,?_⟩
 rw[decide_eq_false hn,if_pos (by rfl)]
 exact⟨by decide,hx⟩
noncomputable abbrev aE6(t:ft):bc:=λds Q=>∃(m:Bool × Nat) (n e f:Int),ds=[fD t.aN t.aR m,.tup [.int n,.int e,.int f]]/\¬ iW (ae m) n e f/\Q (.bl true)
theorem Sv(T:Txt K mg t)(hB:Bm mg base):aL P w K mg base aS 7 t.QJ t.QK ["_law_field_here","_law_three"] (ua [t.jo,t.jq] (bf (aE6 t))):=by
 refine EM T.qR.F Bj ?_ ?_
 ·intro ds Q h
  obtain⟨m,n,e,f,rfl,hn,q⟩:=h<;>rfl
 ·intro ax A outer s H E hT hr
  refine⟨_,(aF (aW (i:=2) Bj.nd rfl (ay rfl) DX)
   (aF (Zm (i:=3) (λ_ _=>(aC (Za (cg9 T.yh ((cu4 T).mono (by decide)) hr rfl T.yo T.Rw rfl (ai (bv 0) (ai (bx (bv 1) (aa ak) (λ_ _=>rfl)) (ai (bx (bv 1) (aa ak) (λ_ _=>rfl)) (ai (bx (bv 1) (aa ak) (λ_ _=>rfl)) aB))))))))
    (λ_ _=>(aC (aW (i:=2) Bj.nd rfl (ay rfl) (em 3)))) (by rfl) T.BG Bj.nd rfl rfl rfl rfl rfl)
   (aC (aV (pX (aa (MK (by rfl) T.BE (by rfl) T.HR (bv 2))) (pX (aa (Zw (by rfl) T.BE (by rfl) T.c22 Xl (bv 2))) (vE (YB (aa (MK (by rfl) T.BE (by rfl) T.HS (bv 2))))))))))),λds Q h=>?_⟩
  obtain⟨m,n,e,f,rfl,hn,q⟩:=h
  refine aH λU hU=>?_
  walk_at"l3"
  refine hU _ ?_
  clear hU U
  refine aH λU hU=>?_
  walk_at"l3"
  refine⟨_,rfl,_,rfl,_,rfl,m,n,e,f,rfl,hn,T.c26,hU _ ?_⟩
  clear hU U
  walk_at"l3"
  refine⟨_,Et T.HU T.ay9,?_⟩
  rw[if_pos rfl]
  refine⟨_,Et T.HU T.c27,?_⟩
  rw[if_pos rfl]
  exact⟨_,Et T.HU T.aC9,q⟩
noncomputable abbrev aF5:bc:=λds Q=>∃(M n e f c:Int),ds=[.int M,.int n,.int e,.int f,.int c]/\iW M n e f/\∀n' e' f':Int,¬ iW M n' e' f'->Q (.tup [.int n',.int e',.int f'])
theorem aF6(T:Txt K mg t):aL P w K mg base aS 1 t.QL t.QM ["_law_many_here","_law_length","_law_extra","_law_first","_law_cell_here"] (bf (aF5 )):=by
 refine bD T.Rx.F m8 ?_ ?_
 ·intro ds Q h
  obtain⟨M,n,e,f,c,rfl,hk,q⟩:=h<;>rfl
 ·intro ax A outer s H E hr
  refine⟨_,(aF (aW (i:=5) m8.nd rfl (ay rfl) (au dj (aa ak) (aa (au jD (aa (au cJ (aa (au jC (bv 4) (aa ak))) (aa ak))) (aa (au cJ (aa (au jC (bv 4) (aa ak))) (aa ak)))))))
   (aF (cI (bN (eo (bX hr)) (aa (au cJ (bv 4) (aa ak))) (aa ak) (bJ _)) (aC (aW (i:=1) m8.nd rfl (ay rfl) (au dj (aa (au dm (bv 0) (aa ak))) (bv 5)))) cO)
   (aF (cI (bN (eo (bX hr)) (aa (au cJ (bv 4) (aa ak))) (aa ak) (bJ _)) (aF (aW (i:=1) m8.nd rfl (ay rfl) (au dm (aa ak) (bv 5)))
    (aC (aW (i:=2) m8.nd rfl (ay rfl) ak))) cO)
   (aF (cI (bN (eo (bX hr)) (aa (au cJ (bv 4) (aa ak))) (aa ak) (bJ _)) (aF (aW (i:=2) m8.nd rfl (ay rfl) (au dj (aa (au dm (bv 1) (aa ak))) (bv 5)))
    (aC (cI (bN (eo (bX hr)) (aa (au cJ (aa (au jC (bv 4) (aa ak))) (aa ak))) (aa ak) (bJ _)) (aC (aW (i:=2) m8.nd rfl (ay rfl) (au dm (aa ak) (bv 5)))) cO))) cO)
   (aF (cI (bN (eo (bX hr)) (aa (au cJ (bv 4) (aa ak))) (aa ak) (bJ _)) (aF (aW (i:=3) m8.nd rfl (ay rfl) (au dj (aa (au dm (bv 0) (aa ak))) (bv 5)))
    (aC (cI (bN (eo (bX hr)) (aa (au cJ (aa (au jC (bv 4) (aa ak))) (aa ak))) (aa ak) (bJ _)) (aC (aW (i:=3) m8.nd rfl (ay rfl) (au dm (aa ak) (bv 5)))) cO))) cO)
   (aC (aV (p5 (cx (em 1) (cx (em 2) (cx (em 3) dR))))))))))),λds Q h=>?_⟩
  obtain⟨M,n,e,f,c,rfl,hk,q⟩:=h
  unfold iW at hk q
  have u1:=iY (c/8) (show(3:Int)≠0 by decide)
  have u2:=lY (c/8) (show(0:Int)<3 by decide)
  have u3:=Int.emod_two_eq (c/24)
  have u4:c%4=0\/c%4=1\/c%4=2\/c%4=3:=by omega
  refine aH λU hU=>?_
  walk_at"l3"
  refine⟨jB (by decide) (by decide),by decide,jB (by decide) (by decide),by decide,kC.ok (.inl ⟨by omega,by omega⟩),hU _ ?_⟩
  clear hU U
  obtain⟨b,eb,hb⟩:∃b:Int,1+c/8%3*(c/24%2)=b/\1<=b:=⟨_,rfl,by rcases u3 with h | h<;>rw[h]<;>omega⟩
  rw[eb]
  refine aH λU hU=>?_
  walk_at"l3"
  refine⟨by decide,?_⟩
  have s1:∀n1:Int,(c%4=0/\n1=M-1+b\/c%4≠0/\n1=n)->U [some (D.int M),some (D.int n1),some (D.int e),some (D.int f),some (D.int c),some (D.int b)]:=by
   intro n1 h1
   refine hU _ ?_
   clear hU U
   refine aH λU hU=>?_
   walk_at"l3"
   refine⟨by decide,?_⟩
   have s2:∀n2 e2:Int,(c%4=1/\n2=2-b\/c%4≠1/\n2=n1/\e2=e)->U [some (D.int M),some (D.int n2),some (D.int e2),some (D.int f),some (D.int c),some (D.int b)]:=by
    intro n2 e2 h2
    refine hU _ ?_
    clear hU U
    refine aH λU hU=>?_
    walk_at"l3"
    refine⟨by decide,?_⟩
    have s3:∀e3:Int,(c%4=2/\(e3=n2-1+b\/e3=1-b)\/c%4≠2/\e3=e2)->U [some (D.int M),some (D.int n2),some (D.int e3),some (D.int f),some (D.int c),some (D.int b)]:=by
     intro e3 h3
     refine hU _ ?_
     clear hU U
     refine aH λU hU=>?_
     walk_at"l3"
     refine⟨by decide,?_⟩
     have s4:∀f4:Int,(c%4=3/\(f4=M-2+b\/f4=0-b)\/c%4≠3)->U [some (D.int M),some (D.int n2),some (D.int e3),some (D.int f4),some (D.int c),some (D.int b)]:=by
      intro f4 h4
      refine hU _ ?_
      clear hU U
      walk_at"l3"
      exact⟨by decide,q n2 e3 f4 (by omega)⟩
     split
     ·refine aH λV hV=>?_
      walk_at"l3"
      refine hV _ ?_
      clear hV V
      walk_at"l3"
      refine⟨jB (by decide) (by decide),by decide,?_⟩
      split
      ·exact s4 _ (.inl ⟨by omega,.inr rfl⟩)
      ·exact s4 _ (.inl ⟨by omega,.inl rfl⟩)
     ·exact s4 _ (.inr (by omega))
    split
    ·refine aH λV hV=>?_
     walk_at"l3"
     refine hV _ ?_
     clear hV V
     walk_at"l3"
     refine⟨jB (by decide) (by decide),by decide,?_⟩
     split
     ·exact s3 _ (.inl ⟨by omega,.inr rfl⟩)
     ·exact s3 _ (.inl ⟨by omega,.inl rfl⟩)
    ·exact s3 _ (.inr ⟨by omega,rfl⟩)
   split
   ·exact s2 _ _ (.inl ⟨by omega,rfl⟩)
   ·exact s2 _ _ (.inr ⟨by omega,rfl,rfl⟩)
  split
  ·exact s1 _ (.inl ⟨by omega,rfl⟩)
  ·exact s1 _ (.inr ⟨by omega,rfl⟩)
noncomputable abbrev aF7(t:ft):bc:=λds Q=>∃(m:Bool × Nat) (G:List (List Nat)) (k:Kd),ds=[gg t m G k]/\Q (.lst true (aA (gb m G)))
theorem aF8(T:Txt K mg t):aL P w K mg base aS 1 t.Hq t.QN ["self"] (bf (aF7 t)):=by
 refine bD T.Ry.F aE7 ?_ ?_
 ·intro ds Q h
  obtain⟨m,G,k,rfl,q⟩:=h<;>rfl
 ·intro ax A outer s H E hr
  refine⟨_,(aC (aV (nY (D9) (by rfl) T.ym v7 (ai (cV (K:=K) (bv 0)) aB)))),λds Q h=>?_⟩
  obtain⟨m,G,k,rfl,q⟩:=h
  walk_at"l3"
  exact bS8 T m G k ⟨og _,q⟩
noncomputable abbrev aF9(t:ft):bc:=λds Q=>∃(m:Bool × Nat) (G:List (List Nat)) (k:Kd),ds=[gg t m G k]/\qO m G/\Q (.lst true (aQ true G))
theorem aG0(T:Txt K mg t):aL P w K mg base aS 2 t.Hr t.QO ["self"] (bf (aF9 t)):=by
 refine bD T.Rz.F aE8 ?_ ?_
 ·intro ds Q h
  obtain⟨m,G,k,rfl,hc,q⟩:=h<;>rfl
 ·intro ax A outer s H E hr
  refine⟨_,(aC (aV (cy T.ya (Sh T) hr (ai (cV (K:=K) (bv 0)) aB)))),λds Q h=>?_⟩
  obtain⟨m,G,k,rfl,hc,q⟩:=h
  have hl:=hc.len
  walk_at"l3"
  exact bK4 T m G k ⟨_,by rw[eT,iQ],by omega,by rw[fB,AN,nu,l9],q⟩
noncomputable abbrev Sw(t:ft):bc:=λds Q=>∃(m:Bool × Nat) (G:List (List Nat)) (e f:Nat),ds=[gg t m G (.gP e f)]/\Q (.int ((e+1:Nat):Int))
theorem at7(T:Txt K mg t):aL P w K mg base aS 1 t.Hs t.QP ["self"] (bf (Sw t)):=by
 refine bD T.RA.F as6 ?_ ?_
 ·intro ds Q h
  obtain⟨m,G,e,f,rfl,q⟩:=h<;>rfl
 ·intro ax A outer s H E hr
  refine⟨_,(aC (aV (au dj (cV (K:=K) (bv 0)) (aa ak)))),λds Q h=>?_⟩
  obtain⟨m,G,e,f,rfl,q⟩:=h
  walk_at"l3"
  exact⟨_,_,_,_,rfl,T.ff,T.qS,rfl,q⟩
noncomputable abbrev Sx(K:Frag):bc:=λds Q=>∃(C:Addr) (ns:List Str) (xs:List D) (p:Nat),ds=[.obj C ns xs]/\cB K C/\bj K C "bits"/\(ns.zip xs).lookup ("bits":Str)=some (.int p)/\p<=127/\Q (.str ("bits "++toString (p:Int)))
theorem aD2(T:Txt K mg t):aL P w K mg base aS 1 t.Ht t.QQ ["self"] (bf (Sx K)):=by
 refine bD T.RB.F aC3 ?_ ?_
 ·intro ds Q h
  obtain⟨C,ns,xs,p,rfl,h1,h2,h3,h4,q⟩:=h<;>rfl
 ·intro ax A outer s H E hr
  refine⟨_,(aC (aV (au dj (aa mD) (aa (nY (xk) (by rfl) T.yn v3 (ai (cV (K:=K) (bv 0)) aB)))))),λds Q h=>?_⟩
  obtain⟨C,ns,xs,p,rfl,h1,h2,h3,h4,q⟩:=h
  walk_at"l3"
  refine⟨C,ns,xs,_,rfl,h1,h2,h3,?_⟩
  dsimp only
  have hb:(p:Int).natAbs.log2<1920:=by
   rw[gj]
   by_cases h0:p=0
   ·rw[h0];decide
   ·have:=(Cm h0).mpr (show p<2 ^ 8 by omega)
    omega
  have dg:∀k:Fin 128,(cH (toString (((k:Nat):Int)))).length<=10:=by decide +kernel
  have d1:=dg ⟨p,by omega⟩
  refine⟨hb,?_,q⟩
  have:(cH "bits ").length<=10:=by decide +kernel
  have d1:(cH (toString ((p:Nat):Int))).length<=10:=d1
  omega
noncomputable abbrev Sy(K:Frag):bc:=λds Q=>∃(C:Addr) (ns:List Str) (xs:List D) (p:Nat),ds=[.obj C ns xs]/\cB K C/\bj K C "prime"/\(ns.zip xs).lookup ("prime":Str)=some (.int p)/\p<=127/\Q (.str ("prime "++toString (p:Int)))
theorem az6(T:Txt K mg t):aL P w K mg base aS 1 t.Hu t.QR ["self"] (bf (Sy K)):=by
 refine bD T.RC.F ax1 ?_ ?_
 ·intro ds Q h
  obtain⟨C,ns,xs,p,rfl,h1,h2,h3,h4,q⟩:=h<;>rfl
 ·intro ax A outer s H E hr
  refine⟨_,(aC (aV (au dj (aa mD) (aa (nY (xk) (by rfl) T.yn v3 (ai (cV (K:=K) (bv 0)) aB)))))),λds Q h=>?_⟩
  obtain⟨C,ns,xs,p,rfl,h1,h2,h3,h4,q⟩:=h
  walk_at"l3"
  refine⟨C,ns,xs,_,rfl,h1,h2,h3,?_⟩
  dsimp only
  have hb:(p:Int).natAbs.log2<1920:=by
   rw[gj]
   by_cases h0:p=0
   ·rw[h0];decide
   ·have:=(Cm h0).mpr (show p<2 ^ 8 by omega)
    omega
  have dg:∀k:Fin 128,(cH (toString (((k:Nat):Int)))).length<=10:=by decide +kernel
  have d1:=dg ⟨p,by omega⟩
  refine⟨hb,?_,q⟩
  have:(cH "prime ").length<=10:=by decide +kernel
  have d1:(cH (toString ((p:Nat):Int))).length<=10:=d1
  omega
theorem uY{n:Nat}(h:n<=64):(cH (toString (n:Int))).length<=2/\(n:Int).natAbs.log2<1920:=by
 have:∀k,k<65->(cH (toString ((k:Nat):Int))).length<=2/\((k:Nat):Int).natAbs.log2<1920:=by decide +kernel
 exact this n (by omega)
noncomputable def Sz(n e f:Nat):Str:=Txt.join " " ["roots",toString (n:Int),toString (e:Int),toString (f:Int)]
theorem cr4(n e f:Nat):Sz n e f=km++cH "roots "++cH (toString (n:Int))++cH " "++cH (toString (e:Int))++cH " "++cH (toString (f:Int)):=by
 show(⟨(cH "roots").cps++(cH " ").cps++(cH (toString (n:Int))).cps++(cH " ").cps++(cH (toString (e:Int))).cps++(cH " ").cps++(cH (toString (f:Int))).cps⟩:Str)=⟨(km.cps++(cH "roots ").cps)++(cH (toString (n:Int))).cps++(cH " ").cps++(cH (toString (e:Int))).cps++(cH " ").cps++(cH (toString (f:Int))).cps⟩
 rw[show(cH "roots").cps++(cH " ").cps=km.cps++(cH "roots ").cps by decide +kernel]
theorem cl6(a b:Str):(a++b).length=a.length+b.length:=by
 show(a.cps++b.cps).size=_
 rw[Array.size_append];rfl
noncomputable abbrev SA(t:ft):bc:=λds Q=>∃(m:Bool × Nat) (G:List (List Nat)) (e f:Nat),ds=[gg t m G (.gP e f)]/\aD G<=64/\e<=64/\f<=64/\Q (.str (Sz (aD G) e f))
theorem aD3(T:Txt K mg t):aL P w K mg base aS 1 t.Hv t.QS ["self"] (bf (SA t)):=by
 refine bD T.RD.F aC4 ?_ ?_
 ·intro ds Q h
  obtain⟨m,G,e,f,rfl,hw,he,hf,q⟩:=h<;>rfl
 ·intro ax A outer s H E hr
  refine⟨_,(aC (aV (cm6 (aa (fF (cx mD (cx (nY (xk) (by rfl) T.yn v3 (ai (cV (K:=K) (bv 0)) aB)) (cx (nY (xk) (by rfl) T.yn v3 (ai (cV (K:=K) (bv 0)) aB)) (cx (nY (xk) (by rfl) T.yn v3 (ai (cV (K:=K) (bv 0)) aB)) dR))))))))),λds Q h=>?_⟩
  obtain⟨m,G,e,f,rfl,hw,he,hf,q⟩:=h
  walk_at"l3"
  obtain⟨l1,b1⟩:=uY hw
  obtain⟨l2,b2⟩:=uY he
  obtain⟨l3,b3⟩:=uY hf
  refine RK T m G (.gP e f) ⟨b1,_,_,_,_,rfl,T.ff,T.qS,rfl,b2,_,_,_,_,rfl,T.ff,T.uU,rfl,b3,by decide,["roots",toString (aD G:Int),toString (e:Int),toString (f:Int)],rfl,?_,q⟩
  show(5+((cH (toString (aD G:Int))).length+((cH (toString (e:Int))).length+((cH (toString (f:Int))).length+0))))+4*1<=16777216
  omega
noncomputable abbrev aK3(t:ft)(P:Program)(w:World)(K:Frag)(mg:Str->Option Value)(base:Heap):bc:=λds Q=>∃(m:Bool × Nat) (n e f:Nat),ds=[gg t m (cW m f (aJ n) e) (.gP e f),.lst false (aE (fl m)),.tup [.int n,.int e,.int f]]/\m∈aq/\n+1<=ae m/\1<=e/\e+1<=n/\f+2<=ae m/\qO m (cW m f (aJ n) e)/\gb m (cW m f (aJ n) e)=nz e (n-e)/\Q (.bl true)
theorem aK4(T:Txt K mg t):aL P w K mg base aS 3 t.QT t.QU ["_law_code","_law_powers_here","_law_three"] (bf (aK3 t P w K mg base)):=by
 refine bD T.RE.F uL ?_ ?_
 ·intro ds Q h
  obtain⟨m,n,e,f,rfl,hm,hn,he,hen,hf,hc,hp,q⟩:=h<;>rfl
 ·intro ax A outer s H E hr
  refine⟨_,(aF (aW (i:=3) uL.nd rfl (ay rfl) (di (bx (bv 2) (aa ak) (λ_ _=>rfl))))
   (aF (aW (i:=4) uL.nd rfl (ay rfl) (di (bx (bv 2) (aa ak) (λ_ _=>rfl))))
   (aF (aW (i:=5) uL.nd rfl (cA rfl) (di (bx (bv 2) (aa ak) (λ_ _=>rfl))))
   (aF (cI (PW.pt (pW (bN (gE (bX hr)) (cV (K:=K) (bv 0)) (bv 3) (bJ _)) (pW (bN (gE (bX hr)) (cV (K:=K) (bv 0)) (bv 4) (bJ _)) (pW (bN (gE (bX hr)) (cV (K:=K) (bv 0)) (bv 5) (bJ _)) (zo (bN (gE (bX hr)) (cV (K:=K) (bv 0)) (aa (au dm (bv 3) (bv 4))) (bJ _))))))) (aC (aV j3)) cO)
   (aF (cI (PW.pt (pW (bN (gE (bX hr)) (aa (ow (P:=P) (w:=w) (K:=K) (mg:=mg) (base:=base) (n:=1) (bv 0) (hr.mono (by decide)))) (aa (au dj (bv 4) (aa ak))) (bJ _)) (zo (bN (gE (bX hr)) (aa (ow (P:=P) (w:=w) (K:=K) (mg:=mg) (base:=base) (n:=1) (bv 0) (hr.mono (by decide)))) (aa (cw7 (uE (aa mD) (uE (aa (FE (bv 3))) (uE (aa mD) (uE (aa (FE (bv 4))) (uE (aa mD) (uE (aa (FE (bv 5))) cA2)))))))) (bJ _))))) (aC (aV j3)) cO)
   (aF (cI (bN (gE (bX hr)) (aa (ow (P:=P) (w:=w) (K:=K) (mg:=mg) (base:=base) (n:=1) (bv 0) (hr.mono (by decide)))) (aa (by8 rfl (by rfl) T.ym (by rfl) T.gR (ai (bv 4) (ai (bv 3) aB)))) (bJ _)) (aC (aV j3)) cO)
   (aF (aW (i:=6) uL.nd rfl (ay rfl) (fF dR))
   (aF (iK fi rfl (kO rfl T.gR (ai (bv 4) aB)) (jz (i:=7) uL.nd rfl (cA rfl))
    (aC (tJ (i:=6) rfl (by first | exact ay rfl | exact cA (ay rfl)) (gM [("_law_powers_here",1),("_law_first",5),("_law_i",7)] ["_law_at"] rfl (kO rfl T.gR (ai (bv 3) aB)) (λ_ _ _ _=>(jm (i:=3) (show(["_law_powers_here","_law_first","_law_i","_law_at"]:List Str).Nodup by decide +kernel))) (λ_ _ _ _=>gD) (λ_ _ _ _=>(di (bx (bv 0) (aa (au cJ (aa (au jD (aa (au dj (bv 1) (bv 2))) (bv 3))) (aa (fc (hJ) (by rfl) T.gQ gy (ai (bv 0) aB))))) (λ_ _=>rfl)))) rfl))))
   (aC (aV (zV (eo (bX hr)) (aa (ow (P:=P) (w:=w) (K:=K) (mg:=mg) (base:=base) (n:=2) (bv 0) (hr.mono (by decide)))) (bv 6) (bJ _)))))))))))),λds Q h=>?_⟩
  obtain⟨m,n,e,f,rfl,hm,hn,he,hen,hf,hc,hp,q⟩:=h
  have BM:=(bZ hm).hi
  have hlen:=(bZ hm).len
  obtain⟨g1,g2,g3⟩:=FI hm f n he
  refine aH λU hU=>?_
  walk_at"l3"
  refine⟨_,rfl,rfl,hU _ ?_⟩
  clear hU U
  refine aH λU hU=>?_
  walk_at"l3"
  refine⟨_,rfl,rfl,hU _ ?_⟩
  clear hU U
  refine aH λU hU=>?_
  walk_at"l3"
  refine⟨_,rfl,rfl,hU _ ?_⟩
  clear hU U
  refine aH λU hU=>?_
  walk_at"l3"
  refine RK T m _ (.gP e f) ⟨rfl,?_⟩
  rw[g3,gF,decide_eq_true rfl,if_neg (by decide)]
  refine⟨_,_,_,_,rfl,T.ff,T.qS,rfl,rfl,?_⟩
  rw[gF,decide_eq_true rfl,if_neg (by decide)]
  refine⟨_,_,_,_,rfl,T.ff,T.uU,rfl,rfl,?_⟩
  rw[gF,decide_eq_true rfl,if_neg (by decide)]
  refine cl1 T m _ (.gP e f) ⟨rfl,?_⟩
  rw[hp,CO,gF,decide_eq_true (by omega),if_neg (by decide)]
  refine hU _ ?_
  clear hU U
  refine aH λU hU=>?_
  walk_at"l3"
  refine⟨_,_,_,Sw t,rfl,⟨T.ff,_,_,_,T.c19,at7 T,T.RA.b⟩,by decide,m,_,e,f,rfl,rfl,?_⟩
  rw[gF,decide_eq_true (by omega),if_neg (by decide)]
  obtain⟨l1,b1⟩:=uY (n:=n) (by omega)
  obtain⟨l2,b2⟩:=uY (n:=e) (by omega)
  obtain⟨l3,b3⟩:=uY (n:=f) (by omega)
  have l0:km.length=0:=rfl
  have l6:(cH "roots ").length=6:=rfl
  have l7:(cH " ").length=1:=rfl
  refine⟨_,_,_,SA t,rfl,⟨T.ff,_,_,_,T.c20,aD3 T,T.RD.b⟩,by decide,m,_,e,f,rfl,by omega,by omega,by omega,?_⟩
  simp only[cl6]
  refine⟨by omega,b1,by omega,by omega,b2,by omega,by omega,b3,by omega,by omega,rfl,?_⟩
  rw[g3,cr4,show ∀z:Str,bE (D.str z) (D.str z)=true from λz=>beq_self_eq_true z,if_neg (by decide)]
  refine hU _ ?_
  clear hU U
  refine aH λU hU=>?_
  walk_at"l3"
  refine RL T T.yj T.yj T.yj (aF8 T) T.Ry.b (by decide) ⟨m,_,.gP e f,rfl,e,n,⟨rfl,rfl⟩,by omega,by omega,AL 5 true _,?_⟩
  rw[hp,(uo true true _ _).trans (decide_eq_true rfl),if_neg (by decide)]
  refine hU _ ?_
  clear hU U
  refine aH λU hU=>?_
  walk_at"l3"
  refine⟨by decide,hU _ ?_⟩
  clear hU U
  refine aH λU hU=>?_
  walk_at"l3"
  refine⟨⟨by omega,by omega⟩,Ab (λi δ=>∃(o1:Option D),δ=[some (gg t m (cW m f (aJ n) e) (.gP e f)),some (D.lst false (aE (fl m))),some (D.tup [D.int n,D.int e,D.int f]),some (D.int n),some (D.int e),some (D.int f),some (.lst true (aQ true (cW m f (aJ n) i))),o1]) ⟨_,rfl⟩ ?_ ?_⟩
  ·rintro i δ hi ⟨o1,rfl⟩
   simp only[gN,l8,lZ]
   clear hU
   walk_at"l3"
   refine⟨⟨_,rfl⟩,⟨by omega,by omega⟩,iN (aJ n) (λ(i:Nat)=>D.int (i:Int)) (λ(p:Nat)=>D.int ((eS m (((f:Int)+(i:Int))*(p:Int)):Nat):Int)) (uq _ rfl) kZ (λp hp=>?_) (.inr λ_ _=>rfl) (by rw[de,sL];omega) ?_⟩
   ·have hp:=dH.mp hp
    have n0:=iY (((f:Int)+(i:Int))*(p:Int)) (show(ae m:Int)-1≠0 by omega)
    have el:(((fl m).length:Nat):Int)=(ae m:Int)-1:=by omega
    walk_at"l3"
    rw[el]
    refine⟨kC.ok (.inl ⟨by omega,by omega⟩),by omega,_,kE (d:=.int (eS m (((f:Int)+(i:Int))*(p:Int)):Nat)) n0 ?_,rfl,rfl⟩
    unfold aE;rw[cP,E2 hm];rfl
   ·refine⟨_,rfl,by rw[mZ,(A6 hm f (aJ n) i).2];omega,some (D.int i),?_⟩
    rw[show cW m f (aJ n) (i+1)=cW m f (aJ n) i++[(aJ n).map λ(p:Nat)=>eS m (((f:Int)+(i:Int))*(p:Int))] by unfold cW;rw[JU,jQ];rfl,<- AO,show((aJ n).map λ(p:Nat)=>D.int ((eS m (((f:Int)+(i:Int))*(p:Int)):Nat):Int))=aA ((aJ n).map λ(p:Nat)=>eS m (((f:Int)+(i:Int))*(p:Int))) by rw[eJ,eH];rfl]
    rfl
  ·rintro δ ⟨o1,rfl⟩
   refine hU _ ?_
   walk_at"l3"
   refine RL T T.yi T.yi T.yi (aG0 T) T.Rz.b (by decide) ⟨m,_,.gP e f,rfl,hc,⟨Fe 4 ..,Fe 4 ..⟩,?_⟩
   rw[(Of true true true true _ _).trans (decide_eq_true rfl)]
   exact q
theorem cC6{m:Bool × Nat}(hm:m∈aq){G:List (List Nat)}(hR:RT (ae m) (aD G) G)(h:G.length<aD G)(hw:aD G<=64):qO m G/\aD G<=(gb m G).length+G.length:=by
 obtain⟨⟨H,I⟩,iR,_⟩:=m3 hm hR
 have f:=I.OI hm iR
 have r:=cg8 hm hR hR λi hi=>by
  rw[aU,aT hi]
  exact cR.of (fh hi)
 unfold gb
 exact⟨⟨hm,hR,by omega,hw,by unfold gb;omega⟩,by omega⟩
theorem BQ(x:Int){M:Int}(h:0<M):∃k:Nat,x%M=k/\(k:Int)<M :=
 ⟨(x%M).toNat,by have:=iY x (show M≠0 by omega);omega,by have:=lY x h;omega⟩
noncomputable def ftx(m:Bool × Nat):Str:=if m.1 then "bits "++toString (m.2:Int)else "prime "++toString (m.2:Int)
theorem SD(T:Txt K mg t){m:Bool × Nat}(hm:m∈aq){Q:D->Prop}(q:Q (.str (ftx m))):∃C ns xs sp,fD t.aN t.aR m=.obj C ns xs/\jf P w K mg base 1 "told" C sp/\("told":Str) ∉ ns/\sp [.obj C ns xs] Q:=by
 have SE:m.2<=127:=(show ∀m∈aq,m.2<=127 by decide) m hm
 obtain⟨k,n⟩:=m
 cases k with
 | true=>exact⟨_,_,_,Sx K,rfl,⟨T.eF,_,_,_,T.aC8,aD2 T,T.RB.b⟩,by decide,_,_,_,n,rfl,T.eF,T.BC,rfl,SE,q⟩
 | false=>exact⟨_,_,_,Sy K,rfl,⟨T.eN,_,_,_,T.ay7,az6 T,T.RC.b⟩,by decide,_,_,_,n,rfl,T.eN,T.nh,rfl,SE,q⟩
theorem cz1(T:Txt K mg t)(hB:Bm mg base):aL P w K mg base aS 11 t.QV t.QW ["_law_script"] (ua [t.jo,t.jq] (bf (Mr ))):=by
 refine EM T.c01.F jn ?_ ?_
 ·intro ds Q h
  obtain⟨ns,rfl,hl,q⟩:=h<;>rfl
 ·intro ax A outer s H E hT hr
  refine⟨_,(aF (aW (i:=1) jn.nd rfl (ay rfl) (cy T.QZ (aJ2 T) hr (ai (aa (cy T.oH (qU T) hr (ai (bv 0) (ai (aa ak) aB)))) aB)))
   (aF (aW (i:=2) jn.nd rfl (ay rfl) (EL hT ((aG9 T hB).mono (by decide)) hr rfl T.Bv.g T.Bv.F.kp T.Bv.b dP (ai (bv 1) aB)))
   (aF (aW (i:=3) jn.nd rfl (ay rfl) (cy T.Bw (HY T) hr (ai (bv 1) aB)))
   (aF (aW (i:=4) jn.nd rfl (ay rfl) (cy T.oH (qU T) hr (ai (bv 0) (ai (aa ak) aB))))
   (aF (aW (i:=5) jn.nd rfl (ay rfl) (au dj (aa ak) (aa (au cJ (aa (cy T.oH (qU T) hr (ai (bv 0) (ai (aa ak) aB)))) (aa (fc (Mn rfl) (by rfl) T.RH Li (ai (aa ak) (ai (aa (au dm (bv 3) (aa ak))) aB))))))))
   (aF (cI (bN (eo (bX hr)) (aa (au cJ (bv 4) (aa ak))) (aa ak) (bJ _)) (aC (aW (i:=5) jn.nd rfl (ay rfl) (au dj (aa ak) (aa (au cJ (aa (cy T.oH (qU T) hr (ai (bv 0) (ai (aa ak) aB)))) (aa (au dm (bv 3) (aa ak)))))))) cO)
   (aF (aW (i:=6) jn.nd rfl (ay rfl) (au dj (aa ak) (aa (au cJ (aa (cy T.oH (qU T) hr (ai (bv 0) (ai (aa ak) aB)))) (aa (fc (Mn rfl) (by rfl) T.RH Li (ai (aa ak) (ai (aa (au dm (bv 5) (aa ak))) aB))))))))
   (aF (aW (i:=7) jn.nd rfl (ay rfl) (au cJ (aa (cy T.oH (qU T) hr (ai (bv 0) (ai (aa ak) aB)))) (aa (au dm (bv 3) (aa ak)))))
   (aF (cI (PW.pt (LO (bN (eo (bX hr)) (aa (au cJ (aa (au jC (bv 4) (aa ak))) (aa ak))) (aa ak) (bJ _)) (Ka (bN (eo (bX hr)) (aa (au cJ (aa (au jC (bv 4) (aa ak))) (aa ak))) (aa ak) (bJ _))))) (aC (aV (EL hT ((Sv T hB).mono (by decide)) hr rfl T.qR.g T.qR.F.kp T.qR.b dP (ai (aa (ES hT T.BD ((RQ T hB).mono (by decide)) hr rfl T.BH T.Hy.b dP (ai (aa ak) aB))) (ai (aa (p5 (cx (au dm (aa ak) (aa (au cJ (aa (au jC (bv 4) (aa ak))) (aa ak)))) (cx ak (cx ak dR))))) aB))))) cO)
   (aF (cI (bN (eo (bX hr)) (aa (au cJ (aa (au jC (bv 4) (aa ak))) (aa ak))) (aa ak) (bJ _)) (aC (aV (EL hT ((Sv T hB).mono (by decide)) hr rfl T.qR.g T.qR.F.kp T.qR.b dP (ai (bv 2) (ai (aa (cy T.Rx (aF6 T) hr (ai (bv 3) (ai (bv 5) (ai (bv 6) (ai (bv 7) (ai (aa (cy T.oH (qU T) hr (ai (bv 0) (ai (aa ak) aB)))) aB))))))) aB))))) cO)
   (aF (cI (bN (eo (bX hr)) (aa (au cJ (aa (au jC (bv 4) (aa ak))) (aa ak))) (aa ak) (bJ _)) (aF (aW (i:=7) jn.nd rfl (ay rfl) ak)
    (aC (aW (i:=8) jn.nd rfl (ay rfl) (b08 hT T.yh ((Sr T hB).mono (by decide)) hr rfl T.yo T.c00 dP (ai (bv 2) (ai (bv 5) (ai (bv 6) aB))))))) (aC (aW (i:=8) jn.nd rfl (ay rfl) (cl5 hT T.yh ((Sr T hB).mono (by decide)) hr rfl T.yo T.Rw dP (ai (bv 2) (ai (bv 5) (ai (bv 6) (ai (bv 7) aB))))))))
   (aF (aW (i:=9) jn.nd rfl (ay rfl) (cy T.Q4 (aF3 T) hr (ai (bv 1) aB)))
   (aF (cI (PW.pt (pW (rW (mF (aa (cy T.RE (aK4 T) hr (ai (bv 8) (ai (bv 9) (ai (aa (p5 (cx (di (bv 5)) (cx (di (bv 6)) (cx (di (bv 7)) dR))))) aB))))))) (zo (bN (gE (bX hr)) (aa (ow (P:=P) (w:=w) (K:=K) (mg:=mg) (base:=base) (n:=1) (cV (K:=K) (bv 8)) (hr.mono (by decide)))) (aa (ow (P:=P) (w:=w) (K:=K) (mg:=mg) (base:=base) (n:=1) (bv 2) (hr.mono (by decide)))) (bJ _))))) (aC (aV j3)) cO)
   (aC (aV (cy T.Rl (aH6 T) hr (ai (bv 8) (ai (bv 1) (ai (bv 9) (ai (aa (p5 (cx (em 5) (cx (em 6) (cx (em 7) dR))))) aB)))))))))))))))))))),λds Q h=>?_⟩
  obtain⟨ns,rfl,hl,q⟩:=h
  refine aH λU hU=>?_
  walk_at"l3"
  refine⟨ns,0,rfl,by decide,_,rfl,λm hm h3=>?_⟩
  refine⟨rfl,hU _ ?_⟩
  clear hU U
  have hF:=bZ hm
  have BM:=hF.hi
  have hbl:=NR m hm
  refine aH λU hU=>?_
  walk_at"l3"
  refine⟨m,rfl,hm,hU _ ?_⟩
  clear hU U
  refine aH λU hU=>?_
  walk_at"l3"
  refine⟨m,rfl,by omega,by omega,hU _ ?_⟩
  clear hU U
  refine aH λU hU=>?_
  walk_at"l3"
  refine⟨ns,1,rfl,by decide,hU _ ?_⟩
  clear hU U
  generalize ns.getD (rp 1) 0=kd
  refine aH λU hU=>?_
  walk_at"l3"
  refine⟨ns,2,rfl,by decide,?_⟩
  dsimp only
  obtain⟨M1,eM,M0,ML⟩:∃M1:Int,(if(ae m:Int)-2<14 then(ae m:Int)-2 else 14)=M1/\0<M1/\M1<=(ae m:Int)-2:=⟨_,rfl,by split<;>omega,by split<;>omega⟩
  rw[eM]
  obtain⟨r1,e1,l1⟩:=BQ (ns.getD (rp 2) 0) M0
  rw[e1]
  refine⟨M0,hU _ ?_⟩
  clear hU U
  refine aH λU hU=>?_
  walk_at"l3"
  have SF:∀n:Nat,2<=n->n+1<=ae m->U [some (D.fz (aE ns)),some (eE m),some (fD t.aN t.aR m),some (D.int (ae m)),some (D.int kd),some (D.int n),none,none,none,none]:=by
   intro n n2 nM
   refine hU _ ?_
   clear hU U
   refine aH λU hU=>?_
   walk_at"l3"
   refine⟨ns,3,rfl,by decide,?_⟩
   dsimp only
   obtain⟨M2,eM,M0,ML⟩:∃M1:Int,(if(n:Int)-1<6 then(n:Int)-1 else 6)=M1/\0<M1/\M1<=(n:Int)-1:=⟨_,rfl,by split<;>omega,by split<;>omega⟩
   rw[eM]
   obtain⟨r1,e1,l1⟩:=BQ (ns.getD (rp 3) 0) M0
   rw[e1,show(1:Int)+(r1:Int)=((r1+1:Nat):Int) by omega]
   refine⟨M0,hU _ ?_⟩
   clear hU U
   obtain⟨e,he⟩:∃e,r1+1=e:=⟨_,rfl⟩
   rw[he]
   refine aH λU hU=>?_
   walk_at"l3"
   refine⟨ns,4,rfl,by decide,?_⟩
   dsimp only
   obtain⟨f,ef,lf⟩:=BQ (ns.getD (rp 4) 0) (show 0<(ae m:Int)-1 by omega)
   rw[ef]
   refine⟨by omega,hU _ ?_⟩
   clear hU U
   refine aH λU hU=>?_
   walk_at"l3"
   refine⟨jB (by decide) (by decide),by decide,?_⟩
   have nG:U [some (D.fz (aE ns)),some (eE m),some (fD t.aN t.aR m),some (D.int (ae m)),some (D.int kd),some (D.int n),some (D.int e),some (D.int f),none,none]:=by
    refine hU _ ?_
    clear hU U
    refine aH λU hU=>?_
    walk_at"l3"
    refine⟨jB (by decide) (by decide),by decide,?_⟩
    split
    ·refine⟨ns,5,rfl,by decide,_,_,_,_,_,rfl,by unfold iW;omega,λn' e' f' hk=>?_⟩
     exact⟨rfl,m,n',e',f',rfl,hk,rfl,q⟩
    refine hU _ ?_
    clear hU U
    refine aH λU hU=>?_
    walk_at"l3"
    refine⟨jB (by decide) (by decide),by decide,?_⟩
    have vJ:∀(f:Nat) (x:Option D),f+2<=ae m->x=some (D.obj t.bh (["extra","first","field","length","check_rows","word_rows","message_places","size"]:List Str) (([D.int e,D.int f]++m4 t.aN t.aR true m (cW m f (aJ n) e)).map D.sh))->U [some (D.fz (aE ns)),some (eE m),some (fD t.aN t.aR m),some (D.int (ae m)),some (D.int kd),some (D.int n),some (D.int e),some (D.int f),x,none]:=by
     clear ef lf f
     intro f x hf hx
     rw[hx,jQ,bY9]
     obtain⟨g1,g2,g3⟩:=FI hm f n (show 1<=e by omega)
     have g4:RT (ae m) (aD (cW m f (aJ n) e)) (cW m f (aJ n) e):=by rw[g3];exact g1
     obtain⟨cG,sz⟩:=cC6 hm g4 (by omega) (by omega)
     have aG:=cf5 hm (f:=f) (e:=e) (n:=n) (by omega) g3
     have hp:=bZ6 cG aG (by omega) (by omega)
     rw[g3]at hp
     show U [some (D.fz (aE ns)),some (eE m),some (fD t.aN t.aR m),some (D.int (ae m)),some (D.int kd),some (D.int n),some (D.int e),some (D.int f),some (gg t m (cW m f (aJ n) e) (.gP e f)),none]
     refine hU _ ?_
     clear hU U
     refine aH λU hU=>?_
     walk_at"l3"
     refine⟨m,rfl,hm,hU _ ?_⟩
     clear hU U
     refine aH λU hU=>?_
     walk_at"l3"
     rw[FG]
     refine⟨by decide,m,n,e,f,rfl,hm,by omega,by omega,by omega,by omega,cG,hp,by rw[show(D.bl true).fr=true from rfl,l9],true,rfl,?_⟩
     rw[if_neg (by decide)]
     refine HV T m _ (.gP e f) ?_
     refine SD T hm ?_
     refine SD T hm ⟨⟨rfl,rfl⟩,?_⟩
     rw[show ∀z:Str,bE (D.str z) (D.str z)=true from λz=>beq_self_eq_true z,if_neg (by decide)]
     refine hU _ ?_
     clear hU U
     walk_at"l3"
     rw[FG]
     exact⟨by decide,m,_,n,e,f,rfl,hm,by omega,by omega,by omega,by rw[show(D.bl true).fr=true from rfl,l9],q⟩
    split
    ·refine aH λV hV=>?_
     walk_at"l3"
     refine hV _ ?_
     clear hV V
     walk_at"l3"
     refine⟨_,_,⟨m,n,e,1,rfl,hm,by omega,by omega,by omega,by omega,by omega,rfl,rfl⟩,?_⟩
     exact vJ 1 _ (by omega) rfl
    ·refine⟨_,_,⟨m,n,e,f,rfl,hm,by omega,by omega,by omega,by omega,by omega,rfl,rfl⟩,?_⟩
     exact vJ f _ (by omega) rfl
   split
   ·refine⟨jB (by decide) (by decide),by decide,?_⟩
    split
    ·have h2:((false,2):Bool × Nat)∈aq:=by decide
     refine⟨_,_,⟨2,rfl,NP h2,rfl,rfl⟩,jB (by decide) (by decide),by decide,by decide,?_⟩
     rw[NO]
     exact⟨_,_,_,_,rfl,by rw[show ae (false,2)=2 by decide];unfold iW;omega,q⟩
    ·exact nG
   ·exact nG
  refine⟨by decide,?_⟩
  split
  ·refine⟨ns,2,rfl,by decide,?_⟩
   dsimp only
   obtain⟨r2,e2,l2⟩:=BQ (ns.getD (rp 2) 0) (show 0<(ae m:Int)-2 by omega)
   rw[e2]
   refine⟨by omega,?_⟩
   exact SF (2+r2) (by omega) (by omega)
  ·exact SF (2+r1) (by omega) (by omega)
end
set_option maxHeartbeats 0 in
theorem all_mk{l:PySem.W.OpenLaw}{w:World}{K:Frag}{h:Heap}{mg:Str->Option Value}{fa:Addr}{ts:List Addr}(X:K.In h)(G:h.Ns mainGlobals mg)(hfa:mg "law"=some (.ref fa))
  {od7 an7:Option Addr} {sl7:Array (Option Value)} {oc7 kV7 dc7 pm7 ct7:Value} {f7:Addr}
  {yw jo:Addr} {az7:Option Addr} {az8:Array (Option Value)} {SG:Array Value} {az9:Value}
  {dg3 dg4:Option Addr} {dg5:Array (Option Value)} {dg6 dg7 dg8 dg9 dh0:Value} {yx:Addr}
  {yy jq:Addr} {aD4:Option Addr} {aD5:Array (Option Value)} {SH:Array Value} {aD6:Value}
  {dh4 Ij:Option Addr} {dh5:Array (Option Value)} {dh6 Ik Il Im BR Io:Value} {yz:Addr}
  {BS:Addr} {dh7:Value} {dh8:Tok} {dh9:Option Addr} {di0:Array (Option Value)} {di1:Nat}
  {di2 SI:Option Addr} {di3:Array (Option Value)} {di4 SJ SK SM Ip SN:Value} {Iq:Addr}
  {f0 f1 f2 f3 f4 f5 f6 f8 f9 Ir Iu mJ Iw Iy Iz IA IB IC BU BV BW BX wt BY BZ ID IE B0 IF IG IH II IJ B4 B5 B6 B7 IK uZ IL IM IQ IS IT yA IU IV IW yB yC B8 B9 Ca Cb IY:Addr} {fd0 fd1 fd2 fd3 fd4 fd5 fd6 fd8 fd9 dj4 dj5 dj6 dj7 dj8 dj9 dk0 dk1 dk2 dk3 dk4 dk5 dk6 dk7 dk8 dk9 dl0 dl1 dl2 dl3 dl4 dl5 dl6 dl7 dl8 dl9 dm0 dm1 dm2 dm3 dm4 dm5 dm6 dm7 dm8 dm9 dn0 dn1 dn2 dn3 dn4 dn5 dn6 dn7 dn8 dn9:FuncData}
  {aN dG kh ki iS da iT aR bh:Addr}
  (HN:nsIn K mainGlobals "BitField"=some (some (.ref aN)))
  (HP:nsIn K mainGlobals "ByNought"=some (some (.ref dG)))
  (HQ:nsIn K mainGlobals "Code"=some (some (.ref kh)))
  (BF:nsIn K mainGlobals "Field"=some (some (.ref ki)))
  (HR:nsIn K mainGlobals "MendError"=some (some (.ref iS)))
  (BG:nsIn K mainGlobals "NoCode"=some (some (.ref da)))
  (HS:nsIn K mainGlobals "NoField"=some (some (.ref iT)))
  (BH:nsIn K mainGlobals "PrimeField"=some (some (.ref aR)))
  (yo:nsIn K mainGlobals "RootCode"=some (some (.ref bh)))
  (a0:nsIn K mainGlobals "_law_told"=some (some (.ref f0)))
  (a1:nsIn K mainGlobals "powers_of"=some (some (.ref f1)))
  (a2:nsIn K mainGlobals "step_powers"=some (some (.ref f2)))
  (a3:nsIn K mainGlobals "logs_of"=some (some (.ref f3)))
  (a4:findIn K (.ref ki) "step_power"=some (some (.ref f4)))
  (SO:isFn K (.ref f4)=true)
  (a5:findIn K (.ref ki) "__init__"=some (some (.ref f5)))
  (mf5:isFn K (.ref f5)=true)
  (a6:nsIn K mainGlobals "makes_prime_field"=some (some (.ref f6)))
  (a7:findIn K (.ref aR) "__init__"=some (some (.ref f7)))
  (mf7:isFn K (.ref f7)=true)
  (a8:nsIn K mainGlobals "product_rows"=some (some (.ref f8)))
  (a9:nsIn K mainGlobals "bits_divided"=some (some (.ref f9)))
  (a10:nsIn K mainGlobals "stands_alone"=some (some (.ref Ir)))
  (a11:nsIn K mainGlobals "makes_bit_field"=some (some (.ref Iu)))
  (a12:nsIn K mainGlobals "bits_times"=some (some (.ref mJ)))
  (a13:findIn K (.ref aN) "__init__"=some (some (.ref yx)))
  (do5:isFn K (.ref yx)=true)
  (a14:nsIn K mainGlobals "_law_field"=some (some (.ref Iw)))
  (a15:nsIn K mainGlobals "_law_many"=some (some (.ref Iy)))
  (a16:nsIn K mainGlobals "_law_cell"=some (some (.ref Iz)))
  (a17:nsIn K mainGlobals "_law_times"=some (some (.ref IA)))
  (a18:nsIn K mainGlobals "_law_powers"=some (some (.ref IB)))
  (a19:nsIn K mainGlobals "trimmed"=some (some (.ref IC)))
  (a20:findIn K (.ref aN) "plus"=some (some (.ref BU)))
  (dp3:isFn K (.ref BU)=true)
  (a21:findIn K (.ref aR) "plus"=some (some (.ref BV)))
  (dp5:isFn K (.ref BV)=true)
  (a22:findIn K (.ref aN) "times"=some (some (.ref BW)))
  (dp7:isFn K (.ref BW)=true)
  (a23:findIn K (.ref aR) "times"=some (some (.ref BX)))
  (dp9:isFn K (.ref BX)=true)
  (a24:nsIn K mainGlobals "poly_times"=some (some (.ref wt)))
  (a25:findIn K (.ref aN) "minus"=some (some (.ref BY)))
  (dq2:isFn K (.ref BY)=true)
  (a26:findIn K (.ref aR) "minus"=some (some (.ref BZ)))
  (dq4:isFn K (.ref BZ)=true)
  (a27:nsIn K mainGlobals "less_root"=some (some (.ref ID)))
  (a28:nsIn K mainGlobals "by_roots"=some (some (.ref IE)))
  (a29:findIn K (.ref bh) "maker"=some (some (.ref B0)))
  (dq8:isFn K (.ref B0)=true)
  (a30:nsIn K mainGlobals "_law_plus"=some (some (.ref IF)))
  (a31:nsIn K mainGlobals "_law_value"=some (some (.ref IG)))
  (a32:nsIn K mainGlobals "_law_maker"=some (some (.ref IH)))
  (a33:nsIn K mainGlobals "width_of"=some (some (.ref II)))
  (a34:nsIn K mainGlobals "first_with"=some (some (.ref IJ)))
  (a35:findIn K (.ref aN) "scaled"=some (some (.ref B4)))
  (dr5:isFn K (.ref B4)=true)
  (a36:findIn K (.ref aR) "scaled"=some (some (.ref B5)))
  (dr7:isFn K (.ref B5)=true)
  (a37:findIn K (.ref aN) "lessened"=some (some (.ref B6)))
  (dr9:isFn K (.ref B6)=true)
  (a38:findIn K (.ref aR) "lessened"=some (some (.ref B7)))
  (ds1:isFn K (.ref B7)=true)
  (a39:nsIn K mainGlobals "cleared"=some (some (.ref IK)))
  (a40:findIn K (.ref ki) "over"=some (some (.ref uZ)))
  (SQ:isFn K (.ref uZ)=true)
  (a41:nsIn K mainGlobals "reduced"=some (some (.ref IL)))
  (a42:nsIn K mainGlobals "copied"=some (some (.ref IM)))
  (a43:nsIn K mainGlobals "leads"=some (some (.ref IQ)))
  (a44:nsIn K mainGlobals "free_places"=some (some (.ref IS)))
  (a45:nsIn K mainGlobals "kernel_of_reduced"=some (some (.ref IT)))
  (a46:findIn K (.ref kh) "__init__"=some (some (.ref yA)))
  (dJ1:isFn K (.ref yA)=true)
  (a47:nsIn K mainGlobals "makes_root_code"=some (some (.ref IU)))
  (a48:findIn K (.ref bh) "__init__"=some (some (.ref yz)))
  (dt0:isFn K (.ref yz)=true)
  (a49:nsIn K mainGlobals "_law_refused"=some (some (.ref IV)))
  (a50:nsIn K mainGlobals "_law_spoilt"=some (some (.ref IW)))
  (a51:findIn K (.ref kh) "places"=some (some (.ref yB)))
  (dt3:isFn K (.ref yB)=true)
  (a52:findIn K (.ref kh) "checks"=some (some (.ref yC)))
  (dt4:isFn K (.ref yC)=true)
  (a53:findIn K (.ref bh) "distance"=some (some (.ref B8)))
  (dt6:isFn K (.ref B8)=true)
  (a54:findIn K (.ref aN) "told"=some (some (.ref B9)))
  (dt8:isFn K (.ref B9)=true)
  (a55:findIn K (.ref aR) "told"=some (some (.ref Ca)))
  (du0:isFn K (.ref Ca)=true)
  (a56:findIn K (.ref bh) "told"=some (some (.ref Cb)))
  (du2:isFn K (.ref Cb)=true)
  (a57:nsIn K mainGlobals "_law_made"=some (some (.ref IY)))
  (SR:nsIn K mainGlobals "law"=some (some (.ref Iq)))
  (aL7:plainGet K aN km=true)
  (aL8:hasDictIn K aN=true)
  (aL9:plainOver K aN=true)
  (aM0:findIn K (.ref aN) "__setattr__"=some (some (.builtin "object.__setattr__")))
  (HD:makesIn K aN=true)
  (aM1:keepIn K (.ref aN)=true)
  (BC:findIn K (.ref aN) "bits"=some none)
  (uN:findIn K (.ref aN) "logs"=some none)
  (uO:findIn K (.ref aN) "many"=some none)
  (uP:findIn K (.ref aN) "powers"=some none)
  (uQ:findIn K (.ref aN) "products"=some none)
  (HE:findIn K (.ref aN) "step"=some none)
  (HF:findIn K (.ref aN) "wide"=some none)
  (HG:findIn K (.ref aN) "over"=some (some (.ref uZ)))
  (yd:findIn K (.ref aN) "step_power"=some (some (.ref f4)))
  (aH9:plainGet K aR km=true)
  (aI0:hasDictIn K aR=true)
  (aI1:plainOver K aR=true)
  (aI2:findIn K (.ref aR) "__setattr__"=some (some (.builtin "object.__setattr__")))
  (BD:makesIn K aR=true)
  (aI3:keepIn K (.ref aR)=true)
  (ye:findIn K (.ref aR) "logs"=some none)
  (uR:findIn K (.ref aR) "many"=some none)
  (yf:findIn K (.ref aR) "powers"=some none)
  (nh:findIn K (.ref aR) "prime"=some none)
  (HH:findIn K (.ref aR) "step"=some none)
  (HI:findIn K (.ref aR) "wide"=some none)
  (HJ:findIn K (.ref aR) "over"=some (some (.ref uZ)))
  (yg:findIn K (.ref aR) "step_power"=some (some (.ref f4)))
  (dv4:plainGet K bh km=true)
  (dv5:hasDictIn K bh=true)
  (dv6:plainOver K bh=true)
  (dv7:findIn K (.ref bh) "__setattr__"=some (some (.builtin "object.__setattr__")))
  (yh:makesIn K bh=true)
  (dv8:keepIn K (.ref bh)=true)
  (uS:findIn K (.ref bh) "check_rows"=some none)
  (qS:findIn K (.ref bh) "extra"=some none)
  (uT:findIn K (.ref bh) "field"=some none)
  (uU:findIn K (.ref bh) "first"=some none)
  (uV:findIn K (.ref bh) "length"=some none)
  (uW:findIn K (.ref bh) "message_places"=some none)
  (uX:findIn K (.ref bh) "size"=some none)
  (HK:findIn K (.ref bh) "word_rows"=some none)
  (yi:findIn K (.ref bh) "checks"=some (some (.ref yC)))
  (yj:findIn K (.ref bh) "places"=some (some (.ref yB)))
  (dv9:specialIn K (.ref kh) "__getattribute__"=some (some (.builtin "type.__getattribute__")))
  (dw0:PySem.W.readsIn K kh (.type "type")=true)
  (dw1:PySem.W.findCls K (.ref kh) (.type "type") "__init__"=some (.val (.ref yA)))
  (aI4:specialIn K (.ref ki) "__getattribute__"=some (some (.builtin "type.__getattribute__")))
  (aI5:PySem.W.readsIn K ki (.type "type")=true)
  (aI6:PySem.W.findCls K (.ref ki) (.type "type") "__init__"=some (.val (.ref f5)))
  (dw5:nsIn K mainGlobals "ValueError"=some none)
  (dw6:nsIn K mainGlobals "all"=some none)
  (dw7:nsIn K mainGlobals "enumerate"=some none)
  (dw8:nsIn K mainGlobals "isinstance"=some none)
  (dw9:nsIn K mainGlobals "len"=some none)
  (dx0:nsIn K mainGlobals "list"=some none)
  (dx1:nsIn K mainGlobals "min"=some none)
  (dx2:nsIn K mainGlobals "range"=some none)
  (dx3:nsIn K mainGlobals "str"=some none)
  (dx4:nsIn K mainGlobals "zip"=some none)
  (aO6:typeIn K (.ref dG)=some (.type "type"))
  (IZ:typeIn K (.ref iS)=some (.type "type"))
  (SS:typeIn K (.ref da)=some (.type "type"))
  (I0:typeIn K (.ref iT)=some (.type "type"))
  (SU:subIn K (.ref da) (.type "BaseException")=some true)
  (aK5:findIn K (.ref dG) "__getattribute__"=some (some (.builtin "BaseException.__getattribute__")))
  (aK6:findIn K (.ref dG) "__getattr__"=some none)
  (aK7:findIn K (.ref dG) "__class__"=some (some (.builtin "object.__class__")))
  (aK8:specialIn K (.builtin "object.__class__") "__get__"=some (some (.builtin "getset_descriptor.__get__")))
  (aK9:PySem.W.takesIn K (.builtin "object.__class__")=some true)
  (aL0:mroIn K dG (.type "object")=some true)
  (aL1:mroIn K dG (.type "BaseException")=some true)
  (as1:subIn K (.ref dG) (.ref iS)=some true)
  (aw2:subIn K (.ref dG) (.ref iT)=some false)
  (aA0:subIn K (.ref dG) (.ref da)=some false)
  (aM2:subIn K (.ref dG) (.type "ValueError")=some true)
  (dy6:findIn K (.ref da) "__getattribute__"=some (some (.builtin "BaseException.__getattribute__")))
  (dy7:findIn K (.ref da) "__getattr__"=some none)
  (dy8:findIn K (.ref da) "__class__"=some (some (.builtin "object.__class__")))
  (dy9:specialIn K (.builtin "object.__class__") "__get__"=some (some (.builtin "getset_descriptor.__get__")))
  (dz0:PySem.W.takesIn K (.builtin "object.__class__")=some true)
  (dz1:mroIn K da (.type "object")=some true)
  (dz2:mroIn K da (.type "BaseException")=some true)
  (aw3:subIn K (.ref da) (.ref iS)=some true)
  (aB1:subIn K (.ref da) (.ref iT)=some false)
  (dz5:subIn K (.ref da) (.ref da)=some true)
  (dz6:subIn K (.ref da) (.type "ValueError")=some true)
  (aL2:subIn K (.type "NoneType") (.ref iS)=some false)
  (aN5:subIn K (.type "NoneType") (.ref iT)=some false)
  (F0:aZ K "_law_told" "_law_told" FN f0 fd0)
  (F1:aZ K "powers_of" "powers_of" FQ f1 fd1)
  (F2:aZ K "step_powers" "step_powers" FR f2 fd2)
  (F3:aZ K "logs_of" "logs_of" FT f3 fd3)
  (F4:aZ K "step_power" "Field.step_power" FV f4 fd4)
  (F5:aZ K "__init__" "Field.__init__" FW f5 fd5)
  (F6:aZ K "makes_prime_field" "makes_prime_field" FX f6 fd6)
  (F8:aZ K "product_rows" "product_rows" FY f8 fd8)
  (F9:aZ K "bits_divided" "bits_divided" FZ f9 fd9)
  (SV:aZ K "stands_alone" "stands_alone" Ga Ir dj4)
  (SW:aZ K "makes_bit_field" "makes_bit_field" Gd Iu dj5)
  (SX:aZ K "bits_times" "bits_times" Ge mJ dj6)
  (SY:aZ K "_law_field" "_law_field" Gf Iw dj7)
  (S0:aZ K "_law_many" "_law_many" Gg Iy dj8)
  (S1:aZ K "_law_cell" "_law_cell" Gh Iz dj9)
  (S2:aZ K "_law_times" "_law_times" Gi IA dk0)
  (S3:aZ K "_law_powers" "_law_powers" Gj IB dk1)
  (S4:aZ K "trimmed" "trimmed" Gm IC dk2)
  (Ja:aZ K "plus" "BitField.plus" Gq BU dk3)
  (Jb:aZ K "plus" "PrimeField.plus" Gr BV dk4)
  (Jc:aZ K "times" "BitField.times" Gs BW dk5)
  (Jd:aZ K "times" "PrimeField.times" Gu BX dk6)
  (S5:aZ K "poly_times" "poly_times" Gv wt dk7)
  (Je:aZ K "minus" "BitField.minus" Gw BY dk8)
  (Jf:aZ K "minus" "PrimeField.minus" Gx BZ dk9)
  (S6:aZ K "less_root" "less_root" Gy ID dl0)
  (S7:aZ K "by_roots" "by_roots" Gz IE dl1)
  (Jg:aZ K "maker" "RootCode.maker" GA B0 dl2)
  (S8:aZ K "_law_plus" "_law_plus" GB IF dl3)
  (S9:aZ K "_law_value" "_law_value" GC IG dl4)
  (Ta:aZ K "_law_maker" "_law_maker" GD IH dl5)
  (Tc:aZ K "width_of" "width_of" GF II dl6)
  (Td:aZ K "first_with" "first_with" GG IJ dl7)
  (Jh:aZ K "scaled" "BitField.scaled" GH B4 dl8)
  (Ji:aZ K "scaled" "PrimeField.scaled" GI B5 dl9)
  (Jj:aZ K "lessened" "BitField.lessened" GJ B6 dm0)
  (Jk:aZ K "lessened" "PrimeField.lessened" GK B7 dm1)
  (Te:aZ K "cleared" "cleared" GL IK dm2)
  (Cc:aZ K "over" "Field.over" GN uZ dm3)
  (Tf:aZ K "reduced" "reduced" GO IL dm4)
  (Tg:aZ K "copied" "copied" GP IM dm5)
  (Th:aZ K "leads" "leads" GQ IQ dm6)
  (Ti:aZ K "free_places" "free_places" GR IS dm7)
  (Tj:aZ K "kernel_of_reduced" "kernel_of_reduced" GS IT dm8)
  (Jl:aZ K "__init__" "Code.__init__" GU yA dm9)
  (Tn:aZ K "makes_root_code" "makes_root_code" GV IU dn0)
  (To:aZ K "_law_refused" "_law_refused" GX IV dn1)
  (Tp:aZ K "_law_spoilt" "_law_spoilt" GY IW dn2)
  (Jm:aZ K "places" "Code.places" GZ yB dn3)
  (Jn:aZ K "checks" "Code.checks" G0 yC dn4)
  (Jo:aZ K "distance" "RootCode.distance" G1 B8 dn5)
  (Jp:aZ K "told" "BitField.told" G2 B9 dn6)
  (Jq:aZ K "told" "PrimeField.told" G3 Ca dn7)
  (Jr:aZ K "told" "RootCode.told" G4 Cb dn8)
  (Tq:aZ K "_law_made" "_law_made" G5 IY dn9)
  (l7:K.lookup f7=some ⟨oc7,od7,.func (fnOf "__init__" "PrimeField.__init__" (gw m5) (eD m5) (aK m5) .none kV7 dc7 pm7 an7 (.ref yw) ct7),sl7⟩)
  (c7:codeIn K (.ref yw) "PrimeField.__init__"=true)
  (k7:keepIn K (.ref f7)=true)
  (aN9:K.lookup yw=some ⟨az9,az7,.fields SG,az8⟩)
  (aO0:SG[11]?=some (.ref jo))
  (aA1:codeHdIn K yw jo=true)
  (l13:K.lookup yx=some ⟨dg6,dg3,.func (fnOf "__init__" "BitField.__init__" (gw m6) (eD m6) (aK m6) .none dg7 dg8 dg9 dg4 (.ref yy) dh0),dg5⟩)
  (c13:codeIn K (.ref yy) "BitField.__init__"=true)
  (k13:keepIn K (.ref yx)=true)
  (aO3:K.lookup yy=some ⟨aD6,aD4,.fields SH,aD5⟩)
  (aO4:SH[11]?=some (.ref jq))
  (aD7:codeHdIn K yy jq=true)
  (l48:K.lookup yz=some ⟨dh6,dh4,.func (fnOf "__init__" "RootCode.__init__" (gw jK) (eD jK) (aK jK) (.ref BS) Ik Il Im Ij BR Io),dh5⟩)
  (Tr:K.lookup BS=some ⟨dh7,dh9,.seq #[.int 1 dh8] di1,di0⟩)
  (c48:codeIn K BR "RootCode.__init__"=true)
  (k48:keepIn K (.ref yz)=true)
  (l58:K.lookup Iq=some ⟨di4,di2,.func (fnOf "law" "law" (gw m9) (eD m9) (aK m9) .none SJ SK SM SI Ip SN),di3⟩)
  (c58:codeIn K Ip "law"=true)
  (k58:keepIn K (.ref Iq)=true)
  (aM3:(clsIn K dG).isSome=true)
  (Js:(clsIn K iS).isSome=true)
  (Jt:(clsIn K da).isSome=true)
  (Ju:(clsIn K iT).isSome=true)
  (aM4:PySem.W.excIn K dG [.type "ValueError",.type "Exception",.type "BaseException",.type "object"] "ValueError.__new__"=true)
  (as2:(cj dG==cj iS)=false)
  (aw4:(cj dG==cj iT)=false)
  (dB4:PySem.W.excIn K da [.type "ValueError",.type "Exception",.type "BaseException",.type "object"] "ValueError.__new__"=true)
  (aw5:(cj da==cj iS)=false)
  (aB2:(cj da==cj iT)=false)
  (nl:K.all (λp=>Eh p.2)=true)
  (sub:∀P∈[jo,jq],P∈ts) :
  ∃fd:FuncData,(∀(s:Shared) (v:Value),BindsTo s fd ⟨[v],[]⟩ [("_law_script",v)])/\∀base:Heap,K.In base->base.Ns mainGlobals mg->Bm mg base->aL l.prog w K mg base aS 11 fa fd ["_law_script"] (Al ts K):=by
 have e:=hfa.symm.trans (mg_of X G SR)
 cases e
 have F7:=zN (st:=m5) l7 c7 k7
 have b7:=F7.binds (ps:=["self","prime"]) λ_ _ _ _ _ _=>gO (λ_ _=>rfl)
 have Ts:=zN (st:=m6) l13 c13 k13
 have b13:=Ts.binds (ps:=["self","bits"]) λ_ _ _ _ _ _=>gO (λ_ _=>rfl)
 have F48:=cd9 (st:=jK) l48 c48 k48
 have b48:=ct9 (ps:=["self","field","length","extra","first"]) (fd:=fnOf "__init__" "RootCode.__init__" (gw jK) (eD jK) (aK jK) (.ref BS) Ik Il Im Ij BR Io) rfl Tr rfl (OL (λ_ _ _ _ _=>⟨_,rfl,rfl⟩))
 have d48:=cm7 (ps:=["self","field","length","extra","first"]) (fd:=fnOf "__init__" "RootCode.__init__" (gw jK) (eD jK) (aK jK) (.ref BS) Ik Il Im Ij BR Io) rfl Tr rfl rfl (qL (λ_ _ _ _=>⟨_,rfl,rfl⟩))
 have Tt:=zN (st:=m9) l58 c58 k58
 have b58:=Tt.binds (ps:=["_law_script"]) λ_ _ _ _ _ _=>eW (λ_=>rfl)
 have T:Txt K mg ⟨f0,_,f1,_,f2,_,f3,_,f4,_,f5,_,f6,_,f7,_,f8,_,f9,_,Ir,_,Iu,_,mJ,_,yx,_,Iw,_,Iy,_,Iz,_,IA,_,IB,_,IC,_,BU,_,BV,_,BW,_,BX,_,wt,_,BY,_,BZ,_,ID,_,IE,_,B0,_,IF,_,IG,_,IH,_,II,_,IJ,_,B4,_,B5,_,B6,_,B7,_,IK,_,uZ,_,IL,_,IM,_,IQ,_,IS,_,IT,_,yA,_,IU,_,yz,_,IV,_,IW,_,yB,_,yC,_,B8,_,B9,_,Ca,_,Cb,_,IY,_,fa,_,yw,jo,yy,jq,aN,dG,kh,ki,iS,da,iT,aR,bh⟩:=⟨⟨F0,mg_of X G a0,F0.binds λ_ _ _ _ _ _=>eW λ_=>rfl⟩,⟨F1,mg_of X G a1,F1.binds λ_ _ _ _ _ _=>gO λ_ _=>rfl⟩,⟨F2,mg_of X G a2,F2.binds λ_ _ _ _ _ _=>gO λ_ _=>rfl⟩,⟨F3,mg_of X G a3,F3.binds λ_ _ _ _ _ _=>eW λ_=>rfl⟩,⟨F4,F4.binds λ_ _ _ _ _ _=>gO λ_ _=>rfl⟩,⟨F5,F5.binds λ_ _ _ _ _ _=>fK λ_ _ _=>rfl⟩,⟨F6,mg_of X G a6,F6.binds λ_ _ _ _ _ _=>eW λ_=>rfl⟩,⟨F7,b7⟩,⟨F8,mg_of X G a8,F8.binds λ_ _ _ _ _ _=>gO λ_ _=>rfl⟩,⟨F9,mg_of X G a9,F9.binds λ_ _ _ _ _ _=>gO λ_ _=>rfl⟩,⟨SV,mg_of X G a10,SV.binds λ_ _ _ _ _ _=>eW λ_=>rfl⟩,⟨SW,mg_of X G a11,SW.binds λ_ _ _ _ _ _=>eW λ_=>rfl⟩,⟨SX,mg_of X G a12,SX.binds λ_ _ _ _ _ _=>gO λ_ _=>rfl⟩,⟨Ts,b13⟩,⟨SY,mg_of X G a14,SY.binds λ_ _ _ _ _ _=>eW λ_=>rfl⟩,⟨S0,mg_of X G a15,S0.binds λ_ _ _ _ _ _=>eW λ_=>rfl⟩,⟨S1,mg_of X G a16,S1.binds λ_ _ _ _ _ _=>gO λ_ _=>rfl⟩,⟨S2,mg_of X G a17,S2.binds λ_ _ _ _ _ _=>fK λ_ _ _=>rfl⟩,⟨S3,mg_of X G a18,S3.binds λ_ _ _ _ _ _=>eW λ_=>rfl⟩,⟨S4,mg_of X G a19,S4.binds λ_ _ _ _ _ _=>eW λ_=>rfl⟩,⟨Ja,Ja.binds λ_ _ _ _ _ _=>fK λ_ _ _=>rfl⟩,⟨Jb,Jb.binds λ_ _ _ _ _ _=>fK λ_ _ _=>rfl⟩,⟨Jc,Jc.binds λ_ _ _ _ _ _=>fK λ_ _ _=>rfl⟩,⟨Jd,Jd.binds λ_ _ _ _ _ _=>fK λ_ _ _=>rfl⟩,⟨S5,mg_of X G a24,S5.binds λ_ _ _ _ _ _=>fK λ_ _ _=>rfl⟩,⟨Je,Je.binds λ_ _ _ _ _ _=>fK λ_ _ _=>rfl⟩,⟨Jf,Jf.binds λ_ _ _ _ _ _=>fK λ_ _ _=>rfl⟩,⟨S6,mg_of X G a27,S6.binds λ_ _ _ _ _ _=>gO λ_ _=>rfl⟩,⟨S7,mg_of X G a28,S7.binds λ_ _ _ _ _ _=>gO λ_ _=>rfl⟩,⟨Jg,Jg.binds λ_ _ _ _ _ _=>eW λ_=>rfl⟩,⟨S8,mg_of X G a30,S8.binds λ_ _ _ _ _ _=>fK λ_ _ _=>rfl⟩,⟨S9,mg_of X G a31,S9.binds λ_ _ _ _ _ _=>fK λ_ _ _=>rfl⟩,⟨Ta,mg_of X G a32,Ta.binds λ_ _ _ _ _ _=>qL λ_ _ _ _=>rfl⟩,⟨Tc,mg_of X G a33,Tc.binds λ_ _ _ _ _ _=>eW λ_=>rfl⟩,⟨Td,mg_of X G a34,Td.binds λ_ _ _ _ _ _=>gO λ_ _=>rfl⟩,⟨Jh,Jh.binds λ_ _ _ _ _ _=>fK λ_ _ _=>rfl⟩,⟨Ji,Ji.binds λ_ _ _ _ _ _=>fK λ_ _ _=>rfl⟩,⟨Jj,Jj.binds λ_ _ _ _ _ _=>qL λ_ _ _ _=>rfl⟩,⟨Jk,Jk.binds λ_ _ _ _ _ _=>qL λ_ _ _ _=>rfl⟩,⟨Te,mg_of X G a39,Te.binds λ_ _ _ _ _ _=>qL λ_ _ _ _=>rfl⟩,⟨Cc,Cc.binds λ_ _ _ _ _ _=>fK λ_ _ _=>rfl⟩,⟨Tf,mg_of X G a41,Tf.binds λ_ _ _ _ _ _=>gO λ_ _=>rfl⟩,⟨Tg,mg_of X G a42,Tg.binds λ_ _ _ _ _ _=>eW λ_=>rfl⟩,⟨Th,mg_of X G a43,Th.binds λ_ _ _ _ _ _=>eW λ_=>rfl⟩,⟨Ti,mg_of X G a44,Ti.binds λ_ _ _ _ _ _=>gO λ_ _=>rfl⟩,⟨Tj,mg_of X G a45,Tj.binds λ_ _ _ _ _ _=>fK λ_ _ _=>rfl⟩,⟨Jl,Jl.binds λ_ _ _ _ _ _=>fK λ_ _ _=>rfl⟩,⟨Tn,mg_of X G a47,Tn.binds λ_ _ _ _ _ _=>qL λ_ _ _ _=>rfl⟩,F48,b48,d48,⟨To,mg_of X G a49,To.binds λ_ _ _ _ _ _=>gO λ_ _=>rfl⟩,⟨Tp,mg_of X G a50,Tp.binds λ_ _ _ _ _ _=>OL λ_ _ _ _ _=>rfl⟩,⟨Jm,Jm.binds λ_ _ _ _ _ _=>eW λ_=>rfl⟩,⟨Jn,Jn.binds λ_ _ _ _ _ _=>eW λ_=>rfl⟩,⟨Jo,Jo.binds λ_ _ _ _ _ _=>eW λ_=>rfl⟩,⟨Jp,Jp.binds λ_ _ _ _ _ _=>eW λ_=>rfl⟩,⟨Jq,Jq.binds λ_ _ _ _ _ _=>eW λ_=>rfl⟩,⟨Jr,Jr.binds λ_ _ _ _ _ _=>eW λ_=>rfl⟩,⟨Tq,mg_of X G a57,Tq.binds λ_ _ _ _ _ _=>fK λ_ _ _=>rfl⟩,⟨Tt,mg_of X G SR,b58⟩,rfl,aA1,rfl,aD7,⟨aL7,aL8,aL9,aM0⟩,⟨HD,a13,do5,aM1⟩,BC,uN,uO,uP,uQ,HE,HF,⟨a37,dr9,Jj.kp⟩,⟨a25,dq2,Je.kp⟩,⟨HG,SQ,Cc.kp⟩,⟨a20,dp3,Ja.kp⟩,⟨a35,dr5,Jh.kp⟩,⟨yd,SO,F4.kp⟩,⟨a22,dp7,Jc.kp⟩,⟨a54,dt8,Jp.kp⟩,⟨aH9,aI0,aI1,aI2⟩,⟨BD,a7,mf7,aI3⟩,ye,uR,yf,nh,HH,HI,⟨a38,ds1,Jk.kp⟩,⟨a26,dq4,Jf.kp⟩,⟨HJ,SQ,Cc.kp⟩,⟨a21,dp5,Jb.kp⟩,⟨a36,dr7,Ji.kp⟩,⟨yg,SO,F4.kp⟩,⟨a23,dp9,Jd.kp⟩,⟨a55,du0,Jq.kp⟩,⟨dv4,dv5,dv6,dv7⟩,⟨yh,a48,dt0,dv8⟩,uS,qS,uT,uU,uV,uW,uX,HK,⟨yi,dt4,Jn.kp⟩,⟨a53,dt6,Jo.kp⟩,⟨a29,dq8,Jg.kp⟩,⟨yj,dt3,Jm.kp⟩,⟨a56,du2,Jr.kp⟩,⟨dv9,dw0,dw1,Jl.kp⟩,⟨aI4,aI5,aI6,F5.kp⟩,mg_none_of X G dw5,mg_none_of X G dw6,mg_none_of X G dw7,mg_none_of X G dw8,mg_none_of X G dw9,mg_none_of X G dx0,mg_none_of X G dx1,mg_none_of X G dx2,mg_none_of X G dx3,mg_none_of X G dx4,mg_of X G HN,mg_of X G HP,mg_of X G HQ,mg_of X G BF,mg_of X G HR,mg_of X G BG,mg_of X G HS,mg_of X G BH,mg_of X G yo,MM (mg_of X G HP) aM4,⟨aM3,aK5,aK6,aK7,aK8,aK9,aL0,aL1⟩,tV as2 Js IZ as1,tV aw4 Ju I0 aw2,MQ Jt SS SU aA0,MP rfl (by decide +kernel) aM2,MM (mg_of X G BG) dB4,⟨Jt,dy6,dy7,dy8,dy9,dz0,dz1,dz2⟩,tV aw5 Js IZ aw3,tV aB2 Ju I0 aB1,MQ Jt SS SU dz5,MP rfl (by decide +kernel) dz6,tV rfl Js IZ aL2,tV rfl Ju I0 aN5⟩
 exact⟨fnOf "law" "law" (gw m9) (eD m9) (aK m9) .none SJ SK SM SI Ip SN,λs v=>.of_eq rfl,λbase _ _ hB=>(cz1 T hB).imp λvs H Q E h=>let z:=ZO nl h;⟨λP hP=>z.1 P (sub P hP),z.2⟩⟩
theorem aA2{K:Frag}{h:Heap}{c f k P:Addr}{od an:Option Addr}{sl:Array (Option Value)}{oc kV dc pm ct kt:Value}{ko:Option Addr}{ks:Array (Option Value)}{kf:Array Value}(X:K.In h)(a:nsIn K mainGlobals "PrimeField"=some (some (.ref c)))(b:findIn K (.ref c) "__init__"=some (some (.ref f)))
  (l:K.lookup f=some ⟨oc,od,.func (fnOf "__init__" "PrimeField.__init__" (gw m5) (eD m5) (aK m5) .none kV dc pm an (.ref k) ct),sl⟩) (lk:K.lookup k=some ⟨kt,ko,.fields kf,ks⟩) (lp:kf[11]?=some (.ref P)) (n:K.lookup P=none) (e:codeHdIn K k P=true):K.lookup P=none/\∃c,CodeHd h c P:=⟨n,k,PySem.W.codeHd_of_K X e⟩
theorem aD8{K:Frag}{h:Heap}{c f k P:Addr}{od an:Option Addr}{sl:Array (Option Value)}{oc kV dc pm ct kt:Value}{ko:Option Addr}{ks:Array (Option Value)}{kf:Array Value}(X:K.In h)(a:nsIn K mainGlobals "BitField"=some (some (.ref c)))(b:findIn K (.ref c) "__init__"=some (some (.ref f)))
  (l:K.lookup f=some ⟨oc,od,.func (fnOf "__init__" "BitField.__init__" (gw m6) (eD m6) (aK m6) .none kV dc pm an (.ref k) ct),sl⟩) (lk:K.lookup k=some ⟨kt,ko,.fields kf,ks⟩) (lp:kf[11]?=some (.ref P)) (n:K.lookup P=none) (e:codeHdIn K k P=true):K.lookup P=none/\∃c,CodeHd h c P:=⟨n,k,PySem.W.codeHd_of_K X e⟩
theorem walk{l:PySem.W.OpenLaw}{q:Program}{loose:List Str}{XP:(Str->Option Value)->Heap->Prop}{YP:World->Heap->Prop}{d:DefRec}{K:Params->Frag}{ts:List Addr}(hn:l.most=some 63)(vU:d.params.defaults=[])
  (hY:∀(w:World) (h:Heap),YP w h->(K w.params).In h/\∀P∈ts,h.get? P=some (PySem.W.tabObj #[]))
  (hC:∀(w:World) (h:Heap),(K w.params).In h->∀P∈ts,(K w.params).lookup P=none/\∃c,CodeHd h c P)
  (F:∀(w:World) (mg:Str->Option Value) (fa:Addr) (h:Heap),(K w.params).In h->h.Ns mainGlobals mg->mg d.name=some (.ref fa) ->
   ∃fd:FuncData,(∀(s:Shared) (u:Value),BindsTo s fd ⟨[u],[]⟩ [("_law_script",u)])/\∀base:Heap,(K w.params).In base->base.Ns mainGlobals mg->Bm mg base->aL l.prog w (K w.params) mg base aS 11 fa fd ["_law_script"] (Al ts (K w.params))) :
  PySem.W.WalkO q loose XP YP l.row.toRowW d [] (λf vs=>PySem.call f vs) :=
 L2.ZN (n:=63) (k:=11) (x:="_law_script") (CX:=λ_=>aS) (sp:=λw=>Al ts (K w.params)) hn (by decide) vU ⟨rfl,by decide,by decide⟩ hY hC F (λ_ _ a ns hl hO hS=>⟨a,ns,rfl,hO,hS,hl,λ_=>rfl⟩) λ_ _ _ _ _ z=>z
end HK33
set_option genInjectivity false in
set_option genSizeOf false in
structure PySem.W.Fast:Prop where
 (tw9934114336137387040 tw16459399393860134944 tw14901772381682208864 tw14108157062503052384 tw9620622723009368160 tw16518679418106675328 tw9427124854698884256 tw12138657094176328896 tw11613102505821312224 tw9608541253304145184 tw1787996783404802336 tw6474794003077335360 tw3249577431023343968 tw11096494773505284480 tw16894105415528742336 tw81437962164877824 tw7000119749864121856 tw5643704734093184544 tw13786849678447318560 tw16650737165635914304 tw1019933324947886720 tw12470138937492539040 tw15045810669862888128 tw15717169951210926784 tw7007939813363634912 tw1188645437678030752 tw15873042020818567072 tw2966093089852593120 tw6492887654200580064 tw4823546315939921888 tw11481175289546739713 tw2994492395095972865 tw13524044524401511457 tw67760550930406465 tw13029029012887522497 tw16856251419026514305 tw1932093898214440353 tw3244513562647636417 tw4713915757448213953 tw16352770526828663265:True)
 (tw8289775151000278497 tw9467177514177375745 tw12685347484182631937 tw541843196580062817 tw3940705040776654433 tw13378681413585493633 tw3449221815468415649 tw13431312733013751521 tw17676481327585345281 tw14130949028292241185 tw4010329399288231713 tw13247203047593058113 tw7876107420480510817 tw8432893032149263201 tw16754717630460088161 tw411665634472747905 tw11633403011721003937 tw17616672862853565345 tw16521402447181880225 tw15743514981034081217 tw5631393947707871266 tw16596987572078178338 tw9396163076216419394 tw12606128053099145378 tw962627333207185570 tw4716609903470219522 tw4046175563163505922 tw378985493106927906 tw1777501935871109410 tw13544064452391626018 tw3790925316120655170 tw14794166522856179042 tw7458147517571730786 tw9597773864135464322 tw1073909335749313922 tw13515913961620594082 tw10670149639767104962 tw10007117223441927650 tw15806476943530538466 tw4642101175501894178:True)
 (tw13190804478520820354 tw7690004347650868898 tw13710524674232559330 tw4408733723463132898 tw2400759410948906754 tw11186779210211575554 tw3855064200257101570 tw258018616357189442 tw11685206936660363170 tw9901618295806807970 tw4052722723745969090 tw5002469472925953027 tw1273761172561311779 tw17979372467797152835 tw3945918720898493507 tw13928956527893216355 tw17342423896358652067 tw9409619964189002915 tw13887853671685746851 tw11977433648448062691 tw15552976452448901347 tw12441899999482202435 tw4695388934628823363 tw12517653031516724579 tw3349765401996414371 tw7437712715144162755 tw14937681960574232067 tw6184029987637778979 tw2997630532366646851 tw3589424095803363939 tw10525211865509630595 tw7805454183890870979 tw9771150474065414883 tw102333144492305123 tw2711312821952738019 tw16785542202795636483 tw7922767586220834595 tw1107467105782178627 tw4905177794842175299 tw3105623873473515363:True)
 (tw16978026002924766115 tw18293940626580384675 tw5925614782752539555 tw11215403937750737827 tw6766345735495380899 tw17638589553772807139 tw6053821016251102179 tw14298511165647259684 tw609732276161549348 tw8685609604232844356 tw5644825855822980164 tw4002849742508188772 tw8543424621190963332 tw1708996903321695364 tw7210817395392461988 tw11711566544322135268 tw8612387874580339940 tw9062760931153035492 tw15982462222315233572 tw10019005050992379172 tw5195891146234255652 tw15869373060721111364 tw5485910714167264612 tw6183966460430808548 tw3829265523526538756 tw4972725124465639972 tw11883021844240173636 tw10745130667063030372 tw335370056177341028 tw6208421434012068516 tw3914019544413282020 tw16635439625329082084 tw17151346363219365636 tw8446147841508493124 tw8933485261675075460 tw8887812378032289668 tw1543033240245189508 tw3386371894837167012 tw6732110275181322212 tw3900310337498459141:True)
 (tw14254956806804885605 tw5493693665664493669 tw3106371816527716549 tw18358074866388731109 tw11569528900064579813 tw2482286026185923813 tw16099846736035340517 tw14291800531042048261 tw2761952597366959365 tw16638853125160347941 tw2901571490973799749 tw2077160325530134885 tw1017220074448977253 tw11429533090178959749 tw3780360216193873285 tw12368182822830031237 tw110310282330073509 tw10334783467456006597 tw9753108234623136197 tw1022285586739201541 tw15803885301072605733 tw9362122325676443205 tw14997768083849669189 tw8895926087207448165 tw12005013274986314341 tw12348038443674206885 tw9478760245809458853 tw11353925011926111909 tw4543053824925036197 tw16860055931162207109 tw17220570378849518501 tw13469239182623492005 tw8352581578429308869 tw1462204067880951781 tw1205650047107380262 tw650896737691080742 tw11469295959635911750 tw11992139547487186022 tw13664717451158788390 tw6759946367410451750:True)
 (tw9958943299588253990 tw14609512753839481254 tw1846193740374701478 tw2405342713421029830 tw351597336847775174 tw5158801478344064486 tw1206544853017460230 tw7007218045426928230 tw13172189396813605542 tw16678786700519944934 tw16692696426923132742 tw15754848993904405446 tw128278062666764230 tw8948099858463538150 tw7338754792141934599 tw9317103598931432615 tw7623508549946890407 tw11513955353133339879 tw6909687231295388903 tw12160320364172128551 tw13630137221951446375 tw12575342716434094471 tw8641981381176455623 tw11049294417665733255 tw17619011174443476615 tw15998388412800514727 tw18144760250047991559 tw13887797687357596455 tw15145381656893261607 tw12172770790904212295 tw17455919241893950343 tw2354883876547285895 tw8027239192925420455 tw15085580948868328359 tw14417010245720211399 tw10846640385144227944 tw8806553518466263272 tw17196683613307899144 tw8980386291599226120 tw10108170670919721256:True)
 (tw16611370575533298984 tw4576810130811544872 tw1369069799718326632 tw14237470355731558792 tw6057828422348033448 tw1698590344676380104 tw38943859623649768 tw15399992915613171208 tw5967908443374282280 tw13646814494575389224 tw7741577603260974696 tw13499595172283585160 tw894689904146692744 tw11409482166538854024 tw5203470264427454120 tw13052456458092236488 tw2452128382847909640 tw15317722281455548232 tw1307569306558131144 tw16881587041972976584 tw10145255715750199305 tw12864320851586933801 tw1534017210534937673 tw11170190414537085001 tw9448556996530041993 tw9712985879472187561 tw8066416983793482921 tw14696796468704922793 tw888265983679204553 tw5817080366894222537 tw7024668257948394697 tw4638164870368782569 tw16419644019882558729 tw18402881221361366377 tw8837690392631102889 tw4324853062712068585 tw2826295017348451817 tw3656240400469069353 tw11960031734748517929 tw2029826323539574345:True)
 (tw17812971544361639593 tw15335879990262214313 tw16054123310592582313 tw7647844376330179273 tw3493366766576583369 tw10693352918767215337 tw10879921341755318089 tw5050251331643673449 tw7500922008767901545 tw15005441886050920329 tw1810441821996486601 tw11249049824417251305 tw11293932825020665898 tw9011455483092785194 tw10590959742377003082 tw3881999713152364618 tw7710438398426937418 tw17796027619984147594 tw9294013050196889738 tw9627130724449518794 tw2957792356829125866 tw11422307635443768618 tw12599299695190853930 tw6683915172207037770 tw11925753793943629130 tw8771454566235678090 tw646310173444005258 tw6219970854070791594 tw1852204635417901482 tw10766721564994044362 tw17286824491872140810 tw10713463030718068234 tw13602930522245699114 tw9639780574155219498 tw5921215037206176298 tw17404625195941951050 tw5537319227075058282 tw3110001790569967210 tw14898423505741609578 tw5969421154797065866:True)
 (tw9577586527559194250 tw12259461646641851018 tw517362101328086698 tw15888997988943793834 tw7353338743053488810 tw1188767514360267434 tw16901723348037099210 tw6263450452340857578 tw1851742411135291146 tw7798314986938258218 tw5248700721207552842 tw10506214546022520714 tw5018310044015338410 tw543753544008657834 tw12141558853658079146 tw4076552537985736682 tw8767279961671397354 tw15267704491394135083 tw4290858096113899627 tw9657895874245136523 tw16048554402735644843 tw460503785324800171 tw14141884963591390411 tw12047952414660934859 tw192643999374700779 tw3772491199803310347 tw4289164849010275595 tw17605858581557785899 tw11811241618216778059 tw13281403432662193547 tw11914724074850985483 tw5894424389680708107 tw6101406173048052267 tw11557192897409098283 tw1577689997263514155 tw2289459042458295883 tw12154102998126377643 tw15367859592794002091 tw3424014696818302635 tw13782747298558082731:True)
 (tw63171614588988139 tw2125881989052238603 tw194935815558937355 tw5171810779627838219 tw5068829653782960939 tw11829908192016101163 tw10786864799227862859 tw11240252199866110827 tw1328459301900492651 tw3381959961390457771 tw9968410809940115371 tw16924507215383522348 tw11749940389049667820 tw9591464031607449868 tw12306045527823497548 tw18212130119393108300 tw978925459169252748 tw3858116237868327308 tw4137359089483286988 tw11643839093250439628 tw5654961308418382316 tw6385361010450943468 tw11229863804851444236 tw1723299238046437004 tw14617848523602756268 tw16455682585512217356 tw3556078941168047884 tw374789804133434188 tw596041498815286092 tw596070922210865996 tw8015946129693832044 tw4268578051991108460 tw17145871776998927244 tw7070384585708783532 tw9053862863290951596 tw5718310404036794316 tw1797378838787015628 tw270805883268884460 tw15435908952906507277 tw11514893567637446701:True)
 (tw2047310053951157325 tw2542168732487872589 tw9221810398468964461 tw15846840673081474157 tw13164303136672078957 tw10343940722183942285 tw11762883877597833357 tw2871735467938621613 tw9558795874092874925 tw18070183788326719821 tw11678112780853351757 tw17236985452474164557 tw9387943183268772173 tw8363697674300997997 tw5056328534183294381 tw5055340120928904621 tw15722301050373248461 tw13833613848201472461 tw3299975748429389293 tw7784042084799256173 tw13680060105999193741 tw15410680977895341741 tw13418584216512128685 tw15438764911756658381 tw16444609539514415853 tw11337301694516671245 tw15739003066568930125 tw18311314893084743533 tw9273668994134966125 tw17778627535684874125 tw18300495826860440461 tw1486625082468164557 tw2972301447120556110 tw9915916049089999950 tw2173150521728350446 tw8716095368844749134 tw16902188620858288494 tw11274788544305796526 tw18352559704217171406 tw10257997726752526798:True)
 (tw1974014620822672878 tw15446961890587053582 tw2268252060641323534 tw474914165153054286 tw15553933121207264846 tw12965397172662245134 tw12493019513040120590 tw9891518120130883534 tw16747983230241155054 tw5048597972326389775 tw16316342846639393807 tw8667271575343292431 tw12237854249456794639 tw1631423811152798863 tw13414066823057510671 tw3018084575169592591 tw15972988227937760559 tw10679784916732877135 tw5477853921638779279 tw4035027229391371695 tw5623497614957367727 tw6074566369689152975 tw9139073950949166543 tw17348626298714357295 tw5528189546098467439 tw7926758051863241327 tw14780841718479285871 tw4306568530365759151 tw11162035913339088591 tw12258381322542271183 tw1050161234289365743 tw5365894108409509647 tw14244320880318262095 tw152258419952878511 tw4759841355362159535 tw10763468021599883183 tw5277120416246191023 tw4087042099486939055 tw4505085250363496399 tw9526115571984155631:True)
 (tw10002722396864573488 tw15045415924615421072 tw11502572338449903856 tw4889198520678386960 tw10747027644012402992 tw13756256733812270416 tw4493398545238700400 tw17840596190569126320 tw17839433743060205008 tw2126924197127462384 tw2474199893390808624 tw17557423433086119472 tw3834805953776488080 tw12131984979881805520 tw5943681183429479152 tw3791917707261488912 tw10416928605288894416 tw7747631216897964049 tw15144578654129151185 tw1962771367290717457 tw3617184471560447249 tw5771964022959536465 tw16370439593580530065 tw5233935350830226865 tw1280228442114801105 tw9512990063858541041 tw11794806470736199185 tw1661482585222216209 tw16430285686032734769 tw3502664460577792561 tw2234575991571867185 tw9714382307929085521 tw7344375108422580977 tw9460036755340043025 tw12699607619791989521 tw13030871775905368849 tw6166894545726857009 tw17744561182208778129 tw17500472977465645074 tw3170381079649362994:True)
 (tw4063757045747398706 tw13927632888156168306 tw9307641551804918962 tw13061066127503253714 tw8623737282991152338 tw5805356900129147154 tw10091688651378546962 tw12338229588466843954 tw12145040123339625778 tw690080659533922674 tw14759060037876325778 tw5417014272237521298 tw713748618614587826 tw5114717913656664530 tw11410641682630884818 tw188842438040301074 tw947271515495390770 tw13367020784080189010 tw17760152223715167858 tw11039477071469257330 tw3807700502740979346 tw5640322337283682994 tw9073778572255318738 tw16431769844475227858 tw18142129988471429874 tw13827067965930001170 tw4027575573146435506 tw4720365827303666642 tw9900711043641221106 tw15100363016197008370 tw7822993532874856467 tw2087152047999010835 tw10364616083569945683 tw13362431306145332307 tw11127558346400438419 tw13316236722472192179 tw5816194177403114675 tw18137050653888683219 tw16155170056317230323 tw7002192583764274419:True)
 (tw10122117968438467859 tw7573814216216429843 tw376585503607984435 tw5744367508700041555 tw12654602515459859827 tw6648101496045695347 tw5260326442668822963 tw6426834474263845363 tw11100495673832751603 tw7373807681657225715 tw12440629274311942643 tw3781224095870707187 tw1654438897403194867 tw10933307976761627155 tw14819951381384605203 tw18332005999424949811 tw12721138833076990611 tw12049035584188790419 tw5590872134124284595 tw3399797552302462707 tw11587850731210426131 tw9527055486350270291 tw8262522803383975763 tw16101270996478497747 tw5686609718629908467 tw1839294885595657236 tw4164405637532987476 tw7672454470130881620 tw3457593096895256660 tw7481198251285805140 tw16843461037201595508 tw12458282831705480308 tw14733154261433439348 tw1221064775057661044 tw2699777275583365268 tw1612034698791715988 tw16047263599729673364 tw14406988026303191188 tw16644676418902790324 tw1944299946972832948:True)
 (tw9542281623341157684 tw15032472690438052180 tw16460561021402847572 tw1714886296042312052 tw1031722365984084372 tw6073231398850081172 tw9755949932904810932 tw7479742848218984980 tw17070407130331548244 tw2178615674574198356 tw18036159288550188628 tw11796202449924557524 tw7364882993336065748 tw6517879071443744468 tw3505275559153662676 tw8691699895672912628 tw8765109655492877108 tw294167787252717428 tw1973940068706825076 tw6666650125265273780 tw2667753838298272692 tw6817044702312831956 tw18337159861780708340 tw5338048158756274261 tw10000295954231598197 tw5094021537298825333 tw11292370772073991285 tw6006214641292494037 tw1287965110536583477 tw46745073394668853 tw9677346803291152693 tw1661719497650637333 tw442698104999447093 tw957255051401455157 tw10623369178066358869 tw2192447480136770133 tw2800713767196720757 tw17926020800361047829 tw8563325992400846613 tw5236117567632917301:True)
 (tw5845966192970190645 tw3707178418833265493 tw7346902252142398325 tw16769336679404879733 tw9341771515113751574 tw17960803316515555382 tw15156466850925662262 tw13954850103326620758 tw13987554633223389270 tw1491007515845296278 tw113665965825868950 tw3069843753098631382 tw16671659703982898422 tw6719810142836346102 tw8548674049385656566 tw14192100900100789526 tw6390804089538578710 tw6333032729762279734 tw9760159800928159062 tw5435761828709212534 tw4075470028069089718 tw1120319276402134486 tw4984092277491218934 tw2347076386570471958 tw15359038636049764982 tw17750486955661079158 tw14076488426193971830 tw13637124310279941750 tw2931222233055064694 tw4838696877733977750 tw4931172114559826582 tw4262952792671655734 tw4464737194573011830 tw3078219192140189590 tw17469752460990990262 tw2274956504240969654 tw17001579902348423094 tw7236522620512519351 tw14857039806792618167 tw16669990160158073079:True)
 (tw9022418527294995703 tw4831864398433574167 tw3350612368952765751 tw16802667143939660215 tw16746660896474181079 tw9769399448072751607 tw1402748927513061911 tw8195333247576973911 tw461656077690299991 tw2543005781410880183 tw10278550483390217911 tw13436886391829701367 tw7968953222801494807 tw13569348035585460055 tw16847222045077871479 tw4025486942252809111 tw1622943929655526327 tw2857895829418807223 tw1686772574907425783 tw1771695299194191896 tw18389105419376522296 tw15555107617425662040 tw4974040461358194808 tw10785581502447479928 tw16527684806969921688 tw13746362049757539480 tw11322104467635076280 tw10517300073713849560 tw16813063922646598904 tw15473601488602074456 tw10551915096173595992 tw10833755058382477784 tw7521210204588516824 tw14397256862462169560 tw7739565330377330168 tw5898412990334846488 tw8260332404175231544 tw7581088691612546616 tw12405125411279360600 tw9199795557855252088:True)
 (tw995519994707793592 tw4280457914894104312 tw10820815303022059288 tw12646779957445373752 tw590317294363103032 tw2652629912945222488 tw1718807416317833048 tw6843198072568547192 tw14807585661946170264 tw10985562829509549976 tw17987362552373763000 tw3630615865486836696 tw14168818595977868248 tw307751016954036216 tw8876318182401258521 tw3560677244456212537 tw17767683496859834489 tw5207192575487421657 tw2421408579945072889 tw12116791295482435865 tw9996824570240117017 tw8161712419483147545 tw6648783320569098553 tw16736336234087347513 tw13671097549280774585 tw14028148375242543577 tw15472466746787541497 tw7820355506787433977 tw2375140742365219353 tw6523483002205924889 tw10513841404373084761 tw15372964652125335161 tw3441866094529292953 tw17107052392916152985 tw10743678149680341753 tw4808705270151282489 tw4339657630345963481 tw2638759749948554201 tw8772823133602803673 tw16794041802317033433:True)
 (tw15137000811822872569 tw17183010562289904633 tw6612609706081213626 tw13942322306264853690 tw18273032601334116602 tw8533450229115066682 tw8708405326716136762 tw15964497389103487354 tw3648362105725084058 tw3090428642671059354 tw16946896344606467482 tw10382939341675325882 tw15577289676175440314 tw1773165491554040282 tw1609769277106195962 tw1930908464932562490 tw2600056088027343450 tw3935862914701873754 tw11391525480794541690 tw11239336167459234458 tw13455750668508197530 tw3057597273610223290 tw7995648827046322938 tw4152596475663323930 tw15806430885129196314 tw4422882449756239642 tw14491407127738291034 tw5118662092221702010 tw4284710312814679962 tw3067976647563834266 tw13522930481868577722 tw2491529806225983482 tw7596781171304763451 tw705544468574193755 tw2391236468183802043 tw10910860145681875131 tw13864507744469729499 tw7045252423142972667 tw647339550030540059 tw14853560461336846683:True)
 (tw13610357573324680571 tw1157604300141016475 tw12648858574810699227 tw3239880345301764603 tw10855165353753535035 tw15037715577492024955 tw15136702014349184699 tw16523550310432516795 tw5168125825969541883 tw16267307609756560123 tw737642785410081595 tw3572578741648988123 tw1827912670885272539 tw16264269842261326843 tw14767455506235314171 tw10726500856476996668 tw15172847517339310140 tw7066763131197275260 tw16838480111998264444 tw8108570348725691516 tw10553059555160235420 tw1129101772588792252 tw13185547906073647580 tw13372810867608898044 tw15261693792145519132 tw8697006272065479292 tw16397371337887484572 tw16343132303548676764 tw7769917876882418364 tw10170751636017287900 tw12421784434300015420 tw7808680320451302236 tw5639338037415809916 tw10292763129426185116 tw14787364716782831516 tw17351895435193872284 tw1797369542026633148 tw2908604144439721916 tw15635979261824994268 tw4014201838831215580:True)
 (tw11058802844051193820 tw5407997772286903260 tw1987024657543137276 tw8521388731571061756 tw3438842465930953757 tw8021953028293020701 tw2472491733139214365 tw5461833006759635165 tw12734828786046508317 tw8240057777107672349 tw3441321409043145085 tw12793106446943022461 tw11840511203220339101 tw12368916175262566845 tw12410591377891483069 tw8617103140962879965 tw5026368984724843005 tw6894488190104898077 tw11141829108834788989 tw11184082951498477213 tw16869096331366890141 tw11655428765787029149 tw1179109837697527485 tw10450636350973813501 tw4526971305674353405 tw15224340549001022301 tw9232575032856354717 tw4871103170847975357 tw6764377164397768637 tw13451247526845413309 tw13718459374888201181 tw1238259741971503069 tw16871695949698827261 tw17657730202169217021 tw9770329525790487549 tw9544736367568572413 tw11335960460719788094 tw12593200302596724862 tw5961596688409830526 tw18408512852345750686:True)
 (tw3139252702042871966 tw11841956216845954270 tw11084169832844396862 tw11657546695687312702 tw15788985488709823806 tw14540549933120568638 tw8245491002175487294 tw10500249527137910110 tw6134484604501601758 tw16423589673747292670 tw187372621975149086 tw11161936617139541598 tw8201237967848122974 tw6864055546195847774 tw15605325087912574590 tw5590860338198035102 tw9649478756366619326 tw9572139381604914878 tw14198437456481302206 tw5107090850896722622 tw625886765271738046 tw8420170847760263902 tw3390777686684067550 tw8216714363680291550 tw4337822468122348350 tw17194595904464227166 tw9098707960308889470 tw14211989887409915806 tw1430272826488445886 tw12572412383977021471 tw230589036375232543 tw7325631942470687807 tw16639898941288509503 tw2916908815800856639 tw12583348192868194399 tw10030854654998498431 tw7848619617761104031 tw11012338561491449023 tw7579172502037669087 tw4892782425503172863:True)
 (tw6823494824923310335 tw10303831703079436639 tw8988793077489932671 tw11583746032915494271 tw16384135952252557791 tw10744236542163516895 tw15710798544133655071 tw2986324234177889823 tw12088718868095008287 tw12318798080644615743 tw11379518946693148223 tw15271051211209416287 tw6837721605365640799 tw5558022115895511679 tw1987966863031319199 tw7668984119927132831 tw8377254647395152575 tw11554561539463040735 tw14278907714247415711 tw2277063980764321727 tw13692661360883100607 tw6904140328055042015 tw539471026538178559 tw4211547845363791871 tw3561302102634363903 tw363436715045664679:True)
open PySem PySem.W PyProof.Rows
set_option maxRecDepth 100000 in
set_option maxHeartbeats 0 in
theorem PySem.Challenge.cw_mendfield_k33_code_by_roots_holds : PySem.Challenge.rw_mendfield_k33_code_by_roots.Holds := by
 w_on;o_law;k_head;(case hw=>w_witness2)
 k_fill
 refine HK33.walk (l:=PySem.Challenge.rw_mendfield_k33_code_by_roots) rfl rfl (λw h Y=>⟨PySem.W.km_in_of Y,PySem.W.km_tabs_of Y⟩) ?C ?F
 case C =>
  intro w h hX
  repeat' (first | exact List.forall_mem_nil _ | refine List.forall_mem_cons.mpr ⟨?_,?_⟩)
  all_goals first | (refine' HK33.aA2 hX ?a ?b ?l ?lk ?lp ?n ?e;(case a=>k_is);(case b=>k_is);(case l=>k_is);(case lk=>k_is);(case lp=>first | rfl | with_unfolding_all rfl);(case n=>kernel_rfl);(case e=>kernel_rfl)) | (refine' HK33.aD8 hX ?a ?b ?l ?lk ?lp ?n ?e;(case a=>k_is);(case b=>k_is);(case l=>k_is);(case lk=>k_is);(case lp=>first | rfl | with_unfolding_all rfl);(case n=>kernel_rfl);(case e=>kernel_rfl))
 case F =>
  intro w mg fa h KX G vV
  apply HK33.all_mk KX G vV
  iterate 182 (k_is)
  iterate 55 (apply L2.zN<;>k_is)
  iterate 4 (k_is)
  (first | rfl | with_unfolding_all rfl)
  (kernel_rfl)
  iterate 4 (k_is)
  (first | rfl | with_unfolding_all rfl)
  (kernel_rfl)
  iterate 7 (k_is)
  iterate 4 (first | k_is | rfl | decide)
  (k_exc)
  iterate 2 (first | k_is | rfl | decide)
  (k_exc)
  iterate 3 (first | k_is | rfl | decide)
  (decide)
